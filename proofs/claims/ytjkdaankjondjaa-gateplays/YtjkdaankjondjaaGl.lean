/- Wait and Signal against the document's answer. -/
import Derived.Test.YtjkdaankjondjaaGk
import Derived.Test.YtjkdaankjondjaaGr
namespace Go.Proofs.Ytjkdaankjondjaa
set_option linter.unusedSimpArgs false
set_option linter.unusedVariables false
set_option linter.unnecessarySimpa false
open Go.RowKit
def isb (n : Int) (size : Nat) : Bool := decide (0 ≤ n ∧ n < (size : Int))
theorem isb_no {n : Int} {size : Nat} (h : n < 0 ∨ (size : Int) ≤ n) : isb n size = false := decide_eq_false (by omega)
theorem isb_yes {n size : Nat} (h : n < size) : isb (n : Int) size = true := decide_eq_true (by omega)
theorem is_any (n : Int) (size : Nat) (w : World) : Calls Try.prog 24 #[.int .i64 n, .int .i64 (size : Int)] w fun e w' => e = .returned (.bool (isb n size)) ∧ w' = w := by
  by_cases h : n < 0 ∨ (size : Int) ≤ n
  · rw [isb_no h]
    exact is_no n size h w
  · obtain ⟨m, rfl⟩ : ∃ m : Nat, n = m := ⟨n.toNat, by omega⟩
    rw [isb_yes (show m < size by omega)]
    exact is_yes m size (by omega) w
section
variable {G0 : Nat → Dk.St → List Dk.Thing → Prop} {W w : World} {bg bm k : Nat} {S : Dk.St} {V : Dk.Vs} {us ts : List Dk.Thing}
set_option maxRecDepth 100000 in
set_option maxHeartbeats 8000000 in
theorem play_wait_arg (I : GateI G0) (hG : G0 bg S ts) (h : Dk.Sep W w (Dk.mdl bm V S ++ (us ++ ts))) (ok : Dk.Ok S k) (hk : k ≤ 300) (what who num mm choice : Int) (hwhat : what = 2) (hno : num < 0 ∨ (S.conds.length : Int) ≤ num) :
    Calls Try.prog 10 #[.pointer (some ⟨bg, 0, none⟩), .pointer (some ⟨bm, 0, none⟩), .agg #[.int .i64 what, .int .i64 who, .int .i64 num, .int .i64 mm, .int .i64 choice]] w fun e w' => e = .returned (.bool true) ∧ Both G0 W w' bg bm (k + 1) us := by
  obtain ⟨W1, e1⟩ : ∃ W1, W1 = w.alloc (.cells #[.int .i64 what, .int .i64 who, .int .i64 num, .int .i64 mm, .int .i64 choice] 30) := ⟨_, rfl⟩
  have h1 : Dk.Sep W W1 (Dk.mdl bm V S ++ (Dk.boxOf w.heap.size #[.int .i64 what, .int .i64 who, .int .i64 num, .int .i64 mm, .int .i64 choice] 30 :: us ++ ts)) := (h.newBox e1).perm List.perm_middle.symm
  have H1 : Hid (w.alloc (.cells #[.int .i64 what, .int .i64 who, .int .i64 num, .int .i64 mm, .int .i64 choice] 30) = W1) := e1.symm
  obtain ⟨b5, eb5⟩ : ∃ b5, w.heap.size = b5 := ⟨_, rfl⟩
  rw [eb5] at h1
  have HB5 : Hid (w.heap.size = b5) := eb5
  clear e1 eb5
  have b1x : Dk.Box W1 b5 #[.int .i64 what, .int .i64 who, .int .i64 num, .int .i64 mm, .int .i64 choice] 30 := h1.box (by simp)
  have c0 : W1.cell? ⟨b5, 0, none⟩ = some (.int .i64 what) := b1x.cell 0
  have c1 : W1.cell? ⟨b5, 1, none⟩ = some (.int .i64 who) := b1x.cell 1
  have c2 : W1.cell? ⟨b5, 2, none⟩ = some (.int .i64 num) := b1x.cell 2
  have c3 : W1.cell? ⟨b5, 3, none⟩ = some (.int .i64 mm) := b1x.cell 3
  have c4 : W1.cell? ⟨b5, 4, none⟩ = some (.int .i64 choice) := b1x.cell 4
  clear b1x
  have hw0b : decide (what = 0) = false := decide_eq_false (by omega)
  have hw0c : (what == 0) = false := by simpa using (show ¬ what = 0 by omega)
  have hw1b : decide (what = 1) = false := decide_eq_false (by omega)
  have hw1c : (what == 1) = false := by simpa using (show ¬ what = 1 by omega)
  have hw2b : decide (what = 2) = true := decide_eq_true (by omega)
  have hw2c : (what == 2) = true := by simpa using (show what = 2 by omega)
  have hw3b : decide (what = 3) = false := decide_eq_false (by omega)
  have hw3c : (what == 3) = false := by simpa using (show ¬ what = 3 by omega)
  have hw4b : decide (what = 4) = false := decide_eq_false (by omega)
  have hw4c : (what == 4) = false := by simpa using (show ¬ what = 4 by omega)
  clear hwhat
  have K2 := I.wait_arg hG (toG h1) ok hk who num mm choice (.inl hno)
  go_enter Try.func10, Try.ntmps10
  go_wp2_with (rw [H1.out, HB5.out]; clear H1)
  refine K2.mono ?_
  rintro e w3 ⟨rfl, ts', hG', h3'⟩
  have h3 := ofG h3'
  clear K2 h3' c0 c1 c2 c3 c4 h1
  have bb : ∀ y : Dk.Up w3, Dk.Box y.wd b5 #[.int .i64 what, .int .i64 who, .int .i64 num, .int .i64 mm, .int .i64 choice] 30 := fun y => (h3.below y.property).box (by simp)
  have b0 : ∀ y : Dk.Up w3, y.wd.cell? ⟨b5, 0, none⟩ = some (.int .i64 what) := fun y => (bb y).cell 0
  have b1 : ∀ y : Dk.Up w3, y.wd.cell? ⟨b5, 1, none⟩ = some (.int .i64 who) := fun y => (bb y).cell 1
  have b2 : ∀ y : Dk.Up w3, y.wd.cell? ⟨b5, 2, none⟩ = some (.int .i64 num) := fun y => (bb y).cell 2
  have b3 : ∀ y : Dk.Up w3, y.wd.cell? ⟨b5, 3, none⟩ = some (.int .i64 mm) := fun y => (bb y).cell 3
  have b4 : ∀ y : Dk.Up w3, y.wd.cell? ⟨b5, 4, none⟩ = some (.int .i64 choice) := fun y => (bb y).cell 4
  have bn : Nonempty (Dk.Up w3) := ⟨⟨w3, Below.refl _ _⟩⟩
  have up : ∀ b o v, w3.cell? ⟨b, o, none⟩ = some v → ∀ y : Dk.Up w3, y.wd.cell? ⟨b, o, none⟩ = some v := fun b o v hv y => (y.property.cell (p := ⟨b, o, none⟩) (lt_of_cell' hv)).trans hv
  have KI : ∀ (n : Int) (size : Nat) (y : Dk.Up w3), Calls Try.prog 24 #[.int .i64 n, .int .i64 (size : Int)] y.wd fun e w' => e = .returned (.bool (isb n size)) ∧ w' = y.wd := fun n size y => is_any n size y.wd
  have CI : Hid _ := KI
  clear KI
  obtain ⟨A3, Cx3, e3, q3, m3⟩ := h3.nestLen (eh := 38) (e := 40) (s := 2) (f := Dk.pr2) (v := V.v3) (vs := V.cv) (xss := S.conds) (by simp [Dk.mdl])
  have d3 : ∀ y : Dk.Up w3, y.wd.cell? ⟨bm, 3, none⟩ = some (.slice A3 S.conds.length Cx3) := up _ _ _ (by rw [← e3]; exact (Dk.Mdl.head h3).cell 3)
  clear e3
  obtain ⟨A1, Cx1, e1, q1, m1⟩ := Dk.owns_slice (Dk.Mdl.held h3)
  rw [ok.held] at e1
  have d1 : ∀ y : Dk.Up w3, y.wd.cell? ⟨bm, 1, none⟩ = some (.slice A1 S.owner.length Cx1) := up _ _ _ (by rw [← e1]; exact (Dk.Mdl.head h3).cell 1)
  clear e1
  have zi : isb num S.conds.length = false := isb_no hno
  go_wp2_with fail
  refine Dk.wp_region_up_lit_of (w0 := w3) (Below.refl _ _) (by kernel_rfl) (by kernel_rfl) ?_
  repeat (go_big_quiet_step ((go_at_call 24; exact Dk.calls_up_same _ (CI.out _ _ _))))
  refine wpQuiet_nil ?_
  intro _ hw'
  obtain ⟨y, hw''⟩ := hw'
  subst hw''
  have z1 : Below w3.heap.size w3 y.wd := y.property
  have h9 := h3.below z1
  go_wp2_with fail
  go_ret
  exact ⟨rfl, S, _, ts', hG', dropX h9, ok.mono (by omega)⟩
set_option maxRecDepth 100000 in
set_option maxHeartbeats 8000000 in
theorem play_wait_arg2 (I : GateI G0) (hG : G0 bg S ts) (h : Dk.Sep W w (Dk.mdl bm V S ++ (us ++ ts))) (ok : Dk.Ok S k) (hk : k ≤ 300) (what who : Int) (num : Nat) (mm choice : Int) (hwhat : what = 2) (hc : num < S.conds.length) (hno : mm < 0 ∨ (S.owner.length : Int) ≤ mm) :
    Calls Try.prog 10 #[.pointer (some ⟨bg, 0, none⟩), .pointer (some ⟨bm, 0, none⟩), .agg #[.int .i64 what, .int .i64 who, .int .i64 (num : Int), .int .i64 mm, .int .i64 choice]] w fun e w' => e = .returned (.bool true) ∧ Both G0 W w' bg bm (k + 1) us := by
  obtain ⟨W1, e1⟩ : ∃ W1, W1 = w.alloc (.cells #[.int .i64 what, .int .i64 who, .int .i64 (num : Int), .int .i64 mm, .int .i64 choice] 30) := ⟨_, rfl⟩
  have h1 : Dk.Sep W W1 (Dk.mdl bm V S ++ (Dk.boxOf w.heap.size #[.int .i64 what, .int .i64 who, .int .i64 (num : Int), .int .i64 mm, .int .i64 choice] 30 :: us ++ ts)) := (h.newBox e1).perm List.perm_middle.symm
  have H1 : Hid (w.alloc (.cells #[.int .i64 what, .int .i64 who, .int .i64 (num : Int), .int .i64 mm, .int .i64 choice] 30) = W1) := e1.symm
  obtain ⟨b5, eb5⟩ : ∃ b5, w.heap.size = b5 := ⟨_, rfl⟩
  rw [eb5] at h1
  have HB5 : Hid (w.heap.size = b5) := eb5
  clear e1 eb5
  have b1x : Dk.Box W1 b5 #[.int .i64 what, .int .i64 who, .int .i64 (num : Int), .int .i64 mm, .int .i64 choice] 30 := h1.box (by simp)
  have c0 : W1.cell? ⟨b5, 0, none⟩ = some (.int .i64 what) := b1x.cell 0
  have c1 : W1.cell? ⟨b5, 1, none⟩ = some (.int .i64 who) := b1x.cell 1
  have c2 : W1.cell? ⟨b5, 2, none⟩ = some (.int .i64 (num : Int)) := b1x.cell 2
  have c3 : W1.cell? ⟨b5, 3, none⟩ = some (.int .i64 mm) := b1x.cell 3
  have c4 : W1.cell? ⟨b5, 4, none⟩ = some (.int .i64 choice) := b1x.cell 4
  clear b1x
  have hw0b : decide (what = 0) = false := decide_eq_false (by omega)
  have hw0c : (what == 0) = false := by simpa using (show ¬ what = 0 by omega)
  have hw1b : decide (what = 1) = false := decide_eq_false (by omega)
  have hw1c : (what == 1) = false := by simpa using (show ¬ what = 1 by omega)
  have hw2b : decide (what = 2) = true := decide_eq_true (by omega)
  have hw2c : (what == 2) = true := by simpa using (show what = 2 by omega)
  have hw3b : decide (what = 3) = false := decide_eq_false (by omega)
  have hw3c : (what == 3) = false := by simpa using (show ¬ what = 3 by omega)
  have hw4b : decide (what = 4) = false := decide_eq_false (by omega)
  have hw4c : (what == 4) = false := by simpa using (show ¬ what = 4 by omega)
  clear hwhat
  have K2 := I.wait_arg hG (toG h1) ok hk who num mm choice (.inr hno)
  go_enter Try.func10, Try.ntmps10
  go_wp2_with (rw [H1.out, HB5.out]; clear H1)
  refine K2.mono ?_
  rintro e w3 ⟨rfl, ts', hG', h3'⟩
  have h3 := ofG h3'
  clear K2 h3' c0 c1 c2 c3 c4 h1
  have bb : ∀ y : Dk.Up w3, Dk.Box y.wd b5 #[.int .i64 what, .int .i64 who, .int .i64 (num : Int), .int .i64 mm, .int .i64 choice] 30 := fun y => (h3.below y.property).box (by simp)
  have b0 : ∀ y : Dk.Up w3, y.wd.cell? ⟨b5, 0, none⟩ = some (.int .i64 what) := fun y => (bb y).cell 0
  have b1 : ∀ y : Dk.Up w3, y.wd.cell? ⟨b5, 1, none⟩ = some (.int .i64 who) := fun y => (bb y).cell 1
  have b2 : ∀ y : Dk.Up w3, y.wd.cell? ⟨b5, 2, none⟩ = some (.int .i64 (num : Int)) := fun y => (bb y).cell 2
  have b3 : ∀ y : Dk.Up w3, y.wd.cell? ⟨b5, 3, none⟩ = some (.int .i64 mm) := fun y => (bb y).cell 3
  have b4 : ∀ y : Dk.Up w3, y.wd.cell? ⟨b5, 4, none⟩ = some (.int .i64 choice) := fun y => (bb y).cell 4
  have bn : Nonempty (Dk.Up w3) := ⟨⟨w3, Below.refl _ _⟩⟩
  have up : ∀ b o v, w3.cell? ⟨b, o, none⟩ = some v → ∀ y : Dk.Up w3, y.wd.cell? ⟨b, o, none⟩ = some v := fun b o v hv y => (y.property.cell (p := ⟨b, o, none⟩) (lt_of_cell' hv)).trans hv
  have KI : ∀ (n : Int) (size : Nat) (y : Dk.Up w3), Calls Try.prog 24 #[.int .i64 n, .int .i64 (size : Int)] y.wd fun e w' => e = .returned (.bool (isb n size)) ∧ w' = y.wd := fun n size y => is_any n size y.wd
  have CI : Hid _ := KI
  clear KI
  obtain ⟨A3, Cx3, e3, q3, m3⟩ := h3.nestLen (eh := 38) (e := 40) (s := 2) (f := Dk.pr2) (v := V.v3) (vs := V.cv) (xss := S.conds) (by simp [Dk.mdl])
  have d3 : ∀ y : Dk.Up w3, y.wd.cell? ⟨bm, 3, none⟩ = some (.slice A3 S.conds.length Cx3) := up _ _ _ (by rw [← e3]; exact (Dk.Mdl.head h3).cell 3)
  clear e3
  obtain ⟨A1, Cx1, e1, q1, m1⟩ := Dk.owns_slice (Dk.Mdl.held h3)
  rw [ok.held] at e1
  have d1 : ∀ y : Dk.Up w3, y.wd.cell? ⟨bm, 1, none⟩ = some (.slice A1 S.owner.length Cx1) := up _ _ _ (by rw [← e1]; exact (Dk.Mdl.head h3).cell 1)
  clear e1
  have zi : isb (num : Int) S.conds.length = true := isb_yes hc
  have zj : isb mm S.owner.length = false := isb_no hno
  go_wp2_with fail
  refine Dk.wp_region_up_lit_of (w0 := w3) (Below.refl _ _) (by kernel_rfl) (by kernel_rfl) ?_
  repeat (go_big_quiet_step ((go_at_call 24; exact Dk.calls_up_same _ (CI.out _ _ _))))
  refine wpQuiet_nil ?_
  intro _ hw'
  obtain ⟨y, hw''⟩ := hw'
  subst hw''
  have z1 : Below w3.heap.size w3 y.wd := y.property
  have h9 := h3.below z1
  go_wp2_with fail
  go_ret
  exact ⟨rfl, S, _, ts', hG', dropX h9, ok.mono (by omega)⟩
set_option maxRecDepth 100000 in
set_option maxHeartbeats 8000000 in
theorem play_wait_busy (I : GateI G0) (hG : G0 bg S ts) (h : Dk.Sep W w (Dk.mdl bm V S ++ (us ++ ts))) (ok : Dk.Ok S k) (hk : k ≤ 300) (what who : Int) (num : Nat) (mm : Nat) (choice : Int) (hwhat : what = 2) (hc : num < S.conds.length) (hn : mm < S.owner.length) (hwt : S.waits who = true) :
    Calls Try.prog 10 #[.pointer (some ⟨bg, 0, none⟩), .pointer (some ⟨bm, 0, none⟩), .agg #[.int .i64 what, .int .i64 who, .int .i64 (num : Int), .int .i64 (mm : Int), .int .i64 choice]] w fun e w' => e = .returned (.bool true) ∧ Both G0 W w' bg bm (k + 1) us := by
  obtain ⟨W1, e1⟩ : ∃ W1, W1 = w.alloc (.cells #[.int .i64 what, .int .i64 who, .int .i64 (num : Int), .int .i64 (mm : Int), .int .i64 choice] 30) := ⟨_, rfl⟩
  have h1 : Dk.Sep W W1 (Dk.mdl bm V S ++ (Dk.boxOf w.heap.size #[.int .i64 what, .int .i64 who, .int .i64 (num : Int), .int .i64 (mm : Int), .int .i64 choice] 30 :: us ++ ts)) := (h.newBox e1).perm List.perm_middle.symm
  have H1 : Hid (w.alloc (.cells #[.int .i64 what, .int .i64 who, .int .i64 (num : Int), .int .i64 (mm : Int), .int .i64 choice] 30) = W1) := e1.symm
  obtain ⟨b5, eb5⟩ : ∃ b5, w.heap.size = b5 := ⟨_, rfl⟩
  rw [eb5] at h1
  have HB5 : Hid (w.heap.size = b5) := eb5
  clear e1 eb5
  have b1x : Dk.Box W1 b5 #[.int .i64 what, .int .i64 who, .int .i64 (num : Int), .int .i64 (mm : Int), .int .i64 choice] 30 := h1.box (by simp)
  have c0 : W1.cell? ⟨b5, 0, none⟩ = some (.int .i64 what) := b1x.cell 0
  have c1 : W1.cell? ⟨b5, 1, none⟩ = some (.int .i64 who) := b1x.cell 1
  have c2 : W1.cell? ⟨b5, 2, none⟩ = some (.int .i64 (num : Int)) := b1x.cell 2
  have c3 : W1.cell? ⟨b5, 3, none⟩ = some (.int .i64 (mm : Int)) := b1x.cell 3
  have c4 : W1.cell? ⟨b5, 4, none⟩ = some (.int .i64 choice) := b1x.cell 4
  clear b1x
  have hw0b : decide (what = 0) = false := decide_eq_false (by omega)
  have hw0c : (what == 0) = false := by simpa using (show ¬ what = 0 by omega)
  have hw1b : decide (what = 1) = false := decide_eq_false (by omega)
  have hw1c : (what == 1) = false := by simpa using (show ¬ what = 1 by omega)
  have hw2b : decide (what = 2) = true := decide_eq_true (by omega)
  have hw2c : (what == 2) = true := by simpa using (show what = 2 by omega)
  have hw3b : decide (what = 3) = false := decide_eq_false (by omega)
  have hw3c : (what == 3) = false := by simpa using (show ¬ what = 3 by omega)
  have hw4b : decide (what = 4) = false := decide_eq_false (by omega)
  have hw4c : (what == 4) = false := by simpa using (show ¬ what = 4 by omega)
  clear hwhat
  have K2 := I.wait_busy hG (toG h1) ok hk who num mm choice hc hn hwt
  go_enter Try.func10, Try.ntmps10
  go_wp2_with (rw [H1.out, HB5.out]; clear H1)
  refine K2.mono ?_
  rintro e w3 ⟨rfl, ts', hG', h3'⟩
  have h3 := ofG h3'
  clear K2 h3' c0 c1 c2 c3 c4 h1
  have bb : ∀ y : Dk.Up w3, Dk.Box y.wd b5 #[.int .i64 what, .int .i64 who, .int .i64 (num : Int), .int .i64 (mm : Int), .int .i64 choice] 30 := fun y => (h3.below y.property).box (by simp)
  have b0 : ∀ y : Dk.Up w3, y.wd.cell? ⟨b5, 0, none⟩ = some (.int .i64 what) := fun y => (bb y).cell 0
  have b1 : ∀ y : Dk.Up w3, y.wd.cell? ⟨b5, 1, none⟩ = some (.int .i64 who) := fun y => (bb y).cell 1
  have b2 : ∀ y : Dk.Up w3, y.wd.cell? ⟨b5, 2, none⟩ = some (.int .i64 (num : Int)) := fun y => (bb y).cell 2
  have b3 : ∀ y : Dk.Up w3, y.wd.cell? ⟨b5, 3, none⟩ = some (.int .i64 (mm : Int)) := fun y => (bb y).cell 3
  have b4 : ∀ y : Dk.Up w3, y.wd.cell? ⟨b5, 4, none⟩ = some (.int .i64 choice) := fun y => (bb y).cell 4
  have bn : Nonempty (Dk.Up w3) := ⟨⟨w3, Below.refl _ _⟩⟩
  have up : ∀ b o v, w3.cell? ⟨b, o, none⟩ = some v → ∀ y : Dk.Up w3, y.wd.cell? ⟨b, o, none⟩ = some v := fun b o v hv y => (y.property.cell (p := ⟨b, o, none⟩) (lt_of_cell' hv)).trans hv
  have KI : ∀ (n : Int) (size : Nat) (y : Dk.Up w3), Calls Try.prog 24 #[.int .i64 n, .int .i64 (size : Int)] y.wd fun e w' => e = .returned (.bool (isb n size)) ∧ w' = y.wd := fun n size y => is_any n size y.wd
  have CI : Hid _ := KI
  clear KI
  obtain ⟨A3, Cx3, e3, q3, m3⟩ := h3.nestLen (eh := 38) (e := 40) (s := 2) (f := Dk.pr2) (v := V.v3) (vs := V.cv) (xss := S.conds) (by simp [Dk.mdl])
  have d3 : ∀ y : Dk.Up w3, y.wd.cell? ⟨bm, 3, none⟩ = some (.slice A3 S.conds.length Cx3) := up _ _ _ (by rw [← e3]; exact (Dk.Mdl.head h3).cell 3)
  clear e3
  have hhn : mm < S.held.length := by rw [ok.held]; exact hn
  obtain ⟨gh, Ch, eh, qh, mh, ch0, _, _⟩ := Mdl.setHeld h3 (n := mm) hhn
  obtain ⟨go, Co, eo, qo, mo, co0, _, _⟩ := Mdl.setOwner h3 (n := mm) hn
  rw [ok.held] at eh qh
  unfold maxLen at mh mo
  have d1 : ∀ y : Dk.Up w3, y.wd.cell? ⟨bm, 1, none⟩ = some (.slice (some ⟨gh, 0, none⟩) S.owner.length Ch) := up _ _ _ (by rw [← eh]; exact (Dk.Mdl.head h3).cell 1)
  have d0 : ∀ y : Dk.Up w3, y.wd.cell? ⟨bm, 0, none⟩ = some (.slice (some ⟨go, 0, none⟩) S.owner.length Co) := up _ _ _ (by rw [← eo]; exact (Dk.Mdl.head h3).cell 0)
  have dh := up _ _ _ ch0
  have do_ := up _ _ _ co0
  have hni : (mm : Int) < (S.owner.length : Int) := by omega
  clear ch0 co0
  obtain ⟨hb, ehb⟩ : ∃ hb, S.held.getD mm false = hb := ⟨_, rfl⟩
  obtain ⟨ow, eow⟩ : ∃ ow, S.owner.getD mm 0 = ow := ⟨_, rfl⟩
  rw [ehb] at dh
  rw [eow] at do_
  have zi : isb (num : Int) S.conds.length = true := isb_yes hc
  have zj : isb (mm : Int) S.owner.length = true := isb_yes hn
  go_wp2_with fail
  refine Dk.wp_region_up_lit_of (w0 := w3) (Below.refl _ _) (by kernel_rfl) (by kernel_rfl) ?_
  repeat (go_big_quiet_step ((go_at_call 24; exact Dk.calls_up_same _ (CI.out _ _ _))))
  refine wpQuiet_nil ?_
  intro _ hw'
  obtain ⟨y, hw''⟩ := hw'
  subst hw''
  have z1 : Below w3.heap.size w3 y.wd := y.property
  have K24 := waits_m (h3.below z1) ok who
  rw [hwt] at K24
  have b1y := b1 y
  go_wp2_with fail
  refine K24.mono ?_
  rintro e w' ⟨rfl, hw'⟩
  have hw'' : w' = y.wd := hw'
  clear hw'
  subst w'
  clear K24 b1y
  have h9 := h3.below z1
  go_wp2_with fail
  go_ret
  exact ⟨rfl, S, _, ts', hG', dropX h9, ok.mono (by omega)⟩
set_option maxRecDepth 100000 in
set_option maxHeartbeats 8000000 in
theorem play_wait_owner (I : GateI G0) (hG : G0 bg S ts) (h : Dk.Sep W w (Dk.mdl bm V S ++ (us ++ ts))) (ok : Dk.Ok S k) (hk : k ≤ 300) (what who : Int) (num : Nat) (mm : Nat) (choice : Int) (hwhat : what = 2) (hc : num < S.conds.length) (hn : mm < S.owner.length) (hwt : S.waits who = false) (hheld : S.held.getD mm false = false) :
    Calls Try.prog 10 #[.pointer (some ⟨bg, 0, none⟩), .pointer (some ⟨bm, 0, none⟩), .agg #[.int .i64 what, .int .i64 who, .int .i64 (num : Int), .int .i64 (mm : Int), .int .i64 choice]] w fun e w' => e = .returned (.bool true) ∧ Both G0 W w' bg bm (k + 1) us := by
  obtain ⟨W1, e1⟩ : ∃ W1, W1 = w.alloc (.cells #[.int .i64 what, .int .i64 who, .int .i64 (num : Int), .int .i64 (mm : Int), .int .i64 choice] 30) := ⟨_, rfl⟩
  have h1 : Dk.Sep W W1 (Dk.mdl bm V S ++ (Dk.boxOf w.heap.size #[.int .i64 what, .int .i64 who, .int .i64 (num : Int), .int .i64 (mm : Int), .int .i64 choice] 30 :: us ++ ts)) := (h.newBox e1).perm List.perm_middle.symm
  have H1 : Hid (w.alloc (.cells #[.int .i64 what, .int .i64 who, .int .i64 (num : Int), .int .i64 (mm : Int), .int .i64 choice] 30) = W1) := e1.symm
  obtain ⟨b5, eb5⟩ : ∃ b5, w.heap.size = b5 := ⟨_, rfl⟩
  rw [eb5] at h1
  have HB5 : Hid (w.heap.size = b5) := eb5
  clear e1 eb5
  have b1x : Dk.Box W1 b5 #[.int .i64 what, .int .i64 who, .int .i64 (num : Int), .int .i64 (mm : Int), .int .i64 choice] 30 := h1.box (by simp)
  have c0 : W1.cell? ⟨b5, 0, none⟩ = some (.int .i64 what) := b1x.cell 0
  have c1 : W1.cell? ⟨b5, 1, none⟩ = some (.int .i64 who) := b1x.cell 1
  have c2 : W1.cell? ⟨b5, 2, none⟩ = some (.int .i64 (num : Int)) := b1x.cell 2
  have c3 : W1.cell? ⟨b5, 3, none⟩ = some (.int .i64 (mm : Int)) := b1x.cell 3
  have c4 : W1.cell? ⟨b5, 4, none⟩ = some (.int .i64 choice) := b1x.cell 4
  clear b1x
  have hw0b : decide (what = 0) = false := decide_eq_false (by omega)
  have hw0c : (what == 0) = false := by simpa using (show ¬ what = 0 by omega)
  have hw1b : decide (what = 1) = false := decide_eq_false (by omega)
  have hw1c : (what == 1) = false := by simpa using (show ¬ what = 1 by omega)
  have hw2b : decide (what = 2) = true := decide_eq_true (by omega)
  have hw2c : (what == 2) = true := by simpa using (show what = 2 by omega)
  have hw3b : decide (what = 3) = false := decide_eq_false (by omega)
  have hw3c : (what == 3) = false := by simpa using (show ¬ what = 3 by omega)
  have hw4b : decide (what = 4) = false := decide_eq_false (by omega)
  have hw4c : (what == 4) = false := by simpa using (show ¬ what = 4 by omega)
  clear hwhat
  have K2 := I.wait_owner hG (toG h1) ok hk who num mm choice hc hn hwt (.inl hheld)
  go_enter Try.func10, Try.ntmps10
  go_wp2_with (rw [H1.out, HB5.out]; clear H1)
  refine K2.mono ?_
  rintro e w3 ⟨rfl, ts', hG', h3'⟩
  have h3 := ofG h3'
  clear K2 h3' c0 c1 c2 c3 c4 h1
  have bb : ∀ y : Dk.Up w3, Dk.Box y.wd b5 #[.int .i64 what, .int .i64 who, .int .i64 (num : Int), .int .i64 (mm : Int), .int .i64 choice] 30 := fun y => (h3.below y.property).box (by simp)
  have b0 : ∀ y : Dk.Up w3, y.wd.cell? ⟨b5, 0, none⟩ = some (.int .i64 what) := fun y => (bb y).cell 0
  have b1 : ∀ y : Dk.Up w3, y.wd.cell? ⟨b5, 1, none⟩ = some (.int .i64 who) := fun y => (bb y).cell 1
  have b2 : ∀ y : Dk.Up w3, y.wd.cell? ⟨b5, 2, none⟩ = some (.int .i64 (num : Int)) := fun y => (bb y).cell 2
  have b3 : ∀ y : Dk.Up w3, y.wd.cell? ⟨b5, 3, none⟩ = some (.int .i64 (mm : Int)) := fun y => (bb y).cell 3
  have b4 : ∀ y : Dk.Up w3, y.wd.cell? ⟨b5, 4, none⟩ = some (.int .i64 choice) := fun y => (bb y).cell 4
  have bn : Nonempty (Dk.Up w3) := ⟨⟨w3, Below.refl _ _⟩⟩
  have up : ∀ b o v, w3.cell? ⟨b, o, none⟩ = some v → ∀ y : Dk.Up w3, y.wd.cell? ⟨b, o, none⟩ = some v := fun b o v hv y => (y.property.cell (p := ⟨b, o, none⟩) (lt_of_cell' hv)).trans hv
  have KI : ∀ (n : Int) (size : Nat) (y : Dk.Up w3), Calls Try.prog 24 #[.int .i64 n, .int .i64 (size : Int)] y.wd fun e w' => e = .returned (.bool (isb n size)) ∧ w' = y.wd := fun n size y => is_any n size y.wd
  have CI : Hid _ := KI
  clear KI
  obtain ⟨A3, Cx3, e3, q3, m3⟩ := h3.nestLen (eh := 38) (e := 40) (s := 2) (f := Dk.pr2) (v := V.v3) (vs := V.cv) (xss := S.conds) (by simp [Dk.mdl])
  have d3 : ∀ y : Dk.Up w3, y.wd.cell? ⟨bm, 3, none⟩ = some (.slice A3 S.conds.length Cx3) := up _ _ _ (by rw [← e3]; exact (Dk.Mdl.head h3).cell 3)
  clear e3
  have hhn : mm < S.held.length := by rw [ok.held]; exact hn
  obtain ⟨gh, Ch, eh, qh, mh, ch0, _, _⟩ := Mdl.setHeld h3 (n := mm) hhn
  obtain ⟨go, Co, eo, qo, mo, co0, _, _⟩ := Mdl.setOwner h3 (n := mm) hn
  rw [ok.held] at eh qh
  unfold maxLen at mh mo
  have d1 : ∀ y : Dk.Up w3, y.wd.cell? ⟨bm, 1, none⟩ = some (.slice (some ⟨gh, 0, none⟩) S.owner.length Ch) := up _ _ _ (by rw [← eh]; exact (Dk.Mdl.head h3).cell 1)
  have d0 : ∀ y : Dk.Up w3, y.wd.cell? ⟨bm, 0, none⟩ = some (.slice (some ⟨go, 0, none⟩) S.owner.length Co) := up _ _ _ (by rw [← eo]; exact (Dk.Mdl.head h3).cell 0)
  have dh := up _ _ _ ch0
  have do_ := up _ _ _ co0
  have hni : (mm : Int) < (S.owner.length : Int) := by omega
  clear ch0 co0
  obtain ⟨hb, ehb⟩ : ∃ hb, S.held.getD mm false = hb := ⟨_, rfl⟩
  obtain ⟨ow, eow⟩ : ∃ ow, S.owner.getD mm 0 = ow := ⟨_, rfl⟩
  rw [ehb] at dh
  rw [eow] at do_
  have zi : isb (num : Int) S.conds.length = true := isb_yes hc
  have zj : isb (mm : Int) S.owner.length = true := isb_yes hn
  have hb1 : hb = false := by rw [← ehb]; exact hheld
  clear ehb eow hheld
  subst hb1
  go_wp2_with fail
  refine Dk.wp_region_up_lit_of (w0 := w3) (Below.refl _ _) (by kernel_rfl) (by kernel_rfl) ?_
  repeat (go_big_quiet_step ((go_at_call 24; exact Dk.calls_up_same _ (CI.out _ _ _))))
  refine wpQuiet_nil ?_
  intro _ hw'
  obtain ⟨y, hw''⟩ := hw'
  subst hw''
  have z1 : Below w3.heap.size w3 y.wd := y.property
  have K24 := waits_m (h3.below z1) ok who
  rw [hwt] at K24
  have b1y := b1 y
  go_wp2_with fail
  refine K24.mono ?_
  rintro e w' ⟨rfl, hw'⟩
  have hw'' : w' = y.wd := hw'
  clear hw'
  subst w'
  clear K24 b1y
  go_wp2_with fail
  refine Dk.wp_region_up_lit_of (w0 := w3) z1 (by kernel_rfl) (by kernel_rfl) ?_
  repeat (go_big_quiet_step (fail))
  refine wpQuiet_nil ?_
  intro _ hw'
  clear z1
  obtain ⟨y, hw''⟩ := hw'
  subst hw''
  have z1 : Below w3.heap.size w3 y.wd := y.property
  have h9 := h3.below z1
  go_wp2_with fail
  go_ret
  exact ⟨rfl, S, _, ts', hG', dropX h9, ok.mono (by omega)⟩
set_option maxRecDepth 100000 in
set_option maxHeartbeats 8000000 in
theorem play_wait_owner2 (I : GateI G0) (hG : G0 bg S ts) (h : Dk.Sep W w (Dk.mdl bm V S ++ (us ++ ts))) (ok : Dk.Ok S k) (hk : k ≤ 300) (what who : Int) (num : Nat) (mm : Nat) (choice : Int) (hwhat : what = 2) (hc : num < S.conds.length) (hn : mm < S.owner.length) (hwt : S.waits who = false) (hheld : S.held.getD mm false = true) (hown : S.owner.getD mm 0 ≠ who) :
    Calls Try.prog 10 #[.pointer (some ⟨bg, 0, none⟩), .pointer (some ⟨bm, 0, none⟩), .agg #[.int .i64 what, .int .i64 who, .int .i64 (num : Int), .int .i64 (mm : Int), .int .i64 choice]] w fun e w' => e = .returned (.bool true) ∧ Both G0 W w' bg bm (k + 1) us := by
  obtain ⟨W1, e1⟩ : ∃ W1, W1 = w.alloc (.cells #[.int .i64 what, .int .i64 who, .int .i64 (num : Int), .int .i64 (mm : Int), .int .i64 choice] 30) := ⟨_, rfl⟩
  have h1 : Dk.Sep W W1 (Dk.mdl bm V S ++ (Dk.boxOf w.heap.size #[.int .i64 what, .int .i64 who, .int .i64 (num : Int), .int .i64 (mm : Int), .int .i64 choice] 30 :: us ++ ts)) := (h.newBox e1).perm List.perm_middle.symm
  have H1 : Hid (w.alloc (.cells #[.int .i64 what, .int .i64 who, .int .i64 (num : Int), .int .i64 (mm : Int), .int .i64 choice] 30) = W1) := e1.symm
  obtain ⟨b5, eb5⟩ : ∃ b5, w.heap.size = b5 := ⟨_, rfl⟩
  rw [eb5] at h1
  have HB5 : Hid (w.heap.size = b5) := eb5
  clear e1 eb5
  have b1x : Dk.Box W1 b5 #[.int .i64 what, .int .i64 who, .int .i64 (num : Int), .int .i64 (mm : Int), .int .i64 choice] 30 := h1.box (by simp)
  have c0 : W1.cell? ⟨b5, 0, none⟩ = some (.int .i64 what) := b1x.cell 0
  have c1 : W1.cell? ⟨b5, 1, none⟩ = some (.int .i64 who) := b1x.cell 1
  have c2 : W1.cell? ⟨b5, 2, none⟩ = some (.int .i64 (num : Int)) := b1x.cell 2
  have c3 : W1.cell? ⟨b5, 3, none⟩ = some (.int .i64 (mm : Int)) := b1x.cell 3
  have c4 : W1.cell? ⟨b5, 4, none⟩ = some (.int .i64 choice) := b1x.cell 4
  clear b1x
  have hw0b : decide (what = 0) = false := decide_eq_false (by omega)
  have hw0c : (what == 0) = false := by simpa using (show ¬ what = 0 by omega)
  have hw1b : decide (what = 1) = false := decide_eq_false (by omega)
  have hw1c : (what == 1) = false := by simpa using (show ¬ what = 1 by omega)
  have hw2b : decide (what = 2) = true := decide_eq_true (by omega)
  have hw2c : (what == 2) = true := by simpa using (show what = 2 by omega)
  have hw3b : decide (what = 3) = false := decide_eq_false (by omega)
  have hw3c : (what == 3) = false := by simpa using (show ¬ what = 3 by omega)
  have hw4b : decide (what = 4) = false := decide_eq_false (by omega)
  have hw4c : (what == 4) = false := by simpa using (show ¬ what = 4 by omega)
  clear hwhat
  have K2 := I.wait_owner hG (toG h1) ok hk who num mm choice hc hn hwt (.inr hown)
  go_enter Try.func10, Try.ntmps10
  go_wp2_with (rw [H1.out, HB5.out]; clear H1)
  refine K2.mono ?_
  rintro e w3 ⟨rfl, ts', hG', h3'⟩
  have h3 := ofG h3'
  clear K2 h3' c0 c1 c2 c3 c4 h1
  have bb : ∀ y : Dk.Up w3, Dk.Box y.wd b5 #[.int .i64 what, .int .i64 who, .int .i64 (num : Int), .int .i64 (mm : Int), .int .i64 choice] 30 := fun y => (h3.below y.property).box (by simp)
  have b0 : ∀ y : Dk.Up w3, y.wd.cell? ⟨b5, 0, none⟩ = some (.int .i64 what) := fun y => (bb y).cell 0
  have b1 : ∀ y : Dk.Up w3, y.wd.cell? ⟨b5, 1, none⟩ = some (.int .i64 who) := fun y => (bb y).cell 1
  have b2 : ∀ y : Dk.Up w3, y.wd.cell? ⟨b5, 2, none⟩ = some (.int .i64 (num : Int)) := fun y => (bb y).cell 2
  have b3 : ∀ y : Dk.Up w3, y.wd.cell? ⟨b5, 3, none⟩ = some (.int .i64 (mm : Int)) := fun y => (bb y).cell 3
  have b4 : ∀ y : Dk.Up w3, y.wd.cell? ⟨b5, 4, none⟩ = some (.int .i64 choice) := fun y => (bb y).cell 4
  have bn : Nonempty (Dk.Up w3) := ⟨⟨w3, Below.refl _ _⟩⟩
  have up : ∀ b o v, w3.cell? ⟨b, o, none⟩ = some v → ∀ y : Dk.Up w3, y.wd.cell? ⟨b, o, none⟩ = some v := fun b o v hv y => (y.property.cell (p := ⟨b, o, none⟩) (lt_of_cell' hv)).trans hv
  have KI : ∀ (n : Int) (size : Nat) (y : Dk.Up w3), Calls Try.prog 24 #[.int .i64 n, .int .i64 (size : Int)] y.wd fun e w' => e = .returned (.bool (isb n size)) ∧ w' = y.wd := fun n size y => is_any n size y.wd
  have CI : Hid _ := KI
  clear KI
  obtain ⟨A3, Cx3, e3, q3, m3⟩ := h3.nestLen (eh := 38) (e := 40) (s := 2) (f := Dk.pr2) (v := V.v3) (vs := V.cv) (xss := S.conds) (by simp [Dk.mdl])
  have d3 : ∀ y : Dk.Up w3, y.wd.cell? ⟨bm, 3, none⟩ = some (.slice A3 S.conds.length Cx3) := up _ _ _ (by rw [← e3]; exact (Dk.Mdl.head h3).cell 3)
  clear e3
  have hhn : mm < S.held.length := by rw [ok.held]; exact hn
  obtain ⟨gh, Ch, eh, qh, mh, ch0, _, _⟩ := Mdl.setHeld h3 (n := mm) hhn
  obtain ⟨go, Co, eo, qo, mo, co0, _, _⟩ := Mdl.setOwner h3 (n := mm) hn
  rw [ok.held] at eh qh
  unfold maxLen at mh mo
  have d1 : ∀ y : Dk.Up w3, y.wd.cell? ⟨bm, 1, none⟩ = some (.slice (some ⟨gh, 0, none⟩) S.owner.length Ch) := up _ _ _ (by rw [← eh]; exact (Dk.Mdl.head h3).cell 1)
  have d0 : ∀ y : Dk.Up w3, y.wd.cell? ⟨bm, 0, none⟩ = some (.slice (some ⟨go, 0, none⟩) S.owner.length Co) := up _ _ _ (by rw [← eo]; exact (Dk.Mdl.head h3).cell 0)
  have dh := up _ _ _ ch0
  have do_ := up _ _ _ co0
  have hni : (mm : Int) < (S.owner.length : Int) := by omega
  clear ch0 co0
  obtain ⟨hb, ehb⟩ : ∃ hb, S.held.getD mm false = hb := ⟨_, rfl⟩
  obtain ⟨ow, eow⟩ : ∃ ow, S.owner.getD mm 0 = ow := ⟨_, rfl⟩
  rw [ehb] at dh
  rw [eow] at do_
  have zi : isb (num : Int) S.conds.length = true := isb_yes hc
  have zj : isb (mm : Int) S.owner.length = true := isb_yes hn
  have ow1 : ¬ ow = who := by rw [← eow]; exact hown
  have zo : decide (ow = who) = false := decide_eq_false ow1
  have zo' : (ow == who) = false := by simpa using ow1
  have zo2 : (ow != who) = true := by simpa using ow1
  have zo3 : decide (ow ≠ who) = true := decide_eq_true ow1
  have hb1 : hb = true := by rw [← ehb]; exact hheld
  clear ehb eow hown hheld
  subst hb1
  go_wp2_with fail
  refine Dk.wp_region_up_lit_of (w0 := w3) (Below.refl _ _) (by kernel_rfl) (by kernel_rfl) ?_
  repeat (go_big_quiet_step ((go_at_call 24; exact Dk.calls_up_same _ (CI.out _ _ _))))
  refine wpQuiet_nil ?_
  intro _ hw'
  obtain ⟨y, hw''⟩ := hw'
  subst hw''
  have z1 : Below w3.heap.size w3 y.wd := y.property
  have K24 := waits_m (h3.below z1) ok who
  rw [hwt] at K24
  have b1y := b1 y
  go_wp2_with fail
  refine K24.mono ?_
  rintro e w' ⟨rfl, hw'⟩
  have hw'' : w' = y.wd := hw'
  clear hw'
  subst w'
  clear K24 b1y
  go_wp2_with fail
  refine Dk.wp_region_up_lit_of (w0 := w3) z1 (by kernel_rfl) (by kernel_rfl) ?_
  repeat (go_big_quiet_step (fail))
  refine wpQuiet_nil ?_
  intro _ hw'
  clear z1
  obtain ⟨y, hw''⟩ := hw'
  subst hw''
  have z1 : Below w3.heap.size w3 y.wd := y.property
  have h9 := h3.below z1
  go_wp2_with fail
  go_ret
  exact ⟨rfl, S, _, ts', hG', dropX h9, ok.mono (by omega)⟩
set_option maxRecDepth 100000 in
set_option maxHeartbeats 8000000 in
theorem play_wait_none (I : GateI G0) (hG : G0 bg S ts) (h : Dk.Sep W w (Dk.mdl bm V S ++ (us ++ ts))) (ok : Dk.Ok S k) (hk : k ≤ 300) (what who : Int) (num : Nat) (mm : Nat) (choice : Int) (hwhat : what = 2) (hc : num < S.conds.length) (hn : mm < S.owner.length) (hwho : Dk.i64 who) (hch : Dk.i64 choice) (hwt : S.waits who = false) (hheld : S.held.getD mm false = true) (hown : S.owner.getD mm 0 = who) (hl0 : (S.wait.getD mm []).length = 0) :
    Calls Try.prog 10 #[.pointer (some ⟨bg, 0, none⟩), .pointer (some ⟨bm, 0, none⟩), .agg #[.int .i64 what, .int .i64 who, .int .i64 (num : Int), .int .i64 (mm : Int), .int .i64 choice]] w fun e w' => e = .returned (.bool true) ∧ Both G0 W w' bg bm (k + 1) us := by
  obtain ⟨W1, e1⟩ : ∃ W1, W1 = w.alloc (.cells #[.int .i64 what, .int .i64 who, .int .i64 (num : Int), .int .i64 (mm : Int), .int .i64 choice] 30) := ⟨_, rfl⟩
  have h1 : Dk.Sep W W1 (Dk.mdl bm V S ++ (Dk.boxOf w.heap.size #[.int .i64 what, .int .i64 who, .int .i64 (num : Int), .int .i64 (mm : Int), .int .i64 choice] 30 :: us ++ ts)) := (h.newBox e1).perm List.perm_middle.symm
  have H1 : Hid (w.alloc (.cells #[.int .i64 what, .int .i64 who, .int .i64 (num : Int), .int .i64 (mm : Int), .int .i64 choice] 30) = W1) := e1.symm
  obtain ⟨b5, eb5⟩ : ∃ b5, w.heap.size = b5 := ⟨_, rfl⟩
  rw [eb5] at h1
  have HB5 : Hid (w.heap.size = b5) := eb5
  clear e1 eb5
  have b1x : Dk.Box W1 b5 #[.int .i64 what, .int .i64 who, .int .i64 (num : Int), .int .i64 (mm : Int), .int .i64 choice] 30 := h1.box (by simp)
  have c0 : W1.cell? ⟨b5, 0, none⟩ = some (.int .i64 what) := b1x.cell 0
  have c1 : W1.cell? ⟨b5, 1, none⟩ = some (.int .i64 who) := b1x.cell 1
  have c2 : W1.cell? ⟨b5, 2, none⟩ = some (.int .i64 (num : Int)) := b1x.cell 2
  have c3 : W1.cell? ⟨b5, 3, none⟩ = some (.int .i64 (mm : Int)) := b1x.cell 3
  have c4 : W1.cell? ⟨b5, 4, none⟩ = some (.int .i64 choice) := b1x.cell 4
  clear b1x
  have hw0b : decide (what = 0) = false := decide_eq_false (by omega)
  have hw0c : (what == 0) = false := by simpa using (show ¬ what = 0 by omega)
  have hw1b : decide (what = 1) = false := decide_eq_false (by omega)
  have hw1c : (what == 1) = false := by simpa using (show ¬ what = 1 by omega)
  have hw2b : decide (what = 2) = true := decide_eq_true (by omega)
  have hw2c : (what == 2) = true := by simpa using (show what = 2 by omega)
  have hw3b : decide (what = 3) = false := decide_eq_false (by omega)
  have hw3c : (what == 3) = false := by simpa using (show ¬ what = 3 by omega)
  have hw4b : decide (what = 4) = false := decide_eq_false (by omega)
  have hw4c : (what == 4) = false := by simpa using (show ¬ what = 4 by omega)
  clear hwhat
  have K2 := I.wait_ok hG (toG h1) ok hk who num mm choice hc hn hwho hch hwt hheld hown
  rw [Dk.open_eq_none S mm choice hl0] at K2
  go_enter Try.func10, Try.ntmps10
  go_wp2_with (rw [H1.out, HB5.out]; clear H1)
  refine K2.mono ?_
  rintro e w3 ⟨rfl, ts', hG', h3'⟩
  have h3 := ofG h3'
  clear K2 h3' c0 c1 c2 c3 c4 h1
  have bb : ∀ y : Dk.Up w3, Dk.Box y.wd b5 #[.int .i64 what, .int .i64 who, .int .i64 (num : Int), .int .i64 (mm : Int), .int .i64 choice] 30 := fun y => (h3.below y.property).box (by simp)
  have b0 : ∀ y : Dk.Up w3, y.wd.cell? ⟨b5, 0, none⟩ = some (.int .i64 what) := fun y => (bb y).cell 0
  have b1 : ∀ y : Dk.Up w3, y.wd.cell? ⟨b5, 1, none⟩ = some (.int .i64 who) := fun y => (bb y).cell 1
  have b2 : ∀ y : Dk.Up w3, y.wd.cell? ⟨b5, 2, none⟩ = some (.int .i64 (num : Int)) := fun y => (bb y).cell 2
  have b3 : ∀ y : Dk.Up w3, y.wd.cell? ⟨b5, 3, none⟩ = some (.int .i64 (mm : Int)) := fun y => (bb y).cell 3
  have b4 : ∀ y : Dk.Up w3, y.wd.cell? ⟨b5, 4, none⟩ = some (.int .i64 choice) := fun y => (bb y).cell 4
  have bn : Nonempty (Dk.Up w3) := ⟨⟨w3, Below.refl _ _⟩⟩
  have up : ∀ b o v, w3.cell? ⟨b, o, none⟩ = some v → ∀ y : Dk.Up w3, y.wd.cell? ⟨b, o, none⟩ = some v := fun b o v hv y => (y.property.cell (p := ⟨b, o, none⟩) (lt_of_cell' hv)).trans hv
  have KI : ∀ (n : Int) (size : Nat) (y : Dk.Up w3), Calls Try.prog 24 #[.int .i64 n, .int .i64 (size : Int)] y.wd fun e w' => e = .returned (.bool (isb n size)) ∧ w' = y.wd := fun n size y => is_any n size y.wd
  have CI : Hid _ := KI
  clear KI
  obtain ⟨A3, Cx3, e3, q3, m3⟩ := h3.nestLen (eh := 38) (e := 40) (s := 2) (f := Dk.pr2) (v := V.v3) (vs := V.cv) (xss := S.conds) (by simp [Dk.mdl])
  have d3 : ∀ y : Dk.Up w3, y.wd.cell? ⟨bm, 3, none⟩ = some (.slice A3 S.conds.length Cx3) := up _ _ _ (by rw [← e3]; exact (Dk.Mdl.head h3).cell 3)
  clear e3
  have hhn : mm < S.held.length := by rw [ok.held]; exact hn
  obtain ⟨gh, Ch, eh, qh, mh, ch0, _, _⟩ := Mdl.setHeld h3 (n := mm) hhn
  obtain ⟨go, Co, eo, qo, mo, co0, _, _⟩ := Mdl.setOwner h3 (n := mm) hn
  rw [ok.held] at eh qh
  unfold maxLen at mh mo
  have d1 : ∀ y : Dk.Up w3, y.wd.cell? ⟨bm, 1, none⟩ = some (.slice (some ⟨gh, 0, none⟩) S.owner.length Ch) := up _ _ _ (by rw [← eh]; exact (Dk.Mdl.head h3).cell 1)
  have d0 : ∀ y : Dk.Up w3, y.wd.cell? ⟨bm, 0, none⟩ = some (.slice (some ⟨go, 0, none⟩) S.owner.length Co) := up _ _ _ (by rw [← eo]; exact (Dk.Mdl.head h3).cell 0)
  have dh := up _ _ _ ch0
  have do_ := up _ _ _ co0
  have hni : (mm : Int) < (S.owner.length : Int) := by omega
  clear ch0 co0
  obtain ⟨hb, ehb⟩ : ∃ hb, S.held.getD mm false = hb := ⟨_, rfl⟩
  obtain ⟨ow, eow⟩ : ∃ ow, S.owner.getD mm 0 = ow := ⟨_, rfl⟩
  rw [ehb] at dh
  rw [eow] at do_
  have zi : isb (num : Int) S.conds.length = true := isb_yes hc
  have zj : isb (mm : Int) S.owner.length = true := isb_yes hn
  have hb1 : hb = true := by rw [← ehb]; exact hheld
  have ow1 : ow = who := by rw [← eow]; exact hown
  clear ehb eow hown hheld
  subst hb1 ow1
  go_wp2_with fail
  refine Dk.wp_region_up_lit_of (w0 := w3) (Below.refl _ _) (by kernel_rfl) (by kernel_rfl) ?_
  repeat (go_big_quiet_step ((go_at_call 24; exact Dk.calls_up_same _ (CI.out _ _ _))))
  refine wpQuiet_nil ?_
  intro _ hw'
  obtain ⟨y, hw''⟩ := hw'
  subst hw''
  have z1 : Below w3.heap.size w3 y.wd := y.property
  have K24 := waits_m (h3.below z1) ok ow
  rw [hwt] at K24
  have b1y := b1 y
  go_wp2_with fail
  refine K24.mono ?_
  rintro e w' ⟨rfl, hw'⟩
  have hw'' : w' = y.wd := hw'
  clear hw'
  subst w'
  clear K24 b1y
  go_wp2_with fail
  refine Dk.wp_region_up_lit_of (w0 := w3) z1 (by kernel_rfl) (by kernel_rfl) ?_
  repeat (go_big_quiet_step (fail))
  refine wpQuiet_nil ?_
  intro _ hw'
  clear z1
  obtain ⟨y, hw''⟩ := hw'
  subst hw''
  have z1 : Below w3.heap.size w3 y.wd := y.property
  have h9 := h3.below z1
  have K9 := open_none h9 ok hn choice hl0
  have ok9 : Dk.Ok { S with held := S.held.set mm false } k := ok.setHeld mm false
  have b3y := b3 y
  have b4y := b4 y
  go_wp2_with fail
  refine K9.mono ?_
  rintro e w9 ⟨rfl, h10⟩
  clear K9 b3y b4y
  have hcl : num < ({ S with held := S.held.set mm false } : Dk.St).conds.length := hc
  have hlw : (({ S with held := S.held.set mm false } : Dk.St).conds.getD num []).length ≤ 1000 := by
    have := ok9.condLen (Dk.getD_mem ({ S with held := S.held.set mm false } : Dk.St).conds [] num hcl)
    omega
  have h5 := h10.below (Dk.up_drew (Below.refl _ _))
  have f5 := (Dk.Mdl.head h5).cell 3
  have g1' := (h5.box (b := b5) (cs := #[.int .i64 what, .int .i64 ow, .int .i64 (num : Int), .int .i64 (mm : Int), .int .i64 choice]) (t := 30) (by simp)).cell 1
  have g2' := (h5.box (b := b5) (cs := #[.int .i64 what, .int .i64 ow, .int .i64 (num : Int), .int .i64 (mm : Int), .int .i64 choice]) (t := 30) (by simp)).cell 2
  have g3' := (h5.box (b := b5) (cs := #[.int .i64 what, .int .i64 ow, .int .i64 (num : Int), .int .i64 (mm : Int), .int .i64 choice]) (t := 30) (by simp)).cell 3
  obtain ⟨g5, C5, A, L, C', A', L', C'', w6, V6, e5, q5, m5, c5, r6, _, d6, z6, aw, hv6, h7⟩ := Mdl.addConds h5 hcl ow (mm : Int) hlw
  have f5' : w9.drew.cell? ⟨bm, 3, none⟩ = some (.slice (some ⟨g5, 0, none⟩) S.conds.length C5) := by
    rw [f5]
    exact congrArg some e5
  have q5' : S.conds.length ≤ C5 := q5
  unfold maxLen at m5
  have hnb : bm < w9.drew.heap.size := lt_of_cell' f5'
  have hn5 : b5 < w9.drew.heap.size := lt_of_cell' g1'
  have hap := (List.pairwise_append.1 (Hid.out h5).apart)
  have hno : ¬ (Value.ownBlock (.slice A L C') = some bm) := fun e => (List.pairwise_cons.1 hap.1).1 (Dk.nestOf 38 40 2 Dk.pr2 V.v3 V.cv S.conds) (by simp) bm rfl (.inr ⟨_, List.mem_of_getElem? hv6, e⟩)
  have hnq : ¬ (Value.ownBlock (.slice A L C') = some b5) := fun e => hap.2.2 (Dk.nestOf 38 40 2 Dk.pr2 V.v3 V.cv S.conds) (by simp [Dk.mdl]) (Dk.boxOf b5 #[.int .i64 what, .int .i64 ow, .int .i64 (num : Int), .int .i64 (mm : Int), .int .i64 choice] 30) (by simp) b5 (.inr ⟨_, List.mem_of_getElem? hv6, e⟩) rfl
  have HK : Hid (w9.drew.cell? ⟨bm, 3, none⟩ = some (.slice (some ⟨g5, 0, none⟩) S.conds.length C5) ∧ w9.drew.cell? ⟨b5, 2, none⟩ = some (.int .i64 (num : Int)) ∧ w9.drew.cell? ⟨b5, 1, none⟩ = some (.int .i64 ow) ∧ w9.drew.cell? ⟨b5, 3, none⟩ = some (.int .i64 (mm : Int)) ∧ w9.drew.cell? ⟨g5, num, none⟩ = some (.slice A L C')) := ⟨f5', g2', g1', g3', c5⟩
  have HK6 : Hid (w6.cell? ⟨bm, 3, none⟩ = some (.slice (some ⟨g5, 0, none⟩) S.conds.length C5) ∧ w6.cell? ⟨b5, 2, none⟩ = some (.int .i64 (num : Int)) ∧ w6.cell? ⟨b5, 1, none⟩ = some (.int .i64 ow) ∧ w6.cell? ⟨b5, 3, none⟩ = some (.int .i64 (mm : Int)) ∧ w6.cell? ⟨g5, num, none⟩ = some (.slice A L C')) := ⟨(Dk.Away.cell aw hnb hno 3).trans f5', (Dk.Away.cell aw hn5 hnq 2).trans g2', (Dk.Away.cell aw hn5 hnq 1).trans g1', (Dk.Away.cell aw hn5 hnq 3).trans g3', d6⟩
  have HF6 : Hid (w6.frozen? ⟨g5, num, none⟩ = false) := z6
  have HR6 : Hid _ := r6
  obtain ⟨W7, e7⟩ : ∃ W7, W7 = w6.setCell ⟨g5, num, none⟩ (.slice A' L' C'') := ⟨_, rfl⟩
  rw [← e7] at h7
  have H7 : Hid (w6.setCell ⟨g5, num, none⟩ (.slice A' L' C'') = W7) := e7.symm
  have ok7 := ok9.setConds (k' := k + 1) num hcl (({ S with held := S.held.set mm false } : Dk.St).conds.getD num [] ++ [(ow, (mm : Int))]) (Dk.snoc_mem (ok9.conds _ (Dk.getD_mem _ _ _ hcl)) ⟨hwho, by omega, by show (mm : Int) < ((({ S with held := S.held.set mm false } : Dk.St).owner.length : Nat) : Int); show (mm : Int) < (S.owner.length : Int); omega⟩) (by simp; omega)
  have hdi : (num : Int) < (S.conds.length : Int) := by omega
  clear b0 b1 b2 b3 b4 bb bn d0 d1 d3 dh do_ h3 h5 h9 h10 e7 ok ok9 aw d6 z6 r6 c5 hap hno hnq f5 f5' g1' g2' g3' e5 hv6 eh eo up CI z1 q5
  go_wp2_with fail
  refine Dk.wp_region_lineZ (z := 22) (S := fun w' => w'.cell? ⟨bm, 3, none⟩ = some (.slice (some ⟨g5, 0, none⟩) S.conds.length C5) ∧ w'.cell? ⟨b5, 2, none⟩ = some (.int .i64 (num : Int)) ∧ w'.cell? ⟨b5, 1, none⟩ = some (.int .i64 ow) ∧ w'.cell? ⟨b5, 3, none⟩ = some (.int .i64 (mm : Int)) ∧ w'.cell? ⟨g5, num, none⟩ = some (.slice A L C')) [0, 1, 2, 3, 4, 5, 6, 7, 8, 9, 10, 11, 12, 13, 14, 15, 16, 17, 18] [19, 20, 21, 22] (by kernel_rfl) (by kernel_rfl) (by kernel_rfl) HK.out ?_
  refine Dk.held_step (v := .pointer (some ⟨bm, 0, none⟩)) rfl rfl (fun w' hw' => by obtain ⟨q0, q1, q2, q3, q4⟩ := hw'; go_simp) ?_
  simp only [Act.put, List.setIfInBounds_toArray, List.set_cons_succ, List.set_cons_zero]
  refine Dk.held_step (v := .pointer (some ⟨bm, 0, none⟩)) rfl rfl (fun w' hw' => by obtain ⟨q0, q1, q2, q3, q4⟩ := hw'; go_simp) ?_
  simp only [Act.put, List.setIfInBounds_toArray, List.set_cons_succ, List.set_cons_zero]
  refine Dk.held_step (v := .pointer (some ⟨bm, 3, none⟩)) rfl rfl (fun w' hw' => by obtain ⟨q0, q1, q2, q3, q4⟩ := hw'; go_simp) ?_
  simp only [Act.put, List.setIfInBounds_toArray, List.set_cons_succ, List.set_cons_zero]
  refine Dk.held_step (v := .slice (some ⟨g5, 0, none⟩) S.conds.length C5) rfl rfl (fun w' hw' => by obtain ⟨q0, q1, q2, q3, q4⟩ := hw'; go_simp) ?_
  simp only [Act.put, List.setIfInBounds_toArray, List.set_cons_succ, List.set_cons_zero]
  refine Dk.held_step (v := .pointer (some ⟨b5, 2, none⟩)) rfl rfl (fun w' hw' => by obtain ⟨q0, q1, q2, q3, q4⟩ := hw'; go_simp) ?_
  simp only [Act.put, List.setIfInBounds_toArray, List.set_cons_succ, List.set_cons_zero]
  refine Dk.held_step (v := .int .i64 (num : Int)) rfl rfl (fun w' hw' => by obtain ⟨q0, q1, q2, q3, q4⟩ := hw'; go_simp) ?_
  simp only [Act.put, List.setIfInBounds_toArray, List.set_cons_succ, List.set_cons_zero]
  refine Dk.held_step (v := .pointer (some ⟨bm, 0, none⟩)) rfl rfl (fun w' hw' => by obtain ⟨q0, q1, q2, q3, q4⟩ := hw'; go_simp) ?_
  simp only [Act.put, List.setIfInBounds_toArray, List.set_cons_succ, List.set_cons_zero]
  refine Dk.held_step (v := .pointer (some ⟨bm, 0, none⟩)) rfl rfl (fun w' hw' => by obtain ⟨q0, q1, q2, q3, q4⟩ := hw'; go_simp) ?_
  simp only [Act.put, List.setIfInBounds_toArray, List.set_cons_succ, List.set_cons_zero]
  refine Dk.held_step (v := .pointer (some ⟨bm, 3, none⟩)) rfl rfl (fun w' hw' => by obtain ⟨q0, q1, q2, q3, q4⟩ := hw'; go_simp) ?_
  simp only [Act.put, List.setIfInBounds_toArray, List.set_cons_succ, List.set_cons_zero]
  refine Dk.held_step (v := .slice (some ⟨g5, 0, none⟩) S.conds.length C5) rfl rfl (fun w' hw' => by obtain ⟨q0, q1, q2, q3, q4⟩ := hw'; go_simp) ?_
  simp only [Act.put, List.setIfInBounds_toArray, List.set_cons_succ, List.set_cons_zero]
  refine Dk.held_step (v := .pointer (some ⟨b5, 2, none⟩)) rfl rfl (fun w' hw' => by obtain ⟨q0, q1, q2, q3, q4⟩ := hw'; go_simp) ?_
  simp only [Act.put, List.setIfInBounds_toArray, List.set_cons_succ, List.set_cons_zero]
  refine Dk.held_step (v := .int .i64 (num : Int)) rfl rfl (fun w' hw' => by obtain ⟨q0, q1, q2, q3, q4⟩ := hw'; go_simp) ?_
  simp only [Act.put, List.setIfInBounds_toArray, List.set_cons_succ, List.set_cons_zero]
  refine Dk.held_step (v := .pointer (some ⟨g5, num, none⟩)) rfl rfl (fun w' hw' => by obtain ⟨q0, q1, q2, q3, q4⟩ := hw'; go_simp) ?_
  simp only [Act.put, List.setIfInBounds_toArray, List.set_cons_succ, List.set_cons_zero]
  refine Dk.held_step (v := .slice A L C') rfl rfl (fun w' hw' => by obtain ⟨q0, q1, q2, q3, q4⟩ := hw'; go_simp) ?_
  simp only [Act.put, List.setIfInBounds_toArray, List.set_cons_succ, List.set_cons_zero]
  refine Dk.held_step (v := .pointer (some ⟨b5, 1, none⟩)) rfl rfl (fun w' hw' => by obtain ⟨q0, q1, q2, q3, q4⟩ := hw'; go_simp) ?_
  simp only [Act.put, List.setIfInBounds_toArray, List.set_cons_succ, List.set_cons_zero]
  refine Dk.held_step (v := .int .i64 ow) rfl rfl (fun w' hw' => by obtain ⟨q0, q1, q2, q3, q4⟩ := hw'; go_simp) ?_
  simp only [Act.put, List.setIfInBounds_toArray, List.set_cons_succ, List.set_cons_zero]
  refine Dk.held_step (v := .pointer (some ⟨b5, 3, none⟩)) rfl rfl (fun w' hw' => by obtain ⟨q0, q1, q2, q3, q4⟩ := hw'; go_simp) ?_
  simp only [Act.put, List.setIfInBounds_toArray, List.set_cons_succ, List.set_cons_zero]
  refine Dk.held_step (v := .int .i64 (mm : Int)) rfl rfl (fun w' hw' => by obtain ⟨q0, q1, q2, q3, q4⟩ := hw'; go_simp) ?_
  simp only [Act.put, List.setIfInBounds_toArray, List.set_cons_succ, List.set_cons_zero]
  refine Dk.held_step (v := .agg #[.int .i64 ow, .int .i64 (mm : Int)]) rfl rfl (fun w' hw' => by obtain ⟨q0, q1, q2, q3, q4⟩ := hw'; go_simp) ?_
  simp only [Act.put, List.setIfInBounds_toArray, List.set_cons_succ, List.set_cons_zero]
  obtain ⟨W5, e5⟩ : ∃ W5, W5 = w9.drew.alloc (.cells #[.int .i64 ow, .int .i64 (mm : Int)] 40) := ⟨_, rfl⟩
  have S5 : W5.cell? ⟨bm, 3, none⟩ = some (.slice (some ⟨g5, 0, none⟩) S.conds.length C5) ∧ W5.cell? ⟨b5, 2, none⟩ = some (.int .i64 (num : Int)) ∧ W5.cell? ⟨b5, 1, none⟩ = some (.int .i64 ow) ∧ W5.cell? ⟨b5, 3, none⟩ = some (.int .i64 (mm : Int)) ∧ W5.cell? ⟨g5, num, none⟩ = some (.slice A L C') := by
    rw [e5]
    obtain ⟨q0, q1, q2, q3, q4⟩ := HK.out
    exact ⟨Lib.cell?_alloc_some _ q0, Lib.cell?_alloc_some _ q1, Lib.cell?_alloc_some _ q2, Lib.cell?_alloc_some _ q3, Lib.cell?_alloc_some _ q4⟩
  refine Dk.lineZ_step (v := .slice (some ⟨w9.drew.heap.size, 0, none⟩) 1 1) (w' := W5) rfl rfl (by rw [e5]; go_simp) (fun _ => S5) ?_
  simp only [Act.put, List.setIfInBounds_toArray, List.set_cons_succ, List.set_cons_zero]
  have r5 := HR6.out
  rw [← e5, show w9.drew.heap.size = w9.heap.size from rfl] at r5
  refine Dk.lineZ_step (v := .slice A' L' C'') (w' := w6) rfl rfl (by simp only [execOp, resolve, invoke, builtin]; simp [Act.eval, r5]) (fun _ => HK6.out) ?_
  simp only [Act.put, List.setIfInBounds_toArray, List.set_cons_succ, List.set_cons_zero]
  refine Dk.lineZ_step (v := .pointer (some ⟨g5, num, none⟩)) (w' := w6) rfl rfl (by go_simp) (fun _ => HK6.out) ?_
  simp only [Act.put, List.setIfInBounds_toArray, List.set_cons_succ, List.set_cons_zero]
  refine Dk.lineZ_skip (w' := W7) rfl rfl (by rw [← H7.out]; have q1 := HK6.out.2.2.2.2; have q2 := HF6.out; go_simp) (fun h => absurd rfl h) ?_
  simp only [Act.put, List.setIfInBounds_toArray, List.set_cons_succ, List.set_cons_zero]
  rename ∀ (_ : Act) (_ : World), Code.wp _ _ _ _ _ → _ => hK
  refine hK _ _ ?_
  clear hK HK HK6 HF6 HR6 H7 e5 S5 r5
  go_wp2_with fail
  go_ret
  exact ⟨rfl, _, _, ts', hG', dropX h7, ok7⟩
set_option maxRecDepth 100000 in
set_option maxHeartbeats 8000000 in
theorem play_wait_some (I : GateI G0) (hG : G0 bg S ts) (h : Dk.Sep W w (Dk.mdl bm V S ++ (us ++ ts))) (ok : Dk.Ok S k) (hk : k ≤ 300) (what who : Int) (num : Nat) (mm : Nat) (choice : Int) (hwhat : what = 2) (hc : num < S.conds.length) (hn : mm < S.owner.length) (hwho : Dk.i64 who) (hch : Dk.i64 choice) (hwt : S.waits who = false) (hheld : S.held.getD mm false = true) (hown : S.owner.getD mm 0 = who) (hlp : 0 < (S.wait.getD mm []).length) :
    Calls Try.prog 10 #[.pointer (some ⟨bg, 0, none⟩), .pointer (some ⟨bm, 0, none⟩), .agg #[.int .i64 what, .int .i64 who, .int .i64 (num : Int), .int .i64 (mm : Int), .int .i64 choice]] w fun e w' => e = .returned (.bool true) ∧ Both G0 W w' bg bm (k + 1) us := by
  obtain ⟨W1, e1⟩ : ∃ W1, W1 = w.alloc (.cells #[.int .i64 what, .int .i64 who, .int .i64 (num : Int), .int .i64 (mm : Int), .int .i64 choice] 30) := ⟨_, rfl⟩
  have h1 : Dk.Sep W W1 (Dk.mdl bm V S ++ (Dk.boxOf w.heap.size #[.int .i64 what, .int .i64 who, .int .i64 (num : Int), .int .i64 (mm : Int), .int .i64 choice] 30 :: us ++ ts)) := (h.newBox e1).perm List.perm_middle.symm
  have H1 : Hid (w.alloc (.cells #[.int .i64 what, .int .i64 who, .int .i64 (num : Int), .int .i64 (mm : Int), .int .i64 choice] 30) = W1) := e1.symm
  obtain ⟨b5, eb5⟩ : ∃ b5, w.heap.size = b5 := ⟨_, rfl⟩
  rw [eb5] at h1
  have HB5 : Hid (w.heap.size = b5) := eb5
  clear e1 eb5
  have b1x : Dk.Box W1 b5 #[.int .i64 what, .int .i64 who, .int .i64 (num : Int), .int .i64 (mm : Int), .int .i64 choice] 30 := h1.box (by simp)
  have c0 : W1.cell? ⟨b5, 0, none⟩ = some (.int .i64 what) := b1x.cell 0
  have c1 : W1.cell? ⟨b5, 1, none⟩ = some (.int .i64 who) := b1x.cell 1
  have c2 : W1.cell? ⟨b5, 2, none⟩ = some (.int .i64 (num : Int)) := b1x.cell 2
  have c3 : W1.cell? ⟨b5, 3, none⟩ = some (.int .i64 (mm : Int)) := b1x.cell 3
  have c4 : W1.cell? ⟨b5, 4, none⟩ = some (.int .i64 choice) := b1x.cell 4
  clear b1x
  have hw0b : decide (what = 0) = false := decide_eq_false (by omega)
  have hw0c : (what == 0) = false := by simpa using (show ¬ what = 0 by omega)
  have hw1b : decide (what = 1) = false := decide_eq_false (by omega)
  have hw1c : (what == 1) = false := by simpa using (show ¬ what = 1 by omega)
  have hw2b : decide (what = 2) = true := decide_eq_true (by omega)
  have hw2c : (what == 2) = true := by simpa using (show what = 2 by omega)
  have hw3b : decide (what = 3) = false := decide_eq_false (by omega)
  have hw3c : (what == 3) = false := by simpa using (show ¬ what = 3 by omega)
  have hw4b : decide (what = 4) = false := decide_eq_false (by omega)
  have hw4c : (what == 4) = false := by simpa using (show ¬ what = 4 by omega)
  clear hwhat
  have K2 := I.wait_ok hG (toG h1) ok hk who num mm choice hc hn hwho hch hwt hheld hown
  obtain ⟨l, el⟩ : ∃ l, S.wait.getD mm [] = l := ⟨_, rfl⟩
  have hlp' : 0 < l.length := by rw [← el]; exact hlp
  obtain ⟨a, ea⟩ : ∃ a, Dk.at_ choice l.length = a := ⟨_, rfl⟩
  obtain ⟨x, ex⟩ : ∃ x, l.getD a 0 = x := ⟨_, rfl⟩
  rw [Dk.open_eq_some S mm choice l el hlp' a ea x ex] at K2
  go_enter Try.func10, Try.ntmps10
  go_wp2_with (rw [H1.out, HB5.out]; clear H1)
  refine K2.mono ?_
  rintro e w3 ⟨rfl, ts', hG', h3'⟩
  have h3 := ofG h3'
  clear K2 h3' c0 c1 c2 c3 c4 h1
  have bb : ∀ y : Dk.Up w3, Dk.Box y.wd b5 #[.int .i64 what, .int .i64 who, .int .i64 (num : Int), .int .i64 (mm : Int), .int .i64 choice] 30 := fun y => (h3.below y.property).box (by simp)
  have b0 : ∀ y : Dk.Up w3, y.wd.cell? ⟨b5, 0, none⟩ = some (.int .i64 what) := fun y => (bb y).cell 0
  have b1 : ∀ y : Dk.Up w3, y.wd.cell? ⟨b5, 1, none⟩ = some (.int .i64 who) := fun y => (bb y).cell 1
  have b2 : ∀ y : Dk.Up w3, y.wd.cell? ⟨b5, 2, none⟩ = some (.int .i64 (num : Int)) := fun y => (bb y).cell 2
  have b3 : ∀ y : Dk.Up w3, y.wd.cell? ⟨b5, 3, none⟩ = some (.int .i64 (mm : Int)) := fun y => (bb y).cell 3
  have b4 : ∀ y : Dk.Up w3, y.wd.cell? ⟨b5, 4, none⟩ = some (.int .i64 choice) := fun y => (bb y).cell 4
  have bn : Nonempty (Dk.Up w3) := ⟨⟨w3, Below.refl _ _⟩⟩
  have up : ∀ b o v, w3.cell? ⟨b, o, none⟩ = some v → ∀ y : Dk.Up w3, y.wd.cell? ⟨b, o, none⟩ = some v := fun b o v hv y => (y.property.cell (p := ⟨b, o, none⟩) (lt_of_cell' hv)).trans hv
  have KI : ∀ (n : Int) (size : Nat) (y : Dk.Up w3), Calls Try.prog 24 #[.int .i64 n, .int .i64 (size : Int)] y.wd fun e w' => e = .returned (.bool (isb n size)) ∧ w' = y.wd := fun n size y => is_any n size y.wd
  have CI : Hid _ := KI
  clear KI
  obtain ⟨A3, Cx3, e3, q3, m3⟩ := h3.nestLen (eh := 38) (e := 40) (s := 2) (f := Dk.pr2) (v := V.v3) (vs := V.cv) (xss := S.conds) (by simp [Dk.mdl])
  have d3 : ∀ y : Dk.Up w3, y.wd.cell? ⟨bm, 3, none⟩ = some (.slice A3 S.conds.length Cx3) := up _ _ _ (by rw [← e3]; exact (Dk.Mdl.head h3).cell 3)
  clear e3
  have hhn : mm < S.held.length := by rw [ok.held]; exact hn
  obtain ⟨gh, Ch, eh, qh, mh, ch0, _, _⟩ := Mdl.setHeld h3 (n := mm) hhn
  obtain ⟨go, Co, eo, qo, mo, co0, _, _⟩ := Mdl.setOwner h3 (n := mm) hn
  rw [ok.held] at eh qh
  unfold maxLen at mh mo
  have d1 : ∀ y : Dk.Up w3, y.wd.cell? ⟨bm, 1, none⟩ = some (.slice (some ⟨gh, 0, none⟩) S.owner.length Ch) := up _ _ _ (by rw [← eh]; exact (Dk.Mdl.head h3).cell 1)
  have d0 : ∀ y : Dk.Up w3, y.wd.cell? ⟨bm, 0, none⟩ = some (.slice (some ⟨go, 0, none⟩) S.owner.length Co) := up _ _ _ (by rw [← eo]; exact (Dk.Mdl.head h3).cell 0)
  have dh := up _ _ _ ch0
  have do_ := up _ _ _ co0
  have hni : (mm : Int) < (S.owner.length : Int) := by omega
  clear ch0 co0
  obtain ⟨hb, ehb⟩ : ∃ hb, S.held.getD mm false = hb := ⟨_, rfl⟩
  obtain ⟨ow, eow⟩ : ∃ ow, S.owner.getD mm 0 = ow := ⟨_, rfl⟩
  rw [ehb] at dh
  rw [eow] at do_
  have zi : isb (num : Int) S.conds.length = true := isb_yes hc
  have zj : isb (mm : Int) S.owner.length = true := isb_yes hn
  have hb1 : hb = true := by rw [← ehb]; exact hheld
  have ow1 : ow = who := by rw [← eow]; exact hown
  clear ehb eow hown hheld
  subst hb1 ow1
  go_wp2_with fail
  refine Dk.wp_region_up_lit_of (w0 := w3) (Below.refl _ _) (by kernel_rfl) (by kernel_rfl) ?_
  repeat (go_big_quiet_step ((go_at_call 24; exact Dk.calls_up_same _ (CI.out _ _ _))))
  refine wpQuiet_nil ?_
  intro _ hw'
  obtain ⟨y, hw''⟩ := hw'
  subst hw''
  have z1 : Below w3.heap.size w3 y.wd := y.property
  have K24 := waits_m (h3.below z1) ok ow
  rw [hwt] at K24
  have b1y := b1 y
  go_wp2_with fail
  refine K24.mono ?_
  rintro e w' ⟨rfl, hw'⟩
  have hw'' : w' = y.wd := hw'
  clear hw'
  subst w'
  clear K24 b1y
  go_wp2_with fail
  refine Dk.wp_region_up_lit_of (w0 := w3) z1 (by kernel_rfl) (by kernel_rfl) ?_
  repeat (go_big_quiet_step (fail))
  refine wpQuiet_nil ?_
  intro _ hw'
  clear z1
  obtain ⟨y, hw''⟩ := hw'
  subst hw''
  have z1 : Below w3.heap.size w3 y.wd := y.property
  have h9 := h3.below z1
  have K9 := open_some h9 ok (by omega) hn choice hch l el hlp' a ea x ex
  have hdn : mm < S.wait.length := by rw [ok.wait]; exact hn
  have hlm : l ∈ S.wait := by rw [← el]; exact Dk.getD_mem S.wait [] mm hdn
  have hal : a < l.length := by rw [← ea]; exact Dk.at_lt choice hlp'
  have hx64 : Dk.i64 x := by rw [← ex]; exact ok.waits l hlm _ (Dk.getD_mem l 0 a hal)
  have ok9 : Dk.Ok { S with owner := S.owner.set mm x, wait := S.wait.set mm (l.eraseIdx a) } k := (ok.setOwner mm x hx64).setWait mm hdn _ (Dk.erase_mem (ok.waits l hlm)) (by show _ ≤ _ + (S.wait.getD mm []).length; rw [el, List.length_eraseIdx, if_pos hal]; omega)
  clear el ea ex hlm
  have b3y := b3 y
  have b4y := b4 y
  go_wp2_with fail
  refine K9.mono ?_
  rintro e w9 ⟨rfl, V9, h10⟩
  clear K9 b3y b4y
  have hcl : num < ({ S with owner := S.owner.set mm x, wait := S.wait.set mm (l.eraseIdx a) } : Dk.St).conds.length := hc
  have hlw : (({ S with owner := S.owner.set mm x, wait := S.wait.set mm (l.eraseIdx a) } : Dk.St).conds.getD num []).length ≤ 1000 := by
    have := ok9.condLen (Dk.getD_mem ({ S with owner := S.owner.set mm x, wait := S.wait.set mm (l.eraseIdx a) } : Dk.St).conds [] num hcl)
    omega
  have h5 := h10.below (Dk.up_drew (Below.refl _ _))
  have f5 := (Dk.Mdl.head h5).cell 3
  have g1' := (h5.box (b := b5) (cs := #[.int .i64 what, .int .i64 ow, .int .i64 (num : Int), .int .i64 (mm : Int), .int .i64 choice]) (t := 30) (by simp)).cell 1
  have g2' := (h5.box (b := b5) (cs := #[.int .i64 what, .int .i64 ow, .int .i64 (num : Int), .int .i64 (mm : Int), .int .i64 choice]) (t := 30) (by simp)).cell 2
  have g3' := (h5.box (b := b5) (cs := #[.int .i64 what, .int .i64 ow, .int .i64 (num : Int), .int .i64 (mm : Int), .int .i64 choice]) (t := 30) (by simp)).cell 3
  obtain ⟨g5, C5, A, L, C', A', L', C'', w6, V6, e5, q5, m5, c5, r6, _, d6, z6, aw, hv6, h7⟩ := Mdl.addConds h5 hcl ow (mm : Int) hlw
  have f5' : w9.drew.cell? ⟨bm, 3, none⟩ = some (.slice (some ⟨g5, 0, none⟩) S.conds.length C5) := by
    rw [f5]
    exact congrArg some e5
  have q5' : S.conds.length ≤ C5 := q5
  unfold maxLen at m5
  have hnb : bm < w9.drew.heap.size := lt_of_cell' f5'
  have hn5 : b5 < w9.drew.heap.size := lt_of_cell' g1'
  have hap := (List.pairwise_append.1 (Hid.out h5).apart)
  have hno : ¬ (Value.ownBlock (.slice A L C') = some bm) := fun e => (List.pairwise_cons.1 hap.1).1 (Dk.nestOf 38 40 2 Dk.pr2 V9.v3 V9.cv S.conds) (by simp) bm rfl (.inr ⟨_, List.mem_of_getElem? hv6, e⟩)
  have hnq : ¬ (Value.ownBlock (.slice A L C') = some b5) := fun e => hap.2.2 (Dk.nestOf 38 40 2 Dk.pr2 V9.v3 V9.cv S.conds) (by simp [Dk.mdl]) (Dk.boxOf b5 #[.int .i64 what, .int .i64 ow, .int .i64 (num : Int), .int .i64 (mm : Int), .int .i64 choice] 30) (by simp) b5 (.inr ⟨_, List.mem_of_getElem? hv6, e⟩) rfl
  have HK : Hid (w9.drew.cell? ⟨bm, 3, none⟩ = some (.slice (some ⟨g5, 0, none⟩) S.conds.length C5) ∧ w9.drew.cell? ⟨b5, 2, none⟩ = some (.int .i64 (num : Int)) ∧ w9.drew.cell? ⟨b5, 1, none⟩ = some (.int .i64 ow) ∧ w9.drew.cell? ⟨b5, 3, none⟩ = some (.int .i64 (mm : Int)) ∧ w9.drew.cell? ⟨g5, num, none⟩ = some (.slice A L C')) := ⟨f5', g2', g1', g3', c5⟩
  have HK6 : Hid (w6.cell? ⟨bm, 3, none⟩ = some (.slice (some ⟨g5, 0, none⟩) S.conds.length C5) ∧ w6.cell? ⟨b5, 2, none⟩ = some (.int .i64 (num : Int)) ∧ w6.cell? ⟨b5, 1, none⟩ = some (.int .i64 ow) ∧ w6.cell? ⟨b5, 3, none⟩ = some (.int .i64 (mm : Int)) ∧ w6.cell? ⟨g5, num, none⟩ = some (.slice A L C')) := ⟨(Dk.Away.cell aw hnb hno 3).trans f5', (Dk.Away.cell aw hn5 hnq 2).trans g2', (Dk.Away.cell aw hn5 hnq 1).trans g1', (Dk.Away.cell aw hn5 hnq 3).trans g3', d6⟩
  have HF6 : Hid (w6.frozen? ⟨g5, num, none⟩ = false) := z6
  have HR6 : Hid _ := r6
  obtain ⟨W7, e7⟩ : ∃ W7, W7 = w6.setCell ⟨g5, num, none⟩ (.slice A' L' C'') := ⟨_, rfl⟩
  rw [← e7] at h7
  have H7 : Hid (w6.setCell ⟨g5, num, none⟩ (.slice A' L' C'') = W7) := e7.symm
  have ok7 := ok9.setConds (k' := k + 1) num hcl (({ S with owner := S.owner.set mm x, wait := S.wait.set mm (l.eraseIdx a) } : Dk.St).conds.getD num [] ++ [(ow, (mm : Int))]) (Dk.snoc_mem (ok9.conds _ (Dk.getD_mem _ _ _ hcl)) ⟨hwho, by omega, by show (mm : Int) < ((({ S with owner := S.owner.set mm x, wait := S.wait.set mm (l.eraseIdx a) } : Dk.St).owner.length : Nat) : Int); simp only [List.length_set]; omega⟩) (by simp; omega)
  have hdi : (num : Int) < (S.conds.length : Int) := by omega
  clear b0 b1 b2 b3 b4 bb bn d0 d1 d3 dh do_ h3 h5 h9 h10 e7 ok ok9 aw d6 z6 r6 c5 hap hno hnq f5 f5' g1' g2' g3' e5 hv6 eh eo up CI z1 q5
  go_wp2_with fail
  refine Dk.wp_region_lineZ (z := 22) (S := fun w' => w'.cell? ⟨bm, 3, none⟩ = some (.slice (some ⟨g5, 0, none⟩) S.conds.length C5) ∧ w'.cell? ⟨b5, 2, none⟩ = some (.int .i64 (num : Int)) ∧ w'.cell? ⟨b5, 1, none⟩ = some (.int .i64 ow) ∧ w'.cell? ⟨b5, 3, none⟩ = some (.int .i64 (mm : Int)) ∧ w'.cell? ⟨g5, num, none⟩ = some (.slice A L C')) [0, 1, 2, 3, 4, 5, 6, 7, 8, 9, 10, 11, 12, 13, 14, 15, 16, 17, 18] [19, 20, 21, 22] (by kernel_rfl) (by kernel_rfl) (by kernel_rfl) HK.out ?_
  refine Dk.held_step (v := .pointer (some ⟨bm, 0, none⟩)) rfl rfl (fun w' hw' => by obtain ⟨q0, q1, q2, q3, q4⟩ := hw'; go_simp) ?_
  simp only [Act.put, List.setIfInBounds_toArray, List.set_cons_succ, List.set_cons_zero]
  refine Dk.held_step (v := .pointer (some ⟨bm, 0, none⟩)) rfl rfl (fun w' hw' => by obtain ⟨q0, q1, q2, q3, q4⟩ := hw'; go_simp) ?_
  simp only [Act.put, List.setIfInBounds_toArray, List.set_cons_succ, List.set_cons_zero]
  refine Dk.held_step (v := .pointer (some ⟨bm, 3, none⟩)) rfl rfl (fun w' hw' => by obtain ⟨q0, q1, q2, q3, q4⟩ := hw'; go_simp) ?_
  simp only [Act.put, List.setIfInBounds_toArray, List.set_cons_succ, List.set_cons_zero]
  refine Dk.held_step (v := .slice (some ⟨g5, 0, none⟩) S.conds.length C5) rfl rfl (fun w' hw' => by obtain ⟨q0, q1, q2, q3, q4⟩ := hw'; go_simp) ?_
  simp only [Act.put, List.setIfInBounds_toArray, List.set_cons_succ, List.set_cons_zero]
  refine Dk.held_step (v := .pointer (some ⟨b5, 2, none⟩)) rfl rfl (fun w' hw' => by obtain ⟨q0, q1, q2, q3, q4⟩ := hw'; go_simp) ?_
  simp only [Act.put, List.setIfInBounds_toArray, List.set_cons_succ, List.set_cons_zero]
  refine Dk.held_step (v := .int .i64 (num : Int)) rfl rfl (fun w' hw' => by obtain ⟨q0, q1, q2, q3, q4⟩ := hw'; go_simp) ?_
  simp only [Act.put, List.setIfInBounds_toArray, List.set_cons_succ, List.set_cons_zero]
  refine Dk.held_step (v := .pointer (some ⟨bm, 0, none⟩)) rfl rfl (fun w' hw' => by obtain ⟨q0, q1, q2, q3, q4⟩ := hw'; go_simp) ?_
  simp only [Act.put, List.setIfInBounds_toArray, List.set_cons_succ, List.set_cons_zero]
  refine Dk.held_step (v := .pointer (some ⟨bm, 0, none⟩)) rfl rfl (fun w' hw' => by obtain ⟨q0, q1, q2, q3, q4⟩ := hw'; go_simp) ?_
  simp only [Act.put, List.setIfInBounds_toArray, List.set_cons_succ, List.set_cons_zero]
  refine Dk.held_step (v := .pointer (some ⟨bm, 3, none⟩)) rfl rfl (fun w' hw' => by obtain ⟨q0, q1, q2, q3, q4⟩ := hw'; go_simp) ?_
  simp only [Act.put, List.setIfInBounds_toArray, List.set_cons_succ, List.set_cons_zero]
  refine Dk.held_step (v := .slice (some ⟨g5, 0, none⟩) S.conds.length C5) rfl rfl (fun w' hw' => by obtain ⟨q0, q1, q2, q3, q4⟩ := hw'; go_simp) ?_
  simp only [Act.put, List.setIfInBounds_toArray, List.set_cons_succ, List.set_cons_zero]
  refine Dk.held_step (v := .pointer (some ⟨b5, 2, none⟩)) rfl rfl (fun w' hw' => by obtain ⟨q0, q1, q2, q3, q4⟩ := hw'; go_simp) ?_
  simp only [Act.put, List.setIfInBounds_toArray, List.set_cons_succ, List.set_cons_zero]
  refine Dk.held_step (v := .int .i64 (num : Int)) rfl rfl (fun w' hw' => by obtain ⟨q0, q1, q2, q3, q4⟩ := hw'; go_simp) ?_
  simp only [Act.put, List.setIfInBounds_toArray, List.set_cons_succ, List.set_cons_zero]
  refine Dk.held_step (v := .pointer (some ⟨g5, num, none⟩)) rfl rfl (fun w' hw' => by obtain ⟨q0, q1, q2, q3, q4⟩ := hw'; go_simp) ?_
  simp only [Act.put, List.setIfInBounds_toArray, List.set_cons_succ, List.set_cons_zero]
  refine Dk.held_step (v := .slice A L C') rfl rfl (fun w' hw' => by obtain ⟨q0, q1, q2, q3, q4⟩ := hw'; go_simp) ?_
  simp only [Act.put, List.setIfInBounds_toArray, List.set_cons_succ, List.set_cons_zero]
  refine Dk.held_step (v := .pointer (some ⟨b5, 1, none⟩)) rfl rfl (fun w' hw' => by obtain ⟨q0, q1, q2, q3, q4⟩ := hw'; go_simp) ?_
  simp only [Act.put, List.setIfInBounds_toArray, List.set_cons_succ, List.set_cons_zero]
  refine Dk.held_step (v := .int .i64 ow) rfl rfl (fun w' hw' => by obtain ⟨q0, q1, q2, q3, q4⟩ := hw'; go_simp) ?_
  simp only [Act.put, List.setIfInBounds_toArray, List.set_cons_succ, List.set_cons_zero]
  refine Dk.held_step (v := .pointer (some ⟨b5, 3, none⟩)) rfl rfl (fun w' hw' => by obtain ⟨q0, q1, q2, q3, q4⟩ := hw'; go_simp) ?_
  simp only [Act.put, List.setIfInBounds_toArray, List.set_cons_succ, List.set_cons_zero]
  refine Dk.held_step (v := .int .i64 (mm : Int)) rfl rfl (fun w' hw' => by obtain ⟨q0, q1, q2, q3, q4⟩ := hw'; go_simp) ?_
  simp only [Act.put, List.setIfInBounds_toArray, List.set_cons_succ, List.set_cons_zero]
  refine Dk.held_step (v := .agg #[.int .i64 ow, .int .i64 (mm : Int)]) rfl rfl (fun w' hw' => by obtain ⟨q0, q1, q2, q3, q4⟩ := hw'; go_simp) ?_
  simp only [Act.put, List.setIfInBounds_toArray, List.set_cons_succ, List.set_cons_zero]
  obtain ⟨W5, e5⟩ : ∃ W5, W5 = w9.drew.alloc (.cells #[.int .i64 ow, .int .i64 (mm : Int)] 40) := ⟨_, rfl⟩
  have S5 : W5.cell? ⟨bm, 3, none⟩ = some (.slice (some ⟨g5, 0, none⟩) S.conds.length C5) ∧ W5.cell? ⟨b5, 2, none⟩ = some (.int .i64 (num : Int)) ∧ W5.cell? ⟨b5, 1, none⟩ = some (.int .i64 ow) ∧ W5.cell? ⟨b5, 3, none⟩ = some (.int .i64 (mm : Int)) ∧ W5.cell? ⟨g5, num, none⟩ = some (.slice A L C') := by
    rw [e5]
    obtain ⟨q0, q1, q2, q3, q4⟩ := HK.out
    exact ⟨Lib.cell?_alloc_some _ q0, Lib.cell?_alloc_some _ q1, Lib.cell?_alloc_some _ q2, Lib.cell?_alloc_some _ q3, Lib.cell?_alloc_some _ q4⟩
  refine Dk.lineZ_step (v := .slice (some ⟨w9.drew.heap.size, 0, none⟩) 1 1) (w' := W5) rfl rfl (by rw [e5]; go_simp) (fun _ => S5) ?_
  simp only [Act.put, List.setIfInBounds_toArray, List.set_cons_succ, List.set_cons_zero]
  have r5 := HR6.out
  rw [← e5, show w9.drew.heap.size = w9.heap.size from rfl] at r5
  refine Dk.lineZ_step (v := .slice A' L' C'') (w' := w6) rfl rfl (by simp only [execOp, resolve, invoke, builtin]; simp [Act.eval, r5]) (fun _ => HK6.out) ?_
  simp only [Act.put, List.setIfInBounds_toArray, List.set_cons_succ, List.set_cons_zero]
  refine Dk.lineZ_step (v := .pointer (some ⟨g5, num, none⟩)) (w' := w6) rfl rfl (by go_simp) (fun _ => HK6.out) ?_
  simp only [Act.put, List.setIfInBounds_toArray, List.set_cons_succ, List.set_cons_zero]
  refine Dk.lineZ_skip (w' := W7) rfl rfl (by rw [← H7.out]; have q1 := HK6.out.2.2.2.2; have q2 := HF6.out; go_simp) (fun h => absurd rfl h) ?_
  simp only [Act.put, List.setIfInBounds_toArray, List.set_cons_succ, List.set_cons_zero]
  rename ∀ (_ : Act) (_ : World), Code.wp _ _ _ _ _ → _ => hK
  refine hK _ _ ?_
  clear hK HK HK6 HF6 HR6 H7 e5 S5 r5
  go_wp2_with fail
  go_ret
  exact ⟨rfl, _, _, ts', hG', dropX h7, ok7⟩
set_option maxRecDepth 100000 in
set_option maxHeartbeats 8000000 in
theorem play_signal3_arg (I : GateI G0) (hG : G0 bg S ts) (h : Dk.Sep W w (Dk.mdl bm V S ++ (us ++ ts))) (ok : Dk.Ok S k) (hk : k ≤ 300) (what who num mm choice : Int) (hwhat : what = 3) (hno : num < 0 ∨ (S.conds.length : Int) ≤ num) :
    Calls Try.prog 10 #[.pointer (some ⟨bg, 0, none⟩), .pointer (some ⟨bm, 0, none⟩), .agg #[.int .i64 what, .int .i64 who, .int .i64 num, .int .i64 mm, .int .i64 choice]] w fun e w' => e = .returned (.bool true) ∧ Both G0 W w' bg bm (k + 1) us := by
  obtain ⟨W1, e1⟩ : ∃ W1, W1 = w.alloc (.cells #[.int .i64 what, .int .i64 who, .int .i64 num, .int .i64 mm, .int .i64 choice] 30) := ⟨_, rfl⟩
  have h1 : Dk.Sep W W1 (Dk.mdl bm V S ++ (Dk.boxOf w.heap.size #[.int .i64 what, .int .i64 who, .int .i64 num, .int .i64 mm, .int .i64 choice] 30 :: us ++ ts)) := (h.newBox e1).perm List.perm_middle.symm
  have H1 : Hid (w.alloc (.cells #[.int .i64 what, .int .i64 who, .int .i64 num, .int .i64 mm, .int .i64 choice] 30) = W1) := e1.symm
  obtain ⟨b5, eb5⟩ : ∃ b5, w.heap.size = b5 := ⟨_, rfl⟩
  rw [eb5] at h1
  have HB5 : Hid (w.heap.size = b5) := eb5
  clear e1 eb5
  have b1x : Dk.Box W1 b5 #[.int .i64 what, .int .i64 who, .int .i64 num, .int .i64 mm, .int .i64 choice] 30 := h1.box (by simp)
  have c0 : W1.cell? ⟨b5, 0, none⟩ = some (.int .i64 what) := b1x.cell 0
  have c1 : W1.cell? ⟨b5, 1, none⟩ = some (.int .i64 who) := b1x.cell 1
  have c2 : W1.cell? ⟨b5, 2, none⟩ = some (.int .i64 num) := b1x.cell 2
  have c3 : W1.cell? ⟨b5, 3, none⟩ = some (.int .i64 mm) := b1x.cell 3
  have c4 : W1.cell? ⟨b5, 4, none⟩ = some (.int .i64 choice) := b1x.cell 4
  clear b1x
  have hw0b : decide (what = 0) = false := decide_eq_false (by omega)
  have hw0c : (what == 0) = false := by simpa using (show ¬ what = 0 by omega)
  have hw1b : decide (what = 1) = false := decide_eq_false (by omega)
  have hw1c : (what == 1) = false := by simpa using (show ¬ what = 1 by omega)
  have hw2b : decide (what = 2) = false := decide_eq_false (by omega)
  have hw2c : (what == 2) = false := by simpa using (show ¬ what = 2 by omega)
  have hw3b : decide (what = 3) = true := decide_eq_true (by omega)
  have hw3c : (what == 3) = true := by simpa using (show what = 3 by omega)
  have hw4b : decide (what = 4) = false := decide_eq_false (by omega)
  have hw4c : (what == 4) = false := by simpa using (show ¬ what = 4 by omega)
  clear hwhat
  have K2 := I.signal_arg hG (toG h1) ok hk num choice false hno
  go_enter Try.func10, Try.ntmps10
  go_wp2_with (rw [H1.out, HB5.out]; clear H1)
  refine K2.mono ?_
  rintro e w3 ⟨⟨A9, C9, rfl⟩, ts', hG', h3'⟩
  have h3 := ofG h3'
  clear K2 h3' c0 c1 c2 c3 c4 h1
  have bb : ∀ y : Dk.Up w3, Dk.Box y.wd b5 #[.int .i64 what, .int .i64 who, .int .i64 num, .int .i64 mm, .int .i64 choice] 30 := fun y => (h3.below y.property).box (by simp)
  have b0 : ∀ y : Dk.Up w3, y.wd.cell? ⟨b5, 0, none⟩ = some (.int .i64 what) := fun y => (bb y).cell 0
  have b1 : ∀ y : Dk.Up w3, y.wd.cell? ⟨b5, 1, none⟩ = some (.int .i64 who) := fun y => (bb y).cell 1
  have b2 : ∀ y : Dk.Up w3, y.wd.cell? ⟨b5, 2, none⟩ = some (.int .i64 num) := fun y => (bb y).cell 2
  have b3 : ∀ y : Dk.Up w3, y.wd.cell? ⟨b5, 3, none⟩ = some (.int .i64 mm) := fun y => (bb y).cell 3
  have b4 : ∀ y : Dk.Up w3, y.wd.cell? ⟨b5, 4, none⟩ = some (.int .i64 choice) := fun y => (bb y).cell 4
  have bn : Nonempty (Dk.Up w3) := ⟨⟨w3, Below.refl _ _⟩⟩
  have up : ∀ b o v, w3.cell? ⟨b, o, none⟩ = some v → ∀ y : Dk.Up w3, y.wd.cell? ⟨b, o, none⟩ = some v := fun b o v hv y => (y.property.cell (p := ⟨b, o, none⟩) (lt_of_cell' hv)).trans hv
  have KI : ∀ (n : Int) (size : Nat) (y : Dk.Up w3), Calls Try.prog 24 #[.int .i64 n, .int .i64 (size : Int)] y.wd fun e w' => e = .returned (.bool (isb n size)) ∧ w' = y.wd := fun n size y => is_any n size y.wd
  have CI : Hid _ := KI
  clear KI
  obtain ⟨A3, Cx3, e3, q3, m3⟩ := h3.nestLen (eh := 38) (e := 40) (s := 2) (f := Dk.pr2) (v := V.v3) (vs := V.cv) (xss := S.conds) (by simp [Dk.mdl])
  have d3 : ∀ y : Dk.Up w3, y.wd.cell? ⟨bm, 3, none⟩ = some (.slice A3 S.conds.length Cx3) := up _ _ _ (by rw [← e3]; exact (Dk.Mdl.head h3).cell 3)
  clear e3
  have zi : isb num S.conds.length = false := isb_no hno
  go_wp2_with fail
  refine Dk.wp_region_up_lit_of (w0 := w3) (Below.refl _ _) (by kernel_rfl) (by kernel_rfl) ?_
  repeat (go_big_quiet_step ((go_at_call 24; exact Dk.calls_up_same _ (CI.out _ _ _))))
  refine wpQuiet_nil ?_
  intro _ hw'
  obtain ⟨y, hw''⟩ := hw'
  subst hw''
  have z1 : Below w3.heap.size w3 y.wd := y.property
  have h9 := h3.below z1
  go_wp2_with fail
  go_ret
  exact ⟨rfl, S, _, ts', hG', dropX h9, ok.mono (by omega)⟩
set_option maxRecDepth 100000 in
set_option maxHeartbeats 8000000 in
theorem play_signal3_ok (I : GateI G0) (hG : G0 bg S ts) (h : Dk.Sep W w (Dk.mdl bm V S ++ (us ++ ts))) (ok : Dk.Ok S k) (hk : k ≤ 300) (what who : Int) (num : Nat) (mm choice : Int) (hwhat : what = 3) (hc : num < S.conds.length) (hch : Dk.i64 choice) :
    Calls Try.prog 10 #[.pointer (some ⟨bg, 0, none⟩), .pointer (some ⟨bm, 0, none⟩), .agg #[.int .i64 what, .int .i64 who, .int .i64 (num : Int), .int .i64 mm, .int .i64 choice]] w fun e w' => e = .returned (.bool true) ∧ Both G0 W w' bg bm (k + 1) us := by
  obtain ⟨W1, e1⟩ : ∃ W1, W1 = w.alloc (.cells #[.int .i64 what, .int .i64 who, .int .i64 (num : Int), .int .i64 mm, .int .i64 choice] 30) := ⟨_, rfl⟩
  have h1 : Dk.Sep W W1 (Dk.mdl bm V S ++ (Dk.boxOf w.heap.size #[.int .i64 what, .int .i64 who, .int .i64 (num : Int), .int .i64 mm, .int .i64 choice] 30 :: us ++ ts)) := (h.newBox e1).perm List.perm_middle.symm
  have H1 : Hid (w.alloc (.cells #[.int .i64 what, .int .i64 who, .int .i64 (num : Int), .int .i64 mm, .int .i64 choice] 30) = W1) := e1.symm
  obtain ⟨b5, eb5⟩ : ∃ b5, w.heap.size = b5 := ⟨_, rfl⟩
  rw [eb5] at h1
  have HB5 : Hid (w.heap.size = b5) := eb5
  clear e1 eb5
  have b1x : Dk.Box W1 b5 #[.int .i64 what, .int .i64 who, .int .i64 (num : Int), .int .i64 mm, .int .i64 choice] 30 := h1.box (by simp)
  have c0 : W1.cell? ⟨b5, 0, none⟩ = some (.int .i64 what) := b1x.cell 0
  have c1 : W1.cell? ⟨b5, 1, none⟩ = some (.int .i64 who) := b1x.cell 1
  have c2 : W1.cell? ⟨b5, 2, none⟩ = some (.int .i64 (num : Int)) := b1x.cell 2
  have c3 : W1.cell? ⟨b5, 3, none⟩ = some (.int .i64 mm) := b1x.cell 3
  have c4 : W1.cell? ⟨b5, 4, none⟩ = some (.int .i64 choice) := b1x.cell 4
  clear b1x
  have hw0b : decide (what = 0) = false := decide_eq_false (by omega)
  have hw0c : (what == 0) = false := by simpa using (show ¬ what = 0 by omega)
  have hw1b : decide (what = 1) = false := decide_eq_false (by omega)
  have hw1c : (what == 1) = false := by simpa using (show ¬ what = 1 by omega)
  have hw2b : decide (what = 2) = false := decide_eq_false (by omega)
  have hw2c : (what == 2) = false := by simpa using (show ¬ what = 2 by omega)
  have hw3b : decide (what = 3) = true := decide_eq_true (by omega)
  have hw3c : (what == 3) = true := by simpa using (show what = 3 by omega)
  have hw4b : decide (what = 4) = false := decide_eq_false (by omega)
  have hw4c : (what == 4) = false := by simpa using (show ¬ what = 4 by omega)
  clear hwhat
  obtain ⟨S9, gs, e9⟩ : ∃ S9 gs, S.signal num choice false = (S9, gs) := ⟨_, _, rfl⟩
  have ok9 : Dk.Ok S9 k := by
    have q := ok.signal num hc choice false
    rw [e9] at q
    exact q
  have hg9 : ∀ x ∈ gs, Dk.i64 x := by
    have q := Dk.signal_i64 ok num hc choice false
    rw [e9] at q
    exact q
  have K2 := I.signal_ok hG (toG h1) ok hk num choice false hc hch
  rw [e9] at K2
  go_enter Try.func10, Try.ntmps10
  go_wp2_with (rw [H1.out, HB5.out]; clear H1)
  refine K2.mono ?_
  rintro e w3 ⟨A9, C9, rfl, ts', hG', h3'⟩
  have h3 : Dk.Sep W w3 (Dk.mdl bm V S ++ (Dk.boxOf b5 #[.int .i64 what, .int .i64 who, .int .i64 (num : Int), .int .i64 mm, .int .i64 choice] 30 :: (Dk.rowOf 3 1 (.slice A9 gs.length C9) gs.length (Dk.is gs) :: us) ++ ts')) := by
    refine Dk.Sep.perm h3' ?_
    have q : (Dk.rowOf 3 1 (.slice A9 gs.length C9) gs.length (Dk.is gs) :: ((Dk.mdl bm V S ++ (Dk.boxOf b5 #[.int .i64 what, .int .i64 who, .int .i64 (num : Int), .int .i64 mm, .int .i64 choice] 30 :: us)) ++ ts')).Perm ((Dk.mdl bm V S ++ [Dk.boxOf b5 #[.int .i64 what, .int .i64 who, .int .i64 (num : Int), .int .i64 mm, .int .i64 choice] 30]) ++ (Dk.rowOf 3 1 (.slice A9 gs.length C9) gs.length (Dk.is gs) :: (us ++ ts'))) := by
      have q2 := (List.perm_middle (l₁ := Dk.mdl bm V S ++ [Dk.boxOf b5 #[.int .i64 what, .int .i64 who, .int .i64 (num : Int), .int .i64 mm, .int .i64 choice] 30]) (a := Dk.rowOf 3 1 (.slice A9 gs.length C9) gs.length (Dk.is gs)) (l₂ := us ++ ts')).symm
      simpa [List.append_assoc] using q2
    simpa [List.append_assoc] using q
  clear K2 h3' c0 c1 c2 c3 c4 h1
  have bb : ∀ y : Dk.Up w3, Dk.Box y.wd b5 #[.int .i64 what, .int .i64 who, .int .i64 (num : Int), .int .i64 mm, .int .i64 choice] 30 := fun y => (h3.below y.property).box (by simp)
  have b0 : ∀ y : Dk.Up w3, y.wd.cell? ⟨b5, 0, none⟩ = some (.int .i64 what) := fun y => (bb y).cell 0
  have b1 : ∀ y : Dk.Up w3, y.wd.cell? ⟨b5, 1, none⟩ = some (.int .i64 who) := fun y => (bb y).cell 1
  have b2 : ∀ y : Dk.Up w3, y.wd.cell? ⟨b5, 2, none⟩ = some (.int .i64 (num : Int)) := fun y => (bb y).cell 2
  have b3 : ∀ y : Dk.Up w3, y.wd.cell? ⟨b5, 3, none⟩ = some (.int .i64 mm) := fun y => (bb y).cell 3
  have b4 : ∀ y : Dk.Up w3, y.wd.cell? ⟨b5, 4, none⟩ = some (.int .i64 choice) := fun y => (bb y).cell 4
  have bn : Nonempty (Dk.Up w3) := ⟨⟨w3, Below.refl _ _⟩⟩
  have up : ∀ b o v, w3.cell? ⟨b, o, none⟩ = some v → ∀ y : Dk.Up w3, y.wd.cell? ⟨b, o, none⟩ = some v := fun b o v hv y => (y.property.cell (p := ⟨b, o, none⟩) (lt_of_cell' hv)).trans hv
  have KI : ∀ (n : Int) (size : Nat) (y : Dk.Up w3), Calls Try.prog 24 #[.int .i64 n, .int .i64 (size : Int)] y.wd fun e w' => e = .returned (.bool (isb n size)) ∧ w' = y.wd := fun n size y => is_any n size y.wd
  have CI : Hid _ := KI
  clear KI
  obtain ⟨A3, Cx3, e3, q3, m3⟩ := h3.nestLen (eh := 38) (e := 40) (s := 2) (f := Dk.pr2) (v := V.v3) (vs := V.cv) (xss := S.conds) (by simp [Dk.mdl])
  have d3 : ∀ y : Dk.Up w3, y.wd.cell? ⟨bm, 3, none⟩ = some (.slice A3 S.conds.length Cx3) := up _ _ _ (by rw [← e3]; exact (Dk.Mdl.head h3).cell 3)
  clear e3
  have zi : isb (num : Int) S.conds.length = true := isb_yes hc
  go_wp2_with fail
  refine Dk.wp_region_up_lit_of (w0 := w3) (Below.refl _ _) (by kernel_rfl) (by kernel_rfl) ?_
  repeat (go_big_quiet_step ((go_at_call 24; exact Dk.calls_up_same _ (CI.out _ _ _))))
  refine wpQuiet_nil ?_
  intro _ hw'
  obtain ⟨y, hw''⟩ := hw'
  subst hw''
  have z1 : Below w3.heap.size w3 y.wd := y.property
  have h4 := h3.below z1
  have KS := signal_m h4 ok (by omega) hc choice hch false
  rw [e9] at KS
  have b0y := b0 y
  have b2y := b2 y
  have b4y := b4 y
  go_wp2_with fail
  refine KS.mono ?_
  rintro e w5 ⟨A5, C5, rfl, V5, h5⟩
  clear KS b0y b2y b4y
  have o5 : w5.ownsRow W.heap.size 3 1 (.slice A5 gs.length C5) gs.length (Dk.is gs) := h5.row (by simp)
  have o9 : w5.ownsRow W.heap.size 3 1 (.slice A9 gs.length C9) gs.length (Dk.is gs) := h5.row (by simp)
  obtain ⟨A5', C5', e5, s5⟩ := Dk.owns_ints o5 hg9
  cases e5
  obtain ⟨A9', C9', e9', s9⟩ := Dk.owns_ints o9 hg9
  cases e9'
  have K12 := Ints_same A9 A5 gs.length C9 C5 gs w5 s9 s5
  go_wp2_with fail
  refine K12.mono ?_
  rintro e w6 ⟨rfl, u6⟩
  have h6 := h5.below u6
  clear K12
  go_wp2_with fail
  go_ret
  refine ⟨rfl, S9, V5, ts', hG', ?_, ok9.mono (by omega)⟩
  refine h6.sub (List.Sublist.cons _ ?_)
  exact (List.Sublist.refl _).append (List.Sublist.cons _ (List.Sublist.cons _ (List.Sublist.refl _)))
set_option maxRecDepth 100000 in
set_option maxHeartbeats 8000000 in
theorem play_signal4_arg (I : GateI G0) (hG : G0 bg S ts) (h : Dk.Sep W w (Dk.mdl bm V S ++ (us ++ ts))) (ok : Dk.Ok S k) (hk : k ≤ 300) (what who num mm choice : Int) (hwhat : what = 4) (hno : num < 0 ∨ (S.conds.length : Int) ≤ num) :
    Calls Try.prog 10 #[.pointer (some ⟨bg, 0, none⟩), .pointer (some ⟨bm, 0, none⟩), .agg #[.int .i64 what, .int .i64 who, .int .i64 num, .int .i64 mm, .int .i64 choice]] w fun e w' => e = .returned (.bool true) ∧ Both G0 W w' bg bm (k + 1) us := by
  obtain ⟨W1, e1⟩ : ∃ W1, W1 = w.alloc (.cells #[.int .i64 what, .int .i64 who, .int .i64 num, .int .i64 mm, .int .i64 choice] 30) := ⟨_, rfl⟩
  have h1 : Dk.Sep W W1 (Dk.mdl bm V S ++ (Dk.boxOf w.heap.size #[.int .i64 what, .int .i64 who, .int .i64 num, .int .i64 mm, .int .i64 choice] 30 :: us ++ ts)) := (h.newBox e1).perm List.perm_middle.symm
  have H1 : Hid (w.alloc (.cells #[.int .i64 what, .int .i64 who, .int .i64 num, .int .i64 mm, .int .i64 choice] 30) = W1) := e1.symm
  obtain ⟨b5, eb5⟩ : ∃ b5, w.heap.size = b5 := ⟨_, rfl⟩
  rw [eb5] at h1
  have HB5 : Hid (w.heap.size = b5) := eb5
  clear e1 eb5
  have b1x : Dk.Box W1 b5 #[.int .i64 what, .int .i64 who, .int .i64 num, .int .i64 mm, .int .i64 choice] 30 := h1.box (by simp)
  have c0 : W1.cell? ⟨b5, 0, none⟩ = some (.int .i64 what) := b1x.cell 0
  have c1 : W1.cell? ⟨b5, 1, none⟩ = some (.int .i64 who) := b1x.cell 1
  have c2 : W1.cell? ⟨b5, 2, none⟩ = some (.int .i64 num) := b1x.cell 2
  have c3 : W1.cell? ⟨b5, 3, none⟩ = some (.int .i64 mm) := b1x.cell 3
  have c4 : W1.cell? ⟨b5, 4, none⟩ = some (.int .i64 choice) := b1x.cell 4
  clear b1x
  have hw0b : decide (what = 0) = false := decide_eq_false (by omega)
  have hw0c : (what == 0) = false := by simpa using (show ¬ what = 0 by omega)
  have hw1b : decide (what = 1) = false := decide_eq_false (by omega)
  have hw1c : (what == 1) = false := by simpa using (show ¬ what = 1 by omega)
  have hw2b : decide (what = 2) = false := decide_eq_false (by omega)
  have hw2c : (what == 2) = false := by simpa using (show ¬ what = 2 by omega)
  have hw3b : decide (what = 3) = false := decide_eq_false (by omega)
  have hw3c : (what == 3) = false := by simpa using (show ¬ what = 3 by omega)
  have hw4b : decide (what = 4) = true := decide_eq_true (by omega)
  have hw4c : (what == 4) = true := by simpa using (show what = 4 by omega)
  clear hwhat
  have K2 := I.signal_arg hG (toG h1) ok hk num choice true hno
  go_enter Try.func10, Try.ntmps10
  go_wp2_with (rw [H1.out, HB5.out]; clear H1)
  refine K2.mono ?_
  rintro e w3 ⟨⟨A9, C9, rfl⟩, ts', hG', h3'⟩
  have h3 := ofG h3'
  clear K2 h3' c0 c1 c2 c3 c4 h1
  have bb : ∀ y : Dk.Up w3, Dk.Box y.wd b5 #[.int .i64 what, .int .i64 who, .int .i64 num, .int .i64 mm, .int .i64 choice] 30 := fun y => (h3.below y.property).box (by simp)
  have b0 : ∀ y : Dk.Up w3, y.wd.cell? ⟨b5, 0, none⟩ = some (.int .i64 what) := fun y => (bb y).cell 0
  have b1 : ∀ y : Dk.Up w3, y.wd.cell? ⟨b5, 1, none⟩ = some (.int .i64 who) := fun y => (bb y).cell 1
  have b2 : ∀ y : Dk.Up w3, y.wd.cell? ⟨b5, 2, none⟩ = some (.int .i64 num) := fun y => (bb y).cell 2
  have b3 : ∀ y : Dk.Up w3, y.wd.cell? ⟨b5, 3, none⟩ = some (.int .i64 mm) := fun y => (bb y).cell 3
  have b4 : ∀ y : Dk.Up w3, y.wd.cell? ⟨b5, 4, none⟩ = some (.int .i64 choice) := fun y => (bb y).cell 4
  have bn : Nonempty (Dk.Up w3) := ⟨⟨w3, Below.refl _ _⟩⟩
  have up : ∀ b o v, w3.cell? ⟨b, o, none⟩ = some v → ∀ y : Dk.Up w3, y.wd.cell? ⟨b, o, none⟩ = some v := fun b o v hv y => (y.property.cell (p := ⟨b, o, none⟩) (lt_of_cell' hv)).trans hv
  have KI : ∀ (n : Int) (size : Nat) (y : Dk.Up w3), Calls Try.prog 24 #[.int .i64 n, .int .i64 (size : Int)] y.wd fun e w' => e = .returned (.bool (isb n size)) ∧ w' = y.wd := fun n size y => is_any n size y.wd
  have CI : Hid _ := KI
  clear KI
  obtain ⟨A3, Cx3, e3, q3, m3⟩ := h3.nestLen (eh := 38) (e := 40) (s := 2) (f := Dk.pr2) (v := V.v3) (vs := V.cv) (xss := S.conds) (by simp [Dk.mdl])
  have d3 : ∀ y : Dk.Up w3, y.wd.cell? ⟨bm, 3, none⟩ = some (.slice A3 S.conds.length Cx3) := up _ _ _ (by rw [← e3]; exact (Dk.Mdl.head h3).cell 3)
  clear e3
  have zi : isb num S.conds.length = false := isb_no hno
  go_wp2_with fail
  refine Dk.wp_region_up_lit_of (w0 := w3) (Below.refl _ _) (by kernel_rfl) (by kernel_rfl) ?_
  repeat (go_big_quiet_step ((go_at_call 24; exact Dk.calls_up_same _ (CI.out _ _ _))))
  refine wpQuiet_nil ?_
  intro _ hw'
  obtain ⟨y, hw''⟩ := hw'
  subst hw''
  have z1 : Below w3.heap.size w3 y.wd := y.property
  have h9 := h3.below z1
  go_wp2_with fail
  go_ret
  exact ⟨rfl, S, _, ts', hG', dropX h9, ok.mono (by omega)⟩
set_option maxRecDepth 100000 in
set_option maxHeartbeats 8000000 in
theorem play_signal4_ok (I : GateI G0) (hG : G0 bg S ts) (h : Dk.Sep W w (Dk.mdl bm V S ++ (us ++ ts))) (ok : Dk.Ok S k) (hk : k ≤ 300) (what who : Int) (num : Nat) (mm choice : Int) (hwhat : what = 4) (hc : num < S.conds.length) (hch : Dk.i64 choice) :
    Calls Try.prog 10 #[.pointer (some ⟨bg, 0, none⟩), .pointer (some ⟨bm, 0, none⟩), .agg #[.int .i64 what, .int .i64 who, .int .i64 (num : Int), .int .i64 mm, .int .i64 choice]] w fun e w' => e = .returned (.bool true) ∧ Both G0 W w' bg bm (k + 1) us := by
  obtain ⟨W1, e1⟩ : ∃ W1, W1 = w.alloc (.cells #[.int .i64 what, .int .i64 who, .int .i64 (num : Int), .int .i64 mm, .int .i64 choice] 30) := ⟨_, rfl⟩
  have h1 : Dk.Sep W W1 (Dk.mdl bm V S ++ (Dk.boxOf w.heap.size #[.int .i64 what, .int .i64 who, .int .i64 (num : Int), .int .i64 mm, .int .i64 choice] 30 :: us ++ ts)) := (h.newBox e1).perm List.perm_middle.symm
  have H1 : Hid (w.alloc (.cells #[.int .i64 what, .int .i64 who, .int .i64 (num : Int), .int .i64 mm, .int .i64 choice] 30) = W1) := e1.symm
  obtain ⟨b5, eb5⟩ : ∃ b5, w.heap.size = b5 := ⟨_, rfl⟩
  rw [eb5] at h1
  have HB5 : Hid (w.heap.size = b5) := eb5
  clear e1 eb5
  have b1x : Dk.Box W1 b5 #[.int .i64 what, .int .i64 who, .int .i64 (num : Int), .int .i64 mm, .int .i64 choice] 30 := h1.box (by simp)
  have c0 : W1.cell? ⟨b5, 0, none⟩ = some (.int .i64 what) := b1x.cell 0
  have c1 : W1.cell? ⟨b5, 1, none⟩ = some (.int .i64 who) := b1x.cell 1
  have c2 : W1.cell? ⟨b5, 2, none⟩ = some (.int .i64 (num : Int)) := b1x.cell 2
  have c3 : W1.cell? ⟨b5, 3, none⟩ = some (.int .i64 mm) := b1x.cell 3
  have c4 : W1.cell? ⟨b5, 4, none⟩ = some (.int .i64 choice) := b1x.cell 4
  clear b1x
  have hw0b : decide (what = 0) = false := decide_eq_false (by omega)
  have hw0c : (what == 0) = false := by simpa using (show ¬ what = 0 by omega)
  have hw1b : decide (what = 1) = false := decide_eq_false (by omega)
  have hw1c : (what == 1) = false := by simpa using (show ¬ what = 1 by omega)
  have hw2b : decide (what = 2) = false := decide_eq_false (by omega)
  have hw2c : (what == 2) = false := by simpa using (show ¬ what = 2 by omega)
  have hw3b : decide (what = 3) = false := decide_eq_false (by omega)
  have hw3c : (what == 3) = false := by simpa using (show ¬ what = 3 by omega)
  have hw4b : decide (what = 4) = true := decide_eq_true (by omega)
  have hw4c : (what == 4) = true := by simpa using (show what = 4 by omega)
  clear hwhat
  obtain ⟨S9, gs, e9⟩ : ∃ S9 gs, S.signal num choice true = (S9, gs) := ⟨_, _, rfl⟩
  have ok9 : Dk.Ok S9 k := by
    have q := ok.signal num hc choice true
    rw [e9] at q
    exact q
  have hg9 : ∀ x ∈ gs, Dk.i64 x := by
    have q := Dk.signal_i64 ok num hc choice true
    rw [e9] at q
    exact q
  have K2 := I.signal_ok hG (toG h1) ok hk num choice true hc hch
  rw [e9] at K2
  go_enter Try.func10, Try.ntmps10
  go_wp2_with (rw [H1.out, HB5.out]; clear H1)
  refine K2.mono ?_
  rintro e w3 ⟨A9, C9, rfl, ts', hG', h3'⟩
  have h3 : Dk.Sep W w3 (Dk.mdl bm V S ++ (Dk.boxOf b5 #[.int .i64 what, .int .i64 who, .int .i64 (num : Int), .int .i64 mm, .int .i64 choice] 30 :: (Dk.rowOf 3 1 (.slice A9 gs.length C9) gs.length (Dk.is gs) :: us) ++ ts')) := by
    refine Dk.Sep.perm h3' ?_
    have q : (Dk.rowOf 3 1 (.slice A9 gs.length C9) gs.length (Dk.is gs) :: ((Dk.mdl bm V S ++ (Dk.boxOf b5 #[.int .i64 what, .int .i64 who, .int .i64 (num : Int), .int .i64 mm, .int .i64 choice] 30 :: us)) ++ ts')).Perm ((Dk.mdl bm V S ++ [Dk.boxOf b5 #[.int .i64 what, .int .i64 who, .int .i64 (num : Int), .int .i64 mm, .int .i64 choice] 30]) ++ (Dk.rowOf 3 1 (.slice A9 gs.length C9) gs.length (Dk.is gs) :: (us ++ ts'))) := by
      have q2 := (List.perm_middle (l₁ := Dk.mdl bm V S ++ [Dk.boxOf b5 #[.int .i64 what, .int .i64 who, .int .i64 (num : Int), .int .i64 mm, .int .i64 choice] 30]) (a := Dk.rowOf 3 1 (.slice A9 gs.length C9) gs.length (Dk.is gs)) (l₂ := us ++ ts')).symm
      simpa [List.append_assoc] using q2
    simpa [List.append_assoc] using q
  clear K2 h3' c0 c1 c2 c3 c4 h1
  have bb : ∀ y : Dk.Up w3, Dk.Box y.wd b5 #[.int .i64 what, .int .i64 who, .int .i64 (num : Int), .int .i64 mm, .int .i64 choice] 30 := fun y => (h3.below y.property).box (by simp)
  have b0 : ∀ y : Dk.Up w3, y.wd.cell? ⟨b5, 0, none⟩ = some (.int .i64 what) := fun y => (bb y).cell 0
  have b1 : ∀ y : Dk.Up w3, y.wd.cell? ⟨b5, 1, none⟩ = some (.int .i64 who) := fun y => (bb y).cell 1
  have b2 : ∀ y : Dk.Up w3, y.wd.cell? ⟨b5, 2, none⟩ = some (.int .i64 (num : Int)) := fun y => (bb y).cell 2
  have b3 : ∀ y : Dk.Up w3, y.wd.cell? ⟨b5, 3, none⟩ = some (.int .i64 mm) := fun y => (bb y).cell 3
  have b4 : ∀ y : Dk.Up w3, y.wd.cell? ⟨b5, 4, none⟩ = some (.int .i64 choice) := fun y => (bb y).cell 4
  have bn : Nonempty (Dk.Up w3) := ⟨⟨w3, Below.refl _ _⟩⟩
  have up : ∀ b o v, w3.cell? ⟨b, o, none⟩ = some v → ∀ y : Dk.Up w3, y.wd.cell? ⟨b, o, none⟩ = some v := fun b o v hv y => (y.property.cell (p := ⟨b, o, none⟩) (lt_of_cell' hv)).trans hv
  have KI : ∀ (n : Int) (size : Nat) (y : Dk.Up w3), Calls Try.prog 24 #[.int .i64 n, .int .i64 (size : Int)] y.wd fun e w' => e = .returned (.bool (isb n size)) ∧ w' = y.wd := fun n size y => is_any n size y.wd
  have CI : Hid _ := KI
  clear KI
  obtain ⟨A3, Cx3, e3, q3, m3⟩ := h3.nestLen (eh := 38) (e := 40) (s := 2) (f := Dk.pr2) (v := V.v3) (vs := V.cv) (xss := S.conds) (by simp [Dk.mdl])
  have d3 : ∀ y : Dk.Up w3, y.wd.cell? ⟨bm, 3, none⟩ = some (.slice A3 S.conds.length Cx3) := up _ _ _ (by rw [← e3]; exact (Dk.Mdl.head h3).cell 3)
  clear e3
  have zi : isb (num : Int) S.conds.length = true := isb_yes hc
  go_wp2_with fail
  refine Dk.wp_region_up_lit_of (w0 := w3) (Below.refl _ _) (by kernel_rfl) (by kernel_rfl) ?_
  repeat (go_big_quiet_step ((go_at_call 24; exact Dk.calls_up_same _ (CI.out _ _ _))))
  refine wpQuiet_nil ?_
  intro _ hw'
  obtain ⟨y, hw''⟩ := hw'
  subst hw''
  have z1 : Below w3.heap.size w3 y.wd := y.property
  have h4 := h3.below z1
  have KS := signal_m h4 ok (by omega) hc choice hch true
  rw [e9] at KS
  have b0y := b0 y
  have b2y := b2 y
  have b4y := b4 y
  go_wp2_with fail
  refine KS.mono ?_
  rintro e w5 ⟨A5, C5, rfl, V5, h5⟩
  clear KS b0y b2y b4y
  have o5 : w5.ownsRow W.heap.size 3 1 (.slice A5 gs.length C5) gs.length (Dk.is gs) := h5.row (by simp)
  have o9 : w5.ownsRow W.heap.size 3 1 (.slice A9 gs.length C9) gs.length (Dk.is gs) := h5.row (by simp)
  obtain ⟨A5', C5', e5, s5⟩ := Dk.owns_ints o5 hg9
  cases e5
  obtain ⟨A9', C9', e9', s9⟩ := Dk.owns_ints o9 hg9
  cases e9'
  have K12 := Ints_same A9 A5 gs.length C9 C5 gs w5 s9 s5
  go_wp2_with fail
  refine K12.mono ?_
  rintro e w6 ⟨rfl, u6⟩
  have h6 := h5.below u6
  clear K12
  go_wp2_with fail
  go_ret
  refine ⟨rfl, S9, V5, ts', hG', ?_, ok9.mono (by omega)⟩
  refine h6.sub (List.Sublist.cons _ ?_)
  exact (List.Sublist.refl _).append (List.Sublist.cons _ (List.Sublist.cons _ (List.Sublist.refl _)))
end
end Go.Proofs.Ytjkdaankjondjaa
