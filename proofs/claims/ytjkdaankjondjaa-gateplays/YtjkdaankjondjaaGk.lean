/- Lock and Unlock against the document's answer. -/
import Derived.Test.YtjkdaankjondjaaGj
namespace Go.Proofs.Ytjkdaankjondjaa
set_option linter.unusedSimpArgs false
set_option linter.unusedVariables false
set_option linter.unnecessarySimpa false
open Go.RowKit
section
variable {G0 : Nat → Dk.St → List Dk.Thing → Prop} {W w : World} {bg bm k : Nat} {S : Dk.St} {V : Dk.Vs} {us ts : List Dk.Thing}
set_option maxRecDepth 100000 in
set_option maxHeartbeats 8000000 in
theorem play_lock_arg (I : GateI G0) (hG : G0 bg S ts) (h : Dk.Sep W w (Dk.mdl bm V S ++ (us ++ ts))) (ok : Dk.Ok S k) (hk : k ≤ 300) (what who num mm choice : Int) (hwhat : what = 0) (hno : num < 0 ∨ (S.owner.length : Int) ≤ num) :
    Calls Try.prog 10 #[.pointer (some ⟨bg, 0, none⟩), .pointer (some ⟨bm, 0, none⟩), .agg #[.int .i64 what, .int .i64 who, .int .i64 num, .int .i64 mm, .int .i64 choice]] w fun e w' => e = .returned (.bool true) ∧ Both G0 W w' bg bm (k + 1) us := by
  obtain ⟨W1, e1⟩ : ∃ W1, W1 = w.alloc (.cells #[.int .i64 what, .int .i64 who, .int .i64 num, .int .i64 mm, .int .i64 choice] 30) := ⟨_, rfl⟩
  have h1 : Dk.Sep W W1 (Dk.mdl bm V S ++ (Dk.boxOf w.heap.size #[.int .i64 what, .int .i64 who, .int .i64 num, .int .i64 mm, .int .i64 choice] 30 :: us ++ ts)) := (h.newBox e1).perm List.perm_middle.symm
  have H1 : Hid (w.alloc (.cells #[.int .i64 what, .int .i64 who, .int .i64 num, .int .i64 mm, .int .i64 choice] 30) = W1) := e1.symm
  obtain ⟨b5, eb5⟩ : ∃ b5, w.heap.size = b5 := ⟨_, rfl⟩
  rw [eb5] at h1
  have HB5 : Hid (w.heap.size = b5) := eb5
  clear e1 eb5
  have b1x : Dk.Box W1 b5 #[.int .i64 what, .int .i64 who, .int .i64 num, .int .i64 mm, .int .i64 choice] 30 := h1.box (by simp)
  have c0 : W1.cell? ⟨b5, 0, none⟩ = some (.int .i64 what) := b1x.cell 0
  have c1 : W1.cell? ⟨b5, 1, none⟩ = some (.int .i64 who) := b1x.cell 1
  have c2 : W1.cell? ⟨b5, 2, none⟩ = some (.int .i64 num) := b1x.cell 2
  have c3 : W1.cell? ⟨b5, 3, none⟩ = some (.int .i64 mm) := b1x.cell 3
  have c4 : W1.cell? ⟨b5, 4, none⟩ = some (.int .i64 choice) := b1x.cell 4
  clear b1x
  have hw0b : decide (what = 0) = true := decide_eq_true (by omega)
  have hw0c : (what == 0) = true := by simpa using (show what = 0 by omega)
  have hw1b : decide (what = 1) = false := decide_eq_false (by omega)
  have hw1c : (what == 1) = false := by simpa using (show ¬ what = 1 by omega)
  have hw2b : decide (what = 2) = false := decide_eq_false (by omega)
  have hw2c : (what == 2) = false := by simpa using (show ¬ what = 2 by omega)
  have hw3b : decide (what = 3) = false := decide_eq_false (by omega)
  have hw3c : (what == 3) = false := by simpa using (show ¬ what = 3 by omega)
  have hw4b : decide (what = 4) = false := decide_eq_false (by omega)
  have hw4c : (what == 4) = false := by simpa using (show ¬ what = 4 by omega)
  clear hwhat
  have K2 := I.lock_arg hG (toG h1) ok hk who num hno
  go_enter Try.func10, Try.ntmps10
  go_wp2_with (rw [H1.out, HB5.out]; clear H1)
  refine K2.mono ?_
  rintro e w3 ⟨rfl, ts', hG', h3'⟩
  have h3 := ofG h3'
  clear K2 h3' c0 c1 c2 c3 c4 h1
  have bb : ∀ y : Dk.Up w3, Dk.Box y.wd b5 #[.int .i64 what, .int .i64 who, .int .i64 num, .int .i64 mm, .int .i64 choice] 30 := fun y => (h3.below y.property).box (by simp)
  have b0 : ∀ y : Dk.Up w3, y.wd.cell? ⟨b5, 0, none⟩ = some (.int .i64 what) := fun y => (bb y).cell 0
  have b1 : ∀ y : Dk.Up w3, y.wd.cell? ⟨b5, 1, none⟩ = some (.int .i64 who) := fun y => (bb y).cell 1
  have b2 : ∀ y : Dk.Up w3, y.wd.cell? ⟨b5, 2, none⟩ = some (.int .i64 num) := fun y => (bb y).cell 2
  have b3 : ∀ y : Dk.Up w3, y.wd.cell? ⟨b5, 3, none⟩ = some (.int .i64 mm) := fun y => (bb y).cell 3
  have b4 : ∀ y : Dk.Up w3, y.wd.cell? ⟨b5, 4, none⟩ = some (.int .i64 choice) := fun y => (bb y).cell 4
  have bn : Nonempty (Dk.Up w3) := ⟨⟨w3, Below.refl _ _⟩⟩
  have up : ∀ b o v, w3.cell? ⟨b, o, none⟩ = some v → ∀ y : Dk.Up w3, y.wd.cell? ⟨b, o, none⟩ = some v := fun b o v hv y => (y.property.cell (p := ⟨b, o, none⟩) (lt_of_cell' hv)).trans hv
  obtain ⟨A1, Cx1, e1, q1, m1⟩ := Dk.owns_slice (Dk.Mdl.held h3)
  rw [ok.held] at e1
  have d1 : ∀ y : Dk.Up w3, y.wd.cell? ⟨bm, 1, none⟩ = some (.slice A1 S.owner.length Cx1) := up _ _ _ (by rw [← e1]; exact (Dk.Mdl.head h3).cell 1)
  clear e1
  have K1 : ∀ y : Dk.Up w3, Calls Try.prog 24 #[.int .i64 num, .int .i64 (S.owner.length : Int)] y.wd fun e w' => e = .returned (.bool false) ∧ w' = y.wd := fun y => is_no num S.owner.length hno y.wd
  have C1 : Hid _ := K1
  clear K1
  go_wp2_with fail
  refine Dk.wp_region_up_lit_of (w0 := w3) (Below.refl _ _) (by kernel_rfl) (by kernel_rfl) ?_
  repeat (go_big_quiet_step ((go_at_call 24; exact Dk.calls_up_same _ (C1.out _))))
  refine wpQuiet_nil ?_
  intro _ hw'
  obtain ⟨y, hw''⟩ := hw'
  subst hw''
  have z1 : Below w3.heap.size w3 y.wd := y.property
  have h9 := h3.below z1
  go_wp2_with fail
  go_ret
  exact ⟨rfl, S, _, ts', hG', dropX h9, ok.mono (by omega)⟩
set_option maxRecDepth 100000 in
set_option maxHeartbeats 8000000 in
theorem play_lock_busy (I : GateI G0) (hG : G0 bg S ts) (h : Dk.Sep W w (Dk.mdl bm V S ++ (us ++ ts))) (ok : Dk.Ok S k) (hk : k ≤ 300) (what who : Int) (num : Nat) (mm choice : Int) (hwhat : what = 0) (hn : num < S.owner.length) (hwt : S.waits who = true) :
    Calls Try.prog 10 #[.pointer (some ⟨bg, 0, none⟩), .pointer (some ⟨bm, 0, none⟩), .agg #[.int .i64 what, .int .i64 who, .int .i64 (num : Int), .int .i64 mm, .int .i64 choice]] w fun e w' => e = .returned (.bool true) ∧ Both G0 W w' bg bm (k + 1) us := by
  obtain ⟨W1, e1⟩ : ∃ W1, W1 = w.alloc (.cells #[.int .i64 what, .int .i64 who, .int .i64 (num : Int), .int .i64 mm, .int .i64 choice] 30) := ⟨_, rfl⟩
  have h1 : Dk.Sep W W1 (Dk.mdl bm V S ++ (Dk.boxOf w.heap.size #[.int .i64 what, .int .i64 who, .int .i64 (num : Int), .int .i64 mm, .int .i64 choice] 30 :: us ++ ts)) := (h.newBox e1).perm List.perm_middle.symm
  have H1 : Hid (w.alloc (.cells #[.int .i64 what, .int .i64 who, .int .i64 (num : Int), .int .i64 mm, .int .i64 choice] 30) = W1) := e1.symm
  obtain ⟨b5, eb5⟩ : ∃ b5, w.heap.size = b5 := ⟨_, rfl⟩
  rw [eb5] at h1
  have HB5 : Hid (w.heap.size = b5) := eb5
  clear e1 eb5
  have b1x : Dk.Box W1 b5 #[.int .i64 what, .int .i64 who, .int .i64 (num : Int), .int .i64 mm, .int .i64 choice] 30 := h1.box (by simp)
  have c0 : W1.cell? ⟨b5, 0, none⟩ = some (.int .i64 what) := b1x.cell 0
  have c1 : W1.cell? ⟨b5, 1, none⟩ = some (.int .i64 who) := b1x.cell 1
  have c2 : W1.cell? ⟨b5, 2, none⟩ = some (.int .i64 (num : Int)) := b1x.cell 2
  have c3 : W1.cell? ⟨b5, 3, none⟩ = some (.int .i64 mm) := b1x.cell 3
  have c4 : W1.cell? ⟨b5, 4, none⟩ = some (.int .i64 choice) := b1x.cell 4
  clear b1x
  have hw0b : decide (what = 0) = true := decide_eq_true (by omega)
  have hw0c : (what == 0) = true := by simpa using (show what = 0 by omega)
  have hw1b : decide (what = 1) = false := decide_eq_false (by omega)
  have hw1c : (what == 1) = false := by simpa using (show ¬ what = 1 by omega)
  have hw2b : decide (what = 2) = false := decide_eq_false (by omega)
  have hw2c : (what == 2) = false := by simpa using (show ¬ what = 2 by omega)
  have hw3b : decide (what = 3) = false := decide_eq_false (by omega)
  have hw3c : (what == 3) = false := by simpa using (show ¬ what = 3 by omega)
  have hw4b : decide (what = 4) = false := decide_eq_false (by omega)
  have hw4c : (what == 4) = false := by simpa using (show ¬ what = 4 by omega)
  clear hwhat
  have K2 := I.lock_busy hG (toG h1) ok hk who num hn (.inl hwt)
  go_enter Try.func10, Try.ntmps10
  go_wp2_with (rw [H1.out, HB5.out]; clear H1)
  refine K2.mono ?_
  rintro e w3 ⟨rfl, ts', hG', h3'⟩
  have h3 := ofG h3'
  clear K2 h3' c0 c1 c2 c3 c4 h1
  have bb : ∀ y : Dk.Up w3, Dk.Box y.wd b5 #[.int .i64 what, .int .i64 who, .int .i64 (num : Int), .int .i64 mm, .int .i64 choice] 30 := fun y => (h3.below y.property).box (by simp)
  have b0 : ∀ y : Dk.Up w3, y.wd.cell? ⟨b5, 0, none⟩ = some (.int .i64 what) := fun y => (bb y).cell 0
  have b1 : ∀ y : Dk.Up w3, y.wd.cell? ⟨b5, 1, none⟩ = some (.int .i64 who) := fun y => (bb y).cell 1
  have b2 : ∀ y : Dk.Up w3, y.wd.cell? ⟨b5, 2, none⟩ = some (.int .i64 (num : Int)) := fun y => (bb y).cell 2
  have b3 : ∀ y : Dk.Up w3, y.wd.cell? ⟨b5, 3, none⟩ = some (.int .i64 mm) := fun y => (bb y).cell 3
  have b4 : ∀ y : Dk.Up w3, y.wd.cell? ⟨b5, 4, none⟩ = some (.int .i64 choice) := fun y => (bb y).cell 4
  have bn : Nonempty (Dk.Up w3) := ⟨⟨w3, Below.refl _ _⟩⟩
  have up : ∀ b o v, w3.cell? ⟨b, o, none⟩ = some v → ∀ y : Dk.Up w3, y.wd.cell? ⟨b, o, none⟩ = some v := fun b o v hv y => (y.property.cell (p := ⟨b, o, none⟩) (lt_of_cell' hv)).trans hv
  have hhn : num < S.held.length := by rw [ok.held]; exact hn
  obtain ⟨gh, Ch, eh, qh, mh, ch0, _, _⟩ := Mdl.setHeld h3 (n := num) hhn
  obtain ⟨go, Co, eo, qo, mo, co0, _, _⟩ := Mdl.setOwner h3 (n := num) hn
  rw [ok.held] at eh qh
  unfold maxLen at mh mo
  have d1 : ∀ y : Dk.Up w3, y.wd.cell? ⟨bm, 1, none⟩ = some (.slice (some ⟨gh, 0, none⟩) S.owner.length Ch) := up _ _ _ (by rw [← eh]; exact (Dk.Mdl.head h3).cell 1)
  have d0 : ∀ y : Dk.Up w3, y.wd.cell? ⟨bm, 0, none⟩ = some (.slice (some ⟨go, 0, none⟩) S.owner.length Co) := up _ _ _ (by rw [← eo]; exact (Dk.Mdl.head h3).cell 0)
  have dh := up _ _ _ ch0
  have do_ := up _ _ _ co0
  have hni : (num : Int) < (S.owner.length : Int) := by omega
  clear ch0 co0
  obtain ⟨hb, ehb⟩ : ∃ hb, S.held.getD num false = hb := ⟨_, rfl⟩
  obtain ⟨ow, eow⟩ : ∃ ow, S.owner.getD num 0 = ow := ⟨_, rfl⟩
  rw [ehb] at dh
  rw [eow] at do_
  have K1 : ∀ y : Dk.Up w3, Calls Try.prog 24 #[.int .i64 (num : Int), .int .i64 (S.owner.length : Int)] y.wd fun e w' => e = .returned (.bool true) ∧ w' = y.wd := fun y => is_yes num S.owner.length hn y.wd
  have C1 : Hid _ := K1
  clear K1
  have K24 : ∀ y : Dk.Up w3, Calls Try.prog 25 #[.pointer (some ⟨bm, 0, none⟩), .int .i64 who] y.wd fun e w' => e = .returned (.bool true) ∧ w' = y.wd := fun y => by rw [← hwt]; exact waits_m (h3.below y.property) ok who
  have C24 : Hid _ := K24
  clear K24
  go_wp2_with fail
  refine Dk.wp_region_up_lit_of (w0 := w3) (Below.refl _ _) (by kernel_rfl) (by kernel_rfl) ?_
  repeat (go_big_quiet_step ((go_at_call 24; exact Dk.calls_up_same _ (C1.out _))))
  refine wpQuiet_nil ?_
  intro _ hw'
  obtain ⟨y, hw''⟩ := hw'
  subst hw''
  have z1 : Below w3.heap.size w3 y.wd := y.property
  go_wp2_with fail
  refine Dk.wp_region_up_lit_of (w0 := w3) z1 (by kernel_rfl) (by kernel_rfl) ?_
  repeat (go_big_quiet_step ((go_at_call 25; exact Dk.calls_up_same _ (C24.out _))))
  refine wpQuiet_nil ?_
  intro _ hw'
  clear z1
  obtain ⟨y, hw''⟩ := hw'
  subst hw''
  have z1 : Below w3.heap.size w3 y.wd := y.property
  have h9 := h3.below z1
  go_wp2_with fail
  go_ret
  exact ⟨rfl, S, _, ts', hG', dropX h9, ok.mono (by omega)⟩
set_option maxRecDepth 100000 in
set_option maxHeartbeats 8000000 in
theorem play_lock_busy2 (I : GateI G0) (hG : G0 bg S ts) (h : Dk.Sep W w (Dk.mdl bm V S ++ (us ++ ts))) (ok : Dk.Ok S k) (hk : k ≤ 300) (what who : Int) (num : Nat) (mm choice : Int) (hwhat : what = 0) (hn : num < S.owner.length) (hwt : S.waits who = false) (hbz : S.held.getD num false = true ∧ S.owner.getD num 0 = who) :
    Calls Try.prog 10 #[.pointer (some ⟨bg, 0, none⟩), .pointer (some ⟨bm, 0, none⟩), .agg #[.int .i64 what, .int .i64 who, .int .i64 (num : Int), .int .i64 mm, .int .i64 choice]] w fun e w' => e = .returned (.bool true) ∧ Both G0 W w' bg bm (k + 1) us := by
  obtain ⟨W1, e1⟩ : ∃ W1, W1 = w.alloc (.cells #[.int .i64 what, .int .i64 who, .int .i64 (num : Int), .int .i64 mm, .int .i64 choice] 30) := ⟨_, rfl⟩
  have h1 : Dk.Sep W W1 (Dk.mdl bm V S ++ (Dk.boxOf w.heap.size #[.int .i64 what, .int .i64 who, .int .i64 (num : Int), .int .i64 mm, .int .i64 choice] 30 :: us ++ ts)) := (h.newBox e1).perm List.perm_middle.symm
  have H1 : Hid (w.alloc (.cells #[.int .i64 what, .int .i64 who, .int .i64 (num : Int), .int .i64 mm, .int .i64 choice] 30) = W1) := e1.symm
  obtain ⟨b5, eb5⟩ : ∃ b5, w.heap.size = b5 := ⟨_, rfl⟩
  rw [eb5] at h1
  have HB5 : Hid (w.heap.size = b5) := eb5
  clear e1 eb5
  have b1x : Dk.Box W1 b5 #[.int .i64 what, .int .i64 who, .int .i64 (num : Int), .int .i64 mm, .int .i64 choice] 30 := h1.box (by simp)
  have c0 : W1.cell? ⟨b5, 0, none⟩ = some (.int .i64 what) := b1x.cell 0
  have c1 : W1.cell? ⟨b5, 1, none⟩ = some (.int .i64 who) := b1x.cell 1
  have c2 : W1.cell? ⟨b5, 2, none⟩ = some (.int .i64 (num : Int)) := b1x.cell 2
  have c3 : W1.cell? ⟨b5, 3, none⟩ = some (.int .i64 mm) := b1x.cell 3
  have c4 : W1.cell? ⟨b5, 4, none⟩ = some (.int .i64 choice) := b1x.cell 4
  clear b1x
  have hw0b : decide (what = 0) = true := decide_eq_true (by omega)
  have hw0c : (what == 0) = true := by simpa using (show what = 0 by omega)
  have hw1b : decide (what = 1) = false := decide_eq_false (by omega)
  have hw1c : (what == 1) = false := by simpa using (show ¬ what = 1 by omega)
  have hw2b : decide (what = 2) = false := decide_eq_false (by omega)
  have hw2c : (what == 2) = false := by simpa using (show ¬ what = 2 by omega)
  have hw3b : decide (what = 3) = false := decide_eq_false (by omega)
  have hw3c : (what == 3) = false := by simpa using (show ¬ what = 3 by omega)
  have hw4b : decide (what = 4) = false := decide_eq_false (by omega)
  have hw4c : (what == 4) = false := by simpa using (show ¬ what = 4 by omega)
  clear hwhat
  have K2 := I.lock_busy hG (toG h1) ok hk who num hn (.inr hbz)
  go_enter Try.func10, Try.ntmps10
  go_wp2_with (rw [H1.out, HB5.out]; clear H1)
  refine K2.mono ?_
  rintro e w3 ⟨rfl, ts', hG', h3'⟩
  have h3 := ofG h3'
  clear K2 h3' c0 c1 c2 c3 c4 h1
  have bb : ∀ y : Dk.Up w3, Dk.Box y.wd b5 #[.int .i64 what, .int .i64 who, .int .i64 (num : Int), .int .i64 mm, .int .i64 choice] 30 := fun y => (h3.below y.property).box (by simp)
  have b0 : ∀ y : Dk.Up w3, y.wd.cell? ⟨b5, 0, none⟩ = some (.int .i64 what) := fun y => (bb y).cell 0
  have b1 : ∀ y : Dk.Up w3, y.wd.cell? ⟨b5, 1, none⟩ = some (.int .i64 who) := fun y => (bb y).cell 1
  have b2 : ∀ y : Dk.Up w3, y.wd.cell? ⟨b5, 2, none⟩ = some (.int .i64 (num : Int)) := fun y => (bb y).cell 2
  have b3 : ∀ y : Dk.Up w3, y.wd.cell? ⟨b5, 3, none⟩ = some (.int .i64 mm) := fun y => (bb y).cell 3
  have b4 : ∀ y : Dk.Up w3, y.wd.cell? ⟨b5, 4, none⟩ = some (.int .i64 choice) := fun y => (bb y).cell 4
  have bn : Nonempty (Dk.Up w3) := ⟨⟨w3, Below.refl _ _⟩⟩
  have up : ∀ b o v, w3.cell? ⟨b, o, none⟩ = some v → ∀ y : Dk.Up w3, y.wd.cell? ⟨b, o, none⟩ = some v := fun b o v hv y => (y.property.cell (p := ⟨b, o, none⟩) (lt_of_cell' hv)).trans hv
  have hhn : num < S.held.length := by rw [ok.held]; exact hn
  obtain ⟨gh, Ch, eh, qh, mh, ch0, _, _⟩ := Mdl.setHeld h3 (n := num) hhn
  obtain ⟨go, Co, eo, qo, mo, co0, _, _⟩ := Mdl.setOwner h3 (n := num) hn
  rw [ok.held] at eh qh
  unfold maxLen at mh mo
  have d1 : ∀ y : Dk.Up w3, y.wd.cell? ⟨bm, 1, none⟩ = some (.slice (some ⟨gh, 0, none⟩) S.owner.length Ch) := up _ _ _ (by rw [← eh]; exact (Dk.Mdl.head h3).cell 1)
  have d0 : ∀ y : Dk.Up w3, y.wd.cell? ⟨bm, 0, none⟩ = some (.slice (some ⟨go, 0, none⟩) S.owner.length Co) := up _ _ _ (by rw [← eo]; exact (Dk.Mdl.head h3).cell 0)
  have dh := up _ _ _ ch0
  have do_ := up _ _ _ co0
  have hni : (num : Int) < (S.owner.length : Int) := by omega
  clear ch0 co0
  obtain ⟨hb, ehb⟩ : ∃ hb, S.held.getD num false = hb := ⟨_, rfl⟩
  obtain ⟨ow, eow⟩ : ∃ ow, S.owner.getD num 0 = ow := ⟨_, rfl⟩
  rw [ehb] at dh
  rw [eow] at do_
  have K1 : ∀ y : Dk.Up w3, Calls Try.prog 24 #[.int .i64 (num : Int), .int .i64 (S.owner.length : Int)] y.wd fun e w' => e = .returned (.bool true) ∧ w' = y.wd := fun y => is_yes num S.owner.length hn y.wd
  have C1 : Hid _ := K1
  clear K1
  have K24 : ∀ y : Dk.Up w3, Calls Try.prog 25 #[.pointer (some ⟨bm, 0, none⟩), .int .i64 who] y.wd fun e w' => e = .returned (.bool false) ∧ w' = y.wd := fun y => by rw [← hwt]; exact waits_m (h3.below y.property) ok who
  have C24 : Hid _ := K24
  clear K24
  have hb1 : hb = true := by rw [← ehb]; exact hbz.1
  have ow1 : ow = who := by rw [← eow]; exact hbz.2
  clear ehb eow hbz
  subst hb1 ow1
  go_wp2_with fail
  refine Dk.wp_region_up_lit_of (w0 := w3) (Below.refl _ _) (by kernel_rfl) (by kernel_rfl) ?_
  repeat (go_big_quiet_step ((go_at_call 24; exact Dk.calls_up_same _ (C1.out _))))
  refine wpQuiet_nil ?_
  intro _ hw'
  obtain ⟨y, hw''⟩ := hw'
  subst hw''
  have z1 : Below w3.heap.size w3 y.wd := y.property
  go_wp2_with fail
  refine Dk.wp_region_up_lit_of (w0 := w3) z1 (by kernel_rfl) (by kernel_rfl) ?_
  repeat (go_big_quiet_step ((go_at_call 25; exact Dk.calls_up_same _ (C24.out _))))
  refine wpQuiet_nil ?_
  intro _ hw'
  clear z1
  obtain ⟨y, hw''⟩ := hw'
  subst hw''
  have z1 : Below w3.heap.size w3 y.wd := y.property
  have h9 := h3.below z1
  go_wp2_with fail
  go_ret
  exact ⟨rfl, S, _, ts', hG', dropX h9, ok.mono (by omega)⟩
set_option maxRecDepth 100000 in
set_option maxHeartbeats 8000000 in
theorem play_lock_wait (I : GateI G0) (hG : G0 bg S ts) (h : Dk.Sep W w (Dk.mdl bm V S ++ (us ++ ts))) (ok : Dk.Ok S k) (hk : k ≤ 300) (what who : Int) (num : Nat) (mm choice : Int) (hwhat : what = 0) (hn : num < S.owner.length) (hwho : Dk.i64 who) (hwt : S.waits who = false) (hnb : ¬ (S.held.getD num false = true ∧ S.owner.getD num 0 = who)) (hheld : S.held.getD num false = true) :
    Calls Try.prog 10 #[.pointer (some ⟨bg, 0, none⟩), .pointer (some ⟨bm, 0, none⟩), .agg #[.int .i64 what, .int .i64 who, .int .i64 (num : Int), .int .i64 mm, .int .i64 choice]] w fun e w' => e = .returned (.bool true) ∧ Both G0 W w' bg bm (k + 1) us := by
  obtain ⟨W1, e1⟩ : ∃ W1, W1 = w.alloc (.cells #[.int .i64 what, .int .i64 who, .int .i64 (num : Int), .int .i64 mm, .int .i64 choice] 30) := ⟨_, rfl⟩
  have h1 : Dk.Sep W W1 (Dk.mdl bm V S ++ (Dk.boxOf w.heap.size #[.int .i64 what, .int .i64 who, .int .i64 (num : Int), .int .i64 mm, .int .i64 choice] 30 :: us ++ ts)) := (h.newBox e1).perm List.perm_middle.symm
  have H1 : Hid (w.alloc (.cells #[.int .i64 what, .int .i64 who, .int .i64 (num : Int), .int .i64 mm, .int .i64 choice] 30) = W1) := e1.symm
  obtain ⟨b5, eb5⟩ : ∃ b5, w.heap.size = b5 := ⟨_, rfl⟩
  rw [eb5] at h1
  have HB5 : Hid (w.heap.size = b5) := eb5
  clear e1 eb5
  have b1x : Dk.Box W1 b5 #[.int .i64 what, .int .i64 who, .int .i64 (num : Int), .int .i64 mm, .int .i64 choice] 30 := h1.box (by simp)
  have c0 : W1.cell? ⟨b5, 0, none⟩ = some (.int .i64 what) := b1x.cell 0
  have c1 : W1.cell? ⟨b5, 1, none⟩ = some (.int .i64 who) := b1x.cell 1
  have c2 : W1.cell? ⟨b5, 2, none⟩ = some (.int .i64 (num : Int)) := b1x.cell 2
  have c3 : W1.cell? ⟨b5, 3, none⟩ = some (.int .i64 mm) := b1x.cell 3
  have c4 : W1.cell? ⟨b5, 4, none⟩ = some (.int .i64 choice) := b1x.cell 4
  clear b1x
  have hw0b : decide (what = 0) = true := decide_eq_true (by omega)
  have hw0c : (what == 0) = true := by simpa using (show what = 0 by omega)
  have hw1b : decide (what = 1) = false := decide_eq_false (by omega)
  have hw1c : (what == 1) = false := by simpa using (show ¬ what = 1 by omega)
  have hw2b : decide (what = 2) = false := decide_eq_false (by omega)
  have hw2c : (what == 2) = false := by simpa using (show ¬ what = 2 by omega)
  have hw3b : decide (what = 3) = false := decide_eq_false (by omega)
  have hw3c : (what == 3) = false := by simpa using (show ¬ what = 3 by omega)
  have hw4b : decide (what = 4) = false := decide_eq_false (by omega)
  have hw4c : (what == 4) = false := by simpa using (show ¬ what = 4 by omega)
  clear hwhat
  have K2 := I.lock_wait hG (toG h1) ok hk who num hn hwho hwt hnb hheld
  go_enter Try.func10, Try.ntmps10
  go_wp2_with (rw [H1.out, HB5.out]; clear H1)
  refine K2.mono ?_
  rintro e w3 ⟨rfl, ts', hG', h3'⟩
  have h3 := ofG h3'
  clear K2 h3' c0 c1 c2 c3 c4 h1
  have bb : ∀ y : Dk.Up w3, Dk.Box y.wd b5 #[.int .i64 what, .int .i64 who, .int .i64 (num : Int), .int .i64 mm, .int .i64 choice] 30 := fun y => (h3.below y.property).box (by simp)
  have b0 : ∀ y : Dk.Up w3, y.wd.cell? ⟨b5, 0, none⟩ = some (.int .i64 what) := fun y => (bb y).cell 0
  have b1 : ∀ y : Dk.Up w3, y.wd.cell? ⟨b5, 1, none⟩ = some (.int .i64 who) := fun y => (bb y).cell 1
  have b2 : ∀ y : Dk.Up w3, y.wd.cell? ⟨b5, 2, none⟩ = some (.int .i64 (num : Int)) := fun y => (bb y).cell 2
  have b3 : ∀ y : Dk.Up w3, y.wd.cell? ⟨b5, 3, none⟩ = some (.int .i64 mm) := fun y => (bb y).cell 3
  have b4 : ∀ y : Dk.Up w3, y.wd.cell? ⟨b5, 4, none⟩ = some (.int .i64 choice) := fun y => (bb y).cell 4
  have bn : Nonempty (Dk.Up w3) := ⟨⟨w3, Below.refl _ _⟩⟩
  have up : ∀ b o v, w3.cell? ⟨b, o, none⟩ = some v → ∀ y : Dk.Up w3, y.wd.cell? ⟨b, o, none⟩ = some v := fun b o v hv y => (y.property.cell (p := ⟨b, o, none⟩) (lt_of_cell' hv)).trans hv
  have hhn : num < S.held.length := by rw [ok.held]; exact hn
  obtain ⟨gh, Ch, eh, qh, mh, ch0, _, _⟩ := Mdl.setHeld h3 (n := num) hhn
  obtain ⟨go, Co, eo, qo, mo, co0, _, _⟩ := Mdl.setOwner h3 (n := num) hn
  rw [ok.held] at eh qh
  unfold maxLen at mh mo
  have d1 : ∀ y : Dk.Up w3, y.wd.cell? ⟨bm, 1, none⟩ = some (.slice (some ⟨gh, 0, none⟩) S.owner.length Ch) := up _ _ _ (by rw [← eh]; exact (Dk.Mdl.head h3).cell 1)
  have d0 : ∀ y : Dk.Up w3, y.wd.cell? ⟨bm, 0, none⟩ = some (.slice (some ⟨go, 0, none⟩) S.owner.length Co) := up _ _ _ (by rw [← eo]; exact (Dk.Mdl.head h3).cell 0)
  have dh := up _ _ _ ch0
  have do_ := up _ _ _ co0
  have hni : (num : Int) < (S.owner.length : Int) := by omega
  clear ch0 co0
  obtain ⟨hb, ehb⟩ : ∃ hb, S.held.getD num false = hb := ⟨_, rfl⟩
  obtain ⟨ow, eow⟩ : ∃ ow, S.owner.getD num 0 = ow := ⟨_, rfl⟩
  rw [ehb] at dh
  rw [eow] at do_
  have K1 : ∀ y : Dk.Up w3, Calls Try.prog 24 #[.int .i64 (num : Int), .int .i64 (S.owner.length : Int)] y.wd fun e w' => e = .returned (.bool true) ∧ w' = y.wd := fun y => is_yes num S.owner.length hn y.wd
  have C1 : Hid _ := K1
  clear K1
  have K24 : ∀ y : Dk.Up w3, Calls Try.prog 25 #[.pointer (some ⟨bm, 0, none⟩), .int .i64 who] y.wd fun e w' => e = .returned (.bool false) ∧ w' = y.wd := fun y => by rw [← hwt]; exact waits_m (h3.below y.property) ok who
  have C24 : Hid _ := K24
  clear K24
  have hb1 : hb = true := by rw [← ehb]; exact hheld
  have ow1 : ¬ ow = who := fun e => hnb ⟨hheld, by rw [eow]; exact e⟩
  have zo : decide (ow = who) = false := decide_eq_false ow1
  have zo' : (ow == who) = false := by simpa using ow1
  clear ehb eow hnb hheld
  subst hb1
  go_wp2_with fail
  refine Dk.wp_region_up_lit_of (w0 := w3) (Below.refl _ _) (by kernel_rfl) (by kernel_rfl) ?_
  repeat (go_big_quiet_step ((go_at_call 24; exact Dk.calls_up_same _ (C1.out _))))
  refine wpQuiet_nil ?_
  intro _ hw'
  obtain ⟨y, hw''⟩ := hw'
  subst hw''
  have z1 : Below w3.heap.size w3 y.wd := y.property
  go_wp2_with fail
  refine Dk.wp_region_up_lit_of (w0 := w3) z1 (by kernel_rfl) (by kernel_rfl) ?_
  repeat (go_big_quiet_step ((go_at_call 25; exact Dk.calls_up_same _ (C24.out _))))
  refine wpQuiet_nil ?_
  intro _ hw'
  clear z1
  obtain ⟨y, hw''⟩ := hw'
  subst hw''
  have z1 : Below w3.heap.size w3 y.wd := y.property
  go_wp2_with fail
  refine Dk.wp_region_up_lit_of (w0 := w3) z1 (by kernel_rfl) (by kernel_rfl) ?_
  repeat (go_big_quiet_step (fail))
  refine wpQuiet_nil ?_
  intro _ hw'
  clear z1
  obtain ⟨y, hw''⟩ := hw'
  subst hw''
  have z1 : Below w3.heap.size w3 y.wd := y.property
  have u5 : Below w3.heap.size w3 y.wd.drew := Dk.up_drew z1
  have h5 := h3.below u5
  have hdn : num < S.wait.length := by rw [ok.wait]; exact hn
  have hlw : (S.wait.getD num []).length ≤ 1000 := by
    have := ok.waitLen (Dk.getD_mem S.wait [] num hdn)
    omega
  have f5 := (Dk.Mdl.head h5).cell 2
  have g1' := (h5.box (b := b5) (cs := #[.int .i64 what, .int .i64 who, .int .i64 (num : Int), .int .i64 mm, .int .i64 choice]) (t := 30) (by simp)).cell 1
  have g2' := (h5.box (b := b5) (cs := #[.int .i64 what, .int .i64 who, .int .i64 (num : Int), .int .i64 mm, .int .i64 choice]) (t := 30) (by simp)).cell 2
  obtain ⟨g5, C5, A, L, C', A', L', C'', w6, V6, e5, q5, m5, c5, r6, _, d6, z6, aw, hv6, h7⟩ := Mdl.addWait h5 hdn who hlw
  have f5' : y.wd.drew.cell? ⟨bm, 2, none⟩ = some (.slice (some ⟨g5, 0, none⟩) S.wait.length C5) := by rw [← e5]; exact f5
  unfold maxLen at m5
  have hnb : bm < y.wd.drew.heap.size := lt_of_cell' f5'
  have hn5 : b5 < y.wd.drew.heap.size := lt_of_cell' g1'
  have hap := (List.pairwise_append.1 (Hid.out h5).apart)
  have hno : ¬ (Value.ownBlock (.slice A L C') = some bm) := fun e => (List.pairwise_cons.1 hap.1).1 (Dk.nestOf 22 3 1 Dk.is V.v2 V.hv S.wait) (by simp) bm rfl (.inr ⟨_, List.mem_of_getElem? hv6, e⟩)
  have hnq : ¬ (Value.ownBlock (.slice A L C') = some b5) := fun e => hap.2.2 (Dk.nestOf 22 3 1 Dk.is V.v2 V.hv S.wait) (by simp [Dk.mdl]) (Dk.boxOf b5 #[.int .i64 what, .int .i64 who, .int .i64 (num : Int), .int .i64 mm, .int .i64 choice] 30) (by simp) b5 (.inr ⟨_, List.mem_of_getElem? hv6, e⟩) rfl
  have HK : Hid (y.wd.drew.cell? ⟨bm, 2, none⟩ = some (.slice (some ⟨g5, 0, none⟩) S.wait.length C5) ∧ y.wd.drew.cell? ⟨b5, 2, none⟩ = some (.int .i64 (num : Int)) ∧ y.wd.drew.cell? ⟨b5, 1, none⟩ = some (.int .i64 who) ∧ y.wd.drew.cell? ⟨g5, num, none⟩ = some (.slice A L C')) := ⟨f5', g2', g1', c5⟩
  have HK6 : Hid (w6.cell? ⟨bm, 2, none⟩ = some (.slice (some ⟨g5, 0, none⟩) S.wait.length C5) ∧ w6.cell? ⟨b5, 2, none⟩ = some (.int .i64 (num : Int)) ∧ w6.cell? ⟨b5, 1, none⟩ = some (.int .i64 who) ∧ w6.cell? ⟨g5, num, none⟩ = some (.slice A L C')) := ⟨(Dk.Away.cell aw hnb hno 2).trans f5', (Dk.Away.cell aw hn5 hnq 2).trans g2', (Dk.Away.cell aw hn5 hnq 1).trans g1', d6⟩
  have HF6 : Hid (w6.frozen? ⟨g5, num, none⟩ = false) := z6
  have HR6 : Hid _ := r6
  obtain ⟨W7, e7⟩ : ∃ W7, W7 = w6.setCell ⟨g5, num, none⟩ (.slice A' L' C'') := ⟨_, rfl⟩
  rw [← e7] at h7
  have H7 : Hid (w6.setCell ⟨g5, num, none⟩ (.slice A' L' C'') = W7) := e7.symm
  have ok7 : Dk.Ok { S with wait := S.wait.set num (S.wait.getD num [] ++ [who]) } (k + 1) := ok.setWait num hdn _ (Dk.snoc_mem (ok.waits _ (Dk.getD_mem S.wait [] num hdn)) hwho) (by simp; omega)
  have hdi : (num : Int) < (S.wait.length : Int) := by omega
  clear b0 b1 b2 b3 b4 bb bn d0 d1 dh do_ h3 h5 e7 ok aw d6 z6 r6 c5 hap hno hnq f5 f5' g1' g2' e5 hv6 eh eo up C1 C24 z1
  go_wp2_with fail
  refine Dk.wp_region_lineZ (z := 19) (S := fun w' => w'.cell? ⟨bm, 2, none⟩ = some (.slice (some ⟨g5, 0, none⟩) S.wait.length C5) ∧ w'.cell? ⟨b5, 2, none⟩ = some (.int .i64 (num : Int)) ∧ w'.cell? ⟨b5, 1, none⟩ = some (.int .i64 who) ∧ w'.cell? ⟨g5, num, none⟩ = some (.slice A L C')) [0, 1, 2, 3, 4, 5, 6, 7, 8, 9, 10, 11, 12, 13, 14, 15] [16, 17, 18, 19] (by kernel_rfl) (by kernel_rfl) (by kernel_rfl) HK.out ?_
  refine Dk.held_step (v := .pointer (some ⟨bm, 0, none⟩)) rfl rfl (fun w' hw' => by obtain ⟨q0, q1, q2, q3⟩ := hw'; go_simp) ?_
  simp only [Act.put, List.setIfInBounds_toArray, List.set_cons_succ, List.set_cons_zero]
  refine Dk.held_step (v := .pointer (some ⟨bm, 0, none⟩)) rfl rfl (fun w' hw' => by obtain ⟨q0, q1, q2, q3⟩ := hw'; go_simp) ?_
  simp only [Act.put, List.setIfInBounds_toArray, List.set_cons_succ, List.set_cons_zero]
  refine Dk.held_step (v := .pointer (some ⟨bm, 2, none⟩)) rfl rfl (fun w' hw' => by obtain ⟨q0, q1, q2, q3⟩ := hw'; go_simp) ?_
  simp only [Act.put, List.setIfInBounds_toArray, List.set_cons_succ, List.set_cons_zero]
  refine Dk.held_step (v := .slice (some ⟨g5, 0, none⟩) S.wait.length C5) rfl rfl (fun w' hw' => by obtain ⟨q0, q1, q2, q3⟩ := hw'; go_simp) ?_
  simp only [Act.put, List.setIfInBounds_toArray, List.set_cons_succ, List.set_cons_zero]
  refine Dk.held_step (v := .pointer (some ⟨b5, 2, none⟩)) rfl rfl (fun w' hw' => by obtain ⟨q0, q1, q2, q3⟩ := hw'; go_simp) ?_
  simp only [Act.put, List.setIfInBounds_toArray, List.set_cons_succ, List.set_cons_zero]
  refine Dk.held_step (v := .int .i64 (num : Int)) rfl rfl (fun w' hw' => by obtain ⟨q0, q1, q2, q3⟩ := hw'; go_simp) ?_
  simp only [Act.put, List.setIfInBounds_toArray, List.set_cons_succ, List.set_cons_zero]
  refine Dk.held_step (v := .pointer (some ⟨bm, 0, none⟩)) rfl rfl (fun w' hw' => by obtain ⟨q0, q1, q2, q3⟩ := hw'; go_simp) ?_
  simp only [Act.put, List.setIfInBounds_toArray, List.set_cons_succ, List.set_cons_zero]
  refine Dk.held_step (v := .pointer (some ⟨bm, 0, none⟩)) rfl rfl (fun w' hw' => by obtain ⟨q0, q1, q2, q3⟩ := hw'; go_simp) ?_
  simp only [Act.put, List.setIfInBounds_toArray, List.set_cons_succ, List.set_cons_zero]
  refine Dk.held_step (v := .pointer (some ⟨bm, 2, none⟩)) rfl rfl (fun w' hw' => by obtain ⟨q0, q1, q2, q3⟩ := hw'; go_simp) ?_
  simp only [Act.put, List.setIfInBounds_toArray, List.set_cons_succ, List.set_cons_zero]
  refine Dk.held_step (v := .slice (some ⟨g5, 0, none⟩) S.wait.length C5) rfl rfl (fun w' hw' => by obtain ⟨q0, q1, q2, q3⟩ := hw'; go_simp) ?_
  simp only [Act.put, List.setIfInBounds_toArray, List.set_cons_succ, List.set_cons_zero]
  refine Dk.held_step (v := .pointer (some ⟨b5, 2, none⟩)) rfl rfl (fun w' hw' => by obtain ⟨q0, q1, q2, q3⟩ := hw'; go_simp) ?_
  simp only [Act.put, List.setIfInBounds_toArray, List.set_cons_succ, List.set_cons_zero]
  refine Dk.held_step (v := .int .i64 (num : Int)) rfl rfl (fun w' hw' => by obtain ⟨q0, q1, q2, q3⟩ := hw'; go_simp) ?_
  simp only [Act.put, List.setIfInBounds_toArray, List.set_cons_succ, List.set_cons_zero]
  refine Dk.held_step (v := .pointer (some ⟨g5, num, none⟩)) rfl rfl (fun w' hw' => by obtain ⟨q0, q1, q2, q3⟩ := hw'; go_simp) ?_
  simp only [Act.put, List.setIfInBounds_toArray, List.set_cons_succ, List.set_cons_zero]
  refine Dk.held_step (v := .slice A L C') rfl rfl (fun w' hw' => by obtain ⟨q0, q1, q2, q3⟩ := hw'; go_simp) ?_
  simp only [Act.put, List.setIfInBounds_toArray, List.set_cons_succ, List.set_cons_zero]
  refine Dk.held_step (v := .pointer (some ⟨b5, 1, none⟩)) rfl rfl (fun w' hw' => by obtain ⟨q0, q1, q2, q3⟩ := hw'; go_simp) ?_
  simp only [Act.put, List.setIfInBounds_toArray, List.set_cons_succ, List.set_cons_zero]
  refine Dk.held_step (v := .int .i64 who) rfl rfl (fun w' hw' => by obtain ⟨q0, q1, q2, q3⟩ := hw'; go_simp) ?_
  simp only [Act.put, List.setIfInBounds_toArray, List.set_cons_succ, List.set_cons_zero]
  obtain ⟨W5, e5⟩ : ∃ W5, W5 = y.wd.drew.alloc (.cells #[.int .i64 who] 3) := ⟨_, rfl⟩
  have S5 : W5.cell? ⟨bm, 2, none⟩ = some (.slice (some ⟨g5, 0, none⟩) S.wait.length C5) ∧ W5.cell? ⟨b5, 2, none⟩ = some (.int .i64 (num : Int)) ∧ W5.cell? ⟨b5, 1, none⟩ = some (.int .i64 who) ∧ W5.cell? ⟨g5, num, none⟩ = some (.slice A L C') := by
    rw [e5]
    obtain ⟨q0, q1, q2, q3⟩ := HK.out
    exact ⟨Lib.cell?_alloc_some _ q0, Lib.cell?_alloc_some _ q1, Lib.cell?_alloc_some _ q2, Lib.cell?_alloc_some _ q3⟩
  refine Dk.lineZ_step (v := .slice (some ⟨y.wd.drew.heap.size, 0, none⟩) 1 1) (w' := W5) rfl rfl (by rw [e5]; go_simp) (fun _ => S5) ?_
  simp only [Act.put, List.setIfInBounds_toArray, List.set_cons_succ, List.set_cons_zero]
  have r5 := HR6.out
  rw [← e5, show y.wd.drew.heap.size = y.wd.heap.size from rfl] at r5
  refine Dk.lineZ_step (v := .slice A' L' C'') (w' := w6) rfl rfl (by simp only [execOp, resolve, invoke, builtin]; simp [Act.eval, r5]) (fun _ => HK6.out) ?_
  simp only [Act.put, List.setIfInBounds_toArray, List.set_cons_succ, List.set_cons_zero]
  refine Dk.lineZ_step (v := .pointer (some ⟨g5, num, none⟩)) (w' := w6) rfl rfl (by go_simp) (fun _ => HK6.out) ?_
  simp only [Act.put, List.setIfInBounds_toArray, List.set_cons_succ, List.set_cons_zero]
  refine Dk.lineZ_skip (w' := W7) rfl rfl (by rw [← H7.out]; have q1 := HK6.out.2.2.2; have q2 := HF6.out; go_simp) (fun h => absurd rfl h) ?_
  simp only [Act.put, List.setIfInBounds_toArray, List.set_cons_succ, List.set_cons_zero]
  rename ∀ (_ : Act) (_ : World), Code.wp _ _ _ _ _ → _ => hK
  refine hK _ _ ?_
  clear hK HK HK6 HF6 HR6 H7 e5 S5 r5
  go_wp2_with fail
  go_ret
  exact ⟨rfl, _, _, ts', hG', dropX h7, ok7⟩
set_option maxRecDepth 100000 in
set_option maxHeartbeats 8000000 in
theorem play_lock_yes (I : GateI G0) (hG : G0 bg S ts) (h : Dk.Sep W w (Dk.mdl bm V S ++ (us ++ ts))) (ok : Dk.Ok S k) (hk : k ≤ 300) (what who : Int) (num : Nat) (mm choice : Int) (hwhat : what = 0) (hn : num < S.owner.length) (hwho : Dk.i64 who) (hwt : S.waits who = false) (hnb : ¬ (S.held.getD num false = true ∧ S.owner.getD num 0 = who)) (hheld : S.held.getD num false = false) :
    Calls Try.prog 10 #[.pointer (some ⟨bg, 0, none⟩), .pointer (some ⟨bm, 0, none⟩), .agg #[.int .i64 what, .int .i64 who, .int .i64 (num : Int), .int .i64 mm, .int .i64 choice]] w fun e w' => e = .returned (.bool true) ∧ Both G0 W w' bg bm (k + 1) us := by
  obtain ⟨W1, e1⟩ : ∃ W1, W1 = w.alloc (.cells #[.int .i64 what, .int .i64 who, .int .i64 (num : Int), .int .i64 mm, .int .i64 choice] 30) := ⟨_, rfl⟩
  have h1 : Dk.Sep W W1 (Dk.mdl bm V S ++ (Dk.boxOf w.heap.size #[.int .i64 what, .int .i64 who, .int .i64 (num : Int), .int .i64 mm, .int .i64 choice] 30 :: us ++ ts)) := (h.newBox e1).perm List.perm_middle.symm
  have H1 : Hid (w.alloc (.cells #[.int .i64 what, .int .i64 who, .int .i64 (num : Int), .int .i64 mm, .int .i64 choice] 30) = W1) := e1.symm
  obtain ⟨b5, eb5⟩ : ∃ b5, w.heap.size = b5 := ⟨_, rfl⟩
  rw [eb5] at h1
  have HB5 : Hid (w.heap.size = b5) := eb5
  clear e1 eb5
  have b1x : Dk.Box W1 b5 #[.int .i64 what, .int .i64 who, .int .i64 (num : Int), .int .i64 mm, .int .i64 choice] 30 := h1.box (by simp)
  have c0 : W1.cell? ⟨b5, 0, none⟩ = some (.int .i64 what) := b1x.cell 0
  have c1 : W1.cell? ⟨b5, 1, none⟩ = some (.int .i64 who) := b1x.cell 1
  have c2 : W1.cell? ⟨b5, 2, none⟩ = some (.int .i64 (num : Int)) := b1x.cell 2
  have c3 : W1.cell? ⟨b5, 3, none⟩ = some (.int .i64 mm) := b1x.cell 3
  have c4 : W1.cell? ⟨b5, 4, none⟩ = some (.int .i64 choice) := b1x.cell 4
  clear b1x
  have hw0b : decide (what = 0) = true := decide_eq_true (by omega)
  have hw0c : (what == 0) = true := by simpa using (show what = 0 by omega)
  have hw1b : decide (what = 1) = false := decide_eq_false (by omega)
  have hw1c : (what == 1) = false := by simpa using (show ¬ what = 1 by omega)
  have hw2b : decide (what = 2) = false := decide_eq_false (by omega)
  have hw2c : (what == 2) = false := by simpa using (show ¬ what = 2 by omega)
  have hw3b : decide (what = 3) = false := decide_eq_false (by omega)
  have hw3c : (what == 3) = false := by simpa using (show ¬ what = 3 by omega)
  have hw4b : decide (what = 4) = false := decide_eq_false (by omega)
  have hw4c : (what == 4) = false := by simpa using (show ¬ what = 4 by omega)
  clear hwhat
  have K2 := I.lock_yes hG (toG h1) ok hk who num hn hwho hwt hnb hheld
  go_enter Try.func10, Try.ntmps10
  go_wp2_with (rw [H1.out, HB5.out]; clear H1)
  refine K2.mono ?_
  rintro e w3 ⟨rfl, ts', hG', h3'⟩
  have h3 := ofG h3'
  clear K2 h3' c0 c1 c2 c3 c4 h1
  have bb : ∀ y : Dk.Up w3, Dk.Box y.wd b5 #[.int .i64 what, .int .i64 who, .int .i64 (num : Int), .int .i64 mm, .int .i64 choice] 30 := fun y => (h3.below y.property).box (by simp)
  have b0 : ∀ y : Dk.Up w3, y.wd.cell? ⟨b5, 0, none⟩ = some (.int .i64 what) := fun y => (bb y).cell 0
  have b1 : ∀ y : Dk.Up w3, y.wd.cell? ⟨b5, 1, none⟩ = some (.int .i64 who) := fun y => (bb y).cell 1
  have b2 : ∀ y : Dk.Up w3, y.wd.cell? ⟨b5, 2, none⟩ = some (.int .i64 (num : Int)) := fun y => (bb y).cell 2
  have b3 : ∀ y : Dk.Up w3, y.wd.cell? ⟨b5, 3, none⟩ = some (.int .i64 mm) := fun y => (bb y).cell 3
  have b4 : ∀ y : Dk.Up w3, y.wd.cell? ⟨b5, 4, none⟩ = some (.int .i64 choice) := fun y => (bb y).cell 4
  have bn : Nonempty (Dk.Up w3) := ⟨⟨w3, Below.refl _ _⟩⟩
  have up : ∀ b o v, w3.cell? ⟨b, o, none⟩ = some v → ∀ y : Dk.Up w3, y.wd.cell? ⟨b, o, none⟩ = some v := fun b o v hv y => (y.property.cell (p := ⟨b, o, none⟩) (lt_of_cell' hv)).trans hv
  have hhn : num < S.held.length := by rw [ok.held]; exact hn
  obtain ⟨gh, Ch, eh, qh, mh, ch0, _, _⟩ := Mdl.setHeld h3 (n := num) hhn
  obtain ⟨go, Co, eo, qo, mo, co0, _, _⟩ := Mdl.setOwner h3 (n := num) hn
  rw [ok.held] at eh qh
  unfold maxLen at mh mo
  have d1 : ∀ y : Dk.Up w3, y.wd.cell? ⟨bm, 1, none⟩ = some (.slice (some ⟨gh, 0, none⟩) S.owner.length Ch) := up _ _ _ (by rw [← eh]; exact (Dk.Mdl.head h3).cell 1)
  have d0 : ∀ y : Dk.Up w3, y.wd.cell? ⟨bm, 0, none⟩ = some (.slice (some ⟨go, 0, none⟩) S.owner.length Co) := up _ _ _ (by rw [← eo]; exact (Dk.Mdl.head h3).cell 0)
  have dh := up _ _ _ ch0
  have do_ := up _ _ _ co0
  have hni : (num : Int) < (S.owner.length : Int) := by omega
  clear ch0 co0
  obtain ⟨hb, ehb⟩ : ∃ hb, S.held.getD num false = hb := ⟨_, rfl⟩
  obtain ⟨ow, eow⟩ : ∃ ow, S.owner.getD num 0 = ow := ⟨_, rfl⟩
  rw [ehb] at dh
  rw [eow] at do_
  have K1 : ∀ y : Dk.Up w3, Calls Try.prog 24 #[.int .i64 (num : Int), .int .i64 (S.owner.length : Int)] y.wd fun e w' => e = .returned (.bool true) ∧ w' = y.wd := fun y => is_yes num S.owner.length hn y.wd
  have C1 : Hid _ := K1
  clear K1
  have K24 : ∀ y : Dk.Up w3, Calls Try.prog 25 #[.pointer (some ⟨bm, 0, none⟩), .int .i64 who] y.wd fun e w' => e = .returned (.bool false) ∧ w' = y.wd := fun y => by rw [← hwt]; exact waits_m (h3.below y.property) ok who
  have C24 : Hid _ := K24
  clear K24
  have hb1 : hb = false := by rw [← ehb]; exact hheld
  clear ehb eow hnb hheld
  subst hb1
  go_wp2_with fail
  refine Dk.wp_region_up_lit_of (w0 := w3) (Below.refl _ _) (by kernel_rfl) (by kernel_rfl) ?_
  repeat (go_big_quiet_step ((go_at_call 24; exact Dk.calls_up_same _ (C1.out _))))
  refine wpQuiet_nil ?_
  intro _ hw'
  obtain ⟨y, hw''⟩ := hw'
  subst hw''
  have z1 : Below w3.heap.size w3 y.wd := y.property
  go_wp2_with fail
  refine Dk.wp_region_up_lit_of (w0 := w3) z1 (by kernel_rfl) (by kernel_rfl) ?_
  repeat (go_big_quiet_step ((go_at_call 25; exact Dk.calls_up_same _ (C24.out _))))
  refine wpQuiet_nil ?_
  intro _ hw'
  clear z1
  obtain ⟨y, hw''⟩ := hw'
  subst hw''
  have z1 : Below w3.heap.size w3 y.wd := y.property
  go_wp2_with fail
  refine Dk.wp_region_up_lit_of (w0 := w3) z1 (by kernel_rfl) (by kernel_rfl) ?_
  repeat (go_big_quiet_step (fail))
  refine wpQuiet_nil ?_
  intro _ hw'
  clear z1
  obtain ⟨y, hw''⟩ := hw'
  subst hw''
  have z1 : Below w3.heap.size w3 y.wd := y.property
  have u5 : Below w3.heap.size w3 y.wd.drew := Dk.up_drew z1
  have HK : Hid (y.wd.drew.cell? ⟨bm, 1, none⟩ = some (.slice (some ⟨gh, 0, none⟩) S.owner.length Ch) ∧ y.wd.drew.cell? ⟨bm, 0, none⟩ = some (.slice (some ⟨go, 0, none⟩) S.owner.length Co) ∧ y.wd.drew.cell? ⟨b5, 2, none⟩ = some (.int .i64 (num : Int)) ∧ y.wd.drew.cell? ⟨b5, 1, none⟩ = some (.int .i64 who)) := ⟨d1 ⟨_, u5⟩, d0 ⟨_, u5⟩, b2 ⟨_, u5⟩, b1 ⟨_, u5⟩⟩
  obtain ⟨gh', Ch', eh', _, _, chc, chz, hseth⟩ := Mdl.setHeld (h3.below u5) (n := num) hhn
  have egh : gh' = gh := by
    have q := eh.symm.trans eh'
    simp at q
    exact q.1.symm
  subst egh
  have h6 := hseth true
  obtain ⟨W6, e6⟩ : ∃ W6, W6 = y.wd.drew.setCell ⟨gh', num, none⟩ (.bool true) := ⟨_, rfl⟩
  rw [← e6] at h6
  obtain ⟨go', Co', eo', _, _, coc, coz, hseto⟩ := Mdl.setOwner h6 (n := num) hn
  have ego : go' = go := by
    have q := eo.symm.trans eo'
    simp at q
    exact q.1.symm
  subst ego
  have h7 := hseto who
  obtain ⟨W7, e7⟩ : ∃ W7, W7 = W6.setCell ⟨go', num, none⟩ (.int .i64 who) := ⟨_, rfl⟩
  rw [← e7] at h7
  have fx : ∀ (S2 : Dk.St) (w : World), Dk.Sep W w (Dk.mdl bm V S2 ++ (Dk.boxOf b5 #[.int .i64 what, .int .i64 who, .int .i64 (num : Int), .int .i64 mm, .int .i64 choice] 30 :: us ++ ts')) → w.cell? ⟨bm, 1, none⟩ = some (.slice (some ⟨gh', 0, none⟩) S.owner.length Ch) ∧ w.cell? ⟨bm, 0, none⟩ = some (.slice (some ⟨go', 0, none⟩) S.owner.length Co) ∧ w.cell? ⟨b5, 2, none⟩ = some (.int .i64 (num : Int)) ∧ w.cell? ⟨b5, 1, none⟩ = some (.int .i64 who) := fun S2 w hh => by
    have hb := Dk.Mdl.head hh
    have h5 := hh.box (b := b5) (cs := #[.int .i64 what, .int .i64 who, .int .i64 (num : Int), .int .i64 mm, .int .i64 choice]) (t := 30) (by simp)
    exact ⟨by rw [← eh]; exact hb.cell 1, by rw [← eo]; exact hb.cell 0, h5.cell 2, h5.cell 1⟩
  have HK6 : Hid (W6.cell? ⟨bm, 1, none⟩ = some (.slice (some ⟨gh', 0, none⟩) S.owner.length Ch) ∧ W6.cell? ⟨bm, 0, none⟩ = some (.slice (some ⟨go', 0, none⟩) S.owner.length Co) ∧ W6.cell? ⟨b5, 2, none⟩ = some (.int .i64 (num : Int)) ∧ W6.cell? ⟨b5, 1, none⟩ = some (.int .i64 who)) := fx _ _ h6
  have HK7 : Hid (W7.cell? ⟨bm, 1, none⟩ = some (.slice (some ⟨gh', 0, none⟩) S.owner.length Ch) ∧ W7.cell? ⟨bm, 0, none⟩ = some (.slice (some ⟨go', 0, none⟩) S.owner.length Co) ∧ W7.cell? ⟨b5, 2, none⟩ = some (.int .i64 (num : Int)) ∧ W7.cell? ⟨b5, 1, none⟩ = some (.int .i64 who)) := fx _ _ h7
  have H6 : Hid (y.wd.drew.setCell ⟨gh', num, none⟩ (.bool true) = W6) := e6.symm
  have H7 : Hid (W6.setCell ⟨go', num, none⟩ (.int .i64 who) = W7) := e7.symm
  have HZ6 : Hid ((∃ v, y.wd.drew.cell? ⟨gh', num, none⟩ = some v) ∧ y.wd.drew.frozen? ⟨gh', num, none⟩ = false) := ⟨⟨_, chc⟩, chz⟩
  have HZ7 : Hid ((∃ v, W6.cell? ⟨go', num, none⟩ = some v) ∧ W6.frozen? ⟨go', num, none⟩ = false) := ⟨⟨_, coc⟩, coz⟩
  have ok7 : Dk.Ok { S with held := S.held.set num true, owner := S.owner.set num who } (k + 1) := ((ok.setHeld num true).setOwner num who hwho).mono (by omega)
  clear b0 b1 b2 b3 b4 bb bn d0 d1 dh do_ h3 h6 e6 e7 ok eh eo eh' eo' up C1 C24 z1 hseth hseto fx chc chz coc coz
  go_wp2_with fail
  refine Dk.wp_region_line (S := fun w' => w'.cell? ⟨bm, 1, none⟩ = some (.slice (some ⟨gh', 0, none⟩) S.owner.length Ch) ∧ w'.cell? ⟨bm, 0, none⟩ = some (.slice (some ⟨go', 0, none⟩) S.owner.length Co) ∧ w'.cell? ⟨b5, 2, none⟩ = some (.int .i64 (num : Int)) ∧ w'.cell? ⟨b5, 1, none⟩ = some (.int .i64 who)) [0, 1, 2, 3, 4, 5, 6, 7, 8, 9, 10, 11, 12, 13] [14, 15, 16, 17] (by kernel_rfl) (by kernel_rfl) HK.out ?_
  refine Dk.held_step (v := .pointer (some ⟨bm, 0, none⟩)) rfl rfl (fun w' hw' => by obtain ⟨q0, q1, q2, q3⟩ := hw'; go_simp) ?_
  simp only [Act.put, List.setIfInBounds_toArray, List.set_cons_succ, List.set_cons_zero]
  refine Dk.held_step (v := .pointer (some ⟨bm, 0, none⟩)) rfl rfl (fun w' hw' => by obtain ⟨q0, q1, q2, q3⟩ := hw'; go_simp) ?_
  simp only [Act.put, List.setIfInBounds_toArray, List.set_cons_succ, List.set_cons_zero]
  refine Dk.held_step (v := .pointer (some ⟨bm, 1, none⟩)) rfl rfl (fun w' hw' => by obtain ⟨q0, q1, q2, q3⟩ := hw'; go_simp) ?_
  simp only [Act.put, List.setIfInBounds_toArray, List.set_cons_succ, List.set_cons_zero]
  refine Dk.held_step (v := .slice (some ⟨gh', 0, none⟩) S.owner.length Ch) rfl rfl (fun w' hw' => by obtain ⟨q0, q1, q2, q3⟩ := hw'; go_simp) ?_
  simp only [Act.put, List.setIfInBounds_toArray, List.set_cons_succ, List.set_cons_zero]
  refine Dk.held_step (v := .pointer (some ⟨b5, 2, none⟩)) rfl rfl (fun w' hw' => by obtain ⟨q0, q1, q2, q3⟩ := hw'; go_simp) ?_
  simp only [Act.put, List.setIfInBounds_toArray, List.set_cons_succ, List.set_cons_zero]
  refine Dk.held_step (v := .int .i64 (num : Int)) rfl rfl (fun w' hw' => by obtain ⟨q0, q1, q2, q3⟩ := hw'; go_simp) ?_
  simp only [Act.put, List.setIfInBounds_toArray, List.set_cons_succ, List.set_cons_zero]
  refine Dk.held_step (v := .pointer (some ⟨bm, 0, none⟩)) rfl rfl (fun w' hw' => by obtain ⟨q0, q1, q2, q3⟩ := hw'; go_simp) ?_
  simp only [Act.put, List.setIfInBounds_toArray, List.set_cons_succ, List.set_cons_zero]
  refine Dk.held_step (v := .pointer (some ⟨bm, 0, none⟩)) rfl rfl (fun w' hw' => by obtain ⟨q0, q1, q2, q3⟩ := hw'; go_simp) ?_
  simp only [Act.put, List.setIfInBounds_toArray, List.set_cons_succ, List.set_cons_zero]
  refine Dk.held_step (v := .pointer (some ⟨bm, 0, none⟩)) rfl rfl (fun w' hw' => by obtain ⟨q0, q1, q2, q3⟩ := hw'; go_simp) ?_
  simp only [Act.put, List.setIfInBounds_toArray, List.set_cons_succ, List.set_cons_zero]
  refine Dk.held_step (v := .slice (some ⟨go', 0, none⟩) S.owner.length Co) rfl rfl (fun w' hw' => by obtain ⟨q0, q1, q2, q3⟩ := hw'; go_simp) ?_
  simp only [Act.put, List.setIfInBounds_toArray, List.set_cons_succ, List.set_cons_zero]
  refine Dk.held_step (v := .pointer (some ⟨b5, 2, none⟩)) rfl rfl (fun w' hw' => by obtain ⟨q0, q1, q2, q3⟩ := hw'; go_simp) ?_
  simp only [Act.put, List.setIfInBounds_toArray, List.set_cons_succ, List.set_cons_zero]
  refine Dk.held_step (v := .int .i64 (num : Int)) rfl rfl (fun w' hw' => by obtain ⟨q0, q1, q2, q3⟩ := hw'; go_simp) ?_
  simp only [Act.put, List.setIfInBounds_toArray, List.set_cons_succ, List.set_cons_zero]
  refine Dk.held_step (v := .pointer (some ⟨b5, 1, none⟩)) rfl rfl (fun w' hw' => by obtain ⟨q0, q1, q2, q3⟩ := hw'; go_simp) ?_
  simp only [Act.put, List.setIfInBounds_toArray, List.set_cons_succ, List.set_cons_zero]
  refine Dk.held_step (v := .int .i64 who) rfl rfl (fun w' hw' => by obtain ⟨q0, q1, q2, q3⟩ := hw'; go_simp) ?_
  simp only [Act.put, List.setIfInBounds_toArray, List.set_cons_succ, List.set_cons_zero]
  refine Dk.line_step rfl rfl ?_
  refine wp_run (v := .pointer (some ⟨gh', num, none⟩)) (w' := y.wd.drew) (by go_simp) ⟨HK.out, ?_⟩
  simp only [Act.put, List.setIfInBounds_toArray, List.set_cons_succ, List.set_cons_zero]
  refine Dk.line_step rfl rfl ?_
  refine wp_skip (w' := W6) (by rw [← H6.out]; obtain ⟨⟨v, q1⟩, q2⟩ := HZ6.out; go_simp) ⟨HK6.out, ?_⟩
  simp only [Act.put, List.setIfInBounds_toArray, List.set_cons_succ, List.set_cons_zero]
  refine Dk.line_step rfl rfl ?_
  refine wp_run (v := .pointer (some ⟨go', num, none⟩)) (w' := W6) (by go_simp) ⟨HK6.out, ?_⟩
  simp only [Act.put, List.setIfInBounds_toArray, List.set_cons_succ, List.set_cons_zero]
  refine Dk.line_step rfl rfl ?_
  refine wp_skip (w' := W7) (by rw [← H7.out]; obtain ⟨⟨v, q1⟩, q2⟩ := HZ7.out; go_simp) ⟨HK7.out, ?_⟩
  simp only [Act.put, List.setIfInBounds_toArray, List.set_cons_succ, List.set_cons_zero]
  rename ∀ (_ : Act) (_ : World), Code.wp _ _ _ _ _ → _ => hK
  refine hK _ _ ?_
  clear hK HK HK6 HK7 H6 H7 HZ6 HZ7
  go_wp2_with fail
  go_ret
  exact ⟨rfl, _, _, ts', hG', dropX h7, ok7⟩
set_option maxRecDepth 100000 in
set_option maxHeartbeats 8000000 in
theorem play_unlock_arg (I : GateI G0) (hG : G0 bg S ts) (h : Dk.Sep W w (Dk.mdl bm V S ++ (us ++ ts))) (ok : Dk.Ok S k) (hk : k ≤ 300) (what who num mm choice : Int) (hwhat : what = 1) (hno : num < 0 ∨ (S.owner.length : Int) ≤ num) :
    Calls Try.prog 10 #[.pointer (some ⟨bg, 0, none⟩), .pointer (some ⟨bm, 0, none⟩), .agg #[.int .i64 what, .int .i64 who, .int .i64 num, .int .i64 mm, .int .i64 choice]] w fun e w' => e = .returned (.bool true) ∧ Both G0 W w' bg bm (k + 1) us := by
  obtain ⟨W1, e1⟩ : ∃ W1, W1 = w.alloc (.cells #[.int .i64 what, .int .i64 who, .int .i64 num, .int .i64 mm, .int .i64 choice] 30) := ⟨_, rfl⟩
  have h1 : Dk.Sep W W1 (Dk.mdl bm V S ++ (Dk.boxOf w.heap.size #[.int .i64 what, .int .i64 who, .int .i64 num, .int .i64 mm, .int .i64 choice] 30 :: us ++ ts)) := (h.newBox e1).perm List.perm_middle.symm
  have H1 : Hid (w.alloc (.cells #[.int .i64 what, .int .i64 who, .int .i64 num, .int .i64 mm, .int .i64 choice] 30) = W1) := e1.symm
  obtain ⟨b5, eb5⟩ : ∃ b5, w.heap.size = b5 := ⟨_, rfl⟩
  rw [eb5] at h1
  have HB5 : Hid (w.heap.size = b5) := eb5
  clear e1 eb5
  have b1x : Dk.Box W1 b5 #[.int .i64 what, .int .i64 who, .int .i64 num, .int .i64 mm, .int .i64 choice] 30 := h1.box (by simp)
  have c0 : W1.cell? ⟨b5, 0, none⟩ = some (.int .i64 what) := b1x.cell 0
  have c1 : W1.cell? ⟨b5, 1, none⟩ = some (.int .i64 who) := b1x.cell 1
  have c2 : W1.cell? ⟨b5, 2, none⟩ = some (.int .i64 num) := b1x.cell 2
  have c3 : W1.cell? ⟨b5, 3, none⟩ = some (.int .i64 mm) := b1x.cell 3
  have c4 : W1.cell? ⟨b5, 4, none⟩ = some (.int .i64 choice) := b1x.cell 4
  clear b1x
  have hw0b : decide (what = 0) = false := decide_eq_false (by omega)
  have hw0c : (what == 0) = false := by simpa using (show ¬ what = 0 by omega)
  have hw1b : decide (what = 1) = true := decide_eq_true (by omega)
  have hw1c : (what == 1) = true := by simpa using (show what = 1 by omega)
  have hw2b : decide (what = 2) = false := decide_eq_false (by omega)
  have hw2c : (what == 2) = false := by simpa using (show ¬ what = 2 by omega)
  have hw3b : decide (what = 3) = false := decide_eq_false (by omega)
  have hw3c : (what == 3) = false := by simpa using (show ¬ what = 3 by omega)
  have hw4b : decide (what = 4) = false := decide_eq_false (by omega)
  have hw4c : (what == 4) = false := by simpa using (show ¬ what = 4 by omega)
  clear hwhat
  have K2 := I.unlock_arg hG (toG h1) ok hk who num choice hno
  go_enter Try.func10, Try.ntmps10
  go_wp2_with (rw [H1.out, HB5.out]; clear H1)
  refine K2.mono ?_
  rintro e w3 ⟨rfl, ts', hG', h3'⟩
  have h3 := ofG h3'
  clear K2 h3' c0 c1 c2 c3 c4 h1
  have bb : ∀ y : Dk.Up w3, Dk.Box y.wd b5 #[.int .i64 what, .int .i64 who, .int .i64 num, .int .i64 mm, .int .i64 choice] 30 := fun y => (h3.below y.property).box (by simp)
  have b0 : ∀ y : Dk.Up w3, y.wd.cell? ⟨b5, 0, none⟩ = some (.int .i64 what) := fun y => (bb y).cell 0
  have b1 : ∀ y : Dk.Up w3, y.wd.cell? ⟨b5, 1, none⟩ = some (.int .i64 who) := fun y => (bb y).cell 1
  have b2 : ∀ y : Dk.Up w3, y.wd.cell? ⟨b5, 2, none⟩ = some (.int .i64 num) := fun y => (bb y).cell 2
  have b3 : ∀ y : Dk.Up w3, y.wd.cell? ⟨b5, 3, none⟩ = some (.int .i64 mm) := fun y => (bb y).cell 3
  have b4 : ∀ y : Dk.Up w3, y.wd.cell? ⟨b5, 4, none⟩ = some (.int .i64 choice) := fun y => (bb y).cell 4
  have bn : Nonempty (Dk.Up w3) := ⟨⟨w3, Below.refl _ _⟩⟩
  have up : ∀ b o v, w3.cell? ⟨b, o, none⟩ = some v → ∀ y : Dk.Up w3, y.wd.cell? ⟨b, o, none⟩ = some v := fun b o v hv y => (y.property.cell (p := ⟨b, o, none⟩) (lt_of_cell' hv)).trans hv
  obtain ⟨A1, Cx1, e1, q1, m1⟩ := Dk.owns_slice (Dk.Mdl.held h3)
  rw [ok.held] at e1
  have d1 : ∀ y : Dk.Up w3, y.wd.cell? ⟨bm, 1, none⟩ = some (.slice A1 S.owner.length Cx1) := up _ _ _ (by rw [← e1]; exact (Dk.Mdl.head h3).cell 1)
  clear e1
  have K1 : ∀ y : Dk.Up w3, Calls Try.prog 24 #[.int .i64 num, .int .i64 (S.owner.length : Int)] y.wd fun e w' => e = .returned (.bool false) ∧ w' = y.wd := fun y => is_no num S.owner.length hno y.wd
  have C1 : Hid _ := K1
  clear K1
  go_wp2_with fail
  refine Dk.wp_region_up_lit_of (w0 := w3) (Below.refl _ _) (by kernel_rfl) (by kernel_rfl) ?_
  repeat (go_big_quiet_step ((go_at_call 24; exact Dk.calls_up_same _ (C1.out _))))
  refine wpQuiet_nil ?_
  intro _ hw'
  obtain ⟨y, hw''⟩ := hw'
  subst hw''
  have z1 : Below w3.heap.size w3 y.wd := y.property
  have h9 := h3.below z1
  go_wp2_with fail
  go_ret
  exact ⟨rfl, S, _, ts', hG', dropX h9, ok.mono (by omega)⟩
set_option maxRecDepth 100000 in
set_option maxHeartbeats 8000000 in
theorem play_unlock_owner (I : GateI G0) (hG : G0 bg S ts) (h : Dk.Sep W w (Dk.mdl bm V S ++ (us ++ ts))) (ok : Dk.Ok S k) (hk : k ≤ 300) (what who : Int) (num : Nat) (mm choice : Int) (hwhat : what = 1) (hn : num < S.owner.length) (hheld : S.held.getD num false = false) :
    Calls Try.prog 10 #[.pointer (some ⟨bg, 0, none⟩), .pointer (some ⟨bm, 0, none⟩), .agg #[.int .i64 what, .int .i64 who, .int .i64 (num : Int), .int .i64 mm, .int .i64 choice]] w fun e w' => e = .returned (.bool true) ∧ Both G0 W w' bg bm (k + 1) us := by
  obtain ⟨W1, e1⟩ : ∃ W1, W1 = w.alloc (.cells #[.int .i64 what, .int .i64 who, .int .i64 (num : Int), .int .i64 mm, .int .i64 choice] 30) := ⟨_, rfl⟩
  have h1 : Dk.Sep W W1 (Dk.mdl bm V S ++ (Dk.boxOf w.heap.size #[.int .i64 what, .int .i64 who, .int .i64 (num : Int), .int .i64 mm, .int .i64 choice] 30 :: us ++ ts)) := (h.newBox e1).perm List.perm_middle.symm
  have H1 : Hid (w.alloc (.cells #[.int .i64 what, .int .i64 who, .int .i64 (num : Int), .int .i64 mm, .int .i64 choice] 30) = W1) := e1.symm
  obtain ⟨b5, eb5⟩ : ∃ b5, w.heap.size = b5 := ⟨_, rfl⟩
  rw [eb5] at h1
  have HB5 : Hid (w.heap.size = b5) := eb5
  clear e1 eb5
  have b1x : Dk.Box W1 b5 #[.int .i64 what, .int .i64 who, .int .i64 (num : Int), .int .i64 mm, .int .i64 choice] 30 := h1.box (by simp)
  have c0 : W1.cell? ⟨b5, 0, none⟩ = some (.int .i64 what) := b1x.cell 0
  have c1 : W1.cell? ⟨b5, 1, none⟩ = some (.int .i64 who) := b1x.cell 1
  have c2 : W1.cell? ⟨b5, 2, none⟩ = some (.int .i64 (num : Int)) := b1x.cell 2
  have c3 : W1.cell? ⟨b5, 3, none⟩ = some (.int .i64 mm) := b1x.cell 3
  have c4 : W1.cell? ⟨b5, 4, none⟩ = some (.int .i64 choice) := b1x.cell 4
  clear b1x
  have hw0b : decide (what = 0) = false := decide_eq_false (by omega)
  have hw0c : (what == 0) = false := by simpa using (show ¬ what = 0 by omega)
  have hw1b : decide (what = 1) = true := decide_eq_true (by omega)
  have hw1c : (what == 1) = true := by simpa using (show what = 1 by omega)
  have hw2b : decide (what = 2) = false := decide_eq_false (by omega)
  have hw2c : (what == 2) = false := by simpa using (show ¬ what = 2 by omega)
  have hw3b : decide (what = 3) = false := decide_eq_false (by omega)
  have hw3c : (what == 3) = false := by simpa using (show ¬ what = 3 by omega)
  have hw4b : decide (what = 4) = false := decide_eq_false (by omega)
  have hw4c : (what == 4) = false := by simpa using (show ¬ what = 4 by omega)
  clear hwhat
  have K2 := I.unlock_owner hG (toG h1) ok hk who num choice hn (.inl hheld)
  go_enter Try.func10, Try.ntmps10
  go_wp2_with (rw [H1.out, HB5.out]; clear H1)
  refine K2.mono ?_
  rintro e w3 ⟨rfl, ts', hG', h3'⟩
  have h3 := ofG h3'
  clear K2 h3' c0 c1 c2 c3 c4 h1
  have bb : ∀ y : Dk.Up w3, Dk.Box y.wd b5 #[.int .i64 what, .int .i64 who, .int .i64 (num : Int), .int .i64 mm, .int .i64 choice] 30 := fun y => (h3.below y.property).box (by simp)
  have b0 : ∀ y : Dk.Up w3, y.wd.cell? ⟨b5, 0, none⟩ = some (.int .i64 what) := fun y => (bb y).cell 0
  have b1 : ∀ y : Dk.Up w3, y.wd.cell? ⟨b5, 1, none⟩ = some (.int .i64 who) := fun y => (bb y).cell 1
  have b2 : ∀ y : Dk.Up w3, y.wd.cell? ⟨b5, 2, none⟩ = some (.int .i64 (num : Int)) := fun y => (bb y).cell 2
  have b3 : ∀ y : Dk.Up w3, y.wd.cell? ⟨b5, 3, none⟩ = some (.int .i64 mm) := fun y => (bb y).cell 3
  have b4 : ∀ y : Dk.Up w3, y.wd.cell? ⟨b5, 4, none⟩ = some (.int .i64 choice) := fun y => (bb y).cell 4
  have bn : Nonempty (Dk.Up w3) := ⟨⟨w3, Below.refl _ _⟩⟩
  have up : ∀ b o v, w3.cell? ⟨b, o, none⟩ = some v → ∀ y : Dk.Up w3, y.wd.cell? ⟨b, o, none⟩ = some v := fun b o v hv y => (y.property.cell (p := ⟨b, o, none⟩) (lt_of_cell' hv)).trans hv
  have hhn : num < S.held.length := by rw [ok.held]; exact hn
  obtain ⟨gh, Ch, eh, qh, mh, ch0, _, _⟩ := Mdl.setHeld h3 (n := num) hhn
  obtain ⟨go, Co, eo, qo, mo, co0, _, _⟩ := Mdl.setOwner h3 (n := num) hn
  rw [ok.held] at eh qh
  unfold maxLen at mh mo
  have d1 : ∀ y : Dk.Up w3, y.wd.cell? ⟨bm, 1, none⟩ = some (.slice (some ⟨gh, 0, none⟩) S.owner.length Ch) := up _ _ _ (by rw [← eh]; exact (Dk.Mdl.head h3).cell 1)
  have d0 : ∀ y : Dk.Up w3, y.wd.cell? ⟨bm, 0, none⟩ = some (.slice (some ⟨go, 0, none⟩) S.owner.length Co) := up _ _ _ (by rw [← eo]; exact (Dk.Mdl.head h3).cell 0)
  have dh := up _ _ _ ch0
  have do_ := up _ _ _ co0
  have hni : (num : Int) < (S.owner.length : Int) := by omega
  clear ch0 co0
  obtain ⟨hb, ehb⟩ : ∃ hb, S.held.getD num false = hb := ⟨_, rfl⟩
  obtain ⟨ow, eow⟩ : ∃ ow, S.owner.getD num 0 = ow := ⟨_, rfl⟩
  rw [ehb] at dh
  rw [eow] at do_
  have K1 : ∀ y : Dk.Up w3, Calls Try.prog 24 #[.int .i64 (num : Int), .int .i64 (S.owner.length : Int)] y.wd fun e w' => e = .returned (.bool true) ∧ w' = y.wd := fun y => is_yes num S.owner.length hn y.wd
  have C1 : Hid _ := K1
  clear K1
  have hb1 : hb = false := by rw [← ehb]; exact hheld
  clear ehb eow hheld
  subst hb1
  go_wp2_with fail
  refine Dk.wp_region_up_lit_of (w0 := w3) (Below.refl _ _) (by kernel_rfl) (by kernel_rfl) ?_
  repeat (go_big_quiet_step ((go_at_call 24; exact Dk.calls_up_same _ (C1.out _))))
  refine wpQuiet_nil ?_
  intro _ hw'
  obtain ⟨y, hw''⟩ := hw'
  subst hw''
  have z1 : Below w3.heap.size w3 y.wd := y.property
  go_wp2_with fail
  refine Dk.wp_region_up_lit_of (w0 := w3) z1 (by kernel_rfl) (by kernel_rfl) ?_
  repeat (go_big_quiet_step (fail))
  refine wpQuiet_nil ?_
  intro _ hw'
  clear z1
  obtain ⟨y, hw''⟩ := hw'
  subst hw''
  have z1 : Below w3.heap.size w3 y.wd := y.property
  have h9 := h3.below z1
  go_wp2_with fail
  go_ret
  exact ⟨rfl, S, _, ts', hG', dropX h9, ok.mono (by omega)⟩
set_option maxRecDepth 100000 in
set_option maxHeartbeats 8000000 in
theorem play_unlock_owner2 (I : GateI G0) (hG : G0 bg S ts) (h : Dk.Sep W w (Dk.mdl bm V S ++ (us ++ ts))) (ok : Dk.Ok S k) (hk : k ≤ 300) (what who : Int) (num : Nat) (mm choice : Int) (hwhat : what = 1) (hn : num < S.owner.length) (hheld : S.held.getD num false = true) (hown : S.owner.getD num 0 ≠ who) :
    Calls Try.prog 10 #[.pointer (some ⟨bg, 0, none⟩), .pointer (some ⟨bm, 0, none⟩), .agg #[.int .i64 what, .int .i64 who, .int .i64 (num : Int), .int .i64 mm, .int .i64 choice]] w fun e w' => e = .returned (.bool true) ∧ Both G0 W w' bg bm (k + 1) us := by
  obtain ⟨W1, e1⟩ : ∃ W1, W1 = w.alloc (.cells #[.int .i64 what, .int .i64 who, .int .i64 (num : Int), .int .i64 mm, .int .i64 choice] 30) := ⟨_, rfl⟩
  have h1 : Dk.Sep W W1 (Dk.mdl bm V S ++ (Dk.boxOf w.heap.size #[.int .i64 what, .int .i64 who, .int .i64 (num : Int), .int .i64 mm, .int .i64 choice] 30 :: us ++ ts)) := (h.newBox e1).perm List.perm_middle.symm
  have H1 : Hid (w.alloc (.cells #[.int .i64 what, .int .i64 who, .int .i64 (num : Int), .int .i64 mm, .int .i64 choice] 30) = W1) := e1.symm
  obtain ⟨b5, eb5⟩ : ∃ b5, w.heap.size = b5 := ⟨_, rfl⟩
  rw [eb5] at h1
  have HB5 : Hid (w.heap.size = b5) := eb5
  clear e1 eb5
  have b1x : Dk.Box W1 b5 #[.int .i64 what, .int .i64 who, .int .i64 (num : Int), .int .i64 mm, .int .i64 choice] 30 := h1.box (by simp)
  have c0 : W1.cell? ⟨b5, 0, none⟩ = some (.int .i64 what) := b1x.cell 0
  have c1 : W1.cell? ⟨b5, 1, none⟩ = some (.int .i64 who) := b1x.cell 1
  have c2 : W1.cell? ⟨b5, 2, none⟩ = some (.int .i64 (num : Int)) := b1x.cell 2
  have c3 : W1.cell? ⟨b5, 3, none⟩ = some (.int .i64 mm) := b1x.cell 3
  have c4 : W1.cell? ⟨b5, 4, none⟩ = some (.int .i64 choice) := b1x.cell 4
  clear b1x
  have hw0b : decide (what = 0) = false := decide_eq_false (by omega)
  have hw0c : (what == 0) = false := by simpa using (show ¬ what = 0 by omega)
  have hw1b : decide (what = 1) = true := decide_eq_true (by omega)
  have hw1c : (what == 1) = true := by simpa using (show what = 1 by omega)
  have hw2b : decide (what = 2) = false := decide_eq_false (by omega)
  have hw2c : (what == 2) = false := by simpa using (show ¬ what = 2 by omega)
  have hw3b : decide (what = 3) = false := decide_eq_false (by omega)
  have hw3c : (what == 3) = false := by simpa using (show ¬ what = 3 by omega)
  have hw4b : decide (what = 4) = false := decide_eq_false (by omega)
  have hw4c : (what == 4) = false := by simpa using (show ¬ what = 4 by omega)
  clear hwhat
  have K2 := I.unlock_owner hG (toG h1) ok hk who num choice hn (.inr hown)
  go_enter Try.func10, Try.ntmps10
  go_wp2_with (rw [H1.out, HB5.out]; clear H1)
  refine K2.mono ?_
  rintro e w3 ⟨rfl, ts', hG', h3'⟩
  have h3 := ofG h3'
  clear K2 h3' c0 c1 c2 c3 c4 h1
  have bb : ∀ y : Dk.Up w3, Dk.Box y.wd b5 #[.int .i64 what, .int .i64 who, .int .i64 (num : Int), .int .i64 mm, .int .i64 choice] 30 := fun y => (h3.below y.property).box (by simp)
  have b0 : ∀ y : Dk.Up w3, y.wd.cell? ⟨b5, 0, none⟩ = some (.int .i64 what) := fun y => (bb y).cell 0
  have b1 : ∀ y : Dk.Up w3, y.wd.cell? ⟨b5, 1, none⟩ = some (.int .i64 who) := fun y => (bb y).cell 1
  have b2 : ∀ y : Dk.Up w3, y.wd.cell? ⟨b5, 2, none⟩ = some (.int .i64 (num : Int)) := fun y => (bb y).cell 2
  have b3 : ∀ y : Dk.Up w3, y.wd.cell? ⟨b5, 3, none⟩ = some (.int .i64 mm) := fun y => (bb y).cell 3
  have b4 : ∀ y : Dk.Up w3, y.wd.cell? ⟨b5, 4, none⟩ = some (.int .i64 choice) := fun y => (bb y).cell 4
  have bn : Nonempty (Dk.Up w3) := ⟨⟨w3, Below.refl _ _⟩⟩
  have up : ∀ b o v, w3.cell? ⟨b, o, none⟩ = some v → ∀ y : Dk.Up w3, y.wd.cell? ⟨b, o, none⟩ = some v := fun b o v hv y => (y.property.cell (p := ⟨b, o, none⟩) (lt_of_cell' hv)).trans hv
  have hhn : num < S.held.length := by rw [ok.held]; exact hn
  obtain ⟨gh, Ch, eh, qh, mh, ch0, _, _⟩ := Mdl.setHeld h3 (n := num) hhn
  obtain ⟨go, Co, eo, qo, mo, co0, _, _⟩ := Mdl.setOwner h3 (n := num) hn
  rw [ok.held] at eh qh
  unfold maxLen at mh mo
  have d1 : ∀ y : Dk.Up w3, y.wd.cell? ⟨bm, 1, none⟩ = some (.slice (some ⟨gh, 0, none⟩) S.owner.length Ch) := up _ _ _ (by rw [← eh]; exact (Dk.Mdl.head h3).cell 1)
  have d0 : ∀ y : Dk.Up w3, y.wd.cell? ⟨bm, 0, none⟩ = some (.slice (some ⟨go, 0, none⟩) S.owner.length Co) := up _ _ _ (by rw [← eo]; exact (Dk.Mdl.head h3).cell 0)
  have dh := up _ _ _ ch0
  have do_ := up _ _ _ co0
  have hni : (num : Int) < (S.owner.length : Int) := by omega
  clear ch0 co0
  obtain ⟨hb, ehb⟩ : ∃ hb, S.held.getD num false = hb := ⟨_, rfl⟩
  obtain ⟨ow, eow⟩ : ∃ ow, S.owner.getD num 0 = ow := ⟨_, rfl⟩
  rw [ehb] at dh
  rw [eow] at do_
  have K1 : ∀ y : Dk.Up w3, Calls Try.prog 24 #[.int .i64 (num : Int), .int .i64 (S.owner.length : Int)] y.wd fun e w' => e = .returned (.bool true) ∧ w' = y.wd := fun y => is_yes num S.owner.length hn y.wd
  have C1 : Hid _ := K1
  clear K1
  have ow1 : ¬ ow = who := by rw [← eow]; exact hown
  have zo : decide (ow = who) = false := decide_eq_false ow1
  have zo' : (ow == who) = false := by simpa using ow1
  have zo2 : (ow != who) = true := by simpa using ow1
  have zo3 : decide (ow ≠ who) = true := decide_eq_true ow1
  have hb1 : hb = true := by rw [← ehb]; exact hheld
  clear ehb eow hown hheld
  subst hb1
  go_wp2_with fail
  refine Dk.wp_region_up_lit_of (w0 := w3) (Below.refl _ _) (by kernel_rfl) (by kernel_rfl) ?_
  repeat (go_big_quiet_step ((go_at_call 24; exact Dk.calls_up_same _ (C1.out _))))
  refine wpQuiet_nil ?_
  intro _ hw'
  obtain ⟨y, hw''⟩ := hw'
  subst hw''
  have z1 : Below w3.heap.size w3 y.wd := y.property
  go_wp2_with fail
  refine Dk.wp_region_up_lit_of (w0 := w3) z1 (by kernel_rfl) (by kernel_rfl) ?_
  repeat (go_big_quiet_step (fail))
  refine wpQuiet_nil ?_
  intro _ hw'
  clear z1
  obtain ⟨y, hw''⟩ := hw'
  subst hw''
  have z1 : Below w3.heap.size w3 y.wd := y.property
  have h9 := h3.below z1
  go_wp2_with fail
  go_ret
  exact ⟨rfl, S, _, ts', hG', dropX h9, ok.mono (by omega)⟩
set_option maxRecDepth 100000 in
set_option maxHeartbeats 8000000 in
theorem play_unlock_none (I : GateI G0) (hG : G0 bg S ts) (h : Dk.Sep W w (Dk.mdl bm V S ++ (us ++ ts))) (ok : Dk.Ok S k) (hk : k ≤ 300) (what who : Int) (num : Nat) (mm choice : Int) (hwhat : what = 1) (hn : num < S.owner.length) (hch : Dk.i64 choice) (hheld : S.held.getD num false = true) (hown : S.owner.getD num 0 = who) (hl0 : (S.wait.getD num []).length = 0) :
    Calls Try.prog 10 #[.pointer (some ⟨bg, 0, none⟩), .pointer (some ⟨bm, 0, none⟩), .agg #[.int .i64 what, .int .i64 who, .int .i64 (num : Int), .int .i64 mm, .int .i64 choice]] w fun e w' => e = .returned (.bool true) ∧ Both G0 W w' bg bm (k + 1) us := by
  obtain ⟨W1, e1⟩ : ∃ W1, W1 = w.alloc (.cells #[.int .i64 what, .int .i64 who, .int .i64 (num : Int), .int .i64 mm, .int .i64 choice] 30) := ⟨_, rfl⟩
  have h1 : Dk.Sep W W1 (Dk.mdl bm V S ++ (Dk.boxOf w.heap.size #[.int .i64 what, .int .i64 who, .int .i64 (num : Int), .int .i64 mm, .int .i64 choice] 30 :: us ++ ts)) := (h.newBox e1).perm List.perm_middle.symm
  have H1 : Hid (w.alloc (.cells #[.int .i64 what, .int .i64 who, .int .i64 (num : Int), .int .i64 mm, .int .i64 choice] 30) = W1) := e1.symm
  obtain ⟨b5, eb5⟩ : ∃ b5, w.heap.size = b5 := ⟨_, rfl⟩
  rw [eb5] at h1
  have HB5 : Hid (w.heap.size = b5) := eb5
  clear e1 eb5
  have b1x : Dk.Box W1 b5 #[.int .i64 what, .int .i64 who, .int .i64 (num : Int), .int .i64 mm, .int .i64 choice] 30 := h1.box (by simp)
  have c0 : W1.cell? ⟨b5, 0, none⟩ = some (.int .i64 what) := b1x.cell 0
  have c1 : W1.cell? ⟨b5, 1, none⟩ = some (.int .i64 who) := b1x.cell 1
  have c2 : W1.cell? ⟨b5, 2, none⟩ = some (.int .i64 (num : Int)) := b1x.cell 2
  have c3 : W1.cell? ⟨b5, 3, none⟩ = some (.int .i64 mm) := b1x.cell 3
  have c4 : W1.cell? ⟨b5, 4, none⟩ = some (.int .i64 choice) := b1x.cell 4
  clear b1x
  have hw0b : decide (what = 0) = false := decide_eq_false (by omega)
  have hw0c : (what == 0) = false := by simpa using (show ¬ what = 0 by omega)
  have hw1b : decide (what = 1) = true := decide_eq_true (by omega)
  have hw1c : (what == 1) = true := by simpa using (show what = 1 by omega)
  have hw2b : decide (what = 2) = false := decide_eq_false (by omega)
  have hw2c : (what == 2) = false := by simpa using (show ¬ what = 2 by omega)
  have hw3b : decide (what = 3) = false := decide_eq_false (by omega)
  have hw3c : (what == 3) = false := by simpa using (show ¬ what = 3 by omega)
  have hw4b : decide (what = 4) = false := decide_eq_false (by omega)
  have hw4c : (what == 4) = false := by simpa using (show ¬ what = 4 by omega)
  clear hwhat
  have K2 := I.unlock_ok hG (toG h1) ok hk who num choice hn hch hheld hown
  rw [Dk.open_eq_none S num choice hl0] at K2
  go_enter Try.func10, Try.ntmps10
  go_wp2_with (rw [H1.out, HB5.out]; clear H1)
  refine K2.mono ?_
  rintro e w3 ⟨rfl, ts', hG', h3'⟩
  have h3 := ofG h3'
  clear K2 h3' c0 c1 c2 c3 c4 h1
  have bb : ∀ y : Dk.Up w3, Dk.Box y.wd b5 #[.int .i64 what, .int .i64 who, .int .i64 (num : Int), .int .i64 mm, .int .i64 choice] 30 := fun y => (h3.below y.property).box (by simp)
  have b0 : ∀ y : Dk.Up w3, y.wd.cell? ⟨b5, 0, none⟩ = some (.int .i64 what) := fun y => (bb y).cell 0
  have b1 : ∀ y : Dk.Up w3, y.wd.cell? ⟨b5, 1, none⟩ = some (.int .i64 who) := fun y => (bb y).cell 1
  have b2 : ∀ y : Dk.Up w3, y.wd.cell? ⟨b5, 2, none⟩ = some (.int .i64 (num : Int)) := fun y => (bb y).cell 2
  have b3 : ∀ y : Dk.Up w3, y.wd.cell? ⟨b5, 3, none⟩ = some (.int .i64 mm) := fun y => (bb y).cell 3
  have b4 : ∀ y : Dk.Up w3, y.wd.cell? ⟨b5, 4, none⟩ = some (.int .i64 choice) := fun y => (bb y).cell 4
  have bn : Nonempty (Dk.Up w3) := ⟨⟨w3, Below.refl _ _⟩⟩
  have up : ∀ b o v, w3.cell? ⟨b, o, none⟩ = some v → ∀ y : Dk.Up w3, y.wd.cell? ⟨b, o, none⟩ = some v := fun b o v hv y => (y.property.cell (p := ⟨b, o, none⟩) (lt_of_cell' hv)).trans hv
  have hhn : num < S.held.length := by rw [ok.held]; exact hn
  obtain ⟨gh, Ch, eh, qh, mh, ch0, _, _⟩ := Mdl.setHeld h3 (n := num) hhn
  obtain ⟨go, Co, eo, qo, mo, co0, _, _⟩ := Mdl.setOwner h3 (n := num) hn
  rw [ok.held] at eh qh
  unfold maxLen at mh mo
  have d1 : ∀ y : Dk.Up w3, y.wd.cell? ⟨bm, 1, none⟩ = some (.slice (some ⟨gh, 0, none⟩) S.owner.length Ch) := up _ _ _ (by rw [← eh]; exact (Dk.Mdl.head h3).cell 1)
  have d0 : ∀ y : Dk.Up w3, y.wd.cell? ⟨bm, 0, none⟩ = some (.slice (some ⟨go, 0, none⟩) S.owner.length Co) := up _ _ _ (by rw [← eo]; exact (Dk.Mdl.head h3).cell 0)
  have dh := up _ _ _ ch0
  have do_ := up _ _ _ co0
  have hni : (num : Int) < (S.owner.length : Int) := by omega
  clear ch0 co0
  obtain ⟨hb, ehb⟩ : ∃ hb, S.held.getD num false = hb := ⟨_, rfl⟩
  obtain ⟨ow, eow⟩ : ∃ ow, S.owner.getD num 0 = ow := ⟨_, rfl⟩
  rw [ehb] at dh
  rw [eow] at do_
  have K1 : ∀ y : Dk.Up w3, Calls Try.prog 24 #[.int .i64 (num : Int), .int .i64 (S.owner.length : Int)] y.wd fun e w' => e = .returned (.bool true) ∧ w' = y.wd := fun y => is_yes num S.owner.length hn y.wd
  have C1 : Hid _ := K1
  clear K1
  have hb1 : hb = true := by rw [← ehb]; exact hheld
  have ow1 : ow = who := by rw [← eow]; exact hown
  clear ehb eow hown hheld
  subst hb1 ow1
  go_wp2_with fail
  refine Dk.wp_region_up_lit_of (w0 := w3) (Below.refl _ _) (by kernel_rfl) (by kernel_rfl) ?_
  repeat (go_big_quiet_step ((go_at_call 24; exact Dk.calls_up_same _ (C1.out _))))
  refine wpQuiet_nil ?_
  intro _ hw'
  obtain ⟨y, hw''⟩ := hw'
  subst hw''
  have z1 : Below w3.heap.size w3 y.wd := y.property
  go_wp2_with fail
  refine Dk.wp_region_up_lit_of (w0 := w3) z1 (by kernel_rfl) (by kernel_rfl) ?_
  repeat (go_big_quiet_step (fail))
  refine wpQuiet_nil ?_
  intro _ hw'
  clear z1
  obtain ⟨y, hw''⟩ := hw'
  subst hw''
  have z1 : Below w3.heap.size w3 y.wd := y.property
  have h9 := h3.below z1
  have K9 := open_none h9 ok hn choice hl0
  have b2y := b2 y
  have b4y := b4 y
  have ok7 : Dk.Ok { S with held := S.held.set num false } (k + 1) := (ok.setHeld num false).mono (by omega)
  clear b0 b1 b2 b3 b4 bb bn d0 d1 dh do_ h3 h9 ok eh eo up C1 z1
  go_wp2_with fail
  refine K9.mono ?_
  rintro e w9 ⟨rfl, h10⟩
  clear K9 b2y b4y
  go_wp2_with fail
  go_ret
  exact ⟨rfl, _, _, ts', hG', dropX h10, ok7⟩
set_option maxRecDepth 100000 in
set_option maxHeartbeats 8000000 in
theorem play_unlock_some (I : GateI G0) (hG : G0 bg S ts) (h : Dk.Sep W w (Dk.mdl bm V S ++ (us ++ ts))) (ok : Dk.Ok S k) (hk : k ≤ 300) (what who : Int) (num : Nat) (mm choice : Int) (hwhat : what = 1) (hn : num < S.owner.length) (hch : Dk.i64 choice) (hheld : S.held.getD num false = true) (hown : S.owner.getD num 0 = who) (hlp : 0 < (S.wait.getD num []).length) :
    Calls Try.prog 10 #[.pointer (some ⟨bg, 0, none⟩), .pointer (some ⟨bm, 0, none⟩), .agg #[.int .i64 what, .int .i64 who, .int .i64 (num : Int), .int .i64 mm, .int .i64 choice]] w fun e w' => e = .returned (.bool true) ∧ Both G0 W w' bg bm (k + 1) us := by
  obtain ⟨W1, e1⟩ : ∃ W1, W1 = w.alloc (.cells #[.int .i64 what, .int .i64 who, .int .i64 (num : Int), .int .i64 mm, .int .i64 choice] 30) := ⟨_, rfl⟩
  have h1 : Dk.Sep W W1 (Dk.mdl bm V S ++ (Dk.boxOf w.heap.size #[.int .i64 what, .int .i64 who, .int .i64 (num : Int), .int .i64 mm, .int .i64 choice] 30 :: us ++ ts)) := (h.newBox e1).perm List.perm_middle.symm
  have H1 : Hid (w.alloc (.cells #[.int .i64 what, .int .i64 who, .int .i64 (num : Int), .int .i64 mm, .int .i64 choice] 30) = W1) := e1.symm
  obtain ⟨b5, eb5⟩ : ∃ b5, w.heap.size = b5 := ⟨_, rfl⟩
  rw [eb5] at h1
  have HB5 : Hid (w.heap.size = b5) := eb5
  clear e1 eb5
  have b1x : Dk.Box W1 b5 #[.int .i64 what, .int .i64 who, .int .i64 (num : Int), .int .i64 mm, .int .i64 choice] 30 := h1.box (by simp)
  have c0 : W1.cell? ⟨b5, 0, none⟩ = some (.int .i64 what) := b1x.cell 0
  have c1 : W1.cell? ⟨b5, 1, none⟩ = some (.int .i64 who) := b1x.cell 1
  have c2 : W1.cell? ⟨b5, 2, none⟩ = some (.int .i64 (num : Int)) := b1x.cell 2
  have c3 : W1.cell? ⟨b5, 3, none⟩ = some (.int .i64 mm) := b1x.cell 3
  have c4 : W1.cell? ⟨b5, 4, none⟩ = some (.int .i64 choice) := b1x.cell 4
  clear b1x
  have hw0b : decide (what = 0) = false := decide_eq_false (by omega)
  have hw0c : (what == 0) = false := by simpa using (show ¬ what = 0 by omega)
  have hw1b : decide (what = 1) = true := decide_eq_true (by omega)
  have hw1c : (what == 1) = true := by simpa using (show what = 1 by omega)
  have hw2b : decide (what = 2) = false := decide_eq_false (by omega)
  have hw2c : (what == 2) = false := by simpa using (show ¬ what = 2 by omega)
  have hw3b : decide (what = 3) = false := decide_eq_false (by omega)
  have hw3c : (what == 3) = false := by simpa using (show ¬ what = 3 by omega)
  have hw4b : decide (what = 4) = false := decide_eq_false (by omega)
  have hw4c : (what == 4) = false := by simpa using (show ¬ what = 4 by omega)
  clear hwhat
  have K2 := I.unlock_ok hG (toG h1) ok hk who num choice hn hch hheld hown
  obtain ⟨l, el⟩ : ∃ l, S.wait.getD num [] = l := ⟨_, rfl⟩
  have hlp' : 0 < l.length := by rw [← el]; exact hlp
  obtain ⟨a, ea⟩ : ∃ a, Dk.at_ choice l.length = a := ⟨_, rfl⟩
  obtain ⟨x, ex⟩ : ∃ x, l.getD a 0 = x := ⟨_, rfl⟩
  rw [Dk.open_eq_some S num choice l el hlp' a ea x ex] at K2
  go_enter Try.func10, Try.ntmps10
  go_wp2_with (rw [H1.out, HB5.out]; clear H1)
  refine K2.mono ?_
  rintro e w3 ⟨rfl, ts', hG', h3'⟩
  have h3 := ofG h3'
  clear K2 h3' c0 c1 c2 c3 c4 h1
  have bb : ∀ y : Dk.Up w3, Dk.Box y.wd b5 #[.int .i64 what, .int .i64 who, .int .i64 (num : Int), .int .i64 mm, .int .i64 choice] 30 := fun y => (h3.below y.property).box (by simp)
  have b0 : ∀ y : Dk.Up w3, y.wd.cell? ⟨b5, 0, none⟩ = some (.int .i64 what) := fun y => (bb y).cell 0
  have b1 : ∀ y : Dk.Up w3, y.wd.cell? ⟨b5, 1, none⟩ = some (.int .i64 who) := fun y => (bb y).cell 1
  have b2 : ∀ y : Dk.Up w3, y.wd.cell? ⟨b5, 2, none⟩ = some (.int .i64 (num : Int)) := fun y => (bb y).cell 2
  have b3 : ∀ y : Dk.Up w3, y.wd.cell? ⟨b5, 3, none⟩ = some (.int .i64 mm) := fun y => (bb y).cell 3
  have b4 : ∀ y : Dk.Up w3, y.wd.cell? ⟨b5, 4, none⟩ = some (.int .i64 choice) := fun y => (bb y).cell 4
  have bn : Nonempty (Dk.Up w3) := ⟨⟨w3, Below.refl _ _⟩⟩
  have up : ∀ b o v, w3.cell? ⟨b, o, none⟩ = some v → ∀ y : Dk.Up w3, y.wd.cell? ⟨b, o, none⟩ = some v := fun b o v hv y => (y.property.cell (p := ⟨b, o, none⟩) (lt_of_cell' hv)).trans hv
  have hhn : num < S.held.length := by rw [ok.held]; exact hn
  obtain ⟨gh, Ch, eh, qh, mh, ch0, _, _⟩ := Mdl.setHeld h3 (n := num) hhn
  obtain ⟨go, Co, eo, qo, mo, co0, _, _⟩ := Mdl.setOwner h3 (n := num) hn
  rw [ok.held] at eh qh
  unfold maxLen at mh mo
  have d1 : ∀ y : Dk.Up w3, y.wd.cell? ⟨bm, 1, none⟩ = some (.slice (some ⟨gh, 0, none⟩) S.owner.length Ch) := up _ _ _ (by rw [← eh]; exact (Dk.Mdl.head h3).cell 1)
  have d0 : ∀ y : Dk.Up w3, y.wd.cell? ⟨bm, 0, none⟩ = some (.slice (some ⟨go, 0, none⟩) S.owner.length Co) := up _ _ _ (by rw [← eo]; exact (Dk.Mdl.head h3).cell 0)
  have dh := up _ _ _ ch0
  have do_ := up _ _ _ co0
  have hni : (num : Int) < (S.owner.length : Int) := by omega
  clear ch0 co0
  obtain ⟨hb, ehb⟩ : ∃ hb, S.held.getD num false = hb := ⟨_, rfl⟩
  obtain ⟨ow, eow⟩ : ∃ ow, S.owner.getD num 0 = ow := ⟨_, rfl⟩
  rw [ehb] at dh
  rw [eow] at do_
  have K1 : ∀ y : Dk.Up w3, Calls Try.prog 24 #[.int .i64 (num : Int), .int .i64 (S.owner.length : Int)] y.wd fun e w' => e = .returned (.bool true) ∧ w' = y.wd := fun y => is_yes num S.owner.length hn y.wd
  have C1 : Hid _ := K1
  clear K1
  have hb1 : hb = true := by rw [← ehb]; exact hheld
  have ow1 : ow = who := by rw [← eow]; exact hown
  clear ehb eow hown hheld
  subst hb1 ow1
  go_wp2_with fail
  refine Dk.wp_region_up_lit_of (w0 := w3) (Below.refl _ _) (by kernel_rfl) (by kernel_rfl) ?_
  repeat (go_big_quiet_step ((go_at_call 24; exact Dk.calls_up_same _ (C1.out _))))
  refine wpQuiet_nil ?_
  intro _ hw'
  obtain ⟨y, hw''⟩ := hw'
  subst hw''
  have z1 : Below w3.heap.size w3 y.wd := y.property
  go_wp2_with fail
  refine Dk.wp_region_up_lit_of (w0 := w3) z1 (by kernel_rfl) (by kernel_rfl) ?_
  repeat (go_big_quiet_step (fail))
  refine wpQuiet_nil ?_
  intro _ hw'
  clear z1
  obtain ⟨y, hw''⟩ := hw'
  subst hw''
  have z1 : Below w3.heap.size w3 y.wd := y.property
  have h9 := h3.below z1
  have K9 := open_some h9 ok (by omega) hn choice hch l el hlp' a ea x ex
  have b2y := b2 y
  have b4y := b4 y
  have hdn : num < S.wait.length := by rw [ok.wait]; exact hn
  have hlm : l ∈ S.wait := by rw [← el]; exact Dk.getD_mem S.wait [] num hdn
  have hal : a < l.length := by rw [← ea]; exact Dk.at_lt choice hlp'
  have hx64 : Dk.i64 x := by rw [← ex]; exact ok.waits l hlm _ (Dk.getD_mem l 0 a hal)
  have ok7 : Dk.Ok { S with owner := S.owner.set num x, wait := S.wait.set num (l.eraseIdx a) } (k + 1) := (ok.setOwner num x hx64).setWait num hdn _ (Dk.erase_mem (ok.waits l hlm)) (by show _ ≤ _ + (S.wait.getD num []).length; rw [el, List.length_eraseIdx, if_pos hal]; omega)
  clear b0 b1 b2 b3 b4 bb bn d0 d1 dh do_ h3 h9 ok eh eo up C1 z1 el ea ex hlm
  go_wp2_with fail
  refine K9.mono ?_
  rintro e w9 ⟨rfl, V9, h10⟩
  clear K9 b2y b4y
  go_wp2_with fail
  go_ret
  exact ⟨rfl, _, _, ts', hG', dropX h10, ok7⟩
end
end Go.Proofs.Ytjkdaankjondjaa
