/- What the gates must do, and Down and Up against the document's answer. -/
import Derived.Test.YtjkdaankjondjaaGq
import Derived.Test.YtjkdaankjondjaaGh
import Derived.Test.YtjkdaankjondjaaUp
namespace Go.Proofs.Ytjkdaankjondjaa
set_option linter.unusedSimpArgs false
set_option linter.unusedVariables false
set_option linter.unnecessarySimpa false
open Go.RowKit

/-- Both in one state. -/
def Both (G0 : Nat → Dk.St → List Dk.Thing → Prop) (W w : World) (bg bm k : Nat) (us : List Dk.Thing) : Prop := Hid (∃ S V ts, G0 bg S ts ∧ Dk.Sep W w (Dk.mdl bm V S ++ (us ++ ts)) ∧ Dk.Ok S k)
section
variable {G0 : Nat → Dk.St → List Dk.Thing → Prop} {W w : World} {bg bm k : Nat} {S : Dk.St} {V : Dk.Vs} {us ts : List Dk.Thing}
theorem toG {M : List Dk.Thing} {x : Dk.Thing} (h : Dk.Sep W w (M ++ (x :: us ++ ts))) : Dk.Sep W w ((M ++ (x :: us)) ++ ts) := by rw [List.append_assoc]; exact h
theorem ofG {M : List Dk.Thing} {x : Dk.Thing} (h : Dk.Sep W w ((M ++ (x :: us)) ++ ts)) : Dk.Sep W w (M ++ (x :: us ++ ts)) := by rw [List.append_assoc] at h; exact h
theorem dropX {M : List Dk.Thing} {x : Dk.Thing} (h : Dk.Sep W w (M ++ (x :: us ++ ts))) : Dk.Sep W w (M ++ (us ++ ts)) := h.sub ((List.Sublist.refl _).append (List.sublist_cons_self _ _))
set_option maxRecDepth 100000 in
set_option maxHeartbeats 4000000 in
theorem sem_down_arg (I : GateI G0) (hG : G0 bg S ts) (h : Dk.Sep W w (Dk.mdl bm V S ++ (us ++ ts))) (ok : Dk.Ok S k) (hk : k ≤ 300) (what who num mm choice : Int) (hw5 : what = 5) (hno : num < 0 ∨ (S.count.length : Int) ≤ num) :
    Calls Try.prog 28 #[.pointer (some ⟨bg, 0, none⟩), .pointer (some ⟨bm, 0, none⟩), .agg #[.int .i64 what, .int .i64 who, .int .i64 num, .int .i64 mm, .int .i64 choice]] w fun e w' => e = .returned (.bool true) ∧ Both G0 W w' bg bm (k + 1) us := by
  obtain ⟨W1, e1⟩ : ∃ W1, W1 = w.alloc (.cells #[.int .i64 what, .int .i64 who, .int .i64 num, .int .i64 mm, .int .i64 choice] 30) := ⟨_, rfl⟩
  have h1 : Dk.Sep W W1 (Dk.mdl bm V S ++ (Dk.boxOf w.heap.size #[.int .i64 what, .int .i64 who, .int .i64 num, .int .i64 mm, .int .i64 choice] 30 :: us ++ ts)) := (h.newBox e1).perm List.perm_middle.symm
  have H1 : Hid (w.alloc (.cells #[.int .i64 what, .int .i64 who, .int .i64 num, .int .i64 mm, .int .i64 choice] 30) = W1) := e1.symm
  obtain ⟨b5, eb5⟩ : ∃ b5, w.heap.size = b5 := ⟨_, rfl⟩
  rw [eb5] at h1
  have HB5 : Hid (w.heap.size = b5) := eb5
  clear e1 eb5
  have ab : ∀ y : Dk.Up W1, Dk.Box y.wd b5 #[.int .i64 what, .int .i64 who, .int .i64 num, .int .i64 mm, .int .i64 choice] 30 := fun y => (h1.below y.property).box (by simp)
  have a0 : ∀ y : Dk.Up W1, y.wd.cell? ⟨b5, 0, none⟩ = some (.int .i64 what) := fun y => (ab y).cell 0
  have a1 : ∀ y : Dk.Up W1, y.wd.cell? ⟨b5, 1, none⟩ = some (.int .i64 who) := fun y => (ab y).cell 1
  have a2 : ∀ y : Dk.Up W1, y.wd.cell? ⟨b5, 2, none⟩ = some (.int .i64 num) := fun y => (ab y).cell 2
  have a4 : ∀ y : Dk.Up W1, y.wd.cell? ⟨b5, 4, none⟩ = some (.int .i64 choice) := fun y => (ab y).cell 4
  have an : Nonempty (Dk.Up W1) := ⟨⟨W1, Below.refl _ _⟩⟩
  obtain ⟨Ad4, Cd4, ed4, qd4, md4⟩ := Dk.owns_slice (Dk.Mdl.count h1)
  have d4 : ∀ y : Dk.Up W1, y.wd.cell? ⟨bm, 4, none⟩ = some (.slice Ad4 S.count.length Cd4) := fun y => by rw [← ed4]; exact (Dk.Mdl.head (h1.below y.property)).cell 4
  have K1 : ∀ y : Dk.Up W1, Calls Try.prog 24 #[.int .i64 num, .int .i64 (S.count.length : Int)] y.wd fun e w' => e = .returned (.bool false) ∧ w' = y.wd := fun y => is_no num S.count.length hno y.wd
  have C1 : Hid _ := K1
  clear K1
  have hw5b : decide (what = 5) = true := decide_eq_true hw5
  have hw5c : (what == 5) = true := by simpa using hw5
  clear hw5
  go_enter Try.func28, Try.ntmps28
  go_wp2_with (rw [H1.out, HB5.out]; clear H1)
  refine Dk.wp_region_up_lit (by kernel_rfl) (by kernel_rfl) ?_
  repeat (go_big_quiet_step ((go_at_call 24; exact Dk.calls_up_same _ (C1.out _))))
  refine wpQuiet_nil ?_
  intro _ hw'
  obtain ⟨y, hw''⟩ := hw'
  subst hw''
  have h2 : Dk.Sep W y.wd (Dk.mdl bm V S ++ (Dk.boxOf b5 #[.int .i64 what, .int .i64 who, .int .i64 num, .int .i64 mm, .int .i64 choice] 30 :: us ++ ts)) := h1.below y.property
  clear h1
  generalize y.wd = w2 at *
  have bb : ∀ y : Dk.Up w2, Dk.Box y.wd b5 #[.int .i64 what, .int .i64 who, .int .i64 num, .int .i64 mm, .int .i64 choice] 30 := fun y => (h2.below y.property).box (by simp)
  have b0 : ∀ y : Dk.Up w2, y.wd.cell? ⟨b5, 0, none⟩ = some (.int .i64 what) := fun y => (bb y).cell 0
  have b1 : ∀ y : Dk.Up w2, y.wd.cell? ⟨b5, 1, none⟩ = some (.int .i64 who) := fun y => (bb y).cell 1
  have b2 : ∀ y : Dk.Up w2, y.wd.cell? ⟨b5, 2, none⟩ = some (.int .i64 num) := fun y => (bb y).cell 2
  have b4 : ∀ y : Dk.Up w2, y.wd.cell? ⟨b5, 4, none⟩ = some (.int .i64 choice) := fun y => (bb y).cell 4
  have bn : Nonempty (Dk.Up w2) := ⟨⟨w2, Below.refl _ _⟩⟩
  have bz : Dk.Up w2 := ⟨w2, Below.refl _ _⟩
  have c0 : w2.cell? ⟨b5, 0, none⟩ = some (.int .i64 what) := b0 ⟨w2, Below.refl _ _⟩
  have c1 : w2.cell? ⟨b5, 1, none⟩ = some (.int .i64 who) := b1 ⟨w2, Below.refl _ _⟩
  have c2 : w2.cell? ⟨b5, 2, none⟩ = some (.int .i64 num) := b2 ⟨w2, Below.refl _ _⟩
  have c4 : w2.cell? ⟨b5, 4, none⟩ = some (.int .i64 choice) := b4 ⟨w2, Below.refl _ _⟩
  clear b0 b1 b2 b4 bb bn bz
  have K2 := I.down_arg hG (toG h2) ok hk who num hno
  go_wp2_with fail
  refine K2.mono ?_
  rintro e w3 ⟨rfl, ts', hG', h3'⟩
  have h3 := ofG h3'
  clear K2 h3' c0 c1 c2 c4 h2 a0 a1 a2 a4 ab an d4 ed4 C1
  go_wp2_with fail
  go_ret
  exact ⟨rfl, S, _, ts', hG', dropX h3, ok.mono (by omega)⟩
set_option maxRecDepth 100000 in
set_option maxHeartbeats 4000000 in
theorem sem_down_busy (I : GateI G0) (hG : G0 bg S ts) (h : Dk.Sep W w (Dk.mdl bm V S ++ (us ++ ts))) (ok : Dk.Ok S k) (hk : k ≤ 300) (what who : Int) (num : Nat) (mm choice : Int) (hw5 : what = 5) (hn : num < S.count.length) (hwt : S.waits who = true) :
    Calls Try.prog 28 #[.pointer (some ⟨bg, 0, none⟩), .pointer (some ⟨bm, 0, none⟩), .agg #[.int .i64 what, .int .i64 who, .int .i64 (num : Int), .int .i64 mm, .int .i64 choice]] w fun e w' => e = .returned (.bool true) ∧ Both G0 W w' bg bm (k + 1) us := by
  obtain ⟨W1, e1⟩ : ∃ W1, W1 = w.alloc (.cells #[.int .i64 what, .int .i64 who, .int .i64 (num : Int), .int .i64 mm, .int .i64 choice] 30) := ⟨_, rfl⟩
  have h1 : Dk.Sep W W1 (Dk.mdl bm V S ++ (Dk.boxOf w.heap.size #[.int .i64 what, .int .i64 who, .int .i64 (num : Int), .int .i64 mm, .int .i64 choice] 30 :: us ++ ts)) := (h.newBox e1).perm List.perm_middle.symm
  have H1 : Hid (w.alloc (.cells #[.int .i64 what, .int .i64 who, .int .i64 (num : Int), .int .i64 mm, .int .i64 choice] 30) = W1) := e1.symm
  obtain ⟨b5, eb5⟩ : ∃ b5, w.heap.size = b5 := ⟨_, rfl⟩
  rw [eb5] at h1
  have HB5 : Hid (w.heap.size = b5) := eb5
  clear e1 eb5
  have ab : ∀ y : Dk.Up W1, Dk.Box y.wd b5 #[.int .i64 what, .int .i64 who, .int .i64 (num : Int), .int .i64 mm, .int .i64 choice] 30 := fun y => (h1.below y.property).box (by simp)
  have a0 : ∀ y : Dk.Up W1, y.wd.cell? ⟨b5, 0, none⟩ = some (.int .i64 what) := fun y => (ab y).cell 0
  have a1 : ∀ y : Dk.Up W1, y.wd.cell? ⟨b5, 1, none⟩ = some (.int .i64 who) := fun y => (ab y).cell 1
  have a2 : ∀ y : Dk.Up W1, y.wd.cell? ⟨b5, 2, none⟩ = some (.int .i64 (num : Int)) := fun y => (ab y).cell 2
  have a4 : ∀ y : Dk.Up W1, y.wd.cell? ⟨b5, 4, none⟩ = some (.int .i64 choice) := fun y => (ab y).cell 4
  have an : Nonempty (Dk.Up W1) := ⟨⟨W1, Below.refl _ _⟩⟩
  obtain ⟨Ad4, Cd4, ed4, qd4, md4⟩ := Dk.owns_slice (Dk.Mdl.count h1)
  have d4 : ∀ y : Dk.Up W1, y.wd.cell? ⟨bm, 4, none⟩ = some (.slice Ad4 S.count.length Cd4) := fun y => by rw [← ed4]; exact (Dk.Mdl.head (h1.below y.property)).cell 4
  have K1 : ∀ y : Dk.Up W1, Calls Try.prog 24 #[.int .i64 (num : Int), .int .i64 (S.count.length : Int)] y.wd fun e w' => e = .returned (.bool true) ∧ w' = y.wd := fun y => is_yes num S.count.length hn y.wd
  have C1 : Hid _ := K1
  clear K1
  have hw5b : decide (what = 5) = true := decide_eq_true hw5
  have hw5c : (what == 5) = true := by simpa using hw5
  clear hw5
  go_enter Try.func28, Try.ntmps28
  go_wp2_with (rw [H1.out, HB5.out]; clear H1)
  refine Dk.wp_region_up_lit (by kernel_rfl) (by kernel_rfl) ?_
  repeat (go_big_quiet_step ((go_at_call 24; exact Dk.calls_up_same _ (C1.out _))))
  refine wpQuiet_nil ?_
  intro _ hw'
  obtain ⟨y, hw''⟩ := hw'
  subst hw''
  have h2 : Dk.Sep W y.wd (Dk.mdl bm V S ++ (Dk.boxOf b5 #[.int .i64 what, .int .i64 who, .int .i64 (num : Int), .int .i64 mm, .int .i64 choice] 30 :: us ++ ts)) := h1.below y.property
  clear h1
  generalize y.wd = w2 at *
  have bb : ∀ y : Dk.Up w2, Dk.Box y.wd b5 #[.int .i64 what, .int .i64 who, .int .i64 (num : Int), .int .i64 mm, .int .i64 choice] 30 := fun y => (h2.below y.property).box (by simp)
  have b0 : ∀ y : Dk.Up w2, y.wd.cell? ⟨b5, 0, none⟩ = some (.int .i64 what) := fun y => (bb y).cell 0
  have b1 : ∀ y : Dk.Up w2, y.wd.cell? ⟨b5, 1, none⟩ = some (.int .i64 who) := fun y => (bb y).cell 1
  have b2 : ∀ y : Dk.Up w2, y.wd.cell? ⟨b5, 2, none⟩ = some (.int .i64 (num : Int)) := fun y => (bb y).cell 2
  have b4 : ∀ y : Dk.Up w2, y.wd.cell? ⟨b5, 4, none⟩ = some (.int .i64 choice) := fun y => (bb y).cell 4
  have bn : Nonempty (Dk.Up w2) := ⟨⟨w2, Below.refl _ _⟩⟩
  have bz : Dk.Up w2 := ⟨w2, Below.refl _ _⟩
  have c0 : w2.cell? ⟨b5, 0, none⟩ = some (.int .i64 what) := b0 ⟨w2, Below.refl _ _⟩
  have c1 : w2.cell? ⟨b5, 1, none⟩ = some (.int .i64 who) := b1 ⟨w2, Below.refl _ _⟩
  have c2 : w2.cell? ⟨b5, 2, none⟩ = some (.int .i64 (num : Int)) := b2 ⟨w2, Below.refl _ _⟩
  have c4 : w2.cell? ⟨b5, 4, none⟩ = some (.int .i64 choice) := b4 ⟨w2, Below.refl _ _⟩
  clear b0 b1 b2 b4 bb bn bz
  have K2 := I.down_busy hG (toG h2) ok hk who num hn hwt
  go_wp2_with fail
  refine K2.mono ?_
  rintro e w3 ⟨rfl, ts', hG', h3'⟩
  have h3 := ofG h3'
  clear K2 h3' c0 c1 c2 c4 h2 a0 a1 a2 a4 ab an d4 ed4 C1
  have K3 := waits_m h3 ok who
  rw [hwt] at K3
  have bb : ∀ y : Dk.Up w3, Dk.Box y.wd b5 #[.int .i64 what, .int .i64 who, .int .i64 (num : Int), .int .i64 mm, .int .i64 choice] 30 := fun y => (h3.below y.property).box (by simp)
  have b0 : ∀ y : Dk.Up w3, y.wd.cell? ⟨b5, 0, none⟩ = some (.int .i64 what) := fun y => (bb y).cell 0
  have b1 : ∀ y : Dk.Up w3, y.wd.cell? ⟨b5, 1, none⟩ = some (.int .i64 who) := fun y => (bb y).cell 1
  have b2 : ∀ y : Dk.Up w3, y.wd.cell? ⟨b5, 2, none⟩ = some (.int .i64 (num : Int)) := fun y => (bb y).cell 2
  have b4 : ∀ y : Dk.Up w3, y.wd.cell? ⟨b5, 4, none⟩ = some (.int .i64 choice) := fun y => (bb y).cell 4
  have bn : Nonempty (Dk.Up w3) := ⟨⟨w3, Below.refl _ _⟩⟩
  have c1 : w3.cell? ⟨b5, 1, none⟩ = some (.int .i64 who) := b1 ⟨w3, Below.refl _ _⟩
  go_wp2_with fail
  refine K3.mono ?_
  rintro e w' ⟨rfl, hw'⟩
  subst w'
  clear K3 c1
  go_wp2_with fail
  go_ret
  exact ⟨rfl, S, _, ts', hG', dropX h3, ok.mono (by omega)⟩
set_option maxRecDepth 100000 in
set_option maxHeartbeats 4000000 in
theorem sem_down_yes (I : GateI G0) (hG : G0 bg S ts) (h : Dk.Sep W w (Dk.mdl bm V S ++ (us ++ ts))) (ok : Dk.Ok S k) (hk : k ≤ 300) (what who : Int) (num : Nat) (mm choice : Int) (hw5 : what = 5) (hn : num < S.count.length) (hwt : S.waits who = false) (hpos : 0 < S.count.getD num 0) :
    Calls Try.prog 28 #[.pointer (some ⟨bg, 0, none⟩), .pointer (some ⟨bm, 0, none⟩), .agg #[.int .i64 what, .int .i64 who, .int .i64 (num : Int), .int .i64 mm, .int .i64 choice]] w fun e w' => e = .returned (.bool true) ∧ Both G0 W w' bg bm (k + 1) us := by
  obtain ⟨W1, e1⟩ : ∃ W1, W1 = w.alloc (.cells #[.int .i64 what, .int .i64 who, .int .i64 (num : Int), .int .i64 mm, .int .i64 choice] 30) := ⟨_, rfl⟩
  have h1 : Dk.Sep W W1 (Dk.mdl bm V S ++ (Dk.boxOf w.heap.size #[.int .i64 what, .int .i64 who, .int .i64 (num : Int), .int .i64 mm, .int .i64 choice] 30 :: us ++ ts)) := (h.newBox e1).perm List.perm_middle.symm
  have H1 : Hid (w.alloc (.cells #[.int .i64 what, .int .i64 who, .int .i64 (num : Int), .int .i64 mm, .int .i64 choice] 30) = W1) := e1.symm
  obtain ⟨b5, eb5⟩ : ∃ b5, w.heap.size = b5 := ⟨_, rfl⟩
  rw [eb5] at h1
  have HB5 : Hid (w.heap.size = b5) := eb5
  clear e1 eb5
  have ab : ∀ y : Dk.Up W1, Dk.Box y.wd b5 #[.int .i64 what, .int .i64 who, .int .i64 (num : Int), .int .i64 mm, .int .i64 choice] 30 := fun y => (h1.below y.property).box (by simp)
  have a0 : ∀ y : Dk.Up W1, y.wd.cell? ⟨b5, 0, none⟩ = some (.int .i64 what) := fun y => (ab y).cell 0
  have a1 : ∀ y : Dk.Up W1, y.wd.cell? ⟨b5, 1, none⟩ = some (.int .i64 who) := fun y => (ab y).cell 1
  have a2 : ∀ y : Dk.Up W1, y.wd.cell? ⟨b5, 2, none⟩ = some (.int .i64 (num : Int)) := fun y => (ab y).cell 2
  have a4 : ∀ y : Dk.Up W1, y.wd.cell? ⟨b5, 4, none⟩ = some (.int .i64 choice) := fun y => (ab y).cell 4
  have an : Nonempty (Dk.Up W1) := ⟨⟨W1, Below.refl _ _⟩⟩
  obtain ⟨Ad4, Cd4, ed4, qd4, md4⟩ := Dk.owns_slice (Dk.Mdl.count h1)
  have d4 : ∀ y : Dk.Up W1, y.wd.cell? ⟨bm, 4, none⟩ = some (.slice Ad4 S.count.length Cd4) := fun y => by rw [← ed4]; exact (Dk.Mdl.head (h1.below y.property)).cell 4
  have K1 : ∀ y : Dk.Up W1, Calls Try.prog 24 #[.int .i64 (num : Int), .int .i64 (S.count.length : Int)] y.wd fun e w' => e = .returned (.bool true) ∧ w' = y.wd := fun y => is_yes num S.count.length hn y.wd
  have C1 : Hid _ := K1
  clear K1
  have hw5b : decide (what = 5) = true := decide_eq_true hw5
  have hw5c : (what == 5) = true := by simpa using hw5
  clear hw5
  go_enter Try.func28, Try.ntmps28
  go_wp2_with (rw [H1.out, HB5.out]; clear H1)
  refine Dk.wp_region_up_lit (by kernel_rfl) (by kernel_rfl) ?_
  repeat (go_big_quiet_step ((go_at_call 24; exact Dk.calls_up_same _ (C1.out _))))
  refine wpQuiet_nil ?_
  intro _ hw'
  obtain ⟨y, hw''⟩ := hw'
  subst hw''
  have h2 : Dk.Sep W y.wd (Dk.mdl bm V S ++ (Dk.boxOf b5 #[.int .i64 what, .int .i64 who, .int .i64 (num : Int), .int .i64 mm, .int .i64 choice] 30 :: us ++ ts)) := h1.below y.property
  clear h1
  generalize y.wd = w2 at *
  have bb : ∀ y : Dk.Up w2, Dk.Box y.wd b5 #[.int .i64 what, .int .i64 who, .int .i64 (num : Int), .int .i64 mm, .int .i64 choice] 30 := fun y => (h2.below y.property).box (by simp)
  have b0 : ∀ y : Dk.Up w2, y.wd.cell? ⟨b5, 0, none⟩ = some (.int .i64 what) := fun y => (bb y).cell 0
  have b1 : ∀ y : Dk.Up w2, y.wd.cell? ⟨b5, 1, none⟩ = some (.int .i64 who) := fun y => (bb y).cell 1
  have b2 : ∀ y : Dk.Up w2, y.wd.cell? ⟨b5, 2, none⟩ = some (.int .i64 (num : Int)) := fun y => (bb y).cell 2
  have b4 : ∀ y : Dk.Up w2, y.wd.cell? ⟨b5, 4, none⟩ = some (.int .i64 choice) := fun y => (bb y).cell 4
  have bn : Nonempty (Dk.Up w2) := ⟨⟨w2, Below.refl _ _⟩⟩
  have bz : Dk.Up w2 := ⟨w2, Below.refl _ _⟩
  have c0 : w2.cell? ⟨b5, 0, none⟩ = some (.int .i64 what) := b0 ⟨w2, Below.refl _ _⟩
  have c1 : w2.cell? ⟨b5, 1, none⟩ = some (.int .i64 who) := b1 ⟨w2, Below.refl _ _⟩
  have c2 : w2.cell? ⟨b5, 2, none⟩ = some (.int .i64 (num : Int)) := b2 ⟨w2, Below.refl _ _⟩
  have c4 : w2.cell? ⟨b5, 4, none⟩ = some (.int .i64 choice) := b4 ⟨w2, Below.refl _ _⟩
  clear b0 b1 b2 b4 bb bn bz
  have K2 := I.down_yes hG (toG h2) ok hk who num hn hwt hpos
  go_wp2_with fail
  refine K2.mono ?_
  rintro e w3 ⟨rfl, ts', hG', h3'⟩
  have h3 := ofG h3'
  clear K2 h3' c0 c1 c2 c4 h2 a0 a1 a2 a4 ab an d4 ed4 C1
  have K3 := waits_m h3 ok who
  rw [hwt] at K3
  have bb : ∀ y : Dk.Up w3, Dk.Box y.wd b5 #[.int .i64 what, .int .i64 who, .int .i64 (num : Int), .int .i64 mm, .int .i64 choice] 30 := fun y => (h3.below y.property).box (by simp)
  have b0 : ∀ y : Dk.Up w3, y.wd.cell? ⟨b5, 0, none⟩ = some (.int .i64 what) := fun y => (bb y).cell 0
  have b1 : ∀ y : Dk.Up w3, y.wd.cell? ⟨b5, 1, none⟩ = some (.int .i64 who) := fun y => (bb y).cell 1
  have b2 : ∀ y : Dk.Up w3, y.wd.cell? ⟨b5, 2, none⟩ = some (.int .i64 (num : Int)) := fun y => (bb y).cell 2
  have b4 : ∀ y : Dk.Up w3, y.wd.cell? ⟨b5, 4, none⟩ = some (.int .i64 choice) := fun y => (bb y).cell 4
  have bn : Nonempty (Dk.Up w3) := ⟨⟨w3, Below.refl _ _⟩⟩
  have c1 : w3.cell? ⟨b5, 1, none⟩ = some (.int .i64 who) := b1 ⟨w3, Below.refl _ _⟩
  go_wp2_with fail
  refine K3.mono ?_
  rintro e w' ⟨rfl, hw'⟩
  subst w'
  clear K3 c1
  obtain ⟨gc, Cc, ec, qc, mc, _, _, _⟩ := Mdl.setCount h3 (n := num) hn
  unfold maxLen at mc
  have d4 : ∀ y : Dk.Up w3, y.wd.cell? ⟨bm, 4, none⟩ = some (.slice (some ⟨gc, 0, none⟩) S.count.length Cc) := fun y => by rw [← ec]; exact (Dk.Mdl.head (h3.below y.property)).cell 4
  have cc : ∀ y : Dk.Up w3, y.wd.cell? ⟨gc, num, none⟩ = some (.int .i64 (S.count.getD num 0)) := fun y => by
    obtain ⟨gc', Cc', ec', _, _, hcc, _, _⟩ := Mdl.setCount (h3.below y.property) (n := num) hn
    have : gc = gc' := by
      have q := ec.symm.trans ec'
      simp at q
      exact q.1
    rw [this]
    exact hcc
  have hcx := ok.count _ (Dk.getD_mem S.count 0 num hn)
  obtain ⟨x, ex⟩ : ∃ x, S.count.getD num 0 = x := ⟨_, rfl⟩
  rw [ex] at hcx hpos cc hG'
  have hni : (num : Int) < (S.count.length : Int) := by omega
  have zp : decide (0 < x) = true := decide_eq_true hpos
  have zp' : decide (x > 0) = true := decide_eq_true hpos
  go_wp2_with fail
  refine Dk.wp_region_up_lit (by kernel_rfl) (by kernel_rfl) ?_
  repeat (go_big_quiet_step (fail))
  refine wpQuiet_nil ?_
  intro _ hw'
  obtain ⟨y, hw''⟩ := hw'
  subst hw''
  have u5 : Below w3.heap.size w3 y.wd.drew := Dk.up_drew y.property
  have HS0 : Hid (y.wd.drew.cell? ⟨bm, 4, none⟩ = some (.slice (some ⟨gc, 0, none⟩) S.count.length Cc) ∧ y.wd.drew.cell? ⟨b5, 2, none⟩ = some (.int .i64 (num : Int)) ∧ y.wd.drew.cell? ⟨gc, num, none⟩ = some (.int .i64 x)) := ⟨d4 ⟨_, u5⟩, b2 ⟨_, u5⟩, cc ⟨_, u5⟩⟩
  obtain ⟨gc', Cc', ec', _, _, _, z6, hset⟩ := Mdl.setCount (h3.below u5) (n := num) hn
  have egc : gc' = gc := by
    have q := ec.symm.trans ec'
    simp at q
    exact q.1.symm
  subst egc
  have h6 := hset (x - 1)
  obtain ⟨W6, e6⟩ : ∃ W6, W6 = y.wd.drew.setCell ⟨gc', num, none⟩ (.int .i64 (x - 1)) := ⟨_, rfl⟩
  rw [← e6] at h6
  have H6 : Hid (y.wd.drew.setCell ⟨gc', num, none⟩ (.int .i64 (x - 1)) = W6) := e6.symm
  have HZ6 : Hid (y.wd.drew.frozen? ⟨gc', num, none⟩ = false) := z6
  have ok6 : Dk.Ok { S with count := S.count.set num (x - 1) } (k + 1) := (ok.setCount num (x - 1) (by omega)).mono (by omega)
  clear b0 b1 b2 b4 bb bn d4 cc h3 hset e6 z6 ec ec' ex ok
  go_wp2_with fail
  refine Dk.wp_region_lineZ (z := 10) (S := fun w' => w'.cell? ⟨bm, 4, none⟩ = some (.slice (some ⟨gc', 0, none⟩) S.count.length Cc) ∧ w'.cell? ⟨b5, 2, none⟩ = some (.int .i64 (num : Int)) ∧ w'.cell? ⟨gc', num, none⟩ = some (.int .i64 x)) [0, 1, 2, 3, 4, 5, 6, 7, 8, 9] [10] (by kernel_rfl) (by kernel_rfl) (by kernel_rfl) HS0.out ?_
  refine Dk.held_step (v := .pointer (some ⟨bm, 0, none⟩)) rfl rfl (fun w' hw' => by obtain ⟨q0, q1, q2⟩ := hw'; go_simp) ?_
  simp only [Act.put, List.setIfInBounds_toArray, List.set_cons_succ, List.set_cons_zero]
  refine Dk.held_step (v := .pointer (some ⟨bm, 0, none⟩)) rfl rfl (fun w' hw' => by obtain ⟨q0, q1, q2⟩ := hw'; go_simp) ?_
  simp only [Act.put, List.setIfInBounds_toArray, List.set_cons_succ, List.set_cons_zero]
  refine Dk.held_step (v := .pointer (some ⟨bm, 4, none⟩)) rfl rfl (fun w' hw' => by obtain ⟨q0, q1, q2⟩ := hw'; go_simp) ?_
  simp only [Act.put, List.setIfInBounds_toArray, List.set_cons_succ, List.set_cons_zero]
  refine Dk.held_step (v := .slice (some ⟨gc', 0, none⟩) S.count.length Cc) rfl rfl (fun w' hw' => by obtain ⟨q0, q1, q2⟩ := hw'; go_simp) ?_
  simp only [Act.put, List.setIfInBounds_toArray, List.set_cons_succ, List.set_cons_zero]
  refine Dk.held_step (v := .pointer (some ⟨b5, 2, none⟩)) rfl rfl (fun w' hw' => by obtain ⟨q0, q1, q2⟩ := hw'; go_simp) ?_
  simp only [Act.put, List.setIfInBounds_toArray, List.set_cons_succ, List.set_cons_zero]
  refine Dk.held_step (v := .int .i64 (num : Int)) rfl rfl (fun w' hw' => by obtain ⟨q0, q1, q2⟩ := hw'; go_simp) ?_
  simp only [Act.put, List.setIfInBounds_toArray, List.set_cons_succ, List.set_cons_zero]
  refine Dk.held_step (v := .pointer (some ⟨gc', num, none⟩)) rfl rfl (fun w' hw' => by obtain ⟨q0, q1, q2⟩ := hw'; go_simp) ?_
  simp only [Act.put, List.setIfInBounds_toArray, List.set_cons_succ, List.set_cons_zero]
  refine Dk.held_step (v := .int .i64 x) rfl rfl (fun w' hw' => by obtain ⟨q0, q1, q2⟩ := hw'; go_simp) ?_
  simp only [Act.put, List.setIfInBounds_toArray, List.set_cons_succ, List.set_cons_zero]
  refine Dk.held_step (v := .int .i64 (x - 1)) rfl rfl (fun w' hw' => by obtain ⟨q0, q1, q2⟩ := hw'; go_simp; (try go_bits); (try trivial)) ?_
  simp only [Act.put, List.setIfInBounds_toArray, List.set_cons_succ, List.set_cons_zero]
  refine Dk.held_step (v := .pointer (some ⟨gc', num, none⟩)) rfl rfl (fun w' hw' => by obtain ⟨q0, q1, q2⟩ := hw'; go_simp) ?_
  simp only [Act.put, List.setIfInBounds_toArray, List.set_cons_succ, List.set_cons_zero]
  refine Dk.lineZ_skip (w' := W6) rfl rfl (by rw [← H6.out]; have q1 := HS0.out.2.2; have q2 := HZ6.out; go_simp) (fun h => absurd rfl h) ?_
  simp only [Act.put, List.setIfInBounds_toArray, List.set_cons_succ, List.set_cons_zero]
  rename ∀ (_ : Act) (_ : World), Code.wp _ _ _ _ _ → _ => hK
  refine hK _ _ ?_
  clear hK HS0 HZ6 H6
  go_wp2_with fail
  go_ret
  exact ⟨rfl, _, _, ts', hG', dropX h6, ok6⟩
set_option maxRecDepth 100000 in
set_option maxHeartbeats 4000000 in
theorem sem_down_wait (I : GateI G0) (hG : G0 bg S ts) (h : Dk.Sep W w (Dk.mdl bm V S ++ (us ++ ts))) (ok : Dk.Ok S k) (hk : k ≤ 300) (what who : Int) (num : Nat) (mm choice : Int) (hw5 : what = 5) (hn : num < S.count.length) (hwho : Dk.i64 who) (hwt : S.waits who = false) (hpos : S.count.getD num 0 ≤ 0) :
    Calls Try.prog 28 #[.pointer (some ⟨bg, 0, none⟩), .pointer (some ⟨bm, 0, none⟩), .agg #[.int .i64 what, .int .i64 who, .int .i64 (num : Int), .int .i64 mm, .int .i64 choice]] w fun e w' => e = .returned (.bool true) ∧ Both G0 W w' bg bm (k + 1) us := by
  obtain ⟨W1, e1⟩ : ∃ W1, W1 = w.alloc (.cells #[.int .i64 what, .int .i64 who, .int .i64 (num : Int), .int .i64 mm, .int .i64 choice] 30) := ⟨_, rfl⟩
  have h1 : Dk.Sep W W1 (Dk.mdl bm V S ++ (Dk.boxOf w.heap.size #[.int .i64 what, .int .i64 who, .int .i64 (num : Int), .int .i64 mm, .int .i64 choice] 30 :: us ++ ts)) := (h.newBox e1).perm List.perm_middle.symm
  have H1 : Hid (w.alloc (.cells #[.int .i64 what, .int .i64 who, .int .i64 (num : Int), .int .i64 mm, .int .i64 choice] 30) = W1) := e1.symm
  obtain ⟨b5, eb5⟩ : ∃ b5, w.heap.size = b5 := ⟨_, rfl⟩
  rw [eb5] at h1
  have HB5 : Hid (w.heap.size = b5) := eb5
  clear e1 eb5
  have ab : ∀ y : Dk.Up W1, Dk.Box y.wd b5 #[.int .i64 what, .int .i64 who, .int .i64 (num : Int), .int .i64 mm, .int .i64 choice] 30 := fun y => (h1.below y.property).box (by simp)
  have a0 : ∀ y : Dk.Up W1, y.wd.cell? ⟨b5, 0, none⟩ = some (.int .i64 what) := fun y => (ab y).cell 0
  have a1 : ∀ y : Dk.Up W1, y.wd.cell? ⟨b5, 1, none⟩ = some (.int .i64 who) := fun y => (ab y).cell 1
  have a2 : ∀ y : Dk.Up W1, y.wd.cell? ⟨b5, 2, none⟩ = some (.int .i64 (num : Int)) := fun y => (ab y).cell 2
  have a4 : ∀ y : Dk.Up W1, y.wd.cell? ⟨b5, 4, none⟩ = some (.int .i64 choice) := fun y => (ab y).cell 4
  have an : Nonempty (Dk.Up W1) := ⟨⟨W1, Below.refl _ _⟩⟩
  obtain ⟨Ad4, Cd4, ed4, qd4, md4⟩ := Dk.owns_slice (Dk.Mdl.count h1)
  have d4 : ∀ y : Dk.Up W1, y.wd.cell? ⟨bm, 4, none⟩ = some (.slice Ad4 S.count.length Cd4) := fun y => by rw [← ed4]; exact (Dk.Mdl.head (h1.below y.property)).cell 4
  have K1 : ∀ y : Dk.Up W1, Calls Try.prog 24 #[.int .i64 (num : Int), .int .i64 (S.count.length : Int)] y.wd fun e w' => e = .returned (.bool true) ∧ w' = y.wd := fun y => is_yes num S.count.length hn y.wd
  have C1 : Hid _ := K1
  clear K1
  have hw5b : decide (what = 5) = true := decide_eq_true hw5
  have hw5c : (what == 5) = true := by simpa using hw5
  clear hw5
  go_enter Try.func28, Try.ntmps28
  go_wp2_with (rw [H1.out, HB5.out]; clear H1)
  refine Dk.wp_region_up_lit (by kernel_rfl) (by kernel_rfl) ?_
  repeat (go_big_quiet_step ((go_at_call 24; exact Dk.calls_up_same _ (C1.out _))))
  refine wpQuiet_nil ?_
  intro _ hw'
  obtain ⟨y, hw''⟩ := hw'
  subst hw''
  have h2 : Dk.Sep W y.wd (Dk.mdl bm V S ++ (Dk.boxOf b5 #[.int .i64 what, .int .i64 who, .int .i64 (num : Int), .int .i64 mm, .int .i64 choice] 30 :: us ++ ts)) := h1.below y.property
  clear h1
  generalize y.wd = w2 at *
  have bb : ∀ y : Dk.Up w2, Dk.Box y.wd b5 #[.int .i64 what, .int .i64 who, .int .i64 (num : Int), .int .i64 mm, .int .i64 choice] 30 := fun y => (h2.below y.property).box (by simp)
  have b0 : ∀ y : Dk.Up w2, y.wd.cell? ⟨b5, 0, none⟩ = some (.int .i64 what) := fun y => (bb y).cell 0
  have b1 : ∀ y : Dk.Up w2, y.wd.cell? ⟨b5, 1, none⟩ = some (.int .i64 who) := fun y => (bb y).cell 1
  have b2 : ∀ y : Dk.Up w2, y.wd.cell? ⟨b5, 2, none⟩ = some (.int .i64 (num : Int)) := fun y => (bb y).cell 2
  have b4 : ∀ y : Dk.Up w2, y.wd.cell? ⟨b5, 4, none⟩ = some (.int .i64 choice) := fun y => (bb y).cell 4
  have bn : Nonempty (Dk.Up w2) := ⟨⟨w2, Below.refl _ _⟩⟩
  have bz : Dk.Up w2 := ⟨w2, Below.refl _ _⟩
  have c0 : w2.cell? ⟨b5, 0, none⟩ = some (.int .i64 what) := b0 ⟨w2, Below.refl _ _⟩
  have c1 : w2.cell? ⟨b5, 1, none⟩ = some (.int .i64 who) := b1 ⟨w2, Below.refl _ _⟩
  have c2 : w2.cell? ⟨b5, 2, none⟩ = some (.int .i64 (num : Int)) := b2 ⟨w2, Below.refl _ _⟩
  have c4 : w2.cell? ⟨b5, 4, none⟩ = some (.int .i64 choice) := b4 ⟨w2, Below.refl _ _⟩
  clear b0 b1 b2 b4 bb bn bz
  have K2 := I.down_wait hG (toG h2) ok hk who num hn hwho hwt (by omega)
  go_wp2_with fail
  refine K2.mono ?_
  rintro e w3 ⟨rfl, ts', hG', h3'⟩
  have h3 := ofG h3'
  clear K2 h3' c0 c1 c2 c4 h2 a0 a1 a2 a4 ab an d4 ed4 C1
  have K3 := waits_m h3 ok who
  rw [hwt] at K3
  have bb : ∀ y : Dk.Up w3, Dk.Box y.wd b5 #[.int .i64 what, .int .i64 who, .int .i64 (num : Int), .int .i64 mm, .int .i64 choice] 30 := fun y => (h3.below y.property).box (by simp)
  have b0 : ∀ y : Dk.Up w3, y.wd.cell? ⟨b5, 0, none⟩ = some (.int .i64 what) := fun y => (bb y).cell 0
  have b1 : ∀ y : Dk.Up w3, y.wd.cell? ⟨b5, 1, none⟩ = some (.int .i64 who) := fun y => (bb y).cell 1
  have b2 : ∀ y : Dk.Up w3, y.wd.cell? ⟨b5, 2, none⟩ = some (.int .i64 (num : Int)) := fun y => (bb y).cell 2
  have b4 : ∀ y : Dk.Up w3, y.wd.cell? ⟨b5, 4, none⟩ = some (.int .i64 choice) := fun y => (bb y).cell 4
  have bn : Nonempty (Dk.Up w3) := ⟨⟨w3, Below.refl _ _⟩⟩
  have c1 : w3.cell? ⟨b5, 1, none⟩ = some (.int .i64 who) := b1 ⟨w3, Below.refl _ _⟩
  go_wp2_with fail
  refine K3.mono ?_
  rintro e w' ⟨rfl, hw'⟩
  subst w'
  clear K3 c1
  obtain ⟨gc, Cc, ec, qc, mc, _, _, _⟩ := Mdl.setCount h3 (n := num) hn
  unfold maxLen at mc
  have d4 : ∀ y : Dk.Up w3, y.wd.cell? ⟨bm, 4, none⟩ = some (.slice (some ⟨gc, 0, none⟩) S.count.length Cc) := fun y => by rw [← ec]; exact (Dk.Mdl.head (h3.below y.property)).cell 4
  have cc : ∀ y : Dk.Up w3, y.wd.cell? ⟨gc, num, none⟩ = some (.int .i64 (S.count.getD num 0)) := fun y => by
    obtain ⟨gc', Cc', ec', _, _, hcc, _, _⟩ := Mdl.setCount (h3.below y.property) (n := num) hn
    have : gc = gc' := by
      have q := ec.symm.trans ec'
      simp at q
      exact q.1
    rw [this]
    exact hcc
  have hcx := ok.count _ (Dk.getD_mem S.count 0 num hn)
  obtain ⟨x, ex⟩ : ∃ x, S.count.getD num 0 = x := ⟨_, rfl⟩
  rw [ex] at hcx hpos cc
  have hni : (num : Int) < (S.count.length : Int) := by omega
  have zp : decide (0 < x) = false := decide_eq_false (by omega)
  have zp' : decide (x > 0) = false := decide_eq_false (by omega)
  go_wp2_with fail
  refine Dk.wp_region_up_lit (by kernel_rfl) (by kernel_rfl) ?_
  repeat (go_big_quiet_step (fail))
  refine wpQuiet_nil ?_
  intro _ hw'
  obtain ⟨y, hw''⟩ := hw'
  subst hw''
  have u5 : Below w3.heap.size w3 y.wd.drew := Dk.up_drew y.property
  have h5 := h3.below u5
  have hdn : num < S.downs.length := by rw [ok.downs]; exact hn
  have hlw : (S.downs.getD num []).length ≤ 1000 := by
    have := ok.downLen (Dk.getD_mem S.downs [] num hdn)
    omega
  have f5 := (Dk.Mdl.head h5).cell 5
  have g1' := (h5.box (b := b5) (cs := #[.int .i64 what, .int .i64 who, .int .i64 (num : Int), .int .i64 mm, .int .i64 choice]) (t := 30) (by simp)).cell 1
  have g2' := (h5.box (b := b5) (cs := #[.int .i64 what, .int .i64 who, .int .i64 (num : Int), .int .i64 mm, .int .i64 choice]) (t := 30) (by simp)).cell 2
  obtain ⟨g5, C5, A, L, C', A', L', C'', w6, V6, e5, q5, m5, c5, r6, _, d6, z6, aw, hv6, h7⟩ := Mdl.addDowns h5 hdn who hlw
  have f5' : y.wd.drew.cell? ⟨bm, 5, none⟩ = some (.slice (some ⟨g5, 0, none⟩) S.downs.length C5) := by rw [← e5]; exact f5
  unfold maxLen at m5
  have hnb : bm < y.wd.drew.heap.size := lt_of_cell' f5'
  have hn5 : b5 < y.wd.drew.heap.size := lt_of_cell' g1'
  have hap := (List.pairwise_append.1 (Hid.out h5).apart)
  have hno : ¬ (Value.ownBlock (.slice A L C') = some bm) := fun e => (List.pairwise_cons.1 hap.1).1 (Dk.nestOf 22 3 1 Dk.is V.v5 V.dv S.downs) (by simp) bm rfl (.inr ⟨_, List.mem_of_getElem? hv6, e⟩)
  have hnq : ¬ (Value.ownBlock (.slice A L C') = some b5) := fun e => hap.2.2 (Dk.nestOf 22 3 1 Dk.is V.v5 V.dv S.downs) (by simp [Dk.mdl]) (Dk.boxOf b5 #[.int .i64 what, .int .i64 who, .int .i64 (num : Int), .int .i64 mm, .int .i64 choice] 30) (by simp) b5 (.inr ⟨_, List.mem_of_getElem? hv6, e⟩) rfl
  have HK : Hid (y.wd.drew.cell? ⟨bm, 5, none⟩ = some (.slice (some ⟨g5, 0, none⟩) S.downs.length C5) ∧ y.wd.drew.cell? ⟨b5, 2, none⟩ = some (.int .i64 (num : Int)) ∧ y.wd.drew.cell? ⟨b5, 1, none⟩ = some (.int .i64 who) ∧ y.wd.drew.cell? ⟨g5, num, none⟩ = some (.slice A L C')) := ⟨f5', g2', g1', c5⟩
  have HK6 : Hid (w6.cell? ⟨bm, 5, none⟩ = some (.slice (some ⟨g5, 0, none⟩) S.downs.length C5) ∧ w6.cell? ⟨b5, 2, none⟩ = some (.int .i64 (num : Int)) ∧ w6.cell? ⟨b5, 1, none⟩ = some (.int .i64 who) ∧ w6.cell? ⟨g5, num, none⟩ = some (.slice A L C')) := ⟨(Dk.Away.cell aw hnb hno 5).trans f5', (Dk.Away.cell aw hn5 hnq 2).trans g2', (Dk.Away.cell aw hn5 hnq 1).trans g1', d6⟩
  have HF6 : Hid (w6.frozen? ⟨g5, num, none⟩ = false) := z6
  have HR6 : Hid _ := r6
  obtain ⟨W7, e7⟩ : ∃ W7, W7 = w6.setCell ⟨g5, num, none⟩ (.slice A' L' C'') := ⟨_, rfl⟩
  rw [← e7] at h7
  have H7 : Hid (w6.setCell ⟨g5, num, none⟩ (.slice A' L' C'') = W7) := e7.symm
  have ok7 : Dk.Ok { S with downs := S.downs.set num (S.downs.getD num [] ++ [who]) } (k + 1) := ok.setDowns num hdn _ (Dk.snoc_mem (ok.downsI _ (Dk.getD_mem S.downs [] num hdn)) hwho) (by simp; omega)
  have hdi : (num : Int) < (S.downs.length : Int) := by omega
  clear b0 b1 b2 b4 bb bn d4 cc h3 h5 e7 ec ex ok aw d6 z6 r6 c5 hap hno hnq f5 f5' g1' g2' e5 hv6
  go_wp2_with fail
  refine Dk.wp_region_lineZ (z := 19) (S := fun w' => w'.cell? ⟨bm, 5, none⟩ = some (.slice (some ⟨g5, 0, none⟩) S.downs.length C5) ∧ w'.cell? ⟨b5, 2, none⟩ = some (.int .i64 (num : Int)) ∧ w'.cell? ⟨b5, 1, none⟩ = some (.int .i64 who) ∧ w'.cell? ⟨g5, num, none⟩ = some (.slice A L C')) [0, 1, 2, 3, 4, 5, 6, 7, 8, 9, 10, 11, 12, 13, 14, 15] [16, 17, 18, 19] (by kernel_rfl) (by kernel_rfl) (by kernel_rfl) HK.out ?_
  refine Dk.held_step (v := .pointer (some ⟨bm, 0, none⟩)) rfl rfl (fun w' hw' => by obtain ⟨q0, q1, q2, q3⟩ := hw'; go_simp) ?_
  simp only [Act.put, List.setIfInBounds_toArray, List.set_cons_succ, List.set_cons_zero]
  refine Dk.held_step (v := .pointer (some ⟨bm, 0, none⟩)) rfl rfl (fun w' hw' => by obtain ⟨q0, q1, q2, q3⟩ := hw'; go_simp) ?_
  simp only [Act.put, List.setIfInBounds_toArray, List.set_cons_succ, List.set_cons_zero]
  refine Dk.held_step (v := .pointer (some ⟨bm, 5, none⟩)) rfl rfl (fun w' hw' => by obtain ⟨q0, q1, q2, q3⟩ := hw'; go_simp) ?_
  simp only [Act.put, List.setIfInBounds_toArray, List.set_cons_succ, List.set_cons_zero]
  refine Dk.held_step (v := .slice (some ⟨g5, 0, none⟩) S.downs.length C5) rfl rfl (fun w' hw' => by obtain ⟨q0, q1, q2, q3⟩ := hw'; go_simp) ?_
  simp only [Act.put, List.setIfInBounds_toArray, List.set_cons_succ, List.set_cons_zero]
  refine Dk.held_step (v := .pointer (some ⟨b5, 2, none⟩)) rfl rfl (fun w' hw' => by obtain ⟨q0, q1, q2, q3⟩ := hw'; go_simp) ?_
  simp only [Act.put, List.setIfInBounds_toArray, List.set_cons_succ, List.set_cons_zero]
  refine Dk.held_step (v := .int .i64 (num : Int)) rfl rfl (fun w' hw' => by obtain ⟨q0, q1, q2, q3⟩ := hw'; go_simp) ?_
  simp only [Act.put, List.setIfInBounds_toArray, List.set_cons_succ, List.set_cons_zero]
  refine Dk.held_step (v := .pointer (some ⟨bm, 0, none⟩)) rfl rfl (fun w' hw' => by obtain ⟨q0, q1, q2, q3⟩ := hw'; go_simp) ?_
  simp only [Act.put, List.setIfInBounds_toArray, List.set_cons_succ, List.set_cons_zero]
  refine Dk.held_step (v := .pointer (some ⟨bm, 0, none⟩)) rfl rfl (fun w' hw' => by obtain ⟨q0, q1, q2, q3⟩ := hw'; go_simp) ?_
  simp only [Act.put, List.setIfInBounds_toArray, List.set_cons_succ, List.set_cons_zero]
  refine Dk.held_step (v := .pointer (some ⟨bm, 5, none⟩)) rfl rfl (fun w' hw' => by obtain ⟨q0, q1, q2, q3⟩ := hw'; go_simp) ?_
  simp only [Act.put, List.setIfInBounds_toArray, List.set_cons_succ, List.set_cons_zero]
  refine Dk.held_step (v := .slice (some ⟨g5, 0, none⟩) S.downs.length C5) rfl rfl (fun w' hw' => by obtain ⟨q0, q1, q2, q3⟩ := hw'; go_simp) ?_
  simp only [Act.put, List.setIfInBounds_toArray, List.set_cons_succ, List.set_cons_zero]
  refine Dk.held_step (v := .pointer (some ⟨b5, 2, none⟩)) rfl rfl (fun w' hw' => by obtain ⟨q0, q1, q2, q3⟩ := hw'; go_simp) ?_
  simp only [Act.put, List.setIfInBounds_toArray, List.set_cons_succ, List.set_cons_zero]
  refine Dk.held_step (v := .int .i64 (num : Int)) rfl rfl (fun w' hw' => by obtain ⟨q0, q1, q2, q3⟩ := hw'; go_simp) ?_
  simp only [Act.put, List.setIfInBounds_toArray, List.set_cons_succ, List.set_cons_zero]
  refine Dk.held_step (v := .pointer (some ⟨g5, num, none⟩)) rfl rfl (fun w' hw' => by obtain ⟨q0, q1, q2, q3⟩ := hw'; go_simp) ?_
  simp only [Act.put, List.setIfInBounds_toArray, List.set_cons_succ, List.set_cons_zero]
  refine Dk.held_step (v := .slice A L C') rfl rfl (fun w' hw' => by obtain ⟨q0, q1, q2, q3⟩ := hw'; go_simp) ?_
  simp only [Act.put, List.setIfInBounds_toArray, List.set_cons_succ, List.set_cons_zero]
  refine Dk.held_step (v := .pointer (some ⟨b5, 1, none⟩)) rfl rfl (fun w' hw' => by obtain ⟨q0, q1, q2, q3⟩ := hw'; go_simp) ?_
  simp only [Act.put, List.setIfInBounds_toArray, List.set_cons_succ, List.set_cons_zero]
  refine Dk.held_step (v := .int .i64 who) rfl rfl (fun w' hw' => by obtain ⟨q0, q1, q2, q3⟩ := hw'; go_simp) ?_
  simp only [Act.put, List.setIfInBounds_toArray, List.set_cons_succ, List.set_cons_zero]
  obtain ⟨W5, e5⟩ : ∃ W5, W5 = y.wd.drew.alloc (.cells #[.int .i64 who] 3) := ⟨_, rfl⟩
  have S5 : W5.cell? ⟨bm, 5, none⟩ = some (.slice (some ⟨g5, 0, none⟩) S.downs.length C5) ∧ W5.cell? ⟨b5, 2, none⟩ = some (.int .i64 (num : Int)) ∧ W5.cell? ⟨b5, 1, none⟩ = some (.int .i64 who) ∧ W5.cell? ⟨g5, num, none⟩ = some (.slice A L C') := by
    rw [e5]
    obtain ⟨q0, q1, q2, q3⟩ := HK.out
    exact ⟨Lib.cell?_alloc_some _ q0, Lib.cell?_alloc_some _ q1, Lib.cell?_alloc_some _ q2, Lib.cell?_alloc_some _ q3⟩
  refine Dk.lineZ_step (v := .slice (some ⟨y.wd.drew.heap.size, 0, none⟩) 1 1) (w' := W5) rfl rfl (by rw [e5]; go_simp) (fun _ => S5) ?_
  simp only [Act.put, List.setIfInBounds_toArray, List.set_cons_succ, List.set_cons_zero]
  have r5 := HR6.out
  rw [← e5, show y.wd.drew.heap.size = y.wd.heap.size from rfl] at r5
  refine Dk.lineZ_step (v := .slice A' L' C'') (w' := w6) rfl rfl (by simp only [execOp, resolve, invoke, builtin]; simp [Act.eval, r5]) (fun _ => HK6.out) ?_
  simp only [Act.put, List.setIfInBounds_toArray, List.set_cons_succ, List.set_cons_zero]
  refine Dk.lineZ_step (v := .pointer (some ⟨g5, num, none⟩)) (w' := w6) rfl rfl (by go_simp) (fun _ => HK6.out) ?_
  simp only [Act.put, List.setIfInBounds_toArray, List.set_cons_succ, List.set_cons_zero]
  refine Dk.lineZ_skip (w' := W7) rfl rfl (by rw [← H7.out]; have q1 := HK6.out.2.2.2; have q2 := HF6.out; go_simp) (fun h => absurd rfl h) ?_
  simp only [Act.put, List.setIfInBounds_toArray, List.set_cons_succ, List.set_cons_zero]
  rename ∀ (_ : Act) (_ : World), Code.wp _ _ _ _ _ → _ => hK
  refine hK _ _ ?_
  clear hK HK HK6 HF6 HR6 H7 e5 S5 r5
  go_wp2_with fail
  go_ret
  exact ⟨rfl, _, _, ts', hG', dropX h7, ok7⟩
end
end Go.Proofs.Ytjkdaankjondjaa
