/- The walks of package inst's objectsFit and Check. -/
import Derived.Test.YtmapmhcmeokahaaLists
import Derived.Test.YtmapmhcmeokahaaAll
namespace Go.Proofs.Ytmapmhcmeokahaa
set_option linter.unusedSimpArgs false
set_option linter.unusedVariables false
set_option linter.unnecessarySimpa false
open Go.RowKit

theorem objects_eq {s : Dk.Sh} {p : Dk.Prg} (hs : Lens s p) : Dk.objectsFitB p = (Dk.withinB p.words 0 64 && Dk.withinB p.mutexes 0 4 && Dk.withinB p.conds 0 4 && decide (s.sL ≤ 4) && Dk.allWithinB p.sems 0 1048576 && decide (s.pL ≤ 4) && Dk.allWithinB p.pipes 1 8 && Dk.withinB p.blocks 0 64 && Dk.withinB p.prio 0 7) := by
  unfold Dk.objectsFitB
  rw [hs.es, hs.ep]

set_option maxHeartbeats 1000000 in
theorem objects_0 (B : Nat) (s : Dk.Sh) (p : Dk.Prg) (w : World) (h : Dk.PrgAt B w s p) (hB : B ≤ w.heap.size)  (h0 : Dk.withinB p.words 0 64 = false) :
    Calls Try.prog 21 #[Dk.pv s p] w fun e w' => e = .returned (.bool (Dk.objectsFitB p)) ∧ Below w.heap.size w w' := by
  have HS : Hid (Dk.objectsFitB p = false) := by show _ = false; rw [objects_eq (lens_of h), h0]; simp
  go_enter Try.func21, Try.ntmps21
  go_wp2_with fail
  refine (within_any _ _ _ _).mono ?_
  rintro e w' ⟨rfl, rfl⟩
  go_wp2_with fail
  go_ret
  exact ⟨ret_bool HS.out.symm, Dk.up_alloc (Below.refl _ _) _⟩

set_option maxHeartbeats 1000000 in
theorem objects_1 (B : Nat) (s : Dk.Sh) (p : Dk.Prg) (w : World) (h : Dk.PrgAt B w s p) (hB : B ≤ w.heap.size) (h0 : Dk.withinB p.words 0 64 = true) (h1 : Dk.withinB p.mutexes 0 4 = false) :
    Calls Try.prog 21 #[Dk.pv s p] w fun e w' => e = .returned (.bool (Dk.objectsFitB p)) ∧ Below w.heap.size w w' := by
  have HS : Hid (Dk.objectsFitB p = false) := by show _ = false; rw [objects_eq (lens_of h), h0, h1]; simp
  go_enter Try.func21, Try.ntmps21
  go_wp2_with fail
  refine (within_any _ _ _ _).mono ?_
  rintro e w' ⟨rfl, rfl⟩
  go_wp2_with fail
  refine (within_any _ _ _ _).mono ?_
  rintro e w' ⟨rfl, rfl⟩
  go_wp2_with fail
  go_ret
  exact ⟨ret_bool HS.out.symm, Dk.up_alloc (Below.refl _ _) _⟩

set_option maxHeartbeats 1000000 in
theorem objects_2 (B : Nat) (s : Dk.Sh) (p : Dk.Prg) (w : World) (h : Dk.PrgAt B w s p) (hB : B ≤ w.heap.size) (h0 : Dk.withinB p.words 0 64 = true) (h1 : Dk.withinB p.mutexes 0 4 = true) (h2 : Dk.withinB p.conds 0 4 = false) :
    Calls Try.prog 21 #[Dk.pv s p] w fun e w' => e = .returned (.bool (Dk.objectsFitB p)) ∧ Below w.heap.size w w' := by
  have HS : Hid (Dk.objectsFitB p = false) := by show _ = false; rw [objects_eq (lens_of h), h0, h1, h2]; simp
  go_enter Try.func21, Try.ntmps21
  go_wp2_with fail
  refine (within_any _ _ _ _).mono ?_
  rintro e w' ⟨rfl, rfl⟩
  go_wp2_with fail
  refine (within_any _ _ _ _).mono ?_
  rintro e w' ⟨rfl, rfl⟩
  go_wp2_with fail
  refine (within_any _ _ _ _).mono ?_
  rintro e w' ⟨rfl, rfl⟩
  go_wp2_with fail
  go_ret
  exact ⟨ret_bool HS.out.symm, Dk.up_alloc (Below.refl _ _) _⟩

set_option maxHeartbeats 1000000 in
theorem objects_3 (B : Nat) (s : Dk.Sh) (p : Dk.Prg) (w : World) (h : Dk.PrgAt B w s p) (hB : B ≤ w.heap.size) (h0 : Dk.withinB p.words 0 64 = true) (h1 : Dk.withinB p.mutexes 0 4 = true) (h2 : Dk.withinB p.conds 0 4 = true) (h3 : 4 < s.sL) :
    Calls Try.prog 21 #[Dk.pv s p] w fun e w' => e = .returned (.bool (Dk.objectsFitB p)) ∧ Below w.heap.size w w' := by
  have HS : Hid (Dk.objectsFitB p = false) := by show _ = false; rw [objects_eq (lens_of h), h0, h1, h2, decide_eq_false (Nat.not_le_of_lt h3)]; simp
  go_enter Try.func21, Try.ntmps21
  go_wp2_with fail
  refine (within_any _ _ _ _).mono ?_
  rintro e w' ⟨rfl, rfl⟩
  go_wp2_with fail
  refine (within_any _ _ _ _).mono ?_
  rintro e w' ⟨rfl, rfl⟩
  go_wp2_with fail
  refine (within_any _ _ _ _).mono ?_
  rintro e w' ⟨rfl, rfl⟩
  go_wp2_with fail
  go_ret
  exact ⟨ret_bool HS.out.symm, Dk.up_alloc (Below.refl _ _) _⟩

set_option maxHeartbeats 1000000 in
theorem objects_4 (B : Nat) (s : Dk.Sh) (p : Dk.Prg) (w : World) (h : Dk.PrgAt B w s p) (hB : B ≤ w.heap.size) (h0 : Dk.withinB p.words 0 64 = true) (h1 : Dk.withinB p.mutexes 0 4 = true) (h2 : Dk.withinB p.conds 0 4 = true) (h3 : s.sL ≤ 4) (h4 : Dk.allWithinB p.sems 0 1048576 = false) :
    Calls Try.prog 21 #[Dk.pv s p] w fun e w' => e = .returned (.bool (Dk.objectsFitB p)) ∧ Below w.heap.size w w' := by
  have HS : Hid (Dk.objectsFitB p = false) := by show _ = false; rw [objects_eq (lens_of h), h0, h1, h2, decide_eq_true h3, h4]; simp
  go_enter Try.func21, Try.ntmps21
  go_wp2_with fail
  refine (within_any _ _ _ _).mono ?_
  rintro e w' ⟨rfl, rfl⟩
  go_wp2_with fail
  refine (within_any _ _ _ _).mono ?_
  rintro e w' ⟨rfl, rfl⟩
  go_wp2_with fail
  refine (within_any _ _ _ _).mono ?_
  rintro e w' ⟨rfl, rfl⟩
  go_wp2_with fail
  refine (allWithin_any B _ _ _ p.sems _ _ _ (h.sems.below (Dk.up_alloc (Below.refl _ _) _) hB)).mono ?_
  rintro e w' ⟨rfl, rfl⟩
  go_wp2_with fail
  go_ret
  exact ⟨ret_bool HS.out.symm, Dk.up_alloc (Below.refl _ _) _⟩

set_option maxHeartbeats 1000000 in
theorem objects_5 (B : Nat) (s : Dk.Sh) (p : Dk.Prg) (w : World) (h : Dk.PrgAt B w s p) (hB : B ≤ w.heap.size) (h0 : Dk.withinB p.words 0 64 = true) (h1 : Dk.withinB p.mutexes 0 4 = true) (h2 : Dk.withinB p.conds 0 4 = true) (h3 : s.sL ≤ 4) (h4 : Dk.allWithinB p.sems 0 1048576 = true) (h5 : 4 < s.pL) :
    Calls Try.prog 21 #[Dk.pv s p] w fun e w' => e = .returned (.bool (Dk.objectsFitB p)) ∧ Below w.heap.size w w' := by
  have HS : Hid (Dk.objectsFitB p = false) := by show _ = false; rw [objects_eq (lens_of h), h0, h1, h2, decide_eq_true h3, h4, decide_eq_false (Nat.not_le_of_lt h5)]; simp
  go_enter Try.func21, Try.ntmps21
  go_wp2_with fail
  refine (within_any _ _ _ _).mono ?_
  rintro e w' ⟨rfl, rfl⟩
  go_wp2_with fail
  refine (within_any _ _ _ _).mono ?_
  rintro e w' ⟨rfl, rfl⟩
  go_wp2_with fail
  refine (within_any _ _ _ _).mono ?_
  rintro e w' ⟨rfl, rfl⟩
  go_wp2_with fail
  refine (allWithin_any B _ _ _ p.sems _ _ _ (h.sems.below (Dk.up_alloc (Below.refl _ _) _) hB)).mono ?_
  rintro e w' ⟨rfl, rfl⟩
  go_wp2_with fail
  go_ret
  exact ⟨ret_bool HS.out.symm, Dk.up_alloc (Below.refl _ _) _⟩

set_option maxHeartbeats 1000000 in
theorem objects_6 (B : Nat) (s : Dk.Sh) (p : Dk.Prg) (w : World) (h : Dk.PrgAt B w s p) (hB : B ≤ w.heap.size) (h0 : Dk.withinB p.words 0 64 = true) (h1 : Dk.withinB p.mutexes 0 4 = true) (h2 : Dk.withinB p.conds 0 4 = true) (h3 : s.sL ≤ 4) (h4 : Dk.allWithinB p.sems 0 1048576 = true) (h5 : s.pL ≤ 4) (h6 : Dk.allWithinB p.pipes 1 8 = false) :
    Calls Try.prog 21 #[Dk.pv s p] w fun e w' => e = .returned (.bool (Dk.objectsFitB p)) ∧ Below w.heap.size w w' := by
  have HS : Hid (Dk.objectsFitB p = false) := by show _ = false; rw [objects_eq (lens_of h), h0, h1, h2, decide_eq_true h3, h4, decide_eq_true h5, h6]; simp
  go_enter Try.func21, Try.ntmps21
  go_wp2_with fail
  refine (within_any _ _ _ _).mono ?_
  rintro e w' ⟨rfl, rfl⟩
  go_wp2_with fail
  refine (within_any _ _ _ _).mono ?_
  rintro e w' ⟨rfl, rfl⟩
  go_wp2_with fail
  refine (within_any _ _ _ _).mono ?_
  rintro e w' ⟨rfl, rfl⟩
  go_wp2_with fail
  refine (allWithin_any B _ _ _ p.sems _ _ _ (h.sems.below (Dk.up_alloc (Below.refl _ _) _) hB)).mono ?_
  rintro e w' ⟨rfl, rfl⟩
  go_wp2_with fail
  refine (allWithin_any B _ _ _ p.pipes _ _ _ (h.pipes.below (Dk.up_alloc (Below.refl _ _) _) hB)).mono ?_
  rintro e w' ⟨rfl, rfl⟩
  go_wp2_with fail
  go_ret
  exact ⟨ret_bool HS.out.symm, Dk.up_alloc (Below.refl _ _) _⟩

set_option maxHeartbeats 1000000 in
theorem objects_7 (B : Nat) (s : Dk.Sh) (p : Dk.Prg) (w : World) (h : Dk.PrgAt B w s p) (hB : B ≤ w.heap.size) (h0 : Dk.withinB p.words 0 64 = true) (h1 : Dk.withinB p.mutexes 0 4 = true) (h2 : Dk.withinB p.conds 0 4 = true) (h3 : s.sL ≤ 4) (h4 : Dk.allWithinB p.sems 0 1048576 = true) (h5 : s.pL ≤ 4) (h6 : Dk.allWithinB p.pipes 1 8 = true) (h7 : Dk.withinB p.blocks 0 64 = false) :
    Calls Try.prog 21 #[Dk.pv s p] w fun e w' => e = .returned (.bool (Dk.objectsFitB p)) ∧ Below w.heap.size w w' := by
  have HS : Hid (Dk.objectsFitB p = false) := by show _ = false; rw [objects_eq (lens_of h), h0, h1, h2, decide_eq_true h3, h4, decide_eq_true h5, h6, h7]; simp
  go_enter Try.func21, Try.ntmps21
  go_wp2_with fail
  refine (within_any _ _ _ _).mono ?_
  rintro e w' ⟨rfl, rfl⟩
  go_wp2_with fail
  refine (within_any _ _ _ _).mono ?_
  rintro e w' ⟨rfl, rfl⟩
  go_wp2_with fail
  refine (within_any _ _ _ _).mono ?_
  rintro e w' ⟨rfl, rfl⟩
  go_wp2_with fail
  refine (allWithin_any B _ _ _ p.sems _ _ _ (h.sems.below (Dk.up_alloc (Below.refl _ _) _) hB)).mono ?_
  rintro e w' ⟨rfl, rfl⟩
  go_wp2_with fail
  refine (allWithin_any B _ _ _ p.pipes _ _ _ (h.pipes.below (Dk.up_alloc (Below.refl _ _) _) hB)).mono ?_
  rintro e w' ⟨rfl, rfl⟩
  go_wp2_with fail
  refine (within_any _ _ _ _).mono ?_
  rintro e w' ⟨rfl, rfl⟩
  go_wp2_with fail
  go_ret
  exact ⟨ret_bool HS.out.symm, Dk.up_alloc (Below.refl _ _) _⟩

set_option maxHeartbeats 1000000 in
theorem objects_8 (B : Nat) (s : Dk.Sh) (p : Dk.Prg) (w : World) (h : Dk.PrgAt B w s p) (hB : B ≤ w.heap.size) (h0 : Dk.withinB p.words 0 64 = true) (h1 : Dk.withinB p.mutexes 0 4 = true) (h2 : Dk.withinB p.conds 0 4 = true) (h3 : s.sL ≤ 4) (h4 : Dk.allWithinB p.sems 0 1048576 = true) (h5 : s.pL ≤ 4) (h6 : Dk.allWithinB p.pipes 1 8 = true) (h7 : Dk.withinB p.blocks 0 64 = true) (h8 : Dk.withinB p.prio 0 7 = false) :
    Calls Try.prog 21 #[Dk.pv s p] w fun e w' => e = .returned (.bool (Dk.objectsFitB p)) ∧ Below w.heap.size w w' := by
  have HS : Hid (Dk.objectsFitB p = false) := by show _ = false; rw [objects_eq (lens_of h), h0, h1, h2, decide_eq_true h3, h4, decide_eq_true h5, h6, h7, h8]; simp
  go_enter Try.func21, Try.ntmps21
  go_wp2_with fail
  refine (within_any _ _ _ _).mono ?_
  rintro e w' ⟨rfl, rfl⟩
  go_wp2_with fail
  refine (within_any _ _ _ _).mono ?_
  rintro e w' ⟨rfl, rfl⟩
  go_wp2_with fail
  refine (within_any _ _ _ _).mono ?_
  rintro e w' ⟨rfl, rfl⟩
  go_wp2_with fail
  refine (allWithin_any B _ _ _ p.sems _ _ _ (h.sems.below (Dk.up_alloc (Below.refl _ _) _) hB)).mono ?_
  rintro e w' ⟨rfl, rfl⟩
  go_wp2_with fail
  refine (allWithin_any B _ _ _ p.pipes _ _ _ (h.pipes.below (Dk.up_alloc (Below.refl _ _) _) hB)).mono ?_
  rintro e w' ⟨rfl, rfl⟩
  go_wp2_with fail
  refine (within_any _ _ _ _).mono ?_
  rintro e w' ⟨rfl, rfl⟩
  go_wp2_with fail
  refine (within_any _ _ _ _).mono ?_
  rintro e w' ⟨rfl, rfl⟩
  go_wp2_with fail
  go_ret
  exact ⟨ret_bool HS.out.symm, Dk.up_alloc (Below.refl _ _) _⟩

set_option maxHeartbeats 1000000 in
theorem objects_9 (B : Nat) (s : Dk.Sh) (p : Dk.Prg) (w : World) (h : Dk.PrgAt B w s p) (hB : B ≤ w.heap.size) (h0 : Dk.withinB p.words 0 64 = true) (h1 : Dk.withinB p.mutexes 0 4 = true) (h2 : Dk.withinB p.conds 0 4 = true) (h3 : s.sL ≤ 4) (h4 : Dk.allWithinB p.sems 0 1048576 = true) (h5 : s.pL ≤ 4) (h6 : Dk.allWithinB p.pipes 1 8 = true) (h7 : Dk.withinB p.blocks 0 64 = true) (h8 : Dk.withinB p.prio 0 7 = true) :
    Calls Try.prog 21 #[Dk.pv s p] w fun e w' => e = .returned (.bool (Dk.objectsFitB p)) ∧ Below w.heap.size w w' := by
  have HS : Hid (Dk.objectsFitB p = true) := by show _ = true; rw [objects_eq (lens_of h), h0, h1, h2, decide_eq_true h3, h4, decide_eq_true h5, h6, h7, h8]; simp
  go_enter Try.func21, Try.ntmps21
  go_wp2_with fail
  refine (within_any _ _ _ _).mono ?_
  rintro e w' ⟨rfl, rfl⟩
  go_wp2_with fail
  refine (within_any _ _ _ _).mono ?_
  rintro e w' ⟨rfl, rfl⟩
  go_wp2_with fail
  refine (within_any _ _ _ _).mono ?_
  rintro e w' ⟨rfl, rfl⟩
  go_wp2_with fail
  refine (allWithin_any B _ _ _ p.sems _ _ _ (h.sems.below (Dk.up_alloc (Below.refl _ _) _) hB)).mono ?_
  rintro e w' ⟨rfl, rfl⟩
  go_wp2_with fail
  refine (allWithin_any B _ _ _ p.pipes _ _ _ (h.pipes.below (Dk.up_alloc (Below.refl _ _) _) hB)).mono ?_
  rintro e w' ⟨rfl, rfl⟩
  go_wp2_with fail
  refine (within_any _ _ _ _).mono ?_
  rintro e w' ⟨rfl, rfl⟩
  go_wp2_with fail
  refine (within_any _ _ _ _).mono ?_
  rintro e w' ⟨rfl, rfl⟩
  go_wp2_with fail
  go_ret
  exact ⟨ret_bool HS.out.symm, Dk.up_alloc (Below.refl _ _) _⟩

theorem objectsFit_any (B : Nat) (s : Dk.Sh) (p : Dk.Prg) (w : World) (h : Dk.PrgAt B w s p) (hB : B ≤ w.heap.size) :
    Calls Try.prog 21 #[Dk.pv s p] w fun e w' => e = .returned (.bool (Dk.objectsFitB p)) ∧ Below w.heap.size w w' := by
  cases h0 : Dk.withinB p.words 0 64
  · exact objects_0 B s p w h hB h0
  cases h1 : Dk.withinB p.mutexes 0 4
  · exact objects_1 B s p w h hB h0 h1
  cases h2 : Dk.withinB p.conds 0 4
  · exact objects_2 B s p w h hB h0 h1 h2
  by_cases h3' : s.sL ≤ 4
  case neg => exact objects_3 B s p w h hB h0 h1 h2 (by omega)
  have h3 := h3'
  cases h4 : Dk.allWithinB p.sems 0 1048576
  · exact objects_4 B s p w h hB h0 h1 h2 h3 h4
  by_cases h5' : s.pL ≤ 4
  case neg => exact objects_5 B s p w h hB h0 h1 h2 h3 h4 (by omega)
  have h5 := h5'
  cases h6 : Dk.allWithinB p.pipes 1 8
  · exact objects_6 B s p w h hB h0 h1 h2 h3 h4 h5 h6
  cases h7 : Dk.withinB p.blocks 0 64
  · exact objects_7 B s p w h hB h0 h1 h2 h3 h4 h5 h6 h7
  cases h8 : Dk.withinB p.prio 0 7
  · exact objects_8 B s p w h hB h0 h1 h2 h3 h4 h5 h6 h7 h8
  exact objects_9 B s p w h hB h0 h1 h2 h3 h4 h5 h6 h7 h8

set_option maxHeartbeats 1000000 in
theorem check_a (B : Nat) (s : Dk.Sh) (p : Dk.Prg) (w : World) (h : Dk.PrgAt B w s p) (hB : B ≤ w.heap.size) (h1 : Dk.codeFitsB p.funcs = false) :
    Calls Try.prog 11 #[Dk.pv s p] w fun e w' => e = .returned (.int .i64 (Dk.check p)) ∧ Below w.heap.size w w' := by
  have HS : Hid (Dk.check p = 9) := by show _ = 9; unfold Dk.check; rw [h1]; rfl
  go_enter Try.func11, Try.ntmps11
  go_wp2_with fail
  refine (codeFits_any B _ _ _ p.funcs _ (h.funcs.below (Dk.up_alloc (Below.refl _ _) _) hB)).mono ?_
  rintro e w' ⟨rfl, rfl⟩
  go_wp2_with fail
  go_ret
  exact ⟨ret_int HS.out.symm, Dk.up_alloc (Below.refl _ _) _⟩

set_option maxHeartbeats 1000000 in
theorem check_b (B : Nat) (s : Dk.Sh) (p : Dk.Prg) (w : World) (h : Dk.PrgAt B w s p) (hB : B ≤ w.heap.size) (h1 : Dk.codeFitsB p.funcs = true) (h2 : Dk.objectsFitB p = false) :
    Calls Try.prog 11 #[Dk.pv s p] w fun e w' => e = .returned (.int .i64 (Dk.check p)) ∧ Below w.heap.size w w' := by
  have HS : Hid (Dk.check p = 9) := by show _ = 9; unfold Dk.check; rw [h1, h2]; rfl
  go_enter Try.func11, Try.ntmps11
  go_wp2_with fail
  refine (codeFits_any B _ _ _ p.funcs _ (h.funcs.below (Dk.up_alloc (Below.refl _ _) _) hB)).mono ?_
  rintro e w' ⟨rfl, rfl⟩
  go_wp2_with fail
  refine (objectsFit_any B s p _ (h.below (Dk.up_alloc (Below.refl _ _) _) hB) (by simp; omega)).mono ?_
  rintro e w2 ⟨rfl, hb2⟩
  have hbox := Dk.box_cell hb2
  go_wp2_with fail
  go_ret
  exact ⟨ret_int HS.out.symm, Dk.up_call (Dk.up_alloc (Below.refl _ _) _) hb2⟩

set_option maxHeartbeats 1000000 in
theorem check_c (B : Nat) (s : Dk.Sh) (p : Dk.Prg) (w : World) (h : Dk.PrgAt B w s p) (hB : B ≤ w.heap.size) (h1 : Dk.codeFitsB p.funcs = true) (h2 : Dk.objectsFitB p = true) (h3 : Dk.allSoundB p = false) :
    Calls Try.prog 11 #[Dk.pv s p] w fun e w' => e = .returned (.int .i64 (Dk.check p)) ∧ Below w.heap.size w w' := by
  have HS : Hid (Dk.check p = 8) := by show _ = 8; unfold Dk.check; rw [h1, h2, h3]; rfl
  go_enter Try.func11, Try.ntmps11
  go_wp2_with fail
  refine (codeFits_any B _ _ _ p.funcs _ (h.funcs.below (Dk.up_alloc (Below.refl _ _) _) hB)).mono ?_
  rintro e w' ⟨rfl, rfl⟩
  go_wp2_with fail
  refine (objectsFit_any B s p _ (h.below (Dk.up_alloc (Below.refl _ _) _) hB) (by simp; omega)).mono ?_
  rintro e w2 ⟨rfl, hb2⟩
  have hbox := Dk.box_cell hb2
  go_wp2_with fail
  refine (allSound_any B s p _ (h.below (Dk.up_call (Dk.up_alloc (Below.refl _ _) _) hb2) hB) (by have := hb2.size; simp at this; omega)).mono ?_
  rintro e w3 ⟨rfl, hb3⟩
  go_wp2_with fail
  go_ret
  exact ⟨ret_int HS.out.symm, Dk.up_call (Dk.up_call (Dk.up_alloc (Below.refl _ _) _) hb2) hb3⟩

set_option maxHeartbeats 1000000 in
theorem check_d (B : Nat) (s : Dk.Sh) (p : Dk.Prg) (w : World) (h : Dk.PrgAt B w s p) (hB : B ≤ w.heap.size) (h1 : Dk.codeFitsB p.funcs = true) (h2 : Dk.objectsFitB p = true) (h3 : Dk.allSoundB p = true) :
    Calls Try.prog 11 #[Dk.pv s p] w fun e w' => e = .returned (.int .i64 (Dk.check p)) ∧ Below w.heap.size w w' := by
  have HS : Hid (Dk.check p = 0) := by show _ = 0; unfold Dk.check; rw [h1, h2, h3]; rfl
  go_enter Try.func11, Try.ntmps11
  go_wp2_with fail
  refine (codeFits_any B _ _ _ p.funcs _ (h.funcs.below (Dk.up_alloc (Below.refl _ _) _) hB)).mono ?_
  rintro e w' ⟨rfl, rfl⟩
  go_wp2_with fail
  refine (objectsFit_any B s p _ (h.below (Dk.up_alloc (Below.refl _ _) _) hB) (by simp; omega)).mono ?_
  rintro e w2 ⟨rfl, hb2⟩
  have hbox := Dk.box_cell hb2
  go_wp2_with fail
  refine (allSound_any B s p _ (h.below (Dk.up_call (Dk.up_alloc (Below.refl _ _) _) hb2) hB) (by have := hb2.size; simp at this; omega)).mono ?_
  rintro e w3 ⟨rfl, hb3⟩
  go_wp2_with fail
  go_ret
  exact ⟨ret_int HS.out.symm, Dk.up_call (Dk.up_call (Dk.up_alloc (Below.refl _ _) _) hb2) hb3⟩

theorem Check_any (B : Nat) (s : Dk.Sh) (p : Dk.Prg) (w : World) (h : Dk.PrgAt B w s p) (hB : B ≤ w.heap.size) :
    Calls Try.prog 11 #[Dk.pv s p] w fun e w' => e = .returned (.int .i64 (Dk.check p)) ∧ Below w.heap.size w w' := by
  cases h1 : Dk.codeFitsB p.funcs
  · exact check_a B s p w h hB h1
  cases h2 : Dk.objectsFitB p
  · exact check_b B s p w h hB h1 h2
  cases h3 : Dk.allSoundB p
  · exact check_c B s p w h hB h1 h2 h3
  · exact check_d B s p w h hB h1 h2 h3

end Go.Proofs.Ytmapmhcmeokahaa
