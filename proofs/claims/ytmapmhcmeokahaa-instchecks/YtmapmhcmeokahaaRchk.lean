/- The walk of the document's own answer on programs. -/
import Derived.Test.YtmapmhcmeokahaaCheck
import Derived.Test.YtmapmhcmeokahaaRef
import Derived.Test.YtmapmhcmeokahaaUp
namespace Go.Proofs.Ytmapmhcmeokahaa
set_option linter.unusedSimpArgs false
set_option linter.unusedVariables false
set_option linter.unnecessarySimpa false
open Go.RowKit

/-- What is asked ahead of the lists. -/
structure Fine (s : Dk.Sh) (p : Dk.Prg) : Prop where
  f0 : s.fL ≠ 0
  f1 : s.fL ≤ 8
  w0 : 0 ≤ p.words
  w1 : p.words ≤ 64
  m0 : 0 ≤ p.mutexes
  m1 : p.mutexes ≤ 4
  c0 : 0 ≤ p.conds
  c1 : p.conds ≤ 4
  s1 : s.sL ≤ 4
  p1 : s.pL ≤ 4
  b0 : 0 ≤ p.blocks
  b1 : p.blocks ≤ 64
  r0 : 0 ≤ p.prio
  r1 : p.prio ≤ 7

theorem check_nine {p : Dk.Prg} (h : (Dk.codeFitsB p.funcs && Dk.objectsFitB p) = false) : Dk.check p = 9 := by unfold Dk.check; rw [if_pos h]
theorem check_not_fine {s : Dk.Sh} {p : Dk.Prg} (hs : Lens s p) (h : ¬ Fine s p) : Dk.check p = 9 := by
  apply check_nine
  rw [← Bool.not_eq_true]
  intro hc
  apply h
  rw [Bool.and_eq_true, objects_eq hs] at hc
  unfold Dk.codeFitsB Dk.withinB at hc
  rw [hs.ef] at hc
  simp only [Bool.and_eq_true, decide_eq_true_eq] at hc
  exact ⟨by omega, by omega, by omega, by omega, by omega, by omega, by omega, by omega, by omega, by omega, by omega, by omega, by omega, by omega⟩

set_option maxRecDepth 100000 in
set_option maxHeartbeats 1000000 in
theorem rchk_0 (s : Dk.Sh) (p : Dk.Prg) (w : World) (HR : Hid (Dk.check p = 9))  (h0 : ((s.fL : Int) == 0) = true) :
    Calls Try.prog 12 #[Dk.pv s p] w fun e w' => e = .returned (.int .i64 (Dk.check p)) ∧ Below w.heap.size w w' := by
  go_enter Try.func12, Try.ntmps12
  dsimp only [List.append]
  go_wp2_with fail
  go_ret
  exact ⟨ret_int HR.out.symm, Dk.up_alloc (Below.refl _ _) _⟩

set_option maxRecDepth 100000 in
set_option maxHeartbeats 1000000 in
theorem rchk_1 (s : Dk.Sh) (p : Dk.Prg) (w : World) (HR : Hid (Dk.check p = 9)) (h0 : ((s.fL : Int) == 0) = false) (h1 : 8 < s.fL) :
    Calls Try.prog 12 #[Dk.pv s p] w fun e w' => e = .returned (.int .i64 (Dk.check p)) ∧ Below w.heap.size w w' := by
  go_enter Try.func12, Try.ntmps12
  dsimp only [List.append]
  go_wp2_with fail
  go_ret
  exact ⟨ret_int HR.out.symm, Dk.up_alloc (Below.refl _ _) _⟩

set_option maxRecDepth 100000 in
set_option maxHeartbeats 1000000 in
theorem rchk_2 (s : Dk.Sh) (p : Dk.Prg) (w : World) (HR : Hid (Dk.check p = 9)) (h0 : ((s.fL : Int) == 0) = false) (h1 : ¬ 8 < s.fL) (h2 : p.words < 0) :
    Calls Try.prog 12 #[Dk.pv s p] w fun e w' => e = .returned (.int .i64 (Dk.check p)) ∧ Below w.heap.size w w' := by
  go_enter Try.func12, Try.ntmps12
  dsimp only [List.append]
  go_wp2_with fail
  go_ret
  exact ⟨ret_int HR.out.symm, Dk.up_alloc (Below.refl _ _) _⟩

set_option maxRecDepth 100000 in
set_option maxHeartbeats 1000000 in
theorem rchk_3 (s : Dk.Sh) (p : Dk.Prg) (w : World) (HR : Hid (Dk.check p = 9)) (h0 : ((s.fL : Int) == 0) = false) (h1 : ¬ 8 < s.fL) (h2 : ¬ p.words < 0) (h3 : 64 < p.words) :
    Calls Try.prog 12 #[Dk.pv s p] w fun e w' => e = .returned (.int .i64 (Dk.check p)) ∧ Below w.heap.size w w' := by
  go_enter Try.func12, Try.ntmps12
  dsimp only [List.append]
  go_wp2_with fail
  go_ret
  exact ⟨ret_int HR.out.symm, Dk.up_alloc (Below.refl _ _) _⟩

set_option maxRecDepth 100000 in
set_option maxHeartbeats 1000000 in
theorem rchk_4 (s : Dk.Sh) (p : Dk.Prg) (w : World) (HR : Hid (Dk.check p = 9)) (h0 : ((s.fL : Int) == 0) = false) (h1 : ¬ 8 < s.fL) (h2 : ¬ p.words < 0) (h3 : ¬ 64 < p.words) (h4 : p.mutexes < 0) :
    Calls Try.prog 12 #[Dk.pv s p] w fun e w' => e = .returned (.int .i64 (Dk.check p)) ∧ Below w.heap.size w w' := by
  go_enter Try.func12, Try.ntmps12
  dsimp only [List.append]
  go_wp2_with fail
  go_ret
  exact ⟨ret_int HR.out.symm, Dk.up_alloc (Below.refl _ _) _⟩

set_option maxRecDepth 100000 in
set_option maxHeartbeats 1000000 in
theorem rchk_5 (s : Dk.Sh) (p : Dk.Prg) (w : World) (HR : Hid (Dk.check p = 9)) (h0 : ((s.fL : Int) == 0) = false) (h1 : ¬ 8 < s.fL) (h2 : ¬ p.words < 0) (h3 : ¬ 64 < p.words) (h4 : ¬ p.mutexes < 0) (h5 : 4 < p.mutexes) :
    Calls Try.prog 12 #[Dk.pv s p] w fun e w' => e = .returned (.int .i64 (Dk.check p)) ∧ Below w.heap.size w w' := by
  go_enter Try.func12, Try.ntmps12
  dsimp only [List.append]
  go_wp2_with fail
  go_ret
  exact ⟨ret_int HR.out.symm, Dk.up_alloc (Below.refl _ _) _⟩

set_option maxRecDepth 100000 in
set_option maxHeartbeats 1000000 in
theorem rchk_6 (s : Dk.Sh) (p : Dk.Prg) (w : World) (HR : Hid (Dk.check p = 9)) (h0 : ((s.fL : Int) == 0) = false) (h1 : ¬ 8 < s.fL) (h2 : ¬ p.words < 0) (h3 : ¬ 64 < p.words) (h4 : ¬ p.mutexes < 0) (h5 : ¬ 4 < p.mutexes) (h6 : p.conds < 0) :
    Calls Try.prog 12 #[Dk.pv s p] w fun e w' => e = .returned (.int .i64 (Dk.check p)) ∧ Below w.heap.size w w' := by
  go_enter Try.func12, Try.ntmps12
  dsimp only [List.append]
  go_wp2_with fail
  go_ret
  exact ⟨ret_int HR.out.symm, Dk.up_alloc (Below.refl _ _) _⟩

set_option maxRecDepth 100000 in
set_option maxHeartbeats 1000000 in
theorem rchk_7 (s : Dk.Sh) (p : Dk.Prg) (w : World) (HR : Hid (Dk.check p = 9)) (h0 : ((s.fL : Int) == 0) = false) (h1 : ¬ 8 < s.fL) (h2 : ¬ p.words < 0) (h3 : ¬ 64 < p.words) (h4 : ¬ p.mutexes < 0) (h5 : ¬ 4 < p.mutexes) (h6 : ¬ p.conds < 0) (h7 : 4 < p.conds) :
    Calls Try.prog 12 #[Dk.pv s p] w fun e w' => e = .returned (.int .i64 (Dk.check p)) ∧ Below w.heap.size w w' := by
  go_enter Try.func12, Try.ntmps12
  dsimp only [List.append]
  go_wp2_with fail
  go_ret
  exact ⟨ret_int HR.out.symm, Dk.up_alloc (Below.refl _ _) _⟩

set_option maxRecDepth 100000 in
set_option maxHeartbeats 1000000 in
theorem rchk_8 (s : Dk.Sh) (p : Dk.Prg) (w : World) (HR : Hid (Dk.check p = 9)) (h0 : ((s.fL : Int) == 0) = false) (h1 : ¬ 8 < s.fL) (h2 : ¬ p.words < 0) (h3 : ¬ 64 < p.words) (h4 : ¬ p.mutexes < 0) (h5 : ¬ 4 < p.mutexes) (h6 : ¬ p.conds < 0) (h7 : ¬ 4 < p.conds) (h8 : 4 < s.sL) :
    Calls Try.prog 12 #[Dk.pv s p] w fun e w' => e = .returned (.int .i64 (Dk.check p)) ∧ Below w.heap.size w w' := by
  go_enter Try.func12, Try.ntmps12
  dsimp only [List.append]
  go_wp2_with fail
  go_ret
  exact ⟨ret_int HR.out.symm, Dk.up_alloc (Below.refl _ _) _⟩

set_option maxRecDepth 100000 in
set_option maxHeartbeats 1000000 in
theorem rchk_9 (s : Dk.Sh) (p : Dk.Prg) (w : World) (HR : Hid (Dk.check p = 9)) (h0 : ((s.fL : Int) == 0) = false) (h1 : ¬ 8 < s.fL) (h2 : ¬ p.words < 0) (h3 : ¬ 64 < p.words) (h4 : ¬ p.mutexes < 0) (h5 : ¬ 4 < p.mutexes) (h6 : ¬ p.conds < 0) (h7 : ¬ 4 < p.conds) (h8 : ¬ 4 < s.sL) (h9 : 4 < s.pL) :
    Calls Try.prog 12 #[Dk.pv s p] w fun e w' => e = .returned (.int .i64 (Dk.check p)) ∧ Below w.heap.size w w' := by
  go_enter Try.func12, Try.ntmps12
  dsimp only [List.append]
  go_wp2_with fail
  go_ret
  exact ⟨ret_int HR.out.symm, Dk.up_alloc (Below.refl _ _) _⟩

set_option maxRecDepth 100000 in
set_option maxHeartbeats 1000000 in
theorem rchk_10 (s : Dk.Sh) (p : Dk.Prg) (w : World) (HR : Hid (Dk.check p = 9)) (h0 : ((s.fL : Int) == 0) = false) (h1 : ¬ 8 < s.fL) (h2 : ¬ p.words < 0) (h3 : ¬ 64 < p.words) (h4 : ¬ p.mutexes < 0) (h5 : ¬ 4 < p.mutexes) (h6 : ¬ p.conds < 0) (h7 : ¬ 4 < p.conds) (h8 : ¬ 4 < s.sL) (h9 : ¬ 4 < s.pL) (h10 : p.blocks < 0) :
    Calls Try.prog 12 #[Dk.pv s p] w fun e w' => e = .returned (.int .i64 (Dk.check p)) ∧ Below w.heap.size w w' := by
  go_enter Try.func12, Try.ntmps12
  dsimp only [List.append]
  go_wp2_with fail
  go_ret
  exact ⟨ret_int HR.out.symm, Dk.up_alloc (Below.refl _ _) _⟩

set_option maxRecDepth 100000 in
set_option maxHeartbeats 1000000 in
theorem rchk_11 (s : Dk.Sh) (p : Dk.Prg) (w : World) (HR : Hid (Dk.check p = 9)) (h0 : ((s.fL : Int) == 0) = false) (h1 : ¬ 8 < s.fL) (h2 : ¬ p.words < 0) (h3 : ¬ 64 < p.words) (h4 : ¬ p.mutexes < 0) (h5 : ¬ 4 < p.mutexes) (h6 : ¬ p.conds < 0) (h7 : ¬ 4 < p.conds) (h8 : ¬ 4 < s.sL) (h9 : ¬ 4 < s.pL) (h10 : ¬ p.blocks < 0) (h11 : 64 < p.blocks) :
    Calls Try.prog 12 #[Dk.pv s p] w fun e w' => e = .returned (.int .i64 (Dk.check p)) ∧ Below w.heap.size w w' := by
  go_enter Try.func12, Try.ntmps12
  dsimp only [List.append]
  go_wp2_with fail
  go_ret
  exact ⟨ret_int HR.out.symm, Dk.up_alloc (Below.refl _ _) _⟩

set_option maxRecDepth 100000 in
set_option maxHeartbeats 1000000 in
theorem rchk_12 (s : Dk.Sh) (p : Dk.Prg) (w : World) (HR : Hid (Dk.check p = 9)) (h0 : ((s.fL : Int) == 0) = false) (h1 : ¬ 8 < s.fL) (h2 : ¬ p.words < 0) (h3 : ¬ 64 < p.words) (h4 : ¬ p.mutexes < 0) (h5 : ¬ 4 < p.mutexes) (h6 : ¬ p.conds < 0) (h7 : ¬ 4 < p.conds) (h8 : ¬ 4 < s.sL) (h9 : ¬ 4 < s.pL) (h10 : ¬ p.blocks < 0) (h11 : ¬ 64 < p.blocks) (h12 : p.prio < 0) :
    Calls Try.prog 12 #[Dk.pv s p] w fun e w' => e = .returned (.int .i64 (Dk.check p)) ∧ Below w.heap.size w w' := by
  go_enter Try.func12, Try.ntmps12
  dsimp only [List.append]
  go_wp2_with fail
  go_ret
  exact ⟨ret_int HR.out.symm, Dk.up_alloc (Below.refl _ _) _⟩

set_option maxRecDepth 100000 in
set_option maxHeartbeats 1000000 in
theorem rchk_13 (s : Dk.Sh) (p : Dk.Prg) (w : World) (HR : Hid (Dk.check p = 9)) (h0 : ((s.fL : Int) == 0) = false) (h1 : ¬ 8 < s.fL) (h2 : ¬ p.words < 0) (h3 : ¬ 64 < p.words) (h4 : ¬ p.mutexes < 0) (h5 : ¬ 4 < p.mutexes) (h6 : ¬ p.conds < 0) (h7 : ¬ 4 < p.conds) (h8 : ¬ 4 < s.sL) (h9 : ¬ 4 < s.pL) (h10 : ¬ p.blocks < 0) (h11 : ¬ 64 < p.blocks) (h12 : ¬ p.prio < 0) (h13 : 7 < p.prio) :
    Calls Try.prog 12 #[Dk.pv s p] w fun e w' => e = .returned (.int .i64 (Dk.check p)) ∧ Below w.heap.size w w' := by
  go_enter Try.func12, Try.ntmps12
  dsimp only [List.append]
  go_wp2_with fail
  go_ret
  exact ⟨ret_int HR.out.symm, Dk.up_alloc (Below.refl _ _) _⟩

theorem rcheck_not (s : Dk.Sh) (p : Dk.Prg) (w : World) (hs : Lens s p) (h : ¬ Fine s p) :
    Calls Try.prog 12 #[Dk.pv s p] w fun e w' => e = .returned (.int .i64 (Dk.check p)) ∧ Below w.heap.size w w' := by
  have HR : Hid (Dk.check p = 9) := check_not_fine hs h
  by_cases h0' : s.fL = 0
  · exact rchk_0 s p w HR (by rw [h0']; rfl)
  have h0 : ((s.fL : Int) == 0) = false := by rw [beq_eq_false_iff_ne]; omega
  by_cases h1 : 8 < s.fL
  · exact rchk_1 s p w HR h0 h1
  by_cases h2 : p.words < 0
  · exact rchk_2 s p w HR h0 h1 h2
  by_cases h3 : 64 < p.words
  · exact rchk_3 s p w HR h0 h1 h2 h3
  by_cases h4 : p.mutexes < 0
  · exact rchk_4 s p w HR h0 h1 h2 h3 h4
  by_cases h5 : 4 < p.mutexes
  · exact rchk_5 s p w HR h0 h1 h2 h3 h4 h5
  by_cases h6 : p.conds < 0
  · exact rchk_6 s p w HR h0 h1 h2 h3 h4 h5 h6
  by_cases h7 : 4 < p.conds
  · exact rchk_7 s p w HR h0 h1 h2 h3 h4 h5 h6 h7
  by_cases h8 : 4 < s.sL
  · exact rchk_8 s p w HR h0 h1 h2 h3 h4 h5 h6 h7 h8
  by_cases h9 : 4 < s.pL
  · exact rchk_9 s p w HR h0 h1 h2 h3 h4 h5 h6 h7 h8 h9
  by_cases h10 : p.blocks < 0
  · exact rchk_10 s p w HR h0 h1 h2 h3 h4 h5 h6 h7 h8 h9 h10
  by_cases h11 : 64 < p.blocks
  · exact rchk_11 s p w HR h0 h1 h2 h3 h4 h5 h6 h7 h8 h9 h10 h11
  by_cases h12 : p.prio < 0
  · exact rchk_12 s p w HR h0 h1 h2 h3 h4 h5 h6 h7 h8 h9 h10 h11 h12
  by_cases h13 : 7 < p.prio
  · exact rchk_13 s p w HR h0 h1 h2 h3 h4 h5 h6 h7 h8 h9 h10 h11 h12 h13
  exact absurd ⟨h0', by omega, by omega, by omega, by omega, by omega, by omega, by omega, by omega, by omega, by omega, by omega, by omega, by omega⟩ h

end Go.Proofs.Ytmapmhcmeokahaa
