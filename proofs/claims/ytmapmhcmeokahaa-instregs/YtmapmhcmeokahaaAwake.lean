/- The walk of the statements' fixed fact. -/
import Derived.Test.YtmapmhcmeokahaaCheck
namespace Go.Proofs.Ytmapmhcmeokahaa
set_option linter.unusedSimpArgs false
set_option linter.unusedVariables false
set_option linter.unnecessarySimpa false
open Go.RowKit

def awakeP (m : Int) : Dk.Prg := ⟨[[⟨1, 7, 0, 0, 9⟩, ⟨25, 0, 0, 0, 0⟩]], 0, m, 0, [], [], 0, 0⟩
def awakeS (n : Nat) : Dk.Sh := ⟨some ⟨n, 0, none⟩, 1, 1, none, 0, 0, none, 0, 0⟩
def awakeE : Dk.Prg := ⟨[], 0, 0, 0, [], [], 0, 0⟩
def awakeN : Dk.Sh := ⟨none, 0, 0, none, 0, 0, none, 0, 0⟩

theorem i64_zero : Dk.i64 0 := by unfold Dk.i64; decide
theorem nilI (B : Nat) (w : World) : Dk.SlI B w none 0 0 [] := ⟨rfl, Nat.le_refl _, Nat.zero_le _, by simp, fun h => absurd h (by omega)⟩

/-- The fixed program, in a world in which its two rows lie. -/
theorem awake_prg (B n : Nat) (m : Int) (w : World) (hm : m = 0 ∨ m = 1) (hB : n + 1 < B) (h1 : ∀ o, w.cell? ⟨n, o, none⟩ = (#[.int .i64 1, .int .i64 7, .int .i64 0, .int .i64 0, .int .u64 9, .int .i64 25, .int .i64 0, .int .i64 0, .int .i64 0, .int .u64 0] : Array Value)[o]?)
    (h2 : ∀ o, w.cell? ⟨n + 1, o, none⟩ = (#[.slice (some ⟨n, 0, none⟩) 2 2] : Array Value)[o]?) : Dk.PrgAt B w (awakeS (n + 1)) (awakeP m) := by
  refine ⟨⟨rfl, Nat.le_refl _, by unfold maxLen; show 1 ≤ _; decide, fun _ => ⟨n + 1, 0, rfl, hB, fun k hk => ?_⟩⟩, nilI _ _, nilI _ _, i64_zero, by unfold Dk.i64; show _ ≤ m ∧ m ≤ _; omega, i64_zero, i64_zero, i64_zero⟩
  have hk0 : k = 0 := by have : k < 1 := hk; omega
  subst hk0
  refine ⟨some ⟨n, 0, none⟩, 2, 2, by rw [h2]; rfl, rfl, Nat.le_refl _, by unfold maxLen; decide, ?_, fun _ => ⟨n, 0, rfl, by omega, fun j hj => ?_⟩⟩
  · intro x hx
    have hx' : x = ⟨1, 7, 0, 0, 9⟩ ∨ x = ⟨25, 0, 0, 0, 0⟩ := by simpa [awakeP] using hx
    rcases hx' with rfl | rfl <;> exact ⟨by unfold Dk.i64; decide, by unfold Dk.i64; decide, by unfold Dk.i64; decide, by unfold Dk.i64; decide, by decide⟩
  · match j, hj with
    | 0, _ => exact ⟨h1 _, h1 _, h1 _, h1 _, h1 _⟩
    | 1, _ => exact ⟨h1 _, h1 _, h1 _, h1 _, h1 _⟩

theorem awake_check1 (B n : Nat) (w : World) (h : Dk.PrgAt B w (awakeS (n + 1)) (awakeP 1)) (hB : B ≤ w.heap.size) :
    Calls Try.prog 11 #[.agg #[.slice (some ⟨n + 1, 0, none⟩) 1 1, .int .i64 0, .int .i64 1, .int .i64 0, .slice none 0 0, .slice none 0 0, .int .i64 0, .int .i64 0]] w fun e w' => e = .returned (.int .i64 0) ∧ Below w.heap.size w w' := by
  have c := Check_any B (awakeS (n + 1)) (awakeP 1) w h hB
  rw [show Dk.check (awakeP 1) = 0 by decide +kernel] at c
  exact c
theorem awake_check0 (B n : Nat) (w : World) (h : Dk.PrgAt B w (awakeS (n + 1)) (awakeP 0)) (hB : B ≤ w.heap.size) :
    Calls Try.prog 11 #[.agg #[.slice (some ⟨n + 1, 0, none⟩) 1 1, .int .i64 0, .int .i64 0, .int .i64 0, .slice none 0 0, .slice none 0 0, .int .i64 0, .int .i64 0]] w fun e w' => e = .returned (.int .i64 8) ∧ Below w.heap.size w w' := by
  have c := Check_any B (awakeS (n + 1)) (awakeP 0) w h hB
  rw [show Dk.check (awakeP 0) = 8 by decide +kernel] at c
  exact c
theorem awake_checkE (w : World) :
    Calls Try.prog 11 #[.agg #[.slice none 0 0, .int .i64 0, .int .i64 0, .int .i64 0, .slice none 0 0, .slice none 0 0, .int .i64 0, .int .i64 0]] w fun e w' => e = .returned (.int .i64 9) ∧ Below w.heap.size w w' := by
  have c := Check_any 0 awakeN awakeE w ⟨⟨rfl, Nat.le_refl _, Nat.zero_le _, fun h => absurd h (Nat.lt_irrefl 0)⟩, nilI _ _, nilI _ _, by unfold Dk.i64; decide, by unfold Dk.i64; decide, by unfold Dk.i64; decide, by unfold Dk.i64; decide, by unfold Dk.i64; decide⟩ (Nat.zero_le _)
  rw [show Dk.check awakeE = 9 by decide +kernel] at c
  exact c
theorem awake_class (w : World) : Calls Try.prog 13 #[.int .i64 24] w fun e w' => e = .returned (.int .i64 2) ∧ w' = w := by
  have c := class_any 24 w
  rw [show Dk.classOf 24 = 2 by decide +kernel] at c
  exact c
theorem awake_seen (w : World) : Calls Try.prog 14 #[.int .i64 18] w fun e w' => e = .returned (.bool true) ∧ w' = w := by
  have c := seen_any 18 w
  rw [show Dk.seenB 18 = true by decide +kernel] at c
  exact c
theorem awake_unseen (w : World) : Calls Try.prog 14 #[.int .i64 17] w fun e w' => e = .returned (.bool false) ∧ w' = w := by
  have c := seen_any 17 w
  rw [show Dk.seenB 17 = false by decide +kernel] at c
  exact c
theorem awake_sound (B n : Nat) (w : World) (h : Dk.PrgAt B w (awakeS (n + 1)) (awakeP 1)) :
    Calls Try.prog 9 #[.agg #[.slice (some ⟨n + 1, 0, none⟩) 1 1, .int .i64 0, .int .i64 1, .int .i64 0, .slice none 0 0, .slice none 0 0, .int .i64 0, .int .i64 0], .agg #[.int .i64 1, .int .i64 8, .int .i64 0, .int .i64 0, .int .u64 0]] w fun e w' => e = .returned (.bool false) ∧ Below w.heap.size w w' := by
  have c := Sound_any (awakeS (n + 1)) (awakeP 1) ⟨1, 8, 0, 0, 0⟩ w (lens_of h) h.ok
  rw [show Dk.soundB (awakeP 1) ⟨1, 8, 0, 0, 0⟩ = false by decide +kernel] at c
  exact c

set_option maxHeartbeats 1000000 in
theorem awake_any (w : World) :
    Calls Try.prog 8 #[] w fun e w' => e = .returned (.bool true) ∧ Below w.heap.size w w' := by
  obtain ⟨W1, e1⟩ : ∃ W1, W1 = w.alloc (.cells #[.int .i64 1, .int .i64 7, .int .i64 0, .int .i64 0, .int .u64 9, .int .i64 25, .int .i64 0, .int .i64 0, .int .i64 0, .int .u64 0] 28) := ⟨_, rfl⟩
  obtain ⟨W2, e2⟩ : ∃ W2, W2 = W1.alloc (.cells #[.slice (some ⟨w.heap.size, 0, none⟩) 2 2] 36) := ⟨_, rfl⟩
  obtain ⟨W3, e3⟩ : ∃ W3, W3 = W2.alloc (.cells #[.slice (some ⟨w.heap.size + 1, 0, none⟩) 1 1, .int .i64 0, .int .i64 1, .int .i64 0, .slice none 0 0, .slice none 0 0, .int .i64 0, .int .i64 0] 25) := ⟨_, rfl⟩
  obtain ⟨W4, e4⟩ : ∃ W4, W4 = W3.alloc (.cells #[.slice (some ⟨w.heap.size + 1, 0, none⟩) 1 1, .int .i64 0, .int .i64 0, .int .i64 0, .slice none 0 0, .slice none 0 0, .int .i64 0, .int .i64 0] 25) := ⟨_, rfl⟩
  have z1 : W1.heap.size = w.heap.size + 1 := by rw [e1]; simp
  have z2 : W2.heap.size = w.heap.size + 1 + 1 := by rw [e2]; simp [z1]
  have z3 : W3.heap.size = w.heap.size + 1 + 1 + 1 := by rw [e3]; simp [z2]
  have z4 : W4.heap.size = w.heap.size + 1 + 1 + 1 + 1 := by rw [e4]; simp [z3]
  have u1 : Below w.heap.size w W1 := by rw [e1]; exact Dk.up_alloc (Below.refl _ _) _
  have u2 : Below W1.heap.size W1 W2 := by rw [e2]; exact Dk.up_alloc (Below.refl _ _) _
  have u3 : Below W2.heap.size W2 W3 := by rw [e3]; exact Dk.up_alloc (Below.refl _ _) _
  have u4 : Below W3.heap.size W3 W4 := by rw [e4]; exact Dk.up_alloc (Below.refl _ _) _
  have fact : ∀ w', Below W4.heap.size W4 w' → Below w.heap.size w w' ∧ (∀ m, m = 0 ∨ m = 1 → Dk.PrgAt (w.heap.size + 1 + 1) w' (awakeS (w.heap.size + 1)) (awakeP m)) ∧
      (∀ o, w'.cell? ⟨w.heap.size + 1 + 1, o, none⟩ = (#[.slice (some ⟨w.heap.size + 1, 0, none⟩) 1 1, .int .i64 0, .int .i64 1, .int .i64 0, .slice none 0 0, .slice none 0 0, .int .i64 0, .int .i64 0] : Array Value)[o]?) ∧
      (∀ o, w'.cell? ⟨w.heap.size + 1 + 1 + 1, o, none⟩ = (#[.slice (some ⟨w.heap.size + 1, 0, none⟩) 1 1, .int .i64 0, .int .i64 0, .int .i64 0, .slice none 0 0, .slice none 0 0, .int .i64 0, .int .i64 0] : Array Value)[o]?) ∧ w.heap.size + 1 + 1 ≤ w'.heap.size := by
    intro w' hb
    have b3 : Below W3.heap.size W3 w' := Dk.up_call u4 hb
    have b2 : Below W2.heap.size W2 w' := Dk.up_call u3 b3
    have b1 : Below W1.heap.size W1 w' := Dk.up_call u2 b2
    have b0 : Below w.heap.size w w' := Dk.up_call u1 b1
    have c1 := b1; rw [e1] at c1
    have c2 := b2; rw [e2] at c2
    have c3 := b3; rw [e3] at c3
    have c4 := hb; rw [e4] at c4
    have d1 := Dk.box_cell c1
    have d2 := Dk.box_cell c2
    have d3 := Dk.box_cell c3
    have d4 := Dk.box_cell c4
    rw [z1] at d2
    rw [z2] at d3
    rw [z3] at d4
    refine ⟨b0, fun m hm => awake_prg _ w.heap.size m w' hm (by omega) d1 d2, d3, d4, ?_⟩
    have := b2.size; omega
  clear u1 u2 u3 u4 z1 z2 z3 z4
  have HF : Hid _ := fact
  clear fact
  go_enter Try.func8, Try.ntmps8
  go_wp2_with fail
  rw [← e1, ← e2, ← e3, ← e4]
  obtain ⟨f0, f1, f2, f3, f4⟩ := HF.out W4 (Below.refl _ _)
  clear e1 e2 e3 e4
  refine (awake_check1 _ _ _ (f1 1 (.inr rfl)) f4).mono ?_
  rintro e w5 ⟨rfl, hb5⟩
  obtain ⟨f0, f1, f2, f3, f4⟩ := HF.out w5 hb5
  go_wp2_with fail
  refine (awake_check0 _ _ _ (f1 0 (.inl rfl)) f4).mono ?_
  rintro e w6 ⟨rfl, hb6⟩
  have hb6' := Dk.up_call hb5 hb6
  obtain ⟨f0, f1, f2, f3, f4⟩ := HF.out w6 hb6'
  go_wp2_with fail
  refine (awake_checkE _).mono ?_
  rintro e w7 ⟨rfl, hb7⟩
  have hb7' := Dk.up_call hb6' hb7
  obtain ⟨f0, f1, f2, f3, f4⟩ := HF.out w7 hb7'
  go_wp2_with fail
  refine (awake_class _).mono ?_
  rintro e w' ⟨rfl, rfl⟩
  go_wp2_with fail
  refine (awake_sound _ _ _ (f1 1 (.inr rfl))).mono ?_
  rintro e w8 ⟨rfl, hb8⟩
  have hb8' := Dk.up_call hb7' hb8
  go_wp2_with fail
  refine (awake_seen _).mono ?_
  rintro e w' ⟨rfl, rfl⟩
  go_wp2_with fail
  refine (awake_unseen _).mono ?_
  rintro e w' ⟨rfl, rfl⟩
  go_wp2_with fail
  go_ret
  exact ⟨rfl, (HF.out _ hb8').1⟩

end Go.Proofs.Ytmapmhcmeokahaa
