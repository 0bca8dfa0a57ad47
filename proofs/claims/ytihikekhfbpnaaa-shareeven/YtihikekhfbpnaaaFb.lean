/- What the functions of layer 12 answer: the rest, what may be asked, who has a priority. -/
import Derived.Test.YtihikekhfbpnaaaBx
import Derived.Test.YtihikekhfbpnaaaFa
import Derived.Test.YtihikekhfbpnaaaUp
import Derived.Test.YtihikekhfbpnaaaChecked
import Derived.WalkSpells
import Derived.WalkLawsBesides
import Derived.Deep.Draws
namespace Dk
set_option linter.unusedSimpArgs false
set_option linter.unusedVariables false
set_option linter.unnecessarySimpa false
open Go Go.RowKit

theorem tmod_le (k : Int) {n : Nat} (h : 0 < n) : -(n : Int) < k.tmod n ∧ k.tmod n < n := by
  have h1 := Int.tmod_lt_of_pos k (show (0 : Int) < n by omega)
  have h2 := Int.lt_tmod_of_pos k (show (0 : Int) < n by omega)
  exact ⟨h2, h1⟩
theorem tmod_emod (k : Int) (n : Nat) : (k.tmod n) % (n : Int) = k % (n : Int) := by
  have h := Int.tmod_add_mul_tdiv k n
  conv => rhs; rw [← h]
  rw [Int.add_mul_emod_self_left]
theorem turn_eq (k : Int) {n : Nat} (h : 0 < n) : (turnOf k n : Int) = k % (n : Int) := by
  unfold turnOf
  have h1 := Int.emod_nonneg k (show (n : Int) ≠ 0 by omega)
  omega
theorem turn_nth (k : Int) {n : Nat} (h : 0 < n) (i : Nat) : (k.tmod n + n + i) % (n : Int) = ((nth (turnOf k n) n i : Nat) : Int) := by
  unfold nth
  rw [Int.natCast_emod, Int.natCast_add, turn_eq k h, Int.emod_add_emod, ← Int.emod_add_emod (k.tmod n + n), Int.add_emod_right, tmod_emod, Int.emod_add_emod]
theorem turn_neg (k : Int) {n : Nat} (h : 0 < n) (hq : k.tmod n < 0) : k.tmod n + n = (turnOf k n : Int) := by
  rw [turn_eq k h, ← tmod_emod k n, ← Int.add_emod_right, Int.emod_eq_of_lt]
  · have := (tmod_le k h).1; omega
  · omega
theorem turn_pos (k : Int) {n : Nat} (h : 0 < n) (hq : ¬ k.tmod n < 0) : k.tmod n = (turnOf k n : Int) := by
  rw [turn_eq k h, ← tmod_emod k n, Int.emod_eq_of_lt (by omega)]
  exact (tmod_le k h).2

/-- May that be asked? -/
def Ask (procs : Int) (n : Nat) (prio : List Int) : Prop := prio.length = n ∧ n ≤ 8 ∧ 0 ≤ procs ∧ procs ≤ 64 ∧ ∀ j, j < n → 0 ≤ prio.getD j 0 ∧ prio.getD j 0 ≤ 7

theorem sli_at {B : Nat} {w : World} {A : Option Addr} {L C : Nat} {xs : List Int} (h : SlI B w A L C xs) (k : Nat) (hk : k < L) : i64 (xs.getD k 0) := by
  have hl := h.len
  have e : xs.getD k 0 = xs[k]'(by omega) := by simp [List.getD, hl, hk]
  rw [e]
  exact h.wf _ (List.getElem_mem _)
end Dk
namespace Go.Proofs.Ytihikekhfbpnaaa
set_option linter.unusedSimpArgs false
set_option linter.unusedVariables false
set_option linter.unnecessarySimpa false
open Go.RowKit

theorem rest_any (turn : Int) (ht : Dk.i64 turn) (n i : Nat) (hn : i < n) (h8 : n ≤ 8) (w : World) :
    Calls Try.prog 14 #[.int .i64 turn, .int .i64 (i : Int), .int .i64 (n : Int)] w fun e w' => e = .returned (.int .i64 ((Dk.nth (Dk.turnOf turn n) n i : Nat) : Int)) ∧ w' = w := by
  have q1 := Dk.tmod_le turn (n := n) (by omega)
  have q2 := Dk.turn_nth turn (n := n) (by omega) i
  obtain ⟨ht1, ht2⟩ := ht
  have hm := Dk.nth_lt (f := Dk.turnOf turn n) (n := n) i (by omega)
  generalize Dk.nth (Dk.turnOf turn n) n i = m at q2 hm ⊢
  obtain ⟨q, eq⟩ : ∃ q, turn.tmod (n : Int) = q := ⟨_, rfl⟩
  rw [eq] at q1 q2
  obtain ⟨q3, q4⟩ := q1
  have hnn : (n : Int) ≠ 0 := by omega
  have hn0 : ¬ n = 0 := by omega
  go_enter Try.func14, Try.ntmps14
  go_wp2
  go_ret
  refine ⟨?_, rfl⟩
  show Ending.returned (.int .i64 ((q + n + i) % n)) = _
  rw [q2]

theorem sound_1 (procs : Int) (hp : Dk.i64 procs) (A A' : Option Addr) (n C m C' : Nat) (hm : m ≠ n) (w : World) :
    Calls Try.prog 11 #[.int .i64 procs, .slice A n C, .slice A' m C'] w fun e w' => e = .returned (.bool false) ∧ w' = w := by
  have y1 : ((m : Int) != (n : Int)) = true := by simp; omega
  go_enter Try.func11, Try.ntmps11
  go_wp2
  go_ret
  exact ⟨rfl, rfl⟩
theorem sound_2 (procs : Int) (hp : Dk.i64 procs) (A A' : Option Addr) (n C C' : Nat) (h8 : 8 < n) (w : World) :
    Calls Try.prog 11 #[.int .i64 procs, .slice A n C, .slice A' n C'] w fun e w' => e = .returned (.bool false) ∧ w' = w := by
  have y1 : ((n : Int) != (n : Int)) = false := by simp
  go_enter Try.func11, Try.ntmps11
  go_wp2
  go_ret
  exact ⟨rfl, rfl⟩
theorem sound_3 (procs : Int) (hp : Dk.i64 procs) (A A' : Option Addr) (n C C' : Nat) (h8 : n ≤ 8) (h0 : procs < 0) (w : World) :
    Calls Try.prog 11 #[.int .i64 procs, .slice A n C, .slice A' n C'] w fun e w' => e = .returned (.bool false) ∧ w' = w := by
  have y1 : ((n : Int) != (n : Int)) = false := by simp
  go_enter Try.func11, Try.ntmps11
  go_wp2
  go_ret
  exact ⟨rfl, rfl⟩
theorem sound_4 (procs : Int) (hp : Dk.i64 procs) (A A' : Option Addr) (n C C' : Nat) (h8 : n ≤ 8) (h0 : 0 ≤ procs) (h64 : 64 < procs) (w : World) :
    Calls Try.prog 11 #[.int .i64 procs, .slice A n C, .slice A' n C'] w fun e w' => e = .returned (.bool false) ∧ w' = w := by
  have y1 : ((n : Int) != (n : Int)) = false := by simp
  go_enter Try.func11, Try.ntmps11
  go_wp2
  go_ret
  exact ⟨rfl, rfl⟩
theorem sound_5 (procs : Int) (hp : Dk.i64 procs) (A A' : Option Addr) (n C C' : Nat) (xs : List Int) (h8 : n ≤ 8) (h0 : 0 ≤ procs) (h64 : procs ≤ 64) (w : World) (h : Dk.SlI w.heap.size w A' n C' xs) :
    Calls Try.prog 11 #[.int .i64 procs, .slice A n C, .slice A' n C'] w fun e w' => (e = .returned (.bool true) ∧ Dk.Ask procs n xs ∨ e = .returned (.bool false) ∧ ¬ Dk.Ask procs n xs) ∧ Below w.heap.size w w' := by
  have y1 : ((n : Int) != (n : Int)) = false := by simp
  have hl := h.len
  go_enter Try.func11, Try.ntmps11
  go_wp2
  go_loopw [29] (fun i w' => ∃ k : Nat, k ≤ n ∧ i = .int .i64 k ∧ Hid (∀ j, j < k → 0 ≤ xs.getD j 0 ∧ xs.getD j 0 ≤ 7) ∧ Hid (Below w.heap.size w w')) (fun i w' => n - (intOf i).toNat)
  case atStart => exact ⟨0, Nat.zero_le _, rfl, fun j hj => absurd hj (by omega), Below.refl _ _⟩
  case round =>
    obtain ⟨k, hk, rfl, HK, HB⟩ := hrel
    by_cases hlt : k < n
    · obtain ⟨b, o, rfl, hb, hc⟩ := h.cells (by omega)
      have c1 : wr.cell? ⟨b, o + k, none⟩ = some (.int .i64 (xs.getD k 0)) := by rw [HB.out.cell (by show b < w.heap.size; exact hb)]; exact hc k hlt
      have hv := Dk.sli_at h k hlt
      obtain ⟨v, ev⟩ : ∃ v, xs.getD k 0 = v := ⟨_, rfl⟩
      rw [ev] at c1 hv
      have HV : Hid _ := ev
      obtain ⟨hv1, hv2⟩ := hv
      clear hc h ev
      by_cases hv0 : v < 0
      · go_wp2
        go_ret
        exact ⟨.inr ⟨rfl, fun hA => by have := hA.2.2.2.2 k hlt; have := HV.out; omega⟩, HB.out⟩
      · by_cases hv7 : 7 < v
        · go_wp2
          go_ret
          exact ⟨.inr ⟨rfl, fun hA => by have := hA.2.2.2.2 k hlt; have := HV.out; omega⟩, HB.out⟩
        · go_wp2
          go_roundw
          case rel => exact ⟨k + 1, by omega, by go_num, fun j hj => if e : j = k then by rw [e, HV.out]; omega else HK.out j (by omega), HB.out⟩
          case measure => simp [intOf]; omega
    · go_wp2
      go_ret
      exact ⟨.inl ⟨rfl, hl, h8, h0, h64, fun j hj => HK.out j (by omega)⟩, HB.out⟩

/-- May that be asked? -/
theorem sound_any (procs : Int) (hp : Dk.i64 procs) (A A' : Option Addr) (n C m C' : Nat) (xs : List Int) (w : World) (h : Dk.SlI w.heap.size w A' m C' xs) :
    Calls Try.prog 11 #[.int .i64 procs, .slice A n C, .slice A' m C'] w fun e w' => (e = .returned (.bool true) ∧ Dk.Ask procs n xs ∨ e = .returned (.bool false) ∧ ¬ Dk.Ask procs n xs) ∧ Below w.heap.size w w' := by
  have no : ∀ {e : Ending} {w' : World}, (e = .returned (.bool false) ∧ w' = w) → ¬ Dk.Ask procs n xs → (e = .returned (.bool true) ∧ Dk.Ask procs n xs ∨ e = .returned (.bool false) ∧ ¬ Dk.Ask procs n xs) ∧ Below w.heap.size w w' := by
    rintro e w' ⟨h1, rfl⟩ h2
    exact ⟨.inr ⟨h1, h2⟩, Below.refl _ _⟩
  by_cases e1 : m = n
  · obtain rfl := e1
    by_cases e2 : 8 < m
    · exact (sound_2 procs hp A A' m C C' e2 w).mono fun e w' g => no g fun hA => by have := hA.2.1; omega
    · by_cases e3 : procs < 0
      · exact (sound_3 procs hp A A' m C C' (by omega) e3 w).mono fun e w' g => no g fun hA => by have := hA.2.2.1; omega
      · by_cases e4 : 64 < procs
        · exact (sound_4 procs hp A A' m C C' (by omega) (by omega) e4 w).mono fun e w' g => no g fun hA => by have := hA.2.2.2.1; omega
        · exact sound_5 procs hp A A' m C C' xs (by omega) (by omega) (by omega) w h
  · exact (sound_1 procs hp A A' n C m C' e1 w).mono fun e w' g => no g fun hA => e1 (by rw [← h.len]; exact hA.1)
end Go.Proofs.Ytihikekhfbpnaaa
