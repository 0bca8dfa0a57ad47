/- The document's own calls on lists: In, Ints, Without. -/
import Derived.Test.YtoilkojegnfmfaaDw
import Derived.Test.YtoilkojegnfmfaaQh
import Derived.BigQuiet
namespace Go.Proofs.Ytoilkojegnfmfaa
set_option linter.unusedSimpArgs false
set_option linter.unusedVariables false
set_option linter.unnecessarySimpa false
open Go.RowKit

set_option maxHeartbeats 1000000 in
theorem Ints_same (A A' : Option Addr) (L C C' : Nat) (xs : List Int) (w : World) (h : Dk.SlI w.heap.size w A L C xs) (h' : Dk.SlI w.heap.size w A' L C' xs) :
    Calls Try.prog 11 #[.slice A L C, .slice A' L C'] w fun e w' => e = .returned (.bool true) ∧ Below w.heap.size w w' := by
  have hcap := h.cap
  have hmax := h.max
  unfold maxLen at hmax
  go_enter Try.func11, Try.ntmps11
  go_wp2
  go_loopw [5] (fun i w' => ∃ k : Nat, k ≤ L ∧ i = .int .i64 k ∧ Hid (Below w.heap.size w w')) (fun i w' => L - (intOf i).toNat)
  case atStart => exact ⟨0, Nat.zero_le _, rfl, Below.refl _ _⟩
  case round =>
    obtain ⟨k, hk, rfl, HB⟩ := hrel
    by_cases hlt : k < L
    · obtain ⟨b, o, rfl, hb, hc⟩ := h.cells (by omega)
      obtain ⟨b', o', rfl, hb', hc'⟩ := h'.cells (by omega)
      have c1 : wr.cell? ⟨b, o + k, none⟩ = some (.int .i64 (xs.getD k 0)) := by rw [HB.out.cell (by show b < w.heap.size; exact hb)]; exact hc k hlt
      have c2 : wr.cell? ⟨b', o' + k, none⟩ = some (.int .i64 (xs.getD k 0)) := by rw [HB.out.cell (by show b' < w.heap.size; exact hb')]; exact hc' k hlt
      generalize xs.getD k 0 = v at c1 c2
      clear hc hc' h h'
      go_wp2
      go_quiet (fail)
      go_wp2
      go_roundw
      case rel => exact ⟨k + 1, by omega, by go_num, Dk.up_drewN HB.out nq⟩
      case measure => simp [intOf]; omega
    · go_wp2
      go_ret
      exact ⟨rfl, HB.out⟩

/-- Is a number there? -/
theorem In_any (A : Option Addr) (L C : Nat) (xs : List Int) (x : Int) (w : World) (h : Dk.SlI w.heap.size w A L C xs) :
    Calls Try.prog 9 #[.slice A L C, .int .i64 x] w fun e w' => e = .returned (.bool (xs.contains x)) ∧ w' = w := by
  have hcap := h.cap
  have hmax := h.max
  have hlen := h.len
  unfold maxLen at hmax
  have HH : Hid _ := h
  have HL : Hid _ := hlen
  clear h hlen
  go_enter Try.func9, Try.ntmps9
  go_wp2
  go_loopw [5] (fun i w' => ∃ k : Nat, k ≤ L ∧ i = .int .i64 k ∧ Hid (w' = w) ∧ Hid (∀ j, j < k → xs.getD j 0 ≠ x)) (fun i w' => L - (intOf i).toNat)
  case atStart => exact ⟨0, Nat.zero_le _, rfl, rfl, fun j hj => absurd hj (Nat.not_lt_zero _)⟩
  case round =>
    obtain ⟨k, hk, rfl, HB, HN⟩ := hrel
    by_cases hlt : k < L
    · obtain ⟨b, o, rfl, hb, hc⟩ := HH.out.cells (by omega)
      have c1 : wr.cell? ⟨b, o + k, none⟩ = some (.int .i64 (xs.getD k 0)) := by rw [HB.out]; exact hc k hlt
      obtain ⟨y, ey⟩ : ∃ y, xs.getD k 0 = y := ⟨_, rfl⟩
      rw [ey] at c1
      have HY : Hid _ := ey
      clear hc ey
      by_cases hy : y = x
      · have y1 : (y == x) = true := by simp [hy]
        have hm : xs.contains x = true := by
          have hkx : k < xs.length := by rw [HL.out]; exact hlt
          have e := HY.out
          rw [hy] at e
          simp [List.getD, hkx] at e
          rw [List.contains_iff_mem, ← e]
          exact List.getElem_mem _
        have HM : Hid _ := hm
        clear hm
        subst hy
        go_wp2
        go_ret
        rw [HM.out]
        exact ⟨rfl, HB.out⟩
      · have y1 : (y == x) = false := by simp [hy]
        go_wp2
        go_roundw
        case rel =>
          refine ⟨k + 1, by omega, by go_num, HB, fun j hj => ?_⟩
          by_cases hjk : j < k
          · exact HN.out j hjk
          · obtain rfl : j = k := by omega
            rw [HY.out]; exact hy
        case measure => simp [intOf]; omega
    · have hm : xs.contains x = false := by
        cases hc : xs.contains x
        · rfl
        · rw [List.contains_iff_mem] at hc
          obtain ⟨j, hj, e⟩ := List.getElem_of_mem hc
          have hl := HL.out
          exact absurd (by simp [List.getD, hj, e]) (HN.out j (by omega))
      have HM : Hid _ := hm
      clear hm
      go_wp2
      go_ret
      rw [HM.out]
      exact ⟨rfl, HB.out⟩

end Go.Proofs.Ytoilkojegnfmfaa
