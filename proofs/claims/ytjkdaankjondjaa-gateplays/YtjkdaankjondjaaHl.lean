/- The library's calls on rows of numbers: their contracts laid at this program, and what they do with rows that are owned. -/
import Derived.Shelf.Slices.Turned
import Derived.Shelf.Slices.Delete
import Derived.Test.YtjkdaankjondjaaChecked
import Derived.Test.YtjkdaankjondjaaDe
import Derived.KernelRfl
namespace Go.Proofs
open Go.Shelf
def Try.lays108_ren : Go.Shelf.Ren := ⟨fun | 108 => 59 | n => n, fun | 28 => 22 | 3 => 3 | 0 => 0 | 4 => 4 | n => n, fun | n => n⟩
theorem Try.lays108 : Go.Proofs.Lays.n108 Try.prog Try.lays108_ren := {
  mixed := by kernel_rfl
  f108 := Try.func59.trans (congrArg some (by kernel_rfl))
  t0 := Try.underlying0
  a0 := Try.isAgg0
  z0 := Try.sizeOf0
  v0 := Try.zeroValue0
  t3 := Try.underlying3
  a3 := Try.isAgg3
  z3 := Try.sizeOf3
  v3 := Try.zeroValue3
  t4 := Try.underlying4
  a4 := Try.isAgg4
  z4 := Try.sizeOf4
  v4 := Try.zeroValue4
  t28 := Try.underlying22
  a28 := Try.isAgg22
  z28 := Try.sizeOf22
  v28 := Try.zeroValue22 }
def Try.lays107_ren : Go.Shelf.Ren := ⟨fun | 107 => 55 | 108 => 59 | n => n, fun | 28 => 22 | 3 => 3 | 4 => 4 | 0 => 0 | n => n, fun | n => n⟩
theorem Try.lays107 : Go.Proofs.Lays.n107 Try.prog Try.lays107_ren := {
  mixed := by kernel_rfl
  f107 := Try.func55.trans (congrArg some (by kernel_rfl))
  f108 := Try.func59.trans (congrArg some (by kernel_rfl))
  t0 := Try.underlying0
  a0 := Try.isAgg0
  z0 := Try.sizeOf0
  v0 := Try.zeroValue0
  t3 := Try.underlying3
  a3 := Try.isAgg3
  z3 := Try.sizeOf3
  v3 := Try.zeroValue3
  t4 := Try.underlying4
  a4 := Try.isAgg4
  z4 := Try.sizeOf4
  v4 := Try.zeroValue4
  t28 := Try.underlying22
  a28 := Try.isAgg22
  z28 := Try.sizeOf22
  v28 := Try.zeroValue22 }
def Try.laysNm223_ren : Go.Shelf.Ren := ⟨fun | 23 => 58 | n => n, fun | 22 => 22 | 3 => 3 | 4 => 4 | 0 => 0 | n => n, fun | n => n⟩
theorem Try.laysNm223 : Go.Proofs.Lays2.n23 Try.prog Try.laysNm223_ren := {
  mixed := by kernel_rfl
  f23 := Try.func58.trans (congrArg some (by kernel_rfl))
  t0 := Try.underlying0
  a0 := Try.isAgg0
  z0 := Try.sizeOf0
  v0 := Try.zeroValue0
  t3 := Try.underlying3
  a3 := Try.isAgg3
  z3 := Try.sizeOf3
  v3 := Try.zeroValue3
  t4 := Try.underlying4
  a4 := Try.isAgg4
  z4 := Try.sizeOf4
  v4 := Try.zeroValue4
  t22 := Try.underlying22
  a22 := Try.isAgg22
  z22 := Try.sizeOf22
  v22 := Try.zeroValue22
  i3 := by kernel_rfl }
end Go.Proofs

namespace Go.Proofs.Ytjkdaankjondjaa
set_option linter.unusedSimpArgs false
set_option linter.unusedVariables false
set_option linter.unnecessarySimpa false
open Go.RowKit

/-- Where a number is, as the library tells it. -/
theorem Index_any (A : Option Addr) (L C : Nat) (xs : List Int) (x : Int) (w : World) (h : Dk.SlI w.heap.size w A L C xs) :
    Calls Try.prog 59 #[.slice A L C, .int .i64 x] w fun e w' => e = .returned (.int .i64 (Lib.idxOf xs x)) ∧ w' = w := by
  have hl := h.len
  have hc := h.cap
  have hm := h.max
  unfold maxLen at hm
  by_cases h0 : 0 < L
  · obtain ⟨b, o, rfl, hb, hcell⟩ := h.cells h0
    have c := Any.slices_Index_int Try.lays108 b o L C xs x w (by omega) (by omega) (fun j hj => hcell j (by omega))
    rw [← hl, List.take_length] at c
    rw [← hl]
    exact c
  · obtain rfl : L = 0 := by omega
    obtain rfl : xs = [] := List.eq_nil_of_length_eq_zero hl
    exact Any.slices_Index_int_empty Try.lays108 A C x w
theorem Contains_any (A : Option Addr) (L C : Nat) (xs : List Int) (x : Int) (w : World) (h : Dk.SlI w.heap.size w A L C xs) :
    Calls Try.prog 55 #[.slice A L C, .int .i64 x] w fun e w' => e = .returned (.bool (xs.contains x)) ∧ w' = w := by
  have hl := h.len
  have hc := h.cap
  have hm := h.max
  unfold maxLen at hm
  by_cases h0 : 0 < L
  · obtain ⟨b, o, rfl, hb, hcell⟩ := h.cells h0
    have c := Any.slices_Contains_int Try.lays107 b o L C xs x w (by omega) (by omega) (fun j hj => hcell j (by omega))
    rw [← hl, List.take_length] at c
    rw [← hl]
    exact c
  · obtain rfl : L = 0 := by omega
    obtain rfl : xs = [] := List.eq_nil_of_length_eq_zero hl
    exact Any.slices_Contains_int_empty Try.lays107 A C x w

/-- One number goes. -/
theorem Delete_any (B : Nat) (v : Value) (xs : List Int) (k : Nat) (w : World) (h : w.ownsRow B 3 1 v xs.length (Dk.is xs)) (hk : k < xs.length) :
    Calls Try.prog 58 #[v, .int .i64 (k : Int), .int .i64 ((k : Int) + 1)] w fun e w' => ∃ v', e = .returned v' ∧ w'.ownsRow B 3 1 v' (xs.eraseIdx k).length (Dk.is (xs.eraseIdx k)) ∧ w.grownBy w' v.ownBlock ∧ Dk.From w v v' := by
  have hv : v ≠ .slice none 0 0 := by
    rintro rfl
    obtain ⟨_, ⟨_, h0⟩ | ⟨g, cap, cur, e, _⟩⟩ := h
    · omega
    · cases e
  obtain ⟨g, cap, rfl, hb, hg, hn, hm, _, hH⟩ := Lib.holds_of_ownsRow (enc := Value.int .i64) h hv
  have hm' := hm
  unfold maxLen at hm'
  have c := Any.slices_Delete_int Try.laysNm223 g 0 cap k (k + 1) xs w hH hn (by omega) (by omega) (by omega)
  refine Calls.mono c ?_
  rintro e w' ⟨rfl, q, rfl⟩
  have hel : (xs.eraseIdx k).length = xs.length - 1 := by rw [List.length_eraseIdx, if_pos hk]
  refine ⟨_, rfl, ?_, ?_, Dk.From.same _ rfl⟩
  · have hy : (xs.take k ++ xs.drop (k + 1) ++ List.replicate (k + 1 - k) 0).length = xs.length := by simp; omega
    have o := Lib.ownsRow_putRow (q := q) (k := xs.length - 1) h hy (by omega)
    rw [hel, show xs.length - (k + 1 - k) = xs.length - 1 by omega]
    have ht : (xs.take k ++ xs.drop (k + 1) ++ List.replicate (k + 1 - k) 0).take (xs.length - 1) = xs.eraseIdx k := by
      rw [List.eraseIdx_eq_take_drop_succ, List.take_append_of_le_length (by simp; omega), List.take_of_length_le (by simp; omega)]
    rw [ht] at o
    exact o
  · exact ⟨rfl, rfl, rfl, by simp [Sort.ahead], fun j hj hr => by
      simp [Sort.putRow, Sort.mapBlock, Sort.ahead, Array.getElem?_modify, Value.ownBlock] at hr ⊢
      exact fun e => absurd e.symm hr⟩

end Go.Proofs.Ytjkdaankjondjaa
