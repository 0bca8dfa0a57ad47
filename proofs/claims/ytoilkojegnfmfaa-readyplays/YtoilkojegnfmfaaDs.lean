/- The library's calls on rows: their contracts laid at this program, and what they do with rows that are owned. -/
import Derived.Shelf.Slices.Turned
import Derived.Shelf.Slices.Delete
import Derived.Shelf.Spec.SlicesInsertGrow
import Derived.Test.YtoilkojegnfmfaaChecked
import Derived.Test.YtoilkojegnfmfaaDe
import Derived.KernelRfl
namespace Go.Proofs
open Go.Shelf
def Try.lays108_ren : Go.Shelf.Ren := ⟨fun | 108 => 28 | n => n, fun | 28 => 30 | 3 => 3 | 0 => 0 | 4 => 4 | n => n, fun | n => n⟩
theorem Try.lays108 : Go.Proofs.Lays.n108 Try.prog Try.lays108_ren := {
  mixed := by kernel_rfl
  f108 := Try.func28.trans (congrArg some (by kernel_rfl))
  t0 := Try.underlying0
  a0 := Try.isAgg0
  z0 := Try.sizeOf0
  v0 := Try.zeroValue0
  t3 := Try.underlying3
  a3 := Try.isAgg3
  z3 := Try.sizeOf3
  v3 := Try.zeroValue3
  t4 := Try.underlying4
  a4 := Try.isAgg4
  z4 := Try.sizeOf4
  v4 := Try.zeroValue4
  t28 := Try.underlying30
  a28 := Try.isAgg30
  z28 := Try.sizeOf30
  v28 := Try.zeroValue30 }
def Try.lays107_ren : Go.Shelf.Ren := ⟨fun | 107 => 24 | 108 => 28 | n => n, fun | 28 => 30 | 3 => 3 | 4 => 4 | 0 => 0 | n => n, fun | n => n⟩
theorem Try.lays107 : Go.Proofs.Lays.n107 Try.prog Try.lays107_ren := {
  mixed := by kernel_rfl
  f107 := Try.func24.trans (congrArg some (by kernel_rfl))
  f108 := Try.func28.trans (congrArg some (by kernel_rfl))
  t0 := Try.underlying0
  a0 := Try.isAgg0
  z0 := Try.sizeOf0
  v0 := Try.zeroValue0
  t3 := Try.underlying3
  a3 := Try.isAgg3
  z3 := Try.sizeOf3
  v3 := Try.zeroValue3
  t4 := Try.underlying4
  a4 := Try.isAgg4
  z4 := Try.sizeOf4
  v4 := Try.zeroValue4
  t28 := Try.underlying30
  a28 := Try.isAgg30
  z28 := Try.sizeOf30
  v28 := Try.zeroValue30 }
def Try.laysNm223_ren : Go.Shelf.Ren := ⟨fun | 23 => 29 | n => n, fun | 22 => 30 | 3 => 3 | 4 => 4 | 0 => 0 | n => n, fun | n => n⟩
theorem Try.laysNm223 : Go.Proofs.Lays2.n23 Try.prog Try.laysNm223_ren := {
  mixed := by kernel_rfl
  f23 := Try.func29.trans (congrArg some (by kernel_rfl))
  t0 := Try.underlying0
  a0 := Try.isAgg0
  z0 := Try.sizeOf0
  v0 := Try.zeroValue0
  t3 := Try.underlying3
  a3 := Try.isAgg3
  z3 := Try.sizeOf3
  v3 := Try.zeroValue3
  t4 := Try.underlying4
  a4 := Try.isAgg4
  z4 := Try.sizeOf4
  v4 := Try.zeroValue4
  t22 := Try.underlying30
  a22 := Try.isAgg30
  z22 := Try.sizeOf30
  v22 := Try.zeroValue30
  i3 := by kernel_rfl }
end Go.Proofs

namespace Go.Proofs.Ytoilkojegnfmfaa
set_option linter.unusedSimpArgs false
set_option linter.unusedVariables false
set_option linter.unnecessarySimpa false
open Go.RowKit

theorem info3 : (Try.prog.info? 3).map (fun i => (i.zero, i.size, i.bytes)) = some (some (.int .i64 0), 1, 8) := by kernel_rfl

/-- Where a number is, as the library tells it. -/
theorem Index_any (A : Option Addr) (L C : Nat) (xs : List Int) (x : Int) (w : World) (h : Dk.SlI w.heap.size w A L C xs) :
    Calls Try.prog 28 #[.slice A L C, .int .i64 x] w fun e w' => e = .returned (.int .i64 (Lib.idxOf xs x)) ∧ w' = w := by
  have hl := h.len
  have hc := h.cap
  have hm := h.max
  unfold maxLen at hm
  by_cases h0 : 0 < L
  · obtain ⟨b, o, rfl, hb, hcell⟩ := h.cells h0
    have c := Any.slices_Index_int Try.lays108 b o L C xs x w (by omega) (by omega) (fun j hj => hcell j (by omega))
    rw [← hl, List.take_length] at c
    rw [← hl]
    exact c
  · obtain rfl : L = 0 := by omega
    obtain rfl : xs = [] := List.eq_nil_of_length_eq_zero hl
    exact Any.slices_Index_int_empty Try.lays108 A C x w
theorem Contains_any (A : Option Addr) (L C : Nat) (xs : List Int) (x : Int) (w : World) (h : Dk.SlI w.heap.size w A L C xs) :
    Calls Try.prog 24 #[.slice A L C, .int .i64 x] w fun e w' => e = .returned (.bool (xs.contains x)) ∧ w' = w := by
  have hl := h.len
  have hc := h.cap
  have hm := h.max
  unfold maxLen at hm
  by_cases h0 : 0 < L
  · obtain ⟨b, o, rfl, hb, hcell⟩ := h.cells h0
    have c := Any.slices_Contains_int Try.lays107 b o L C xs x w (by omega) (by omega) (fun j hj => hcell j (by omega))
    rw [← hl, List.take_length] at c
    rw [← hl]
    exact c
  · obtain rfl : L = 0 := by omega
    obtain rfl : xs = [] := List.eq_nil_of_length_eq_zero hl
    exact Any.slices_Contains_int_empty Try.lays107 A C x w

/-- One number goes. -/
theorem Delete_any (B : Nat) (v : Value) (xs : List Int) (k : Nat) (w : World) (h : w.ownsRow B 3 1 v xs.length (Dk.is xs)) (hk : k < xs.length) :
    Calls Try.prog 29 #[v, .int .i64 (k : Int), .int .i64 ((k : Int) + 1)] w fun e w' => ∃ v', e = .returned v' ∧ w'.ownsRow B 3 1 v' (xs.eraseIdx k).length (Dk.is (xs.eraseIdx k)) ∧ w.grownBy w' v.ownBlock ∧ Dk.From w v v' := by
  have hv : v ≠ .slice none 0 0 := by
    rintro rfl
    obtain ⟨_, ⟨_, h0⟩ | ⟨g, cap, cur, e, _⟩⟩ := h
    · omega
    · cases e
  obtain ⟨g, cap, rfl, hb, hg, hn, hm, _, hH⟩ := Lib.holds_of_ownsRow (enc := Value.int .i64) h hv
  have hm' := hm
  unfold maxLen at hm'
  have c := Any.slices_Delete_int Try.laysNm223 g 0 cap k (k + 1) xs w hH hn (by omega) (by omega) (by omega)
  refine Calls.mono c ?_
  rintro e w' ⟨rfl, q, rfl⟩
  have hel : (xs.eraseIdx k).length = xs.length - 1 := by rw [List.length_eraseIdx, if_pos hk]
  refine ⟨_, rfl, ?_, ?_, Dk.From.same _ rfl⟩
  · have hy : (xs.take k ++ xs.drop (k + 1) ++ List.replicate (k + 1 - k) 0).length = xs.length := by simp; omega
    have o := Lib.ownsRow_putRow (q := q) (k := xs.length - 1) h hy (by omega)
    rw [hel, show xs.length - (k + 1 - k) = xs.length - 1 by omega]
    have ht : (xs.take k ++ xs.drop (k + 1) ++ List.replicate (k + 1 - k) 0).take (xs.length - 1) = xs.eraseIdx k := by
      rw [List.eraseIdx_eq_take_drop_succ, List.take_append_of_le_length (by simp; omega), List.take_of_length_le (by simp; omega)]
    rw [ht] at o
    exact o
  · exact ⟨rfl, rfl, rfl, by simp [Sort.ahead], fun j hj hr => by
      simp [Sort.putRow, Sort.mapBlock, Sort.ahead, Array.getElem?_modify, Value.ownBlock] at hr ⊢
      exact fun e => absurd e.symm hr⟩

/-- What 'append' leaves, and where. -/
theorem append_from (B : Nat) (ty : TypeId) (v : Value) (xs : List Value) (n : Nat) (w : World) (hown : w.ownsRow B 3 1 v n xs) (a : Addr) (m c : Nat) (news : List Value) (hl : news.length = m) (hnews : ∀ j u, news[j]? = some u → w.cell? (a.add j) = some u) (h1 : ∀ u ∈ news, u.oneCell' = true)
    (h : n + m ≤ 100000) (hB : B ≤ w.heap.size) :
    ∃ v' w', (Builtin.append_ #[30, 30] ty #[v, .slice (some a) m c]).run Try.prog w = .ok v' w' ∧ w'.ownsRow B 3 1 v' (n + m) (xs ++ news) ∧ w.grownBy w' v.ownBlock ∧ Dk.From w v v' ∧ (v' = .slice none 0 0 ↔ v = .slice none 0 0 ∧ m = 0) := by
  obtain ⟨i0, hi0, hz0, hz1, hz2⟩ := info_parts info3
  have hl1 : news.length = m * i0.size := by rw [hz1, Nat.mul_one]; exact hl
  obtain ⟨v', w', hr, ho, hg, hi⟩ := run_append_own (P := Try.prog) w B 30 ty 3 i0 (.int .i64 0) 1 8 Try.underlying30 hi0 hz0 hz1 hz2 rfl (by decide) v n xs hown a m c news (by rw [Nat.mul_one]; exact hl) hnews h1 (by unfold maxLen; omega) (by omega) hB
  refine ⟨v', w', hr, ho, hg, ?_, hi⟩
  obtain ⟨hxl, ⟨rfl, rfl⟩ | ⟨g, cap, cur, rfl, hb, hgg, hn, hm, hs, ht⟩⟩ := id hown
  · by_cases hm : m = 0
    · rw [hi.2 ⟨rfl, hm⟩]
      exact Dk.From.refl _ _
    · have hr2 := run_append_nil (P := Try.prog) w 30 ty 3 i0 (.int .i64 0) Try.underlying30 hi0 hz0 a m c news hl1 hnews (by omega) (by omega) (by rw [hz2]; omega)
      rw [hr] at hr2
      injection hr2 with e1 e2
      subst e1
      exact fun k hk => .inr (by simp [Value.ownBlock] at hk; omega)
  · by_cases hroom : n + m ≤ cap
    · have hr2 := run_append_room (P := Try.prog) w 30 ty 3 i0 Try.underlying30 hi0 g n cap cur hgg a m c news hl1 hnews h1 hroom (by rw [hz1, hl, hs]; omega)
      rw [hr] at hr2
      injection hr2 with e1 e2
      subst e1
      exact Dk.From.same _ rfl
    · have holds : ∀ j u, xs[j]? = some u → w.cell? ((⟨g, 0, none⟩ : Addr).add j) = some u := hown.cells (g := g) rfl
      have hr2 := run_append_grow (P := Try.prog) w 30 ty 3 i0 (.int .i64 0) Try.underlying30 hi0 hz0 ⟨g, 0, none⟩ n cap xs (by rw [hz1]; exact hxl) holds a m c news hl1 hnews (by omega) (by omega) (growslice_fits (by omega) (by rw [hz2]; omega))
      rw [hr] at hr2
      injection hr2 with e1 e2
      subst e1
      exact fun k hk => .inr (by simp [Value.ownBlock] at hk; omega)
/-- One cell in a new block. -/
theorem one_new (w w' : World) (v : Value) (t : TypeId) (e : w' = w.alloc (.cells #[v] t)) : ∀ (j : Nat) (u : Value), [v][j]? = some u → w'.cell? ((⟨w.heap.size, 0, none⟩ : Addr).add j) = some u := by
  intro j u hj
  match j, hj with
  | 0, hj =>
    simp at hj
    subst hj
    subst e
    have := (Dk.Box.new w #[v] t).cell 0
    simpa [Addr.add] using this

end Go.Proofs.Ytoilkojegnfmfaa
