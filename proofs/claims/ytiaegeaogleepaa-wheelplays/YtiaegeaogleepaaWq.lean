/- Many who sleep: plain mathematics, and a list beside the clock that is written. -/
import Derived.Test.YtiaegeaogleepaaWa
import Derived.Test.YtiaegeaogleepaaOpm
import Derived.Laws.OwnMore
namespace Dk
set_option linter.unusedSimpArgs false
set_option linter.unusedVariables false
set_option linter.unnecessarySimpa false
open Go

def orderOf (e : Nat → Nat) (n : Nat) : List (Int × Int) := (List.range n).map fun i : Nat => ((i : Int), (e i : Int))
def whoAt (e : Nat → Nat) (n t : Nat) : List Nat := (List.range n).filter fun i => decide (e i = t)
def ints (l : List Nat) : List Int := l.map fun i : Nat => (i : Int)
def told (e : Nat → Nat) (n t : Nat) (ks : List Nat) : List Int := (List.range n).map fun i => if e i < t then (e i : Int) else if i ∈ ks then (t : Int) else 0
variable {e : Nat → Nat} {n t : Nat}

theorem order_succ : orderOf e (n + 1) = orderOf e n ++ [((n : Int), (e n : Int))] := by simp [orderOf, List.range_succ]
theorem order_key : (n : Int) ∉ keysOf (orderOf e n) := by
  intro h
  obtain ⟨c, hc⟩ := keys_mem.1 h
  obtain ⟨i, hi, e1⟩ := List.mem_map.1 hc
  rw [List.mem_range] at hi
  simp at e1
  omega
theorem left_left {s t : Int} (L : List (Int × Int)) (h : s ≤ t) : leftOf t (leftOf s L) = leftOf t L := by
  unfold leftOf
  rw [List.filter_filter]
  refine List.filter_congr fun p hp => ?_
  by_cases h1 : t < p.2
  · simp [h1]; omega
  · simp [h1]
theorem due_order (h : 1 ≤ t) : dueOf t (leftOf ((t : Int) - 1) (orderOf e n)) = ints (whoAt e n t) := by
  unfold dueOf leftOf orderOf ints whoAt keysOf
  rw [List.filter_filter, List.filter_map, List.map_map]
  have : (List.filter ((fun p : Int × Int => decide (p.2 ≤ (t : Int)) && decide ((t : Int) - 1 < p.2)) ∘ fun i : Nat => ((i : Int), (e i : Int))) (List.range n)) = (List.range n).filter fun i => decide (e i = t) := by
    refine List.filter_congr fun i hi => ?_
    simp only [Function.comp]
    by_cases h1 : e i = t
    · have a1 : decide ((e i : Int) ≤ (t : Int)) = true := by simp; omega
      have a2 : decide ((t : Int) - 1 < (e i : Int)) = true := by simp; omega
      rw [a1, a2]
      simp [h1]
    · have a3 : (decide ((e i : Int) ≤ (t : Int)) && decide ((t : Int) - 1 < (e i : Int))) = false := by
        rw [Bool.and_eq_false_iff]
        by_cases h2 : (e i : Int) ≤ (t : Int)
        · right; simp; omega
        · left; simpa using h2
      rw [a3]
      simp [h1]
  rw [this]
  rfl
theorem who_sorted : (whoAt e n t).Pairwise (· < ·) := List.pairwise_lt_range.filter _
theorem who_rising : Rising (ints (whoAt e n t)) := List.pairwise_map.2 (who_sorted.imp fun {a b} h => by omega)
theorem who_mem {i : Nat} : i ∈ whoAt e n t ↔ i < n ∧ e i = t := by simp [whoAt, List.mem_filter]
theorem who_get {k : Nat} (hk : k < (whoAt e n t).length) : (whoAt e n t).getD k 0 < n ∧ e ((whoAt e n t).getD k 0) = t := by
  have : (whoAt e n t).getD k 0 ∈ whoAt e n t := by simp [List.getD, hk]
  exact who_mem.1 this
theorem who_lt {k : Nat} (hk : k + 1 < (whoAt e n t).length) : (whoAt e n t).getD k 0 < (whoAt e n t).getD (k + 1) 0 := by
  have := List.pairwise_iff_getElem.1 (who_sorted (e := e) (n := n) (t := t)) k (k + 1) (by omega) hk (by omega)
  simpa [List.getD, hk, show k < (whoAt e n t).length by omega] using this
theorem who_new {k : Nat} (hk : k < (whoAt e n t).length) : (whoAt e n t).getD k 0 ∉ (whoAt e n t).take k := by
  intro h
  obtain ⟨j, hj, ej⟩ := List.mem_iff_getElem.1 h
  rw [List.length_take] at hj
  rw [List.getElem_take] at ej
  have := List.pairwise_iff_getElem.1 (who_sorted (e := e) (n := n) (t := t)) j k (by omega) hk (by omega)
  simp [List.getD, hk] at ej
  omega
theorem who_take {k : Nat} (hk : k < (whoAt e n t).length) : (whoAt e n t).take (k + 1) = (whoAt e n t).take k ++ [(whoAt e n t).getD k 0] := by
  rw [List.take_add_one]
  simp [List.getD, hk]
theorem ints_get {l : List Nat} {k : Nat} (hk : k < l.length) : (ints l).getD k 0 = (l.getD k 0 : Int) := by simp [ints, List.getD, hk]
theorem ints_length (l : List Nat) : (ints l).length = l.length := by simp [ints]
theorem told_length {ks : List Nat} : (told e n t ks).length = n := by simp [told]
theorem told_get {ks : List Nat} {j : Nat} (hj : j < n) : (told e n t ks).getD j 0 = if e j < t then (e j : Int) else if j ∈ ks then (t : Int) else 0 := by
  unfold told
  rw [List.getD, List.getElem?_map, List.getElem?_range hj]
  rfl
theorem told_zero (h : ∀ i, 1 ≤ e i) : told e n 1 [] = List.replicate n 0 := by
  unfold told
  refine List.eq_replicate_iff.2 ⟨by simp, fun b hb => ?_⟩
  obtain ⟨i, hi, rfl⟩ := List.mem_map.1 hb
  rw [if_neg (by have := h i; omega), if_neg (by simp)]
theorem told_set {ks : List Nat} {j : Nat} (hj : j < n) (he : e j = t) : (told e n t ks).set j t = told e n t (ks ++ [j]) := by
  apply List.ext_getElem?
  intro i
  unfold told
  rw [List.getElem?_set]
  by_cases hi : i < n
  · by_cases hij : j = i
    · subst hij
      rw [if_pos rfl, if_pos (by simpa using hj), List.getElem?_map, List.getElem?_range hj]
      simp [he]
    · rw [if_neg hij, List.getElem?_map, List.getElem?_map, List.getElem?_range hi]
      simp [Ne.symm hij]
  · rw [List.getElem?_map, List.getElem?_map, List.getElem?_eq_none (by simpa using hi)]
    by_cases hij : j = i
    · omega
    · rw [if_neg hij]; rfl
theorem told_next : told e n t (whoAt e n t) = told e n (t + 1) [] := by
  unfold told
  refine List.map_congr_left fun i hi => ?_
  rw [List.mem_range] at hi
  by_cases h1 : e i < t
  · rw [if_pos h1, if_pos (by omega)]
  · rw [if_neg h1]
    by_cases h2 : e i = t
    · rw [if_pos (who_mem.2 ⟨hi, h2⟩), if_pos (by omega), h2]
    · rw [if_neg (fun hm => h2 (who_mem.1 hm).2), if_neg (by omega), if_neg (by simp)]
theorem told_i64 {ks : List Nat} (ht : t ≤ 1000) (y : Int) (hy : y ∈ told e n t ks) : i64 y := by
  obtain ⟨i, hi, rfl⟩ := List.mem_map.1 hy
  unfold i64
  split
  · omega
  · split <;> omega
end Dk

namespace Go.Proofs.Ytiaegeaogleepaa
set_option linter.unusedSimpArgs false
set_option linter.unusedVariables false
set_option linter.unnecessarySimpa false
open Go.RowKit Go.Maps
section
variable {W w : World} {M bd : Nat} {now : Int} {L : List (Int × Int)} {us us1 us2 : List Row1} {bs : List Box1}
/-- A list that is read and written. -/
theorem Pk.held {g n C j : Nat} {xs : List Int} (h : Pk W M bd w now L (us1 ++ (.slice (some ⟨g, 0, none⟩) n C, xs) :: us2) bs) (hn : xs.length = n) (hj : j < n) :
    w.cell? ⟨g, j, none⟩ = some (.int .i64 (xs.getD j 0)) ∧ w.frozen? ⟨g, j, none⟩ = false ∧ ∀ y, Dk.i64 y → Pk W M bd (w.setCell ⟨g, j, none⟩ (.int .i64 y)) now L (us1 ++ (.slice (some ⟨g, 0, none⟩) n C, xs.set j y) :: us2) bs := by
  subst hn
  have q := Hid.out h
  have hr : w.ownsRow W.heap.size 3 1 (.slice (some ⟨g, 0, none⟩) xs.length C) xs.length (Dk.is xs) ∧ _ ∧ ∀ y ∈ xs, Dk.i64 y := q.rows (.slice (some ⟨g, 0, none⟩) xs.length C, xs) (by simp)
  have hc := hr.1.cells (g := g) rfl j (.int .i64 (xs.getD j 0)) (by simp [List.getD, hj])
  rw [Addr.add_lit, Nat.zero_add] at hc
  obtain ⟨_, ⟨e0, _⟩ | ⟨g', cap, cur, e0, hb, hgg, h1, h2, h3, h4⟩⟩ := hr.1
  · cases e0
  · obtain ⟨rfl, rfl⟩ : g = g' ∧ C = cap := by simpa using e0
    have bx : Dk.Box w g cur 3 := ⟨hgg⟩
    refine ⟨hc, bx.frozen j, fun y hy => h.turn (u' := (.slice (some ⟨g, 0, none⟩) xs.length C, xs.set j y)) ((Dk.Away.refl (fun k => Value.ownBlock (.slice (some ⟨g, 0, none⟩) xs.length C) = some k) w).set (b := g) (.inl rfl) _ _) ?_ (Dk.From.refl _ _) (fun z hz => ?_)⟩
    · rw [Nat.mul_one] at h3
      have hl : (xs.set j y).length = xs.length := by simp
      have key : (w.setCell ⟨g, j, none⟩ (.int .i64 y)).ownsRow W.heap.size 3 1 (.slice (some ⟨g, 0, none⟩) xs.length C) xs.length (Dk.is (xs.set j y)) := by
        refine Dk.owns_box (bx.set j (.int .i64 y)) hb (by rw [Array.size_setIfInBounds]; exact h3) h2 (by simp) h1 (fun i hi => ?_)
        rw [Array.getElem?_setIfInBounds]
        have hi' : cur[i]? = (Dk.is xs)[i]? := by
          rw [← h4, List.getElem?_take, if_pos (by omega), Array.getElem?_toList]
        by_cases hij : j = i
        · subst hij
          rw [if_pos rfl, if_pos (by omega)]
          simp [hj]
        · rw [if_neg hij, hi']
          simp [Dk.is, List.getElem?_set, hij]
      simpa using key
    · rcases List.mem_or_eq_of_mem_set hz with hz | hz
      · exact hr.2.2 z hz
      · rw [hz]; exact hy
/-- A list that is made. -/
theorem Pk.made (h : Pk W M bd w now L us bs) (n : Nat) (hn : n ≤ 1000) : ∃ w', (Instr.makeSlice 25 (.int .i64 (n : Int)) (.int .i64 (n : Int))).run Try.prog w = .ok (.slice (some ⟨w.heap.size, 0, none⟩) n n) w' ∧ Pk W M bd w' now L ((.slice (some ⟨w.heap.size, 0, none⟩) n n, List.replicate n 0) :: us) bs := by
  obtain ⟨i0, hi0, hz0, hz1, hz2⟩ := info_parts info3
  obtain ⟨w', hr, ho, hg⟩ := run_makeSlice_full (P := Try.prog) w w.heap.size 25 3 i0 (.int .i64 0) 1 Try.underlying25 hi0 hz0 hz1 .i64 .i64 n (by omega) (by rw [hz2]; omega) (by unfold maxLen; omega) (Nat.le_refl _)
  refine ⟨w', hr, h.add ⟨hg.os, hg.tape, hg.output, hg.size, fun k hk => hg.block k hk (by simp)⟩ ?_ (fun y hy => ?_)⟩
  · have e : (madeCells (Value.int .i64 0).cells (n * 1)).toList = Dk.is (List.replicate n 0) := by
      apply List.ext_getElem?
      intro i
      by_cases hi : i < n
      · simp [madeCells, Dk.is, hi, Value.cells]
        simp [Nat.mod_one]
      · rw [List.getElem?_eq_none (by simp [madeCells]; omega), List.getElem?_eq_none (by simp; omega)]
    rw [e] at ho
    simpa using ho
  · obtain ⟨_, rfl⟩ := List.mem_replicate.1 hy
    unfold Dk.i64
    omega
theorem byte_cell {B : Nat} {w : World} {A : Option Addr} {L C : Nat} {xs : List Nat} (h : Dk.Row 1 0 Dk.IsByte B w A L C xs) (h0 : 0 < L) : ∃ b o, A = some ⟨b, o, none⟩ ∧ b < B ∧ ∀ k, k < L → w.cell? ⟨b, o + k, none⟩ = some (.int .u8 (xs.getD k 0 : Nat)) ∧ xs.getD k 0 < 256 := by
  obtain ⟨b, o, h1, h2, h3⟩ := h.cells h0
  refine ⟨b, o, h1, h2, fun k hk => ?_⟩
  obtain ⟨vs, hl, ⟨rfl, hlt⟩, hc⟩ := h3 k hk
  have := hc 0 (by omega)
  rw [Nat.mul_one, Nat.add_zero] at this
  exact ⟨this, hlt⟩
end
end Go.Proofs.Ytiaegeaogleepaa
