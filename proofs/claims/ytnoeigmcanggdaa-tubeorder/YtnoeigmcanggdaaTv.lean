/- Words that go in, one behind the other, and come out so: where they are meanwhile. -/
import Derived.Test.YtnoeigmcanggdaaTt
namespace Dk
set_option linter.unusedSimpArgs false
set_option linter.unusedVariables false
set_option linter.unnecessarySimpa false
open Go Go.RowKit

def pr (xs : List Nat) (j : Nat) : Int × Nat := ((j : Int), xs.getD j 0)
/-- Who waits to put, from the a-th on, ahead of the b-th. -/
def Pq (xs : List Nat) (a b : Nat) : List (Int × Nat) := ((List.range b).drop a).map (pr xs)
/-- The words of some, from the a-th on, ahead of the b-th, at most m. -/
def Wq (xs : List Nat) (a b m : Nat) : List Nat := ((xs.take b).drop a).take m

theorem Pq_len (xs : List Nat) (a b : Nat) : (Pq xs a b).length = b - a := by simp [Pq]
theorem Pq_none {xs : List Nat} {a b : Nat} (h : b ≤ a) : Pq xs a b = [] := List.eq_nil_of_length_eq_zero (by rw [Pq_len]; omega)
theorem Pq_snoc {xs : List Nat} {a b : Nat} (h : a ≤ b) : Pq xs a (b + 1) = Pq xs a b ++ [((b : Int), xs.getD b 0)] := by
  unfold Pq
  rw [List.range_succ, List.drop_append_of_le_length (by simp; omega), List.map_append]
  rfl
theorem Pq_cons {xs : List Nat} {a b : Nat} (h : a < b) : Pq xs a b = ((a : Int), xs.getD a 0) :: Pq xs (a + 1) b := by
  unfold Pq
  rw [List.drop_eq_getElem_cons (by simpa using h), List.map_cons, List.getElem_range]
  rfl
theorem Wq_len0 {xs : List Nat} {i m : Nat} (h : i ≤ xs.length) : (Wq xs 0 i m).length = min m i := by simp [Wq]; omega
theorem Wq_len (xs : List Nat) (a b m : Nat) : (Wq xs a b m).length ≤ m := by simp [Wq]; omega
theorem Wq_snoc {xs : List Nat} {i m : Nat} (h : i < m) (hx : i < xs.length) : Wq xs 0 (i + 1) m = Wq xs 0 i m ++ [xs.getD i 0] := by
  unfold Wq
  rw [List.drop_zero, List.drop_zero, List.take_take, List.take_take, Nat.min_eq_right (by omega), Nat.min_eq_right (by omega), List.take_add_one]
  simp [List.getD, hx]
theorem Wq_full {xs : List Nat} {i m : Nat} (h : m ≤ i) : Wq xs 0 (i + 1) m = Wq xs 0 i m := by
  unfold Wq
  rw [List.drop_zero, List.drop_zero, List.take_take, List.take_take, Nat.min_eq_left (by omega), Nat.min_eq_left h]
theorem Wq_cons {xs : List Nat} {i n m : Nat} (h : i < n) (hn : n ≤ xs.length) (hm : 1 ≤ m) : Wq xs i n m = xs.getD i 0 :: ((xs.take n).drop (i + 1)).take (m - 1) := by
  unfold Wq
  obtain ⟨m', rfl⟩ : ∃ m', m = m' + 1 := ⟨m - 1, by omega⟩
  rw [List.drop_eq_getElem_cons (by simp; omega), List.take_succ_cons]
  have hi : i < xs.length := by omega
  simp [List.getD, hi]
theorem Wq_more {xs : List Nat} {i n m : Nat} (h : m + i < n) (hn : n ≤ xs.length) (hm : 1 ≤ m) : ((xs.take n).drop (i + 1)).take (m - 1) ++ [xs.getD (m + i) 0] = Wq xs (i + 1) n m := by
  unfold Wq
  obtain ⟨m', rfl⟩ : ∃ m', m = m' + 1 := ⟨m - 1, by omega⟩
  rw [List.take_add_one, Nat.add_sub_cancel]
  congr 1
  have hi : m' + 1 + i < xs.length := by omega
  rw [List.getElem?_drop, List.getElem?_take, if_pos (by omega), show i + 1 + m' = m' + 1 + i by omega]
  simp [List.getD, hi]
theorem Wq_one {xs : List Nat} {i n m : Nat} (h : n ≤ m + i) (hn : n ≤ xs.length) (hm : 1 ≤ m) : ((xs.take n).drop (i + 1)).take (m - 1) = Wq xs (i + 1) n m := by
  unfold Wq
  have hl : ((xs.take n).drop (i + 1)).length ≤ m - 1 := by simp; omega
  rw [List.take_of_length_le hl, List.take_of_length_le (Nat.le_trans hl (by omega))]
theorem Wq_end {xs : List Nat} {n m : Nat} : Wq xs n n m = [] := by simp [Wq]
end Dk
namespace Go.Proofs.Ytnoeigmcanggdaa
set_option linter.unusedSimpArgs false
set_option linter.unusedVariables false
set_option linter.unnecessarySimpa false
open Go.RowKit Go.Lib
theorem Dk.Pq_not {xs : List Nat} {a b : Nat} {x : Int} (h : (b : Int) ≤ x) : Dk.waits (Dk.Pq xs a b) [] x = false := by
  unfold Dk.waits
  rw [List.contains_nil, Bool.false_or, List.any_eq_false]
  intro p hp
  obtain ⟨j, hj, rfl⟩ := List.mem_map.1 hp
  have hj2 := List.mem_range.1 (List.mem_of_mem_drop hj)
  simp [Dk.pr]
  omega
section
variable {W w : World} {bt i n m : Nat} {room : Int} {xs : List Nat} {us : List Dk.Thing}
theorem Put_next (h : Dk.Tb W w bt room (Dk.Wq xs 0 i m) (Dk.Pq xs m i) [] us) (hm : Dk.most room = m) (hi : i < xs.length) (h40 : i < 40) (hx : xs.getD i 0 < 2 ^ 64) :
    Calls Try.prog 10 #[.pointer (some ⟨bt, 0, none⟩), .int .i64 (i : Int), .int .u64 ((xs.getD i 0 : Nat) : Int)] w fun e w' => ∃ b n c, e = .returned (.tuple #[.bool b, .int .i64 n, .bool c]) ∧ Dk.Tb W w' bt room (Dk.Wq xs 0 (i + 1) m) (Dk.Pq xs m (i + 1)) [] us := by
  have hl : (Dk.Wq xs 0 i m).length = min m i := Dk.Wq_len0 (by omega)
  have hm8 := most_le room
  have hw : Dk.waits (Dk.Pq xs m i) [] (i : Int) = false := Dk.Pq_not (by omega)
  by_cases him : i < m
  · refine (Put_room h (i : Int) _ hw hx (by omega) (by omega)).mono ?_
    rintro e w' ⟨rfl, t⟩
    rw [Dk.Wq_snoc him hi, Dk.Pq_none (by omega)]
    rw [Dk.Pq_none (by omega)] at t
    exact ⟨_, _, _, rfl, t⟩
  · refine (Put_full h (i : Int) _ hw ⟨by omega, by omega⟩ hx (by omega) (by rw [Dk.Pq_len]; omega)).mono ?_
    rintro e w' ⟨rfl, t⟩
    rw [Dk.Wq_full (by omega), Dk.Pq_snoc (by omega)]
    exact ⟨_, _, _, rfl, t⟩
theorem Get_next (h : Dk.Tb W w bt room (Dk.Wq xs i n m) (Dk.Pq xs (m + i) n) [] us) (hm : Dk.most room = m) (hi : i < n) (hn : n ≤ xs.length) (h40 : n ≤ 40) :
    Calls Try.prog 8 #[.pointer (some ⟨bt, 0, none⟩), .int .i64 1000] w fun e w' => ∃ c d, e = .returned (.tuple #[.int .u64 ((xs.getD i 0 : Nat) : Int), .bool true, .int .i64 c, .bool d]) ∧ Dk.Tb W w' bt room (Dk.Wq xs (i + 1) n m) (Dk.Pq xs (m + (i + 1)) n) [] us := by
  have hm8 := most_le room
  have hw : Dk.waits (Dk.Pq xs (m + i) n) [] 1000 = false := Dk.Pq_not (by omega)
  rw [Dk.Wq_cons hi hn (by omega)] at h
  by_cases hmi : m + i < n
  · rw [Dk.Pq_cons hmi] at h hw
    refine (Get_more h 1000 hw (by simp; omega)).mono ?_
    rintro e w' ⟨rfl, t⟩
    rw [Dk.Wq_more hmi hn (by omega)] at t
    exact ⟨_, _, rfl, t⟩
  · rw [Dk.Pq_none (by omega)] at h hw
    refine (Get_one h 1000 hw).mono ?_
    rintro e w' ⟨rfl, t⟩
    rw [Dk.Wq_one (by omega) hn (by omega)] at t
    rw [Dk.Pq_none (by omega)]
    exact ⟨_, _, rfl, t⟩
theorem row_fit {B : Nat} {w : World} {A : Option Addr} {L C : Nat} {xs : List Nat} (h : Dk.Row 1 0 Dk.IsWord B w A L C xs) {k : Nat} (hk : k < L) : xs.getD k 0 < 2 ^ 64 := by
  obtain ⟨b, o, e, hb, hc⟩ := h.cells (by omega)
  obtain ⟨vs, h1, ⟨_, h2⟩, h3⟩ := hc k hk
  exact h2
end
end Go.Proofs.Ytnoeigmcanggdaa
