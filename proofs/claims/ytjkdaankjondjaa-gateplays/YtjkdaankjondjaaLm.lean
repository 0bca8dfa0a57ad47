/- How many of each there are, and what they begin with. -/
import Derived.Test.YtjkdaankjondjaaHa
namespace Dk
set_option linter.unusedSimpArgs false
set_option linter.unusedVariables false
set_option linter.unnecessarySimpa false
open Go Go.RowKit
def lim (n : Int) : Nat := if n < 0 then 0 else if 4 < n then 4 else n.toNat
theorem lim_lt (n : Int) (j : Nat) : j < lim n ↔ ((j : Int) < n ∧ j < 4) := by
  unfold lim
  split
  · omega
  · split <;> omega
theorem lim_eq (n : Int) : min (max n 0) 4 = (lim n : Int) := by
  unfold lim
  split
  · omega
  · split <;> omega
theorem lim_le (n : Int) : lim n ≤ 4 := by
  unfold lim
  split
  · omega
  · split <;> omega
def cl (x : Int) : Int := if x < 0 then 0 else if 1048576 < x then 1048576 else x
theorem cl_eq (x : Int) : min (max x 0) 1048576 = cl x := by
  unfold cl
  split
  · omega
  · split <;> omega
theorem cl_ok (x : Int) : 0 ≤ cl x ∧ cl x ≤ 1048576 := by
  unfold cl
  split
  · omega
  · split <;> omega
theorem len_eq (L : Nat) : min (max (L : Int) 0) 4 = ((min L 4 : Nat) : Int) := by omega
/-- The state that gates begin with. -/
def start (m c : Int) (xs : List Int) : St := ⟨List.replicate (lim m) 0, List.replicate (lim m) false, List.replicate (lim m) [], List.replicate (lim c) [], (xs.take 4).map cl, List.replicate (min xs.length 4) []⟩
theorem lens_nil {α : Type} : ∀ n, lens (List.replicate n ([] : List α)) = 0
  | 0 => rfl
  | n + 1 => by
    have := lens_nil (α := α) n
    unfold lens at this ⊢
    rw [List.replicate_succ, List.map_cons, List.sum_cons, this]
    rfl
theorem cts_nil {α : Type} (g : α → Int) (x : Int) : ∀ n, cts g x (List.replicate n ([] : List α)) = 0
  | 0 => rfl
  | n + 1 => by
    have := cts_nil g x n
    unfold cts at this ⊢
    rw [List.replicate_succ, List.map_cons, List.sum_cons, this]
    rfl
theorem start_ok (m c : Int) (xs : List Int) (hx : ∀ x ∈ xs, i64 x) : Ok (start m c xs) 0 := by
  have h1 := lim_le m
  have h2 := lim_le c
  refine ⟨by simp [start], by simp [start], by simp [start]; omega, by simp [start]; omega, fun x hx => ?_, fun l hl x hx => ?_, fun l hl x hx => ?_, fun l hl p hp => ?_, fun x hx => ?_, ?_⟩
  · rw [List.eq_of_mem_replicate hx]; exact ⟨by decide, by decide⟩
  · rw [List.eq_of_mem_replicate hl] at hx; simp at hx
  · rw [List.eq_of_mem_replicate hl] at hx; simp at hx
  · rw [List.eq_of_mem_replicate hl] at hp; simp at hp
  · obtain ⟨y, _, rfl⟩ := List.mem_map.1 hx
    exact cl_ok y
  · show lens _ + lens _ + lens _ ≤ 0
    rw [start, lens_nil, lens_nil, lens_nil]
    exact Nat.le_refl _
theorem getD_nil {α : Type} (n i : Nat) : (List.replicate n ([] : List α)).getD i [] = [] := by
  rw [List.getD_eq_getElem?_getD, List.getElem?_replicate]
  split <;> rfl
theorem start_fair (m c : Int) (xs : List Int) : Fair (start m c xs) := by
  refine ⟨fun x => ?_, fun n _ _ => getD_nil _ _, fun n _ _ => getD_nil _ _⟩
  show cts _ _ _ + cts _ _ _ + cts _ _ _ ≤ 1
  rw [start, cts_nil, cts_nil, cts_nil]
  exact Nat.zero_le _
end Dk
