/- What stays of a frame and of the words behind a plain instruction. -/
import Derived.Test.YtmkeniobnjpohaaFr
namespace Dk
set_option linter.unusedSimpArgs false
set_option linter.unusedVariables false
set_option linter.unnecessarySimpa false
open Go Go.RowKit
theorem ite_fn (c : Prop) [Decidable c] (x y : Frm) (v : Int) (hx : x.fn = v) (hy : y.fn = v) : (if c then x else y).fn = v := by
  split
  · exact hx
  · exact hy
theorem ite_r (c : Prop) [Decidable c] (x y : Frm) (k v : Nat) (hx : x.r k = v) (hy : y.r k = v) : (if c then x else y).r k = v := by
  split
  · exact hx
  · exact hy
theorem to_fn' (f : Frm) (p : Int) : (f.to p).fn = f.fn := by obtain ⟨a, b, c⟩ := f; rfl
theorem to_r' (f : Frm) (p : Int) (k : Nat) : (f.to p).r k = f.r k := by obtain ⟨a, b, c⟩ := f; rfl
theorem set_fn' (f : Frm) (p : Int) (k v : Nat) : ((f.to p).set k v).fn = f.fn := by obtain ⟨a, b, c⟩ := f; rfl
theorem set_r' (f : Frm) (p : Int) (j v k : Nat) (h : k ≠ j) : ((f.to p).set j v).r k = f.r k := by
  obtain ⟨a, b, c⟩ := f
  show (if k = j then v else c k) = c k
  rw [if_neg h]
theorem done_fn (f : Frm) (i : Ins) (m : List Nat) : (doneF f i m).fn = f.fn := by
  unfold doneF
  refine ite_fn _ _ _ _ (to_fn' _ _) ?_
  refine ite_fn _ _ _ _ (ite_fn _ _ _ _ (to_fn' _ _) (to_fn' _ _)) ?_
  refine ite_fn _ _ _ _ (set_fn' _ _ _ _) ?_
  refine ite_fn _ _ _ _ (set_fn' _ _ _ _) ?_
  refine ite_fn _ _ _ _ (to_fn' _ _) ?_
  exact ite_fn _ _ _ _ (set_fn' _ _ _ _) (set_fn' _ _ _ _)
theorem done_r (f : Frm) (i : Ins) (m : List Nat) (k : Nat) (h : k ≠ i.a.toNat) : (doneF f i m).r k = f.r k := by
  unfold doneF
  refine ite_r _ _ _ _ _ (to_r' _ _ _) ?_
  refine ite_r _ _ _ _ _ (ite_r _ _ _ _ _ (to_r' _ _ _) (to_r' _ _ _)) ?_
  refine ite_r _ _ _ _ _ (set_r' _ _ _ _ _ h) ?_
  refine ite_r _ _ _ _ _ (set_r' _ _ _ _ _ h) ?_
  refine ite_r _ _ _ _ _ (to_r' _ _ _) ?_
  exact ite_r _ _ _ _ _ (set_r' _ _ _ _ _ h) (set_r' _ _ _ _ _ h)

/-- How many of the first k words two lists differ in. -/
def diffs (a b : List Nat) : Nat → Nat
  | 0 => 0
  | k + 1 => diffs a b k + (if a.getD k 0 = b.getD k 0 then 0 else 1)
theorem diffs_same (a : List Nat) : ∀ k, diffs a a k = 0
  | 0 => rfl
  | k + 1 => by unfold diffs; rw [diffs_same a k, if_pos rfl]
theorem diffs_set (m : List Nat) (x v : Nat) : ∀ k, diffs (m.set x v) m k ≤ (if x < k then 1 else 0)
  | 0 => by simp [diffs]
  | k + 1 => by
    unfold diffs
    have ih := diffs_set m x v k
    by_cases e : x = k
    · rw [if_neg (show ¬ x < k by omega)] at ih
      rw [if_pos (show x < k + 1 by omega)]
      split <;> omega
    · have : (m.set x v).getD k 0 = m.getD k 0 := by
        rw [List.getD_eq_getElem?_getD, List.getD_eq_getElem?_getD, List.getElem?_set_ne e]
      rw [if_pos this]
      split at ih
      · rw [if_pos (show x < k + 1 by omega)]; omega
      · omega
theorem diffs_done (f : Frm) (i : Ins) (m : List Nat) (k : Nat) : diffs (doneM f i m) m k ≤ 1 ∧ (i.op ≠ 19 → diffs (doneM f i m) m k = 0) := by
  unfold doneM
  by_cases h : i.op = 19
  · rw [if_pos h]
    refine ⟨?_, fun h' => absurd h h'⟩
    have := diffs_set m (f.r i.a.toNat) (f.r i.b.toNat) k
    split at this <;> omega
  · rw [if_neg h, diffs_same]
    exact ⟨by omega, fun _ => rfl⟩
end Dk
