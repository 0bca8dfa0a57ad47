/- The list beside a row grows; how a row that was filled is emptied. -/
import Derived.Test.YtgaionhlfnpdhaaDt
namespace Dk
set_option linter.unusedSimpArgs false
set_option linter.unusedVariables false
set_option linter.unnecessarySimpa false
open Go Go.RowKit
/-- A row that was filled ahead, or behind. -/
def dir (f : Bool) (zs : List Int) : List Int := if f then zs.reverse else zs
theorem dir_len (f : Bool) (zs : List Int) : (dir f zs).length = zs.length := by cases f <;> simp [dir]
theorem dir_has (f : Bool) (zs : List Int) (x : Int) : (dir f zs).contains x = zs.contains x := by
  cases f
  · rfl
  · simp only [dir, if_true]
    rw [Bool.eq_iff_iff]
    simp
/-- What is left of it. -/
def rest (f g : Bool) (zs : List Int) (i : Nat) : List Int := dir f (if f = g then zs.drop i else zs.take (zs.length - i))
theorem rest_zero (f g : Bool) (zs : List Int) : rest f g zs 0 = dir f zs := by
  unfold rest
  split <;> simp
theorem rest_end (f g : Bool) (zs : List Int) : rest f g zs zs.length = [] := by
  unfold rest dir
  split <;> split <;> simp
theorem drop_at (zs : List Int) (i : Nat) (h : i < zs.length) : zs.drop i = zs.getD i 0 :: zs.drop (i + 1) := by
  rw [List.drop_eq_getElem_cons h]
  simp [List.getD, h]
theorem take_at (zs : List Int) (i : Nat) (h : i < zs.length) : zs.take (zs.length - i) = zs.take (zs.length - (i + 1)) ++ [zs.getD (zs.length - 1 - i) 0] := by
  rw [show zs.length - i = (zs.length - (i + 1)) + 1 by omega, List.take_add_one, List.getElem?_eq_getElem (by omega)]
  simp [List.getD, show zs.length - 1 - i = zs.length - (i + 1) by omega, show zs.length - (i + 1) < zs.length by omega]
theorem rest_ff (zs : List Int) (i : Nat) (h : i < zs.length) : rest false false zs i = zs.getD i 0 :: rest false false zs (i + 1) := by
  simp only [rest, dir, if_true, Bool.false_eq_true, if_false]
  exact drop_at zs i h
theorem rest_ft (zs : List Int) (i : Nat) (h : i < zs.length) : rest false true zs i = rest false true zs (i + 1) ++ [zs.getD (zs.length - 1 - i) 0] := by
  simp only [rest, dir, if_true, Bool.false_eq_true, if_false]
  exact take_at zs i h
theorem rest_tt (zs : List Int) (i : Nat) (h : i < zs.length) : rest true true zs i = rest true true zs (i + 1) ++ [zs.getD i 0] := by
  simp only [rest, dir, if_true]
  rw [drop_at zs i h, List.reverse_cons]
theorem rest_tf (zs : List Int) (i : Nat) (h : i < zs.length) : rest true false zs i = zs.getD (zs.length - 1 - i) 0 :: rest true false zs (i + 1) := by
  simp only [rest, dir, if_true, if_false, Bool.true_eq_false]
  rw [take_at zs i h, List.reverse_append]
  rfl
theorem rest_len (f g : Bool) (zs : List Int) (i : Nat) : (rest f g zs i).length ≤ zs.length := by
  unfold rest
  rw [dir_len]
  split <;> simp
end Dk
namespace Go.Proofs.Ytgaionhlfnpdhaa
set_option linter.unusedSimpArgs false
set_option linter.unusedVariables false
set_option linter.unnecessarySimpa false
open Go.RowKit

/-- 'append' of one number to the list. -/
theorem Append_two {W w : World} {bd : Nat} {xs ys : List Int} {u : Value} (h : Two W bd w xs u ys) (y : Int) (hy : Dk.i64 y) (hl : ys.length ≤ 1000) :
    ∃ A C w', (Builtin.append_ #[25, 25] 25 #[u, .slice (some ⟨w.heap.size, 0, none⟩) 1 1]).run Try.prog (w.alloc (.cells #[.int .i64 y] 3)) = .ok (.slice A (ys.length + 1) C) w' ∧ Two W bd w' xs (.slice A (ys.length + 1) C) (ys ++ [y]) := by
  obtain ⟨w1, e1⟩ : ∃ w1, w1 = w.alloc (.cells #[.int .i64 y] 3) := ⟨_, rfl⟩
  have u1 : Below w.heap.size w w1 := by rw [e1]; exact Dk.up_alloc (Below.refl _ _) _
  have h1 := h.below u1
  have p := Hid.out h1
  obtain ⟨v', w', hr, ho, hg, hf, _⟩ := append_from W.heap.size 25 u (Dk.is ys) ys.length w1 p.list ⟨w.heap.size, 0, none⟩ 1 1 [.int .i64 y] rfl (one_new w w1 _ 3 e1) (fun u hu => by simp at hu; subst hu; rfl) (by omega) p.up.size
  obtain ⟨A, C, rfl, _, _⟩ := Dk.owns_slice ho
  have ho' : w'.ownsRow W.heap.size 3 1 (.slice A (ys.length + 1) C) (ys ++ [y]).length (Dk.is (ys ++ [y])) := by rw [List.length_append, Dk.is, List.map_append]; exact ho
  rw [e1] at hr
  refine ⟨A, C, w', hr, h1.turn (Dk.Away.of_grown hg (fun k hk => .inl hk)) ho' hf ?_⟩
  intro z hz
  rcases List.mem_append.1 hz with hz | hz
  · exact p.wf z hz
  · rw [List.mem_singleton] at hz; rw [hz]; exact hy

/-- The list begins. -/
theorem Two.empty {W w : World} {bd : Nat} {xs ys : List Int} {u : Value} (h : Two W bd w xs u ys) : Two W bd (w.alloc (.cells #[] 3)) xs (.slice (some ⟨w.heap.size, 0, none⟩) 0 0) [] :=
  h.new (Dk.up_alloc (Below.refl _ _) _) (World.ownsRow_lit w #[] 0 (Nat.le_refl _) (Nat.zero_le _) rfl) (fun y hy => by simp at hy)

end Go.Proofs.Ytgaionhlfnpdhaa
