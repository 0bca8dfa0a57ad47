/- Who waits, one by one, and what the statement on plays does with lists. -/
import Derived.Test.YtiaegeaogleepaaWy
import Derived.Test.YtiaegeaogleepaaOpd
namespace Dk
set_option linter.unusedSimpArgs false
set_option linter.unusedVariables false
set_option linter.unnecessarySimpa false
open Go Go.RowKit

theorem keys_length (L : List (Int × Int)) : (keysOf L).length = L.length := by simp [keysOf]
theorem ends_length (L : List (Int × Int)) : (endsOf L).length = L.length := by simp [endsOf]
theorem keys_append (L M : List (Int × Int)) : keysOf (L ++ M) = keysOf L ++ keysOf M := by simp [keysOf]
theorem ends_append (L M : List (Int × Int)) : endsOf (L ++ M) = endsOf L ++ endsOf M := by simp [endsOf]
theorem take_next {L : List (Int × Int)} {k : Nat} (hk : k < L.length) : L.take (k + 1) = L.take k ++ [((keysOf L).getD k 0, (endsOf L).getD k 0)] := by
  rw [List.take_add_one, List.getElem?_eq_getElem hk]
  have e1 : (keysOf L).getD k 0 = L[k].1 := by simp [keysOf, List.getD, hk]
  have e2 : (endsOf L).getD k 0 = L[k].2 := by simp [endsOf, List.getD, hk]
  rw [e1, e2]
  rfl
section
variable {t x c : Int} {l : List (Int × Int)}
theorem left_stay (h : t < c) : leftOf t (l ++ [(x, c)]) = leftOf t l ++ [(x, c)] := by simp [leftOf, h]
theorem left_gone (h : c ≤ t) : leftOf t (l ++ [(x, c)]) = leftOf t l := by
  have hd : decide (t < c) = false := by simp; omega
  simp [leftOf, hd]
theorem due_stay (h : t < c) : dueOf t (l ++ [(x, c)]) = dueOf t l := by
  have hd : decide (c ≤ t) = false := by simp; omega
  simp [dueOf, keysOf, hd]
theorem due_gone (h : c ≤ t) : dueOf t (l ++ [(x, c)]) = dueOf t l ++ [x] := by simp [dueOf, keysOf, h]
theorem left_length (t : Int) (l : List (Int × Int)) : (leftOf t l).length ≤ l.length := List.length_filter_le _ _
end
theorem mem_contains {ks : List Int} {x : Int} : ks.contains x = true ↔ x ∈ ks := by simp
/-- How far the round through who waits has come. -/
structure Went3 (t : Int) (Lw : List (Int × Int)) (k : Nat) (dl ll el : List Int) : Prop where
  left : ll = keysOf (leftOf t (Lw.take k))
  ends : el = endsOf (leftOf t (Lw.take k))
  rising : Rising dl
  due : dl.Perm (dueOf t (Lw.take k))
variable {t : Int} {Lw : List (Int × Int)} {k p : Nat} {dl ll el : List Int} {x c : Int}
theorem Went3.start : Went3 t Lw 0 [] [] [] := ⟨rfl, rfl, List.Pairwise.nil, List.Perm.refl _⟩
theorem Went3.stay (h : Went3 t Lw k dl ll el) (hk : k < Lw.length) (hx : (keysOf Lw).getD k 0 = x) (hc : (endsOf Lw).getD k 0 = c) (ht : t < c) : Went3 t Lw (k + 1) dl (ll ++ [x]) (el ++ [c]) := by
  have e := take_next hk
  rw [hx, hc] at e
  exact ⟨by rw [e, left_stay ht, keys_append, ← h.left]; rfl, by rw [e, left_stay ht, ends_append, ← h.ends]; rfl, h.rising, by rw [e, due_stay ht]; exact h.due⟩
theorem Went3.gone (h : Went3 t Lw k dl ll el) (hk : k < Lw.length) (hx : (keysOf Lw).getD k 0 = x) (hc : (endsOf Lw).getD k 0 = c) (ht : c ≤ t) (hp : p ≤ dl.length) (h1 : ∀ j, j < p → dl.getD j 0 < x) (h2 : p < dl.length → x ≤ dl.getD p 0) : Went3 t Lw (k + 1) (insAt dl p x) ll el := by
  have e := take_next hk
  rw [hx, hc] at e
  refine ⟨by rw [e, left_gone ht]; exact h.left, by rw [e, left_gone ht]; exact h.ends, ins_rising h.rising hp h1 h2, ?_⟩
  rw [e, due_gone ht]
  exact ((ins_perm dl p x).trans (List.Perm.cons _ h.due)).trans (List.perm_append_singleton _ _).symm
theorem Went3.all (h : Went3 t Lw k dl ll el) (hk : Lw.length ≤ k) : ll = keysOf (leftOf t Lw) ∧ el = endsOf (leftOf t Lw) ∧ Rising dl ∧ dl.Perm (dueOf t Lw) := by
  have e : Lw.take k = Lw := List.take_of_length_le hk
  have := h
  exact ⟨by rw [← e]; exact h.left, by rw [← e]; exact h.ends, h.rising, by rw [← e]; exact h.due⟩
/-- The cells of an act of two numbers. -/
theorem act2_cell {B : Nat} {w : World} {A : Option Addr} {L C : Nat} {ac : List (List Int)} (h : Row 2 [] IsInts B w A L C ac) (h0 : 0 < L) : ∃ b o, A = some ⟨b, o, none⟩ ∧ b < B ∧ ∀ k, k < L → ∃ q y, i64 q ∧ i64 y ∧ w.cell? ⟨b, o + k * 2, none⟩ = some (.int .i64 q) ∧ w.cell? ⟨b, o + k * 2 + 1, none⟩ = some (.int .i64 y) := by
  obtain ⟨b, o, e, hb, hc⟩ := h.cells h0
  refine ⟨b, o, e, hb, fun k hk => ?_⟩
  obtain ⟨vs, h1, ⟨rfl, h2⟩, h3⟩ := hc k hk
  match hm : ac.getD k [], h1, h2, h3 with
  | [q, y], _, h2, h3 => exact ⟨q, y, h2 q (by simp), h2 y (by simp), h3 0 (by omega), h3 1 (by omega)⟩
end Dk

namespace Go.Proofs.Ytiaegeaogleepaa
set_option linter.unusedSimpArgs false
set_option linter.unusedVariables false
set_option linter.unnecessarySimpa false
open Go.RowKit Go.Maps
section
variable {W w : World} {M bd : Nat} {now : Int} {L : List (Int × Int)} {us us1 us2 : List Row1} {bs : List Box1}
/-- A new list in an old one's place. -/
theorem Pk.fresh {w' : World} {u u' : Row1} (h : Pk W M bd w now L (us1 ++ u :: us2) bs) (b : Below w.heap.size w w') (l : w'.ownsRow w.heap.size 3 1 u'.1 u'.2.length (Dk.is u'.2)) (hw : ∀ y ∈ u'.2, Dk.i64 y) : Pk W M bd w' now L (us1 ++ u' :: us2) bs :=
  h.turn (Dk.Away.of_up b) (Dk.owns_base l h.out.size) (Dk.From.new l) hw
theorem In_pk {A : Option Addr} {C : Nat} {xs : List Int} (h : Pk W M bd w now L us bs) (hu : (.slice A xs.length C, xs) ∈ us) (x : Int) :
    Calls Try.prog 10 #[.slice A xs.length C, .int .i64 x] w fun e w' => e = .returned (.bool (xs.contains x)) ∧ w' = w := In_any A xs.length C xs x w (h.slice hu)
theorem Ints_pk {A A' : Option Addr} {C C' : Nat} {xs ys : List Int} (h : Pk W M bd w now L us bs) (hu : (.slice A xs.length C, xs) ∈ us) (hu' : (.slice A' ys.length C', ys) ∈ us) (e : xs = ys) :
    Calls Try.prog 7 #[.slice A xs.length C, .slice A' ys.length C'] w fun e w' => e = .returned (.bool true) ∧ Pk W M bd w' now L us bs := by
  subst e
  exact (Ints_same A A' xs.length C C' xs w (h.slice hu) (h.slice hu')).mono fun e w' g => ⟨g.1, h.below g.2⟩
/-- What is read of a list that is not empty. -/
theorem Pk.cell {b o C : Nat} {xs : List Int} (h : Pk W M bd w now L us bs) (hu : (.slice (some ⟨b, o, none⟩) xs.length C, xs) ∈ us) {k : Nat} (hk : k < xs.length) : w.cell? ⟨b, o + k, none⟩ = some (.int .i64 (xs.getD k 0)) := by
  have s := h.slice hu
  obtain ⟨b', o', e, _, hc⟩ := s.cells (by omega)
  obtain ⟨rfl, rfl⟩ : b = b' ∧ o = o' := by simpa using e
  exact hc k hk
end

end Go.Proofs.Ytiaegeaogleepaa
