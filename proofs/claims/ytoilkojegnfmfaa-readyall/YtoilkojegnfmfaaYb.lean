/- What the rows must do, whatever they are made of; what the walks of layer 13's statements have in common. -/
import Derived.Test.YtoilkojegnfmfaaYa
import Derived.Test.YtoilkojegnfmfaaNx
import Derived.Test.YtoilkojegnfmfaaQy
import Derived.Test.YtoilkojegnfmfaaOpn
import Derived.Test.YtoilkojegnfmfaaOpm
import Derived.Test.YtoilkojegnfmfaaChecked
import Derived.Test.YtoilkojegnfmfaaDx
import Derived.BigQuiet
import Derived.WalkSpells
import Derived.WalkLawsBesides
import Derived.Deep.Draws
namespace Dk
set_option linter.unusedSimpArgs false
set_option linter.unusedVariables false
set_option linter.unnecessarySimpa false
open Go Go.RowKit
instance (x : Int) : Decidable (i64 x) := by unfold i64; infer_instance
def nRows (p : Int) : Nat := (max 0 (min p 64)).toNat
theorem sli_up {w w' : World} {A : Option Addr} {L C : Nat} {xs : List Int} (h : SlI w.heap.size w A L C xs) (u : Below w.heap.size w w') : SlI w'.heap.size w' A L C xs := (h.below u (Nat.le_refl _)).more u.size
theorem sli_read {B : Nat} {w : World} {A : Option Addr} {L C : Nat} {xs : List Int} (h : SlI B w A L C xs) (k : Nat) (hk : k < L) : ∃ b o, A = some ⟨b, o, none⟩ ∧ ∀ w', Below B w w' → w'.cell? ⟨b, o + k, none⟩ = some (.int .i64 (xs.getD k 0)) := by
  obtain ⟨b, o, e, hlt, hc⟩ := h.cells (by omega)
  exact ⟨b, o, e, fun w' u => by rw [u.cell (by show b < B; exact hlt)]; exact hc k hk⟩
theorem u8_cell {B : Nat} {w : World} {A : Option Addr} {L C : Nat} {xs : List Nat} (h : Row 1 0 IsByte B w A L C xs) (h0 : 0 < L) : ∃ b o, A = some ⟨b, o, none⟩ ∧ b < B ∧ ∀ k, k < L → w.cell? ⟨b, o + k, none⟩ = some (.int .u8 ((xs.getD k 0 : Nat) : Nat)) ∧ xs.getD k 0 < 256 := by
  obtain ⟨b, o, e, hb, hc⟩ := h.cells h0
  refine ⟨b, o, e, hb, fun k hk => ?_⟩
  obtain ⟨vs, h1, ⟨rfl, hlt⟩, h3⟩ := hc k hk
  have := h3 0 (by omega)
  rw [Nat.mul_one, Nat.add_zero] at this
  rw [this]
  exact ⟨rfl, hlt⟩
def cells (xs : List Int) : Array Value := (xs.map (Value.int .i64)).toArray
theorem cells_at {xs : List Int} {k : Nat} (h : k < xs.length) : (cells xs)[k]? = some (.int .i64 (xs.getD k 0)) := by
  unfold cells
  simp [List.getD, h]
theorem sli_box {w : World} {b L : Nat} {t : TypeId} {xs : List Int} (h : Box w b (cells xs) t) (hl : xs.length = L) (hm : L ≤ 1000) (hx : ∀ k, k < L → i64 (xs.getD k 0)) : SlI w.heap.size w (some ⟨b, 0, none⟩) L L xs :=
  ⟨hl, Nat.le_refl _, by unfold maxLen; omega, fun x hx' => by
    obtain ⟨k, hk, rfl⟩ := List.getElem_of_mem hx'
    have := hx k (by omega)
    simpa [List.getD, hk] using this, fun h0 => ⟨b, 0, rfl, h.lt, fun k hk => by rw [Nat.zero_add, h.cell]; exact cells_at (by omega)⟩⟩
theorem sli_lit {w w' : World} {xs : List Int} {cs : Array Value} {t : TypeId} (L : Nat) (e : w' = w.alloc (.cells cs t)) (hc : cs = cells xs) (hl : xs.length = L) (hm : L ≤ 1000) (hx : ∀ k, k < L → i64 (xs.getD k 0)) : SlI w'.heap.size w' (some ⟨w.heap.size, 0, none⟩) L L xs := by
  subst hc
  exact sli_box (t := t) (by rw [e]; exact Box.new _ _ _) hl hm hx
/-- A list of its own, as a slice of numbers. -/
theorem Sep.ints {W w : World} {ts : List Thing} {e : TypeId} {A : Option Addr} {n C : Nat} {xs : List Int} (h : Sep W w ts) (ht : rowOf e 1 (.slice A n C) n (is xs) ∈ ts) (hn : xs.length = n) (hx : ∀ x ∈ xs, i64 x) : SlI w.heap.size w A n C xs := by
  have r := h.row ht
  subst hn
  obtain ⟨A', C', ev, q⟩ := owns_ints r hx
  injection ev with q1 _ q2
  subst q1
  subst q2
  exact q
end Dk
namespace Go.Proofs.Ytoilkojegnfmfaa
set_option linter.unusedSimpArgs false
set_option linter.unusedVariables false
set_option linter.unnecessarySimpa false
open Go.RowKit

/-- What the rows do: 'R0 b rs ts': the things ts, of which b is the first one's place, are the rows rs. -/
structure RowsI (R0 : Nat → List (List Int) → List Dk.Thing → Prop) : Prop where
  new : ∀ {W w : World} {us : List Dk.Thing}, Dk.Sep W w us → ∀ p : Int, Dk.i64 p → Calls Try.prog 6 #[.int .i64 p] w fun e w' => ∃ b ts, e = .returned (.pointer (some ⟨b, 0, none⟩)) ∧ R0 b (List.replicate (Dk.nRows p) []) ts ∧ Dk.Sep W w' (us ++ ts)
  add : ∀ {W w : World} {b N : Nat} {rs : List (List Int)} {us ts : List Dk.Thing}, R0 b rs ts → Dk.Sep W w (us ++ ts) → Dk.Few N rs → N ≤ 200 → ∀ p t : Int, Dk.i64 p → Dk.i64 t → Calls Try.prog 10 #[.pointer (some ⟨b, 0, none⟩), .int .i64 p, .int .i64 t] w fun e w' => e = .returned (.bool (Dk.canAdd rs p t)) ∧ ∃ ts', R0 b (Dk.addTo rs p t) ts' ∧ Dk.Sep W w' (us ++ ts')
  pick : ∀ {W w : World} {b N : Nat} {rs : List (List Int)} {us ts : List Dk.Thing}, R0 b rs ts → Dk.Sep W w (us ++ ts) → Dk.Few N rs → N ≤ 200 → ∀ p : Int, Dk.i64 p → Calls Try.prog 7 #[.pointer (some ⟨b, 0, none⟩), .int .i64 p] w fun e w' => e = .returned (.tuple #[.int .i64 (Dk.pickT rs p), .bool (Dk.pickB rs p)]) ∧ ∃ ts', R0 b (Dk.pickR rs p) ts' ∧ Dk.Sep W w' (us ++ ts')
  where_ : ∀ {W w : World} {b N : Nat} {rs : List (List Int)} {us ts : List Dk.Thing}, R0 b rs ts → Dk.Sep W w (us ++ ts) → Dk.Few N rs → N ≤ 200 → ∀ t : Int, Dk.i64 t → Calls Try.prog 13 #[.pointer (some ⟨b, 0, none⟩), .int .i64 t] w fun e w' => ∃ k : Int, e = .returned (.tuple #[.int .i64 k, .bool (decide (Dk.whereK rs t < rs.length))]) ∧ (Dk.whereK rs t < rs.length → k = (Dk.whereK rs t : Nat)) ∧ Dk.i64 k ∧ ∃ ts', R0 b rs ts' ∧ Dk.Sep W w' (us ++ ts')
  empty : ∀ {W w : World} {b N : Nat} {rs : List (List Int)} {us ts : List Dk.Thing}, R0 b rs ts → Dk.Sep W w (us ++ ts) → Dk.Few N rs → N ≤ 200 → Calls Try.prog 15 #[.pointer (some ⟨b, 0, none⟩)] w fun e w' => e = .returned (.bool (Dk.emptyR rs)) ∧ ∃ ts', R0 b rs ts' ∧ Dk.Sep W w' (us ++ ts')
  row : ∀ {W w : World} {b N : Nat} {rs : List (List Int)} {us ts : List Dk.Thing}, R0 b rs ts → Dk.Sep W w (us ++ ts) → Dk.Few N rs → N ≤ 200 → ∀ p : Int, Dk.i64 p → Calls Try.prog 12 #[.pointer (some ⟨b, 0, none⟩), .int .i64 p] w fun e w' => ∃ A C, e = .returned (.slice A (Dk.rowL rs p).length C) ∧ ∃ ts', R0 b rs ts' ∧ Dk.Sep W w' (Dk.rowOf 3 1 (.slice A (Dk.rowL rs p).length C) (Dk.rowL rs p).length (Dk.is (Dk.rowL rs p)) :: (us ++ ts'))
  add_nil : ∀ (w : World) (p t : Int), Calls Try.prog 10 #[.pointer none, .int .i64 p, .int .i64 t] w fun e w' => e = .returned (.bool false) ∧ Below w.heap.size w w'
  pick_nil : ∀ (w : World) (p : Int), Calls Try.prog 7 #[.pointer none, .int .i64 p] w fun e w' => e = .returned (.tuple #[.int .i64 0, .bool false]) ∧ Below w.heap.size w w'
  where_nil : ∀ (w : World) (t : Int), Calls Try.prog 13 #[.pointer none, .int .i64 t] w fun e w' => (∃ k : Int, e = .returned (.tuple #[.int .i64 k, .bool false])) ∧ Below w.heap.size w w'
  empty_nil : ∀ (w : World), Calls Try.prog 15 #[.pointer none] w fun e w' => e = .returned (.bool true) ∧ Below w.heap.size w w'
  row_nil : ∀ (w : World) (p : Int), Calls Try.prog 12 #[.pointer none, .int .i64 p] w fun e w' => (∃ A C, e = .returned (.slice A 0 C)) ∧ Below w.heap.size w w'

end Go.Proofs.Ytoilkojegnfmfaa
