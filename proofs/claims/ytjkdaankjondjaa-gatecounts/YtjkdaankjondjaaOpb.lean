/- Lists of bools as arguments. -/
import Derived.Test.YtjkdaankjondjaaOpn
namespace Dk
set_option linter.unusedSimpArgs false
set_option linter.unusedVariables false
open Go Go.RowKit Go.WideShapes Go.ChangeShapes Go.ChangeAt
section
variable {H : Type} {enc : TypeId × Value → H} {P : Program} {w : World} {held : Bool}
def IsBool (vs : List Value) (a : Bool) : Prop := vs = [.bool a]
theorem el_bool {t : TypeId} (ht : P.underlying t = some .bool) : ∀ fuel cs (x : DataW H × List MemPlace), DataW.trod enc P w 0 (fun _ => true) held fuel t cs = some x → ∃ a, IsBool cs a := by
  intro fuel cs x h
  obtain ⟨m, e, _⟩ := DataW.trod_bool ht h
  exact ⟨m, e⟩
theorem bool_cell {W w : World} {A : Option Addr} {L C : Nat} {xs : List Bool} {B : Nat} (h : Row 1 false IsBool B W A L C xs) {k : Nat} (hk : k < L) (hb : ∀ b o, b < B → w.cell? ⟨b, o, none⟩ = W.cell? ⟨b, o, none⟩) : ∃ b o, A = some ⟨b, o, none⟩ ∧ w.cell? ⟨b, o + k, none⟩ = some (.bool (xs.getD k false)) := by
  obtain ⟨b, o, rfl, h1, h2⟩ := h.cells (by omega)
  obtain ⟨vs, hl, hR, hc⟩ := h2 k hk
  refine ⟨b, o, rfl, ?_⟩
  have := hc 0 (by omega)
  rw [hR, Nat.mul_one, Nat.add_zero] at this
  rw [hb _ _ h1, this]
  rfl
end
end Dk
