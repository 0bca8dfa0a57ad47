/- How long a slice that was read is, by its reading. Of any program of the model. -/
import Derived.Test.YthpphicgkkhbfaaOpn
import Derived.SizedLaws
namespace Dk
open Go Go.RowKit Go.Deep Go.ChangeShapes Go.WideShapes
set_option maxRecDepth 100000 in
theorem row_elems {H : Type} {enc : TypeId × Value → H} {P : Go.Program} {w : World} {held : Bool} {tS t : TypeId} {A : Option Addr} {L C : Nat} {d : DataW H} {ps : List MemPlace} (hS : P.underlying tS = some (.slice t)) (h : DataW.Trod enc P w 0 (fun _ => true) held tS (.slice A L C) d ps) :
    L = 0 ∨ ∃ elems spare, d = .slice elems spare ∧ elems.length = L ∧ spare.length = C - L := by
  obtain ⟨fuel, h⟩ := h
  rcases open_slice hS h with ⟨e, _⟩ | ⟨a, len, cap, m, fu, D, Pl, e, _, hl, hm, hmm, hx, _⟩
  · left
    have e' : Value.slice A L C = .slice none 0 0 := by simpa [Value.cells] using e
    injection e' with _ e1 _
  · right
    have e' : Value.slice A L C = .slice (some a) len cap := by simpa [Value.cells] using e
    injection e' with _ e1 e2
    subst e1 e2
    simp only [if_true] at hmm
    subst hmm
    injection hx with hx _
    exact ⟨_, _, hx, by simp, by simp⟩
end Dk
