/- How more arguments are read: who picks, or comes. Of any program of the model. -/
import Derived.Test.YtoilkojegnfmfaaOpm
namespace Dk
set_option linter.unusedSimpArgs false
set_option linter.unusedVariables false
set_option linter.unnecessarySimpa false
open Go Go.RowKit Go.Deep Go.ChangeShapes Go.WideShapes

/-- Someone that picks, or comes. -/
structure RAct where
  pick : Bool
  proc : Int
  thread : Int
def RAct.zero : RAct := ⟨false, 0, 0⟩
def IsRAct (vs : List Value) (a : RAct) : Prop := vs = [.bool a.pick, .int .i64 a.proc, .int .i64 a.thread] ∧ i64 a.proc ∧ i64 a.thread

section
variable {H : Type} {enc : TypeId × Value → H} {P : Go.Program} {w : World} {held : Bool}
theorem el_ract {t tB tI : TypeId} {f0 f1 f2 : Field} (ht : P.underlying t = some (.struct #[f0, f1, f2])) (hB : P.underlying tB = some .bool) (hI : P.underlying tI = some (.int .i64)) (cB : P.cellsOf tB = 1) (cI : P.cellsOf tI = 1) (ct : P.cellsOf t = 3)
    (y0 : f0.type = tB ∧ f0.offset = 0) (y1 : f1.type = tI ∧ f1.offset = 1) (y2 : f2.type = tI ∧ f2.offset = 2) : ∀ fuel cs (x : DataW H × List MemPlace), DataW.trod enc P w 0 (fun _ => true) held fuel t cs = some x → ∃ a, IsRAct cs a := by
  intro fuel cs x h
  obtain ⟨xs, n, _, _, hl, hxl, hf⟩ := DataW.trod_struct ht h
  rw [ct] at hl
  match cs, hl, xs, hxl with
  | [v0, v1, v2], _, [x0, x1, x2], _ =>
    have g0 := hf 0 f0 rfl
    have g1 := hf 1 f1 rfl
    have g2 := hf 2 f2 rfl
    rw [y0.1, y0.2, cB] at g0
    rw [y1.1, y1.2, cI] at g1
    rw [y2.1, y2.2, cI] at g2
    simp at g0 g1 g2
    obtain ⟨m0, e0, _⟩ := DataW.trod_bool hB g0
    obtain ⟨m1, e1, _, w1⟩ := DataW.trod_int hI g1
    obtain ⟨m2, e2, _, w2⟩ := DataW.trod_int hI g2
    simp at e0 e1 e2
    exact ⟨⟨m0, m1, m2⟩, by rw [e0, e1, e2], wf_i64 w1, wf_i64 w2⟩
end
theorem ract_cell {B : Nat} {w : World} {A : Option Addr} {L C : Nat} {xs : List RAct} (h : Row 3 RAct.zero IsRAct B w A L C xs) (h0 : 0 < L) : ∃ b o, A = some ⟨b, o, none⟩ ∧ b < B ∧ ∀ k, k < L → ∃ a : RAct, w.cell? ⟨b, o + k * 3, none⟩ = some (.bool a.pick) ∧ w.cell? ⟨b, o + k * 3 + 1, none⟩ = some (.int .i64 a.proc) ∧ w.cell? ⟨b, o + k * 3 + 2, none⟩ = some (.int .i64 a.thread) ∧ i64 a.proc ∧ i64 a.thread := by
  obtain ⟨b, o, e, hb, hc⟩ := h.cells h0
  refine ⟨b, o, e, hb, fun k hk => ?_⟩
  obtain ⟨vs, h1, ⟨rfl, h2, h3⟩, h4⟩ := hc k hk
  exact ⟨_, h4 0 (by omega), h4 1 (by omega), h4 2 (by omega), h2, h3⟩
end Dk
