/- How more arguments are read: bytes, and what is done with a table. Of any program of the model. -/
import Derived.Test.YtoilkojegnfmfaaOpn
namespace Dk
set_option linter.unusedSimpArgs false
set_option linter.unusedVariables false
set_option linter.unnecessarySimpa false
open Go Go.RowKit Go.Deep Go.ChangeShapes Go.WideShapes

theorem wf_u8 {x : Int} (h : (Lit.int .u8 x).wf = true) : ∃ a : Nat, x = a ∧ a < 256 := by
  simp [Lit.wf, IntKind.min, IntKind.max, IntKind.signed, IntKind.bits] at h
  exact ⟨x.toNat, by omega, by omega⟩
/-- One byte. -/
def IsByte (vs : List Value) (a : Nat) : Prop := vs = [.int .u8 (a : Nat)] ∧ a < 256
/-- What is done with a table. -/
structure Act4 where
  what : Int
  n : Int
  handle : Nat
def Act4.zero : Act4 := ⟨0, 0, 0⟩
def IsAct (vs : List Value) (a : Act4) : Prop := vs = [.int .i64 a.what, .int .i64 a.n, .int .u64 (a.handle : Nat)] ∧ i64 a.what ∧ i64 a.n ∧ a.handle < 18446744073709551616

section
variable {H : Type} {enc : TypeId × Value → H} {P : Go.Program} {w : World} {held : Bool}

theorem el_byte {t : TypeId} (ht : P.underlying t = some (.int .u8)) : ∀ fuel cs (x : DataW H × List MemPlace), DataW.trod enc P w 0 (fun _ => true) held fuel t cs = some x → ∃ a, IsByte cs a := by
  intro fuel cs x h
  obtain ⟨n, e, _, hw⟩ := DataW.trod_int ht h
  obtain ⟨a, rfl, ha⟩ := wf_u8 hw
  exact ⟨a, e, ha⟩
theorem el_act {t tI tU : TypeId} {f0 f1 f2 : Field} (ht : P.underlying t = some (.struct #[f0, f1, f2])) (hI : P.underlying tI = some (.int .i64)) (hU : P.underlying tU = some (.int .u64)) (cI : P.cellsOf tI = 1) (cU : P.cellsOf tU = 1) (ct : P.cellsOf t = 3)
    (y0 : f0.type = tI ∧ f0.offset = 0) (y1 : f1.type = tI ∧ f1.offset = 1) (y2 : f2.type = tU ∧ f2.offset = 2) : ∀ fuel cs (x : DataW H × List MemPlace), DataW.trod enc P w 0 (fun _ => true) held fuel t cs = some x → ∃ a, IsAct cs a := by
  intro fuel cs x h
  obtain ⟨xs, n, _, _, hl, hxl, hf⟩ := DataW.trod_struct ht h
  rw [ct] at hl
  match cs, hl, xs, hxl with
  | [v0, v1, v2], _, [x0, x1, x2], _ =>
    have g0 := hf 0 f0 rfl
    have g1 := hf 1 f1 rfl
    have g2 := hf 2 f2 rfl
    rw [y0.1, y0.2, cI] at g0
    rw [y1.1, y1.2, cI] at g1
    rw [y2.1, y2.2, cU] at g2
    simp at g0 g1 g2
    obtain ⟨m0, e0, _, w0⟩ := DataW.trod_int hI g0
    obtain ⟨m1, e1, _, w1⟩ := DataW.trod_int hI g1
    obtain ⟨m2, e2, _, w2⟩ := DataW.trod_int hU g2
    simp at e0 e1 e2
    obtain ⟨u, hu, hlt⟩ := wf_u64 w2
    exact ⟨⟨m0, m1, u⟩, by rw [e0, e1, e2, hu], wf_i64 w0, wf_i64 w1, hlt⟩
end

end Dk
