/- How more arguments are read: requests that come, or are done. Of any program of the model. -/
import Derived.Test.YtpknboeobldbpaaOpm
import Derived.Test.YtpknboeobldbpaaKl
namespace Dk
set_option linter.unusedSimpArgs false
set_option linter.unusedVariables false
set_option linter.unnecessarySimpa false
open Go Go.RowKit Go.Deep Go.ChangeShapes Go.WideShapes

/-- A request that comes, or the one by a number that is done. -/
structure DAct where
  done : Bool
  k : Int
  r : Rq
def DAct.zero : DAct := ⟨false, 0, Rq.zero⟩
def IsDAct (vs : List Value) (a : DAct) : Prop := vs = [.bool a.done, .int .i64 a.k, .int .i64 a.r.who, .int .i64 a.r.block, .bool a.r.write, .int .u64 (a.r.x : Nat)] ∧ i64 a.k ∧ a.r.ok

section
variable {H : Type} {enc : TypeId × Value → H} {P : Go.Program} {w : World} {held : Bool}
theorem el_dact {t tR tB tI tU : TypeId} {f0 f1 f2 g0 g1 g2 g3 : Field} (ht : P.underlying t = some (.struct #[f0, f1, f2])) (hR : P.underlying tR = some (.struct #[g0, g1, g2, g3])) (hB : P.underlying tB = some .bool) (hI : P.underlying tI = some (.int .i64)) (hU : P.underlying tU = some (.int .u64))
    (cB : P.cellsOf tB = 1) (cI : P.cellsOf tI = 1) (cU : P.cellsOf tU = 1) (cR : P.cellsOf tR = 4) (ct : P.cellsOf t = 6)
    (y0 : f0.type = tB ∧ f0.offset = 0) (y1 : f1.type = tI ∧ f1.offset = 1) (y2 : f2.type = tR ∧ f2.offset = 2)
    (z0 : g0.type = tI ∧ g0.offset = 0) (z1 : g1.type = tI ∧ g1.offset = 1) (z2 : g2.type = tB ∧ g2.offset = 2) (z3 : g3.type = tU ∧ g3.offset = 3) :
    ∀ fuel cs (x : DataW H × List MemPlace), DataW.trod enc P w 0 (fun _ => true) held fuel t cs = some x → ∃ a, IsDAct cs a := by
  intro fuel cs x h
  obtain ⟨xs, n, _, _, hl, hxl, hf⟩ := DataW.trod_struct ht h
  rw [ct] at hl
  match cs, hl, xs, hxl with
  | [v0, v1, v2, v3, v4, v5], _, [x0, x1, x2], _ =>
    have g0' := hf 0 f0 rfl
    have g1' := hf 1 f1 rfl
    have g2' := hf 2 f2 rfl
    rw [y0.1, y0.2, cB] at g0'
    rw [y1.1, y1.2, cI] at g1'
    rw [y2.1, y2.2, cR] at g2'
    simp at g0' g1' g2'
    obtain ⟨m0, e0, _⟩ := DataW.trod_bool hB g0'
    obtain ⟨m1, e1, _, w1⟩ := DataW.trod_int hI g1'
    simp at e0 e1
    obtain ⟨ys, n', _, _, hl', hyl, hg⟩ := DataW.trod_struct hR g2'
    match ys, hyl with
    | [p0, p1, p2, p3], _ =>
      have k0 := hg 0 g0 rfl
      have k1 := hg 1 g1 rfl
      have k2 := hg 2 g2 rfl
      have k3 := hg 3 g3 rfl
      rw [z0.1, z0.2, cI] at k0
      rw [z1.1, z1.2, cI] at k1
      rw [z2.1, z2.2, cB] at k2
      rw [z3.1, z3.2, cU] at k3
      simp at k0 k1 k2 k3
      obtain ⟨q0, a0, _, b0⟩ := DataW.trod_int hI k0
      obtain ⟨q1, a1, _, b1⟩ := DataW.trod_int hI k1
      obtain ⟨q2, a2, _⟩ := DataW.trod_bool hB k2
      obtain ⟨q3, a3, _, b3⟩ := DataW.trod_int hU k3
      simp at a0 a1 a2 a3
      obtain ⟨u, hu, hlt⟩ := wf_u64 b3
      exact ⟨⟨m0, m1, ⟨q0, q1, q2, u⟩⟩, by rw [e0, e1, a0, a1, a2, a3, hu], wf_i64 w1, wf_i64 b0, wf_i64 b1, hlt⟩
end
end Dk
