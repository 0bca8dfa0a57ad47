/- How a vessel is read as an argument: two whole numbers and a list of events. Of any program of the model. -/
import Derived.Test.YthpphicgkkhbfaaOpn
import Derived.Test.YthpphicgkkhbfaaOpd
import Derived.Test.YthpphicgkkhbfaaOsz
namespace Dk
set_option linter.unusedSimpArgs false
set_option linter.unusedVariables false
set_option linter.unnecessarySimpa false
open Go Go.RowKit Go.Deep Go.ChangeShapes Go.WideShapes
section
variable {H : Type} {enc : TypeId × Value → H} {P : Go.Program} {w : World} {held : Bool}
set_option maxRecDepth 100000 in
theorem open_ves {t tI tS tE : TypeId} {f0 f1 f2 : Field} {v : Value} {d : DataW H} {ps : List MemPlace} {base : Nat} (ht : P.underlying t = some (.struct #[f0, f1, f2]))
    (hI : P.underlying tI = some (.int .i64)) (hS : P.underlying tS = some (.slice tE)) (cI : P.cellsOf tI = 1) (cS : P.cellsOf tS = 1) (cE : P.cellsOf tE = 3) (ct : P.cellsOf t = 3)
    (hel : ∀ fuel cs (x : DataW H × List MemPlace), DataW.trod enc P w 0 (fun _ => true) held fuel tE cs = some x → ∃ a, IsInts cs a)
    (y0 : f0.type = tI ∧ f0.offset = 0) (y1 : f1.type = tI ∧ f1.offset = 1) (y2 : f2.type = tS ∧ f2.offset = 2)
    (hv : Value.okWide P w .any base t v) (h : DataW.Trod enc P w 0 (fun _ => true) held t v d ps) :
    ∃ a b A L C xs, i64 a ∧ i64 b ∧ v = .agg #[.int .i64 a, .int .i64 b, .slice A L C] ∧ Row 3 [] IsInts w.heap.size w A L C xs ∧ (L = 0 ∨ ∃ d0 d1 el sp, d = .agg [d0, d1, .slice el sp] ∧ el.length = L ∧ sp.length = C - L) := by
  obtain ⟨fuel, h⟩ := h
  unfold Value.okWide at hv
  rw [ht] at hv
  obtain ⟨cs, rfl, _, _⟩ := hv
  have h' : DataW.trod enc P w 0 (fun _ => true) held fuel t cs.toList = some (d, ps) := h
  obtain ⟨xs, n, _, hx, hl, hxl, hf⟩ := DataW.trod_struct ht h'
  rw [ct] at hl
  obtain ⟨cs⟩ := cs
  simp only at hl hf
  match cs, hl, xs, hxl with
  | [v0, v1, v2], _, [x0, x1, x2], _ =>
    have g0 := hf 0 f0 rfl
    have g1 := hf 1 f1 rfl
    have g2 := hf 2 f2 rfl
    rw [y0.1, y0.2, cI] at g0
    rw [y1.1, y1.2, cI] at g1
    rw [y2.1, y2.2, cS] at g2
    simp at g0 g1 g2
    obtain ⟨m0, e0, _, w0⟩ := DataW.trod_int hI g0
    obtain ⟨m1, e1, _, w1⟩ := DataW.trod_int hI g1
    simp at e0 e1
    subst e0 e1
    obtain ⟨A, L, C, ys, e2, hr⟩ := openRow (d := ([] : List Int)) hS cE (by decide) hel g2
    have e2 : v2 = .slice A L C := by simpa using e2
    subst e2
    refine ⟨m0, m1, A, L, C, ys, wf_i64 w0, wf_i64 w1, rfl, hr, ?_⟩
    have hd : d = .agg [x0.1, x1.1, x2.1] := by
      have := congrArg Prod.fst hx
      simpa using this
    have g2' : DataW.Trod enc P w 0 (fun _ => true) held tS (.slice A L C) x2.1 x2.2 := ⟨n, g2⟩
    rcases row_elems hS g2' with h0 | ⟨el, sp, e, hl, hs⟩
    · exact .inl h0
    · exact .inr ⟨_, _, el, sp, by rw [hd, e], hl, hs⟩
end
theorem sized_ves {H : Type} {P : Go.Program} {ts : List TypeId} {ds : List (DataW H)} {j : Nat} {t tS tE : TypeId} {f0 f1 f2 : Field} {d0 d1 : DataW H} {el sp : List (DataW H)}
    (h : (DataW.weightsEach P ts ds).all (· ≤ reachBytes) = true) (ht : ts[j]? = some t) (hd : ds[j]? = some (.agg [d0, d1, .slice el sp])) (hu : P.underlying t = some (.struct #[f0, f1, f2])) (y2 : f2.type = tS) (hS : P.underlying tS = some (.slice tE)) :
    (el.length + sp.length) * P.bytesOf tE ≤ reachBytes := by
  have := List.all_eq_true.1 h _ (DataW.weights_mem_each ht hd ((el.length + sp.length) * P.bytesOf tE) (by simp [DataW.weights, DataW.weightsEach, hu, y2, hS]))
  simpa using this
end Dk
