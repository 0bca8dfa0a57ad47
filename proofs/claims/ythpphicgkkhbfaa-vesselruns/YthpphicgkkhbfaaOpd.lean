/- How more arguments are read: lists of numbers, and of structs of numbers. Of any program of the model. -/
import Derived.Test.YthpphicgkkhbfaaOpn
namespace Dk
set_option linter.unusedSimpArgs false
set_option linter.unusedVariables false
set_option linter.unnecessarySimpa false
open Go Go.RowKit Go.Deep Go.ChangeShapes Go.WideShapes

set_option maxRecDepth 100000 in
/-- A list of numbers. -/
theorem row_sli {B : Nat} {w : World} {A : Option Addr} {L C : Nat} {xs : List Int} (h : Row 1 0 (IsInt .i64) B w A L C xs) : SlI B w A L C xs := by
  refine ⟨h.len, h.cap, h.max, fun x hx => ?_, fun h0 => ?_⟩
  · obtain ⟨j, hj, rfl⟩ := List.getElem_of_mem hx
    have hl := h.len
    obtain ⟨b, o, _, _, hc⟩ := h.cells (by omega)
    obtain ⟨vs, _, ⟨_, hw⟩, _⟩ := hc j (by omega)
    have e : xs.getD j 0 = xs[j] := by simp [List.getD, hj]
    rw [e] at hw
    exact wf_i64 hw
  · obtain ⟨b, o, e, hb, hc⟩ := h.cells h0
    refine ⟨b, o, e, hb, fun k hk => ?_⟩
    obtain ⟨vs, _, ⟨rfl, _⟩, h3⟩ := hc k hk
    have := h3 0 (by omega)
    rw [Nat.mul_one, Nat.add_zero] at this
    exact this

/-- The cells of a struct of numbers. -/
def IsInts (vs : List Value) (a : List Int) : Prop := vs = a.map (Value.int .i64) ∧ ∀ x ∈ a, i64 x

section
variable {H : Type} {enc : TypeId × Value → H} {P : Go.Program} {w : World} {held : Bool}
set_option maxRecDepth 100000 in
theorem el_ints {t tI : TypeId} {fs : Array Field} {k : Nat} (ht : P.underlying t = some (.struct fs)) (hI : P.underlying tI = some (.int .i64)) (cI : P.cellsOf tI = 1) (ct : P.cellsOf t = k) (hk : fs.size = k)
    (hfs : ∀ (j : Nat) (hj : j < fs.size), fs[j].type = tI ∧ fs[j].offset = j) : ∀ fuel cs (x : DataW H × List MemPlace), DataW.trod enc P w 0 (fun _ => true) held fuel t cs = some x → ∃ a, IsInts cs a := by
  intro fuel cs x h
  obtain ⟨xs, n, _, _, hl, hxl, hf⟩ := DataW.trod_struct ht h
  rw [ct] at hl
  have each : ∀ j, j < k → ∃ m, cs[j]? = some (.int .i64 m) ∧ i64 m := by
    intro j hj
    have hj' : j < fs.size := by omega
    have g := hf j fs[j] (by rw [Array.getElem?_eq_getElem hj'])
    rw [(hfs j hj').1, (hfs j hj').2, cI] at g
    obtain ⟨y, hy⟩ : ∃ y, xs[j]? = some y := ⟨_, List.getElem?_eq_getElem (by omega)⟩
    rw [hy] at g
    obtain ⟨m, e, _, hw⟩ := DataW.trod_int hI g
    have h1 : ((cs.drop j).take 1)[0]? = some (.int .i64 m) := by rw [e]; rfl
    rw [List.getElem?_take, if_pos (by omega), List.getElem?_drop, Nat.add_zero] at h1
    exact ⟨m, h1, wf_i64 hw⟩
  refine ⟨cs.map (fun v => match v with | .int _ m => m | _ => 0), ?_, ?_⟩
  · rw [List.map_map]
    apply List.ext_getElem?
    intro j
    rw [List.getElem?_map]
    by_cases hj : j < k
    · obtain ⟨m, e, _⟩ := each j hj
      rw [e]
      rfl
    · rw [List.getElem?_eq_none (by omega)]
      rfl
  · intro y hy
    obtain ⟨v, hv, rfl⟩ := List.mem_map.1 hy
    obtain ⟨j, hj, e⟩ := List.getElem_of_mem hv
    obtain ⟨m, e', hm⟩ := each j (by omega)
    rw [List.getElem?_eq_getElem hj] at e'
    have : v = .int .i64 m := by rw [← e]; exact Option.some.inj e'
    rw [this]
    exact hm
end

end Dk
