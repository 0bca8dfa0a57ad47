/- How more arguments are read: a slice of whatever rows, words, a frame. Of any program of the model. -/
import Derived.Test.YthpphicgkkhbfaaMem
namespace Dk
set_option linter.unusedSimpArgs false
set_option linter.unusedVariables false
set_option linter.unnecessarySimpa false
open Go Go.RowKit Go.Deep Go.ChangeShapes Go.WideShapes

/-- A slice whose elements take n cells each; 'R vs a': the cells vs are the element a. -/
structure Row {α : Type} (n : Nat) (d : α) (R : List Value → α → Prop) (B : Nat) (w : World) (A : Option Addr) (L C : Nat) (xs : List α) : Prop where
  len : xs.length = L
  cap : L ≤ C
  max : C ≤ maxLen
  cells : 0 < L → ∃ b o, A = some ⟨b, o, none⟩ ∧ b < B ∧ ∀ k, k < L → ∃ vs, vs.length = n ∧ R vs (xs.getD k d) ∧ ∀ j, j < n → w.cell? ⟨b, o + k * n + j, none⟩ = vs[j]?

theorem Row.below {α : Type} {n : Nat} {d : α} {R R' : List Value → α → Prop} {B B' : Nat} {w w' : World} {A : Option Addr} {L C : Nat} {xs : List α} (h : Row n d R B w A L C xs) (hb : Below B' w w') (hB : B ≤ B') (hR : ∀ vs a, R vs a → R' vs a) : Row n d R' B w' A L C xs :=
  ⟨h.len, h.cap, h.max, fun h0 => by
    obtain ⟨b, o, h1, h2, h3⟩ := h.cells h0
    refine ⟨b, o, h1, h2, fun k hk => ?_⟩
    obtain ⟨vs, g1, g2, g3⟩ := h3 k hk
    exact ⟨vs, g1, hR _ _ g2, fun j hj => by rw [hb.cell (by show b < B'; omega)]; exact g3 j hj⟩⟩
theorem Row.more {α : Type} {n : Nat} {d : α} {R R' : List Value → α → Prop} {B B' : Nat} {w : World} {A : Option Addr} {L C : Nat} {xs : List α} (h : Row n d R B w A L C xs) (hB : B ≤ B') (hR : ∀ vs a, R vs a → R' vs a) : Row n d R' B' w A L C xs :=
  ⟨h.len, h.cap, h.max, fun h0 => by
    obtain ⟨b, o, h1, h2, h3⟩ := h.cells h0
    refine ⟨b, o, h1, by omega, fun k hk => ?_⟩
    obtain ⟨vs, g1, g2, g3⟩ := h3 k hk
    exact ⟨vs, g1, hR _ _ g2, g3⟩⟩

section
variable {H : Type} {enc : TypeId × Value → H} {P : Go.Program} {w : World} {held : Bool}

set_option maxRecDepth 100000 in
theorem openRow {α : Type} {tS t : TypeId} {n : Nat} {d : α} {R : List Value → α → Prop} {fuel : Nat} {cs : List Value} {x : DataW H × List MemPlace} (hS : P.underlying tS = some (.slice t)) (ct : P.cellsOf t = n) (hn : 0 < n)
    (hel : ∀ fuel cs x, DataW.trod enc P w 0 (fun _ => true) held fuel t cs = some x → ∃ a, R cs a)
    (h : DataW.trod enc P w 0 (fun _ => true) held fuel tS cs = some x) : ∃ A L C xs, cs = [.slice A L C] ∧ Row n d R w.heap.size w A L C xs := by
  rcases open_slice hS h with ⟨rfl, _⟩ | ⟨a, len, cap, m, fu, D, Pl, rfl, _, hl, hm, hmm, _, hx⟩
  · exact ⟨none, 0, 0, [], rfl, rfl, Nat.le_refl _, Nat.zero_le _, fun h0 => absurd h0 (by omega)⟩
  · simp only [if_true] at hmm
    have hlm : len ≤ m := by omega
    have each : ∀ i, i < len → ∃ q : List Value × α, w.cells? 0 (a.add (i * n)) n = some q.1 ∧ R q.1 q.2 := by
      intro i hi
      obtain ⟨cs', h1, h2⟩ := hx i (by omega)
      obtain ⟨y, hy⟩ := hel _ _ _ h2
      rw [ct] at h1
      exact ⟨(cs', y), h1, hy⟩
    have : Inhabited (List Value × α) := ⟨([], d)⟩
    obtain ⟨q, hq⟩ := choose_lt each
    refine ⟨some a, len, cap, (List.range len).map fun i => (q i).2, rfl, by simp, hl, hm, fun h0 => ?_⟩
    have c0 := (World.cells?_some (hq 0 h0).1).2.2 0 hn
    rw [add_add, Nat.zero_mul] at c0
    have l0 := (World.cells?_some (hq 0 h0).1).2.1
    have ea : a = ⟨a.block, a.off, none⟩ ∧ a.block < w.heap.size := by
      cases hv : (q 0).1 with
      | nil => rw [hv] at l0; simp at l0; omega
      | cons v r =>
        have e : w.cell? (a.add 0) = some v := by
          rw [Nat.add_zero] at c0
          rw [c0]
          simp [hv]
        have := lt_of_cell e
        exact ⟨plain_of_cell e, by simpa [Addr.add] using this⟩
    refine ⟨a.block, a.off, by rw [← ea.1], ea.2, fun k hk => ?_⟩
    obtain ⟨_, hlk, hc⟩ := World.cells?_some (hq k hk).1
    have eg : ((List.range len).map fun i => (q i).2).getD k d = (q k).2 := by simp [List.getD, hk]
    refine ⟨(q k).1, hlk, by rw [eg]; exact (hq k hk).2, fun j hj => ?_⟩
    have := hc j hj
    rw [ea.1, add_add, add_plain] at this
    rw [show a.off + k * n + j = a.off + (k * n + j) by omega]
    rw [this]

set_option maxRecDepth 100000 in
/-- A slice as an argument. -/
theorem open_row {α : Type} {tS t : TypeId} {n : Nat} {d0 : α} {R : List Value → α → Prop} {v : Value} {d : DataW H} {ps : List MemPlace} {base : Nat} (hS : P.underlying tS = some (.slice t)) (ct : P.cellsOf t = n) (hn : 0 < n)
    (hel : ∀ fuel cs x, DataW.trod enc P w 0 (fun _ => true) held fuel t cs = some x → ∃ a, R cs a)
    (hv : Value.okWide P w .any base tS v) (h : DataW.Trod enc P w 0 (fun _ => true) held tS v d ps) : ∃ A L C xs, v = .slice A L C ∧ Row n d0 R w.heap.size w A L C xs := by
  obtain ⟨A, L, C, rfl⟩ := okWide_slice hS hv
  obtain ⟨fuel, h⟩ := h
  obtain ⟨A', L', C', xs, e, hr⟩ := openRow (d := d0) hS ct hn hel h
  have e' : Value.slice A L C = .slice A' L' C' := by simpa [Value.cells] using e
  exact ⟨A', L', C', xs, e', hr⟩

/-- One integer of a kind. -/
def IsInt (k : IntKind) (vs : List Value) (a : Int) : Prop := vs = [.int k a] ∧ (Lit.int k a).wf = true
theorem el_int {k : IntKind} {t : TypeId} (ht : P.underlying t = some (.int k)) : ∀ fuel cs (x : DataW H × List MemPlace), DataW.trod enc P w 0 (fun _ => true) held fuel t cs = some x → ∃ a, IsInt k cs a := by
  intro fuel cs x h
  obtain ⟨n, e, _, hw⟩ := DataW.trod_int ht h
  exact ⟨n, e, hw⟩
/-- One word. -/
def IsWord (vs : List Value) (a : Nat) : Prop := vs = [.int .u64 (a : Nat)] ∧ a < 18446744073709551616
theorem el_word {t : TypeId} (ht : P.underlying t = some (.int .u64)) : ∀ fuel cs (x : DataW H × List MemPlace), DataW.trod enc P w 0 (fun _ => true) held fuel t cs = some x → ∃ a, IsWord cs a := by
  intro fuel cs x h
  obtain ⟨n, e, _, hw⟩ := DataW.trod_int ht h
  obtain ⟨a, rfl, ha⟩ := wf_u64 hw
  exact ⟨a, e, ha⟩

/-- A frame: its function, its place, its words. -/
structure Frm where
  fn : Int
  pc : Int
  r : Nat → Nat
structure Frm.ok (f : Frm) : Prop where
  fn : i64 f.fn
  pc : i64 f.pc
  r : ∀ k, f.r k < 18446744073709551616
abbrev fv (f : Frm) : Value := .agg #[.int .i64 f.fn, .int .i64 f.pc, .int .u64 (f.r 0 : Nat), .int .u64 (f.r 1 : Nat), .int .u64 (f.r 2 : Nat), .int .u64 (f.r 3 : Nat), .int .u64 (f.r 4 : Nat), .int .u64 (f.r 5 : Nat), .int .u64 (f.r 6 : Nat), .int .u64 (f.r 7 : Nat)]

set_option maxRecDepth 100000 in
theorem openFrm {t tI tA tU : TypeId} {f0 f1 f2 : Field} {fuel : Nat} {cs : List Value} {x : DataW H × List MemPlace} (ht : P.underlying t = some (.struct #[f0, f1, f2]))
    (hI : P.underlying tI = some (.int .i64)) (hA : P.underlying tA = some (.array 8 tU)) (hU : P.underlying tU = some (.int .u64)) (cI : P.cellsOf tI = 1) (cA : P.cellsOf tA = 8) (cU : P.cellsOf tU = 1) (ct : P.cellsOf t = 10)
    (y0 : f0.type = tI ∧ f0.offset = 0) (y1 : f1.type = tI ∧ f1.offset = 1) (y2 : f2.type = tA ∧ f2.offset = 2)
    (h : DataW.trod enc P w 0 (fun _ => true) held fuel t cs = some x) : ∃ f : Frm, f.ok ∧ Value.agg cs.toArray = fv f := by
  obtain ⟨xs, n, _, _, hl, hxl, hf⟩ := DataW.trod_struct ht h
  rw [ct] at hl
  match cs, hl, xs, hxl with
  | [v0, v1, u0, u1, u2, u3, u4, u5, u6, u7], _, [x0, x1, x2], _ =>
    have g0 := hf 0 f0 rfl
    have g1 := hf 1 f1 rfl
    have g2 := hf 2 f2 rfl
    rw [y0.1, y0.2, cI] at g0
    rw [y1.1, y1.2, cI] at g1
    rw [y2.1, y2.2, cA] at g2
    simp at g0 g1 g2
    obtain ⟨m0, e0, _, w0⟩ := DataW.trod_int hI g0
    obtain ⟨m1, e1, _, w1⟩ := DataW.trod_int hI g1
    obtain ⟨ys, m, _, _, _, hyl, hy⟩ := DataW.trod_array hA g2
    rw [cU] at hy
    have each : ∀ i, i < 8 → ∃ a : Nat, a < 18446744073709551616 ∧ [u0, u1, u2, u3, u4, u5, u6, u7][i]? = some (.int .u64 (a : Nat)) := by
      intro i hi
      have hh := hy i hi
      have hys : i < ys.length := by omega
      rw [List.getElem?_eq_getElem hys] at hh
      obtain ⟨a, ea, ha⟩ := el_word hU _ _ _ hh
      refine ⟨a, ha, ?_⟩
      have := congrArg (fun l => l[0]?) ea
      simp only [Nat.mul_one, List.getElem?_take, List.getElem?_drop, List.getElem?_cons_zero] at this
      simpa using this
    obtain ⟨q, hq⟩ := choose_lt each
    simp at e0 e1
    have k0 := (hq 0 (by omega)).2
    have k1 := (hq 1 (by omega)).2
    have k2 := (hq 2 (by omega)).2
    have k3 := (hq 3 (by omega)).2
    have k4 := (hq 4 (by omega)).2
    have k5 := (hq 5 (by omega)).2
    have k6 := (hq 6 (by omega)).2
    have k7 := (hq 7 (by omega)).2
    simp at k0 k1 k2 k3 k4 k5 k6 k7
    refine ⟨⟨m0, m1, fun k => if k < 8 then q k else 0⟩, ⟨wf_i64 w0, wf_i64 w1, fun k => ?_⟩, ?_⟩
    · by_cases hk : k < 8
      · simp only [hk, if_true]; exact (hq k hk).1
      · simp [hk]
    · rw [e0, e1, k0, k1, k2, k3, k4, k5, k6, k7]
      rfl

set_option maxRecDepth 100000 in
/-- A frame as an argument. -/
theorem open_frm {t tI tA tU : TypeId} {f0 f1 f2 : Field} {v : Value} {d : DataW H} {ps : List MemPlace} {base : Nat} (ht : P.underlying t = some (.struct #[f0, f1, f2]))
    (hI : P.underlying tI = some (.int .i64)) (hA : P.underlying tA = some (.array 8 tU)) (hU : P.underlying tU = some (.int .u64)) (cI : P.cellsOf tI = 1) (cA : P.cellsOf tA = 8) (cU : P.cellsOf tU = 1) (ct : P.cellsOf t = 10)
    (y0 : f0.type = tI ∧ f0.offset = 0) (y1 : f1.type = tI ∧ f1.offset = 1) (y2 : f2.type = tA ∧ f2.offset = 2)
    (hv : Value.okWide P w .any base t v) (h : DataW.Trod enc P w 0 (fun _ => true) held t v d ps) : ∃ f : Frm, f.ok ∧ v = fv f := by
  obtain ⟨fuel, h⟩ := h
  unfold Value.okWide at hv
  rw [ht] at hv
  obtain ⟨cs, rfl, _, _⟩ := hv
  obtain ⟨f, hf, e⟩ := openFrm ht hI hA hU cI cA cU ct y0 y1 y2 h
  exact ⟨f, hf, by rw [← e]; rfl⟩
end

end Dk
