/- How a program of layer 2 lies in memory, how it is read out of an argument, and that it stays while nothing old is written. Of any program of the model. -/
import Derived.Test.YthpphicgkkhbfaaInst
import Derived.WalkKit
import Derived.ProofKit
import Derived.OpenShut
import Derived.Carry
import Derived.Deep.Slices
import Derived.Deep.Draws
namespace Dk
set_option linter.unusedSimpArgs false
set_option linter.unusedVariables false
set_option linter.unnecessarySimpa false
open Go Go.RowKit Go.Deep Go.ChangeShapes Go.WideShapes

theorem wf_i64 {x : Int} (h : (Lit.int .i64 x).wf = true) : i64 x := by
  simp [Lit.wf, IntKind.min, IntKind.max, IntKind.signed, IntKind.bits] at h
  unfold i64; omega
theorem wf_u64 {x : Int} (h : (Lit.int .u64 x).wf = true) : ∃ a : Nat, x = a ∧ a < 18446744073709551616 := by
  simp [Lit.wf, IntKind.min, IntKind.max, IntKind.signed, IntKind.bits] at h
  exact ⟨x.toNat, by omega, by omega⟩

def Ins.zero : Ins := ⟨0, 0, 0, 0, 0⟩

/-- A slice of integers. -/
structure SlI (B : Nat) (w : World) (A : Option Addr) (L C : Nat) (xs : List Int) : Prop where
  len : xs.length = L
  cap : L ≤ C
  max : C ≤ maxLen
  wf : ∀ x ∈ xs, i64 x
  cells : 0 < L → ∃ b o, A = some ⟨b, o, none⟩ ∧ b < B ∧ ∀ k, k < L → w.cell? ⟨b, o + k, none⟩ = some (.int .i64 (xs.getD k 0))

/-- A slice of instructions, five cells each. -/
structure SlN (B : Nat) (w : World) (A : Option Addr) (L C : Nat) (xs : List Ins) : Prop where
  len : xs.length = L
  cap : L ≤ C
  max : C ≤ maxLen
  wf : ∀ x ∈ xs, x.ok
  cells : 0 < L → ∃ b o, A = some ⟨b, o, none⟩ ∧ b < B ∧ ∀ k, k < L →
    w.cell? ⟨b, o + k * 5, none⟩ = some (.int .i64 (xs.getD k Ins.zero).op) ∧ w.cell? ⟨b, o + k * 5 + 1, none⟩ = some (.int .i64 (xs.getD k Ins.zero).a) ∧
    w.cell? ⟨b, o + k * 5 + 2, none⟩ = some (.int .i64 (xs.getD k Ins.zero).b) ∧ w.cell? ⟨b, o + k * 5 + 3, none⟩ = some (.int .i64 (xs.getD k Ins.zero).c) ∧
    w.cell? ⟨b, o + k * 5 + 4, none⟩ = some (.int .u64 ((xs.getD k Ins.zero).n : Nat))

/-- A slice of slices of instructions. -/
structure SlF (B : Nat) (w : World) (A : Option Addr) (L C : Nat) (fs : List (List Ins)) : Prop where
  len : fs.length = L
  cap : L ≤ C
  max : C ≤ maxLen
  cells : 0 < L → ∃ b o, A = some ⟨b, o, none⟩ ∧ b < B ∧ ∀ k, k < L →
    ∃ A' L' C', w.cell? ⟨b, o + k, none⟩ = some (.slice A' L' C') ∧ SlN B w A' L' C' (fs.getD k [])

/-- Where a program's lists lie. -/
structure Sh where
  fA : Option Addr
  fL : Nat
  fC : Nat
  sA : Option Addr
  sL : Nat
  sC : Nat
  pA : Option Addr
  pL : Nat
  pC : Nat

/-- A program's value. -/
abbrev pv (s : Sh) (p : Prg) : Value :=
  .agg #[.slice s.fA s.fL s.fC, .int .i64 p.words, .int .i64 p.mutexes, .int .i64 p.conds, .slice s.sA s.sL s.sC, .slice s.pA s.pL s.pC, .int .i64 p.blocks, .int .i64 p.prio]
/-- An instruction's value. -/
abbrev iv (i : Ins) : Value := .agg #[.int .i64 i.op, .int .i64 i.a, .int .i64 i.b, .int .i64 i.c, .int .u64 (i.n : Nat)]

structure PrgAt (B : Nat) (w : World) (s : Sh) (p : Prg) : Prop where
  funcs : SlF B w s.fA s.fL s.fC p.funcs
  sems : SlI B w s.sA s.sL s.sC p.sems
  pipes : SlI B w s.pA s.pL s.pC p.pipes
  words : i64 p.words
  mutexes : i64 p.mutexes
  conds : i64 p.conds
  blocks : i64 p.blocks
  prio : i64 p.prio

theorem PrgAt.ok {B : Nat} {w : World} {s : Sh} {p : Prg} (h : PrgAt B w s p) : p.ok := by
  have h1 := h.funcs.len; have h2 := h.funcs.cap; have h3 := h.funcs.max
  have h4 := h.sems.len; have h5 := h.sems.cap; have h6 := h.sems.max
  have h7 := h.pipes.len; have h8 := h.pipes.cap; have h9 := h.pipes.max
  unfold maxLen at h3 h6 h9
  exact ⟨h.mutexes, h.conds, by omega, by omega, by omega⟩

theorem SlI.below {B B' : Nat} {w w' : World} {A : Option Addr} {L C : Nat} {xs : List Int} (h : SlI B w A L C xs) (hb : Below B' w w') (hB : B ≤ B') : SlI B w' A L C xs :=
  ⟨h.len, h.cap, h.max, h.wf, fun h0 => by
    obtain ⟨b, o, h1, h2, h3⟩ := h.cells h0
    exact ⟨b, o, h1, h2, fun k hk => by rw [hb.cell (by show b < B'; omega)]; exact h3 k hk⟩⟩
theorem SlN.below {B B' : Nat} {w w' : World} {A : Option Addr} {L C : Nat} {xs : List Ins} (h : SlN B w A L C xs) (hb : Below B' w w') (hB : B ≤ B') : SlN B w' A L C xs :=
  ⟨h.len, h.cap, h.max, h.wf, fun h0 => by
    obtain ⟨b, o, h1, h2, h3⟩ := h.cells h0
    have e : ∀ x, w'.cell? ⟨b, x, none⟩ = w.cell? ⟨b, x, none⟩ := fun x => hb.cell (by show b < B'; omega)
    exact ⟨b, o, h1, h2, fun k hk => by rw [e, e, e, e, e]; exact h3 k hk⟩⟩
theorem SlF.below {B B' : Nat} {w w' : World} {A : Option Addr} {L C : Nat} {fs : List (List Ins)} (h : SlF B w A L C fs) (hb : Below B' w w') (hB : B ≤ B') : SlF B w' A L C fs :=
  ⟨h.len, h.cap, h.max, fun h0 => by
    obtain ⟨b, o, h1, h2, h3⟩ := h.cells h0
    refine ⟨b, o, h1, h2, fun k hk => ?_⟩
    obtain ⟨A', L', C', g1, g2⟩ := h3 k hk
    exact ⟨A', L', C', by rw [hb.cell (by show b < B'; omega)]; exact g1, g2.below hb hB⟩⟩
theorem PrgAt.below {B B' : Nat} {w w' : World} {s : Sh} {p : Prg} (h : PrgAt B w s p) (hb : Below B' w w') (hB : B ≤ B') : PrgAt B w' s p :=
  ⟨h.funcs.below hb hB, h.sems.below hb hB, h.pipes.below hb hB, h.words, h.mutexes, h.conds, h.blocks, h.prio⟩

theorem SlI.more {B B' : Nat} {w : World} {A : Option Addr} {L C : Nat} {xs : List Int} (h : SlI B w A L C xs) (hB : B ≤ B') : SlI B' w A L C xs :=
  ⟨h.len, h.cap, h.max, h.wf, fun h0 => by obtain ⟨b, o, h1, h2, h3⟩ := h.cells h0; exact ⟨b, o, h1, by omega, h3⟩⟩
theorem SlN.more {B B' : Nat} {w : World} {A : Option Addr} {L C : Nat} {xs : List Ins} (h : SlN B w A L C xs) (hB : B ≤ B') : SlN B' w A L C xs :=
  ⟨h.len, h.cap, h.max, h.wf, fun h0 => by obtain ⟨b, o, h1, h2, h3⟩ := h.cells h0; exact ⟨b, o, h1, by omega, h3⟩⟩
theorem SlF.more {B B' : Nat} {w : World} {A : Option Addr} {L C : Nat} {fs : List (List Ins)} (h : SlF B w A L C fs) (hB : B ≤ B') : SlF B' w A L C fs :=
  ⟨h.len, h.cap, h.max, fun h0 => by
    obtain ⟨b, o, h1, h2, h3⟩ := h.cells h0
    refine ⟨b, o, h1, by omega, fun k hk => ?_⟩
    obtain ⟨A', L', C', g1, g2⟩ := h3 k hk
    exact ⟨A', L', C', g1, g2.more hB⟩⟩
theorem PrgAt.more {B B' : Nat} {w : World} {s : Sh} {p : Prg} (h : PrgAt B w s p) (hB : B ≤ B') : PrgAt B' w s p :=
  ⟨h.funcs.more hB, h.sems.more hB, h.pipes.more hB, h.words, h.mutexes, h.conds, h.blocks, h.prio⟩

theorem lt_of_cell {w : World} {a : Addr} {v : Value} (h : w.cell? a = some v) : a.block < w.heap.size := by
  unfold World.cell? at h
  split at h
  · rename_i c e f hh
    exact (Array.getElem?_eq_some_iff.1 hh).1
  · cases h

/- Nothing old is written: the steps of a walk. -/
theorem up_alloc {w w' : World} (h : Below w.heap.size w w') (o : Obj) : Below w.heap.size w (w'.alloc o) := h.alloc h.size o
theorem up_drew {w w' : World} (h : Below w.heap.size w w') : Below w.heap.size w w'.drew := h.drew
theorem up_drewN {w w' : World} (h : Below w.heap.size w w') (n : Nat) : Below w.heap.size w (w'.drewN n) := ⟨h.os, h.tape, h.output, h.size, h.block⟩
theorem up_call {w w' w'' : World} (h : Below w.heap.size w w') (hb : Below w'.heap.size w' w'') : Below w.heap.size w w'' := h.trans (hb.mono h.size)
theorem up_set {w w' : World} {b o : Nat} (h : Below w.heap.size w w') (hb : w.heap.size ≤ b) (v : Value) : Below w.heap.size w (w'.setCell ⟨b, o, none⟩ v) := h.setCell hb v
theorem bcell {W w1 : World} (hb : Below W.heap.size W w1) : (∀ b o, b < W.heap.size → w1.cell? ⟨b, o, none⟩ = W.cell? ⟨b, o, none⟩) ∧ (∀ b o, b < W.heap.size → w1.frozen? ⟨b, o, none⟩ = W.frozen? ⟨b, o, none⟩) ∧ W.heap.size ≤ w1.heap.size :=
  ⟨fun b o h => hb.cell (p := ⟨b, o, none⟩) h, fun b o h => hb.frozen (p := ⟨b, o, none⟩) h, hb.size⟩

/-- A new block's cells, behind whatever writes nothing old. -/
theorem box_cell {w w' : World} {cs : Array Value} {t : TypeId} (h : Below (w.alloc (.cells cs t)).heap.size (w.alloc (.cells cs t)) w') : ∀ o, w'.cell? ⟨w.heap.size, o, none⟩ = cs[o]? := by
  intro o
  rw [h.cell (by simp)]
  unfold World.cell?
  have : (w.alloc (.cells cs t)).heap[w.heap.size]? = some (.cells cs t) := (MapKept.heap_alloc w _).1
  simp only [this]
  rfl

set_option maxRecDepth 100000 in
theorem box_frozen {w w' : World} {cs : Array Value} {t : TypeId} (h : Below (w.alloc (.cells cs t)).heap.size (w.alloc (.cells cs t)) w') : ∀ o, w'.frozen? ⟨w.heap.size, o, none⟩ = false := by
  intro o
  rw [h.frozen (by simp)]
  unfold World.frozen?
  have : (w.alloc (.cells cs t)).heap[w.heap.size]? = some (.cells cs t) := (MapKept.heap_alloc w _).1
  simp only [this]
  simp

/- Reading an argument. -/
section
variable {H : Type} {enc : TypeId × Value → H} {P : Go.Program} {w : World} {held : Bool}

theorem plain_of_cell {a : Addr} {v : Value} (h : w.cell? (a.add 0) = some v) : a = ⟨a.block, a.off, none⟩ := by
  have h1 := World.cell?_spot h
  obtain ⟨b, o, s⟩ := a
  simp only [Addr.add, if_true] at h1
  rw [h1]

set_option maxRecDepth 100000 in
theorem openI {t e : TypeId} {fuel : Nat} {cs : List Value} {x : DataW H × List MemPlace} (ht : P.underlying t = some (.slice e)) (he : P.underlying e = some (.int .i64)) (hc : P.cellsOf e = 1)
    (h : DataW.trod enc P w 0 (fun _ => true) held fuel t cs = some x) : ∃ A L C xs, cs = [.slice A L C] ∧ SlI w.heap.size w A L C xs := by
  rcases open_ints ht he hc h with ⟨rfl, _⟩ | ⟨a, len, cap, zs, rfl, _, hl, hm, hz, _, hcell, hw⟩
  · exact ⟨none, 0, 0, [], rfl, rfl, Nat.le_refl _, Nat.zero_le _, by simp, fun h0 => absurd h0 (by omega)⟩
  · simp only [if_true] at hz
    refine ⟨some a, len, cap, zs.take len, rfl, by simp [hz, hl], hl, hm, fun x hx => wf_i64 (hw x (List.mem_of_mem_take hx)), fun h0 => ?_⟩
    have c0 := hcell 0 (by omega)
    have ea := plain_of_cell c0
    refine ⟨a.block, a.off, by rw [← ea], ?_, fun k hk => ?_⟩
    · have := lt_of_cell c0
      simpa [Addr.add] using this
    · have := hcell k (by omega)
      rw [ea, add_plain] at this
      rw [this]
      simp [List.getD, List.getElem?_take, hk]

set_option maxRecDepth 100000 in
theorem openIns {t tI tU : TypeId} {f0 f1 f2 f3 f4 : Field} {fuel : Nat} {cs : List Value} {x : DataW H × List MemPlace} (ht : P.underlying t = some (.struct #[f0, f1, f2, f3, f4]))
    (hI : P.underlying tI = some (.int .i64)) (hU : P.underlying tU = some (.int .u64)) (cI : P.cellsOf tI = 1) (cU : P.cellsOf tU = 1) (ct : P.cellsOf t = 5)
    (y0 : f0.type = tI ∧ f0.offset = 0) (y1 : f1.type = tI ∧ f1.offset = 1) (y2 : f2.type = tI ∧ f2.offset = 2) (y3 : f3.type = tI ∧ f3.offset = 3) (y4 : f4.type = tU ∧ f4.offset = 4)
    (h : DataW.trod enc P w 0 (fun _ => true) held fuel t cs = some x) :
    ∃ i : Ins, i.ok ∧ cs = [.int .i64 i.op, .int .i64 i.a, .int .i64 i.b, .int .i64 i.c, .int .u64 (i.n : Nat)] := by
  obtain ⟨xs, n, _, _, hl, hxl, hf⟩ := DataW.trod_struct ht h
  rw [ct] at hl
  match cs, hl, xs, hxl with
  | [v0, v1, v2, v3, v4], _, [x0, x1, x2, x3, x4], _ =>
    have g0 := hf 0 f0 rfl
    have g1 := hf 1 f1 rfl
    have g2 := hf 2 f2 rfl
    have g3 := hf 3 f3 rfl
    have g4 := hf 4 f4 rfl
    rw [y0.1, y0.2, cI] at g0
    rw [y1.1, y1.2, cI] at g1
    rw [y2.1, y2.2, cI] at g2
    rw [y3.1, y3.2, cI] at g3
    rw [y4.1, y4.2, cU] at g4
    simp at g0 g1 g2 g3 g4
    obtain ⟨m0, e0, _, w0⟩ := DataW.trod_int hI g0
    obtain ⟨m1, e1, _, w1⟩ := DataW.trod_int hI g1
    obtain ⟨m2, e2, _, w2⟩ := DataW.trod_int hI g2
    obtain ⟨m3, e3, _, w3⟩ := DataW.trod_int hI g3
    obtain ⟨m4, e4, _, w4⟩ := DataW.trod_int hU g4
    simp at e0 e1 e2 e3 e4
    obtain ⟨u, hu, hlt⟩ := wf_u64 w4
    exact ⟨⟨m0, m1, m2, m3, u⟩, ⟨wf_i64 w0, wf_i64 w1, wf_i64 w2, wf_i64 w3, hlt⟩, by rw [e0, e1, e2, e3, e4, hu]⟩

set_option maxRecDepth 100000 in
theorem openN {tS t tI tU : TypeId} {f0 f1 f2 f3 f4 : Field} {fuel : Nat} {cs : List Value} {x : DataW H × List MemPlace} (hS : P.underlying tS = some (.slice t)) (ht : P.underlying t = some (.struct #[f0, f1, f2, f3, f4]))
    (hI : P.underlying tI = some (.int .i64)) (hU : P.underlying tU = some (.int .u64)) (cI : P.cellsOf tI = 1) (cU : P.cellsOf tU = 1) (ct : P.cellsOf t = 5)
    (y0 : f0.type = tI ∧ f0.offset = 0) (y1 : f1.type = tI ∧ f1.offset = 1) (y2 : f2.type = tI ∧ f2.offset = 2) (y3 : f3.type = tI ∧ f3.offset = 3) (y4 : f4.type = tU ∧ f4.offset = 4)
    (h : DataW.trod enc P w 0 (fun _ => true) held fuel tS cs = some x) : ∃ A L C xs, cs = [.slice A L C] ∧ SlN w.heap.size w A L C xs := by
  rcases open_slice hS h with ⟨rfl, _⟩ | ⟨a, len, cap, m, n, D, Pl, rfl, _, hl, hm, hmm, _, hx⟩
  · exact ⟨none, 0, 0, [], rfl, rfl, Nat.le_refl _, Nat.zero_le _, by simp, fun h0 => absurd h0 (by omega)⟩
  · simp only [if_true] at hmm
    have hlm : len ≤ m := by omega
    have each : ∀ i, i < len → ∃ q : Ins, q.ok ∧ w.cells? 0 (a.add (i * 5)) 5 = some [.int .i64 q.op, .int .i64 q.a, .int .i64 q.b, .int .i64 q.c, .int .u64 (q.n : Nat)] := by
      intro i hi
      obtain ⟨cs', h1, h2⟩ := hx i (by omega)
      obtain ⟨q, hq, e⟩ := openIns ht hI hU cI cU ct y0 y1 y2 y3 y4 h2
      rw [ct, e] at h1
      exact ⟨q, hq, h1⟩
    have : Inhabited Ins := ⟨Ins.zero⟩
    obtain ⟨q, hq⟩ := choose_lt each
    refine ⟨some a, len, cap, (List.range len).map q, rfl, by simp, hl, hm, fun y hy => ?_, fun h0 => ?_⟩
    · obtain ⟨i, hi, rfl⟩ := List.mem_map.1 hy
      exact (hq i (List.mem_range.1 hi)).1
    · have c0 := (World.cells?_some (hq 0 h0).2).2.2 0 (by omega)
      rw [add_add, Nat.zero_mul] at c0
      have ea := plain_of_cell c0
      refine ⟨a.block, a.off, by rw [← ea], ?_, fun k hk => ?_⟩
      · have := lt_of_cell c0
        simpa [Addr.add] using this
      · have hc := (World.cells?_some (hq k hk).2).2.2
        have k0 := hc 0 (by omega)
        have k1 := hc 1 (by omega)
        have k2 := hc 2 (by omega)
        have k3 := hc 3 (by omega)
        have k4 := hc 4 (by omega)
        rw [ea] at k0 k1 k2 k3 k4
        rw [add_add, add_plain] at k0 k1 k2 k3 k4
        have eg : ((List.range len).map q).getD k Ins.zero = q k := by simp [List.getD, hk]
        rw [eg]
        refine ⟨?_, ?_, ?_, ?_, ?_⟩
        · simpa [Nat.add_assoc] using k0
        · simpa [Nat.add_assoc] using k1
        · simpa [Nat.add_assoc] using k2
        · simpa [Nat.add_assoc] using k3
        · simpa [Nat.add_assoc] using k4

set_option maxRecDepth 100000 in
theorem openF {tF tS t tI tU : TypeId} {f0 f1 f2 f3 f4 : Field} {fuel : Nat} {cs : List Value} {x : DataW H × List MemPlace} (hF : P.underlying tF = some (.slice tS)) (cS : P.cellsOf tS = 1) (hS : P.underlying tS = some (.slice t)) (ht : P.underlying t = some (.struct #[f0, f1, f2, f3, f4]))
    (hI : P.underlying tI = some (.int .i64)) (hU : P.underlying tU = some (.int .u64)) (cI : P.cellsOf tI = 1) (cU : P.cellsOf tU = 1) (ct : P.cellsOf t = 5)
    (y0 : f0.type = tI ∧ f0.offset = 0) (y1 : f1.type = tI ∧ f1.offset = 1) (y2 : f2.type = tI ∧ f2.offset = 2) (y3 : f3.type = tI ∧ f3.offset = 3) (y4 : f4.type = tU ∧ f4.offset = 4)
    (h : DataW.trod enc P w 0 (fun _ => true) held fuel tF cs = some x) : ∃ A L C fs, cs = [.slice A L C] ∧ SlF w.heap.size w A L C fs := by
  rcases open_slice1 hF cS h with ⟨rfl, _⟩ | ⟨a, len, cap, m, n, V, D, Pl, rfl, _, hl, hm, hmm, _, hx⟩
  · exact ⟨none, 0, 0, [], rfl, rfl, Nat.le_refl _, Nat.zero_le _, fun h0 => absurd h0 (by omega)⟩
  · simp only [if_true] at hmm
    have hlm : len ≤ m := by omega
    have each : ∀ i, i < len → ∃ q : Option Addr × Nat × Nat × List Ins, w.cell? (a.add i) = some (.slice q.1 q.2.1 q.2.2.1) ∧ SlN w.heap.size w q.1 q.2.1 q.2.2.1 q.2.2.2 := by
      intro i hi
      obtain ⟨h1, h2⟩ := hx i (by omega)
      obtain ⟨A, L, C, xs, e, hn⟩ := openN hS ht hI hU cI cU ct y0 y1 y2 y3 y4 h2
      simp only [List.cons.injEq, and_true] at e
      exact ⟨(A, L, C, xs), by rw [h1, e], hn⟩
    obtain ⟨q, hq⟩ := choose_lt each
    refine ⟨some a, len, cap, (List.range len).map fun i => (q i).2.2.2, rfl, by simp, hl, hm, fun h0 => ?_⟩
    have c0 := (hq 0 h0).1
    have ea := plain_of_cell c0
    refine ⟨a.block, a.off, by rw [← ea], ?_, fun k hk => ?_⟩
    · have := lt_of_cell c0
      simpa [Addr.add] using this
    · obtain ⟨g1, g2⟩ := hq k hk
      rw [ea, add_plain] at g1
      have eg : ((List.range len).map fun i => (q i).2.2.2).getD k [] = (q k).2.2.2 := by simp [List.getD, hk]
      exact ⟨_, _, _, g1, by rw [eg]; exact g2⟩

set_option maxRecDepth 100000 in
/-- An instruction as an argument. -/
theorem open_ins {t tI tU : TypeId} {f0 f1 f2 f3 f4 : Field} {v : Value} {d : DataW H} {ps : List MemPlace} {base : Nat} (ht : P.underlying t = some (.struct #[f0, f1, f2, f3, f4]))
    (hI : P.underlying tI = some (.int .i64)) (hU : P.underlying tU = some (.int .u64)) (cI : P.cellsOf tI = 1) (cU : P.cellsOf tU = 1) (ct : P.cellsOf t = 5)
    (y0 : f0.type = tI ∧ f0.offset = 0) (y1 : f1.type = tI ∧ f1.offset = 1) (y2 : f2.type = tI ∧ f2.offset = 2) (y3 : f3.type = tI ∧ f3.offset = 3) (y4 : f4.type = tU ∧ f4.offset = 4)
    (hv : Value.okWide P w .any base t v) (h : DataW.Trod enc P w 0 (fun _ => true) held t v d ps) : ∃ i : Ins, i.ok ∧ v = iv i := by
  obtain ⟨fuel, h⟩ := h
  unfold Value.okWide at hv
  rw [ht] at hv
  obtain ⟨cs, rfl, _, _⟩ := hv
  obtain ⟨i, hi, e⟩ := openIns ht hI hU cI cU ct y0 y1 y2 y3 y4 h
  refine ⟨i, hi, ?_⟩
  have : cs.toList = _ := e
  exact congrArg Value.agg (Array.toList_inj.1 this)

set_option maxRecDepth 100000 in
/-- A program as an argument. -/
theorem open_prg {t tF tS tN tI tU tX : TypeId} {g0 g1 g2 g3 g4 g5 g6 g7 f0 f1 f2 f3 f4 : Field} {v : Value} {d : DataW H} {ps : List MemPlace} {base : Nat} (ht : P.underlying t = some (.struct #[g0, g1, g2, g3, g4, g5, g6, g7])) (ct : P.cellsOf t = 8)
    (hF : P.underlying tF = some (.slice tS)) (cF : P.cellsOf tF = 1) (cS : P.cellsOf tS = 1) (hS : P.underlying tS = some (.slice tN)) (hN : P.underlying tN = some (.struct #[f0, f1, f2, f3, f4])) (cN : P.cellsOf tN = 5)
    (hI : P.underlying tI = some (.int .i64)) (hU : P.underlying tU = some (.int .u64)) (cI : P.cellsOf tI = 1) (cU : P.cellsOf tU = 1) (hX : P.underlying tX = some (.slice tI)) (cX : P.cellsOf tX = 1)
    (z0 : g0.type = tF ∧ g0.offset = 0) (z1 : g1.type = tI ∧ g1.offset = 1) (z2 : g2.type = tI ∧ g2.offset = 2) (z3 : g3.type = tI ∧ g3.offset = 3) (z4 : g4.type = tX ∧ g4.offset = 4) (z5 : g5.type = tX ∧ g5.offset = 5) (z6 : g6.type = tI ∧ g6.offset = 6) (z7 : g7.type = tI ∧ g7.offset = 7)
    (y0 : f0.type = tI ∧ f0.offset = 0) (y1 : f1.type = tI ∧ f1.offset = 1) (y2 : f2.type = tI ∧ f2.offset = 2) (y3 : f3.type = tI ∧ f3.offset = 3) (y4 : f4.type = tU ∧ f4.offset = 4)
    (hv : Value.okWide P w .any base t v) (h : DataW.Trod enc P w 0 (fun _ => true) held t v d ps) : ∃ s p, PrgAt w.heap.size w s p ∧ v = pv s p := by
  obtain ⟨fuel, h⟩ := h
  unfold Value.okWide at hv
  rw [ht] at hv
  obtain ⟨cs, rfl, _, _⟩ := hv
  have h' : DataW.trod enc P w 0 (fun _ => true) held fuel t cs.toList = some (d, ps) := h
  obtain ⟨xs, n, _, _, hl, hxl, hf⟩ := DataW.trod_struct ht h'
  rw [ct] at hl
  obtain ⟨cs⟩ := cs
  simp only at hl hf
  match cs, hl, xs, hxl with
  | [v0, v1, v2, v3, v4, v5, v6, v7], _, [x0, x1, x2, x3, x4, x5, x6, x7], _ =>
    have k0 := hf 0 g0 rfl
    have k1 := hf 1 g1 rfl
    have k2 := hf 2 g2 rfl
    have k3 := hf 3 g3 rfl
    have k4 := hf 4 g4 rfl
    have k5 := hf 5 g5 rfl
    have k6 := hf 6 g6 rfl
    have k7 := hf 7 g7 rfl
    rw [z0.1, z0.2, cF] at k0
    rw [z1.1, z1.2, cI] at k1
    rw [z2.1, z2.2, cI] at k2
    rw [z3.1, z3.2, cI] at k3
    rw [z4.1, z4.2, cX] at k4
    rw [z5.1, z5.2, cX] at k5
    rw [z6.1, z6.2, cI] at k6
    rw [z7.1, z7.2, cI] at k7
    simp at k0 k1 k2 k3 k4 k5 k6 k7
    obtain ⟨A, L, C, fs, e0, hfs⟩ := openF hF cS hS hN hI hU cI cU cN y0 y1 y2 y3 y4 k0
    obtain ⟨m1, e1, _, w1⟩ := DataW.trod_int hI k1
    obtain ⟨m2, e2, _, w2⟩ := DataW.trod_int hI k2
    obtain ⟨m3, e3, _, w3⟩ := DataW.trod_int hI k3
    obtain ⟨A4, L4, C4, xs4, e4, h4⟩ := openI hX hI cI k4
    obtain ⟨A5, L5, C5, xs5, e5, h5⟩ := openI hX hI cI k5
    obtain ⟨m6, e6, _, w6⟩ := DataW.trod_int hI k6
    obtain ⟨m7, e7, _, w7⟩ := DataW.trod_int hI k7
    simp at e0 e1 e2 e3 e4 e5 e6 e7
    exact ⟨⟨A, L, C, A4, L4, C4, A5, L5, C5⟩, ⟨fs, m1, m2, m3, xs4, xs5, m6, m7⟩, ⟨hfs, h4, h5, wf_i64 w1, wf_i64 w2, wf_i64 w3, wf_i64 w6, wf_i64 w7⟩, by rw [e0, e1, e2, e3, e4, e5, e6, e7]⟩

set_option maxRecDepth 100000 in
/-- What was read reads as it did, where nothing old was written. -/
theorem trodAll_stays (hl : laidOutB P = true) {W W' : World} {sp : Nat → Bool} : ∀ (ts : List TypeId) (vs : List Value) (ds : List (DataW H)) (p : List MemPlace), (∀ t ∈ ts, P.readableRec t = true ∧ t < P.types.size) →
    DataW.TrodAll enc P W 0 (fun _ => true) true ts vs ds p → (∀ x ∈ p, W.sameAt W' x) → (∀ x ∈ p, sp x.block = true) → DataW.TrodAll enc P W' 0 sp true ts vs ds p
  | [], vs, ds, p, _, h, _, _ => by
    cases vs <;> cases ds <;> first | exact h | exact absurd h (by simp [DataW.TrodAll])
  | t :: ts, [], ds, p, _, h, _, _ => by cases ds <;> exact absurd h (by simp [DataW.TrodAll])
  | t :: ts, v :: vs, [], p, _, h, _, _ => absurd h (by simp [DataW.TrodAll])
  | t :: ts, v :: vs, d :: ds, p, hr, h, h1, h2 => by
    obtain ⟨a, b, ha, hb, rfl⟩ := h
    refine ⟨a, b, WideElems.Trod_stays hl (hr t (by simp)).1 (hr t (by simp)).2 ha (fun x hx => h1 x (by simp [hx])) (fun x hx => h2 x (by simp [hx])), ?_, rfl⟩
    exact trodAll_stays hl ts vs ds b (fun t' ht' => hr t' (by simp [ht'])) hb (fun x hx => h1 x (by simp [hx])) (fun x hx => h2 x (by simp [hx]))

set_option maxRecDepth 100000 in
/-- The end of a law's proof: it has answered true, and nothing old was written. -/
theorem law_post {f : Func} {s : ChangeSpec} {fresh handsOn again : Bool} {W W' : World} {args : Array Value} {ds gs : List (DataW H)} {before : List MemPlace} {tB : TypeId}
    (hl : laidOutB P = true) (hr : ∀ t ∈ f.params.toList, P.readableRec t = true ∧ t < P.types.size) (hv0 : s.vars = []) (htB : f.resultTypes = #[tB]) (hB : P.underlying tB = some .bool)
    (hs : ∀ ds : List (DataW H), ds.length = f.params.toList.length → s.fn H ds = { results := [.lit (.bool true)], args := ds })
    (hW : DataW.Whole enc P f.params.toList s.vars false W args.toList ds gs before) (hb : Below W.heap.size W W') : s.post enc P f false fresh handsOn again W args (.bool true) W' := by
  have hW' := hW
  obtain ⟨p, q, hA, hV, rfl, hfz, _⟩ := hW
  rw [hv0] at hV
  obtain ⟨rfl, rfl⟩ : gs = [] ∧ q = [] := trodVars_none hV
  have hlen : ∀ (ts : List TypeId) (vs : List Value) (ds : List (DataW H)) (p : List MemPlace), DataW.TrodAll enc P W 0 (fun _ => true) true ts vs ds p → ds.length = ts.length := by
    intro ts
    induction ts with
    | nil => intro vs ds p h; cases vs <;> cases ds <;> simp [DataW.TrodAll] at h ⊢
    | cons t ts ih =>
      intro vs ds p h
      cases vs with
      | nil => cases ds <;> simp [DataW.TrodAll] at h
      | cons v vs =>
        cases ds with
        | nil => simp [DataW.TrodAll] at h
        | cons d ds =>
          obtain ⟨a, b, _, h2, _⟩ := h
          simp [ih vs ds b h2]
  have hfn := hs (ds ++ []) (by simpa using hlen _ _ _ _ hA)
  have hlt : ∀ x ∈ p, x.block < W.heap.size := fun x hx => hW'.lt x (by simp [hx])
  have hargs : ∀ sp : Nat → Bool, (∀ x ∈ p, sp x.block = true) → DataW.TrodAll enc P W' 0 sp true f.params.toList args.toList ds p := fun sp h =>
    trodAll_stays hl _ _ _ _ hr hA (fun x hx => hb.same (hlt x hx)) h
  have hres : ∀ (b : Nat) (sp : Nat → Bool) (hd : Bool), DataW.TrodAll enc P W' b sp hd f.resultTypes.toList ((Value.bool true).resultList f.resultTypes.size) [.lit (.bool true)] [] := by
    intro b sp hd
    rw [htB]
    exact trodAll_cons_mk (shut_bool hB _) trodAll_mk0
  have hok := ok_one (P := P) (W' := W') (f := f) htB rfl (okWide_bool_mk hB true)
  have hvars : ∀ sp : Nat → Bool, DataW.TrodVars enc P W' sp s.vars (s.fn H (ds ++ [])).vars [] := fun sp => by rw [hv0, hfn]; rfl
  refine ⟨ds, [], p ++ [], [], p, [], hW', by rw [hfn]; exact hres _ _ _, by rw [hfn]; simpa using hargs _ (fun x hx => by simpa using hlt x hx), hvars _, World.keptBut_mono (fun x hx => ⟨hx, ?_⟩) (hb.frame _), fun _ => ?_⟩
  · exact Or.inr (by simpa using hx)
  · refine ⟨hok, _, _, ([] ++ p) ++ [], ⟨[] ++ p, [], trodAll_append (hargs _ (fun _ _ => rfl)) (hres _ _ _), hvars _, rfl, ?_, by simp⟩, ?_⟩
    · intro b off hp
      have hp' : MemPlace.cell b off ∈ p := by simpa using hp
      rw [hb.frozen (hlt _ hp')]
      exact hfz b off (by simpa using hp')
    · intro x hx _
      simpa using hx
end

end Dk
