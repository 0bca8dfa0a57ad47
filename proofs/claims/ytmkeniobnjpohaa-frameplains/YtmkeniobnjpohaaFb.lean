/- Boxes: a frame's cells, and how a world that holds some boxes goes on. Of any program of the model. -/
import Derived.Test.YtmkeniobnjpohaaFr
import Derived.Laws.Tables
import Derived.Laws.CopyOwn
namespace Dk
set_option linter.unusedSimpArgs false
set_option linter.unusedVariables false
set_option linter.unnecessarySimpa false
open Go Go.RowKit

/-- A frame's cells. -/
abbrev fc (f : Frm) : Array Value := #[.int .i64 f.fn, .int .i64 f.pc, .int .u64 (f.r 0 : Nat), .int .u64 (f.r 1 : Nat), .int .u64 (f.r 2 : Nat), .int .u64 (f.r 3 : Nat), .int .u64 (f.r 4 : Nat), .int .u64 (f.r 5 : Nat), .int .u64 (f.r 6 : Nat), .int .u64 (f.r 7 : Nat)]
/-- An instruction's cells. -/
abbrev ic (i : Ins) : Array Value := #[.int .i64 i.op, .int .i64 i.a, .int .i64 i.b, .int .i64 i.c, .int .u64 (i.n : Nat)]

theorem fc_reg (f : Frm) (k : Nat) (h : k < 8) : (fc f)[2 + k]? = some (.int .u64 (f.r k : Nat)) := by
  rcases (by omega : k = 0 ∨ k = 1 ∨ k = 2 ∨ k = 3 ∨ k = 4 ∨ k = 5 ∨ k = 6 ∨ k = 7) with rfl | rfl | rfl | rfl | rfl | rfl | rfl | rfl <;> rfl
theorem fc_cells (f : Frm) : (fc f).all (·.oneCell') = true := by simp [Value.oneCell']
theorem fc_set (f : Frm) (k v : Nat) (h : k < 8) (o : Nat) : (fc (f.set k v))[o]? = if o = 2 + k then some (.int .u64 (v : Nat)) else (fc f)[o]? := by
  rcases (by omega : k = 0 ∨ k = 1 ∨ k = 2 ∨ k = 3 ∨ k = 4 ∨ k = 5 ∨ k = 6 ∨ k = 7) with rfl | rfl | rfl | rfl | rfl | rfl | rfl | rfl
  all_goals
    match o with
    | 0 => rfl
    | 1 => rfl
    | 2 => rfl
    | 3 => rfl
    | 4 => rfl
    | 5 => rfl
    | 6 => rfl
    | 7 => rfl
    | 8 => rfl
    | 9 => rfl
    | n + 10 => rw [if_neg (by omega)]; simp

/-- A box of a world. -/
structure Box (W : World) (b : Nat) (cs : Array Value) (t : TypeId) : Prop where
  heap : W.heap[b]? = some (.cells cs t (0, 0))

theorem Box.lt {W : World} {b : Nat} {cs : Array Value} {t : TypeId} (h : Box W b cs t) : b < W.heap.size := (Array.getElem?_eq_some_iff.1 h.heap).1
theorem Box.cell {W : World} {b : Nat} {cs : Array Value} {t : TypeId} (h : Box W b cs t) (o : Nat) : W.cell? ⟨b, o, none⟩ = cs[o]? := by
  unfold World.cell?
  simp only [h.heap]
  rfl
theorem Box.frozen {W : World} {b : Nat} {cs : Array Value} {t : TypeId} (h : Box W b cs t) (o : Nat) : W.frozen? ⟨b, o, none⟩ = false := by
  unfold World.frozen?
  simp only [h.heap]
  simp
theorem Box.below {W w' : World} {B b : Nat} {cs : Array Value} {t : TypeId} (h : Box W b cs t) (hb : Below B W w') (hB : b < B) : Box w' b cs t := ⟨by rw [hb.block b hB]; exact h.heap⟩
theorem Box.up {W w' : World} {b : Nat} {cs : Array Value} {t : TypeId} (h : Box W b cs t) (hb : Below W.heap.size W w') : Box w' b cs t := h.below hb h.lt
theorem Box.new (W : World) (cs : Array Value) (t : TypeId) : Box (W.alloc (.cells cs t)) W.heap.size cs t := ⟨(MapKept.heap_alloc W _).1⟩
theorem Box.old {W : World} {b : Nat} {cs : Array Value} {t : TypeId} (h : Box W b cs t) (o : Obj) : Box (W.alloc o) b cs t := h.up (Dk.up_alloc (Below.refl _ _) _)
theorem Box.drew {W : World} {b : Nat} {cs : Array Value} {t : TypeId} (h : Box W b cs t) : Box W.drew b cs t := h.up (Dk.up_drew (Below.refl _ _))
theorem Box.drewN {W : World} {b : Nat} {cs : Array Value} {t : TypeId} (h : Box W b cs t) (n : Nat) : Box (W.drewN n) b cs t := h.up (Dk.up_drewN (Below.refl _ _) n)
theorem Box.row {W : World} {b : Nat} {cs cs' : Array Value} {t : TypeId} (h : Box W b cs t) : Box (W.setRow b cs') b cs' t := ⟨setRow_heap W b cs cs' t (0, 0) h.heap⟩
theorem Box.row_other {W : World} {b b' : Nat} {cs cs' : Array Value} {t : TypeId} (h : Box W b cs t) (hn : b ≠ b') : Box (W.setRow b' cs') b cs t := ⟨by rw [setRow_other W b' b cs' (by omega)]; exact h.heap⟩

theorem Box.set {W : World} {b : Nat} {cs : Array Value} {t : TypeId} (h : Box W b cs t) (o : Nat) (v : Value) : Box (W.setCell ⟨b, o, none⟩ v) b (cs.setIfInBounds o v) t := by
  rw [setCell_eq_setRow W b o cs t (0, 0) v h.heap]
  exact h.row
theorem Box.set_other {W : World} {b b' : Nat} {cs : Array Value} {t : TypeId} (h : Box W b cs t) (hn : b ≠ b') (o : Nat) (v : Value) : Box (W.setCell ⟨b', o, none⟩ v) b cs t := by
  have hlt := h.lt
  have := (Below.refl (b + 1) W)
  refine ⟨?_⟩
  rw [← h.heap]
  simp [World.setCell, Array.getElem?_modify, Ne.symm hn]
theorem fc_put (f : Frm) (k v : Nat) (h : k < 8) : (fc f).setIfInBounds (2 + k) (.int .u64 (v : Nat)) = fc (f.set k v) := by
  rcases (by omega : k = 0 ∨ k = 1 ∨ k = 2 ∨ k = 3 ∨ k = 4 ∨ k = 5 ∨ k = 6 ∨ k = 7) with rfl | rfl | rfl | rfl | rfl | rfl | rfl | rfl <;> rfl
theorem Box.setReg {W : World} {b : Nat} {f : Frm} {t : TypeId} (h : Box W b (fc f) t) (k v : Nat) (hk : k < 8) : Box (W.setCell ⟨b, 2 + k, none⟩ (.int .u64 (v : Nat))) b (fc (f.set k v)) t := by
  rw [← fc_put f k v hk]
  exact h.set _ _

/-- The boxes of a function that takes a frame and an instruction and has a frame to answer. -/
theorem three (w : World) (cs ds es : Array Value) (t u v : TypeId) (W : World) (e : ((w.alloc (.cells cs t)).alloc (.cells ds u)).alloc (.cells es v) = W) :
    Box W w.heap.size cs t ∧ Box W (w.heap.size + 1) ds u ∧ Box W (w.heap.size + 1 + 1) es v ∧ Below w.heap.size w W ∧ W.heap.size = w.heap.size + 1 + 1 + 1 := by
  subst e
  refine ⟨((Box.new _ _ _).old _).old _, ?_, ?_, up_alloc (up_alloc (up_alloc (Below.refl _ _) _) _) _, by simp⟩
  · have := (Box.new (w.alloc (.cells cs t)) ds u).old (.cells es v)
    simpa only [World.size_alloc] using this
  · have := Box.new ((w.alloc (.cells cs t)).alloc (.cells ds u)) es v
    simpa only [World.size_alloc] using this

/-- What is behind the laying of a register: the frame's box, and the answer's box laid whole. -/
theorem tail (w W : World) (N k v : Nat) (f : Frm) (es : Array Value) (t : TypeId) (b1 : Box W N (fc f) t) (b3 : Box W (N + 1 + 1) es t) (u : Below N w W) (hk : k < 8) :
    ∃ W4 W5, W.setCell ⟨N, 2 + k, none⟩ (.int .u64 (v : Nat)) = W4 ∧ W4.setRow (N + 1 + 1) (fc (f.set k v)) = W5 ∧ Box W4 N (fc (f.set k v)) t ∧ Box W4 (N + 1 + 1) es t ∧ Box W5 (N + 1 + 1) (fc (f.set k v)) t ∧ Below N w W5 :=
  ⟨_, _, rfl, rfl, b1.setReg _ _ hk, b3.set_other (by omega) _ _, (b3.set_other (by omega) _ _).row, below_setRow (u.setCell (Nat.le_refl _) _) (by omega) _⟩
/-- The same where no register is laid. -/
theorem tail0 (w W : World) (N : Nat) (f : Frm) (es : Array Value) (t : TypeId) (b3 : Box W (N + 1 + 1) es t) (u : Below N w W) :
    ∃ W5, W.setRow (N + 1 + 1) (fc f) = W5 ∧ Box W5 (N + 1 + 1) (fc f) t ∧ Below N w W5 :=
  ⟨_, rfl, b3.row, below_setRow u (by omega) _⟩

/-- Words in a block. -/
abbrev wc (m : List Nat) : Array Value := (m.map fun x => Value.int .u64 (x : Nat)).toArray
theorem wc_cell (m : List Nat) (k : Nat) (h : k < m.length) : (wc m)[k]? = some (.int .u64 ((m.getD k 0 : Nat) : Nat)) := by simp [wc, h]
theorem wc_set (m : List Nat) (k v : Nat) : (wc m).setIfInBounds k (.int .u64 (v : Nat)) = wc (m.set k v) := by simp [wc, List.map_set]
theorem Box.setWord {W : World} {b : Nat} {m : List Nat} {t : TypeId} (h : Box W b (wc m) t) (k v : Nat) : Box (W.setCell ⟨b, k, none⟩ (.int .u64 (v : Nat))) b (wc (m.set k v)) t := by
  rw [← wc_set]
  exact h.set _ _
theorem below_both {B : Nat} {w w' : World} (h : Below B w w') {b o : Nat} (hb : b < B) (v : Value) : Below B (w.setCell ⟨b, o, none⟩ v) (w'.setCell ⟨b, o, none⟩ v) := by
  refine ⟨h.os, h.tape, h.output, by simp [World.setCell]; exact h.size, fun k hk => ?_⟩
  have := h.block k hk
  simp only [World.setCell, Array.getElem?_modify]
  split
  · rename_i e; subst e; rw [this]
  · exact this

end Dk
