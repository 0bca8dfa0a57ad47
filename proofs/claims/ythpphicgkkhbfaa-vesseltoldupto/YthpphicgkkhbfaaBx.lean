/- Boxes: blocks of a world that lie whole, and how a world that holds some boxes goes on. Of any program of the model. -/
import Derived.Test.YthpphicgkkhbfaaOpn
import Derived.Laws.Tables
import Derived.Laws.CopyOwn
import Derived.Deep.OwnRows
namespace Dk
set_option linter.unusedSimpArgs false
set_option linter.unusedVariables false
set_option linter.unnecessarySimpa false
open Go Go.RowKit

/-- A box of a world. -/
structure Box (W : World) (b : Nat) (cs : Array Value) (t : TypeId) : Prop where
  heap : W.heap[b]? = some (.cells cs t (0, 0))

theorem Box.lt {W : World} {b : Nat} {cs : Array Value} {t : TypeId} (h : Box W b cs t) : b < W.heap.size := (Array.getElem?_eq_some_iff.1 h.heap).1
theorem Box.cell {W : World} {b : Nat} {cs : Array Value} {t : TypeId} (h : Box W b cs t) (o : Nat) : W.cell? ⟨b, o, none⟩ = cs[o]? := by
  unfold World.cell?
  simp only [h.heap]
  rfl
theorem Box.frozen {W : World} {b : Nat} {cs : Array Value} {t : TypeId} (h : Box W b cs t) (o : Nat) : W.frozen? ⟨b, o, none⟩ = false := by
  unfold World.frozen?
  simp only [h.heap]
  simp
theorem Box.below {W w' : World} {B b : Nat} {cs : Array Value} {t : TypeId} (h : Box W b cs t) (hb : Below B W w') (hB : b < B) : Box w' b cs t := ⟨by rw [hb.block b hB]; exact h.heap⟩
theorem Box.up {W w' : World} {b : Nat} {cs : Array Value} {t : TypeId} (h : Box W b cs t) (hb : Below W.heap.size W w') : Box w' b cs t := h.below hb h.lt
theorem Box.new (W : World) (cs : Array Value) (t : TypeId) : Box (W.alloc (.cells cs t)) W.heap.size cs t := ⟨(MapKept.heap_alloc W _).1⟩
theorem Box.old {W : World} {b : Nat} {cs : Array Value} {t : TypeId} (h : Box W b cs t) (o : Obj) : Box (W.alloc o) b cs t := h.up (Dk.up_alloc (Below.refl _ _) _)
theorem Box.drew {W : World} {b : Nat} {cs : Array Value} {t : TypeId} (h : Box W b cs t) : Box W.drew b cs t := h.up (Dk.up_drew (Below.refl _ _))
theorem Box.drewN {W : World} {b : Nat} {cs : Array Value} {t : TypeId} (h : Box W b cs t) (n : Nat) : Box (W.drewN n) b cs t := h.up (Dk.up_drewN (Below.refl _ _) n)
theorem Box.row {W : World} {b : Nat} {cs cs' : Array Value} {t : TypeId} (h : Box W b cs t) : Box (W.setRow b cs') b cs' t := ⟨setRow_heap W b cs cs' t (0, 0) h.heap⟩
theorem Box.row_other {W : World} {b b' : Nat} {cs cs' : Array Value} {t : TypeId} (h : Box W b cs t) (hn : b ≠ b') : Box (W.setRow b' cs') b cs t := ⟨by rw [setRow_other W b' b cs' (by omega)]; exact h.heap⟩
theorem Box.set {W : World} {b : Nat} {cs : Array Value} {t : TypeId} (h : Box W b cs t) (o : Nat) (v : Value) : Box (W.setCell ⟨b, o, none⟩ v) b (cs.setIfInBounds o v) t := by
  rw [setCell_eq_setRow W b o cs t (0, 0) v h.heap]
  exact h.row
theorem Box.set_other {W : World} {b b' : Nat} {cs : Array Value} {t : TypeId} (h : Box W b cs t) (hn : b ≠ b') (o : Nat) (v : Value) : Box (W.setCell ⟨b', o, none⟩ v) b cs t := by
  refine ⟨?_⟩
  rw [← h.heap]
  simp [World.setCell, Array.getElem?_modify, Ne.symm hn]
theorem Box.far {W W' : World} {b r : Nat} {cs : Array Value} {t : TypeId} (h : Box W b cs t) (g : W.grownBy W' (some r)) (hn : b ≠ r) : Box W' b cs t := ⟨by rw [g.block b h.lt (fun e => hn (Option.some.inj e))]; exact h.heap⟩

/-- A world with new blocks, and with writes to one block alone. -/
theorem far_refl (w : World) (r : Option Nat) : w.grownBy w r := ⟨rfl, rfl, rfl, Nat.le_refl _, fun _ _ _ => rfl⟩
theorem far_up {w w1 w2 : World} {r : Option Nat} (g : w.grownBy w1 r) (h : Below w1.heap.size w1 w2) : w.grownBy w2 r :=
  ⟨h.os.trans g.os, h.tape.trans g.tape, h.output.trans g.output, Nat.le_trans g.size h.size, fun k hk hr => (h.block k (by have := g.size; omega)).trans (g.block k hk hr)⟩
theorem far_of_up {w w1 : World} {r : Option Nat} (h : Below w.heap.size w w1) : w.grownBy w1 r := far_up (far_refl _ _) h
theorem far_set {w w1 : World} {r : Nat} (g : w.grownBy w1 (some r)) (o : Nat) (v : Value) : w.grownBy (w1.setCell ⟨r, o, none⟩ v) (some r) :=
  ⟨g.os, g.tape, g.output, by simp [World.setCell]; exact g.size, fun k hk hr => (Below.heap_setCell w1 ⟨r, o, none⟩ v k (fun e => hr (by rw [e]))).trans (g.block k hk hr)⟩
theorem far_trans {w w1 w2 : World} {r : Option Nat} (g : w.grownBy w1 r) (h : w1.grownBy w2 r) : w.grownBy w2 r :=
  ⟨h.os.trans g.os, h.tape.trans g.tape, h.output.trans g.output, Nat.le_trans g.size h.size, fun k hk hr => (h.block k (by have := g.size; omega) hr).trans (g.block k hk hr)⟩
/-- A call that wrote one new block alone wrote nothing old. -/
theorem up_far {w0 w1 w2 : World} {r : Nat} (h : Below w0.heap.size w0 w1) (g : w1.grownBy w2 (some r)) (hr : w0.heap.size ≤ r) : Below w0.heap.size w0 w2 :=
  h.grown g h.size (fun k hk => by obtain rfl := Option.some.inj hk; exact hr)

end Dk
