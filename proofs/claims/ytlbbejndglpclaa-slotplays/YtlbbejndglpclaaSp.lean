/- What the statement on plays keeps of a table, beside it. -/
import Derived.Test.YtlbbejndglpclaaSo
import Derived.Deep.CutRange
namespace Dk
set_option linter.unusedSimpArgs false
set_option linter.unusedVariables false
set_option linter.unnecessarySimpa false
open Go Go.RowKit

def tcs (st : St) : Array Value := (st.map fun x => Value.int .u64 (x.1 : Nat)).toArray
def ucs (st : St) : Array Value := (st.map fun x => Value.bool x.2).toArray
theorem tcs_at (st : St) (k : Nat) (hk : k < st.length) : (tcs st)[k]? = some (.int .u64 (tk st k : Nat)) := by simp [tcs, tk, List.getD, hk]
theorem ucs_at (st : St) (k : Nat) (hk : k < st.length) : (ucs st)[k]? = some (.bool (us st k)) := by simp [ucs, us, List.getD, hk]
theorem tcs_put (st : St) (k t : Nat) (b : Bool) : (tcs st).setIfInBounds k (.int .u64 (t : Nat)) = tcs (put st k t b) := by simp [tcs, put, List.map_set]
theorem ucs_put (st : St) (k t : Nat) (b : Bool) : (ucs st).setIfInBounds k (.bool b) = ucs (put st k t b) := by simp [ucs, put, List.map_set]
theorem tcs_same (st : St) (k : Nat) (b : Bool) (hk : k < st.length) : tcs (put st k (tk st k) b) = tcs st := by
  rw [← tcs_put]
  apply Array.ext_getElem?
  intro j
  rw [Array.getElem?_setIfInBounds]
  split
  · rename_i e
    subst e
    rw [tcs_at st k hk, if_pos (by simpa [tcs] using hk)]
  · rfl
theorem tcs_blank (n : Nat) : madeCells #[.int .u64 0] n = tcs (blank n) := by
  apply Array.toList_inj.1
  rw [toList_madeCells_one]
  simp [tcs, blank]
theorem ucs_blank (n : Nat) : madeCells #[.bool false] n = ucs (blank n) := by
  apply Array.toList_inj.1
  rw [toList_madeCells_one]
  simp [ucs, blank]

/-- The two lists of the statement, beside the table. -/
structure Book (w : World) (b7 b8 : Nat) (st : St) : Prop where
  taken : Box w b7 (tcs st) 27
  used : Box w b8 (ucs st) 4
  ne : b7 ≠ b8
theorem Book.up {w w' : World} {b7 b8 : Nat} {st : St} (h : Book w b7 b8 st) (u : Below w.heap.size w w') : Book w' b7 b8 st := ⟨h.taken.up u, h.used.up u, h.ne⟩
theorem Book.far {w w' : World} {b7 b8 r : Nat} {st : St} (h : Book w b7 b8 st) (g : w.grownBy w' (some r)) (h1 : b7 ≠ r) (h2 : b8 ≠ r) : Book w' b7 b8 st := ⟨h.taken.far g h1, h.used.far g h2, h.ne⟩
theorem Book.grown {w w' : World} {b7 b8 B0 : Nat} {st : St} {row : Option Nat} (h : Book w b7 b8 st) (g : w.grownBy w' row) (hr : ∀ k, row = some k → B0 ≤ k) (h1 : b7 < B0) (h2 : b8 < B0) : Book w' b7 b8 st :=
  ⟨h.taken.grown g (fun e => by have := hr _ e.symm; omega), h.used.grown g (fun e => by have := hr _ e.symm; omega), h.ne⟩
theorem Book.put {w : World} {b7 b8 : Nat} {st : St} (h : Book w b7 b8 st) (k t : Nat) (b : Bool) : Book ((w.setCell ⟨b8, k, none⟩ (.bool b)).setCell ⟨b7, k, none⟩ (.int .u64 (t : Nat))) b7 b8 (put st k t b) := by
  refine ⟨?_, ?_, h.ne⟩
  · rw [← tcs_put st k t b]
    exact (h.taken.set_other h.ne _ _).set _ _
  · rw [← ucs_put st k t b]
    exact (h.used.set _ _).set_other (Ne.symm h.ne) _ _
theorem Book.flag {w : World} {b7 b8 : Nat} {st : St} (h : Book w b7 b8 st) (k : Nat) (b : Bool) (hk : k < st.length) : Book (w.setCell ⟨b8, k, none⟩ (.bool b)) b7 b8 (Dk.put st k (tk st k) b) := by
  refine ⟨?_, ?_, h.ne⟩
  · rw [tcs_same st k b hk]
    exact h.taken.set_other h.ne _ _
  · rw [← ucs_put st k (tk st k) b]
    exact h.used.set _ _
theorem Tab.set_other {w : World} {bt bs M b o : Nat} {st : St} {v : Value} (h : Tab w bt bs M st) (h1 : bt ≠ b) (h2 : bs ≠ b) : Tab (w.setCell ⟨b, o, none⟩ v) bt bs M st := ⟨h.head.set_other h1 _ _, h.row.set_other h2 _ _, h.ne, h.small⟩
theorem Book.set_other {w : World} {b7 b8 b o : Nat} {st : St} {v : Value} (h : Book w b7 b8 st) (h1 : b7 ≠ b) (h2 : b8 ≠ b) : Book (w.setCell ⟨b, o, none⟩ v) b7 b8 st := ⟨h.taken.set_other h1 _ _, h.used.set_other h2 _ _, h.ne⟩

theorem sli_up {w w' : World} {A : Option Addr} {L C : Nat} {xs : List Int} (h : SlI w.heap.size w A L C xs) (u : Below w.heap.size w w') : SlI w'.heap.size w' A L C xs :=
  ⟨h.len, h.cap, h.max, h.wf, fun h0 => by
    obtain ⟨b, o, e, hb, hc⟩ := h.cells h0
    exact ⟨b, o, e, Nat.lt_of_lt_of_le hb u.size, fun k hk => by rw [u.cell (by show b < w.heap.size; exact hb)]; exact hc k hk⟩⟩

/-- An act's cells. -/
theorem act_cell {B : Nat} {w : World} {A : Option Addr} {L C : Nat} {xs : List Act4} (h : Row 3 Act4.zero IsAct B w A L C xs) (h0 : 0 < L) : ∃ b o, A = some ⟨b, o, none⟩ ∧ b < B ∧ ∀ k, k < L → ∃ a : Act4, i64 a.what ∧ i64 a.n ∧ a.handle < 18446744073709551616 ∧ w.cell? ⟨b, o + k * 3, none⟩ = some (.int .i64 a.what) ∧ w.cell? ⟨b, o + k * 3 + 1, none⟩ = some (.int .i64 a.n) ∧ w.cell? ⟨b, o + k * 3 + 2, none⟩ = some (.int .u64 (a.handle : Nat)) := by
  obtain ⟨b, o, e, hb, hc⟩ := h.cells h0
  refine ⟨b, o, e, hb, fun k hk => ?_⟩
  obtain ⟨vs, h1, ⟨rfl, h2, h3, h4⟩, h5⟩ := hc k hk
  exact ⟨xs.getD k Act4.zero, h2, h3, h4, h5 0 (by omega), h5 1 (by omega), h5 2 (by omega)⟩

end Dk
namespace Go.Proofs.Ytlbbejndglpclaa
set_option linter.unusedSimpArgs false
set_option linter.unusedVariables false
set_option linter.unnecessarySimpa false
open Go.RowKit
theorem info4 : (Try.prog.info? 4).map (fun i => (i.zero, i.size, i.bytes)) = some (some (.bool false), 1, 1) := by kernel_rfl
theorem make_taken (n : Nat) (hn : n ≤ 1024) (w : World) : (Instr.makeSlice 25 (.int .i64 (n : Int)) (.int .i64 (n : Int))).run Try.prog w = .ok (.slice (some ⟨w.heap.size, 0, none⟩) n n) (w.alloc (.cells (Dk.tcs (Dk.blank n)) 27)) := by
  rw [← Dk.tcs_blank]
  exact run_make_row' 25 27 (.int .u64 0) 8 Try.underlying25 info27 rfl .i64 .i64 n (by omega) (by omega) w
theorem make_used (n : Nat) (hn : n ≤ 1024) (w : World) : (Instr.makeSlice 26 (.int .i64 (n : Int)) (.int .i64 (n : Int))).run Try.prog w = .ok (.slice (some ⟨w.heap.size, 0, none⟩) n n) (w.alloc (.cells (Dk.ucs (Dk.blank n)) 4)) := by
  rw [← Dk.ucs_blank]
  exact run_make_row' 26 4 (.bool false) 1 Try.underlying26 info4 rfl .i64 .i64 n (by omega) (by omega) w

end Go.Proofs.Ytlbbejndglpclaa
