/- How a table lies in memory, and how it goes on. -/
import Derived.Test.YtlbbejndglpclaaBx
import Derived.Test.YtlbbejndglpclaaSl
import Derived.Test.YtlbbejndglpclaaChecked
import Derived.WalkKit
namespace Dk
set_option linter.unusedSimpArgs false
set_option linter.unusedVariables false
set_option linter.unnecessarySimpa false
open Go Go.RowKit

/-- A slot's cells. -/
def sl : Nat × Bool → List Value := fun x => [.int .u64 (x.1 : Nat), .bool x.2]
def scl (st : St) : List Value := st.flatMap sl
def sc (st : St) : Array Value := (scl st).toArray

theorem scl_len (st : St) : (scl st).length = st.length * 2 := by
  induction st with
  | nil => rfl
  | cons x r ih => simp only [scl, List.flatMap_cons, List.length_append, List.length_cons] at ih ⊢; rw [ih]; simp [sl]; omega
theorem scl_at (st : St) (k : Nat) (hk : k < st.length) : (scl st)[k * 2]? = some (.int .u64 (tk st k : Nat)) ∧ (scl st)[k * 2 + 1]? = some (.bool (us st k)) := by
  induction st generalizing k with
  | nil => simp at hk
  | cons x r ih =>
    cases k with
    | zero => exact ⟨rfl, rfl⟩
    | succ k =>
      have h := ih k (by simpa using hk)
      have e : scl (x :: r) = .int .u64 (x.1 : Nat) :: .bool x.2 :: scl r := rfl
      rw [e, show (k + 1) * 2 = k * 2 + 1 + 1 by omega, List.getElem?_cons_succ, List.getElem?_cons_succ, List.getElem?_cons_succ, List.getElem?_cons_succ]
      exact h
theorem scl_put (st : St) (k t : Nat) (b : Bool) (hk : k < st.length) : scl (put st k t b) = ((scl st).set (k * 2) (.int .u64 (t : Nat))).set (k * 2 + 1) (.bool b) := by
  induction st generalizing k with
  | nil => simp at hk
  | cons x r ih =>
    have e : ∀ (x : Nat × Bool) r, scl (x :: r) = .int .u64 (x.1 : Nat) :: .bool x.2 :: scl r := fun _ _ => rfl
    cases k with
    | zero => rfl
    | succ k =>
      have h := ih k (by simpa using hk)
      show scl (x :: put r k t b) = _
      rw [e, e, h, show (k + 1) * 2 = k * 2 + 1 + 1 by omega]
      rfl
theorem sc_at (st : St) (k : Nat) (hk : k < st.length) : (sc st)[k * 2]? = some (.int .u64 (tk st k : Nat)) ∧ (sc st)[k * 2 + 1]? = some (.bool (us st k)) := by
  unfold sc
  simp only [List.getElem?_toArray]
  exact scl_at st k hk
theorem sc_put (st : St) (k t : Nat) (b : Bool) (hk : k < st.length) : ((sc st).setIfInBounds (k * 2) (.int .u64 (t : Nat))).setIfInBounds (k * 2 + 1) (.bool b) = sc (put st k t b) := by
  unfold sc
  rw [scl_put st k t b hk]
  simp
theorem sc_flag (st : St) (k : Nat) (b : Bool) (hk : k < st.length) : (sc st).setIfInBounds (k * 2 + 1) (.bool b) = sc (put st k (tk st k) b) := by
  rw [← sc_put st k _ b hk]
  congr 1
  apply Array.ext_getElem?
  intro j
  rw [Array.getElem?_setIfInBounds]
  split
  · rename_i e
    subst e
    have := (sc_at st k hk).1
    rw [this, if_pos (Array.getElem?_eq_some_iff.1 this).1]
  · rfl
theorem sc_blank (n : Nat) : madeCells #[.int .u64 0, .bool false] (n * 2) = sc (blank n) := by
  apply Array.ext_getElem?
  intro j
  by_cases hj : j < n * 2
  · have hl : (blank n).length = n := by simp [blank]
    have hk : j / 2 < (blank n).length := by omega
    have h := sc_at (blank n) (j / 2) hk
    rw [tk_blank, us_blank] at h
    rcases Nat.mod_two_eq_zero_or_one j with h2 | h2
    · have e : j / 2 * 2 = j := by omega
      rw [e] at h
      rw [h.1]
      simp [madeCells, hj, h2]
    · have e : j / 2 * 2 + 1 = j := by omega
      rw [e] at h
      rw [h.2]
      simp [madeCells, hj, h2]
  · rw [Array.getElem?_eq_none (by rw [size_madeCells]; omega), Array.getElem?_eq_none]
    simp [sc, scl_len, blank]
    omega

/-- A table behind a pointer. -/
structure Tab (w : World) (bt bs : Nat) (M : Nat) (st : St) : Prop where
  head : Box w bt #[.slice (some ⟨bs, 0, none⟩) st.length st.length] 48
  row : Box w bs (sc st) 50
  ne : bt ≠ bs
  small : Small M st

theorem Tab.up {w w' : World} {bt bs M : Nat} {st : St} (h : Tab w bt bs M st) (u : Below w.heap.size w w') : Tab w' bt bs M st := ⟨h.head.up u, h.row.up u, h.ne, h.small⟩
theorem Tab.far {w w' : World} {bt bs M r : Nat} {st : St} (h : Tab w bt bs M st) (g : w.grownBy w' (some r)) (h1 : bt ≠ r) (h2 : bs ≠ r) : Tab w' bt bs M st := ⟨h.head.far g h1, h.row.far g h2, h.ne, h.small⟩
theorem Tab.more {w : World} {bt bs M M' : Nat} {st : St} (h : Tab w bt bs M st) (hM : M ≤ M') : Tab w bt bs M' st := ⟨h.head, h.row, h.ne, h.small.mono hM⟩
theorem Tab.flag {w : World} {bt bs M : Nat} {st : St} (h : Tab w bt bs M st) (k : Nat) (b : Bool) (hk : k < st.length) : Tab (w.setCell ⟨bs, k * 2 + 1, none⟩ (.bool b)) bt bs M (put st k (tk st k) b) := by
  refine ⟨?_, ?_, h.ne, h.small.put hk (h.small.2 k)⟩
  · rw [put_len]; exact h.head.set_other h.ne _ _
  · rw [← sc_flag st k b hk]; exact h.row.set _ _
theorem Tab.both {w : World} {bt bs M : Nat} {st : St} (h : Tab w bt bs M st) (k t : Nat) (b : Bool) (hk : k < st.length) (ht : t ≤ M) : Tab ((w.setCell ⟨bs, k * 2, none⟩ (.int .u64 (t : Nat))).setCell ⟨bs, k * 2 + 1, none⟩ (.bool b)) bt bs M (put st k t b) := by
  refine ⟨?_, ?_, h.ne, h.small.put hk ht⟩
  · rw [put_len]; exact (h.head.set_other h.ne _ _).set_other h.ne _ _
  · rw [← sc_put st k t b hk]; exact (h.row.set _ _).set _ _

end Dk
