/- Plain mathematics of the statement on all who came in. -/
import Derived.Test.YtoilkojegnfmfaaYb
namespace Dk
set_option linter.unusedSimpArgs false
set_option linter.unusedVariables false
set_option linter.unnecessarySimpa false
open Go Go.RowKit
/-- So many came in: 0 to k - 1, each once. -/
structure Full (n k : Nat) (rs : List (List Int)) : Prop where
  len : rs.length = n
  few : Few k rs
  all : rs.flatten.length = k
  low : ∀ x ∈ rs.flatten, 0 ≤ x ∧ x < k
theorem flat_blank (n : Nat) : (List.replicate n ([] : List Int)).flatten = [] := by
  induction n with
  | zero => rfl
  | succ n ih => rw [List.replicate_succ, List.flatten_cons, ih]; rfl
theorem Full.blank (n : Nat) (hn : n ≤ 64) : Full n 0 (List.replicate n []) := ⟨by simp, Few.blank n hn, by rw [flat_blank]; rfl, by rw [flat_blank]; simp⟩
theorem Full.add {n k : Nat} {rs : List (List Int)} {p : Int} (h : Full n k rs) (hk : k ≤ 1000) (h0 : 0 ≤ p) (h1 : p < n) : canAdd rs p k = true ∧ Full n (k + 1) (addTo rs p k) := by
  have hb : inRows rs p = true := inRows_iff.2 ⟨h0, by rw [h.len]; exact h1⟩
  have hn : ((k : Nat) : Int) ∉ rs.flatten := fun hm => by have := h.low _ hm; omega
  have hc : canAdd rs p k = true := by
    unfold canAdd
    rw [hb, Bool.true_and, Bool.not_eq_true']
    cases e : rs.flatten.contains (k : Int)
    · rfl
    · exact absurd (List.contains_iff_mem.1 e) hn
  have hp := addTo_perm hc
  refine ⟨hc, by rw [addTo_len]; exact h.len, h.few.add ⟨by omega, by omega⟩, by rw [hp.length_eq, List.length_cons, h.all], fun x hx => ?_⟩
  rcases List.mem_cons.1 (hp.mem_iff.1 hx) with rfl | hx
  · omega
  · have := h.low x hx; omega
/-- Some were picked already: who is still there is not marked. -/
structure Left (n m i : Nat) (rs : List (List Int)) (out : List Bool) : Prop where
  len : rs.length = n
  few : Few m rs
  all : rs.flatten.length + i = m
  marks : out.length = m
  low : ∀ x ∈ rs.flatten, 0 ≤ x ∧ x < m ∧ out.getD x.toNat true = false
theorem Full.left {n m : Nat} {rs : List (List Int)} (h : Full n m rs) : Left n m 0 rs (List.replicate m false) := ⟨h.len, h.few, by have := h.all; omega, by simp, fun x hx => by
  have := h.low x hx
  refine ⟨this.1, this.2, ?_⟩
  have h2 : x.toNat < m := by omega
  simp [List.getD, h2]⟩
theorem Left.step {n m i : Nat} {rs : List (List Int)} {out : List Bool} {p : Int} (h : Left n m i rs out) (hi : i < m) (h0 : 0 ≤ p) (h1 : p < n) :
    pickB rs p = true ∧ 0 ≤ pickT rs p ∧ pickT rs p < m ∧ out.getD (pickT rs p).toNat true = false ∧ Left n m (i + 1) (pickR rs p) (out.set (pickT rs p).toNat true) := by
  have hb : inRows rs p = true := inRows_iff.2 ⟨h0, by rw [h.len]; exact h1⟩
  have hne : rs.flatten ≠ [] := fun e => by have := h.all; rw [e] at this; simp at this; omega
  have hy := pick_yes hb hne
  have hp := pick_perm hy
  have hm := h.low _ (hp.mem_iff.1 (List.mem_cons_self ..))
  have hl := hp.length_eq
  rw [List.length_cons] at hl
  have hnd := List.nodup_cons.1 (hp.nodup_iff.2 h.few.nodup)
  refine ⟨hy, hm.1, hm.2.1, hm.2.2, by rw [pickR_len]; exact h.len, h.few.pick p, by have := h.all; omega, by rw [List.length_set]; exact h.marks, fun x hx => ?_⟩
  have hx' := h.low x (hp.mem_iff.1 (List.mem_cons_of_mem _ hx))
  refine ⟨hx'.1, hx'.2.1, ?_⟩
  have hne : x ≠ pickT rs p := fun e => hnd.1 (e ▸ hx)
  have hne' : (pickT rs p).toNat ≠ x.toNat := by omega
  rw [List.getD, List.getElem?_set_ne hne']
  exact hx'.2.2
theorem Left.empty {n m : Nat} {rs : List (List Int)} {out : List Bool} (h : Left n m m rs out) : emptyR rs = true := by
  rw [emptyR_iff]
  exact List.eq_nil_of_length_eq_zero (by have := h.all; omega)
/-- Yes or no, in memory. -/
def yn (l : List Bool) : List Value := l.map Value.bool
theorem yn_at {l : List Bool} {k : Nat} (h : k < l.length) (d : Bool) : (yn l)[k]? = some (.bool (l.getD k d)) := by
  simp [yn, List.getD, h]
theorem yn_set (l : List Bool) (k : Nat) (b : Bool) : (yn l).set k (.bool b) = yn (l.set k b) := by
  unfold yn
  rw [List.map_set]
end Dk
namespace Go.Proofs.Ytoilkojegnfmfaa
set_option linter.unusedSimpArgs false
set_option linter.unusedVariables false
set_option linter.unnecessarySimpa false
open Go.RowKit
/-- Marks that are made. -/
theorem Sep.madeYn {W w : World} {us : List Dk.Thing} (h : Dk.Sep W w us) (n : Nat) (hn : n ≤ 1000) : ∃ w', (Instr.makeSlice 39 (.int .i64 (n : Int)) (.int .i64 (n : Int))).run Try.prog w = .ok (.slice (some ⟨w.heap.size, 0, none⟩) n n) w' ∧ Dk.Sep W w' (Dk.rowOf 4 1 (.slice (some ⟨w.heap.size, 0, none⟩) n n) n (Dk.yn (List.replicate n false)) :: us) := by
  have hr := run_make_row' 39 4 (.bool false) 1 Try.underlying39 (by kernel_rfl) rfl .i64 .i64 n (by omega) (by omega) w
  refine ⟨_, hr, h.add (Dk.up_alloc (Below.refl _ _) _) ?_ (fun k hk => by simp [Dk.rowOf, Value.ownBlock] at hk; omega)⟩
  have e : (madeCells #[.bool false] n).toList = Dk.yn (List.replicate n false) := by
    apply List.ext_getElem?
    intro i
    by_cases hi : i < n
    · simp [madeCells, Dk.yn, hi, Nat.mod_one]
    · rw [List.getElem?_eq_none (by simp [madeCells]; omega), List.getElem?_eq_none (by simp [Dk.yn]; omega)]
  have := World.ownsRow_lit w (e := 4) (size := 1) (base := 0) (madeCells #[.bool false] n) n (Nat.zero_le _) (by unfold maxLen; omega) (by simp [madeCells])
  rw [e] at this
  exact this
end Go.Proofs.Ytoilkojegnfmfaa
