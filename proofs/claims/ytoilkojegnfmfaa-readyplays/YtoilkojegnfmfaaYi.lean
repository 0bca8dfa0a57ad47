/- Plain mathematics of the statement on whoever picks. -/
import Derived.Test.YtoilkojegnfmfaaYg
import Derived.Test.YtoilkojegnfmfaaOpr
namespace Dk
set_option linter.unusedSimpArgs false
set_option linter.unusedVariables false
set_option linter.unnecessarySimpa false
open Go Go.RowKit
theorem empty_len {l : List Int} {M : Nat} (e : l.length = M) : l.isEmpty = decide (M = 0) := by
  subst e
  cases l <;> simp
theorem full_len {l : List Int} {M : Nat} (e : l.length = M) : (!l.isEmpty) = decide (0 < M) := by
  subst e
  cases l <;> simp
/-- What the statement looks for: from which row, and at which place. -/
def fromI (rs : List (List Int)) (p : Int) : Int := match pickAt rs p with
  | some (k, _) => (k : Nat)
  | none => -1
def atI (rs : List (List Int)) (p : Int) : Int := match pickAt rs p with
  | some (_, j) => (j : Nat)
  | none => 0
/-- How far it has looked: rows 0 to k - 1 are empty, or it has found one. -/
structure Look (rs : List (List Int)) (p : Int) (k : Nat) (f a : Int) : Prop where
  found : 0 ≤ f → f = fromI rs p ∧ a = atI rs p
  none_ : f < 0 → f = -1 ∧ a = 0 ∧ (inRows rs p = true → (rs.getD p.toNat []).isEmpty = true ∧ ∀ j, j < k → (rs.getD j []).isEmpty = true)
theorem Look.start {rs : List (List Int)} {p : Int} (h : inRows rs p = true → (rs.getD p.toNat []).isEmpty = true) : Look rs p 0 (-1) 0 :=
  ⟨fun h0 => by omega, fun _ => ⟨rfl, rfl, fun hi => ⟨h hi, fun j hj => by omega⟩⟩⟩
theorem Look.own {rs : List (List Int)} {p : Int} (hi : inRows rs p = true) (h : (rs.getD p.toNat []).isEmpty = false) : Look rs p 0 p 0 := by
  have hp := inRows_iff.1 hi
  have e : pickAt rs p = some (p.toNat, 0) := by
    unfold pickAt
    rw [if_pos hi, if_pos h]
  refine ⟨fun _ => ⟨?_, ?_⟩, fun h0 => by omega⟩
  · unfold fromI
    rw [e]
    show p = (p.toNat : Int)
    omega
  · unfold atI
    rw [e]
    rfl
theorem firstR_eq {rs : List (List Int)} {k : Nat} (hk : k < rs.length) (h : (rs.getD k []).isEmpty = false) (hb : ∀ j, j < k → (rs.getD j []).isEmpty = true) : firstR rs = k := by
  unfold firstR
  rw [List.findIdx_eq hk]
  have e : ∀ j (hj : j < rs.length), rs.getD j [] = rs[j] := fun j hj => by simp [List.getD, hj]
  refine ⟨?_, fun j hj => ?_⟩
  · have h1 := h
    rw [e k hk] at h1
    simp [h1]
  · have h1 := hb j hj
    rw [e j (by omega)] at h1
    simp [h1]
theorem Look.skip {rs : List (List Int)} {p : Int} {k : Nat} {f a : Int} (h : Look rs p k f a) (he : (rs.getD k []).isEmpty = true) : Look rs p (k + 1) f a :=
  ⟨h.found, fun h0 => by
    obtain ⟨h1, h2, h3⟩ := h.none_ h0
    refine ⟨h1, h2, fun hi => ⟨(h3 hi).1, fun j hj => ?_⟩⟩
    by_cases e : j = k
    · rw [e]; exact he
    · exact (h3 hi).2 j (by omega)⟩
theorem Look.hit {rs : List (List Int)} {p : Int} {k : Nat} {f a : Int} (h : Look rs p k f a) (h0 : f < 0) (hi : inRows rs p = true) (hk : k < rs.length) (he : (rs.getD k []).isEmpty = false) : Look rs p (k + 1) k (((rs.getD k []).length : Int) - 1) := by
  obtain ⟨_, _, h3⟩ := h.none_ h0
  obtain ⟨g1, g2⟩ := h3 hi
  have e1 := firstR_eq hk he g2
  have e : pickAt rs p = some (k, (rs.getD k []).length - 1) := by
    unfold pickAt
    rw [if_pos hi, if_neg (by rw [g1]; simp), e1, if_pos hk]
  have hl : 0 < (rs.getD k []).length := by
    cases hr : rs.getD k [] with
    | nil => rw [hr] at he; simp at he
    | cons => simp
  refine ⟨fun _ => ⟨?_, ?_⟩, fun h0 => by omega⟩
  · unfold fromI
    rw [e]
  · unfold atI
    rw [e]
    show ((rs.getD k []).length : Int) - 1 = (((rs.getD k []).length - 1 : Nat) : Int)
    omega
theorem Look.done {rs : List (List Int)} {p : Int} {k : Nat} {f a : Int} (h : Look rs p k f a) (hk : f < 0 → inRows rs p = true → rs.length ≤ k) : f = fromI rs p ∧ a = atI rs p := by
  by_cases h0 : f < 0
  · obtain ⟨h1, h2, h3⟩ := h.none_ h0
    have e : pickAt rs p = none := by
      unfold pickAt
      by_cases hi : inRows rs p = true
      · obtain ⟨g1, g2⟩ := h3 hi
        rw [if_pos hi, if_neg (by rw [g1]; simp), if_neg]
        intro hl
        have hs := firstR_spec hl
        rw [g2 _ (by have := hk h0 hi; omega)] at hs
        cases hs
      · rw [if_neg hi]
    unfold fromI atI
    rw [e]
    exact ⟨h1, h2⟩
  · exact h.found (by omega)
/-- What was found, and what becomes of the rows. -/
theorem from_no {rs : List (List Int)} {p : Int} (h : pickB rs p = false) : fromI rs p = -1 ∧ pickT rs p = 0 ∧ pickR rs p = rs := by
  unfold pickB at h
  have e : pickAt rs p = none := by
    cases e : pickAt rs p with
    | none => rfl
    | some x => rw [e] at h; simp at h
  unfold fromI pickT pickR
  rw [e]
  exact ⟨rfl, rfl, rfl⟩
theorem from_yes {rs : List (List Int)} {p : Int} (h : pickB rs p = true) : ∃ f a : Nat, fromI rs p = (f : Int) ∧ atI rs p = (a : Int) ∧ f < rs.length ∧ a < (rs.getD f []).length ∧ pickT rs p = (rs.getD f []).getD a 0 ∧ pickR rs p = rs.set f ((rs.getD f []).eraseIdx a) := by
  unfold pickB at h
  cases e : pickAt rs p with
  | none => rw [e] at h; simp at h
  | some x =>
    obtain ⟨k, j⟩ := x
    obtain ⟨h1, h2⟩ := pickAt_lt e
    refine ⟨k, j, ?_, ?_, h1, h2, ?_, ?_⟩ <;> simp only [fromI, atI, pickT, pickR, e]
/-- Is someone in one of the first rows? -/
def inFirst (rs : List (List Int)) (k : Nat) (t : Int) : Bool := (rs.take k).any fun r => r.contains t
theorem inFirst_zero (rs : List (List Int)) (t : Int) : inFirst rs 0 t = false := by simp [inFirst]
theorem inFirst_more {rs : List (List Int)} {k : Nat} (hk : k < rs.length) (t : Int) : inFirst rs (k + 1) t = (inFirst rs k t || (rs.getD k []).contains t) := by
  unfold inFirst
  rw [List.take_succ_eq_append_getElem hk, List.any_append]
  simp [List.getD, hk]
theorem inFirst_all (rs : List (List Int)) (t : Int) : inFirst rs rs.length t = rs.flatten.contains t := by
  unfold inFirst
  rw [List.take_length, Bool.eq_iff_iff, List.any_eq_true, List.contains_iff_mem, List.mem_flatten]
  simp
theorem canAdd_eq (rs : List (List Int)) (p t : Int) : canAdd rs p t = (inRows rs p && !inFirst rs rs.length t) := by
  unfold canAdd
  rw [inFirst_all]
/-- Where someone is. -/
theorem where_at {N : Nat} {rs : List (List Int)} (h : Few N rs) {k j : Nat} (hk : k < rs.length) (hj : j < (rs.getD k []).length) : whereK rs ((rs.getD k []).getD j 0) = k := by
  have em : (rs.getD k []).getD j 0 ∈ rs.getD k [] := by
    generalize rs.getD k [] = l at hj ⊢
    rw [show l.getD j 0 = l[j] from by simp [List.getD, hj]]
    exact List.getElem_mem hj
  obtain ⟨x, ex⟩ : ∃ x, (rs.getD k []).getD j 0 = x := ⟨_, rfl⟩
  rw [ex] at em ⊢
  unfold whereK
  rw [List.findIdx_eq hk]
  have e : ∀ i (hi : i < rs.length), rs.getD i [] = rs[i] := fun i hi => by simp [List.getD, hi]
  refine ⟨by rw [← e k hk]; exact List.contains_iff_mem.2 em, fun i hi => ?_⟩
  cases hc : rs[i].contains x
  · rfl
  · have hm := List.contains_iff_mem.1 hc
    have hf := flat_getR rs k hk
    have hn := h.nodup
    rw [hf] at hn
    have hd := (List.nodup_append.1 hn).2.2
    have h1 : x ∈ (rs.take k).flatten := List.mem_flatten.2 ⟨rs[i], by
      rw [List.mem_take_iff_getElem]
      exact ⟨i, by omega, rfl⟩, hm⟩
    exact absurd rfl (hd x h1 x (List.mem_append_left _ em))
theorem rowL_out {rs : List (List Int)} {p : Int} (h : inRows rs p = false) : rowL rs p = [] := by
  unfold rowL
  rw [if_neg (by rw [h]; simp)]
theorem rowL_wf {N : Nat} {rs : List (List Int)} (h : Few N rs) (p : Int) : ∀ x ∈ rowL rs p, i64 x := by
  unfold rowL
  split
  · exact (h.row _).1
  · simp
theorem all_more (rs : List (List Int)) (j : Nat) : ((rs.take j).all fun r => r.isEmpty) = (((rs.take (j - 1)).all fun r => r.isEmpty) && (rowL rs ((j : Int) - 1)).isEmpty) := by
  cases j with
  | zero =>
    have e : inRows rs (((0 : Nat) : Int) - 1) = false := by
      cases e : inRows rs (((0 : Nat) : Int) - 1)
      · rfl
      · have := inRows_iff.1 e; omega
    rw [rowL_out e]
    simp
  | succ j =>
    have ej : ((j + 1 : Nat) : Int) - 1 = (j : Int) := by omega
    rw [ej, Nat.add_sub_cancel]
    by_cases hj : j < rs.length
    · rw [rowL_at hj, List.take_succ_eq_append_getElem hj, List.all_append]
      simp [List.getD, hj]
    · have e : inRows rs (j : Int) = false := by
        cases e : inRows rs (j : Int)
        · rfl
        · have := inRows_iff.1 e; omega
      rw [rowL_out e, List.take_of_length_le (by omega), List.take_of_length_le (by omega)]
      simp
/-- The rows of a list of lists, in whatever world. -/
theorem nestRows {W w : World} {eh e : TypeId} {g n k : Nat} {vs : List Value} {rs : List (List Int)} {ts : List Thing} (h : Sep W w ([nestOf eh e 1 is (.slice (some ⟨g, 0, none⟩) n n) vs rs] ++ ts)) (hF : Few k rs) (hl : rs.length = n) :
    ∀ (q : Nat), q < n → ∃ A M D, (rs.getD q []).length = M ∧ M ≤ D ∧ D ≤ 9223372036854775807 ∧ vs[q]? = some (.slice A M D) ∧ ∀ (w' : World) (ts : List Thing), Sep W w' ([nestOf eh e 1 is (.slice (some ⟨g, 0, none⟩) n n) vs rs] ++ ts) → w'.cell? ⟨g, q, none⟩ = some (.slice A M D) ∧ SlI w'.heap.size w' A M D (rs.getD q []) := fun q hq => by
  have hq' : q < rs.length := by rw [hl]; exact hq
  have HWq := (hF.row q).1
  obtain ⟨g', C', A, D, ev, _, _, hc, hv, hs⟩ := h.innerInts (i := q) (List.mem_cons_self ..) hq' HWq
  refine ⟨A, _, D, rfl, hs.cap, by have := hs.max; unfold maxLen at this; omega, hv, fun w' ts hS' => ?_⟩
  obtain ⟨g', C', A', D', ev, _, _, hc, hv', hq⟩ := hS'.innerInts (i := q) (List.mem_cons_self ..) hq' HWq
  injection ev with ev1 _ _
  injection ev1 with ev1
  injection ev1 with ev1
  subst ev1
  rw [hv] at hv'
  injection hv' with hv'
  rw [← hv'] at hc
  injection hv' with hv1 _ hv2
  subst hv1
  subst hv2
  exact ⟨hc, hq⟩
end Dk
namespace Go.Proofs.Ytoilkojegnfmfaa
open Go.RowKit
theorem K22 : Dk.SlK Try.prog 30 3 (.int .i64 0) 1 8 := ⟨Try.underlying30, info3, rfl, by decide, by decide⟩
end Go.Proofs.Ytoilkojegnfmfaa
