/- Plain mathematics of layer 13: rows of threads, by processors. No program is spoken of here. -/
namespace Dk
set_option linter.unusedSimpArgs false
set_option linter.unusedVariables false
set_option linter.unnecessarySimpa false

def inRows (rs : List (List Int)) (p : Int) : Bool := decide (0 ≤ p) && decide (p < rs.length)
def canAdd (rs : List (List Int)) (p t : Int) : Bool := inRows rs p && !rs.flatten.contains t
def addTo (rs : List (List Int)) (p t : Int) : List (List Int) := if canAdd rs p t = true then rs.set p.toNat (rs.getD p.toNat [] ++ [t]) else rs
/-- The first row that has one. -/
def firstR (rs : List (List Int)) : Nat := rs.findIdx fun r => !r.isEmpty
def pickAt (rs : List (List Int)) (p : Int) : Option (Nat × Nat) :=
  if inRows rs p = true then
    if (rs.getD p.toNat []).isEmpty = false then some (p.toNat, 0)
    else if firstR rs < rs.length then some (firstR rs, (rs.getD (firstR rs) []).length - 1) else none
  else none
def pickT (rs : List (List Int)) (p : Int) : Int := match pickAt rs p with
  | some (k, j) => (rs.getD k []).getD j 0
  | none => 0
def pickR (rs : List (List Int)) (p : Int) : List (List Int) := match pickAt rs p with
  | some (k, j) => rs.set k ((rs.getD k []).eraseIdx j)
  | none => rs
def pickB (rs : List (List Int)) (p : Int) : Bool := (pickAt rs p).isSome
def whereK (rs : List (List Int)) (t : Int) : Nat := rs.findIdx fun r => r.contains t
def whereT (rs : List (List Int)) (t : Int) : Int := if whereK rs t < rs.length then (whereK rs t : Nat) else 0
def rowL (rs : List (List Int)) (p : Int) : List Int := if inRows rs p = true then rs.getD p.toNat [] else []
def emptyR (rs : List (List Int)) : Bool := rs.all fun r => r.isEmpty

theorem flat_setR {α : Type} (rs : List (List α)) (k : Nat) (hk : k < rs.length) (r : List α) : (rs.set k r).flatten = (rs.take k).flatten ++ (r ++ (rs.drop (k + 1)).flatten) := by
  rw [List.set_eq_take_append_cons_drop, if_pos hk]
  simp [List.append_assoc]
theorem flat_getR {α : Type} (rs : List (List α)) (k : Nat) (hk : k < rs.length) : rs.flatten = (rs.take k).flatten ++ (rs.getD k [] ++ (rs.drop (k + 1)).flatten) := by
  have e : rs.getD k [] = rs[k] := by simp [List.getD, hk]
  rw [e, ← flat_setR rs k hk, List.set_getElem_self]
theorem flat_perm (rs : List (List Int)) (k : Nat) (hk : k < rs.length) (r : List Int) : ((rs.set k r).flatten ++ rs.getD k []).Perm (rs.flatten ++ r) := by
  refine List.perm_iff_count.2 fun x => ?_
  have h1 := flat_getR rs k hk
  have h2 := flat_setR rs k hk r
  rw [List.count_append, List.count_append, h2]
  have h3 : rs.flatten.count x = ((rs.take k).flatten ++ (rs.getD k [] ++ (rs.drop (k + 1)).flatten)).count x := by rw [← h1]
  rw [h3]
  simp only [List.count_append]
  omega

/-- Rows with few threads, each in one place. -/
structure Few (N : Nat) (rs : List (List Int)) : Prop where
  rows : rs.length ≤ 64
  len : rs.flatten.length ≤ N
  nodup : rs.flatten.Nodup
  wf : ∀ x ∈ rs.flatten, -9223372036854775808 ≤ x ∧ x ≤ 9223372036854775807
theorem Few.mono {N M : Nat} {rs : List (List Int)} (h : Few N rs) (hN : N ≤ M) : Few M rs := ⟨h.rows, Nat.le_trans h.len hN, h.nodup, h.wf⟩
theorem Few.blank (n : Nat) (hn : n ≤ 64) : Few 0 (List.replicate n []) := by
  have e : (List.replicate n ([] : List Int)).flatten = [] := by
    induction n with
    | zero => rfl
    | succ n ih => rw [List.replicate_succ, List.flatten_cons, ih (by omega)]; rfl
  exact ⟨by simpa using hn, by rw [e]; exact Nat.le_refl _, by rw [e]; exact List.nodup_nil, fun x hx => by rw [e] at hx; simp at hx⟩
theorem inRows_iff {rs : List (List Int)} {p : Int} : inRows rs p = true ↔ 0 ≤ p ∧ p < rs.length := by simp [inRows]
/-- One comes. -/
theorem addTo_perm {rs : List (List Int)} {p t : Int} (h : canAdd rs p t = true) : (addTo rs p t).flatten.Perm (t :: rs.flatten) := by
  unfold addTo
  rw [if_pos h]
  unfold canAdd at h
  simp only [Bool.and_eq_true] at h
  have hp := inRows_iff.1 h.1
  have h1 := flat_perm rs p.toNat (by omega) (rs.getD p.toNat [] ++ [t])
  refine List.perm_iff_count.2 fun x => ?_
  have h2 := h1.count_eq x
  simp only [List.count_append, List.count_cons, List.count_nil] at h2 ⊢
  omega
theorem addTo_len (rs : List (List Int)) (p t : Int) : (addTo rs p t).length = rs.length := by
  unfold addTo
  split
  · exact List.length_set
  · rfl
theorem Few.add {N : Nat} {rs : List (List Int)} {p t : Int} (h : Few N rs) (ht : -9223372036854775808 ≤ t ∧ t ≤ 9223372036854775807) : Few (N + 1) (addTo rs p t) := by
  by_cases hc : canAdd rs p t = true
  · have hp := addTo_perm hc
    have hn : t ∉ rs.flatten := by
      unfold canAdd at hc
      simp only [Bool.and_eq_true, Bool.not_eq_true'] at hc
      intro hm
      have := hc.2
      rw [List.contains_iff_mem.2 hm] at this
      cases this
    refine ⟨by rw [addTo_len]; exact h.rows, by rw [hp.length_eq, List.length_cons]; have := h.len; omega, hp.nodup_iff.2 (List.nodup_cons.2 ⟨hn, h.nodup⟩), fun x hx => ?_⟩
    rcases List.mem_cons.1 (hp.mem_iff.1 hx) with rfl | hx
    · exact ht
    · exact h.wf x hx
  · unfold addTo
    rw [if_neg hc]
    exact h.mono (by omega)
theorem count_eraseD : ∀ (l : List Int) (j : Nat), j < l.length → ∀ x, l.count x = ((l.getD j 0) :: l.eraseIdx j).count x
  | [], j, h, _ => absurd h (by simp)
  | y :: l, 0, _, x => rfl
  | y :: l, j + 1, h, x => by
    have := count_eraseD l j (by simpa using h) x
    simp only [List.getD_cons_succ, List.eraseIdx_cons_succ, List.count_cons] at this ⊢
    omega
/-- Who is picked was there, and is there no more. -/
theorem firstR_spec {rs : List (List Int)} (h : firstR rs < rs.length) : (rs.getD (firstR rs) []).isEmpty = false := by
  unfold firstR at h ⊢
  have := List.findIdx_getElem (xs := rs) (p := fun r => !r.isEmpty) (w := h)
  have e : rs.getD (rs.findIdx fun r => !r.isEmpty) [] = rs[rs.findIdx fun r => !r.isEmpty] := by rw [List.getD, List.getElem?_eq_getElem h]; rfl
  rw [e]
  simpa using this
theorem pickAt_lt {rs : List (List Int)} {p : Int} {k j : Nat} (h : pickAt rs p = some (k, j)) : k < rs.length ∧ j < (rs.getD k []).length := by
  unfold pickAt at h
  split at h
  · rename_i h0
    have h0 := inRows_iff.1 h0
    split at h
    · rename_i h1
      obtain ⟨rfl, rfl⟩ := Prod.mk.inj (Option.some.inj h)
      refine ⟨by omega, ?_⟩
      cases hr : rs.getD p.toNat [] with
      | nil => rw [hr] at h1; simp at h1
      | cons => simp
    · split at h
      · rename_i h2
        obtain ⟨rfl, rfl⟩ := Prod.mk.inj (Option.some.inj h)
        refine ⟨h2, ?_⟩
        have := firstR_spec h2
        cases hr : rs.getD (firstR rs) [] with
        | nil => rw [hr] at this; simp at this
        | cons => simp
      · cases h
  · cases h
theorem pick_perm {rs : List (List Int)} {p : Int} (h : pickB rs p = true) : (pickT rs p :: (pickR rs p).flatten).Perm rs.flatten := by
  unfold pickB at h
  cases e : pickAt rs p with
  | none => rw [e] at h; cases h
  | some kj =>
    obtain ⟨k, j⟩ := kj
    obtain ⟨hk, hj⟩ := pickAt_lt e
    unfold pickT pickR
    rw [e]
    dsimp only
    have h1 := flat_perm rs k hk ((rs.getD k []).eraseIdx j)
    refine List.perm_iff_count.2 fun x => ?_
    have h2 := h1.count_eq x
    have h3 := count_eraseD (rs.getD k []) j hj x
    simp only [List.count_append, List.count_cons] at h2 h3 ⊢
    omega
theorem pickR_len (rs : List (List Int)) (p : Int) : (pickR rs p).length = rs.length := by
  unfold pickR
  split
  · exact List.length_set
  · rfl
theorem Few.pick {N : Nat} {rs : List (List Int)} (h : Few N rs) (p : Int) : Few N (pickR rs p) := by
  by_cases hb : pickB rs p = true
  · have hp := pick_perm hb
    have hn := hp.nodup_iff.2 h.nodup
    refine ⟨by rw [pickR_len]; exact h.rows, ?_, (List.nodup_cons.1 hn).2, fun x hx => h.wf x (hp.mem_iff.1 (List.mem_cons_of_mem _ hx))⟩
    have h1 := hp.length_eq
    have h2 := h.len
    rw [List.length_cons] at h1
    omega
  · have e : pickAt rs p = none := by
      unfold pickB at hb
      cases h' : pickAt rs p with
      | none => rfl
      | some x => rw [h'] at hb; simp at hb
    unfold pickR
    rw [e]
    exact h
theorem emptyR_iff (rs : List (List Int)) : emptyR rs = true ↔ rs.flatten = [] := by
  unfold emptyR
  rw [List.all_eq_true, List.flatten_eq_nil_iff]
  simp
/-- Where there is someone, someone is picked. -/
theorem pick_yes {rs : List (List Int)} {p : Int} (hp : inRows rs p = true) (hn : rs.flatten ≠ []) : pickB rs p = true := by
  unfold pickB pickAt
  rw [if_pos hp]
  split
  · rfl
  · have : firstR rs < rs.length := by
      unfold firstR
      rw [List.findIdx_lt_length]
      refine Classical.byContradiction fun hc => hn ?_
      rw [← emptyR_iff]
      unfold emptyR
      rw [List.all_eq_true]
      intro r hr
      cases he : r.isEmpty
      · exact absurd ⟨r, hr, by simp [he]⟩ hc
      · rfl
    rw [if_pos this]
    rfl
theorem where_no {rs : List (List Int)} {t : Int} (h : t ∉ rs.flatten) : whereK rs t = rs.length := by
  unfold whereK
  rw [List.findIdx_eq_length]
  intro r hr
  cases hc : r.contains t
  · rfl
  · exact absurd (List.mem_flatten.2 ⟨r, hr, List.contains_iff_mem.1 hc⟩) h
end Dk
