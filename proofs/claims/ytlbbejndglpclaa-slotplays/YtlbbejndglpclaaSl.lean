/- Plain mathematics of layer 4: tables of slots. No program is spoken of here. -/
import Derived.Test.YtlbbejndglpclaaInst
namespace Dk
set_option linter.unusedSimpArgs false
set_option linter.unusedVariables false
set_option linter.unnecessarySimpa false

/-- A table's slots: how often each was taken, and is it used? -/
abbrev St := List (Nat × Bool)
def tk (st : St) (k : Nat) : Nat := (st.getD k (0, false)).1
def us (st : St) (k : Nat) : Bool := (st.getD k (0, false)).2
/-- The handle by which a slot was last taken. -/
def hd (st : St) (k : Nat) : Nat := tk st k * 65536 + k + 1
/-- The least slot that is free, or how many there are. -/
def least (st : St) : Nat := st.findIdx fun x => !x.2
def put (st : St) (k t : Nat) (b : Bool) : St := st.set k (t, b)
def taken (st : St) : St := put st (least st) (tk st (least st) + 1) true
def find (st : St) (h : Nat) : Option Nat := if h % 65536 = 0 then none else if us st (h % 65536 - 1) && hd st (h % 65536 - 1) == h then some (h % 65536 - 1) else none
def freed (st : St) (h : Nat) : St := match find st h with
  | none => st
  | some k => put st k (tk st k) false
def blank (n : Nat) : St := List.replicate n (0, false)
def clamp (n : Int) : Nat := if n < 0 then 0 else if 1024 < n then 1024 else n.toNat
/-- All counts are small, and so are all handles. -/
def Small (M : Nat) (st : St) : Prop := st.length ≤ 1024 ∧ ∀ k, tk st k ≤ M

theorem us_lt {st : St} {k : Nat} (h : us st k = true) : k < st.length := by
  by_cases hk : k < st.length
  · exact hk
  · unfold us at h
    rw [List.getD_eq_getElem?_getD, List.getElem?_eq_none (by omega)] at h
    simp at h
theorem put_len (st : St) (k t : Nat) (b : Bool) : (put st k t b).length = st.length := by simp [put]
theorem us_put (st : St) (k t : Nat) (b : Bool) (j : Nat) (hk : k < st.length) : us (put st k t b) j = if j = k then b else us st j := by
  unfold us put
  simp only [List.getD_eq_getElem?_getD, List.getElem?_set]
  by_cases h : k = j
  · subst h; simp [hk]
  · simp [h, Ne.symm h]
theorem tk_put (st : St) (k t : Nat) (b : Bool) (j : Nat) (hk : k < st.length) : tk (put st k t b) j = if j = k then t else tk st j := by
  unfold tk put
  simp only [List.getD_eq_getElem?_getD, List.getElem?_set]
  by_cases h : k = j
  · subst h; simp [hk]
  · simp [h, Ne.symm h]
theorem least_le (st : St) : least st ≤ st.length := List.findIdx_le_length
theorem least_us {st : St} {k : Nat} (h : k < least st) : us st k = true := by
  have hl := least_le st
  have := List.not_of_lt_findIdx h
  unfold us
  rw [List.getD_eq_getElem?_getD, List.getElem?_eq_getElem (by omega)]
  simpa using this
theorem least_free {st : St} (h : least st < st.length) : us st (least st) = false := by
  have h2 := List.findIdx_getElem (p := fun x : Nat × Bool => !x.2) (w := h)
  unfold us
  rw [List.getD_eq_getElem?_getD, List.getElem?_eq_getElem h]
  cases hx : st[least st].2 with
  | false => simpa using hx
  | true =>
    have h3 : (!st[least st].2) = true := h2
    rw [hx] at h3
    cases h3
theorem least_eq {st : St} {k : Nat} (h : ∀ j, j < k → us st j = true) (hk : us st k = false) (hl : k < st.length) : least st = k := by
  rcases Nat.lt_trichotomy (least st) k with h1 | h1 | h1
  · have := least_free (st := st) (by omega)
    rw [h _ h1] at this
    cases this
  · exact h1
  · have := least_us h1
    rw [hk] at this
    cases this
theorem least_all {st : St} (h : ∀ j, j < st.length → us st j = true) : least st = st.length := by
  have := least_le st
  by_cases h1 : least st < st.length
  · have h2 := least_free h1
    rw [h _ h1] at h2
    cases h2
  · omega

theorem Small.put {M : Nat} {st : St} {k t : Nat} {b : Bool} (h : Small M st) (hk : k < st.length) (ht : t ≤ M) : Small M (put st k t b) := by
  refine ⟨by rw [put_len]; exact h.1, fun j => ?_⟩
  rw [tk_put _ _ _ _ _ hk]
  split
  · exact ht
  · exact h.2 j
theorem Small.mono {M M' : Nat} {st : St} (h : Small M st) (hM : M ≤ M') : Small M' st := ⟨h.1, fun k => Nat.le_trans (h.2 k) hM⟩
theorem Small.blank {n : Nat} (h : n ≤ 1024) : Small 0 (blank n) := by
  refine ⟨by simp [Dk.blank, h], fun k => ?_⟩
  unfold tk Dk.blank
  simp only [List.getD_eq_getElem?_getD, List.getElem?_replicate]
  split <;> simp
theorem us_blank (n k : Nat) : us (blank n) k = false := by
  unfold us Dk.blank
  simp only [List.getD_eq_getElem?_getD, List.getElem?_replicate]
  split <;> simp
theorem tk_blank (n k : Nat) : tk (blank n) k = 0 := by
  unfold tk Dk.blank
  simp only [List.getD_eq_getElem?_getD, List.getElem?_replicate]
  split <;> simp
theorem clamp_le (n : Int) : clamp n ≤ 1024 := by unfold clamp; split <;> (try split) <;> omega

theorem hd_mod {st : St} {k : Nat} (hk : k < 1024) : hd st k % 65536 = k + 1 := by unfold hd; omega
theorem hd_div {st : St} {k : Nat} (hk : k < 1024) : hd st k / 65536 = tk st k := by unfold hd; omega
theorem hd_lt {M : Nat} {st : St} {k : Nat} (h : Small M st) (hM : M ≤ 100000) (hk : k < 1024) : hd st k < 18446744073709551616 := by
  have := h.2 k
  unfold hd
  omega
theorem find_some {st : St} {h k : Nat} (e : find st h = some k) : us st k = true ∧ hd st k = h ∧ k < st.length ∧ h % 65536 = k + 1 := by
  unfold find at e
  split at e
  · cases e
  · split at e
    · rename_i h1 h2
      obtain rfl := Option.some.inj e
      simp only [Bool.and_eq_true, beq_iff_eq] at h2
      exact ⟨h2.1, h2.2, us_lt h2.1, by omega⟩
    · cases e
theorem find_hd {M : Nat} {st : St} {k : Nat} (hs : Small M st) (h : us st k = true) : find st (hd st k) = some k := by
  have hk : k < 1024 := Nat.lt_of_lt_of_le (us_lt h) hs.1
  unfold find
  rw [hd_mod hk, if_neg (by omega)]
  simp [h]
theorem freed_len (st : St) (h : Nat) : (freed st h).length = st.length := by
  unfold freed
  split
  · rfl
  · exact put_len _ _ _ _
theorem freed_small {M : Nat} {st : St} (hs : Small M st) (h : Nat) : Small M (freed st h) := by
  unfold freed
  split
  · exact hs
  · rename_i k e
    exact hs.put (find_some e).2.2.1 (hs.2 k)
theorem freed_tk (st : St) (h k : Nat) : tk (freed st h) k = tk st k := by
  unfold freed
  split
  · rfl
  · rename_i j e
    rw [tk_put _ _ _ _ _ (find_some e).2.2.1]
    split
    · rename_i e2; rw [e2]
    · rfl
/-- What was freed is nobody's. -/
theorem freed_find (st : St) (h : Nat) : find (freed st h) h = none := by
  cases e : find st h with
  | none => unfold freed; rw [e]; exact e
  | some k =>
    obtain ⟨h1, h2, h3, h4⟩ := find_some e
    unfold freed
    rw [e]
    simp only
    unfold find
    rw [if_neg (by omega), h4, Nat.add_sub_cancel, us_put _ _ _ _ _ h3]
    simp

end Dk
