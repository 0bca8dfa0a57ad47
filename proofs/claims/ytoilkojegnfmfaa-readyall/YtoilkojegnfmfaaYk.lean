/- Layer 13's rows as they lie in memory: a list of pointers to rows; what one finds there, and how they go on. -/
import Derived.Test.YtoilkojegnfmfaaYb
import Derived.Test.YtoilkojegnfmfaaDw
namespace Dk
set_option linter.unusedSimpArgs false
set_option linter.unusedVariables false
set_option linter.unnecessarySimpa false
open Go Go.RowKit

/-- A row behind a pointer, as a thing. -/
def dqT (bd : Nat) (v : Value) (xs : List Int) : Thing := {
  own := At bd v
  holds := fun w => DQ 0 w bd v xs
  local_ := fun w w' h hk => ⟨h.base, ⟨(hk bd (.inl rfl)).trans h.head.heap⟩, row_local h.row (fun k hkk => hk k (.inr hkk)), h.ne, h.wf⟩
  lt := fun w h k hk => hk.elim (fun e => e ▸ h.head.lt) (fun e => (World.ownsRow.lt h.row k e).2) }
def ptrs (ds : List (Nat × Value × List Int)) : List Value := ds.map fun d => .pointer (some ⟨d.1, 0, none⟩)
def dqs (ds : List (Nat × Value × List Int)) : List Thing := ds.map fun d => dqT d.1 d.2.1 d.2.2
/-- Rows behind a pointer. -/
def R0 (b : Nat) (rs : List (List Int)) (ts : List Thing) : Prop := ∃ V ds, rs = ds.map (fun d => d.2.2) ∧ ts = boxOf b #[V] 44 :: rowOf 45 1 V ds.length (ptrs ds) :: dqs ds

/-- What a call of a row leaves of it. -/
def Turned (w : World) (bd : Nat) (v : Value) (w' : World) (xs' : List Int) : Prop := ∃ v', DQ 0 w' bd v' xs' ∧ Away (At bd v) w w' ∧ From w v v'

theorem cell_lt {w : World} {a : Addr} {v : Value} (h : w.cell? a = some v) : a.block < w.heap.size := by
  refine Nat.lt_of_not_le fun hc => ?_
  unfold World.cell? at h
  rw [Array.getElem?_eq_none hc] at h
  cases h
theorem split_at {α : Type} (l : List α) (k : Nat) (hk : k < l.length) : ∃ l1 x l2, l = l1 ++ x :: l2 ∧ l1.length = k :=
  ⟨l.take k, l[k], l.drop (k + 1), by rw [List.getElem_cons_drop, List.take_append_drop], by rw [List.length_take]; omega⟩

theorem R0.head {W w : World} {b : Nat} {rs : List (List Int)} {us ts : List Thing} (h : R0 b rs ts) (s : Sep W w (us ++ ts)) : ∃ A C, Box w b #[.slice A rs.length C] 44 ∧ rs.length ≤ C ∧ C ≤ maxLen ∧
    ∀ k, k < rs.length → ∃ g bd v, A = some ⟨g, 0, none⟩ ∧ w.cell? ⟨g, k, none⟩ = some (.pointer (some ⟨bd, 0, none⟩)) ∧ DQ 0 w bd v (rs.getD k []) ∧
      ∀ w' xs', Turned w bd v w' xs' → ∃ ts', R0 b (rs.set k xs') ts' ∧ Sep W w' (us ++ ts') := by
  obtain ⟨V, ds, rfl, rfl⟩ := h
  have hb := s.box (b := b) (cs := #[V]) (t := 44) (by simp)
  have hr := s.row (e := 45) (s := 1) (v := V) (n := ds.length) (xs := ptrs ds) (by simp)
  obtain ⟨A, C, rfl, h1, h2⟩ := owns_slice hr
  simp only [List.length_map]
  refine ⟨A, C, hb, h1, h2, fun k hk => ?_⟩
  obtain ⟨g, C', x, ev, _, _, hx, hc, _, _⟩ := row_cell1 hr hk
  injection ev with e1 _ e2
  subst e1
  subst e2
  obtain ⟨d1, ⟨bd, v, xs⟩, d2, rfl, rfl⟩ := split_at ds k hk
  have e1 : (ptrs (d1 ++ (bd, v, xs) :: d2))[d1.length]? = some (.pointer (some ⟨bd, 0, none⟩)) := by simp [ptrs]
  rw [e1] at hx
  cases hx
  have e2 : ((d1 ++ (bd, v, xs) :: d2).map (fun d => d.2.2)).getD d1.length [] = xs := by simp [List.getD]
  have e3 : ∀ v' xs', ((d1 ++ (bd, v, xs) :: d2).map (fun d => d.2.2)).set d1.length xs' = (d1 ++ (bd, (v' : Value), xs') :: d2).map (fun d => d.2.2) := fun v' xs' => by
    rw [List.map_append, List.set_append_right _ _ (by simp)]
    simp
  have e4 : ∀ v' xs', ptrs (d1 ++ (bd, v', xs') :: d2) = ptrs (d1 ++ (bd, v, xs) :: d2) := fun v' xs' => by simp [ptrs]
  have e5 : ∀ v' xs', us ++ (boxOf b #[.slice (some ⟨g, 0, none⟩) (d1 ++ (bd, v, xs) :: d2).length C] 44 :: rowOf 45 1 (.slice (some ⟨g, 0, none⟩) (d1 ++ (bd, v, xs) :: d2).length C) (d1 ++ (bd, v, xs) :: d2).length (ptrs (d1 ++ (bd, v, xs) :: d2)) :: dqs (d1 ++ (bd, v', xs') :: d2)) =
      (us ++ (boxOf b #[.slice (some ⟨g, 0, none⟩) (d1 ++ (bd, v, xs) :: d2).length C] 44 :: rowOf 45 1 (.slice (some ⟨g, 0, none⟩) (d1 ++ (bd, v, xs) :: d2).length C) (d1 ++ (bd, v, xs) :: d2).length (ptrs (d1 ++ (bd, v, xs) :: d2)) :: dqs d1)) ++ dqT bd v' xs' :: dqs d2 := fun v' xs' => by simp [dqs]
  rw [e5] at s
  refine ⟨g, bd, v, rfl, hc, by rw [e2]; exact s.get (t := dqT bd v xs) (by simp), fun w' xs' hT => ?_⟩
  obtain ⟨v', hD, ha, hf⟩ := hT
  have s' := Sep.turn (t := dqT bd v xs) (t' := dqT bd v' xs') s ha hD (fun j hj => by
    rcases hj with rfl | hj
    · exact .inl (.inl rfl)
    · exact (hf j hj).imp .inr id)
  refine ⟨_, ⟨.slice (some ⟨g, 0, none⟩) (d1 ++ (bd, v, xs) :: d2).length C, d1 ++ (bd, v', xs') :: d2, e3 v' xs', rfl⟩, ?_⟩
  rw [e4 v' xs', show (d1 ++ (bd, v', xs') :: d2).length = (d1 ++ (bd, v, xs) :: d2).length by simp, e5]
  exact s'
/-- Where nothing old is touched. -/
theorem R0.same {W w w' : World} {b : Nat} {rs : List (List Int)} {us ts : List Thing} (h : R0 b rs ts) (s : Sep W w (us ++ ts)) (u : Below w.heap.size w w') : ∃ ts', R0 b rs ts' ∧ Sep W w' (us ++ ts') := ⟨ts, h, s.below u⟩
/-- What one knows of few threads' rows. -/
theorem Few.rowz {N : Nat} {rs : List (List Int)} (h : Few N rs) (k : Nat) (hk : k < rs.length) : (rs.getD k []).length ≤ N := by
  have h1 := flat_getR rs k hk
  have h2 := h.len
  rw [h1, List.length_append, List.length_append] at h2
  omega
theorem where_atz {rs : List (List Int)} {t : Int} {k : Nat} (hk : k < rs.length) (hc : (rs.getD k []).contains t = true) (hn : ∀ j, j < k → (rs.getD j []).contains t = false) : whereK rs t = k := by
  unfold whereK
  rw [List.findIdx_eq hk]
  have e : ∀ j (hj : j < rs.length), rs.getD j [] = rs[j] := fun j hj => by simp [List.getD, hj]
  rw [e k hk] at hc
  exact ⟨hc, fun j hj => by rw [← e j (by omega)]; exact hn j hj⟩
theorem where_none {rs : List (List Int)} {t : Int} (hn : ∀ j, j < rs.length → (rs.getD j []).contains t = false) : whereK rs t = rs.length := by
  unfold whereK
  rw [List.findIdx_eq_length]
  intro r hr
  obtain ⟨j, hj, rfl⟩ := List.getElem_of_mem hr
  have := hn j hj
  simpa [List.getD, hj] using this
theorem empty_at {rs : List (List Int)} {k : Nat} (hk : k < rs.length) (hc : (rs.getD k []).isEmpty = false) : emptyR rs = false := by
  have e : rs.getD k [] = rs[k] := by simp [List.getD, hk]
  rw [e] at hc
  unfold emptyR
  cases h : rs.all fun r => r.isEmpty
  · rfl
  · rw [List.all_eq_true] at h
    rw [h _ (List.getElem_mem hk)] at hc
    cases hc
theorem empty_none {rs : List (List Int)} (hn : ∀ j, j < rs.length → (rs.getD j []).isEmpty = true) : emptyR rs = true := by
  unfold emptyR
  rw [List.all_eq_true]
  intro r hr
  obtain ⟨j, hj, rfl⟩ := List.getElem_of_mem hr
  have := hn j hj
  simpa [List.getD, hj] using this
theorem first_at {rs : List (List Int)} {k : Nat} (hk : k < rs.length) (hc : (rs.getD k []).isEmpty = false) (hn : ∀ j, j < k → (rs.getD j []).isEmpty = true) : firstR rs = k := by
  unfold firstR
  rw [List.findIdx_eq hk]
  have e : ∀ j (hj : j < rs.length), rs.getD j [] = rs[j] := fun j hj => by simp [List.getD, hj]
  rw [e k hk] at hc
  exact ⟨by simpa using hc, fun j hj => by have := hn j hj; rw [e j (by omega)] at this; simpa using this⟩
theorem first_none {rs : List (List Int)} (hn : ∀ j, j < rs.length → (rs.getD j []).isEmpty = true) : firstR rs = rs.length := by
  unfold firstR
  rw [List.findIdx_eq_length]
  intro r hr
  obtain ⟨j, hj, rfl⟩ := List.getElem_of_mem hr
  have := hn j hj
  simpa [List.getD, hj] using this
theorem contains_flat {rs : List (List Int)} {t : Int} : rs.flatten.contains t = decide (whereK rs t < rs.length) := by
  unfold whereK
  cases h : rs.flatten.contains t
  · symm
    refine decide_eq_false fun hc => ?_
    rw [List.findIdx_lt_length] at hc
    obtain ⟨r, hr, hc⟩ := hc
    have : t ∈ rs.flatten := List.mem_flatten.2 ⟨r, hr, List.contains_iff_mem.1 hc⟩
    rw [List.contains_iff_mem.2 this] at h
    cases h
  · symm
    refine decide_eq_true ?_
    obtain ⟨r, hr, hc⟩ := List.mem_flatten.1 (List.contains_iff_mem.1 h)
    rw [List.findIdx_lt_length]
    exact ⟨r, hr, List.contains_iff_mem.2 hc⟩
end Dk
