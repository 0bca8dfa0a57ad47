/- Plain mathematics of layer 12: shares of processors. No program is spoken of here. -/
namespace Dk
set_option linter.unusedSimpArgs false
set_option linter.unusedVariables false
set_option linter.unnecessarySimpa false

/-- How far behind the first a space has its turn. -/
def pos (f n i : Nat) : Nat := (i + n - f) % n
/-- The space that is so far behind the first. -/
def nth (f n t : Nat) : Nat := (f + t) % n
theorem nth_lt {f n : Nat} (t : Nat) (hn : 0 < n) : nth f n t < n := Nat.mod_lt _ hn
theorem pos_lt {f n i : Nat} (hn : 0 < n) : pos f n i < n := Nat.mod_lt _ hn
theorem pos_nth {f n t : Nat} (hf : f < n) (ht : t < n) : pos f n (nth f n t) = t := by
  unfold pos nth
  by_cases h : f + t < n
  · rw [Nat.mod_eq_of_lt h, show f + t + n - f = t + n by omega, Nat.add_mod_right, Nat.mod_eq_of_lt ht]
  · have e : (f + t) % n = f + t - n := by rw [Nat.mod_eq_sub_mod (by omega), Nat.mod_eq_of_lt (by omega)]
    rw [e, show f + t - n + n - f = t by omega, Nat.mod_eq_of_lt ht]
theorem nth_pos {f n i : Nat} (hf : f < n) (hi : i < n) : nth f n (pos f n i) = i := by
  unfold pos nth
  by_cases h : i < f
  · rw [Nat.mod_eq_of_lt (by omega : i + n - f < n), show f + (i + n - f) = i + n by omega, Nat.add_mod_right, Nat.mod_eq_of_lt hi]
  · have e : (i + n - f) % n = i - f := by rw [show i + n - f = i - f + n by omega, Nat.add_mod_right, Nat.mod_eq_of_lt (by omega)]
    rw [e, show f + (i - f) = i by omega, Nat.mod_eq_of_lt hi]

theorem getD_set {l : List Int} {i : Nat} (h : i < l.length) (v : Int) (j : Nat) : (l.set i v).getD j 0 = if j = i then v else l.getD j 0 := by
  simp only [List.getD]
  by_cases e : j = i
  · subst e; simp [h]
  · rw [List.getElem?_set_ne (Ne.symm e), if_neg e]
theorem sum_set : ∀ {l : List Int} {i : Nat}, i < l.length → (l.set i (l.getD i 0 + 1)).sum = l.sum + 1
  | x :: l, 0, _ => by simp; omega
  | x :: l, i + 1, h => by
    have := sum_set (l := l) (i := i) (by simpa using h)
    simp only [List.set_cons_succ, List.sum_cons, List.getD_cons_succ]
    omega
theorem sum_le : ∀ {a b : List Int}, a.length = b.length → (∀ j, j < a.length → a.getD j 0 ≤ b.getD j 0) → a.sum ≤ b.sum
  | [], [], _, _ => by simp
  | x :: a, y :: b, hl, h => by
    have h0 := h 0 (by simp)
    have := sum_le (a := a) (b := b) (by simpa using hl) (fun j hj => by simpa using h (j + 1) (by simpa using hj))
    simp only [List.sum_cons]
    simp at h0
    omega
theorem sum_lt : ∀ {a b : List Int} {i : Nat}, a.length = b.length → (∀ j, j < a.length → a.getD j 0 ≤ b.getD j 0) → i < a.length → a.getD i 0 < b.getD i 0 → a.sum < b.sum
  | x :: a, y :: b, 0, hl, h, _, h1 => by
    have := sum_le (a := a) (b := b) (by simpa using hl) (fun j hj => by simpa using h (j + 1) (by simpa using hj))
    simp only [List.sum_cons]
    simp at h1
    omega
  | x :: a, y :: b, i + 1, hl, h, hi, h1 => by
    have h0 := h 0 (by simp)
    have := sum_lt (a := a) (b := b) (i := i) (by simpa using hl) (fun j hj => by simpa using h (j + 1) (by simpa using hj)) (by simpa using hi) (by simpa using h1)
    simp only [List.sum_cons]
    simp at h0
    omega
/-- Where one has more, and no more is there in all, another one has less. -/
theorem some_less {a b : List Int} {i : Nat} (hl : a.length = b.length) (hi : i < a.length) (h : b.getD i 0 < a.getD i 0) (hs : a.sum ≤ b.sum) : ∃ j, j < a.length ∧ a.getD j 0 < b.getD j 0 := by
  refine Classical.byContradiction fun hn => ?_
  have := sum_lt (a := b) (b := a) hl.symm (fun j hj => by
    refine Classical.byContradiction fun hc => hn ⟨j, by omega, by omega⟩) (by omega) h
  omega

/-- This one's processor is given ahead of that one's. -/
def ahead (p : List Int) (f n i : Nat) (k : Int) (j : Nat) (m : Int) : Prop :=
  p.getD j 0 < p.getD i 0 ∨ p.getD i 0 = p.getD j 0 ∧ (k < m ∨ k = m ∧ pos f n i < pos f n j)

/-- What was given was given in the order in which it is due. -/
structure Down (d p out : List Int) (f : Nat) : Prop where
  len : out.length = d.length
  low : ∀ i, i < d.length → 0 ≤ out.getD i 0
  top : ∀ i, i < d.length → 0 < out.getD i 0 → out.getD i 0 ≤ d.getD i 0
  key : ∀ i j, i < d.length → j < d.length → 0 < out.getD i 0 → out.getD j 0 < d.getD j 0 → ahead p f d.length i (out.getD i 0 - 1) j (out.getD j 0)

/-- All is given that may be. -/
structure Good (procs : Int) (d p out : List Int) (f : Nat) : Prop where
  down : Down d p out f
  sum : out.sum ≤ procs
  full : ∀ i, i < d.length → out.getD i 0 < d.getD i 0 → out.sum = procs

theorem Down.step {d p out : List Int} {f i : Nat} (h : Down d p out f) (hi : i < d.length) (hf : out.getD i 0 < d.getD i 0)
    (hm : ∀ j, j < d.length → out.getD j 0 < d.getD j 0 → j = i ∨ ahead p f d.length i (out.getD i 0) j (out.getD j 0)) : Down d p (out.set i (out.getD i 0 + 1)) f := by
  have hl : i < out.length := by rw [h.len]; exact hi
  have hlow := h.low i hi
  refine ⟨by rw [List.length_set]; exact h.len, fun a ha => ?_, fun a ha h0 => ?_, fun a b ha hb h0 h1 => ?_⟩
  · rw [getD_set hl]; split
    · omega
    · exact h.low a ha
  · rw [getD_set hl] at h0 ⊢
    split
    · rename_i e; subst e; omega
    · rename_i e; rw [if_neg e] at h0; exact h.top a ha h0
  · rw [getD_set hl] at h0 h1 ⊢
    rw [getD_set hl]
    by_cases ea : a = i
    · subst ea
      rw [if_pos rfl]
      by_cases eb : b = a
      · subst eb
        rw [if_pos rfl]
        exact .inr ⟨rfl, .inl (by omega)⟩
      · rw [if_neg eb] at h1 ⊢
        rcases hm b hb h1 with e | e
        · exact absurd e eb
        · rw [show out.getD a 0 + 1 - 1 = out.getD a 0 by omega]; exact e
    · rw [if_neg ea] at h0 ⊢
      by_cases eb : b = i
      · subst eb
        rw [if_pos rfl]
        have := h.key a b ha hb h0 hf
        unfold ahead at this ⊢
        omega
      · rw [if_neg eb] at h1 ⊢
        exact h.key a b ha hb h0 h1

theorem cross {d e p a b : List Int} {f i j : Nat} (ha : Down d p a f) (hb : Down e p b f) (hl : e.length = d.length) (hi : i < d.length) (hj : j < d.length)
    (h1 : b.getD i 0 < a.getD i 0) (h2 : b.getD i 0 < e.getD i 0) (h3 : a.getD j 0 < b.getD j 0) (h4 : a.getD j 0 < d.getD j 0) : False := by
  have l1 := ha.low j hj
  have l2 := hb.low i (by omega)
  have k1 := ha.key i j hi hj (by omega) h4
  have k2 := hb.key j i (by omega) (by omega) (by omega) h2
  rw [hl] at k2
  unfold ahead at k1 k2
  omega

theorem Good.le {procs : Int} {d p a b : List Int} {f : Nat} (ha : Good procs d p a f) (hb : Good procs d p b f) (i : Nat) (hi : i < d.length) : a.getD i 0 ≤ b.getD i 0 := by
  refine Classical.byContradiction fun hc => ?_
  have l1 := hb.down.low i hi
  have t1 := ha.down.top i hi (by omega)
  have s1 := hb.full i hi (by omega)
  have s2 := ha.sum
  obtain ⟨j, hj, h3⟩ := some_less (by rw [ha.down.len, hb.down.len]) (by rw [ha.down.len]; exact hi) (by omega : b.getD i 0 < a.getD i 0) (by omega)
  rw [ha.down.len] at hj
  have l2 := ha.down.low j hj
  have t2 := hb.down.top j hj (by omega)
  exact cross ha.down hb.down rfl hi hj (by omega) (by omega) h3 (by omega)
theorem Good.unique {procs : Int} {d p a b : List Int} {f : Nat} (ha : Good procs d p a f) (hb : Good procs d p b f) : a = b := by
  refine List.ext_getElem (by rw [ha.down.len, hb.down.len]) fun i h1 h2 => ?_
  have hi : i < d.length := by rw [← ha.down.len]; exact h1
  have g1 := ha.le hb i hi
  have g2 := hb.le ha i hi
  simp only [List.getD, List.getElem?_eq_getElem h1, List.getElem?_eq_getElem h2, Option.getD_some] at g1 g2
  omega

/-- Whoever is first, as many are given. -/
theorem Good.sum_le {procs : Int} {d p p' a b : List Int} {f f' : Nat} (ha : Good procs d p a f) (hb : Good procs d p' b f') : a.sum ≤ b.sum := by
  refine Classical.byContradiction fun hc => ?_
  have s2 := ha.sum
  obtain ⟨j, hj, h3⟩ : ∃ j, j < b.length ∧ b.getD j 0 < a.getD j 0 := by
    refine Classical.byContradiction fun hn => hc ?_
    exact Dk.sum_le (by rw [ha.down.len, hb.down.len]) fun j hj => Classical.byContradiction fun hx => hn ⟨j, by rw [hb.down.len, ← ha.down.len]; exact hj, by omega⟩
  rw [hb.down.len] at hj
  have l1 := hb.down.low j hj
  have t1 := ha.down.top j hj (by omega)
  have := hb.full j hj (by omega)
  omega
/-- With one processor more nobody has less. -/
theorem Good.more {procs procs' : Int} {d p a c : List Int} {f : Nat} (ha : Good procs d p a f) (hc : Good procs' d p c f) (h : procs ≤ procs') (i : Nat) (hi : i < d.length) : a.getD i 0 ≤ c.getD i 0 := by
  refine Classical.byContradiction fun hx => ?_
  have l1 := hc.down.low i hi
  have t1 := ha.down.top i hi (by omega)
  have s1 := hc.full i hi (by omega)
  have s2 := ha.sum
  obtain ⟨j, hj, h3⟩ := some_less (by rw [ha.down.len, hc.down.len]) (by rw [ha.down.len]; exact hi) (by omega : c.getD i 0 < a.getD i 0) (by omega)
  rw [ha.down.len] at hj
  have l2 := ha.down.low j hj
  have t2 := hc.down.top j hj (by omega)
  exact cross ha.down hc.down rfl hi hj (by omega) (by omega) h3 (by omega)
/-- Who wants more gets no less; nobody else gets more by that. -/
theorem Good.wants {procs : Int} {d e p a b : List Int} {f k : Nat} (ha : Good procs d p a f) (hb : Good procs e p b f) (hl : e.length = d.length) (hk : d.getD k 0 ≤ e.getD k 0) (ho : ∀ i, i ≠ k → e.getD i 0 = d.getD i 0) (i : Nat) (hi : i < d.length) :
    (i = k → a.getD i 0 ≤ b.getD i 0) ∧ (i ≠ k → b.getD i 0 ≤ a.getD i 0) := by
  have hde : ∀ j, d.getD j 0 ≤ e.getD j 0 := fun j => by
    by_cases hj : j = k
    · subst hj; exact hk
    · rw [ho j hj]; exact Int.le_refl _
  have s2 := ha.sum
  have s3 := hb.sum
  refine ⟨fun e0 => Classical.byContradiction fun hx => ?_, fun e0 => Classical.byContradiction fun hx => ?_⟩
  · have l1 := hb.down.low i (by omega)
    have t1 := ha.down.top i hi (by omega)
    have d1 := hde i
    have s1 := hb.full i (by omega) (by omega)
    obtain ⟨j, hj, h3⟩ := some_less (by rw [ha.down.len, hb.down.len, hl]) (by rw [ha.down.len]; exact hi) (by omega : b.getD i 0 < a.getD i 0) (by omega)
    rw [ha.down.len] at hj
    have hjk : j ≠ k := fun h => by subst h; subst e0; omega
    have l2 := ha.down.low j hj
    have t2 := hb.down.top j (by omega) (by omega)
    rw [ho j hjk] at t2
    exact cross ha.down hb.down hl hi hj (by omega) (by omega) h3 (by omega)
  · have l1 := ha.down.low i hi
    have t1 := hb.down.top i (by omega) (by omega)
    rw [ho i e0] at t1
    have s1 := ha.full i hi (by omega)
    obtain ⟨j, hj, h3⟩ := some_less (by rw [ha.down.len, hb.down.len, hl]) (by rw [hb.down.len]; omega) (by omega : a.getD i 0 < b.getD i 0) (by omega)
    rw [hb.down.len] at hj
    have l2 := hb.down.low j hj
    have t2 := ha.down.top j (by omega) (by omega)
    have d1 := hde j
    exact cross ha.down hb.down hl (by omega) hi h3 (by omega) (by omega) (by omega)

/-- The spaces of a priority, in their order. -/
structure RowOk (d p : List Int) (f : Nat) (q : Int) (row : List Nat) : Prop where
  lt : ∀ t, t < row.length → row.getD t 0 < d.length
  pr : ∀ t, t < row.length → p.getD (row.getD t 0) 0 = q
  all : ∀ j, j < d.length → p.getD j 0 = q → ∃ t, t < row.length ∧ row.getD t 0 = j
  up : ∀ t t', t < t' → t' < row.length → pos f d.length (row.getD t 0) < pos f d.length (row.getD t' 0)
def prow (p : List Int) (f : Nat) (q : Int) (k : Nat) : List Nat := ((List.range k).map (nth f p.length)).filter fun j => p.getD j 0 == q
theorem prow_zero (p : List Int) (f : Nat) (q : Int) : prow p f q 0 = [] := rfl
theorem prow_yes {p : List Int} {f k : Nat} {q : Int} (h : p.getD (nth f p.length k) 0 = q) : prow p f q (k + 1) = prow p f q k ++ [nth f p.length k] := by
  unfold prow
  rw [List.range_succ, List.map_append, List.filter_append]
  rw [List.map_singleton, List.filter_cons, if_pos (by rw [h]; exact beq_self_eq_true q), List.filter_nil]
theorem prow_no {p : List Int} {f k : Nat} {q : Int} (h : p.getD (nth f p.length k) 0 ≠ q) : prow p f q (k + 1) = prow p f q k := by
  unfold prow
  rw [List.range_succ, List.map_append, List.filter_append]
  rw [List.map_singleton, List.filter_cons, if_neg (by simpa using h), List.filter_nil, List.append_nil]
theorem prow_len (p : List Int) (f : Nat) (q : Int) (k : Nat) : (prow p f q k).length ≤ k := by
  unfold prow
  have := List.length_filter_le (fun j => p.getD j 0 == q) ((List.range k).map (nth f p.length))
  rw [List.length_map, List.length_range] at this
  exact this
theorem prow_ok {d p : List Int} {f : Nat} (q : Int) (hl : p.length = d.length) (hf : f < d.length) : RowOk d p f q (prow p f q d.length) := by
  have mem : ∀ t, t < (prow p f q d.length).length → (prow p f q d.length).getD t 0 ∈ prow p f q d.length := fun t ht => by
    rw [List.getD, List.getElem?_eq_getElem ht, Option.getD_some]
    exact List.getElem_mem _
  have inv : ∀ x, x ∈ prow p f q d.length ↔ x < d.length ∧ p.getD x 0 = q := fun x => by
    unfold prow
    rw [List.mem_filter, List.mem_map]
    constructor
    · rintro ⟨⟨i, hi, rfl⟩, h⟩
      refine ⟨?_, by simpa using h⟩
      rw [hl]; exact nth_lt _ (by omega)
    · rintro ⟨h1, h2⟩
      refine ⟨⟨pos f d.length x, List.mem_range.2 (pos_lt (by omega)), ?_⟩, by simpa using h2⟩
      rw [hl]; exact nth_pos hf h1
  refine ⟨fun t ht => ((inv _).1 (mem t ht)).1, fun t ht => ((inv _).1 (mem t ht)).2, fun j hj hp => ?_, fun t t' h1 h2 => ?_⟩
  · obtain ⟨t, ht, e⟩ := List.getElem_of_mem ((inv j).2 ⟨hj, hp⟩)
    exact ⟨t, ht, by rw [List.getD, List.getElem?_eq_getElem ht, Option.getD_some]; exact e⟩
  · have pw : (prow p f q d.length).Pairwise (fun a b => pos f d.length a < pos f d.length b) := by
      unfold prow
      refine List.Pairwise.filter _ ?_
      rw [List.pairwise_map, hl]
      refine List.Pairwise.imp_of_mem ?_ (List.pairwise_lt_range (n := d.length))
      intro a b ha hb hab
      rw [pos_nth hf (List.mem_range.1 ha), pos_nth hf (List.mem_range.1 hb)]
      exact hab
    have := List.pairwise_iff_getElem.1 pw t t' (by omega) h2 h1
    rw [List.getD, List.getElem?_eq_getElem (by omega : t < _), List.getD, List.getElem?_eq_getElem h2]
    exact this

/-- Ahead of a priority's rounds: all above have what they want, and those below have none; or nothing is left. -/
structure Done (procs : Int) (d p has : List Int) (f : Nat) (q left : Int) : Prop where
  down : Down d p has f
  pos : 0 ≤ left
  sum : has.sum + left = procs
  lvl : left = 0 ∨ (∀ j, j < d.length → q ≤ p.getD j 0 → d.getD j 0 ≤ has.getD j 0) ∧ ∀ j, j < d.length → p.getD j 0 < q → has.getD j 0 = 0
/-- Ahead of a round. -/
structure Lev (procs : Int) (d p has : List Int) (f : Nat) (q : Int) (row : List Nat) (left : Int) : Prop where
  down : Down d p has f
  pos : 0 ≤ left
  sum : has.sum + left = procs
  lvl : left = 0 ∨ ∃ r : Int, (∀ j, j < d.length → q < p.getD j 0 → d.getD j 0 ≤ has.getD j 0) ∧ (∀ j, j < d.length → p.getD j 0 < q → has.getD j 0 = 0) ∧
    ∀ t, t < row.length → has.getD (row.getD t 0) 0 < d.getD (row.getD t 0) 0 → has.getD (row.getD t 0) 0 = r
/-- Within a round. -/
structure Pass (procs : Int) (d p has : List Int) (f : Nat) (q : Int) (row : List Nat) (most : Int) (k : Nat) (left : Int) (given : Bool) : Prop where
  down : Down d p has f
  pos : 0 ≤ left
  sum : has.sum + left = procs
  le : left ≤ most
  less : given = true → left < most
  lvl : left = 0 ∨ ∃ r : Int, (∀ j, j < d.length → q < p.getD j 0 → d.getD j 0 ≤ has.getD j 0) ∧ (∀ j, j < d.length → p.getD j 0 < q → has.getD j 0 = 0) ∧
    (∀ t, t < row.length → k ≤ t → has.getD (row.getD t 0) 0 < d.getD (row.getD t 0) 0 → has.getD (row.getD t 0) 0 = r) ∧
    ∀ t, t < row.length → t < k → has.getD (row.getD t 0) 0 < d.getD (row.getD t 0) 0 → has.getD (row.getD t 0) 0 = r + 1 ∧ given = true

theorem Lev.pass {procs q left : Int} {d p has : List Int} {f : Nat} {row : List Nat} (h : Lev procs d p has f q row left) : Pass procs d p has f q row left 0 left false :=
  ⟨h.down, h.pos, h.sum, Int.le_refl _, fun e => (Bool.noConfusion e), h.lvl.imp id fun ⟨r, h1, h2, h3⟩ => ⟨r, h1, h2, fun t ht _ => h3 t ht, fun t _ ht => absurd ht (by omega)⟩⟩
theorem Pass.again {procs q most left : Int} {d p has : List Int} {f : Nat} {row : List Nat} (h : Pass procs d p has f q row most row.length left true) : Lev procs d p has f q row left ∧ left < most :=
  ⟨⟨h.down, h.pos, h.sum, h.lvl.imp id fun ⟨r, h1, h2, h3, h4⟩ => ⟨r + 1, h1, h2, fun t ht hl => (h4 t ht ht hl).1⟩⟩, h.less rfl⟩
theorem Pass.over {procs q most left : Int} {d p has : List Int} {f : Nat} {row : List Nat} (hR : RowOk d p f q row) (h : Pass procs d p has f q row most row.length left false) : Done procs d p has f q left :=
  ⟨h.down, h.pos, h.sum, h.lvl.imp id fun ⟨r, h1, h2, h3, h4⟩ => ⟨fun j hj hq => by
    by_cases e : p.getD j 0 = q
    · obtain ⟨t, ht, rfl⟩ := hR.all j hj e
      refine Classical.byContradiction fun hx => ?_
      have := (h4 t ht ht (by omega)).2
      cases this
    · exact h1 j hj (by omega), h2⟩⟩
theorem Done.lev {procs q left : Int} {d p has : List Int} {f : Nat} {row : List Nat} (hR : RowOk d p f q row) (h : Done procs d p has f (q + 1) left) : Lev procs d p has f q row left :=
  ⟨h.down, h.pos, h.sum, h.lvl.imp id fun ⟨h1, h2⟩ => ⟨0, fun j hj hq => h1 j hj (by omega), fun j hj hq => h2 j hj (by omega), fun t ht _ => h2 _ (hR.lt t ht) (by have := hR.pr t ht; omega)⟩⟩
theorem Pass.skip {procs q most left : Int} {d p has : List Int} {f k : Nat} {row : List Nat} {given : Bool} (h : Pass procs d p has f q row most k left given)
    (hn : 0 < left → d.getD (row.getD k 0) 0 ≤ has.getD (row.getD k 0) 0) : Pass procs d p has f q row most (k + 1) left given := by
  have h0 := h.pos
  refine ⟨h.down, h.pos, h.sum, h.le, h.less, ?_⟩
  by_cases e : left = 0
  · exact .inl e
  · rcases h.lvl with h' | ⟨r, h1, h2, h3, h4⟩
    · exact absurd h' e
    · refine .inr ⟨r, h1, h2, fun t ht hk => h3 t ht (by omega), fun t ht hk hl => ?_⟩
      by_cases ek : t = k
      · subst ek
        have := hn (by omega)
        omega
      · exact h4 t ht (by omega) hl
theorem Pass.give {procs q most left : Int} {d p has : List Int} {f k : Nat} {row : List Nat} {given : Bool} (hR : RowOk d p f q row) (h : Pass procs d p has f q row most k left given) (hk : k < row.length)
    (h0 : 0 < left) (hw : has.getD (row.getD k 0) 0 < d.getD (row.getD k 0) 0) : Pass procs d p (has.set (row.getD k 0) (has.getD (row.getD k 0) 0 + 1)) f q row most (k + 1) (left - 1) true := by
  have hlt := hR.lt k hk
  have hpr := hR.pr k hk
  have hl : row.getD k 0 < has.length := by rw [h.down.len]; exact hlt
  rcases h.lvl with h' | ⟨r, h1, h2, h3, h4⟩
  · omega
  · have hr := h3 k hk (Nat.le_refl _) hw
    have hle := h.le
    have hs := h.sum
    refine ⟨h.down.step hlt hw fun j hj hlj => ?_, by omega, by rw [sum_set hl]; omega, by omega, fun _ => by omega, .inr ⟨r, fun j hj hq => ?_, fun j hj hq => ?_, fun t ht hkt hw' => ?_, fun t ht hkt hw' => ?_⟩⟩
    · by_cases e : p.getD j 0 = q
      · obtain ⟨t, ht, rfl⟩ := hR.all j hj e
        by_cases e1 : t = k
        · subst e1; exact .inl rfl
        · right
          unfold ahead
          refine .inr ⟨by omega, ?_⟩
          by_cases e2 : t < k
          · have := (h4 t ht e2 hlj).1
            exact .inl (by omega)
          · have := h3 t ht (by omega) hlj
            exact .inr ⟨by omega, hR.up k t (by omega) ht⟩
      · by_cases e1 : q < p.getD j 0
        · have := h1 j hj e1
          omega
        · right
          unfold ahead
          exact .inl (by omega)
    · have e : j ≠ row.getD k 0 := fun e => by subst e; omega
      rw [getD_set hl, if_neg e]
      exact h1 j hj hq
    · have e : j ≠ row.getD k 0 := fun e => by subst e; omega
      rw [getD_set hl, if_neg e]
      exact h2 j hj hq
    · have hu := hR.up k t (by omega) ht
      have e : row.getD t 0 ≠ row.getD k 0 := fun e => by rw [e] at hu; omega
      rw [getD_set hl, if_neg e] at hw' ⊢
      exact h3 t ht (by omega) hw'
    · by_cases e1 : t = k
      · subst e1
        rw [getD_set hl, if_pos rfl]
        exact ⟨by omega, rfl⟩
      · have hu := hR.up t k (by omega) hk
        have e : row.getD t 0 ≠ row.getD k 0 := fun e => by rw [e] at hu; omega
        rw [getD_set hl, if_neg e] at hw' ⊢
        exact ⟨(h4 t ht (by omega) hw').1, rfl⟩

theorem zeros_get (n i : Nat) : (List.replicate n (0 : Int)).getD i 0 = 0 := by
  rw [List.getD, List.getElem?_replicate]
  split <;> rfl
theorem zeros_sum (n : Nat) : (List.replicate n (0 : Int)).sum = 0 := by
  induction n with
  | zero => rfl
  | succ n ih => rw [List.replicate_succ, List.sum_cons, ih]; rfl
theorem Down.zero (d p : List Int) (f : Nat) : Down d p (List.replicate d.length 0) f :=
  ⟨by simp, fun i _ => by rw [zeros_get]; omega, fun i _ h => by rw [zeros_get] at h; omega, fun i j _ _ h => by rw [zeros_get] at h; omega⟩
theorem Done.begin {procs : Int} {d p : List Int} {f : Nat} (h0 : 0 ≤ procs) (hp : ∀ j, j < d.length → p.getD j 0 ≤ 7) : Done procs d p (List.replicate d.length 0) f 8 procs :=
  ⟨Down.zero d p f, h0, by rw [zeros_sum]; omega, .inr ⟨fun j hj h => by have := hp j hj; omega, fun j _ _ => zeros_get _ _⟩⟩
theorem Done.good {procs left : Int} {d p has : List Int} {f : Nat} (h : Done procs d p has f 0 left) (hp : ∀ j, j < d.length → 0 ≤ p.getD j 0) : Good procs d p has f := by
  have h0 := h.pos
  have hs := h.sum
  refine ⟨h.down, by omega, fun i hi hw => ?_⟩
  rcases h.lvl with e | ⟨e, _⟩
  · omega
  · have := e i hi (hp i hi)
    omega

/-- The document's answer: whom to give the next processor, of those that were looked at. -/
def Scan (d p out : List Int) (f k : Nat) (b : Int) : Prop :=
  (b = -1 ∧ ∀ t, t < k → d.getD (nth f d.length t) 0 ≤ out.getD (nth f d.length t) 0) ∨
  ∃ i : Nat, b = i ∧ i < d.length ∧ pos f d.length i < k ∧ out.getD i 0 < d.getD i 0 ∧
    ∀ t, t < k → out.getD (nth f d.length t) 0 < d.getD (nth f d.length t) 0 → nth f d.length t = i ∨ ahead p f d.length i (out.getD i 0) (nth f d.length t) (out.getD (nth f d.length t) 0)
theorem Scan.begin (d p out : List Int) (f : Nat) : Scan d p out f 0 (-1) := .inl ⟨rfl, fun t ht => absurd ht (by omega)⟩
theorem Scan.skip {d p out : List Int} {f k : Nat} {b : Int} (h : Scan d p out f k b) (hn : d.getD (nth f d.length k) 0 ≤ out.getD (nth f d.length k) 0) : Scan d p out f (k + 1) b := by
  rcases h with ⟨h1, h2⟩ | ⟨i, h1, h2, h3, h4, h5⟩
  · refine .inl ⟨h1, fun t ht => ?_⟩
    by_cases e : t = k
    · subst e; exact hn
    · exact h2 t (by omega)
  · refine .inr ⟨i, h1, h2, by omega, h4, fun t ht hw => ?_⟩
    by_cases e : t = k
    · subst e; omega
    · exact h5 t (by omega) hw
theorem Scan.first {d p out : List Int} {f k : Nat} (hf : f < d.length) (hk : k < d.length) (h : Scan d p out f k (-1)) (hw : out.getD (nth f d.length k) 0 < d.getD (nth f d.length k) 0) : Scan d p out f (k + 1) (nth f d.length k : Nat) := by
  rcases h with ⟨_, h2⟩ | ⟨i, h1, _⟩
  · refine .inr ⟨_, rfl, nth_lt _ (by omega), by rw [pos_nth hf hk]; omega, hw, fun t ht hx => ?_⟩
    by_cases e : t = k
    · subst e; exact .inl rfl
    · have := h2 t (by omega)
      omega
  · omega
theorem Scan.better {d p out : List Int} {f k i : Nat} (hf : f < d.length) (hk : k < d.length) (h : Scan d p out f k (i : Nat)) (hw : out.getD (nth f d.length k) 0 < d.getD (nth f d.length k) 0)
    (hb : p.getD i 0 < p.getD (nth f d.length k) 0 ∨ p.getD (nth f d.length k) 0 = p.getD i 0 ∧ out.getD (nth f d.length k) 0 < out.getD i 0) : Scan d p out f (k + 1) (nth f d.length k : Nat) := by
  rcases h with ⟨h1, _⟩ | ⟨j, h1, h2, h3, h4, h5⟩
  · omega
  · have e : i = j := by omega
    subst e
    refine .inr ⟨_, rfl, nth_lt _ (by omega), by rw [pos_nth hf hk]; omega, hw, fun t ht hx => ?_⟩
    by_cases e : t = k
    · subst e; exact .inl rfl
    · right
      rcases h5 t (by omega) hx with e1 | e1
      · rw [e1]; unfold ahead; omega
      · unfold ahead at e1 ⊢; omega
theorem Scan.worse {d p out : List Int} {f k i : Nat} (hf : f < d.length) (hk : k < d.length) (h : Scan d p out f k (i : Nat))
    (hb : ¬ (p.getD i 0 < p.getD (nth f d.length k) 0 ∨ p.getD (nth f d.length k) 0 = p.getD i 0 ∧ out.getD (nth f d.length k) 0 < out.getD i 0)) : Scan d p out f (k + 1) (i : Nat) := by
  rcases h with ⟨h1, _⟩ | ⟨j, h1, h2, h3, h4, h5⟩
  · omega
  · have e : i = j := by omega
    subst e
    refine .inr ⟨_, rfl, h2, by omega, h4, fun t ht hx => ?_⟩
    by_cases e : t = k
    · subst e
      right
      have := pos_nth hf hk
      unfold ahead
      omega
    · exact h5 t (by omega) hx
theorem Scan.lt {d p out : List Int} {f k i : Nat} (h : Scan d p out f k (i : Nat)) : i < d.length := by
  rcases h with ⟨h1, _⟩ | ⟨j, h1, h2, _⟩
  · omega
  · omega
theorem Scan.cases {d p out : List Int} {f k : Nat} {b : Int} (h : Scan d p out f k b) : b = -1 ∨ ∃ i : Nat, b = i ∧ i < d.length := by
  rcases h with ⟨h1, _⟩ | ⟨j, h1, h2, _⟩
  · exact .inl h1
  · exact .inr ⟨j, h1, h2⟩
/-- While processors are given. -/
structure Some (procs : Int) (d p out : List Int) (f : Nat) (left : Int) : Prop where
  down : Down d p out f
  pos : 0 ≤ left
  sum : out.sum + left = procs
theorem Some.begin {procs : Int} {d p : List Int} {f : Nat} (h0 : 0 ≤ procs) : Some procs d p (List.replicate d.length 0) f procs := ⟨Down.zero d p f, h0, by rw [zeros_sum]; omega⟩
theorem Some.give {procs left : Int} {d p out : List Int} {f i : Nat} (hf : f < d.length) (h : Some procs d p out f left) (h0 : 0 < left) (hS : Scan d p out f d.length (i : Nat)) : Some procs d p (out.set i (out.getD i 0 + 1)) f (left - 1) := by
  have hs := h.sum
  rcases hS with ⟨h1, _⟩ | ⟨j, h1, h2, h3, h4, h5⟩
  · omega
  · have e : i = j := by omega
    subst e
    refine ⟨h.down.step h2 h4 fun j hj hw => ?_, by omega, by rw [sum_set (by rw [h.down.len]; exact h2)]; omega⟩
    have e := nth_pos hf hj
    have := h5 (Dk.pos f d.length j) (pos_lt (by omega))
    rw [e] at this
    exact this hw
theorem Some.none {procs left : Int} {d p out : List Int} {f : Nat} (hf : f < d.length) (h : Some procs d p out f left) (hS : Scan d p out f d.length (-1)) : Good procs d p out f := by
  have h0 := h.pos
  have hs := h.sum
  refine ⟨h.down, by omega, fun i hi hw => ?_⟩
  rcases hS with ⟨_, h2⟩ | ⟨j, h1, _⟩
  · have e := nth_pos hf hi
    have := h2 (Dk.pos f d.length i) (pos_lt (by omega))
    rw [e] at this
    omega
  · omega
theorem Some.over {procs : Int} {d p out : List Int} {f : Nat} (h : Some procs d p out f 0) : Good procs d p out f := by
  have hs := h.sum
  exact ⟨h.down, by omega, fun i hi hw => by omega⟩
/-- Whose turn it is. -/
def turnOf (turn : Int) (n : Nat) : Nat := (turn % n).toNat
theorem turnOf_lt {turn : Int} {n : Nat} (hn : 0 < n) : turnOf turn n < n := by
  have h1 := Int.emod_lt_of_pos turn (by omega : (0 : Int) < n)
  have h2 := Int.emod_nonneg turn (by omega : (n : Int) ≠ 0)
  unfold turnOf
  omega
end Dk
