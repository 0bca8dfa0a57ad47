/- Rows of rows: a row whose elements are slices, each a row of its own, all apart from one another. Of any program of the model. -/
import Derived.Test.YtoilkojegnfmfaaTh
namespace Dk
set_option linter.unusedSimpArgs false
set_option linter.unusedVariables false
set_option linter.unnecessarySimpa false
open Go Go.RowKit

/-- Two values that share no block. -/
def Off (a b : Value) : Prop := ∀ k, a.ownBlock = some k → b.ownBlock ≠ some k
theorem Off.symm {a b : Value} (h : Off a b) : Off b a := fun k hk e => h k e hk
/-- A row whose elements are slices, with what they have. -/
def nestOf {α : Type} (eh e : TypeId) (s : Nat) (f : List α → List Value) (v : Value) (vs : List Value) (xss : List (List α)) : Thing := {
  own := fun k => v.ownBlock = some k ∨ ∃ u ∈ vs, u.ownBlock = some k
  holds := fun w => w.ownsRow 0 eh 1 v vs.length vs ∧ vs.length = xss.length ∧ (∀ (i : Nat) u xs, vs[i]? = some u → xss[i]? = some xs → w.ownsRow 0 e s u xs.length (f xs)) ∧ (v :: vs).Pairwise Off
  local_ := fun w w' h hk => ⟨row_local h.1 (fun k hkk => hk k (.inl hkk)), h.2.1, fun i u xs hu hx => row_local (h.2.2.1 i u xs hu hx) (fun k hkk => hk k (.inr ⟨u, List.mem_of_getElem? hu, hkk⟩)), h.2.2.2⟩
  lt := fun w h k hk => by
    rcases hk with hk | ⟨u, hu, hk⟩
    · exact (World.ownsRow.lt h.1 k hk).2
    · obtain ⟨i, hi⟩ := List.getElem?_of_mem hu
      have hil : i < xss.length := by rw [← h.2.1]; exact (List.getElem?_eq_some_iff.1 hi).1
      exact (World.ownsRow.lt (h.2.2.1 i u _ hi (List.getElem?_eq_getElem hil)) k hk).2 }

section
variable {W w w' : World} {t t' : Thing} {ts us us1 us2 : List Thing} {α : Type} {eh e : TypeId} {s : Nat} {f : List α → List Value} {v : Value} {vs : List Value} {xss : List (List α)}
/-- A cell of a row of one cell each: read, and written. -/
theorem row_cell1 {B n k : Nat} {xs : List Value} (hr : w.ownsRow B e 1 v n xs) (hk : k < n) : ∃ g C x, v = .slice (some ⟨g, 0, none⟩) n C ∧ n ≤ C ∧ C ≤ maxLen ∧ xs[k]? = some x ∧ w.cell? ⟨g, k, none⟩ = some x ∧ w.frozen? ⟨g, k, none⟩ = false ∧ ∀ y, (w.setCell ⟨g, k, none⟩ y).ownsRow B e 1 v n (xs.set k y) := by
  obtain ⟨hl, ⟨_, h0⟩ | ⟨g, cap, cur, rfl, hb, hgg, h1, h2, h3, h4⟩⟩ := id hr
  · omega
  rw [Nat.mul_one] at hl
  have hx : xs[k]? = some xs[k] := List.getElem?_eq_getElem (by omega)
  have hc := hr.cells (g := g) rfl k _ hx
  rw [Addr.add_lit, Nat.zero_add] at hc
  have bx : Box w g cur e := ⟨hgg⟩
  refine ⟨g, cap, _, rfl, h1, h2, hx, hc, bx.frozen k, fun y => ?_⟩
  rw [Nat.mul_one] at h3
  refine owns_box (bx.set k y) hb (by rw [Array.size_setIfInBounds]; exact h3) h2 (by rw [List.length_set]; exact hl) h1 (fun i hi => ?_)
  rw [Array.getElem?_setIfInBounds]
  have hi' : cur[i]? = xs[i]? := by
    rw [← h4, List.getElem?_take, if_pos (by omega), Array.getElem?_toList]
  by_cases hij : k = i
  · subst hij
    rw [if_pos rfl, if_pos (by omega), List.getElem?_set_self (by omega)]
  · rw [if_neg hij, hi', List.getElem?_set_ne hij]
/-- A row of one cell each, beside others, is written. -/
theorem Sep.cell {n k : Nat} {xs : List Value} (h : Sep W w (us1 ++ rowOf e 1 v n xs :: us2)) (hk : k < n) : ∃ g C x, v = .slice (some ⟨g, 0, none⟩) n C ∧ n ≤ C ∧ C ≤ maxLen ∧ xs[k]? = some x ∧ w.cell? ⟨g, k, none⟩ = some x ∧ w.frozen? ⟨g, k, none⟩ = false ∧ ∀ y, Sep W (w.setCell ⟨g, k, none⟩ y) (us1 ++ rowOf e 1 v n (xs.set k y) :: us2) := by
  have hr := h.row (e := e) (s := 1) (v := v) (n := n) (xs := xs) (by simp)
  obtain ⟨g, C, x, ev, h1, h2, hx, hc, hf, hs⟩ := row_cell1 hr hk
  refine ⟨g, C, x, ev, h1, h2, hx, hc, hf, fun y => ?_⟩
  refine Sep.turn (t := rowOf e 1 v n xs) (t' := rowOf e 1 v n (xs.set k y)) h ?_ (owns_base (hs y) (Nat.zero_le _)) (fun j hj => .inl hj)
  subst ev
  exact (Away.refl (rowOf e 1 (.slice (some ⟨g, 0, none⟩) n C) n xs).own w).set (b := g) (.inl rfl) _ _
/-- The rows of a row of rows: where each lies. -/
theorem Sep.inner (h : Sep W w ts) (ht : nestOf eh e s f v vs xss ∈ ts) {i : Nat} (hi : i < xss.length) : ∃ g C u xs, v = .slice (some ⟨g, 0, none⟩) xss.length C ∧ xss.length ≤ C ∧ C ≤ maxLen ∧ vs[i]? = some u ∧ xss[i]? = some xs ∧ w.cell? ⟨g, i, none⟩ = some u ∧ w.frozen? ⟨g, i, none⟩ = false ∧ w.ownsRow W.heap.size e s u xs.length (f xs) ∧ u.ownBlock ≠ some g := by
  obtain ⟨h1, h2, h3, h4⟩ := h.get ht
  have hb := h.base ht
  rw [h2] at h1
  obtain ⟨g, C, u, ev, q1, q2, hu, hc, hf, _⟩ := row_cell1 h1 hi
  have hx : xss[i]? = some xss[i] := List.getElem?_eq_getElem hi
  refine ⟨g, C, u, _, ev, q1, q2, hu, hx, hc, hf, ?_, ?_⟩
  · have := h3 i u _ hu hx
    obtain ⟨hl, h0 | ⟨g', cap, cur, rfl, _, hr⟩⟩ := this
    · exact ⟨hl, .inl h0⟩
    · exact ⟨hl, .inr ⟨g', cap, cur, rfl, hb g' (.inr ⟨_, List.mem_of_getElem? hu, rfl⟩), hr⟩⟩
  · have := (List.pairwise_cons.1 h4).1 u (List.mem_of_getElem? hu) g (by rw [ev]; rfl)
    exact this
theorem Sep.nestLen (h : Sep W w ts) (ht : nestOf eh e s f v vs xss ∈ ts) : ∃ A C, v = .slice A xss.length C ∧ xss.length ≤ C ∧ C ≤ maxLen := by
  obtain ⟨h1, h2, _, _⟩ := h.get ht
  rw [h2] at h1
  exact owns_slice h1
theorem off_set {u u' : Value} {i : Nat} (hp : (v :: vs).Pairwise Off) (hu : vs[i]? = some u) (hb : ∀ x ∈ v :: vs, ∀ k, x.ownBlock = some k → k < w.heap.size) (hf : From w u u') : (v :: vs.set i u').Pairwise Off := by
  have hil := (List.getElem?_eq_some_iff.1 hu).1
  have q := List.pairwise_cons.1 hp
  have key : ∀ x ∈ v :: vs, (∀ k, x.ownBlock = some k → u.ownBlock ≠ some k) → Off x u' := fun x hx ho k hk hk' => by
    rcases hf k hk' with h1 | h1
    · exact ho k hk h1
    · have := hb x hx k hk; omega
  refine List.pairwise_cons.2 ⟨fun x hx => ?_, ?_⟩
  · rcases List.mem_or_eq_of_mem_set hx with hx | rfl
    · exact q.1 x hx
    · exact key v (by simp) (q.1 u (List.mem_of_getElem? hu))
  · rw [List.pairwise_iff_getElem]
    intro a b ha hb' hab
    rw [List.length_set] at ha hb'
    have hq := List.pairwise_iff_getElem.1 q.2
    rw [List.getElem_set, List.getElem_set]
    have eu : vs[i] = u := (List.getElem?_eq_some_iff.1 hu).2
    by_cases h1 : i = a
    · subst h1
      rw [if_pos rfl, if_neg (by omega)]
      have := hq i b ha hb' hab
      rw [eu] at this
      exact (key vs[b] (by simp) this.symm).symm
    · rw [if_neg h1]
      by_cases h2 : i = b
      · subst h2
        rw [if_pos rfl]
        have := hq a i ha hb' hab
        rw [eu] at this
        exact key vs[a] (by simp) this
      · rw [if_neg h2]
        exact hq a b ha hb' hab
/-- One of the rows is another now: what lies in its block alone, or in new ones, was written, and the row of rows tells of it. -/
theorem Sep.nestPut {i : Nat} {u u' : Value} {ys : List α} {g : Nat} {C : Nat} (h : Sep W w (us1 ++ nestOf eh e s f v vs xss :: us2)) (hi : i < xss.length) (ev : v = .slice (some ⟨g, 0, none⟩) xss.length C) (hu : vs[i]? = some u)
    (a : Away (fun k => u.ownBlock = some k) w w') (ho : w'.ownsRow 0 e s u' ys.length (f ys)) (hf : From w u u') :
    w'.cell? ⟨g, i, none⟩ = some u ∧ w'.frozen? ⟨g, i, none⟩ = false ∧ Sep W (w'.setCell ⟨g, i, none⟩ u') (us1 ++ nestOf eh e s f v (vs.set i u') (xss.set i ys) :: us2) := by
  have hmem : nestOf eh e s f v vs xss ∈ us1 ++ nestOf eh e s f v vs xss :: us2 := by simp
  obtain ⟨h1, h2, h3, h4⟩ := h.get hmem
  have hlt := (nestOf eh e s f v vs xss).lt w (h.get hmem)
  have q4 := List.pairwise_cons.1 h4
  have hug : u.ownBlock ≠ some g := q4.1 u (List.mem_of_getElem? hu) g (by rw [ev]; rfl)
  have h1' : w'.ownsRow 0 eh 1 v vs.length vs := owns_away h1 a (fun k hk e => q4.1 u (List.mem_of_getElem? hu) k hk e)
  obtain ⟨g', C', x, ev', _, _, hx, hc, hfz, hs⟩ := row_cell1 h1' (by rw [h2]; exact hi)
  have eg : g' = g := by
    rw [ev] at ev'
    simp at ev'
    exact ev'.1.symm
  subst eg
  rw [hu] at hx
  cases hx
  refine ⟨hc, hfz, ?_⟩
  have hvg : v.ownBlock = some g' := by rw [ev]; rfl
  have hgl : g' < w.heap.size := hlt g' (.inl hvg)
  refine Sep.turn (t := nestOf eh e s f v vs xss) (t' := nestOf eh e s f v (vs.set i u') (xss.set i ys)) h ?_ ⟨?_, ?_, ?_, ?_⟩ ?_
  · refine (Away.trans (S := (nestOf eh e s f v vs xss).own) (Away.refl _ w) a (fun k hk => .inl (.inr ⟨u, List.mem_of_getElem? hu, hk⟩))).set (.inl (.inl hvg)) _ _
  · have := hs u'
    rw [List.length_set]
    exact this
  · rw [List.length_set, List.length_set]; exact h2
  · intro j x xs hx hxs
    by_cases hij : i = j
    · subst hij
      rw [List.getElem?_set_self (by rw [h2]; exact hi)] at hx
      rw [List.getElem?_set_self hi] at hxs
      cases hx; cases hxs
      refine owns_away ho ((Away.refl (fun k => k = g') w').set (.inl rfl) i u') (fun k hk e => ?_)
      rw [e] at hk
      rcases hf g' hk with q | q
      · exact hug q
      · omega
    · rw [List.getElem?_set_ne hij] at hx hxs
      have hxg : x.ownBlock ≠ some g' := q4.1 x (List.mem_of_getElem? hx) g' hvg
      have hxu : ∀ k, x.ownBlock = some k → u.ownBlock ≠ some k := by
        have hq := List.pairwise_iff_getElem.1 q4.2
        obtain ⟨hjl, ej⟩ := List.getElem?_eq_some_iff.1 hx
        obtain ⟨hil, ei⟩ := List.getElem?_eq_some_iff.1 hu
        rcases Nat.lt_or_gt_of_ne hij with hlt' | hlt'
        · have := hq i j hil hjl hlt'
          rw [ei, ej] at this
          exact this.symm
        · have := hq j i hjl hil hlt'
          rw [ei, ej] at this
          exact this
      refine owns_away (owns_away (h3 j x xs hx hxs) a (fun k hk e => hxu k hk e)) ((Away.refl (fun k => k = g') w').set (.inl rfl) i u') (fun k hk e => hxg (by rw [← e]; exact hk))
  · exact off_set h4 hu (fun x hx k hk => by
      rcases List.mem_cons.1 hx with rfl | hx
      · exact hlt k (.inl hk)
      · exact hlt k (.inr ⟨x, hx, hk⟩)) hf
  · intro k hk
    rcases hk with hk | ⟨x, hx, hk⟩
    · exact .inl (.inl hk)
    · rcases List.mem_or_eq_of_mem_set hx with hx | rfl
      · exact .inl (.inr ⟨x, hx, hk⟩)
      · exact (hf k hk).imp (fun h => .inr ⟨u, List.mem_of_getElem? hu, h⟩) id
/-- One of the rows is taken out of a row of rows, which has nil there then. -/
theorem Sep.nestTake {i : Nat} {u : Value} {xs : List α} {g : Nat} {C : Nat} (h : Sep W w (us1 ++ nestOf eh e s f v vs xss :: us2)) (hi : i < xss.length) (ev : v = .slice (some ⟨g, 0, none⟩) xss.length C) (hu : vs[i]? = some u) (hx : xss[i]? = some xs) (hf0 : f [] = []) :
    Sep W (w.setCell ⟨g, i, none⟩ (.slice none 0 0)) (us1 ++ nestOf eh e s f v (vs.set i (.slice none 0 0)) (xss.set i []) :: rowOf e s u xs.length (f xs) :: us2) := by
  have hmem : nestOf eh e s f v vs xss ∈ us1 ++ nestOf eh e s f v vs xss :: us2 := by simp
  obtain ⟨h1, h2, h3, h4⟩ := h.get hmem
  have q4 := List.pairwise_cons.1 h4
  have hvg : v.ownBlock = some g := by rw [ev]; rfl
  have hug : u.ownBlock ≠ some g := q4.1 u (List.mem_of_getElem? hu) g hvg
  obtain ⟨_, _, hP⟩ := Sep.nestPut (u' := .slice none 0 0) (ys := []) h hi ev hu (Away.refl _ w) (by rw [hf0]; exact World.ownsRow_nil _ _ _ _) (fun k hk => by simp [Value.ownBlock] at hk)
  have hN := hP.get (t := nestOf eh e s f v (vs.set i (.slice none 0 0)) (xss.set i [])) (by simp)
  have a1 : Away (nestOf eh e s f v vs xss).own w (w.setCell ⟨g, i, none⟩ (.slice none 0 0)) := (Away.refl _ w).set (.inl (.inl hvg)) _ _
  refine Sep.turns (t := nestOf eh e s f v vs xss) (ts' := [nestOf eh e s f v (vs.set i (.slice none 0 0)) (xss.set i []), rowOf e s u xs.length (f xs)]) h a1 ?_ ?_ ?_
  · intro x hx'
    rcases List.mem_cons.1 hx' with rfl | hx'
    · exact hN
    · rw [List.mem_singleton] at hx'
      subst hx'
      exact owns_away (h3 i u xs hu hx) ((Away.refl (fun k => k = g) w).set (.inl rfl) _ _) (fun k hk e => hug (by rw [← e]; exact hk))
  · intro x hx' k hk
    rcases List.mem_cons.1 hx' with rfl | hx'
    · rcases hk with hk | ⟨y, hy, hk⟩
      · exact .inl (.inl hk)
      · rcases List.mem_or_eq_of_mem_set hy with hy | rfl
        · exact .inl (.inr ⟨y, hy, hk⟩)
        · simp [Value.ownBlock] at hk
    · rw [List.mem_singleton] at hx'
      subst hx'
      exact .inl (.inr ⟨u, List.mem_of_getElem? hu, hk⟩)
  · refine List.pairwise_cons.2 ⟨fun x hx' k hk hxk => ?_, List.pairwise_singleton _ _⟩
    rw [List.mem_singleton] at hx'
    subst hx'
    have hxk' : u.ownBlock = some k := hxk
    rcases hk with hk | ⟨y, hy, hk⟩
    · exact q4.1 u (List.mem_of_getElem? hu) k hk hxk'
    · obtain ⟨j, hj, ej⟩ := List.getElem_of_mem hy
      rw [List.length_set] at hj
      rw [List.getElem_set] at ej
      by_cases hij : i = j
      · rw [if_pos hij] at ej
        rw [← ej] at hk
        simp [Value.ownBlock] at hk
      · rw [if_neg hij] at ej
        have hq := List.pairwise_iff_getElem.1 q4.2
        obtain ⟨hil, ei⟩ := List.getElem?_eq_some_iff.1 hu
        rcases Nat.lt_or_gt_of_ne hij with hlt' | hlt'
        · have := hq i j hil hj hlt'
          rw [ei, ej] at this
          exact this k hxk' hk
        · have := hq j i hj hil hlt'
          rw [ei, ej] at this
          exact this k hk hxk'
end
theorem Away.cell {S : Nat → Prop} {w w' : World} (a : Away S w w') {b : Nat} (hb : b < w.heap.size) (hn : ¬ S b) (o : Nat) : w'.cell? ⟨b, o, none⟩ = w.cell? ⟨b, o, none⟩ := by
  unfold World.cell?
  simp only [a.block b hb hn]
/-- A list without the element at a place: two appends. -/
theorem SlK.without {P : Go.Program} {t e : TypeId} {z : Value} {s bytes : Nat} (K : SlK P t e z s bytes) {B : Nat} {v : Value} {n : Nat} {xs : List Value} {w : World} (hr : w.ownsRow B e s v n xs) (h1c : ∀ u ∈ xs, u.oneCell' = true) (k : Nat) (hk : k < n) (hl : n ≤ 1000) :
    ∃ g C A2 A9 C9 w9 A14 C14 w14, v = .slice (some ⟨g, 0, none⟩) n C ∧ n ≤ C ∧ C ≤ maxLen ∧ (if C = k + 1 then some (⟨g, 0, none⟩ : Addr) else some ⟨g, (k + 1) * s, none⟩) = some A2 ∧
      (Builtin.append_ #[t, t] t #[.slice (some ⟨w.heap.size, 0, none⟩) 0 0, .slice (some ⟨g, 0, none⟩) k C]).run P (w.alloc (.cells #[] e)) = .ok (.slice A9 k C9) w9 ∧ Below w.heap.size w w9 ∧
      (Builtin.append_ #[t, t] t #[.slice A9 k C9, .slice (some A2) (n - (k + 1)) (C - (k + 1))]).run P w9 = .ok (.slice A14 (k + (n - (k + 1))) C14) w14 ∧ Below w.heap.size w w14 ∧
      w14.ownsRow w.heap.size e s (.slice A14 (k + (n - (k + 1))) C14) (n - 1) (xs.take (k * s) ++ xs.drop ((k + 1) * s)) := by
  obtain ⟨hpl, ⟨rfl, h0⟩ | ⟨b, C, cur, rfl, hb, hg, hn, hm, hs, ht⟩⟩ := id hr
  · omega
  have hpos := K.pos
  have e1k : (k + 1) * s = k * s + s := by rw [Nat.add_mul, Nat.one_mul]
  have hns : (k + 1) * s ≤ n * s := Nat.mul_le_mul_right _ hk
  have hcells := hr.cells (g := b) rfl
  have hblt : b < w.heap.size := (Array.getElem?_eq_some_iff.1 hg).1
  obtain ⟨w1, e1⟩ : ∃ w1, w1 = w.alloc (.cells #[] e) := ⟨_, rfl⟩
  have u1 : Below w.heap.size w w1 := by rw [e1]; exact Dk.up_alloc (Below.refl _ _) _
  have o1 : w1.ownsRow w.heap.size e s (.slice (some ⟨w.heap.size, 0, none⟩) 0 0) 0 [] := by rw [e1]; exact World.ownsRow_lit w #[] 0 (Nat.le_refl _) (Nat.zero_le _) (by simp)
  have keep : ∀ w', Below w.heap.size w w' → ∀ j u, xs[j]? = some u → w'.cell? ((⟨b, 0, none⟩ : Addr).add j) = some u := fun w' u j x hj => by
    rw [u.cell (by rw [Addr.add_lit]; exact hblt)]
    exact hcells j x hj
  obtain ⟨v9, w9, r9, o9, g9, f9, n9⟩ := K.append w.heap.size t _ [] 0 w1 o1 ⟨b, 0, none⟩ k C (xs.take (k * s)) (by rw [List.length_take]; omega) (fun j u hj => by
    rw [List.getElem?_take] at hj
    split at hj
    · exact keep w1 u1 j u hj
    · cases hj) (fun u hu => h1c u (List.mem_of_mem_take hu)) (by omega) u1.size
  rw [Nat.zero_add, List.nil_append] at o9
  have u9 : Below w.heap.size w w9 := u1.grown g9 u1.size (fun j hj => (o1.lt j hj).1)
  obtain ⟨A9, C9, ev9, _, _⟩ := Dk.owns_slice o9
  subst ev9
  obtain ⟨A2, hA2, hs2⟩ : ∃ A2 : Addr, (if C = k + 1 then some (⟨b, 0, none⟩ : Addr) else some ⟨b, (k + 1) * s, none⟩) = some A2 ∧ (∀ t u, (xs.drop ((k + 1) * s))[t]? = some u → w9.cell? (A2.add t) = some u) := by
    by_cases hc : C = k + 1
    · refine ⟨⟨b, 0, none⟩, by simp [hc], fun t u hu => ?_⟩
      have hnk : n = k + 1 := by omega
      rw [List.getElem?_drop, List.getElem?_eq_none (by rw [hpl, hnk]; omega)] at hu
      cases hu
    · refine ⟨⟨b, (k + 1) * s, none⟩, by simp [hc], fun t u hu => ?_⟩
      rw [List.getElem?_drop] at hu
      have := keep w9 u9 ((k + 1) * s + t) u hu
      rw [Addr.add_lit] at this ⊢
      rw [Nat.zero_add] at this
      exact this
  obtain ⟨v14, w14, r14, o14, g14, f14, n14⟩ := K.append w.heap.size t _ _ k w9 o9 A2 (n - (k + 1)) (C - (k + 1)) (xs.drop ((k + 1) * s)) (by rw [List.length_drop, hpl, Nat.sub_mul]) hs2 (fun u hu => h1c u (List.mem_of_mem_drop hu)) (by omega) u9.size
  have u14 : Below w.heap.size w w14 := u9.grown g14 u9.size (fun j hj => (o9.lt j hj).1)
  obtain ⟨A14, C14, ev14, _, _⟩ := Dk.owns_slice o14
  subst ev14
  refine ⟨b, C, A2, A9, C9, w9, A14, C14, w14, rfl, hn, hm, hA2, by rw [← e1]; exact r9, u9, r14, u14, ?_⟩
  rw [show n - 1 = k + (n - (k + 1)) by omega]
  exact o14
end Dk
