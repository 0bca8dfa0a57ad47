/- Lists of lists that are made, and filled by lists that a call made. -/
import Derived.Test.YtoilkojegnfmfaaYd
namespace Dk
set_option linter.unusedSimpArgs false
set_option linter.unusedVariables false
set_option linter.unnecessarySimpa false
open Go Go.RowKit
section
variable {W w w' : World} {t1 t2 t' : Thing} {ts us us1 us2 : List Thing}
/-- Two things, taken as one. -/
def bothOf (t1 t2 : Thing) : Thing := {
  own := fun k => t1.own k ∨ t2.own k
  holds := fun w => t1.holds w ∧ t2.holds w
  local_ := fun w w' h hk => ⟨t1.local_ w w' h.1 (fun k h1 => hk k (.inl h1)), t2.local_ w w' h.2 (fun k h1 => hk k (.inr h1))⟩
  lt := fun w h k hk => hk.elim (t1.lt w h.1 k) (t2.lt w h.2 k) }
theorem Sep.both (h : Sep W w (t1 :: t2 :: us)) : Sep W w (bothOf t1 t2 :: us) := by
  have q := Hid.out h
  have p := List.pairwise_cons.1 q.apart
  have p2 := List.pairwise_cons.1 p.2
  have a1 := q.all t1 (List.mem_cons_self ..)
  have a2 := q.all t2 (List.mem_cons_of_mem _ (List.mem_cons_self ..))
  refine ⟨fun x hx => ?_, List.pairwise_cons.2 ⟨fun x hx k hk => hk.elim (p.1 x (List.mem_cons_of_mem _ hx) k) (p2.1 x hx k), p2.2⟩, q.up⟩
  rcases List.mem_cons.1 hx with rfl | hx
  · exact ⟨⟨a1.1, a2.1⟩, fun k hk => hk.elim (a1.2 k) (a2.2 k)⟩
  · exact q.all x (List.mem_cons_of_mem _ (List.mem_cons_of_mem _ hx))
/-- Two things become one. -/
theorem Sep.fuse (h : Sep W w (t1 :: (us1 ++ t2 :: us2))) (a : Away (fun k => t1.own k ∨ t2.own k) w w') (hh : t'.holds w') (hn : ∀ k, t'.own k → (t1.own k ∨ t2.own k) ∨ w.heap.size ≤ k) : Sep W w' (us1 ++ t' :: us2) := by
  have h1 : Sep W w (bothOf t1 t2 :: (us1 ++ us2)) := Sep.both (h.perm (List.Perm.cons _ List.perm_middle))
  exact (Sep.turn (us1 := []) (t' := t') h1 a hh hn).perm List.perm_middle.symm
variable {eh e : TypeId} {v : Value} {vs : List Value} {xss : List (List Int)}
/-- A list that a call made comes into a list of lists. -/
theorem Sep.nestInto {i n : Nat} {u' : Value} {ys : List Int} {g C : Nat} (h : Sep W w (rowOf e 1 u' n (is ys) :: (us1 ++ nestOf eh e 1 is v vs xss :: us2))) (hn : n = ys.length) (hi : i < xss.length) (ev : v = .slice (some ⟨g, 0, none⟩) xss.length C) :
    w.frozen? ⟨g, i, none⟩ = false ∧ (∃ u, w.cell? ⟨g, i, none⟩ = some u) ∧ Sep W (w.setCell ⟨g, i, none⟩ u') (us1 ++ nestOf eh e 1 is v (vs.set i u') (xss.set i ys) :: us2) := by
  subst hn
  have hmem : nestOf eh e 1 is v vs xss ∈ rowOf e 1 u' ys.length (is ys) :: (us1 ++ nestOf eh e 1 is v vs xss :: us2) := by simp
  have hrow := h.get (t := rowOf e 1 u' ys.length (is ys)) (List.mem_cons_self ..)
  have hrow : w.ownsRow 0 e 1 u' ys.length (is ys) := hrow
  obtain ⟨h1, h2, h3, h4⟩ := h.get hmem
  have q4 := List.pairwise_cons.1 h4
  have hap : ∀ k, u'.ownBlock = some k → ¬ (v.ownBlock = some k ∨ ∃ x ∈ vs, x.ownBlock = some k) := by
    have q := Hid.out h
    have p := List.pairwise_cons.1 q.apart
    exact fun k hk => p.1 _ (by simp : nestOf eh e 1 is v vs xss ∈ us1 ++ nestOf eh e 1 is v vs xss :: us2) k hk
  obtain ⟨g', C', x, ev', _, _, hx, hc, hfz, hs⟩ := row_cell1 (w := w) (B := 0) (e := eh) (v := v) (n := vs.length) (k := i) (xs := vs) h1 (by rw [h2]; exact hi)
  have eg : g' = g := by
    rw [ev] at ev'
    simp at ev'
    exact ev'.1.symm
  subst eg
  have hvb : v.ownBlock = some g' := by rw [ev]; rfl
  have haw : Away (fun k => k = g') w (w.setCell ⟨g', i, none⟩ u') := Away.set (S := fun k => k = g') (Away.refl _ w) (b := g') (Or.inl rfl) _ _
  refine ⟨hfz, ⟨x, hc⟩, Sep.fuse (t' := nestOf eh e 1 is v (vs.set i u') (xss.set i ys)) h ((Away.refl _ w).set (b := g') (.inl (.inr (.inl hvb))) _ _) ⟨?_, ?_, ?_, ?_⟩ ?_⟩
  · rw [List.length_set]
    exact hs u'
  · rw [List.length_set, List.length_set, h2]
  · intro j x' xs' hx' hxs'
    by_cases hij : i = j
    · subst hij
      rw [List.getElem?_set_self (by rw [h2]; exact hi)] at hx'
      rw [List.getElem?_set_self hi] at hxs'
      cases hx'
      cases hxs'
      exact owns_away hrow haw (fun k hk e => hap k hk (.inl (by rw [e]; exact hvb)))
    · rw [List.getElem?_set_ne hij] at hx' hxs'
      exact owns_away (h3 j x' xs' hx' hxs') haw (fun k hk e => q4.1 x' (List.mem_of_getElem? hx') g' hvb (by rw [hk, e]))
  · refine List.pairwise_cons.2 ⟨fun y hy k hk hky => ?_, ?_⟩
    · rcases List.mem_or_eq_of_mem_set hy with hy | rfl
      · exact q4.1 y hy k hk hky
      · exact hap k hky (.inl hk)
    · rw [List.pairwise_iff_getElem]
      intro a b ha hb' hab
      rw [List.length_set] at ha hb'
      have hq := List.pairwise_iff_getElem.1 q4.2 a b ha hb' hab
      rw [List.getElem_set, List.getElem_set]
      by_cases e1 : i = a
      · rw [if_pos e1, if_neg (by omega)]
        exact fun k hk hk' => hap k hk (.inr ⟨_, List.getElem_mem hb', hk'⟩)
      · rw [if_neg e1]
        by_cases e2 : i = b
        · rw [if_pos e2]
          exact fun k hk hk' => hap k hk' (.inr ⟨_, List.getElem_mem ha, hk⟩)
        · rw [if_neg e2]
          exact hq
  · intro k hk
    rcases hk with hk | ⟨y, hy, hk⟩
    · exact .inl (.inr (.inl hk))
    · rcases List.mem_or_eq_of_mem_set hy with hy | rfl
      · exact .inl (.inr (.inr ⟨y, hy, hk⟩))
      · exact .inl (.inl hk)
/-- A list of lists is made. -/
theorem Sep.nestNew {eh e : TypeId} (h : Sep W w us) (n : Nat) (hn : n ≤ 1000) {cs : Array Value} (hc : cs.toList = List.replicate n (.slice none 0 0)) : Sep W (w.alloc (.cells cs eh)) (nestOf eh e 1 is (.slice (some ⟨w.heap.size, 0, none⟩) n n) (List.replicate n (.slice none 0 0)) (List.replicate n []) :: us) := by
  refine h.add (Dk.up_alloc (Below.refl _ _) _) ⟨?_, by simp, ?_, ?_⟩ ?_
  · have hsz : cs.size = n := by
      have := congrArg List.length hc
      simpa using this
    have := World.ownsRow_lit w (e := eh) (size := 1) (base := 0) cs n (Nat.zero_le _) (by unfold maxLen; omega) (by rw [hsz, Nat.mul_one])
    rw [hc] at this
    rw [List.length_replicate]
    exact this
  · intro i u xs hu hx
    have eu := (List.mem_replicate.1 (List.mem_of_getElem? hu)).2
    have ex := (List.mem_replicate.1 (List.mem_of_getElem? hx)).2
    subst eu
    subst ex
    exact World.ownsRow_nil _ _ _ _
  · refine List.pairwise_cons.2 ⟨fun x hx k _ hk => ?_, List.pairwise_iff_getElem.2 fun i j hi hj hij k hk _ => ?_⟩
    · rw [(List.mem_replicate.1 hx).2] at hk
      simp [Value.ownBlock] at hk
    · rw [List.getElem_replicate] at hk
      simp [Value.ownBlock] at hk
  · intro k hk
    rcases hk with hk | ⟨x, hx, hk⟩
    · simp [Value.ownBlock] at hk
      omega
    · rw [(List.mem_replicate.1 hx).2] at hk
      simp [Value.ownBlock] at hk
/-- A list in a list of lists, to read. -/
theorem Sep.innerInts {i : Nat} (h : Sep W w ts) (ht : nestOf eh e 1 is v vs xss ∈ ts) (hi : i < xss.length) (hx : ∀ x ∈ xss.getD i [], i64 x) :
    ∃ g C A D, v = .slice (some ⟨g, 0, none⟩) xss.length C ∧ xss.length ≤ C ∧ C ≤ maxLen ∧ w.cell? ⟨g, i, none⟩ = some (.slice A (xss.getD i []).length D) ∧ vs[i]? = some (.slice A (xss.getD i []).length D) ∧ SlI w.heap.size w A (xss.getD i []).length D (xss.getD i []) := by
  obtain ⟨g, C, u, xs, ev, h1, h2, hu, hxs, hc, _, ho, _⟩ := h.inner ht hi
  have e : xss.getD i [] = xs := by rw [List.getD, hxs]; rfl
  rw [e] at hx ⊢
  obtain ⟨A, D, eu, hs⟩ := owns_ints ho hx
  subst eu
  exact ⟨g, C, A, D, ev, h1, h2, hc, hu, hs⟩
end
end Dk
namespace Go.Proofs.Ytoilkojegnfmfaa
set_option linter.unusedSimpArgs false
set_option linter.unusedVariables false
set_option linter.unnecessarySimpa false
open Go.RowKit
theorem make_nest (n : Nat) (hn : n ≤ 1000) (w : World) : (Instr.makeSlice 25 (.int .i64 (n : Int)) (.int .i64 (n : Int))).run Try.prog w = .ok (.slice (some ⟨w.heap.size, 0, none⟩) n n) (w.alloc (.cells (madeCells #[.slice none 0 0] n) 30)) :=
  run_make_row' 25 30 (.slice none 0 0) 24 Try.underlying25 (by kernel_rfl) rfl .i64 .i64 n (by omega) (by omega) w
theorem made_nest (n : Nat) : (madeCells #[Value.slice none 0 0] n).toList = List.replicate n (.slice none 0 0) := by
  apply List.ext_getElem?
  intro i
  by_cases hi : i < n
  · simp [madeCells, hi, Nat.mod_one]
  · rw [List.getElem?_eq_none (by simp [madeCells]; omega), List.getElem?_eq_none (by simp; omega)]
end Go.Proofs.Ytoilkojegnfmfaa
