/- Rows, and rows of rows, that grow by what lies in a box. -/
import Derived.Test.YtjkdaankjondjaaGv
import Derived.Test.YtjkdaankjondjaaQy
namespace Dk
set_option linter.unusedSimpArgs false
set_option linter.unusedVariables false
set_option linter.unnecessarySimpa false
open Go Go.RowKit
section
variable {W w : World} {us1 us2 : List Thing}
theorem Sep.appendBox {P : Go.Program} {ty e : TypeId} {z : Value} {bytes n p : Nat} {v x : Value} {xs : List Value} (K : SlK P ty e z 1 bytes) (h : Sep W w (us1 ++ rowOf e 1 v n xs :: us2)) (hb : Box w p #[x] e) (hx : x.oneCell' = true) (hl : n ≤ 10000) :
    ∃ A L C w', (Builtin.append_ #[ty, ty] ty #[v, .slice (some ⟨p, 0, none⟩) 1 1]).run P w = .ok (.slice A L C) w' ∧ Sep W w' (us1 ++ rowOf e 1 (.slice A L C) (n + 1) (xs ++ [x]) :: us2) := by
  have hr := h.row (e := e) (s := 1) (v := v) (n := n) (xs := xs) (by simp)
  obtain ⟨v', w', hrun, ho, hg, hf, hnil⟩ := K.append W.heap.size ty v xs n w hr ⟨p, 0, none⟩ 1 1 [x] rfl (fun j u hj => by
    rw [Addr.add_lit, Nat.zero_add, hb.cell]
    match j, hj with
    | 0, hj => simpa using hj) (fun u hu => by simp at hu; rw [hu]; exact hx) (by omega) h.out.size
  obtain ⟨A, C, ev, _, _⟩ := owns_slice ho
  subst ev
  exact ⟨A, _, C, w', hrun, h.turn (Away.of_grown hg (fun k hk => .inl hk)) (owns_base ho (Nat.zero_le _)) (fun k hk => hf k hk)⟩
theorem Sep.nestGrow {P : Go.Program} {ty : TypeId} {z : Value} {bytes p : Nat} {α : Type} {eh e : TypeId} {s : Nat} {f : List α → List Value} {v : Value} {vs : List Value} {xss : List (List α)} (K : SlK P ty eh z 1 bytes) (h : Sep W w (us1 ++ nestOf eh e s f v vs xss :: us2)) (hb : Box w p #[.slice none 0 0] eh) (hf0 : f [] = []) (hl : xss.length ≤ 10000) :
    ∃ A L C w', (Builtin.append_ #[ty, ty] ty #[v, .slice (some ⟨p, 0, none⟩) 1 1]).run P w = .ok (.slice A L C) w' ∧ Sep W w' (us1 ++ nestOf eh e s f (.slice A L C) (vs ++ [.slice none 0 0]) (xss ++ [[]]) :: us2) := by
  have hmem : nestOf eh e s f v vs xss ∈ us1 ++ nestOf eh e s f v vs xss :: us2 := by simp
  obtain ⟨h1, h2, h3, h4⟩ := h.get hmem
  have hlt := (nestOf eh e s f v vs xss).lt w (h.get hmem)
  have hr : w.ownsRow 0 eh 1 v vs.length vs := h1
  obtain ⟨v', w', hrun, ho, hg, hf, hnil⟩ := K.append 0 ty v vs vs.length w hr ⟨p, 0, none⟩ 1 1 [.slice none 0 0] rfl (fun j u hj => by
    rw [Addr.add_lit, Nat.zero_add, hb.cell]
    match j, hj with
    | 0, hj => simpa using hj) (fun u hu => by simp at hu; rw [hu]; rfl) (by omega) (Nat.zero_le _)
  obtain ⟨A, C, ev, _, _⟩ := owns_slice ho
  subst ev
  have q4 := List.pairwise_cons.1 h4
  have aw : Away (fun k => v.ownBlock = some k) w w' := Away.of_grown hg (fun k hk => .inl hk)
  refine ⟨A, _, C, w', hrun, Sep.turn (t := nestOf eh e s f v vs xss) (t' := nestOf eh e s f (.slice A (vs.length + 1) C) (vs ++ [.slice none 0 0]) (xss ++ [[]])) h ?_ ⟨?_, ?_, ?_, ?_⟩ ?_⟩
  · exact (Away.trans (S := (nestOf eh e s f v vs xss).own) (Away.refl _ w) aw (fun k hk => .inl (.inl hk)))
  · rw [List.length_append]
    exact ho
  · simp [h2]
  · intro i u xs hu hx
    by_cases hi : i < vs.length
    · rw [List.getElem?_append_left hi] at hu
      rw [List.getElem?_append_left (by omega)] at hx
      exact owns_away (h3 i u xs hu hx) aw (fun k hk e => q4.1 u (List.mem_of_getElem? hu) k e hk)
    · have hi' : i = vs.length := by
        have := (List.getElem?_eq_some_iff.1 hu).1
        simp at this
        omega
      subst hi'
      rw [List.getElem?_append_right (Nat.le_refl _)] at hu
      rw [List.getElem?_append_right (by omega)] at hx
      simp at hu
      simp [h2] at hx
      subst hu hx
      rw [hf0]
      exact World.ownsRow_nil _ _ _ _
  · refine List.pairwise_cons.2 ⟨fun x hx k hk hxk => ?_, List.pairwise_append.2 ⟨q4.2, List.pairwise_singleton _ _, fun x hx y hy k hk hyk => ?_⟩⟩
    · rcases List.mem_append.1 hx with hx | hx
      · rcases hf k hk with q | q
        · exact q4.1 x hx k q hxk
        · have := hlt k (.inr ⟨x, hx, hxk⟩)
          omega
      · rw [List.mem_singleton] at hx
        rw [hx] at hxk
        simp [Value.ownBlock] at hxk
    · rw [List.mem_singleton] at hy
      rw [hy] at hyk
      simp [Value.ownBlock] at hyk
  · intro k hk
    rcases hk with hk | ⟨x, hx, hk⟩
    · exact (hf k hk).imp (fun h => .inl h) id
    · rcases List.mem_append.1 hx with hx | hx
      · exact .inl (.inr ⟨x, hx, hk⟩)
      · rw [List.mem_singleton] at hx
        rw [hx] at hk
        simp [Value.ownBlock] at hk
end
end Dk
