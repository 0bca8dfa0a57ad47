/- Gates beside the document's answer: what the last look asks. -/
import Derived.Test.YtjkdaankjondjaaHx
import Derived.Test.YtjkdaankjondjaaGw
namespace Go.Proofs.Ytjkdaankjondjaa
set_option linter.unusedSimpArgs false
set_option linter.unusedVariables false
set_option linter.unnecessarySimpa false
open Go.RowKit Go.Lib
section
variable {W w w' : World} {b bm k n : Nat} {S : Dk.St} {V : Dk.Vs} {us : List Dk.Thing}
theorem Gt.sep (h : Gt W w b S k us) : ∃ ts, Dk.Sep W w (us ++ ts) := by
  obtain ⟨ts, _, hs, _⟩ := Hid.out h
  exact ⟨ts, hs⟩
theorem Gt.of_both (h : Both G0 W w b bm k []) : ∃ S V, Gt W w b S k (Dk.mdl bm V S) := by
  obtain ⟨S, V, ts, hG, hs, ok⟩ := Hid.out h
  exact ⟨S, V, ts, hG, hs, ok⟩
theorem Gt.to_both (h : Gt W w b S k (Dk.mdl bm V S)) : Both G0 W w b bm k [] := by
  obtain ⟨ts, hG, hs, ok⟩ := Hid.out h
  exact ⟨S, V, ts, hG, hs, ok⟩
theorem getD_out {α : Type} {l : List α} {n : Nat} {d : α} (h : ¬ n < l.length) : l.getD n d = d := by simp [List.getD, List.getElem?_eq_none (show l.length ≤ n by omega)]
theorem Owner_uni (h : Gt W w b S k us) (n : Nat) : Calls Try.prog 11 #[.pointer (some ⟨b, 0, none⟩), .int .i64 (n : Int)] w fun e w' => e = .returned (.tuple #[.int .i64 (whose S n), .bool (S.held.getD n false)]) ∧ Gt W w' b S k us := by
  by_cases hn : n < S.owner.length
  · exact Owner_all h hn
  · have e : S.held.getD n false = false := getD_out (by rw [h.ok.held]; exact hn)
    refine (Owner_out h n (by omega)).mono ?_
    rintro e' w' ⟨rfl, rfl⟩
    refine ⟨?_, h⟩
    unfold whose
    rw [e, if_neg (by simp)]
theorem Count_uni (h : Gt W w b S k us) (n : Nat) : Calls Try.prog 14 #[.pointer (some ⟨b, 0, none⟩), .int .i64 (n : Int)] w fun e w' => e = .returned (.int .i64 (S.count.getD n 0)) ∧ w' = w := by
  by_cases hn : n < S.count.length
  · exact Count_all h hn
  · rw [getD_out hn]
    exact Count_out h n (by omega)
theorem sli_none (w : World) : Dk.SlI w.heap.size w none 0 0 [] := ⟨rfl, Nat.le_refl _, Nat.zero_le _, fun x hx => by simp at hx, fun h => absurd h (by omega)⟩
theorem sli_zero (w : World) (A : Option Addr) : Dk.SlI w.heap.size w A 0 0 [] := ⟨rfl, Nat.le_refl _, Nat.zero_le _, fun x hx => by simp at hx, fun h => absurd h (by omega)⟩
theorem Gt.sli {A : Option Addr} {C : Nat} {l : List Int} (h : Gt W w b S k us) (hm : Dk.rowOf 3 1 (.slice A l.length C) l.length (Dk.is l) ∈ us) (hi : ∀ x ∈ l, Dk.i64 x) : Dk.SlI w.heap.size w A l.length C l := by
  obtain ⟨A', C', ea, hs⟩ := Dk.owns_ints (h.row hm) hi
  injection ea with e1 _ e3
  subst e1 e3
  exact hs
theorem Wait_uni1 (h : Gt W w b S k us) (hk : k ≤ 300) (n : Nat) (l : List Int) (el : S.wl 1 n = l) : Calls Try.prog 13 #[.pointer (some ⟨b, 0, none⟩), .int .i64 1, .int .i64 (n : Int)] w fun e w' => ∃ A C, e = .returned (.slice A l.length C) ∧ Gt W w' b S k us ∧ Hid (Dk.SlI w'.heap.size w' A l.length C l) := by
  have hi := (Dk.wl_i64 h.ok 1 n).1
  rw [el] at hi
  by_cases hn : n < S.owner.length
  · refine (Waiters1 h hk hn l el).mono ?_
    rintro e w' ⟨A, C, rfl, h'⟩
    exact ⟨A, C, rfl, h'.drop, h'.sli (by simp) hi⟩
  · have e0 : l = [] := by rw [← el]; exact getD_out (by rw [h.ok.wait]; exact hn)
    subst e0
    refine (Waiters1_out h n (by omega)).mono ?_
    rintro e w' ⟨rfl, rfl⟩
    exact ⟨none, 0, rfl, h, sli_none _⟩
theorem Wait_uni2 (h : Gt W w b S k us) (hk : k ≤ 300) (n : Nat) (l : List Int) (el : S.wl 2 n = l) : Calls Try.prog 13 #[.pointer (some ⟨b, 0, none⟩), .int .i64 2, .int .i64 (n : Int)] w fun e w' => ∃ A C, e = .returned (.slice A l.length C) ∧ Gt W w' b S k us ∧ Hid (Dk.SlI w'.heap.size w' A l.length C l) := by
  have hi := (Dk.wl_i64 h.ok 2 n).1
  rw [el] at hi
  by_cases hn : n < S.conds.length
  · refine (Waiters2 h hk hn l el).mono ?_
    rintro e w' ⟨A, C, rfl, h'⟩
    exact ⟨A, C, rfl, h'.drop, h'.sli (by simp) hi⟩
  · have e0 : l = [] := by
      rw [← el]
      show (S.conds.getD n []).map Prod.fst = []
      rw [getD_out hn]
      rfl
    subst e0
    refine (Waiters2_out h n (by omega)).mono ?_
    rintro e w' ⟨rfl, rfl⟩
    exact ⟨none, 0, rfl, h, sli_none _⟩
theorem Wait_uni3 (h : Gt W w b S k us) (hk : k ≤ 300) (n : Nat) (l : List Int) (el : S.wl 3 n = l) : Calls Try.prog 13 #[.pointer (some ⟨b, 0, none⟩), .int .i64 3, .int .i64 (n : Int)] w fun e w' => ∃ A C, e = .returned (.slice A l.length C) ∧ Gt W w' b S k us ∧ Hid (Dk.SlI w'.heap.size w' A l.length C l) := by
  have hi := (Dk.wl_i64 h.ok 3 n).1
  rw [el] at hi
  by_cases hn : n < S.count.length
  · refine (Waiters3 h hk hn l el).mono ?_
    rintro e w' ⟨A, C, rfl, h'⟩
    exact ⟨A, C, rfl, h'.drop, h'.sli (by simp) hi⟩
  · have e0 : l = [] := by rw [← el]; exact getD_out (by rw [h.ok.downs]; exact hn)
    subst e0
    refine (Waiters3_out h n (by omega)).mono ?_
    rintro e w' ⟨rfl, rfl⟩
    exact ⟨none, 0, rfl, h, sli_none _⟩
/-- The fields of the model beside gates. -/
theorem Gt.field (h : Gt W w b S k (us ++ Dk.mdl bm V S)) : Dk.Box w bm #[V.v0, V.v1, V.v2, V.v3, V.v4, V.v5] 37 := h.box (by simp [Dk.mdl])
theorem Gt.owners (h : Gt W w b S k (us ++ Dk.mdl bm V S)) : w.ownsRow W.heap.size 3 1 V.v0 S.owner.length (Dk.is S.owner) := h.row (by simp [Dk.mdl])
theorem Gt.helds (h : Gt W w b S k (us ++ Dk.mdl bm V S)) : w.ownsRow W.heap.size 4 1 V.v1 S.held.length (Dk.bv S.held) := h.row (by simp [Dk.mdl])
theorem Gt.counts (h : Gt W w b S k (us ++ Dk.mdl bm V S)) : w.ownsRow W.heap.size 3 1 V.v4 S.count.length (Dk.is S.count) := h.row (by simp [Dk.mdl])
/-- Who waits for a mutex, or a semaphore, as the model has it. -/
theorem Gt.waitsM (h : Gt W w b S k (us ++ Dk.mdl bm V S)) (hn : n < S.wait.length) : ∃ g C A Ca, V.v2 = .slice (some ⟨g, 0, none⟩) S.wait.length C ∧ S.wait.length ≤ C ∧ C ≤ maxLen ∧ V.hv[n]? = some (.slice A (S.wl 1 n).length Ca) ∧ w.cell? ⟨g, n, none⟩ = some (.slice A (S.wl 1 n).length Ca) ∧ Dk.SlI w.heap.size w A (S.wl 1 n).length Ca (S.wl 1 n) := by
  obtain ⟨ts, hs⟩ := h.sep
  obtain ⟨g, C, u, xs, ev, q1, q2, hu, hx, hc, _, ho, _⟩ := hs.inner (eh := 22) (e := 3) (s := 1) (f := Dk.is) (v := V.v2) (vs := V.hv) (xss := S.wait) (by simp [Dk.mdl]) hn
  have e0 : S.wl 1 n = xs := Dk.getD_some hx []
  have hi := (Dk.wl_i64 h.ok 1 n).1
  rw [e0] at hi ⊢
  obtain ⟨A, Ca, ea, hsl⟩ := Dk.owns_ints ho hi
  rw [ea] at hu hc
  exact ⟨g, C, A, Ca, ev, q1, q2, hu, hc, hsl⟩
theorem Gt.waitsS (h : Gt W w b S k (us ++ Dk.mdl bm V S)) (hn : n < S.downs.length) : ∃ g C A Ca, V.v5 = .slice (some ⟨g, 0, none⟩) S.downs.length C ∧ S.downs.length ≤ C ∧ C ≤ maxLen ∧ V.dv[n]? = some (.slice A (S.wl 3 n).length Ca) ∧ w.cell? ⟨g, n, none⟩ = some (.slice A (S.wl 3 n).length Ca) ∧ Dk.SlI w.heap.size w A (S.wl 3 n).length Ca (S.wl 3 n) := by
  obtain ⟨ts, hs⟩ := h.sep
  obtain ⟨g, C, u, xs, ev, q1, q2, hu, hx, hc, _, ho, _⟩ := hs.inner (eh := 22) (e := 3) (s := 1) (f := Dk.is) (v := V.v5) (vs := V.dv) (xss := S.downs) (by simp [Dk.mdl]) hn
  have e0 : S.wl 3 n = xs := Dk.getD_some hx []
  have hi := (Dk.wl_i64 h.ok 3 n).1
  rw [e0] at hi ⊢
  obtain ⟨A, Ca, ea, hsl⟩ := Dk.owns_ints ho hi
  rw [ea] at hu hc
  exact ⟨g, C, A, Ca, ev, q1, q2, hu, hc, hsl⟩
theorem Gt.waitsC (h : Gt W w b S k (us ++ Dk.mdl bm V S)) (hn : n < S.conds.length) : ∃ g C A Ca, V.v3 = .slice (some ⟨g, 0, none⟩) S.conds.length C ∧ S.conds.length ≤ C ∧ C ≤ maxLen ∧ V.cv[n]? = some (.slice A (S.conds.getD n []).length Ca) ∧ w.cell? ⟨g, n, none⟩ = some (.slice A (S.conds.getD n []).length Ca) ∧ (S.conds.getD n []).length ≤ Ca ∧ Ca ≤ maxLen ∧ ∀ t p, (S.conds.getD n [])[t]? = some p → ∃ ga, A = some ⟨ga, 0, none⟩ ∧ w.cell? ⟨ga, t * 2, none⟩ = some (.int .i64 p.1) := by
  obtain ⟨ts, hs⟩ := h.sep
  obtain ⟨g, C, u, xs, ev, q1, q2, hu, hx, hc, _, ho, _⟩ := hs.inner (eh := 38) (e := 40) (s := 2) (f := Dk.pr2) (v := V.v3) (vs := V.cv) (xss := S.conds) (by simp [Dk.mdl]) hn
  have e0 : S.conds.getD n [] = xs := Dk.getD_some hx []
  rw [e0]
  obtain ⟨A, Ca, ea, hca, hcm⟩ := Dk.owns_slice ho
  rw [ea] at hu hc
  refine ⟨g, C, A, Ca, ev, q1, q2, hu, hc, hca, hcm, fun t p hp => ?_⟩
  have htl := Dk.some_lt hp
  rw [ea] at ho
  obtain ⟨_, ⟨q, h0⟩ | ⟨ga, cap, cur, eq0, _, _, _⟩⟩ := id ho
  · omega
  · injection eq0 with eA _ eC
    subst eA eC
    refine ⟨ga, rfl, ?_⟩
    have hg := (Dk.pr2_get xs t htl).1
    rw [Dk.getD_some hp] at hg
    have q := ho.cells (g := ga) rfl _ _ hg
    rw [Addr.add_lit, Nat.zero_add] at q
    exact q
theorem Gt.empty (h : Gt W w b S k us) (ew : w' = w.alloc (.cells #[] 3)) : Gt W w' b S k (Dk.rowOf 3 1 (.slice (some ⟨w.heap.size, 0, none⟩) 0 0) 0 (Dk.is []) :: us) := h.map fun ts s => s.empty ew
theorem Gt.append {v : Value} {m : Nat} {xs : List Value} (h : Gt W w b S k (Dk.rowOf 3 1 v m xs :: us)) (x : Int) (hl : m ≤ 10000) : ∃ v' w', (Builtin.append_ #[22, 22] 22 #[v, .slice (some ⟨w.heap.size, 0, none⟩) 1 1]).run Try.prog (w.alloc (.cells #[.int .i64 x] 3)) = .ok v' w' ∧ Gt W w' b S k (Dk.rowOf 3 1 v' (m + 1) (xs ++ [.int .i64 x]) :: us) := by
  obtain ⟨ts, hG, hs, ok⟩ := Hid.out h
  obtain ⟨v', w', hr, h', _⟩ := Dk.Sep.append (us1 := []) K22 hs (x := .int .i64 x) rfl hl
  exact ⟨v', w', hr, ts, hG, h', ok⟩
end
end Go.Proofs.Ytjkdaankjondjaa
