/- What 'append' does with rows that are owned. -/
import Derived.Test.YtogddcbggenjmaaChecked
import Derived.Test.YtogddcbggenjmaaDe
import Derived.KernelRfl
namespace Go.Proofs.Ytogddcbggenjmaa
set_option linter.unusedSimpArgs false
set_option linter.unusedVariables false
set_option linter.unnecessarySimpa false
open Go.RowKit

set_option maxRecDepth 100000 in
theorem info3 : (Try.prog.info? 3).map (fun i => (i.zero, i.size, i.bytes)) = some (some (.int .i64 0), 1, 8) := by kernel_rfl

set_option maxRecDepth 100000 in
/-- What 'append' leaves, and where. -/
theorem append_from (B : Nat) (ty : TypeId) (v : Value) (xs : List Value) (n : Nat) (w : World) (hown : w.ownsRow B 3 1 v n xs) (a : Addr) (m c : Nat) (news : List Value) (hl : news.length = m) (hnews : ∀ j u, news[j]? = some u → w.cell? (a.add j) = some u) (h1 : ∀ u ∈ news, u.oneCell' = true)
    (h : n + m ≤ 100000) (hB : B ≤ w.heap.size) :
    ∃ v' w', (Builtin.append_ #[23, 23] ty #[v, .slice (some a) m c]).run Try.prog w = .ok v' w' ∧ w'.ownsRow B 3 1 v' (n + m) (xs ++ news) ∧ w.grownBy w' v.ownBlock ∧ Dk.From w v v' ∧ (v' = .slice none 0 0 ↔ v = .slice none 0 0 ∧ m = 0) := by
  obtain ⟨i0, hi0, hz0, hz1, hz2⟩ := info_parts info3
  have hl1 : news.length = m * i0.size := by rw [hz1, Nat.mul_one]; exact hl
  obtain ⟨v', w', hr, ho, hg, hi⟩ := run_append_own (P := Try.prog) w B 23 ty 3 i0 (.int .i64 0) 1 8 Try.underlying23 hi0 hz0 hz1 hz2 rfl (by decide) v n xs hown a m c news (by rw [Nat.mul_one]; exact hl) hnews h1 (by unfold maxLen; omega) (by omega) hB
  refine ⟨v', w', hr, ho, hg, ?_, hi⟩
  obtain ⟨hxl, ⟨rfl, rfl⟩ | ⟨g, cap, cur, rfl, hb, hgg, hn, hm, hs, ht⟩⟩ := id hown
  · by_cases hm : m = 0
    · rw [hi.2 ⟨rfl, hm⟩]
      exact Dk.From.refl _ _
    · have hr2 := run_append_nil (P := Try.prog) w 23 ty 3 i0 (.int .i64 0) Try.underlying23 hi0 hz0 a m c news hl1 hnews (by omega) (by omega) (by rw [hz2]; omega)
      rw [hr] at hr2
      injection hr2 with e1 e2
      subst e1
      exact fun k hk => .inr (by simp [Value.ownBlock] at hk; omega)
  · by_cases hroom : n + m ≤ cap
    · have hr2 := run_append_room (P := Try.prog) w 23 ty 3 i0 Try.underlying23 hi0 g n cap cur hgg a m c news hl1 hnews h1 hroom (by rw [hz1, hl, hs]; omega)
      rw [hr] at hr2
      injection hr2 with e1 e2
      subst e1
      exact Dk.From.same _ rfl
    · have holds : ∀ j u, xs[j]? = some u → w.cell? ((⟨g, 0, none⟩ : Addr).add j) = some u := hown.cells (g := g) rfl
      have hr2 := run_append_grow (P := Try.prog) w 23 ty 3 i0 (.int .i64 0) Try.underlying23 hi0 hz0 ⟨g, 0, none⟩ n cap xs (by rw [hz1]; exact hxl) holds a m c news hl1 hnews (by omega) (by omega) (growslice_fits (by omega) (by rw [hz2]; omega))
      rw [hr] at hr2
      injection hr2 with e1 e2
      subst e1
      exact fun k hk => .inr (by simp [Value.ownBlock] at hk; omega)
set_option maxRecDepth 100000 in
/-- One cell in a new block. -/
theorem one_new (w w' : World) (v : Value) (t : TypeId) (e : w' = w.alloc (.cells #[v] t)) : ∀ (j : Nat) (u : Value), [v][j]? = some u → w'.cell? ((⟨w.heap.size, 0, none⟩ : Addr).add j) = some u := by
  intro j u hj
  match j, hj with
  | 0, hj =>
    simp at hj
    subst hj
    subst e
    have := (Dk.Box.new w #[v] t).cell 0
    simpa [Addr.add] using this

end Go.Proofs.Ytogddcbggenjmaa
