/- A signal leaves all as it should be. -/
import Derived.Test.YtjkdaankjondjaaGs
namespace Dk
set_option linter.unusedSimpArgs false
set_option linter.unusedVariables false
set_option linter.unnecessarySimpa false
open Go Go.RowKit
theorem told_mem {S : St} {c : Nat} (hc : c < S.conds.length) (ch : Int) (all : Bool) : ∀ p ∈ S.told c ch all, p ∈ S.conds.getD c [] := by
  unfold St.told
  intro p hp
  simp only at hp
  split at hp
  · exact hp
  · split at hp
    · simp at hp
    · rename_i h
      rw [List.mem_singleton] at hp
      rw [hp]
      exact getD_mem _ _ _ (at_lt ch (by omega))
theorem signal_i64 {S : St} {k : Nat} (ok : Ok S k) (c : Nat) (hc : c < S.conds.length) (ch : Int) (all : Bool) : ∀ x ∈ (S.signal c ch all).2, i64 x :=
  goes_i64 _ _ (fun p hp => (ok.conds _ (getD_mem S.conds [] c hc) p (told_mem hc ch all p hp)).1)
theorem Ok.signal {S : St} {k : Nat} (ok : Ok S k) (c : Nat) (hc : c < S.conds.length) (ch : Int) (all : Bool) : Ok (S.signal c ch all).1 k := by
  have hm := getD_mem S.conds [] c hc
  have hl := ok.condLen hm
  have hp := ok.conds _ hm
  have hto := told_mem hc ch all
  have hlen : (S.kept c ch all).length + (S.told c ch all).length ≤ (S.conds.getD c []).length ∧ ∀ p ∈ S.kept c ch all, p ∈ S.conds.getD c [] := by
    unfold St.kept St.told
    dsimp only
    split
    · exact ⟨by simp, fun p hp => by simp at hp⟩
    · split
      · exact ⟨by simp, fun p hp => by simp at hp⟩
      · rename_i h
        refine ⟨?_, fun p hp => List.mem_of_mem_eraseIdx hp⟩
        rw [List.length_eraseIdx, if_pos (at_lt ch (by omega)), List.length_singleton]
        omega
  have h1 := ok.setConds (k' := k - (S.told c ch all).length) c hc (S.kept c ch all) (fun p h => hp p (hlen.2 p h)) (by omega)
  have h2 := Ok.goes (S.told c ch all) h1 (fun p h => hp p (hto p h))
  exact h2.1.mono (by omega)
end Dk
