/- The walk of the document's letters of an instruction. -/
import Derived.Test.YtmkeniobnjpohaaLeaf
namespace Go.Proofs.Ytmkeniobnjpohaa
set_option linter.unusedSimpArgs false
set_option linter.unusedVariables false
set_option linter.unnecessarySimpa false
open Go.RowKit

/-- The letters as a string. -/
def hasS (op : Int) : ByteArray := ⟨(Dk.has op).toArray⟩
def letters : Array Value := #[.string ⟨#[]⟩, .string ⟨#[65, 120]⟩, .string ⟨#[65, 66, 110]⟩, .string ⟨#[65, 66, 67, 110]⟩, .string ⟨#[65, 66, 67, 110]⟩, .string ⟨#[65, 66, 67, 110]⟩, .string ⟨#[65, 66, 67, 110]⟩, .string ⟨#[65, 66, 67, 110]⟩, .string ⟨#[65, 66, 67, 110]⟩, .string ⟨#[65, 66, 67, 110]⟩, .string ⟨#[65, 66, 67, 110]⟩, .string ⟨#[65, 66, 67, 110]⟩, .string ⟨#[65, 66, 67, 110]⟩, .string ⟨#[65, 66, 67, 110]⟩, .string ⟨#[65, 66, 110]⟩, .string ⟨#[65, 66, 110]⟩, .string ⟨#[99]⟩, .string ⟨#[65, 99]⟩, .string ⟨#[65, 66, 110]⟩, .string ⟨#[65, 66, 110]⟩, .string ⟨#[65, 66, 102]⟩, .string ⟨#[65, 66, 110]⟩, .string ⟨#[65, 110]⟩, .string ⟨#[65, 110]⟩, .string ⟨#[110]⟩, .string ⟨#[109]⟩, .string ⟨#[109]⟩, .string ⟨#[77, 107]⟩, .string ⟨#[107]⟩, .string ⟨#[107]⟩, .string ⟨#[115]⟩, .string ⟨#[115]⟩, .string ⟨#[65, 110]⟩, .string ⟨#[65, 66, 110]⟩, .string ⟨#[65, 66, 110]⟩, .string ⟨#[65, 112]⟩, .string ⟨#[65, 112]⟩, .string ⟨#[65, 110]⟩, .string ⟨#[65, 110]⟩]
theorem letters_at : ∀ k : Nat, k < 39 → letters[k]? = some (.string (hasS (k : Nat)))
  | 0, _ => rfl
  | 1, _ => rfl
  | 2, _ => rfl
  | 3, _ => rfl
  | 4, _ => rfl
  | 5, _ => rfl
  | 6, _ => rfl
  | 7, _ => rfl
  | 8, _ => rfl
  | 9, _ => rfl
  | 10, _ => rfl
  | 11, _ => rfl
  | 12, _ => rfl
  | 13, _ => rfl
  | 14, _ => rfl
  | 15, _ => rfl
  | 16, _ => rfl
  | 17, _ => rfl
  | 18, _ => rfl
  | 19, _ => rfl
  | 20, _ => rfl
  | 21, _ => rfl
  | 22, _ => rfl
  | 23, _ => rfl
  | 24, _ => rfl
  | 25, _ => rfl
  | 26, _ => rfl
  | 27, _ => rfl
  | 28, _ => rfl
  | 29, _ => rfl
  | 30, _ => rfl
  | 31, _ => rfl
  | 32, _ => rfl
  | 33, _ => rfl
  | 34, _ => rfl
  | 35, _ => rfl
  | 36, _ => rfl
  | 37, _ => rfl
  | 38, _ => rfl
  | n + 39, h => absurd h (by omega)
theorem hasS_out {op : Int} (h : op < 0 ∨ 39 ≤ op) : hasS op = ⟨#[]⟩ := by unfold hasS; rw [Dk.has_out h]

set_option maxHeartbeats 1000000 in
theorem Has_out (op : Int) (w : World) (h : op < 0 ∨ 39 ≤ op) :
    Calls Try.prog 13 #[.int .i64 op] w fun e w' => e = .returned (.string (hasS op)) ∧ Below w.heap.size w w' := by
  rw [hasS_out h]
  rcases h with h | h
  · go_enter Try.func13, Try.ntmps13
    go_wp2
    go_ret
    exact ⟨rfl, Dk.up_alloc (Below.refl _ _) _⟩
  · have h' : ¬ op < 0 := by omega
    go_enter Try.func13, Try.ntmps13
    go_wp2
    go_ret
    exact ⟨rfl, Dk.up_alloc (Below.refl _ _) _⟩

set_option maxHeartbeats 1000000 in
theorem Has_in (k : Nat) (w : World) (h : k < 39) :
    Calls Try.prog 13 #[.int .i64 (k : Nat)] w fun e w' => e = .returned (.string (hasS (k : Nat))) ∧ Below w.heap.size w w' := by
  have hc : (w.alloc (.cells letters 9)).cell? ⟨w.heap.size, k, none⟩ = some (.string (hasS (k : Nat))) := by
    rw [Dk.box_cell (Below.refl _ _), letters_at k h]
  unfold letters at hc
  go_enter Try.func13, Try.ntmps13
  go_wp2
  go_ret
  exact ⟨rfl, Dk.up_alloc (Below.refl _ _) _⟩

theorem Has_any (op : Int) (w : World) :
    Calls Try.prog 13 #[.int .i64 op] w fun e w' => e = .returned (.string (hasS op)) ∧ Below w.heap.size w w' := by
  by_cases h : op < 0 ∨ 39 ≤ op
  · exact Has_out op w h
  · obtain ⟨k, rfl⟩ := Int.eq_ofNat_of_zero_le (show 0 ≤ op by omega)
    exact Has_in k w (by omega)

end Go.Proofs.Ytmkeniobnjpohaa
