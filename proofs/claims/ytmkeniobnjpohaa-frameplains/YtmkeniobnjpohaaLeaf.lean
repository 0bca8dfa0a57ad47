/- The walks of package inst's small functions. -/
import Derived.Test.YtmkeniobnjpohaaRows
import Derived.Test.YtmkeniobnjpohaaMem
import Derived.WalkKit
import Derived.WalkSpells
import Derived.WalkLawsBesides
import Derived.Deep.Draws
namespace Go.Proofs.Ytmkeniobnjpohaa
set_option linter.unusedSimpArgs false
set_option linter.unusedVariables false
set_option linter.unnecessarySimpa false
open Go.RowKit

set_option maxHeartbeats 400000 in
theorem within_any (n l m : Int) (w : World) :
    Calls Try.prog 50 #[.int .i64 n, .int .i64 l, .int .i64 m] w fun e w' => e = .returned (.bool (Dk.withinB n l m)) ∧ w' = w := by
  unfold Dk.withinB
  by_cases h : l ≤ n
  all_goals
    go_enter Try.func50, Try.ntmps50
    go_wp2
    go_ret
    exact ⟨by simp [h] <;> omega, rfl⟩

set_option maxHeartbeats 400000 in
theorem class_any (op : Int) (w : World) :
    Calls Try.prog 47 #[.int .i64 op] w fun e w' => e = .returned (.int .i64 (Dk.classOf op)) ∧ w' = w := by
  unfold Dk.classOf
  cases h1 : Dk.withinB op 1 19 <;> cases h2 : Dk.withinB op 20 32 <;> cases h3 : Dk.withinB op 33 38
  all_goals
    go_enter Try.func47, Try.ntmps47
    go_wp2_with (go_at_call 50; refine (within_any _ _ _ _).mono ?_; rintro e w' ⟨rfl, rfl⟩)
    go_ret
    exact ⟨rfl, rfl⟩

theorem ret_bool {a b : Bool} (h : a = b) : Ending.returned (.bool a) = .returned (.bool b) := by rw [h]
theorem ret_int {k : IntKind} {a b : Int} (h : a = b) : Ending.returned (.int k a) = .returned (.int k b) := by rw [h]
theorem conv_u64 (v : Int) : IntKind.u64.wrap v = Dk.u64 v := by rw [IntKind.wrap_u64]; rfl

theorem getD_byte (s : ByteArray) (k : Nat) (h : k < s.size) : s.data.toList.getD k 0 = s[k] := by
  rw [List.getD_eq_getElem?_getD, List.getElem?_eq_getElem (by simpa using h)]
  rfl
theorem inB_yes (s : ByteArray) (c : UInt8) (k : Nat) (h : k < s.size) (e : s[k] = c) : Dk.inB s.data.toList c = true := by
  unfold Dk.inB
  rw [List.contains_iff_mem, ← e]
  exact List.getElem_mem (l := s.data.toList) (by simpa using h)
theorem inB_no (s : ByteArray) (c : UInt8) (h : ∀ j, j < s.size → s.data.toList.getD j 0 ≠ c) : Dk.inB s.data.toList c = false := by
  unfold Dk.inB
  rw [← Bool.not_eq_true, List.contains_iff_mem]
  intro hm
  obtain ⟨i, hi, e⟩ := List.getElem_of_mem hm
  have hi' : i < s.size := by simpa using hi
  exact h i hi' (by rw [getD_byte s i hi']; exact e)
theorem byte_eq {a c : UInt8} (h : ((a.toNat : Int) == (c.toNat : Int)) = true) : a = c := by
  have := eq_of_beq h
  exact UInt8.toNat_inj.1 (by omega)
theorem byte_ne {a c : UInt8} (h : ((a.toNat : Int) == (c.toNat : Int)) = false) : a ≠ c := by
  intro e
  rw [e] at h
  simp at h

end Go.Proofs.Ytmkeniobnjpohaa
