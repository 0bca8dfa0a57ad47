/- The walks of package inst's small functions. -/
import Derived.Test.YtmapmhcmeokahaaRows
import Derived.Test.YtmapmhcmeokahaaMem
import Derived.WalkKit
import Derived.WalkSpells
import Derived.WalkLawsBesides
import Derived.Deep.Draws
namespace Go.Proofs.Ytmapmhcmeokahaa
set_option linter.unusedSimpArgs false
set_option linter.unusedVariables false
set_option linter.unnecessarySimpa false
open Go.RowKit

set_option maxHeartbeats 400000 in
theorem within_any (n l m : Int) (w : World) :
    Calls Try.prog 23 #[.int .i64 n, .int .i64 l, .int .i64 m] w fun e w' => e = .returned (.bool (Dk.withinB n l m)) ∧ w' = w := by
  unfold Dk.withinB
  by_cases h : l ≤ n
  all_goals
    go_enter Try.func23, Try.ntmps23
    go_wp2
    go_ret
    exact ⟨by simp [h] <;> omega, rfl⟩

set_option maxHeartbeats 400000 in
theorem field_any (n m : Int) (is : Bool) (w : World) :
    Calls Try.prog 18 #[.int .i64 n, .bool is, .int .i64 m] w fun e w' => e = .returned (.bool (Dk.fieldB n is m)) ∧ w' = w := by
  unfold Dk.fieldB
  cases is
  · go_enter Try.func18, Try.ntmps18
    go_wp2
    go_ret
    exact ⟨rfl, rfl⟩
  · by_cases h : 0 ≤ n
    all_goals
      go_enter Try.func18, Try.ntmps18
      go_wp2
      go_ret
      exact ⟨by simp [h] <;> omega, rfl⟩

set_option maxHeartbeats 400000 in
theorem class_any (op : Int) (w : World) :
    Calls Try.prog 13 #[.int .i64 op] w fun e w' => e = .returned (.int .i64 (Dk.classOf op)) ∧ w' = w := by
  unfold Dk.classOf
  cases h1 : Dk.withinB op 1 19 <;> cases h2 : Dk.withinB op 20 32 <;> cases h3 : Dk.withinB op 33 38
  all_goals
    go_enter Try.func13, Try.ntmps13
    go_wp2_with (go_at_call 23; refine (within_any _ _ _ _).mono ?_; rintro e w' ⟨rfl, rfl⟩)
    go_ret
    exact ⟨rfl, rfl⟩

set_option maxHeartbeats 400000 in
theorem seen_any (op : Int) (w : World) :
    Calls Try.prog 14 #[.int .i64 op] w fun e w' => e = .returned (.bool (Dk.seenB op)) ∧ w' = w := by
  go_enter Try.func14, Try.ntmps14
  go_wp2_with (go_at_call 23; refine (within_any _ _ _ _).mono ?_; rintro e w' ⟨rfl, rfl⟩)
  go_ret
  exact ⟨rfl, rfl⟩

set_option maxHeartbeats 1000000 in
theorem choices_any (s : Dk.Sh) (p : Dk.Prg) (x : Int) (w : World) (h1 : p.funcs.length = s.fL) (h2 : p.sems.length = s.sL) (h3 : p.pipes.length = s.pL) :
    Calls Try.prog 24 #[.int .i64 x, Dk.pv s p] w fun e w' => e = .returned (.int .i64 (Dk.choices p x)) ∧ Below w.heap.size w w' := by
  obtain ⟨fA, fL, fC, sA, sL, sC, pA, pL, pC⟩ := s
  simp only at h1 h2 h3
  have H1 : Hid (p.funcs.length = fL) := h1
  have H2 : Hid (p.sems.length = sL) := h2
  have H3 : Hid (p.pipes.length = pL) := h3
  clear h1 h2 h3
  go_enter Try.func24, Try.ntmps24
  go_wp2
  all_goals
    go_ret
    refine ⟨?_, (Below.refl _ _).alloc (Nat.le_refl _) _⟩
    unfold Dk.choices
    simp_all [H1.out, H2.out, H3.out]

theorem ret_bool {a b : Bool} (h : a = b) : Ending.returned (.bool a) = .returned (.bool b) := by rw [h]
theorem ret_int {k : IntKind} {a b : Int} (h : a = b) : Ending.returned (.int k a) = .returned (.int k b) := by rw [h]
theorem conv_u64 (v : Int) : IntKind.u64.wrap v = Dk.u64 v := by rw [IntKind.wrap_u64]; rfl

set_option maxHeartbeats 1000000 in
theorem may_any (s : Dk.Sh) (p : Dk.Prg) (x v : Int) (w : World) (h1 : p.funcs.length = s.fL) (h2 : p.sems.length = s.sL) (h3 : p.pipes.length = s.pL) (hc : Dk.i64 (Dk.choices p x)) :
    Calls Try.prog 16 #[.int .i64 x, Dk.pv s p, .int .u64 v] w fun e w' => e = .returned (.bool (Dk.mayB p x v)) ∧ Below w.heap.size w w' := by
  have H1 : Hid (p.funcs.length = s.fL) := h1
  have H2 : Hid (p.sems.length = s.sL) := h2
  have H3 : Hid (p.pipes.length = s.pL) := h3
  clear h1 h2 h3
  cases hx : (x == 2)
  · go_enter Try.func16, Try.ntmps16
    go_wp2_with fail
    refine (choices_any s p x _ H1.out H2.out H3.out).mono ?_
    rintro e w' ⟨rfl, hb⟩
    go_wp2_with fail
    all_goals
      go_ret
      refine ⟨ret_bool ?_, ((Below.refl _ _).alloc (Nat.le_refl _) _).trans (hb.mono (by simp))⟩
      unfold Dk.mayB
      rw [hx, IntKind.wrap_u64]
      unfold Dk.i64 at hc
      rw [Bool.eq_iff_iff]
      simp
      omega
  · go_enter Try.func16, Try.ntmps16
    go_wp2
    go_ret
    exact ⟨by unfold Dk.mayB; rw [hx]; rfl, (Below.refl _ _).alloc (Nat.le_refl _) _⟩

theorem getD_byte (s : ByteArray) (k : Nat) (h : k < s.size) : s.data.toList.getD k 0 = s[k] := by
  rw [List.getD_eq_getElem?_getD, List.getElem?_eq_getElem (by simpa using h)]
  rfl
theorem inB_yes (s : ByteArray) (c : UInt8) (k : Nat) (h : k < s.size) (e : s[k] = c) : Dk.inB s.data.toList c = true := by
  unfold Dk.inB
  rw [List.contains_iff_mem, ← e]
  exact List.getElem_mem (l := s.data.toList) (by simpa using h)
theorem inB_no (s : ByteArray) (c : UInt8) (h : ∀ j, j < s.size → s.data.toList.getD j 0 ≠ c) : Dk.inB s.data.toList c = false := by
  unfold Dk.inB
  rw [← Bool.not_eq_true, List.contains_iff_mem]
  intro hm
  obtain ⟨i, hi, e⟩ := List.getElem_of_mem hm
  have hi' : i < s.size := by simpa using hi
  exact h i hi' (by rw [getD_byte s i hi']; exact e)
theorem byte_eq {a c : UInt8} (h : ((a.toNat : Int) == (c.toNat : Int)) = true) : a = c := by
  have := eq_of_beq h
  exact UInt8.toNat_inj.1 (by omega)
theorem byte_ne {a c : UInt8} (h : ((a.toNat : Int) == (c.toNat : Int)) = false) : a ≠ c := by
  intro e
  rw [e] at h
  simp at h

set_option maxHeartbeats 400000 in
theorem in_any (s : ByteArray) (c : UInt8) (w : World) (hs : s.size ≤ maxLen) :
    Calls Try.prog 19 #[.string s, .int .u8 (c.toNat : Nat)] w fun e w' => e = .returned (.bool (Dk.inB s.data.toList c)) ∧ w' = w := by
  unfold maxLen at hs
  go_enter Try.func19, Try.ntmps19
  go_wp2
  go_loop [5] (fun i => ∃ k : Nat, k ≤ s.size ∧ i = .int .i64 k ∧ ∀ j, j < k → s.data.toList.getD j 0 ≠ c) (fun i => s.size - (intOf i).toNat)
  case atStart => exact ⟨0, Nat.zero_le _, rfl, fun j hj => absurd hj (Nat.not_lt_zero _)⟩
  case round =>
    obtain ⟨k, hk, rfl, hall⟩ := hrel
    have HA : Hid (∀ j, j < k → s.data.toList.getD j 0 ≠ c) := hall
    clear hall
    by_cases hlt : k < s.size
    · go_wp2
      · go_ret
        exact ⟨ret_bool (inB_yes s c k hlt (byte_eq ‹_›)).symm, rfl⟩
      · have hne := byte_ne ‹((s[k].toNat : Int) == (c.toNat : Int)) = false›
        go_round
        case rel =>
          refine ⟨k + 1, by omega, by go_num, fun j hj => ?_⟩
          by_cases e : j = k
          · subst e; rw [getD_byte s j hlt]; exact hne
          · exact HA.out j (by omega)
        case measure => simp [intOf]; omega
    · go_wp2
      go_ret
      exact ⟨ret_bool (inB_no s c (fun j hj => HA.out j (by omega))).symm, rfl⟩

end Go.Proofs.Ytmapmhcmeokahaa
