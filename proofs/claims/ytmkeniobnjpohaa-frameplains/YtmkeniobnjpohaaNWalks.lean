/- The walks of package num's functions. -/
import Derived.Test.YtmkeniobnjpohaaNLeaf
import Derived.Test.YtmkeniobnjpohaaConv
namespace Go.Proofs.Ytmkeniobnjpohaa
open Go.RowKit

theorem f64_order (a b : Nat) : FloatKind.f64.format.order a b = Ieee.double.order a b := rfl

set_option maxHeartbeats 400000 in
theorem Less_any (a b : Nat) (w : World) :
    Calls Try.prog 24 #[.int .u64 a, .int .u64 b] w fun e w' => e = .returned (.bool (Dk.lt a b)) ∧ w' = w := by
  go_enter Try.func24, Try.ntmps24
  go_wp2_with (go_at_call 37; refine (read_any _ _).mono ?_; rintro e w' ⟨rfl, rfl⟩)
  go_ret
  exact ⟨by rw [← Dk.order_lt]; rfl, rfl⟩

set_option maxHeartbeats 400000 in
theorem eitherNone_any (a b : Nat) (w : World) :
    Calls Try.prog 39 #[.int .u64 a, .int .u64 b] w fun e w' => e = .returned (.bool (Dk.nn a || Dk.nn b)) ∧ w' = w := by
  cases h : Dk.nn a
  all_goals
    go_enter Try.func39, Try.ntmps39
    go_wp2_with (first | (go_at_call 37; refine (read_any _ _).mono ?_; rintro e w' ⟨rfl, rfl⟩) | (go_at_call 41; refine (isNone_any _ _).mono ?_; rintro e w' ⟨rfl, rfl⟩))
    go_ret
    exact ⟨by simp, rfl⟩

set_option maxHeartbeats 400000 in
theorem before_any (a b : Nat) (w : World) :
    Calls Try.prog 40 #[.int .u64 a, .int .u64 b] w fun e w' => e = .returned (.bool (Dk.bef a b)) ∧ w' = w := by
  have ho : (FloatKind.f64.format.order a b == some Ordering.eq) = Dk.eq a b := Dk.order_eq a b
  unfold Dk.bef
  cases h : Dk.eq a b
  all_goals
    go_enter Try.func40, Try.ntmps40
    go_wp2_with (first | (go_at_call 37; refine (read_any _ _).mono ?_; rintro e w' ⟨rfl, rfl⟩) | (go_at_call 24; refine (Less_any _ _ _).mono ?_; rintro e w' ⟨rfl, rfl⟩))
    go_ret
    exact ⟨by simp, rfl⟩

set_option maxHeartbeats 400000 in
theorem Min_any (a b : Nat) (w : World) :
    Calls Try.prog 22 #[.int .u64 a, .int .u64 b] w fun e w' => e = .returned (.int .u64 (Dk.nMin a b)) ∧ w' = w := by
  unfold Dk.nMin
  cases h : (Dk.nn a || Dk.nn b) <;> cases h2 : Dk.bef a b
  all_goals
    go_enter Try.func22, Try.ntmps22
    go_wp2_with (first | (go_at_call 39; refine (eitherNone_any _ _ _).mono ?_; rintro e w' ⟨rfl, rfl⟩) | (go_at_call 40; refine (before_any _ _ _).mono ?_; rintro e w' ⟨rfl, rfl⟩))
    go_ret
    exact ⟨by simp, rfl⟩

set_option maxHeartbeats 400000 in
theorem Max_any (a b : Nat) (w : World) :
    Calls Try.prog 23 #[.int .u64 a, .int .u64 b] w fun e w' => e = .returned (.int .u64 (Dk.nMax a b)) ∧ w' = w := by
  unfold Dk.nMax
  cases h : (Dk.nn a || Dk.nn b) <;> cases h2 : Dk.bef a b
  all_goals
    go_enter Try.func23, Try.ntmps23
    go_wp2_with (first | (go_at_call 39; refine (eitherNone_any _ _ _).mono ?_; rintro e w' ⟨rfl, rfl⟩) | (go_at_call 40; refine (before_any _ _ _).mono ?_; rintro e w' ⟨rfl, rfl⟩))
    go_ret
    exact ⟨by simp, rfl⟩

theorem mask63 (a : Nat) (h : a < 18446744073709551616) : bits .andNot .u64 (a : Int) 9223372036854775808 = ((Dk.rg a : Nat) : Int) := by
  have := u64_andNot_nat a 9223372036854775808 h (by decide)
  rw [show ((9223372036854775808 : Nat) : Int) = 9223372036854775808 from rfl] at this
  rw [this]
  unfold Dk.rg
  congr 1
  exact Nat.and_two_pow_sub_one_eq_mod a 63

set_option maxHeartbeats 400000 in
theorem ToFloat_any (a : Nat) (w : World) (h : a < 18446744073709551616) :
    Calls Try.prog 26 #[.int .u64 a] w fun e w' => e = .returned (.int .u64 (Dk.tF a)) ∧ w' = w := by
  have hf : floatOfInt .f64 (wrap64 a) = Dk.tF a := by
    refine Dk.tF_nearest h (wrap64 a) ?_
    unfold wrap64
    split <;> omega
  have hn := (Dk.nn_tF h).1
  clear h
  go_enter Try.func26, Try.ntmps26
  go_wp2_with (go_at_call 38; refine (bits_num _ _ hn).mono ?_; rintro e w' ⟨rfl, rfl⟩)
  go_ret
  exact ⟨rfl, rfl⟩

set_option maxHeartbeats 400000 in
theorem ToInt_any (a : Nat) (w : World) :
    Calls Try.prog 25 #[.int .u64 a] w fun e w' => e = .returned (.int .u64 (Dk.tI a)) ∧ w' = w := by
  cases n : Dk.nn a
  · have g : (FloatKind.f64.format.order a 4890909195324358656 == some Ordering.gt || FloatKind.f64.format.order a 4890909195324358656 == some Ordering.eq) = decide (4890909195324358656 ≤ Dk.key a) := by
      rw [← Dk.far_ge n, ← Dk.order_gt, ← Dk.order_eq]; rfl
    have l : (FloatKind.f64.format.order a 14114281232179134464 == some Ordering.lt) = decide (Dk.key a < -4890909195324358656) := by
      rw [← Dk.near_lt n, ← Dk.order_lt]; rfl
    by_cases h1 : 4890909195324358656 ≤ Dk.key a
    · rw [Dk.tI_far n h1]
      rw [decide_eq_true h1] at g
      clear l h1
      go_enter Try.func25, Try.ntmps25
      go_wp2_with (first | (go_at_call 37; refine (read_any _ _).mono ?_; rintro e w' ⟨rfl, rfl⟩) | (go_at_call 41; refine (isNone_any _ _).mono ?_; rintro e w' ⟨rfl, rfl⟩))
      go_ret
      exact ⟨rfl, rfl⟩
    · rw [decide_eq_false h1] at g
      by_cases h2 : Dk.key a < -4890909195324358656
      · rw [Dk.tI_near n h2]
        rw [decide_eq_true h2] at l
        clear h1 h2
        go_enter Try.func25, Try.ntmps25
        go_wp2_with (first | (go_at_call 37; refine (read_any _ _).mono ?_; rintro e w' ⟨rfl, rfl⟩) | (go_at_call 41; refine (isNone_any _ _).mono ?_; rintro e w' ⟨rfl, rfl⟩))
        go_ret
        exact ⟨rfl, rfl⟩
      · rw [decide_eq_false h2] at l
        obtain ⟨v, hv, hw⟩ := Dk.toInt_val n h1 h2
        have hc := fun w => run_convert_float_int (P := Try.prog) w 59 2 .f64 .i64 a v (by kernel_rfl) (by kernel_rfl) hv
        have HW : Hid (v % 18446744073709551616 = (Dk.tI a : Int)) := hw
        clear h1 h2 hv hw
        go_enter Try.func25, Try.ntmps25
        go_wp2_with (first | (go_at_call 37; refine (read_any _ _).mono ?_; rintro e w' ⟨rfl, rfl⟩) | (go_at_call 41; refine (isNone_any _ _).mono ?_; rintro e w' ⟨rfl, rfl⟩))
        go_ret
        exact ⟨by rw [← HW.out, ← IntKind.wrap_u64]; rfl, rfl⟩
  · rw [Dk.tI_nan n]
    go_enter Try.func25, Try.ntmps25
    go_wp2_with (first | (go_at_call 37; refine (read_any _ _).mono ?_; rintro e w' ⟨rfl, rfl⟩) | (go_at_call 41; refine (isNone_any _ _).mono ?_; rintro e w' ⟨rfl, rfl⟩))
    go_ret
    exact ⟨rfl, rfl⟩

end Go.Proofs.Ytmkeniobnjpohaa
