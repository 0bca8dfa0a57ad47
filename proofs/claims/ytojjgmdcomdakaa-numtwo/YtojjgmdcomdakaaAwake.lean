/- The walk of the fixed fact that each statement of layer 1 asks first. -/
import Derived.Test.YtojjgmdcomdakaaWalks
namespace Go.Proofs.Ytojjgmdcomdakaa
open Go.RowKit

theorem c_tF1 (w : World) : Calls Try.prog 24 #[.int .u64 1] w fun e w' => e = .returned (.int .u64 4607182418800017408) ∧ w' = w := by
  have h := ToFloat_any 1 w (by decide)
  rw [show Dk.tF 1 = 4607182418800017408 by decide +kernel] at h
  exact h
theorem c_tF2 (w : World) : Calls Try.prog 24 #[.int .u64 2] w fun e w' => e = .returned (.int .u64 4611686018427387904) ∧ w' = w := by
  have h := ToFloat_any 2 w (by decide)
  rw [show Dk.tF 2 = 4611686018427387904 by decide +kernel] at h
  exact h
theorem c_tF0 (w : World) : Calls Try.prog 24 #[.int .u64 0] w fun e w' => e = .returned (.int .u64 0) ∧ w' = w := by
  have h := ToFloat_any 0 w (by decide)
  rw [show Dk.tF 0 = 0 by decide +kernel] at h
  exact h
theorem c_add (w : World) : Calls Try.prog 11 #[.int .u64 4607182418800017408, .int .u64 4607182418800017408] w fun e w' => e = .returned (.int .u64 4611686018427387904) ∧ ∃ n, w' = w.drewN n := by
  have h := Add_any 4607182418800017408 4607182418800017408 w
  rw [show Dk.nAdd 4607182418800017408 4607182418800017408 = 4611686018427387904 by decide +kernel] at h
  exact h
theorem c_div (w : World) : Calls Try.prog 15 #[.int .u64 4607182418800017408, .int .u64 0] w fun e w' => e = .returned (.int .u64 9218868437227405312) ∧ ∃ n, w' = w.drewN n := by
  have h := Div_any 4607182418800017408 0 w
  rw [show Dk.nDiv 4607182418800017408 0 = 9218868437227405312 by decide +kernel] at h
  exact h
theorem c_sub (w : World) : Calls Try.prog 13 #[.int .u64 9218868437227405312, .int .u64 9218868437227405312] w fun e w' => e = .returned (.int .u64 9221120237041090560) ∧ ∃ n, w' = w.drewN n := by
  have h := Sub_any 9218868437227405312 9218868437227405312 w
  rw [show Dk.nSub 9218868437227405312 9218868437227405312 = 9221120237041090560 by decide +kernel] at h
  exact h
theorem c_kind (w : World) : Calls Try.prog 26 #[.int .u64 9221120237041090560] w fun e w' => e = .returned (.int .i64 3) ∧ w' = w := by
  have h := Kind_any 9221120237041090560 w (by decide)
  rw [show Dk.kd 9221120237041090560 = 3 by decide +kernel] at h
  exact h
theorem c_min (w : World) : Calls Try.prog 16 #[.int .u64 0, .int .u64 9223372036854775808] w fun e w' => e = .returned (.int .u64 9223372036854775808) ∧ w' = w := by
  have h := Min_any 0 9223372036854775808 w
  rw [show Dk.nMin 0 9223372036854775808 = 9223372036854775808 by decide +kernel] at h
  exact h
theorem c_mul (w : World) : Calls Try.prog 14 #[.int .u64 4611686018427387904, .int .u64 4611686018427387904] w fun e w' => e = .returned (.int .u64 4616189618054758400) ∧ ∃ n, w' = w.drewN n := by
  have h := Mul_any 4611686018427387904 4611686018427387904 w
  rw [show Dk.nMul 4611686018427387904 4611686018427387904 = 4616189618054758400 by decide +kernel] at h
  exact h
theorem c_toInt (w : World) : Calls Try.prog 22 #[.int .u64 4616189618054758400] w fun e w' => e = .returned (.int .u64 4) ∧ w' = w := by
  have h := ToInt_any 4616189618054758400 w
  rw [show Dk.tI 4616189618054758400 = 4 by decide +kernel] at h
  exact h
theorem c_less (w : World) : Calls Try.prog 20 #[.int .u64 4607182418800017408, .int .u64 4611686018427387904] w fun e w' => e = .returned (.bool true) ∧ w' = w := by
  have h := Less_any 4607182418800017408 4611686018427387904 w
  rw [show Dk.lt 4607182418800017408 4611686018427387904 = true by decide +kernel] at h
  exact h
theorem c_max (w : World) : Calls Try.prog 18 #[.int .u64 4607182418800017408, .int .u64 4611686018427387904] w fun e w' => e = .returned (.int .u64 4611686018427387904) ∧ w' = w := by
  have h := Max_any 4607182418800017408 4611686018427387904 w
  rw [show Dk.nMax 4607182418800017408 4611686018427387904 = 4611686018427387904 by decide +kernel] at h
  exact h

set_option maxRecDepth 100000 in
set_option maxHeartbeats 1000000 in
theorem awake_any (w : World) : Calls Try.prog 10 #[] w fun e w' => e = .returned (.bool true) ∧ ∃ n, w' = w.drewN n := by
  go_enter Try.func10, Try.ntmps10
  go_wp2_with fail
  refine (c_tF1 _).mono ?_
  rintro e w1 ⟨rfl, rfl⟩
  go_wp2_with fail
  refine (c_tF2 _).mono ?_
  rintro e w2 ⟨rfl, rfl⟩
  go_wp2_with fail
  refine (c_add _).mono ?_
  rintro e w3 ⟨rfl, n3, rfl⟩
  go_wp2_with fail
  refine (c_tF0 _).mono ?_
  rintro e w4 ⟨rfl, rfl⟩
  go_wp2_with fail
  refine (c_div _).mono ?_
  rintro e w5 ⟨rfl, n5, rfl⟩
  go_wp2_with fail
  refine (c_div _).mono ?_
  rintro e w6 ⟨rfl, n6, rfl⟩
  go_wp2_with fail
  refine (c_div _).mono ?_
  rintro e w7 ⟨rfl, n7, rfl⟩
  go_wp2_with fail
  refine (c_sub _).mono ?_
  rintro e w8 ⟨rfl, n8, rfl⟩
  go_wp2_with fail
  refine (c_kind _).mono ?_
  rintro e w9 ⟨rfl, rfl⟩
  go_wp2_with fail
  refine (c_min _).mono ?_
  rintro e w10 ⟨rfl, rfl⟩
  go_wp2_with fail
  refine (c_mul _).mono ?_
  rintro e w11 ⟨rfl, n11, rfl⟩
  go_wp2_with fail
  refine (c_toInt _).mono ?_
  rintro e w12 ⟨rfl, rfl⟩
  go_wp2_with fail
  refine (c_less _).mono ?_
  rintro e w13 ⟨rfl, rfl⟩
  go_wp2_with fail
  refine (c_max _).mono ?_
  rintro e w14 ⟨rfl, rfl⟩
  go_wp2_with fail
  go_ret
  exact ⟨rfl, _, rfl⟩

end Go.Proofs.Ytojjgmdcomdakaa
