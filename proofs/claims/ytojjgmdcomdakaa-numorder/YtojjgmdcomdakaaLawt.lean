/- The walks of the other statements of layer 1. -/
import Derived.Test.YtojjgmdcomdakaaAwake
namespace Go.Proofs.Ytojjgmdcomdakaa
open Go.RowKit

theorem flip_bits (b : Nat) (h : b < 18446744073709551616) : bits .xor .u64 (b : Int) 9223372036854775808 = ((Dk.flip b : Nat) : Int) := by
  have e := u64_xor_nat b 9223372036854775808 h (by decide)
  rw [show ((9223372036854775808 : Nat) : Int) = 9223372036854775808 from rfl] at e
  rw [e]
  congr 1
  unfold Dk.flip
  rcases Dk.split_word h with ⟨s, r, l⟩ | ⟨s, r, l⟩ <;> rw [s]
  · simp only [Bool.false_eq_true, if_false]
    rw [Nat.xor_comm, Nat.add_comm]
    have : (9223372036854775808 : Nat) ^^^ b = 9223372036854775808 ||| b := by
      apply Nat.eq_of_testBit_eq
      intro i
      rw [Nat.testBit_xor, Nat.testBit_or]
      by_cases hi : i = 63
      · subst hi
        have : b.testBit 63 = false := Nat.testBit_lt_two_pow (by exact l)
        rw [this]; rfl
      · have : (9223372036854775808 : Nat).testBit i = false := by
          rw [show (9223372036854775808 : Nat) = 2 ^ 63 by decide, Nat.testBit_two_pow]; simp; omega
        rw [this]; simp
    rw [this, nat_join 63 _ _ (by decide) (by omega)]
  · simp only [if_true]
    obtain ⟨c, hc⟩ : ∃ c, b = 9223372036854775808 + c := ⟨b - 9223372036854775808, by omega⟩
    have hc2 : c < 9223372036854775808 := by omega
    have e2 : b = 9223372036854775808 ||| c := by rw [hc, nat_join 63 _ _ (by decide) (by omega)]
    rw [show b - 9223372036854775808 = c by omega, e2]
    apply Nat.eq_of_testBit_eq
    intro i
    rw [Nat.testBit_xor, Nat.testBit_or]
    by_cases hi : i = 63
    · subst hi
      have : c.testBit 63 = false := Nat.testBit_lt_two_pow (by exact hc2)
      rw [this]; rfl
    · have : (9223372036854775808 : Nat).testBit i = false := by
        rw [show (9223372036854775808 : Nat) = 2 ^ 63 by decide, Nat.testBit_two_pow]; simp; omega
      rw [this]; simp

set_option maxRecDepth 100000 in
set_option maxHeartbeats 1000000 in
theorem numTurned_w (a b : Nat) (w : World) (ha : a < 18446744073709551616) (hb : b < 18446744073709551616) :
    Calls Try.prog 6 #[.int .u64 a, .int .u64 b] w fun e w' => e = .returned (.bool true) ∧ ∃ n, w' = w.drewN n := by
  have f1 : ((Dk.nAdd a b : Int) != (Dk.nAdd b a : Int)) = false := by rw [Dk.nAdd_comm]; simp
  have f2 : ((Dk.nMul a b : Int) != (Dk.nMul b a : Int)) = false := by rw [Dk.nMul_comm]; simp
  have f3 : ((Dk.nMin a b : Int) != (Dk.nMin b a : Int)) = false := by rw [Dk.nMin_comm ha hb]; simp
  have f4 : ((Dk.nMax a b : Int) != (Dk.nMax b a : Int)) = false := by rw [Dk.nMax_comm ha hb]; simp
  have f5 := flip_bits b hb
  have f6 : ((Dk.nSub a b : Int) == (Dk.nAdd a (Dk.flip b) : Int)) = true := by rw [Dk.nSub_eq a hb]; simp
  clear ha hb
  go_enter Try.func6, Try.ntmps6
  go_wp2_with fail
  refine (Add_any _ _ _).mono ?_
  rintro e w' ⟨rfl, n0, rfl⟩
  go_wp2_with fail
  refine (Add_any _ _ _).mono ?_
  rintro e w' ⟨rfl, n1, rfl⟩
  go_wp2_with fail
  refine (Mul_any _ _ _).mono ?_
  rintro e w' ⟨rfl, n2, rfl⟩
  go_wp2_with fail
  refine (Mul_any _ _ _).mono ?_
  rintro e w' ⟨rfl, n3, rfl⟩
  go_wp2_with fail
  refine (Min_any _ _ _).mono ?_
  rintro e w' ⟨rfl, rfl⟩
  go_wp2_with fail
  refine (Min_any _ _ _).mono ?_
  rintro e w' ⟨rfl, rfl⟩
  go_wp2_with fail
  refine (Max_any _ _ _).mono ?_
  rintro e w' ⟨rfl, rfl⟩
  go_wp2_with fail
  refine (Max_any _ _ _).mono ?_
  rintro e w' ⟨rfl, rfl⟩
  go_wp2_with fail
  refine (awake_any _).mono ?_
  rintro e w' ⟨rfl, n4, rfl⟩
  go_wp2_with fail
  refine (Sub_any _ _ _).mono ?_
  rintro e w' ⟨rfl, n5, rfl⟩
  go_wp2_with fail
  refine (Add_any _ _ _).mono ?_
  rintro e w' ⟨rfl, n6, rfl⟩
  go_wp2_with fail
  go_ret
  exact ⟨rfl, _, rfl⟩

theorem m_one (a : Nat) (w : World) : Calls Try.prog 14 #[.int .u64 a, .int .u64 4607182418800017408] w fun e w' => e = .returned (.int .u64 (Dk.nMul a 4607182418800017408)) ∧ ∃ n, w' = w.drewN n := Mul_any a 4607182418800017408 w
theorem m_mone (a : Nat) (w : World) : Calls Try.prog 14 #[.int .u64 a, .int .u64 13830554455654793216] w fun e w' => e = .returned (.int .u64 (Dk.nMul a 13830554455654793216)) ∧ ∃ n, w' = w.drewN n := Mul_any a 13830554455654793216 w
theorem d_one (a : Nat) (w : World) : Calls Try.prog 15 #[.int .u64 a, .int .u64 4607182418800017408] w fun e w' => e = .returned (.int .u64 (Dk.nDiv a 4607182418800017408)) ∧ ∃ n, w' = w.drewN n := Div_any a 4607182418800017408 w
theorem s_zero (a : Nat) (w : World) : Calls Try.prog 13 #[.int .u64 a, .int .u64 0] w fun e w' => e = .returned (.int .u64 (Dk.nSub a 0)) ∧ ∃ n, w' = w.drewN n := Sub_any a 0 w

set_option maxRecDepth 100000 in
set_option maxHeartbeats 1000000 in
theorem numSigns_none (a : Nat) (w : World) (ha : a < 18446744073709551616) (na : Dk.nn a = true) :
    Calls Try.prog 8 #[.int .u64 a] w fun e w' => e = .returned (.bool true) ∧ ∃ n, w' = w.drewN n := by
  have k3 : (Dk.kd a == 3) = true := by rw [Dk.kd_three, na]
  have x : bits .xor .u64 4607182418800017408 9223372036854775808 = 13830554455654793216 := by kernel_rfl
  have g1 : Dk.nMul a 4607182418800017408 = 9221120237041090560 := by rw [Dk.nMul_comm]; exact Dk.nMul_none na
  have g2 : Dk.nMul a 13830554455654793216 = 9221120237041090560 := by rw [Dk.nMul_comm]; exact Dk.nMul_none na
  clear na
  go_enter Try.func8, Try.ntmps8
  go_wp2_with fail
  refine (c_tF1 _).mono ?_
  rintro e w' ⟨rfl, rfl⟩
  go_wp2_with fail
  refine (Kind_any _ _ ha).mono ?_
  rintro e w' ⟨rfl, rfl⟩
  go_wp2_with fail
  refine (awake_any _).mono ?_
  rintro e w' ⟨rfl, n0, rfl⟩
  go_wp2_with fail
  refine (m_mone _ _).mono ?_
  rintro e w' ⟨rfl, n1, rfl⟩
  go_wp2_with fail
  refine (m_one _ _).mono ?_
  rintro e w' ⟨rfl, n2, rfl⟩
  go_wp2_with fail
  refine (m_one _ _).mono ?_
  rintro e w' ⟨rfl, n3, rfl⟩
  go_wp2_with fail
  refine (c_kind _).mono ?_
  rintro e w' ⟨rfl, rfl⟩
  go_wp2_with fail
  go_ret
  exact ⟨rfl, _, rfl⟩

set_option maxRecDepth 100000 in
set_option maxHeartbeats 1000000 in
theorem numSigns_some (a : Nat) (w : World) (ha : a < 18446744073709551616) (na : Dk.nn a = false) :
    Calls Try.prog 8 #[.int .u64 a] w fun e w' => e = .returned (.bool true) ∧ ∃ n, w' = w.drewN n := by
  have k3 : (Dk.kd a == 3) = false := by rw [Dk.kd_three, na]
  have x : bits .xor .u64 4607182418800017408 9223372036854775808 = 13830554455654793216 := by kernel_rfl
  have g1 : Dk.nMul a 4607182418800017408 = a := Dk.nMul_one ha na
  have g2 : Dk.nMul a 13830554455654793216 = Dk.flip a := Dk.nMul_mone ha na
  have g3 : Dk.nDiv a 4607182418800017408 = a := Dk.nDiv_one ha na
  have g4 : Dk.nSub a 0 = a := Dk.nSub_zero ha na
  have f5 := flip_bits a ha
  clear na
  go_enter Try.func8, Try.ntmps8
  go_wp2_with fail
  refine (c_tF1 _).mono ?_
  rintro e w' ⟨rfl, rfl⟩
  go_wp2_with fail
  refine (Kind_any _ _ ha).mono ?_
  rintro e w' ⟨rfl, rfl⟩
  go_wp2_with fail
  refine (awake_any _).mono ?_
  rintro e w' ⟨rfl, n0, rfl⟩
  go_wp2_with fail
  refine (m_mone _ _).mono ?_
  rintro e w' ⟨rfl, n1, rfl⟩
  go_wp2_with fail
  refine (m_one _ _).mono ?_
  rintro e w' ⟨rfl, n2, rfl⟩
  go_wp2_with fail
  refine (d_one _ _).mono ?_
  rintro e w' ⟨rfl, n3, rfl⟩
  go_wp2_with fail
  refine (s_zero _ _).mono ?_
  rintro e w' ⟨rfl, n4, rfl⟩
  go_wp2_with fail
  go_ret
  exact ⟨rfl, _, rfl⟩

end Go.Proofs.Ytojjgmdcomdakaa
