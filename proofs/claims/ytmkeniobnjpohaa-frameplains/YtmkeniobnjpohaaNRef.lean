/- The walks of the document's own answers for words with a point. -/
import Derived.Test.YtmkeniobnjpohaaNWalks
namespace Go.Proofs.Ytmkeniobnjpohaa
open Go.RowKit

theorem pow_field (a : Nat) (h : a < 18446744073709551616) : bits .and .u64 ((a : Int) / 4503599627370496) 2047 = ((Dk.rg a / 4503599627370496 : Nat) : Int) := by
  have := u64_and_nat (a / 4503599627370496) 2047 (by omega) (by decide)
  rw [show (((a / 4503599627370496 : Nat)) : Int) = (a : Int) / 4503599627370496 from rfl, show ((2047 : Nat) : Int) = 2047 from rfl] at this
  rw [this]
  unfold Dk.rg
  congr 1
  have e := Nat.and_two_pow_sub_one_eq_mod (a / 4503599627370496) 11
  rw [show 2 ^ 11 - 1 = 2047 by decide, show 2 ^ 11 = 2048 by decide] at e
  rw [e]; omega
theorem whole_field (a : Nat) (h : a < 18446744073709551616) : bits .or .u64 (bits .and .u64 (a : Int) 4503599627370495) 4503599627370496 = ((4503599627370496 + Dk.rg a % 4503599627370496 : Nat) : Int) := by
  have e1 := u64_and_nat a 4503599627370495 h (by decide)
  rw [show ((4503599627370495 : Nat) : Int) = 4503599627370495 from rfl] at e1
  have e2 := Nat.and_two_pow_sub_one_eq_mod a 52
  rw [show 2 ^ 52 - 1 = 4503599627370495 by decide, show 2 ^ 52 = 4503599627370496 by decide] at e2
  rw [e1, e2]
  have e3 := u64_or_nat (a % 4503599627370496) 4503599627370496 (by omega) (by decide)
  rw [show ((4503599627370496 : Nat) : Int) = 4503599627370496 from rfl] at e3
  rw [e3, Nat.or_comm, nat_join 52 4503599627370496 _ (by decide) (by omega)]
  unfold Dk.rg; congr 1; omega

theorem nret_int {k : IntKind} {a b : Int} (h : a = b) : Ending.returned (.int k a) = .returned (.int k b) := by rw [h]

theorem low63 (a : Nat) (h : a < 18446744073709551616) : bits .and .u64 (a : Int) 9223372036854775807 = ((Dk.rg a : Nat) : Int) := by
  have := u64_and_nat a 9223372036854775807 h (by decide)
  rw [show ((9223372036854775807 : Nat) : Int) = 9223372036854775807 from rfl] at this
  rw [this]
  unfold Dk.rg
  congr 1
  exact Nat.and_two_pow_sub_one_eq_mod a 63

set_option maxHeartbeats 400000 in
theorem rKind_any (a : Nat) (w : World) (h : a < 18446744073709551616) :
    Calls Try.prog 45 #[.int .u64 a] w fun e w' => e = .returned (.int .i64 (Dk.kd a)) ∧ w' = w := by
  have hm := low63 a h
  clear h
  unfold Dk.kd
  by_cases h0 : Dk.rg a = 0
  · rw [if_pos h0]
    have t0 : ((Dk.rg a : Int) == 0) = true := by rw [beq_iff_eq]; omega
    clear h0
    go_enter Try.func45, Try.ntmps45
    go_wp2
    go_ret
    exact ⟨rfl, rfl⟩
  · rw [if_neg h0]
    have t0 : ((Dk.rg a : Int) == 0) = false := by rw [beq_eq_false_iff_ne]; omega
    by_cases h1 : Dk.rg a = 9218868437227405312
    · rw [if_pos h1]
      have t1 : ((Dk.rg a : Int) == 9218868437227405312) = true := by rw [beq_iff_eq]; omega
      clear h0 h1
      go_enter Try.func45, Try.ntmps45
      go_wp2
      go_ret
      exact ⟨rfl, rfl⟩
    · rw [if_neg h1]
      have t1 : ((Dk.rg a : Int) == 9218868437227405312) = false := by rw [beq_eq_false_iff_ne]; omega
      clear h0 h1
      by_cases h2 : 9218868437227405312 < Dk.rg a
      · rw [if_pos h2]
        have t2 : (9218868437227405312 : Int) < Dk.rg a := by omega
        clear h2
        go_enter Try.func45, Try.ntmps45
        go_wp2
        go_ret
        exact ⟨rfl, rfl⟩
      · rw [if_neg h2]
        have t2 : ¬ (9218868437227405312 : Int) < Dk.rg a := by omega
        clear h2
        go_enter Try.func45, Try.ntmps45
        go_wp2
        go_ret
        exact ⟨rfl, rfl⟩

set_option maxHeartbeats 400000 in
theorem clean_num (a : Nat) (w : World) (h : a < 18446744073709551616) (n : Dk.nn a = false) :
    Calls Try.prog 43 #[.int .u64 a] w fun e w' => e = .returned (.int .u64 a) ∧ w' = w := by
  have k : (Dk.kd a == 3) = false := by rw [Dk.kd_three, n]
  go_enter Try.func43, Try.ntmps43
  go_wp2_with (go_at_call 45; refine (rKind_any _ _ h).mono ?_; rintro e w' ⟨rfl, rfl⟩)
  go_ret
  exact ⟨rfl, rfl⟩
set_option maxHeartbeats 400000 in
theorem clean_nan (a : Nat) (w : World) (h : a < 18446744073709551616) (n : Dk.nn a = true) :
    Calls Try.prog 43 #[.int .u64 a] w fun e w' => e = .returned (.int .u64 9221120237041090560) ∧ w' = w := by
  have k : (Dk.kd a == 3) = true := by rw [Dk.kd_three, n]
  go_enter Try.func43, Try.ntmps43
  go_wp2_with (go_at_call 45; refine (rKind_any _ _ h).mono ?_; rintro e w' ⟨rfl, rfl⟩)
  go_ret
  exact ⟨rfl, rfl⟩

set_option maxHeartbeats 400000 in
theorem rank_any (a : Nat) (w : World) (h : a < 18446744073709551616) :
    Calls Try.prog 46 #[.int .u64 a] w fun e w' => e = .returned (.int .i64 (Dk.rk a)) ∧ w' = w := by
  have hm := low63 a h
  rcases Dk.split_word h with ⟨s, r, l⟩ | ⟨s, r, l⟩
  · have t0 : ((a : Int) / 9223372036854775808 == 1) = false := by rw [beq_eq_false_iff_ne]; omega
    have e : Dk.rk a = a := by unfold Dk.rk; rw [s, r]; rfl
    have E : Hid (wrap64 a = Dk.rk a) := by show wrap64 a = Dk.rk a; rw [e]; unfold wrap64; omega
    clear h hm s r l e
    go_enter Try.func46, Try.ntmps46
    go_wp2
    go_ret
    exact ⟨nret_int E.out, rfl⟩
  · have t0 : ((a : Int) / 9223372036854775808 == 1) = true := by rw [beq_iff_eq]; omega
    have e : Dk.rk a = -(Dk.rg a : Int) - 1 := by unfold Dk.rk; rw [s]; rfl
    have E : Hid (wrap64 (wrap64 (-wrap64 (Dk.rg a)) - 1) = Dk.rk a) := by show wrap64 (wrap64 (-wrap64 (Dk.rg a)) - 1) = Dk.rk a; rw [e, r]; unfold wrap64; omega
    clear h s r l e
    go_enter Try.func46, Try.ntmps46
    go_wp2
    go_ret
    exact ⟨nret_int E.out, rfl⟩

set_option maxHeartbeats 400000 in
theorem Two1_any (a b : Nat) (w : World) :
    Calls Try.prog 27 #[.int .i64 1, .int .u64 a, .int .u64 b] w fun e w' => e = .returned (.int .u64 (Dk.nAdd a b)) ∧ ∃ n, w' = w.drewN n := by
  have hc := call32
  have hd := call30
  cases h : Ieee.double.add a b with
  | some r =>
    have hrun := fun w => run_float_arith (P := Try.prog) w .add 58 .f64 a b r h
    have hn : Dk.nn r = false := Dk.nn_add h
    have hl : r < 18446744073709551616 := Ieee.Format.add_lt Ieee.double h
    have e : Dk.nAdd a b = r := by unfold Dk.nAdd Dk.out; rw [h]; rfl
    rw [e]
    clear e h
    go_enter Try.func27, Try.ntmps27
    go_wp2_with (go_at_call 43; refine (clean_num _ _ hl hn).mono ?_; rintro e w' ⟨rfl, rfl⟩)
    go_ret
    exact ⟨rfl, 0, rfl⟩
  | none =>
    obtain ⟨r, hr, hl, hrun⟩ := run_nan .add 58 a b w (by simp) h
    have e : Dk.nAdd a b = 9221120237041090560 := by unfold Dk.nAdd Dk.out; rw [h]; rfl
    rw [e]
    clear e h
    go_enter Try.func27, Try.ntmps27
    go_wp2_with (go_at_call 43; refine (clean_nan _ _ hl hr).mono ?_; rintro e w' ⟨rfl, rfl⟩)
    go_ret
    exact ⟨rfl, 1, rfl⟩

set_option maxHeartbeats 400000 in
theorem Two2_any (a b : Nat) (w : World) :
    Calls Try.prog 27 #[.int .i64 2, .int .u64 a, .int .u64 b] w fun e w' => e = .returned (.int .u64 (Dk.nSub a b)) ∧ ∃ n, w' = w.drewN n := by
  have hc := call32
  have hd := call30
  cases h : Ieee.double.sub a b with
  | some r =>
    have hrun := fun w => run_float_arith (P := Try.prog) w .sub 58 .f64 a b r h
    have hn : Dk.nn r = false := Dk.nn_sub h
    have hl : r < 18446744073709551616 := Ieee.Format.sub_lt Ieee.double h
    have e : Dk.nSub a b = r := by unfold Dk.nSub Dk.out; rw [h]; rfl
    rw [e]
    clear e h
    go_enter Try.func27, Try.ntmps27
    go_wp2_with (go_at_call 43; refine (clean_num _ _ hl hn).mono ?_; rintro e w' ⟨rfl, rfl⟩)
    go_ret
    exact ⟨rfl, 0, rfl⟩
  | none =>
    obtain ⟨r, hr, hl, hrun⟩ := run_nan .sub 58 a b w (by simp) h
    have e : Dk.nSub a b = 9221120237041090560 := by unfold Dk.nSub Dk.out; rw [h]; rfl
    rw [e]
    clear e h
    go_enter Try.func27, Try.ntmps27
    go_wp2_with (go_at_call 43; refine (clean_nan _ _ hl hr).mono ?_; rintro e w' ⟨rfl, rfl⟩)
    go_ret
    exact ⟨rfl, 1, rfl⟩

set_option maxHeartbeats 400000 in
theorem Two3_any (a b : Nat) (w : World) :
    Calls Try.prog 27 #[.int .i64 3, .int .u64 a, .int .u64 b] w fun e w' => e = .returned (.int .u64 (Dk.nMul a b)) ∧ ∃ n, w' = w.drewN n := by
  have hc := call32
  have hd := call30
  cases h : Ieee.double.mul a b with
  | some r =>
    have hrun := fun w => run_float_arith (P := Try.prog) w .mul 58 .f64 a b r h
    have hn : Dk.nn r = false := Dk.nn_mul h
    have hl : r < 18446744073709551616 := Ieee.Format.mul_lt Ieee.double h
    have e : Dk.nMul a b = r := by unfold Dk.nMul Dk.out; rw [h]; rfl
    rw [e]
    clear e h
    go_enter Try.func27, Try.ntmps27
    go_wp2_with (go_at_call 43; refine (clean_num _ _ hl hn).mono ?_; rintro e w' ⟨rfl, rfl⟩)
    go_ret
    exact ⟨rfl, 0, rfl⟩
  | none =>
    obtain ⟨r, hr, hl, hrun⟩ := run_nan .mul 58 a b w (by simp) h
    have e : Dk.nMul a b = 9221120237041090560 := by unfold Dk.nMul Dk.out; rw [h]; rfl
    rw [e]
    clear e h
    go_enter Try.func27, Try.ntmps27
    go_wp2_with (go_at_call 43; refine (clean_nan _ _ hl hr).mono ?_; rintro e w' ⟨rfl, rfl⟩)
    go_ret
    exact ⟨rfl, 1, rfl⟩

set_option maxHeartbeats 400000 in
theorem Two4_any (a b : Nat) (w : World) :
    Calls Try.prog 27 #[.int .i64 4, .int .u64 a, .int .u64 b] w fun e w' => e = .returned (.int .u64 (Dk.nDiv a b)) ∧ ∃ n, w' = w.drewN n := by
  have hc := call32
  have hd := call30
  cases h : Ieee.double.div a b with
  | some r =>
    have hrun := fun w => run_float_arith (P := Try.prog) w .quo 58 .f64 a b r h
    have hn : Dk.nn r = false := Dk.nn_div h
    have hl : r < 18446744073709551616 := Ieee.Format.div_lt Ieee.double h
    have e : Dk.nDiv a b = r := by unfold Dk.nDiv Dk.out; rw [h]; rfl
    rw [e]
    clear e h
    go_enter Try.func27, Try.ntmps27
    go_wp2_with (go_at_call 43; refine (clean_num _ _ hl hn).mono ?_; rintro e w' ⟨rfl, rfl⟩)
    go_ret
    exact ⟨rfl, 0, rfl⟩
  | none =>
    obtain ⟨r, hr, hl, hrun⟩ := run_nan .quo 58 a b w (by simp) h
    have e : Dk.nDiv a b = 9221120237041090560 := by unfold Dk.nDiv Dk.out; rw [h]; rfl
    rw [e]
    clear e h
    go_enter Try.func27, Try.ntmps27
    go_wp2_with (go_at_call 43; refine (clean_nan _ _ hl hr).mono ?_; rintro e w' ⟨rfl, rfl⟩)
    go_ret
    exact ⟨rfl, 1, rfl⟩

set_option maxHeartbeats 400000 in
theorem rMin_any (a b : Nat) (w : World) (ha : a < 18446744073709551616) (hb : b < 18446744073709551616) :
    Calls Try.prog 28 #[.int .u64 a, .int .u64 b] w fun e w' => e = .returned (.int .u64 (Dk.nMin a b)) ∧ w' = w := by
  have ka := Dk.kd_three a
  have kb := Dk.kd_three b
  cases na : Dk.nn a
  · cases nb : Dk.nn b
    · rw [Dk.nMin_rk ha hb na nb]
      rw [na] at ka; rw [nb] at kb
      clear na nb
      by_cases h : Dk.rk a < Dk.rk b
      · rw [if_pos h]
        go_enter Try.func28, Try.ntmps28
        go_wp2_with (first | (go_at_call 45; refine (rKind_any _ _ (by assumption)).mono ?_; rintro e w' ⟨rfl, rfl⟩) | (go_at_call 46; refine (rank_any _ _ (by assumption)).mono ?_; rintro e w' ⟨rfl, rfl⟩))
        go_ret
        exact ⟨rfl, rfl⟩
      · rw [if_neg h]
        go_enter Try.func28, Try.ntmps28
        go_wp2_with (first | (go_at_call 45; refine (rKind_any _ _ (by assumption)).mono ?_; rintro e w' ⟨rfl, rfl⟩) | (go_at_call 46; refine (rank_any _ _ (by assumption)).mono ?_; rintro e w' ⟨rfl, rfl⟩))
        go_ret
        exact ⟨rfl, rfl⟩
    · rw [na] at ka; rw [nb] at kb
      have e : Dk.nMin a b = 9221120237041090560 := by unfold Dk.nMin; rw [nb, Bool.or_true]; rfl
      rw [e]; clear e na nb
      go_enter Try.func28, Try.ntmps28
      go_wp2_with (first | (go_at_call 45; refine (rKind_any _ _ (by assumption)).mono ?_; rintro e w' ⟨rfl, rfl⟩))
      go_ret
      exact ⟨rfl, rfl⟩
  · rw [na] at ka
    have e : Dk.nMin a b = 9221120237041090560 := by unfold Dk.nMin; rw [na, Bool.true_or]; rfl
    rw [e]; clear e na kb
    go_enter Try.func28, Try.ntmps28
    go_wp2_with (first | (go_at_call 45; refine (rKind_any _ _ (by assumption)).mono ?_; rintro e w' ⟨rfl, rfl⟩))
    go_ret
    exact ⟨rfl, rfl⟩

set_option maxHeartbeats 400000 in
theorem rMax_any (a b : Nat) (w : World) (ha : a < 18446744073709551616) (hb : b < 18446744073709551616) :
    Calls Try.prog 29 #[.int .u64 a, .int .u64 b] w fun e w' => e = .returned (.int .u64 (Dk.nMax a b)) ∧ w' = w := by
  have ka := Dk.kd_three a
  have kb := Dk.kd_three b
  cases na : Dk.nn a
  · cases nb : Dk.nn b
    · rw [Dk.nMax_rk ha hb na nb]
      rw [na] at ka; rw [nb] at kb
      clear na nb
      by_cases h : Dk.rk b < Dk.rk a
      · rw [if_pos h]
        go_enter Try.func29, Try.ntmps29
        go_wp2_with (first | (go_at_call 45; refine (rKind_any _ _ (by assumption)).mono ?_; rintro e w' ⟨rfl, rfl⟩) | (go_at_call 46; refine (rank_any _ _ (by assumption)).mono ?_; rintro e w' ⟨rfl, rfl⟩))
        go_ret
        exact ⟨rfl, rfl⟩
      · rw [if_neg h]
        go_enter Try.func29, Try.ntmps29
        go_wp2_with (first | (go_at_call 45; refine (rKind_any _ _ (by assumption)).mono ?_; rintro e w' ⟨rfl, rfl⟩) | (go_at_call 46; refine (rank_any _ _ (by assumption)).mono ?_; rintro e w' ⟨rfl, rfl⟩))
        go_ret
        exact ⟨rfl, rfl⟩
    · rw [na] at ka; rw [nb] at kb
      have e : Dk.nMax a b = 9221120237041090560 := by unfold Dk.nMax; rw [nb, Bool.or_true]; rfl
      rw [e]; clear e na nb
      go_enter Try.func29, Try.ntmps29
      go_wp2_with (first | (go_at_call 45; refine (rKind_any _ _ (by assumption)).mono ?_; rintro e w' ⟨rfl, rfl⟩))
      go_ret
      exact ⟨rfl, rfl⟩
  · rw [na] at ka
    have e : Dk.nMax a b = 9221120237041090560 := by unfold Dk.nMax; rw [na, Bool.true_or]; rfl
    rw [e]; clear e na kb
    go_enter Try.func29, Try.ntmps29
    go_wp2_with (first | (go_at_call 45; refine (rKind_any _ _ (by assumption)).mono ?_; rintro e w' ⟨rfl, rfl⟩))
    go_ret
    exact ⟨rfl, rfl⟩

set_option maxHeartbeats 400000 in
theorem rLess_any (a b : Nat) (w : World) (ha : a < 18446744073709551616) (hb : b < 18446744073709551616) :
    Calls Try.prog 30 #[.int .u64 a, .int .u64 b] w fun e w' => e = .returned (.bool (Dk.lt a b)) ∧ w' = w := by
  have ka := Dk.kd_three a
  have kb := Dk.kd_three b
  have za := Dk.kd_one a
  have zb := Dk.kd_one b
  cases na : Dk.nn a
  · cases nb : Dk.nn b
    · rw [Dk.lt_rk ha hb na nb]
      rw [na] at ka; rw [nb] at kb
      clear na nb
      cases h1 : decide (Dk.rg a = 0) <;> cases h2 : decide (Dk.rg b = 0) <;> rw [h1] at za <;> rw [h2] at zb <;> clear h1 h2
      all_goals
        go_enter Try.func30, Try.ntmps30
        go_wp2_with (first | (go_at_call 45; refine (rKind_any _ _ (by assumption)).mono ?_; rintro e w' ⟨rfl, rfl⟩) | (go_at_call 46; refine (rank_any _ _ (by assumption)).mono ?_; rintro e w' ⟨rfl, rfl⟩))
        go_ret
        exact ⟨by simp, rfl⟩
    · rw [na] at ka; rw [nb] at kb
      have e : Dk.lt a b = false := by unfold Dk.lt; rw [nb, Bool.not_true, Bool.and_false]; rfl
      rw [e]; clear e na nb za zb
      go_enter Try.func30, Try.ntmps30
      go_wp2_with (go_at_call 45; refine (rKind_any _ _ (by assumption)).mono ?_; rintro e w' ⟨rfl, rfl⟩)
      go_ret
      exact ⟨rfl, rfl⟩
  · rw [na] at ka
    have e : Dk.lt a b = false := by unfold Dk.lt; rw [na, Bool.not_true, Bool.false_and]; rfl
    rw [e]; clear e na kb za zb
    go_enter Try.func30, Try.ntmps30
    go_wp2_with (go_at_call 45; refine (rKind_any _ _ (by assumption)).mono ?_; rintro e w' ⟨rfl, rfl⟩)
    go_ret
    exact ⟨rfl, rfl⟩

set_option maxRecDepth 100000 in
set_option maxHeartbeats 400000 in
theorem rToInt_any (a : Nat) (w : World) (ha : a < 18446744073709551616) :
    Calls Try.prog 31 #[.int .u64 a] w fun e w' => e = .returned (.int .u64 (Dk.tI a)) ∧ w' = w := by
  have ka := Dk.kd_three a
  have za := Dk.kd_one a
  cases na : Dk.nn a
  · rw [na] at ka
    by_cases h0 : Dk.rg a = 0
    · rw [decide_eq_true h0] at za
      rw [Dk.tI_small na (by omega)]
      clear na h0
      go_enter Try.func31, Try.ntmps31
      go_wp2_with (go_at_call 45; refine (rKind_any _ _ (by assumption)).mono ?_; rintro e w' ⟨rfl, rfl⟩)
      go_ret
      exact ⟨rfl, rfl⟩
    · rw [decide_eq_false h0] at za
      obtain ⟨P, hP⟩ : ∃ P : Nat, P = Dk.rg a / 4503599627370496 := ⟨_, rfl⟩
      obtain ⟨W, hW⟩ : ∃ W : Nat, W = 4503599627370496 + Dk.rg a % 4503599627370496 := ⟨_, rfl⟩
      have p := pow_field a ha
      have v := whole_field a ha
      rw [← hP] at p
      rw [← hW] at v
      have s : ((a : Int) / 9223372036854775808 == 1) = Dk.sg a := by
        rcases Dk.split_word ha with ⟨s, _, _⟩ | ⟨s, _, _⟩ <;> rw [s]
        · rw [beq_eq_false_iff_ne]; omega
        · rw [beq_iff_eq]; omega
      have hP0 : (0 : Int) ≤ P := by omega
      have hP1 : (P : Int) ≤ 2047 := by unfold Dk.rg at hP; omega
      have hW0 : (0 : Int) ≤ W := by omega
      have hW1 : (W : Int) ≤ 9007199254740991 := by omega
      have HH : Hid (Dk.nn a = false ∧ ¬ Dk.rg a = 0 ∧ P = Dk.rg a / 4503599627370496 ∧ W = 4503599627370496 + Dk.rg a % 4503599627370496) := ⟨na, h0, hP, hW⟩
      clear na h0 hP hW
      by_cases c1 : (P : Int) < 1023
      · go_enter Try.func31, Try.ntmps31
        go_wp2_with (go_at_call 45; refine (rKind_any _ _ (by assumption)).mono ?_; rintro e w' ⟨rfl, rfl⟩)
        go_ret
        exact ⟨nret_int (by rw [Dk.tI_small HH.out.1 (by have := HH.out; omega)]; rfl), rfl⟩
      · cases hs : Dk.sg a <;> rw [hs] at s
        · by_cases c2 : (1086 : Int) ≤ P
          · go_enter Try.func31, Try.ntmps31
            go_wp2_with (go_at_call 45; refine (rKind_any _ _ (by assumption)).mono ?_; rintro e w' ⟨rfl, rfl⟩)
            go_ret
            refine ⟨nret_int ?_, rfl⟩
            rw [Dk.tI_far HH.out.1 (by have := HH.out; unfold Dk.key; rw [hs]; simp only [Bool.false_eq_true, if_false]; omega)]; rfl
          · by_cases c3 : (1075 : Int) < P
            · have T : Hid ((W : Int) * 2 ^ (P - 1023 - 52) = (Dk.tr (Dk.rg a) : Int) ∧ Dk.tr (Dk.rg a) < 9223372036854775808 ∧ Dk.tI a = Dk.tr (Dk.rg a)) := by
                have H := HH.out
                refine ⟨?_, Dk.tr_big (by omega), ?_⟩
                · rw [← Dk.tr_left H.2.2.1 H.2.2.2 (by omega)]; simp only [Int.natCast_mul, Int.natCast_pow]; rfl
                · rw [Dk.tI_mid H.1 (by omega) (by omega), hs]; rfl
              go_enter Try.func31, Try.ntmps31
              go_wp2_with (go_at_call 45; refine (rKind_any _ _ (by assumption)).mono ?_; rintro e w' ⟨rfl, rfl⟩)
              go_ret
              exact ⟨nret_int (by rw [T.out.1, T.out.2.2, IntKind.wrap_u64]; have := T.out.2.1; omega), rfl⟩
            · have T : Hid ((W : Int) / 2 ^ (52 - (P - 1023)) = (Dk.tr (Dk.rg a) : Int) ∧ Dk.tr (Dk.rg a) < 9223372036854775808 ∧ Dk.tI a = Dk.tr (Dk.rg a)) := by
                have H := HH.out
                refine ⟨?_, Dk.tr_big (by omega), ?_⟩
                · rw [← Dk.tr_right H.2.2.1 H.2.2.2 (by omega) (by omega)]; simp only [Int.natCast_ediv, Int.natCast_pow]; rfl
                · rw [Dk.tI_mid H.1 (by omega) (by omega), hs]; rfl
              go_enter Try.func31, Try.ntmps31
              go_wp2_with (go_at_call 45; refine (rKind_any _ _ (by assumption)).mono ?_; rintro e w' ⟨rfl, rfl⟩)
              go_ret
              exact ⟨nret_int (by rw [T.out.1, T.out.2.2]), rfl⟩
        · by_cases c2 : (1086 : Int) ≤ P
          · go_enter Try.func31, Try.ntmps31
            go_wp2_with (go_at_call 45; refine (rKind_any _ _ (by assumption)).mono ?_; rintro e w' ⟨rfl, rfl⟩)
            go_ret
            refine ⟨nret_int ?_, rfl⟩
            rw [Dk.tI_top HH.out.1 hs (by have := HH.out; omega)]; rfl
          · by_cases c3 : (1075 : Int) < P
            · have T : Hid ((W : Int) * 2 ^ (P - 1023 - 52) = (Dk.tr (Dk.rg a) : Int) ∧ Dk.tr (Dk.rg a) < 9223372036854775808 ∧ Dk.tI a = (18446744073709551616 - Dk.tr (Dk.rg a)) % 18446744073709551616) := by
                have H := HH.out
                refine ⟨?_, Dk.tr_big (by omega), ?_⟩
                · rw [← Dk.tr_left H.2.2.1 H.2.2.2 (by omega)]; simp only [Int.natCast_mul, Int.natCast_pow]; rfl
                · rw [Dk.tI_mid H.1 (by omega) (by omega), hs]; rfl
              go_enter Try.func31, Try.ntmps31
              go_wp2_with (go_at_call 45; refine (rKind_any _ _ (by assumption)).mono ?_; rintro e w' ⟨rfl, rfl⟩)
              go_ret
              exact ⟨nret_int (by rw [T.out.1, T.out.2.2, IntKind.wrap_u64, IntKind.wrap_u64]; have := T.out.2.1; omega), rfl⟩
            · have T : Hid ((W : Int) / 2 ^ (52 - (P - 1023)) = (Dk.tr (Dk.rg a) : Int) ∧ Dk.tr (Dk.rg a) < 9223372036854775808 ∧ Dk.tI a = (18446744073709551616 - Dk.tr (Dk.rg a)) % 18446744073709551616) := by
                have H := HH.out
                refine ⟨?_, Dk.tr_big (by omega), ?_⟩
                · rw [← Dk.tr_right H.2.2.1 H.2.2.2 (by omega) (by omega)]; simp only [Int.natCast_ediv, Int.natCast_pow]; rfl
                · rw [Dk.tI_mid H.1 (by omega) (by omega), hs]; rfl
              go_enter Try.func31, Try.ntmps31
              go_wp2_with (go_at_call 45; refine (rKind_any _ _ (by assumption)).mono ?_; rintro e w' ⟨rfl, rfl⟩)
              go_ret
              exact ⟨nret_int (by rw [T.out.1, T.out.2.2, IntKind.wrap_u64]; have := T.out.2.1; omega), rfl⟩
  · rw [na] at ka
    rw [Dk.tI_nan na]
    clear na za
    go_enter Try.func31, Try.ntmps31
    go_wp2_with (go_at_call 45; refine (rKind_any _ _ (by assumption)).mono ?_; rintro e w' ⟨rfl, rfl⟩)
    go_ret
    exact ⟨rfl, rfl⟩

end Go.Proofs.Ytmkeniobnjpohaa
