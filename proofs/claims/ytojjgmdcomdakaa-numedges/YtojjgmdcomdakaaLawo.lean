/- The walks of the statements on edges and on order. -/
import Derived.Test.YtojjgmdcomdakaaLawt
namespace Go.Proofs.Ytojjgmdcomdakaa
open Go.RowKit

theorem e_add (a : Nat) (w : World) : Calls Try.prog 11 #[.int .u64 a, .int .u64 9221120237041090560] w fun e w' => e = .returned (.int .u64 9221120237041090560) ∧ ∃ n, w' = w.drewN n := by
  have h := Add_any a 9221120237041090560 w
  rw [Dk.nAdd_none (show Dk.nn 9221120237041090560 = true by decide)] at h
  exact h
theorem e_mul (a : Nat) (w : World) : Calls Try.prog 14 #[.int .u64 9221120237041090560, .int .u64 a] w fun e w' => e = .returned (.int .u64 9221120237041090560) ∧ ∃ n, w' = w.drewN n := by
  have h := Mul_any 9221120237041090560 a w
  rw [Dk.nMul_comm, Dk.nMul_none (show Dk.nn 9221120237041090560 = true by decide)] at h
  exact h
theorem e_min (a : Nat) (w : World) : Calls Try.prog 16 #[.int .u64 a, .int .u64 9221120237041090560] w fun e w' => e = .returned (.int .u64 9221120237041090560) ∧ w' = w := by
  have h := Min_any a 9221120237041090560 w
  rw [Dk.nMin_none (show Dk.nn 9221120237041090560 = true by decide)] at h
  exact h
theorem e_less1 (a : Nat) (w : World) : Calls Try.prog 20 #[.int .u64 a, .int .u64 9221120237041090560] w fun e w' => e = .returned (.bool false) ∧ w' = w := by
  have h := Less_any a 9221120237041090560 w
  rw [Dk.lt_none (.inr (show Dk.nn 9221120237041090560 = true by decide))] at h
  exact h
theorem e_less2 (a : Nat) (w : World) : Calls Try.prog 20 #[.int .u64 9221120237041090560, .int .u64 a] w fun e w' => e = .returned (.bool false) ∧ w' = w := by
  have h := Less_any 9221120237041090560 a w
  rw [Dk.lt_none (.inl (show Dk.nn 9221120237041090560 = true by decide))] at h
  exact h
theorem e_less3 (a : Nat) (w : World) : Calls Try.prog 20 #[.int .u64 a, .int .u64 a] w fun e w' => e = .returned (.bool false) ∧ w' = w := by
  have h := Less_any a a w
  rw [Dk.lt_self] at h
  exact h
theorem e_near (a : Nat) (w : World) (h0 : Dk.rg a < 9218868437227405312) : Calls Try.prog 20 #[.int .u64 18442240474082181120, .int .u64 a] w fun e w' => e = .returned (.bool true) ∧ w' = w := by
  have h := Less_any 18442240474082181120 a w
  rw [Dk.lt_near h0] at h
  exact h
theorem e_far (a : Nat) (w : World) (h0 : Dk.rg a < 9218868437227405312) : Calls Try.prog 20 #[.int .u64 a, .int .u64 9218868437227405312] w fun e w' => e = .returned (.bool true) ∧ w' = w := by
  have h := Less_any a 9218868437227405312 w
  rw [Dk.lt_far h0] at h
  exact h
theorem e_addf (a : Nat) (w : World) (h0 : Dk.rg a < 9218868437227405312) : Calls Try.prog 11 #[.int .u64 a, .int .u64 9218868437227405312] w fun e w' => e = .returned (.int .u64 9218868437227405312) ∧ ∃ n, w' = w.drewN n := by
  have h := Add_any a 9218868437227405312 w
  rw [Dk.nAdd_far h0] at h
  exact h
theorem e_maxf (a : Nat) (w : World) (h0 : Dk.rg a < 9218868437227405312) : Calls Try.prog 18 #[.int .u64 a, .int .u64 9218868437227405312] w fun e w' => e = .returned (.int .u64 9218868437227405312) ∧ w' = w := by
  have h := Max_any a 9218868437227405312 w
  rw [Dk.nMax_of_lt (Dk.lt_far h0)] at h
  exact h
theorem e_minn (a : Nat) (w : World) (ha : a < 18446744073709551616) (h0 : Dk.rg a < 9218868437227405312) : Calls Try.prog 16 #[.int .u64 a, .int .u64 18442240474082181120] w fun e w' => e = .returned (.int .u64 18442240474082181120) ∧ w' = w := by
  have h := Min_any a 18442240474082181120 w
  rw [Dk.nMin_comm ha (by decide), Dk.nMin_of_lt (Dk.lt_near h0)] at h
  exact h
theorem e_divf (a : Nat) (w : World) : Calls Try.prog 15 #[.int .u64 a, .int .u64 9218868437227405312] w fun e w' => (∃ q : Nat, ((q : Int) != 9218868437227405312) = true ∧ e = .returned (.int .u64 q)) ∧ ∃ n, w' = w.drewN n := by
  refine (Div_any a 9218868437227405312 w).mono ?_
  rintro e w' ⟨rfl, n, rfl⟩
  have := Dk.nDiv_far a
  exact ⟨⟨_, by rw [bne_iff_ne]; omega, rfl⟩, n, rfl⟩

set_option maxRecDepth 100000 in
set_option maxHeartbeats 1000000 in
theorem numEdges_in (a : Nat) (n : Int) (w : World) (ha : a < 18446744073709551616) (hn1 : -2147483648 ≤ n) (hn2 : n ≤ 2147483647) (hk : Dk.kd a < 2) :
    Calls Try.prog 7 #[.int .u64 a, .int .i32 n] w fun e w' => e = .returned (.bool true) ∧ ∃ n, w' = w.drewN n := by
  obtain ⟨u, hu⟩ : ∃ u : Nat, IntKind.u64.wrap n = (u : Int) := ⟨(n % 18446744073709551616).toNat, by rw [IntKind.wrap_u64]; omega⟩
  have hul : u < 18446744073709551616 := by rw [IntKind.wrap_u64] at hu; omega
  have hb : Dk.tI (Dk.tF u) = u := Dk.back_any n hn1 hn2 (by rw [← hu, IntKind.wrap_u64])
  have htl := (Dk.nn_tF hul).2
  have hr := Dk.kd_lt.1 hk
  go_enter Try.func7, Try.ntmps7
  go_wp2_with fail
  refine (e_add _ _).mono ?_
  rintro e w' ⟨rfl, n0, rfl⟩
  go_wp2_with fail
  refine (e_mul _ _).mono ?_
  rintro e w' ⟨rfl, n1, rfl⟩
  go_wp2_with fail
  refine (e_min _ _).mono ?_
  rintro e w' ⟨rfl, rfl⟩
  go_wp2_with fail
  refine (e_less1 _ _).mono ?_
  rintro e w' ⟨rfl, rfl⟩
  go_wp2_with fail
  refine (e_less2 _ _).mono ?_
  rintro e w' ⟨rfl, rfl⟩
  go_wp2_with fail
  refine (e_less3 _ _).mono ?_
  rintro e w' ⟨rfl, rfl⟩
  go_wp2_with fail
  refine (Kind_any _ _ ha).mono ?_
  rintro e w' ⟨rfl, rfl⟩
  go_wp2_with fail
  refine (e_near _ _ hr).mono ?_
  rintro e w' ⟨rfl, rfl⟩
  go_wp2_with fail
  refine (e_far _ _ hr).mono ?_
  rintro e w' ⟨rfl, rfl⟩
  go_wp2_with fail
  refine (e_addf _ _ hr).mono ?_
  rintro e w' ⟨rfl, n2, rfl⟩
  go_wp2_with fail
  refine (e_maxf _ _ hr).mono ?_
  rintro e w' ⟨rfl, rfl⟩
  go_wp2_with fail
  refine (e_minn _ _ ha hr).mono ?_
  rintro e w' ⟨rfl, rfl⟩
  go_wp2_with fail
  refine (awake_any _).mono ?_
  rintro e w' ⟨rfl, n3, rfl⟩
  go_wp2_with fail
  refine (ToFloat_any _ _ hul).mono ?_
  rintro e w' ⟨rfl, rfl⟩
  go_wp2_with fail
  refine (ToInt_any _ _).mono ?_
  rintro e w' ⟨rfl, rfl⟩
  go_wp2_with fail
  refine (e_divf _ _).mono ?_
  rintro e w' ⟨⟨q, hq, rfl⟩, n4, rfl⟩
  go_wp2_with fail
  go_ret
  exact ⟨rfl, _, rfl⟩

set_option maxRecDepth 100000 in
set_option maxHeartbeats 1000000 in
theorem numEdges_out (a : Nat) (n : Int) (w : World) (ha : a < 18446744073709551616) (hn1 : -2147483648 ≤ n) (hn2 : n ≤ 2147483647) (hk : ¬ Dk.kd a < 2) :
    Calls Try.prog 7 #[.int .u64 a, .int .i32 n] w fun e w' => e = .returned (.bool true) ∧ ∃ n, w' = w.drewN n := by
  obtain ⟨u, hu⟩ : ∃ u : Nat, IntKind.u64.wrap n = (u : Int) := ⟨(n % 18446744073709551616).toNat, by rw [IntKind.wrap_u64]; omega⟩
  have hul : u < 18446744073709551616 := by rw [IntKind.wrap_u64] at hu; omega
  have hb : Dk.tI (Dk.tF u) = u := Dk.back_any n hn1 hn2 (by rw [← hu, IntKind.wrap_u64])
  have htl := (Dk.nn_tF hul).2
  go_enter Try.func7, Try.ntmps7
  go_wp2_with fail
  refine (e_add _ _).mono ?_
  rintro e w' ⟨rfl, n0, rfl⟩
  go_wp2_with fail
  refine (e_mul _ _).mono ?_
  rintro e w' ⟨rfl, n1, rfl⟩
  go_wp2_with fail
  refine (e_min _ _).mono ?_
  rintro e w' ⟨rfl, rfl⟩
  go_wp2_with fail
  refine (e_less1 _ _).mono ?_
  rintro e w' ⟨rfl, rfl⟩
  go_wp2_with fail
  refine (e_less2 _ _).mono ?_
  rintro e w' ⟨rfl, rfl⟩
  go_wp2_with fail
  refine (e_less3 _ _).mono ?_
  rintro e w' ⟨rfl, rfl⟩
  go_wp2_with fail
  refine (Kind_any _ _ ha).mono ?_
  rintro e w' ⟨rfl, rfl⟩
  go_wp2_with fail
  refine (awake_any _).mono ?_
  rintro e w' ⟨rfl, n3, rfl⟩
  go_wp2_with fail
  refine (ToFloat_any _ _ hul).mono ?_
  rintro e w' ⟨rfl, rfl⟩
  go_wp2_with fail
  refine (ToInt_any _ _).mono ?_
  rintro e w' ⟨rfl, rfl⟩
  go_wp2_with fail
  refine (e_divf _ _).mono ?_
  rintro e w' ⟨⟨q, hq, rfl⟩, n4, rfl⟩
  go_wp2_with fail
  go_ret
  exact ⟨rfl, _, rfl⟩

set_option maxRecDepth 100000 in
set_option maxHeartbeats 1000000 in
theorem numOrder_none (a b c : Nat) (w : World) (ha : a < 18446744073709551616) (hb : b < 18446744073709551616) (hc : c < 18446744073709551616) (h : Dk.nn a = true ∨ Dk.nn b = true ∨ Dk.nn c = true) :
    Calls Try.prog 9 #[.int .u64 a, .int .u64 b, .int .u64 c] w fun e w' => e = .returned (.bool true) ∧ ∃ n, w' = w.drewN n := by
  have ka := Dk.kd_three a
  have kb := Dk.kd_three b
  have kc := Dk.kd_three c
  cases na : Dk.nn a <;> rw [na] at ka
  · cases nb : Dk.nn b <;> rw [nb] at kb
    · have nc : Dk.nn c = true := by rw [na, nb] at h; simpa using h
      rw [nc] at kc
      clear na nb nc h
      go_enter Try.func9, Try.ntmps9
      go_wp2_with (first | (go_at_call 20; refine (Less_any _ _ _).mono ?_; rintro e w' ⟨rfl, rfl⟩) | (go_at_call 26; refine (Kind_any _ _ (by assumption)).mono ?_; rintro e w' ⟨rfl, rfl⟩) | (go_at_call 16; refine (Min_any _ _ _).mono ?_; rintro e w' ⟨rfl, rfl⟩) | (go_at_call 18; refine (Max_any _ _ _).mono ?_; rintro e w' ⟨rfl, rfl⟩) | (go_at_call 10; refine (awake_any _).mono ?_; rintro e w' ⟨rfl, n0, rfl⟩))
      go_ret
      exact ⟨rfl, _, rfl⟩
    · clear na nb kc h
      go_enter Try.func9, Try.ntmps9
      go_wp2_with (first | (go_at_call 20; refine (Less_any _ _ _).mono ?_; rintro e w' ⟨rfl, rfl⟩) | (go_at_call 26; refine (Kind_any _ _ (by assumption)).mono ?_; rintro e w' ⟨rfl, rfl⟩) | (go_at_call 16; refine (Min_any _ _ _).mono ?_; rintro e w' ⟨rfl, rfl⟩) | (go_at_call 18; refine (Max_any _ _ _).mono ?_; rintro e w' ⟨rfl, rfl⟩) | (go_at_call 10; refine (awake_any _).mono ?_; rintro e w' ⟨rfl, n0, rfl⟩))
      go_ret
      exact ⟨rfl, _, rfl⟩
  · clear na kb kc h
    go_enter Try.func9, Try.ntmps9
    go_wp2_with (first | (go_at_call 20; refine (Less_any _ _ _).mono ?_; rintro e w' ⟨rfl, rfl⟩) | (go_at_call 26; refine (Kind_any _ _ (by assumption)).mono ?_; rintro e w' ⟨rfl, rfl⟩) | (go_at_call 16; refine (Min_any _ _ _).mono ?_; rintro e w' ⟨rfl, rfl⟩) | (go_at_call 18; refine (Max_any _ _ _).mono ?_; rintro e w' ⟨rfl, rfl⟩) | (go_at_call 10; refine (awake_any _).mono ?_; rintro e w' ⟨rfl, n0, rfl⟩))
    go_ret
    exact ⟨rfl, _, rfl⟩

set_option maxRecDepth 100000 in
set_option maxHeartbeats 1000000 in
theorem numOrder_lt (a b c : Nat) (w : World) (ha : a < 18446744073709551616) (hb : b < 18446744073709551616) (hc : c < 18446744073709551616) (na : Dk.nn a = false) (nb : Dk.nn b = false) (nc : Dk.nn c = false) (h : Dk.lt a b = true) :
    Calls Try.prog 9 #[.int .u64 a, .int .u64 b, .int .u64 c] w fun e w' => e = .returned (.bool true) ∧ ∃ n, w' = w.drewN n := by
  have ka : (Dk.kd a == 3) = false := by rw [Dk.kd_three, na]
  have kb : (Dk.kd b == 3) = false := by rw [Dk.kd_three, nb]
  have kc : (Dk.kd c == 3) = false := by rw [Dk.kd_three, nc]
  have za := Dk.kd_one a
  have zb := Dk.kd_one b
  have h2 := Dk.lt_asymm h
  have e1 := Dk.nMin_of_lt h
  have e2 := Dk.nMax_of_lt h
  have ne : ((a : Int) == b) = false := by rw [beq_eq_false_iff_ne]; have := Dk.ne_of_lt h; omega
  have nz := Dk.not_both h
  have tr : Dk.lt b c = true → Dk.lt a c = true := fun x => Dk.lt_trans h x
  cases x1 : decide (Dk.rg a = 0) <;> rw [x1] at za
  · cases x2 : Dk.lt b c
    · clear tr nz na nb nc x1 zb
      go_enter Try.func9, Try.ntmps9
      go_wp2_with (first | (go_at_call 20; refine (Less_any _ _ _).mono ?_; rintro e w' ⟨rfl, rfl⟩) | (go_at_call 26; refine (Kind_any _ _ (by assumption)).mono ?_; rintro e w' ⟨rfl, rfl⟩) | (go_at_call 16; refine (Min_any _ _ _).mono ?_; rintro e w' ⟨rfl, rfl⟩) | (go_at_call 18; refine (Max_any _ _ _).mono ?_; rintro e w' ⟨rfl, rfl⟩) | (go_at_call 10; refine (awake_any _).mono ?_; rintro e w' ⟨rfl, n0, rfl⟩))
      go_ret
      exact ⟨rfl, _, rfl⟩
    · have x3 := tr x2
      clear tr nz na nb nc x1 zb
      go_enter Try.func9, Try.ntmps9
      go_wp2_with (first | (go_at_call 20; refine (Less_any _ _ _).mono ?_; rintro e w' ⟨rfl, rfl⟩) | (go_at_call 26; refine (Kind_any _ _ (by assumption)).mono ?_; rintro e w' ⟨rfl, rfl⟩) | (go_at_call 16; refine (Min_any _ _ _).mono ?_; rintro e w' ⟨rfl, rfl⟩) | (go_at_call 18; refine (Max_any _ _ _).mono ?_; rintro e w' ⟨rfl, rfl⟩) | (go_at_call 10; refine (awake_any _).mono ?_; rintro e w' ⟨rfl, n0, rfl⟩))
      go_ret
      exact ⟨rfl, _, rfl⟩
  · rw [decide_eq_false (by intro y; exact nz ⟨of_decide_eq_true x1, y⟩)] at zb
    cases x2 : Dk.lt b c
    · clear tr nz na nb nc x1
      go_enter Try.func9, Try.ntmps9
      go_wp2_with (first | (go_at_call 20; refine (Less_any _ _ _).mono ?_; rintro e w' ⟨rfl, rfl⟩) | (go_at_call 26; refine (Kind_any _ _ (by assumption)).mono ?_; rintro e w' ⟨rfl, rfl⟩) | (go_at_call 16; refine (Min_any _ _ _).mono ?_; rintro e w' ⟨rfl, rfl⟩) | (go_at_call 18; refine (Max_any _ _ _).mono ?_; rintro e w' ⟨rfl, rfl⟩) | (go_at_call 10; refine (awake_any _).mono ?_; rintro e w' ⟨rfl, n0, rfl⟩))
      go_ret
      exact ⟨rfl, _, rfl⟩
    · have x3 := tr x2
      clear tr nz na nb nc x1
      go_enter Try.func9, Try.ntmps9
      go_wp2_with (first | (go_at_call 20; refine (Less_any _ _ _).mono ?_; rintro e w' ⟨rfl, rfl⟩) | (go_at_call 26; refine (Kind_any _ _ (by assumption)).mono ?_; rintro e w' ⟨rfl, rfl⟩) | (go_at_call 16; refine (Min_any _ _ _).mono ?_; rintro e w' ⟨rfl, rfl⟩) | (go_at_call 18; refine (Max_any _ _ _).mono ?_; rintro e w' ⟨rfl, rfl⟩) | (go_at_call 10; refine (awake_any _).mono ?_; rintro e w' ⟨rfl, n0, rfl⟩))
      go_ret
      exact ⟨rfl, _, rfl⟩

set_option maxRecDepth 100000 in
set_option maxHeartbeats 1000000 in
theorem numOrder_gt (a b c : Nat) (w : World) (ha : a < 18446744073709551616) (hb : b < 18446744073709551616) (hc : c < 18446744073709551616) (na : Dk.nn a = false) (nb : Dk.nn b = false) (nc : Dk.nn c = false) (h : Dk.lt b a = true) :
    Calls Try.prog 9 #[.int .u64 a, .int .u64 b, .int .u64 c] w fun e w' => e = .returned (.bool true) ∧ ∃ n, w' = w.drewN n := by
  have ka : (Dk.kd a == 3) = false := by rw [Dk.kd_three, na]
  have kb : (Dk.kd b == 3) = false := by rw [Dk.kd_three, nb]
  have kc : (Dk.kd c == 3) = false := by rw [Dk.kd_three, nc]
  have za := Dk.kd_one a
  have zb := Dk.kd_one b
  have h2 := Dk.lt_asymm h
  have e1 : Dk.nMin a b = b := by rw [Dk.nMin_comm ha hb]; exact Dk.nMin_of_lt h
  have e2 : Dk.nMax a b = a := by rw [Dk.nMax_comm ha hb]; exact Dk.nMax_of_lt h
  have ne : ((a : Int) == b) = false := by rw [beq_eq_false_iff_ne]; have := Dk.ne_of_lt h; omega
  have ne' : ((b : Int) == a) = false := by rw [beq_eq_false_iff_ne]; have := Dk.ne_of_lt h; omega
  have nz := Dk.not_both h
  cases x1 : decide (Dk.rg a = 0) <;> rw [x1] at za
  · clear nz na nb nc x1 zb
    go_enter Try.func9, Try.ntmps9
    go_wp2_with (first | (go_at_call 20; refine (Less_any _ _ _).mono ?_; rintro e w' ⟨rfl, rfl⟩) | (go_at_call 26; refine (Kind_any _ _ (by assumption)).mono ?_; rintro e w' ⟨rfl, rfl⟩) | (go_at_call 16; refine (Min_any _ _ _).mono ?_; rintro e w' ⟨rfl, rfl⟩) | (go_at_call 18; refine (Max_any _ _ _).mono ?_; rintro e w' ⟨rfl, rfl⟩) | (go_at_call 10; refine (awake_any _).mono ?_; rintro e w' ⟨rfl, n0, rfl⟩))
    go_ret
    exact ⟨rfl, _, rfl⟩
  · rw [decide_eq_false (by intro y; exact nz ⟨y, of_decide_eq_true x1⟩)] at zb
    clear nz na nb nc x1
    go_enter Try.func9, Try.ntmps9
    go_wp2_with (first | (go_at_call 20; refine (Less_any _ _ _).mono ?_; rintro e w' ⟨rfl, rfl⟩) | (go_at_call 26; refine (Kind_any _ _ (by assumption)).mono ?_; rintro e w' ⟨rfl, rfl⟩) | (go_at_call 16; refine (Min_any _ _ _).mono ?_; rintro e w' ⟨rfl, rfl⟩) | (go_at_call 18; refine (Max_any _ _ _).mono ?_; rintro e w' ⟨rfl, rfl⟩) | (go_at_call 10; refine (awake_any _).mono ?_; rintro e w' ⟨rfl, n0, rfl⟩))
    go_ret
    exact ⟨rfl, _, rfl⟩

set_option maxRecDepth 100000 in
set_option maxHeartbeats 1000000 in
theorem numOrder_eq (a b c : Nat) (w : World) (ha : a < 18446744073709551616) (hb : b < 18446744073709551616) (hc : c < 18446744073709551616) (na : Dk.nn a = false) (nb : Dk.nn b = false) (nc : Dk.nn c = false) (h : Dk.lt a b = false) (h2 : Dk.lt b a = false) :
    Calls Try.prog 9 #[.int .u64 a, .int .u64 b, .int .u64 c] w fun e w' => e = .returned (.bool true) ∧ ∃ n, w' = w.drewN n := by
  have ka : (Dk.kd a == 3) = false := by rw [Dk.kd_three, na]
  have kb : (Dk.kd b == 3) = false := by rw [Dk.kd_three, nb]
  have kc : (Dk.kd c == 3) = false := by rw [Dk.kd_three, nc]
  have za := Dk.kd_one a
  have zb := Dk.kd_one b
  rcases Dk.alike_of ha hb na nb h h2 with rfl | ⟨r1, r2⟩
  · have e1 : Dk.nMin a a = a := by unfold Dk.nMin; rw [na]; simp
    have e2 : Dk.nMax a a = a := by unfold Dk.nMax; rw [na]; simp
    clear na nb nc za zb kb
    go_enter Try.func9, Try.ntmps9
    go_wp2_with (first | (go_at_call 20; refine (Less_any _ _ _).mono ?_; rintro e w' ⟨rfl, rfl⟩) | (go_at_call 26; refine (Kind_any _ _ (by assumption)).mono ?_; rintro e w' ⟨rfl, rfl⟩) | (go_at_call 16; refine (Min_any _ _ _).mono ?_; rintro e w' ⟨rfl, rfl⟩) | (go_at_call 18; refine (Max_any _ _ _).mono ?_; rintro e w' ⟨rfl, rfl⟩) | (go_at_call 10; refine (awake_any _).mono ?_; rintro e w' ⟨rfl, n0, rfl⟩))
    go_ret
    exact ⟨rfl, _, rfl⟩
  · rw [decide_eq_true r1] at za
    rw [decide_eq_true r2] at zb
    have m1 : Dk.nMin a b = if Dk.bef a b then a else b := by unfold Dk.nMin; rw [na, nb]; rfl
    have m2 : Dk.nMax a b = if Dk.bef a b then b else a := by unfold Dk.nMax; rw [na, nb]; rfl
    cases eb : ((a : Int) == b)
    · have eb' : ((b : Int) == a) = false := by rw [beq_eq_false_iff_ne] at *; omega
      cases x : Dk.bef a b <;> rw [x] at m1 m2 <;> simp only [Bool.false_eq_true, if_false, if_true] at m1 m2
      · clear na nb nc r1 r2 x
        go_enter Try.func9, Try.ntmps9
        go_wp2_with (first | (go_at_call 20; refine (Less_any _ _ _).mono ?_; rintro e w' ⟨rfl, rfl⟩) | (go_at_call 26; refine (Kind_any _ _ (by assumption)).mono ?_; rintro e w' ⟨rfl, rfl⟩) | (go_at_call 16; refine (Min_any _ _ _).mono ?_; rintro e w' ⟨rfl, rfl⟩) | (go_at_call 18; refine (Max_any _ _ _).mono ?_; rintro e w' ⟨rfl, rfl⟩) | (go_at_call 10; refine (awake_any _).mono ?_; rintro e w' ⟨rfl, n0, rfl⟩))
        go_ret
        exact ⟨rfl, _, rfl⟩
      · clear na nb nc r1 r2 x
        go_enter Try.func9, Try.ntmps9
        go_wp2_with (first | (go_at_call 20; refine (Less_any _ _ _).mono ?_; rintro e w' ⟨rfl, rfl⟩) | (go_at_call 26; refine (Kind_any _ _ (by assumption)).mono ?_; rintro e w' ⟨rfl, rfl⟩) | (go_at_call 16; refine (Min_any _ _ _).mono ?_; rintro e w' ⟨rfl, rfl⟩) | (go_at_call 18; refine (Max_any _ _ _).mono ?_; rintro e w' ⟨rfl, rfl⟩) | (go_at_call 10; refine (awake_any _).mono ?_; rintro e w' ⟨rfl, n0, rfl⟩))
        go_ret
        exact ⟨rfl, _, rfl⟩
    · have : a = b := by rw [beq_iff_eq] at eb; omega
      subst this
      have e1 : Dk.nMin a a = a := by unfold Dk.nMin; rw [na]; simp
      have e2 : Dk.nMax a a = a := by unfold Dk.nMax; rw [na]; simp
      clear na nb nc za zb kb m1 m2 r1 r2 eb
      go_enter Try.func9, Try.ntmps9
      go_wp2_with (first | (go_at_call 20; refine (Less_any _ _ _).mono ?_; rintro e w' ⟨rfl, rfl⟩) | (go_at_call 26; refine (Kind_any _ _ (by assumption)).mono ?_; rintro e w' ⟨rfl, rfl⟩) | (go_at_call 16; refine (Min_any _ _ _).mono ?_; rintro e w' ⟨rfl, rfl⟩) | (go_at_call 18; refine (Max_any _ _ _).mono ?_; rintro e w' ⟨rfl, rfl⟩) | (go_at_call 10; refine (awake_any _).mono ?_; rintro e w' ⟨rfl, n0, rfl⟩))
      go_ret
      exact ⟨rfl, _, rfl⟩

end Go.Proofs.Ytojjgmdcomdakaa
