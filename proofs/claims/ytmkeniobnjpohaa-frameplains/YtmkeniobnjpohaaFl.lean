/- The walks of package frame's small functions. -/
import Derived.Test.YtmkeniobnjpohaaFr
import Derived.Test.YtmkeniobnjpohaaLeaf
import Derived.Test.YtmkeniobnjpohaaNRefF
namespace Go.Proofs.Ytmkeniobnjpohaa
set_option linter.unusedSimpArgs false
set_option linter.unusedVariables false
set_option linter.unnecessarySimpa false
open Go.RowKit

set_option maxHeartbeats 400000 in
theorem isPlace_any (x n : Int) (w : World) :
    Calls Try.prog 16 #[.int .i64 x, .int .i64 n] w fun e w' => e = .returned (.bool (Dk.plB x n)) ∧ w' = w := by
  unfold Dk.plB
  by_cases h : 0 ≤ x
  all_goals
    go_enter Try.func16, Try.ntmps16
    go_wp2
    first | go_ret | go_ret2
    exact ⟨by simp [h] <;> omega, rfl⟩

set_option maxHeartbeats 400000 in
theorem oneIf_any (b : Bool) (w : World) :
    Calls Try.prog 17 #[.bool b] w fun e w' => e = .returned (.int .u64 ((if b then 1 else 0 : Nat) : Nat)) ∧ w' = w := by
  cases b
  all_goals
    go_enter Try.func17, Try.ntmps17
    go_wp2
    first | go_ret | go_ret2
    exact ⟨rfl, rfl⟩

set_option maxHeartbeats 400000 in
theorem reg_any (x : Int) (w : World) :
    Calls Try.prog 14 #[.int .i64 x] w fun e w' => e = .returned (.bool (Dk.plB x 8)) ∧ w' = w := by
  unfold Dk.plB
  by_cases h : 0 ≤ x
  all_goals
    go_enter Try.func14, Try.ntmps14
    go_wp2
    first | go_ret | go_ret2
    exact ⟨by simp [h] <;> omega, rfl⟩

set_option maxHeartbeats 400000 in
theorem askAddress_ok (x : Nat) (A : Option Addr) (L C : Nat) (w : World) (h : x < L) (hL : L ≤ maxLen) :
    Calls Try.prog 49 #[.int .u64 (x : Nat), .slice A L C] w fun e w' => e = .returned (.int .u64 (x : Nat)) ∧ w' = w := by
  unfold maxLen at hL
  have hc : IntKind.u64.wrap (L : Int) = L := by rw [IntKind.wrap_u64]; omega
  have hg : ¬ (L : Int) ≤ (x : Int) := by omega
  clear h
  go_enter Try.func49, Try.ntmps49
  go_wp2
  first | go_ret | go_ret2
  exact ⟨rfl, rfl⟩

set_option maxHeartbeats 400000 in
theorem askAddress_bad (x : Nat) (A : Option Addr) (L C : Nat) (w : World) (h : L ≤ x) (hL : L ≤ maxLen) :
    Calls Try.prog 49 #[.int .u64 (x : Nat), .slice A L C] w fun e w' => e = .panicked [{ v := .iface 66 (.int .u64 (x : Nat)), recovered := false }] ∧ w' = w := by
  unfold maxLen at hL
  have hc : IntKind.u64.wrap (L : Int) = L := by rw [IntKind.wrap_u64]; omega
  have hg : (L : Int) ≤ (x : Int) := by omega
  clear h
  go_enter Try.func49, Try.ntmps49
  go_wp2
  exact ⟨rfl, rfl, rfl⟩

theorem ret_two {a c : Int} {b d : Bool} (h : a = c) (k : b = d) : Ending.returned (.tuple #[.int .u64 a, .bool b]) = .returned (.tuple #[.int .u64 c, .bool d]) := by rw [h, k]
theorem ari_add (a b : Nat) : (((a : Int) + b) % 18446744073709551616 : Int) = ((Dk.ariW 3 a b : Nat) : Int) := by simp [Dk.ariW]
theorem ari_sub (a b : Nat) (hb : b < 18446744073709551616) : (((a : Int) - b) % 18446744073709551616 : Int) = ((Dk.ariW 4 a b : Nat) : Int) := by simp [Dk.ariW]; omega
theorem ari_mul (a b : Nat) : (((a : Int) * b) % 18446744073709551616 : Int) = ((Dk.ariW 5 a b : Nat) : Int) := by simp [Dk.ariW]

theorem ari_cases {op : Int} (h : 2 ≤ op ∧ op ≤ 15) : op = 2 ∨ op = 3 ∨ op = 4 ∨ op = 5 ∨ op = 6 ∨ op = 7 ∨ op = 8 ∨ op = 9 ∨ op = 10 ∨ op = 11 ∨ op = 12 ∨ op = 13 ∨ op = 14 ∨ op = 15 := by omega
theorem beq_no {a b : Int} (h : a ≠ b) : (a == b) = false := by simp [h]

set_option maxHeartbeats 2000000 in
theorem Arith_out (op : Int) (a b : Nat) (w : World) (h : ¬ (2 ≤ op ∧ op ≤ 15)) :
    Calls Try.prog 10 #[.int .i64 op, .int .u64 (a : Nat), .int .u64 (b : Nat)] w fun e w' => e = .returned (.tuple #[.int .u64 0, .bool false]) ∧ w' = w := by
  have h2 : (op == 2) = false := beq_no (by omega)
  have h3 : (op == 3) = false := beq_no (by omega)
  have h4 : (op == 4) = false := beq_no (by omega)
  have h5 : (op == 5) = false := beq_no (by omega)
  have h6 : (op == 6) = false := beq_no (by omega)
  have h7 : (op == 7) = false := beq_no (by omega)
  have h8 : (op == 8) = false := beq_no (by omega)
  have h9 : (op == 9) = false := beq_no (by omega)
  have h10 : (op == 10) = false := beq_no (by omega)
  have h11 : (op == 11) = false := beq_no (by omega)
  have h12 : (op == 12) = false := beq_no (by omega)
  have h13 : (op == 13) = false := beq_no (by omega)
  have h14 : (op == 14) = false := beq_no (by omega)
  have h15 : (op == 15) = false := beq_no (by omega)
  clear h
  go_enter Try.func10, Try.ntmps10
  go_wp2
  first | go_ret | go_ret2
  exact ⟨rfl, rfl⟩

set_option maxHeartbeats 2000000 in
theorem rArith_out (op : Int) (a b : Nat) (w : World) (h : ¬ (2 ≤ op ∧ op ≤ 15)) :
    Calls Try.prog 11 #[.int .i64 op, .int .u64 (a : Nat), .int .u64 (b : Nat)] w fun e w' => e = .returned (.tuple #[.int .u64 0, .bool false]) ∧ w' = w := by
  have h2 : (op == 2) = false := beq_no (by omega)
  have h3 : (op == 3) = false := beq_no (by omega)
  have h4 : (op == 4) = false := beq_no (by omega)
  have h5 : (op == 5) = false := beq_no (by omega)
  have h6 : (op == 6) = false := beq_no (by omega)
  have h7 : (op == 7) = false := beq_no (by omega)
  have h8 : (op == 8) = false := beq_no (by omega)
  have h9 : (op == 9) = false := beq_no (by omega)
  have h10 : (op == 10) = false := beq_no (by omega)
  have h11 : (op == 11) = false := beq_no (by omega)
  have h12 : (op == 12) = false := beq_no (by omega)
  have h13 : (op == 13) = false := beq_no (by omega)
  have h14 : (op == 14) = false := beq_no (by omega)
  have h15 : (op == 15) = false := beq_no (by omega)
  clear h
  go_enter Try.func11, Try.ntmps11
  go_wp2
  first | go_ret | go_ret2
  exact ⟨rfl, rfl⟩

set_option maxHeartbeats 1000000 in
theorem Arith_2 (a b : Nat) (w : World) (ha : a < 18446744073709551616) (hb : b < 18446744073709551616) :
    Calls Try.prog 10 #[.int .i64 2, .int .u64 (a : Nat), .int .u64 (b : Nat)] w fun e w' => e = .returned (.tuple #[.int .u64 ((Dk.ariW 2 a b : Nat)), .bool true]) ∧ ∃ n, w' = w.drewN n := by
  go_enter Try.func10, Try.ntmps10
  go_wp2
  first | go_ret | go_ret2
  exact ⟨ret_two rfl rfl, 0, rfl⟩

set_option maxHeartbeats 1000000 in
theorem Arith_3 (a b : Nat) (w : World) (ha : a < 18446744073709551616) (hb : b < 18446744073709551616) :
    Calls Try.prog 10 #[.int .i64 3, .int .u64 (a : Nat), .int .u64 (b : Nat)] w fun e w' => e = .returned (.tuple #[.int .u64 ((Dk.ariW 3 a b : Nat)), .bool true]) ∧ ∃ n, w' = w.drewN n := by
  go_enter Try.func10, Try.ntmps10
  go_wp2
  first | go_ret | go_ret2
  exact ⟨ret_two (by rw [← ari_add a b]; try rw [IntKind.wrap_u64]) rfl, 0, rfl⟩

set_option maxHeartbeats 1000000 in
theorem Arith_4 (a b : Nat) (w : World) (ha : a < 18446744073709551616) (hb : b < 18446744073709551616) :
    Calls Try.prog 10 #[.int .i64 4, .int .u64 (a : Nat), .int .u64 (b : Nat)] w fun e w' => e = .returned (.tuple #[.int .u64 ((Dk.ariW 4 a b : Nat)), .bool true]) ∧ ∃ n, w' = w.drewN n := by
  go_enter Try.func10, Try.ntmps10
  go_wp2
  first | go_ret | go_ret2
  exact ⟨ret_two (by rw [← ari_sub a b hb]; try rw [IntKind.wrap_u64]) rfl, 0, rfl⟩

set_option maxHeartbeats 1000000 in
theorem Arith_5 (a b : Nat) (w : World) (ha : a < 18446744073709551616) (hb : b < 18446744073709551616) :
    Calls Try.prog 10 #[.int .i64 5, .int .u64 (a : Nat), .int .u64 (b : Nat)] w fun e w' => e = .returned (.tuple #[.int .u64 ((Dk.ariW 5 a b : Nat)), .bool true]) ∧ ∃ n, w' = w.drewN n := by
  go_enter Try.func10, Try.ntmps10
  go_wp2
  first | go_ret | go_ret2
  exact ⟨ret_two (by rw [← ari_mul a b]; try rw [IntKind.wrap_u64]) rfl, 0, rfl⟩

set_option maxHeartbeats 1000000 in
theorem Arith_6 (a b : Nat) (w : World) (ha : a < 18446744073709551616) (hb : b < 18446744073709551616) :
    Calls Try.prog 10 #[.int .i64 6, .int .u64 (a : Nat), .int .u64 (b : Nat)] w fun e w' => e = .returned (.tuple #[.int .u64 ((Dk.ariW 6 a b : Nat)), .bool true]) ∧ ∃ n, w' = w.drewN n := by
  have e6 : Dk.ariW 6 a b = if decide ((a : Int) < (b : Int)) then 1 else 0 := by simp [Dk.ariW]
  rw [e6]
  clear e6
  by_cases hc : (a : Int) < (b : Int)
  all_goals
    simp only [hc, decide_true, decide_false]
    go_enter Try.func10, Try.ntmps10
    go_wp2_with (go_at_call 17; refine (oneIf_any _ _).mono ?_; rintro e w' ⟨rfl, rfl⟩)
    go_ret2
    exact ⟨ret_two rfl rfl, 0, rfl⟩

set_option maxHeartbeats 1000000 in
theorem Arith_7 (a b : Nat) (w : World) (ha : a < 18446744073709551616) (hb : b < 18446744073709551616) :
    Calls Try.prog 10 #[.int .i64 7, .int .u64 (a : Nat), .int .u64 (b : Nat)] w fun e w' => e = .returned (.tuple #[.int .u64 ((Dk.ariW 7 a b : Nat)), .bool true]) ∧ ∃ n, w' = w.drewN n := by
  go_enter Try.func10, Try.ntmps10
  go_wp2_with (go_at_call 18; refine (Add_any _ _ _).mono ?_; rintro e w' ⟨rfl, nq, rfl⟩)
  first | go_ret | go_ret2
  exact ⟨ret_two rfl rfl, _, rfl⟩

set_option maxHeartbeats 1000000 in
theorem Arith_8 (a b : Nat) (w : World) (ha : a < 18446744073709551616) (hb : b < 18446744073709551616) :
    Calls Try.prog 10 #[.int .i64 8, .int .u64 (a : Nat), .int .u64 (b : Nat)] w fun e w' => e = .returned (.tuple #[.int .u64 ((Dk.ariW 8 a b : Nat)), .bool true]) ∧ ∃ n, w' = w.drewN n := by
  go_enter Try.func10, Try.ntmps10
  go_wp2_with (go_at_call 19; refine (Sub_any _ _ _).mono ?_; rintro e w' ⟨rfl, nq, rfl⟩)
  first | go_ret | go_ret2
  exact ⟨ret_two rfl rfl, _, rfl⟩

set_option maxHeartbeats 1000000 in
theorem Arith_9 (a b : Nat) (w : World) (ha : a < 18446744073709551616) (hb : b < 18446744073709551616) :
    Calls Try.prog 10 #[.int .i64 9, .int .u64 (a : Nat), .int .u64 (b : Nat)] w fun e w' => e = .returned (.tuple #[.int .u64 ((Dk.ariW 9 a b : Nat)), .bool true]) ∧ ∃ n, w' = w.drewN n := by
  go_enter Try.func10, Try.ntmps10
  go_wp2_with (go_at_call 20; refine (Mul_any _ _ _).mono ?_; rintro e w' ⟨rfl, nq, rfl⟩)
  first | go_ret | go_ret2
  exact ⟨ret_two rfl rfl, _, rfl⟩

set_option maxHeartbeats 1000000 in
theorem Arith_10 (a b : Nat) (w : World) (ha : a < 18446744073709551616) (hb : b < 18446744073709551616) :
    Calls Try.prog 10 #[.int .i64 10, .int .u64 (a : Nat), .int .u64 (b : Nat)] w fun e w' => e = .returned (.tuple #[.int .u64 ((Dk.ariW 10 a b : Nat)), .bool true]) ∧ ∃ n, w' = w.drewN n := by
  go_enter Try.func10, Try.ntmps10
  go_wp2_with (go_at_call 21; refine (Div_any _ _ _).mono ?_; rintro e w' ⟨rfl, nq, rfl⟩)
  first | go_ret | go_ret2
  exact ⟨ret_two rfl rfl, _, rfl⟩

set_option maxHeartbeats 1000000 in
theorem Arith_11 (a b : Nat) (w : World) (ha : a < 18446744073709551616) (hb : b < 18446744073709551616) :
    Calls Try.prog 10 #[.int .i64 11, .int .u64 (a : Nat), .int .u64 (b : Nat)] w fun e w' => e = .returned (.tuple #[.int .u64 ((Dk.ariW 11 a b : Nat)), .bool true]) ∧ ∃ n, w' = w.drewN n := by
  go_enter Try.func10, Try.ntmps10
  go_wp2_with (go_at_call 22; refine (Min_any _ _ _).mono ?_; rintro e w' ⟨rfl, rfl⟩)
  first | go_ret | go_ret2
  exact ⟨ret_two rfl rfl, 0, rfl⟩

set_option maxHeartbeats 1000000 in
theorem Arith_12 (a b : Nat) (w : World) (ha : a < 18446744073709551616) (hb : b < 18446744073709551616) :
    Calls Try.prog 10 #[.int .i64 12, .int .u64 (a : Nat), .int .u64 (b : Nat)] w fun e w' => e = .returned (.tuple #[.int .u64 ((Dk.ariW 12 a b : Nat)), .bool true]) ∧ ∃ n, w' = w.drewN n := by
  go_enter Try.func10, Try.ntmps10
  go_wp2_with (go_at_call 23; refine (Max_any _ _ _).mono ?_; rintro e w' ⟨rfl, rfl⟩)
  first | go_ret | go_ret2
  exact ⟨ret_two rfl rfl, 0, rfl⟩

set_option maxHeartbeats 1000000 in
theorem Arith_13 (a b : Nat) (w : World) (ha : a < 18446744073709551616) (hb : b < 18446744073709551616) :
    Calls Try.prog 10 #[.int .i64 13, .int .u64 (a : Nat), .int .u64 (b : Nat)] w fun e w' => e = .returned (.tuple #[.int .u64 ((Dk.ariW 13 a b : Nat)), .bool true]) ∧ ∃ n, w' = w.drewN n := by
  have e13 : Dk.ariW 13 a b = if Dk.lt a b then 1 else 0 := rfl
  rw [e13]
  clear e13
  cases hc : Dk.lt a b
  all_goals
    go_enter Try.func10, Try.ntmps10
    go_wp2_with (first | (go_at_call 24; refine (Less_any _ _ _).mono ?_; rintro e w' ⟨rfl, rfl⟩) | (go_at_call 17; refine (oneIf_any _ _).mono ?_; rintro e w' ⟨rfl, rfl⟩))
    go_ret2
    exact ⟨ret_two rfl rfl, 0, rfl⟩

set_option maxHeartbeats 1000000 in
theorem Arith_14 (a b : Nat) (w : World) (ha : a < 18446744073709551616) (hb : b < 18446744073709551616) :
    Calls Try.prog 10 #[.int .i64 14, .int .u64 (a : Nat), .int .u64 (b : Nat)] w fun e w' => e = .returned (.tuple #[.int .u64 ((Dk.ariW 14 a b : Nat)), .bool true]) ∧ ∃ n, w' = w.drewN n := by
  go_enter Try.func10, Try.ntmps10
  go_wp2_with (go_at_call 25; refine (ToInt_any _ _).mono ?_; rintro e w' ⟨rfl, rfl⟩)
  first | go_ret | go_ret2
  exact ⟨ret_two rfl rfl, 0, rfl⟩

set_option maxHeartbeats 1000000 in
theorem Arith_15 (a b : Nat) (w : World) (ha : a < 18446744073709551616) (hb : b < 18446744073709551616) :
    Calls Try.prog 10 #[.int .i64 15, .int .u64 (a : Nat), .int .u64 (b : Nat)] w fun e w' => e = .returned (.tuple #[.int .u64 ((Dk.ariW 15 a b : Nat)), .bool true]) ∧ ∃ n, w' = w.drewN n := by
  go_enter Try.func10, Try.ntmps10
  go_wp2_with (go_at_call 26; refine (ToFloat_any _ _ ha).mono ?_; rintro e w' ⟨rfl, rfl⟩)
  first | go_ret | go_ret2
  exact ⟨ret_two rfl rfl, 0, rfl⟩

theorem Arith_any (op : Int) (a b : Nat) (w : World) (ha : a < 18446744073709551616) (hb : b < 18446744073709551616) :
    Calls Try.prog 10 #[.int .i64 op, .int .u64 (a : Nat), .int .u64 (b : Nat)] w fun e w' => e = .returned (.tuple #[.int .u64 ((Dk.ariW op a b : Nat)), .bool (Dk.ariB op)]) ∧ ∃ n, w' = w.drewN n := by
  by_cases h : 2 ≤ op ∧ op ≤ 15
  · rcases ari_cases h with rfl | rfl | rfl | rfl | rfl | rfl | rfl | rfl | rfl | rfl | rfl | rfl | rfl | rfl
    · exact Arith_2 a b w ha hb
    · exact Arith_3 a b w ha hb
    · exact Arith_4 a b w ha hb
    · exact Arith_5 a b w ha hb
    · exact Arith_6 a b w ha hb
    · exact Arith_7 a b w ha hb
    · exact Arith_8 a b w ha hb
    · exact Arith_9 a b w ha hb
    · exact Arith_10 a b w ha hb
    · exact Arith_11 a b w ha hb
    · exact Arith_12 a b w ha hb
    · exact Arith_13 a b w ha hb
    · exact Arith_14 a b w ha hb
    · exact Arith_15 a b w ha hb
  · refine (Arith_out op a b w h).mono fun e w' ⟨he, hw⟩ => ⟨?_, 0, hw⟩
    rw [he, Dk.ariW_out h]
    unfold Dk.ariB
    rw [decide_eq_false h]
    rfl

set_option maxHeartbeats 1000000 in
theorem rArith_2 (a b : Nat) (w : World) (ha : a < 18446744073709551616) (hb : b < 18446744073709551616) :
    Calls Try.prog 11 #[.int .i64 2, .int .u64 (a : Nat), .int .u64 (b : Nat)] w fun e w' => e = .returned (.tuple #[.int .u64 ((Dk.ariW 2 a b : Nat)), .bool true]) ∧ ∃ n, w' = w.drewN n := by
  go_enter Try.func11, Try.ntmps11
  go_wp2
  first | go_ret | go_ret2
  exact ⟨ret_two rfl rfl, 0, rfl⟩

set_option maxHeartbeats 1000000 in
theorem rArith_3 (a b : Nat) (w : World) (ha : a < 18446744073709551616) (hb : b < 18446744073709551616) :
    Calls Try.prog 11 #[.int .i64 3, .int .u64 (a : Nat), .int .u64 (b : Nat)] w fun e w' => e = .returned (.tuple #[.int .u64 ((Dk.ariW 3 a b : Nat)), .bool true]) ∧ ∃ n, w' = w.drewN n := by
  go_enter Try.func11, Try.ntmps11
  go_wp2
  first | go_ret | go_ret2
  exact ⟨ret_two (by rw [← ari_add a b]; try rw [IntKind.wrap_u64]) rfl, 0, rfl⟩

set_option maxHeartbeats 1000000 in
theorem rArith_4 (a b : Nat) (w : World) (ha : a < 18446744073709551616) (hb : b < 18446744073709551616) :
    Calls Try.prog 11 #[.int .i64 4, .int .u64 (a : Nat), .int .u64 (b : Nat)] w fun e w' => e = .returned (.tuple #[.int .u64 ((Dk.ariW 4 a b : Nat)), .bool true]) ∧ ∃ n, w' = w.drewN n := by
  go_enter Try.func11, Try.ntmps11
  go_wp2
  first | go_ret | go_ret2
  exact ⟨ret_two (by rw [← ari_sub a b hb]; try rw [IntKind.wrap_u64]) rfl, 0, rfl⟩

set_option maxHeartbeats 1000000 in
theorem rArith_5 (a b : Nat) (w : World) (ha : a < 18446744073709551616) (hb : b < 18446744073709551616) :
    Calls Try.prog 11 #[.int .i64 5, .int .u64 (a : Nat), .int .u64 (b : Nat)] w fun e w' => e = .returned (.tuple #[.int .u64 ((Dk.ariW 5 a b : Nat)), .bool true]) ∧ ∃ n, w' = w.drewN n := by
  go_enter Try.func11, Try.ntmps11
  go_wp2
  first | go_ret | go_ret2
  exact ⟨ret_two (by rw [← ari_mul a b]; try rw [IntKind.wrap_u64]) rfl, 0, rfl⟩

set_option maxHeartbeats 1000000 in
theorem rArith_6 (a b : Nat) (w : World) (ha : a < 18446744073709551616) (hb : b < 18446744073709551616) :
    Calls Try.prog 11 #[.int .i64 6, .int .u64 (a : Nat), .int .u64 (b : Nat)] w fun e w' => e = .returned (.tuple #[.int .u64 ((Dk.ariW 6 a b : Nat)), .bool true]) ∧ ∃ n, w' = w.drewN n := by
  have e6 : Dk.ariW 6 a b = if decide ((a : Int) < (b : Int)) then 1 else 0 := by simp [Dk.ariW]
  rw [e6]
  clear e6
  by_cases hc : (a : Int) < (b : Int)
  all_goals
    simp only [hc, decide_true, decide_false]
    go_enter Try.func11, Try.ntmps11
    go_wp2
    go_ret2
    exact ⟨ret_two rfl rfl, 0, rfl⟩

set_option maxHeartbeats 1000000 in
theorem rArith_7 (a b : Nat) (w : World) (ha : a < 18446744073709551616) (hb : b < 18446744073709551616) :
    Calls Try.prog 11 #[.int .i64 7, .int .u64 (a : Nat), .int .u64 (b : Nat)] w fun e w' => e = .returned (.tuple #[.int .u64 ((Dk.ariW 7 a b : Nat)), .bool true]) ∧ ∃ n, w' = w.drewN n := by
  go_enter Try.func11, Try.ntmps11
  go_wp2_with (go_at_call 27; refine (Two1_any _ _ _).mono ?_; rintro e w' ⟨rfl, nq, rfl⟩)
  first | go_ret | go_ret2
  exact ⟨ret_two rfl rfl, _, rfl⟩

set_option maxHeartbeats 1000000 in
theorem rArith_8 (a b : Nat) (w : World) (ha : a < 18446744073709551616) (hb : b < 18446744073709551616) :
    Calls Try.prog 11 #[.int .i64 8, .int .u64 (a : Nat), .int .u64 (b : Nat)] w fun e w' => e = .returned (.tuple #[.int .u64 ((Dk.ariW 8 a b : Nat)), .bool true]) ∧ ∃ n, w' = w.drewN n := by
  go_enter Try.func11, Try.ntmps11
  go_wp2_with (go_at_call 27; refine (Two2_any _ _ _).mono ?_; rintro e w' ⟨rfl, nq, rfl⟩)
  first | go_ret | go_ret2
  exact ⟨ret_two rfl rfl, _, rfl⟩

set_option maxHeartbeats 1000000 in
theorem rArith_9 (a b : Nat) (w : World) (ha : a < 18446744073709551616) (hb : b < 18446744073709551616) :
    Calls Try.prog 11 #[.int .i64 9, .int .u64 (a : Nat), .int .u64 (b : Nat)] w fun e w' => e = .returned (.tuple #[.int .u64 ((Dk.ariW 9 a b : Nat)), .bool true]) ∧ ∃ n, w' = w.drewN n := by
  go_enter Try.func11, Try.ntmps11
  go_wp2_with (go_at_call 27; refine (Two3_any _ _ _).mono ?_; rintro e w' ⟨rfl, nq, rfl⟩)
  first | go_ret | go_ret2
  exact ⟨ret_two rfl rfl, _, rfl⟩

set_option maxHeartbeats 1000000 in
theorem rArith_10 (a b : Nat) (w : World) (ha : a < 18446744073709551616) (hb : b < 18446744073709551616) :
    Calls Try.prog 11 #[.int .i64 10, .int .u64 (a : Nat), .int .u64 (b : Nat)] w fun e w' => e = .returned (.tuple #[.int .u64 ((Dk.ariW 10 a b : Nat)), .bool true]) ∧ ∃ n, w' = w.drewN n := by
  go_enter Try.func11, Try.ntmps11
  go_wp2_with (go_at_call 27; refine (Two4_any _ _ _).mono ?_; rintro e w' ⟨rfl, nq, rfl⟩)
  first | go_ret | go_ret2
  exact ⟨ret_two rfl rfl, _, rfl⟩

set_option maxHeartbeats 1000000 in
theorem rArith_11 (a b : Nat) (w : World) (ha : a < 18446744073709551616) (hb : b < 18446744073709551616) :
    Calls Try.prog 11 #[.int .i64 11, .int .u64 (a : Nat), .int .u64 (b : Nat)] w fun e w' => e = .returned (.tuple #[.int .u64 ((Dk.ariW 11 a b : Nat)), .bool true]) ∧ ∃ n, w' = w.drewN n := by
  go_enter Try.func11, Try.ntmps11
  go_wp2_with (go_at_call 28; refine (rMin_any _ _ _ ha hb).mono ?_; rintro e w' ⟨rfl, rfl⟩)
  first | go_ret | go_ret2
  exact ⟨ret_two rfl rfl, 0, rfl⟩

set_option maxHeartbeats 1000000 in
theorem rArith_12 (a b : Nat) (w : World) (ha : a < 18446744073709551616) (hb : b < 18446744073709551616) :
    Calls Try.prog 11 #[.int .i64 12, .int .u64 (a : Nat), .int .u64 (b : Nat)] w fun e w' => e = .returned (.tuple #[.int .u64 ((Dk.ariW 12 a b : Nat)), .bool true]) ∧ ∃ n, w' = w.drewN n := by
  go_enter Try.func11, Try.ntmps11
  go_wp2_with (go_at_call 29; refine (rMax_any _ _ _ ha hb).mono ?_; rintro e w' ⟨rfl, rfl⟩)
  first | go_ret | go_ret2
  exact ⟨ret_two rfl rfl, 0, rfl⟩

set_option maxHeartbeats 1000000 in
theorem rArith_13 (a b : Nat) (w : World) (ha : a < 18446744073709551616) (hb : b < 18446744073709551616) :
    Calls Try.prog 11 #[.int .i64 13, .int .u64 (a : Nat), .int .u64 (b : Nat)] w fun e w' => e = .returned (.tuple #[.int .u64 ((Dk.ariW 13 a b : Nat)), .bool true]) ∧ ∃ n, w' = w.drewN n := by
  have e13 : Dk.ariW 13 a b = if Dk.lt a b then 1 else 0 := rfl
  rw [e13]
  clear e13
  cases hc : Dk.lt a b
  all_goals
    go_enter Try.func11, Try.ntmps11
    go_wp2_with (go_at_call 30; refine (rLess_any _ _ _ ha hb).mono ?_; rintro e w' ⟨rfl, rfl⟩)
    first | go_ret | go_ret2
    exact ⟨rfl, 0, rfl⟩

set_option maxHeartbeats 1000000 in
theorem rArith_14 (a b : Nat) (w : World) (ha : a < 18446744073709551616) (hb : b < 18446744073709551616) :
    Calls Try.prog 11 #[.int .i64 14, .int .u64 (a : Nat), .int .u64 (b : Nat)] w fun e w' => e = .returned (.tuple #[.int .u64 ((Dk.ariW 14 a b : Nat)), .bool true]) ∧ ∃ n, w' = w.drewN n := by
  go_enter Try.func11, Try.ntmps11
  go_wp2_with (go_at_call 31; refine (rToInt_any _ _ ha).mono ?_; rintro e w' ⟨rfl, rfl⟩)
  first | go_ret | go_ret2
  exact ⟨ret_two rfl rfl, 0, rfl⟩

set_option maxHeartbeats 1000000 in
theorem rArith_15 (a b : Nat) (w : World) (ha : a < 18446744073709551616) (hb : b < 18446744073709551616) :
    Calls Try.prog 11 #[.int .i64 15, .int .u64 (a : Nat), .int .u64 (b : Nat)] w fun e w' => e = .returned (.tuple #[.int .u64 ((Dk.ariW 15 a b : Nat)), .bool true]) ∧ ∃ n, w' = w.drewN n := by
  go_enter Try.func11, Try.ntmps11
  go_wp2_with (go_at_call 32; refine (rToFloat_any _ _ ha).mono ?_; rintro e w' ⟨rfl, rfl⟩)
  first | go_ret | go_ret2
  exact ⟨ret_two rfl rfl, 0, rfl⟩

theorem rArith_any (op : Int) (a b : Nat) (w : World) (ha : a < 18446744073709551616) (hb : b < 18446744073709551616) :
    Calls Try.prog 11 #[.int .i64 op, .int .u64 (a : Nat), .int .u64 (b : Nat)] w fun e w' => e = .returned (.tuple #[.int .u64 ((Dk.ariW op a b : Nat)), .bool (Dk.ariB op)]) ∧ ∃ n, w' = w.drewN n := by
  by_cases h : 2 ≤ op ∧ op ≤ 15
  · rcases ari_cases h with rfl | rfl | rfl | rfl | rfl | rfl | rfl | rfl | rfl | rfl | rfl | rfl | rfl | rfl
    · exact rArith_2 a b w ha hb
    · exact rArith_3 a b w ha hb
    · exact rArith_4 a b w ha hb
    · exact rArith_5 a b w ha hb
    · exact rArith_6 a b w ha hb
    · exact rArith_7 a b w ha hb
    · exact rArith_8 a b w ha hb
    · exact rArith_9 a b w ha hb
    · exact rArith_10 a b w ha hb
    · exact rArith_11 a b w ha hb
    · exact rArith_12 a b w ha hb
    · exact rArith_13 a b w ha hb
    · exact rArith_14 a b w ha hb
    · exact rArith_15 a b w ha hb
  · refine (rArith_out op a b w h).mono fun e w' ⟨he, hw⟩ => ⟨?_, 0, hw⟩
    rw [he, Dk.ariW_out h]
    unfold Dk.ariB
    rw [decide_eq_false h]
    rfl

end Go.Proofs.Ytmkeniobnjpohaa
