/- The walks of package num's small functions, and of what the machine's sums, differences, products and quotients come to. -/
import Derived.Test.YtmkeniobnjpohaaRows
import Derived.Test.YtmkeniobnjpohaaNum
import Derived.WalkKit
import Derived.WalkSpells
import Derived.WalkLawsBesides
import Derived.Laws.FloatArith
import Derived.Deep.Draws
namespace Go.Proofs.Ytmkeniobnjpohaa
open Go.RowKit

theorem call30 (a : Nat) (w : World) : (callFunc 42 #[.int .u64 a]).run Try.prog w = .ok (.value (.float .f64 a)) w := by
  rw [run_callFunc_extern Try.func42 (by kernel_rfl) (by kernel_rfl) (by kernel_rfl) (e := Extern.MathFloatBits.float64frombits) (by kernel_rfl)]; rfl
theorem call32 (a : Nat) (w : World) : (callFunc 44 #[.float .f64 a]).run Try.prog w = .ok (.value (.int .u64 a)) w := by
  rw [run_callFunc_extern Try.func44 (by kernel_rfl) (by kernel_rfl) (by kernel_rfl) (e := Extern.MathFloatBits.float64bits) (by kernel_rfl)]; rfl

set_option maxHeartbeats 400000 in
theorem read_any (a : Nat) (w : World) :
    Calls Try.prog 37 #[.int .u64 a] w fun e w' => e = .returned (.float .f64 a) ∧ w' = w := by
  have hc := call30
  go_enter Try.func37, Try.ntmps37
  go_wp2
  go_ret
  exact ⟨rfl, rfl⟩

set_option maxHeartbeats 400000 in
theorem isNone_any (a : Nat) (w : World) :
    Calls Try.prog 41 #[.float .f64 a] w fun e w' => e = .returned (.bool (Dk.nn a)) ∧ w' = w := by
  go_enter Try.func41, Try.ntmps41
  go_wp2
  go_ret
  exact ⟨by rw [← Dk.order_self]; rfl, rfl⟩

set_option maxHeartbeats 400000 in
theorem bits_num (a : Nat) (w : World) (h : Dk.nn a = false) :
    Calls Try.prog 38 #[.float .f64 a] w fun e w' => e = .returned (.int .u64 a) ∧ w' = w := by
  have hc := call32
  go_enter Try.func38, Try.ntmps38
  go_wp2_with (go_at_call 41; refine (isNone_any _ _).mono ?_; rintro e w' ⟨rfl, rfl⟩)
  go_ret
  exact ⟨rfl, rfl⟩
set_option maxHeartbeats 400000 in
theorem bits_nan (a : Nat) (w : World) (h : Dk.nn a = true) :
    Calls Try.prog 38 #[.float .f64 a] w fun e w' => e = .returned (.int .u64 9221120237041090560) ∧ w' = w := by
  go_enter Try.func38, Try.ntmps38
  go_wp2_with (go_at_call 41; refine (isNone_any _ _).mono ?_; rintro e w' ⟨rfl, rfl⟩)
  go_ret
  exact ⟨rfl, rfl⟩

/-- an operation without an answer: some word that is no number -/
theorem run_nan (op : BinOp) (t : TypeId) (x y : Nat) (w : World) (ho : op = .add ∨ op = .sub ∨ op = .mul ∨ op = .quo) (h : floatBits op .f64 x y = none) :
    ∃ r, Dk.nn r = true ∧ r < 18446744073709551616 ∧ (binOp op t (.float .f64 x) (.float .f64 y)).run Try.prog w = .ok (.float .f64 r) w.drew := by
  refine ⟨(Question.nanBits .f64 x y).cut (w.tape w.drawn (.nanBits .f64 x y)), ?_, ?_, ?_⟩
  · simp only [Question.cut]
    generalize w.tape w.drawn (.nanBits .f64 x y) = t
    unfold Dk.nn Dk.rg
    rw [decide_eq_true_iff]
    have h2 : t % 2 = 0 ∨ t % 2 = 1 := by omega
    rcases h2 with h2 | h2 <;> rw [h2] <;> omega
  · simp only [Question.cut]
    generalize w.tape w.drawn (.nanBits .f64 x y) = t
    have h2 : t % 2 = 0 ∨ t % 2 = 1 := by omega
    rcases h2 with h2 | h2 <;> rw [h2] <;> omega
  · unfold floatBits at h
    rcases ho with rfl | rfl | rfl | rfl <;> simp only at h <;> simp [binOp, Op.floatArith, h, Question.forced]

set_option maxHeartbeats 400000 in
theorem Add_any (a b : Nat) (w : World) :
    Calls Try.prog 18 #[.int .u64 a, .int .u64 b] w fun e w' => e = .returned (.int .u64 (Dk.nAdd a b)) ∧ ∃ n, w' = w.drewN n := by
  cases h : Ieee.double.add a b with
  | some r =>
    have hrun := fun w => run_float_arith (P := Try.prog) w .add 59 .f64 a b r h
    have hn : Dk.nn r = false := Dk.nn_add h
    have e : Dk.nAdd a b = r := by unfold Dk.nAdd Dk.out; rw [h]; rfl
    rw [e]
    clear e h
    go_enter Try.func18, Try.ntmps18
    go_wp2_with (first | (go_at_call 37; refine (read_any _ _).mono ?_; rintro e w' ⟨rfl, rfl⟩) | (go_at_call 38; refine (bits_num _ _ hn).mono ?_; rintro e w' ⟨rfl, rfl⟩))
    go_ret
    exact ⟨rfl, 0, rfl⟩
  | none =>
    obtain ⟨r, hr, _, hrun⟩ := run_nan .add 59 a b w (by simp) h
    have e : Dk.nAdd a b = 9221120237041090560 := by unfold Dk.nAdd Dk.out; rw [h]; rfl
    rw [e]
    clear e h
    go_enter Try.func18, Try.ntmps18
    go_wp2_with (first | (go_at_call 37; refine (read_any _ _).mono ?_; rintro e w' ⟨rfl, rfl⟩) | (go_at_call 38; refine (bits_nan _ _ hr).mono ?_; rintro e w' ⟨rfl, rfl⟩))
    go_ret
    exact ⟨rfl, 1, rfl⟩

set_option maxHeartbeats 400000 in
theorem Sub_any (a b : Nat) (w : World) :
    Calls Try.prog 19 #[.int .u64 a, .int .u64 b] w fun e w' => e = .returned (.int .u64 (Dk.nSub a b)) ∧ ∃ n, w' = w.drewN n := by
  cases h : Ieee.double.sub a b with
  | some r =>
    have hrun := fun w => run_float_arith (P := Try.prog) w .sub 59 .f64 a b r h
    have hn : Dk.nn r = false := Dk.nn_sub h
    have e : Dk.nSub a b = r := by unfold Dk.nSub Dk.out; rw [h]; rfl
    rw [e]
    clear e h
    go_enter Try.func19, Try.ntmps19
    go_wp2_with (first | (go_at_call 37; refine (read_any _ _).mono ?_; rintro e w' ⟨rfl, rfl⟩) | (go_at_call 38; refine (bits_num _ _ hn).mono ?_; rintro e w' ⟨rfl, rfl⟩))
    go_ret
    exact ⟨rfl, 0, rfl⟩
  | none =>
    obtain ⟨r, hr, _, hrun⟩ := run_nan .sub 59 a b w (by simp) h
    have e : Dk.nSub a b = 9221120237041090560 := by unfold Dk.nSub Dk.out; rw [h]; rfl
    rw [e]
    clear e h
    go_enter Try.func19, Try.ntmps19
    go_wp2_with (first | (go_at_call 37; refine (read_any _ _).mono ?_; rintro e w' ⟨rfl, rfl⟩) | (go_at_call 38; refine (bits_nan _ _ hr).mono ?_; rintro e w' ⟨rfl, rfl⟩))
    go_ret
    exact ⟨rfl, 1, rfl⟩

set_option maxHeartbeats 400000 in
theorem Mul_any (a b : Nat) (w : World) :
    Calls Try.prog 20 #[.int .u64 a, .int .u64 b] w fun e w' => e = .returned (.int .u64 (Dk.nMul a b)) ∧ ∃ n, w' = w.drewN n := by
  cases h : Ieee.double.mul a b with
  | some r =>
    have hrun := fun w => run_float_arith (P := Try.prog) w .mul 59 .f64 a b r h
    have hn : Dk.nn r = false := Dk.nn_mul h
    have e : Dk.nMul a b = r := by unfold Dk.nMul Dk.out; rw [h]; rfl
    rw [e]
    clear e h
    go_enter Try.func20, Try.ntmps20
    go_wp2_with (first | (go_at_call 37; refine (read_any _ _).mono ?_; rintro e w' ⟨rfl, rfl⟩) | (go_at_call 38; refine (bits_num _ _ hn).mono ?_; rintro e w' ⟨rfl, rfl⟩))
    go_ret
    exact ⟨rfl, 0, rfl⟩
  | none =>
    obtain ⟨r, hr, _, hrun⟩ := run_nan .mul 59 a b w (by simp) h
    have e : Dk.nMul a b = 9221120237041090560 := by unfold Dk.nMul Dk.out; rw [h]; rfl
    rw [e]
    clear e h
    go_enter Try.func20, Try.ntmps20
    go_wp2_with (first | (go_at_call 37; refine (read_any _ _).mono ?_; rintro e w' ⟨rfl, rfl⟩) | (go_at_call 38; refine (bits_nan _ _ hr).mono ?_; rintro e w' ⟨rfl, rfl⟩))
    go_ret
    exact ⟨rfl, 1, rfl⟩

set_option maxHeartbeats 400000 in
theorem Div_any (a b : Nat) (w : World) :
    Calls Try.prog 21 #[.int .u64 a, .int .u64 b] w fun e w' => e = .returned (.int .u64 (Dk.nDiv a b)) ∧ ∃ n, w' = w.drewN n := by
  cases h : Ieee.double.div a b with
  | some r =>
    have hrun := fun w => run_float_arith (P := Try.prog) w .quo 59 .f64 a b r h
    have hn : Dk.nn r = false := Dk.nn_div h
    have e : Dk.nDiv a b = r := by unfold Dk.nDiv Dk.out; rw [h]; rfl
    rw [e]
    clear e h
    go_enter Try.func21, Try.ntmps21
    go_wp2_with (first | (go_at_call 37; refine (read_any _ _).mono ?_; rintro e w' ⟨rfl, rfl⟩) | (go_at_call 38; refine (bits_num _ _ hn).mono ?_; rintro e w' ⟨rfl, rfl⟩))
    go_ret
    exact ⟨rfl, 0, rfl⟩
  | none =>
    obtain ⟨r, hr, _, hrun⟩ := run_nan .quo 59 a b w (by simp) h
    have e : Dk.nDiv a b = 9221120237041090560 := by unfold Dk.nDiv Dk.out; rw [h]; rfl
    rw [e]
    clear e h
    go_enter Try.func21, Try.ntmps21
    go_wp2_with (first | (go_at_call 37; refine (read_any _ _).mono ?_; rintro e w' ⟨rfl, rfl⟩) | (go_at_call 38; refine (bits_nan _ _ hr).mono ?_; rintro e w' ⟨rfl, rfl⟩))
    go_ret
    exact ⟨rfl, 1, rfl⟩

end Go.Proofs.Ytmkeniobnjpohaa
