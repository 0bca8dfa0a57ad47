/- No gates answer so: the statement GateNone, walked. -/
import Derived.Test.YtjkdaankjondjaaHr
namespace Go.Proofs.Ytjkdaankjondjaa
set_option linter.unusedSimpArgs false
set_option linter.unusedVariables false
set_option linter.unnecessarySimpa false
open Go.RowKit Go.Lib

set_option maxRecDepth 100000 in
set_option maxHeartbeats 4000000 in
theorem GateNone_true (who n ch : Int) (all : Bool) (w : World) : Calls Try.prog 6 #[.int .i64 who, .int .i64 n, .int .i64 ch, .bool all] w fun e w' => e = .returned (.bool true) ∧ Below w.heap.size w w' := by
  go_enter Try.func6, Try.ntmps6
  go_wp2_with fail
  refine (Lock_nil who n w).mono ?_
  rintro e w' ⟨rfl, hw'⟩
  subst w'
  go_wp2_with fail
  refine (Unlock_nil who n ch w).mono ?_
  rintro e w' ⟨rfl, hw'⟩
  subst w'
  go_wp2_with fail
  refine (Wait_nil who n n ch w).mono ?_
  rintro e w' ⟨rfl, hw'⟩
  subst w'
  go_wp2_with fail
  refine (Signal_nil n ch all w).mono ?_
  rintro e w' ⟨rfl, hw'⟩
  subst w'
  go_wp2_with fail
  refine (Down_nil who n w).mono ?_
  rintro e w' ⟨rfl, hw'⟩
  subst w'
  go_wp2_with fail
  refine (Up_nil n ch w).mono ?_
  rintro e w' ⟨rfl, hw'⟩
  subst w'
  go_wp2_with fail
  refine (Owner_nil n w).mono ?_
  rintro e w' ⟨rfl, hw'⟩
  subst w'
  go_wp2_with fail
  refine (awake_any w).mono ?_
  rintro e w1 ⟨rfl, u1⟩
  have U : Hid _ := u1
  clear u1
  go_wp2_with fail
  refine (Waiters_nil ch n w1).mono ?_
  rintro e w' ⟨rfl, hw'⟩
  subst w'
  go_wp2_with fail
  refine (Count_nil n w1).mono ?_
  rintro e w' ⟨rfl, hw'⟩
  subst w'
  go_wp2_with fail
  go_ret
  exact ⟨rfl, U.out⟩
end Go.Proofs.Ytjkdaankjondjaa
