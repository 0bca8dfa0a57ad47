/- The walk of the statement on what two words come to. -/
import Derived.Test.YtmkeniobnjpohaaFw
namespace Go.Proofs.Ytmkeniobnjpohaa
set_option linter.unusedSimpArgs false
set_option linter.unusedVariables false
set_option linter.unnecessarySimpa false
open Go.RowKit

theorem drewN_up (w : World) (n : Nat) : Below w.heap.size w (w.drewN n) := Dk.up_drewN (Below.refl _ _) n

set_option maxHeartbeats 1000000 in
theorem ariths_any (op : Int) (a b : Nat) (w : World) (ha : a < 18446744073709551616) (hb : b < 18446744073709551616) :
    Calls Try.prog 4 #[.int .i64 op, .int .u64 (a : Nat), .int .u64 (b : Nat)] w fun e w' => e = .returned (.bool true) ∧ Below w.heap.size w w' := by
  have HA : Hid _ := ha
  have HB : Hid _ := hb
  clear ha hb
  go_enter Try.func4, Try.ntmps4
  go_wp2_with fail
  refine (Arith_any op a b _ HA.out HB.out).mono ?_
  rintro e w1 ⟨rfl, n1, h1⟩
  have u1 : Below w.heap.size w w1 := by rw [h1]; exact drewN_up _ _
  clear h1
  go_wp2_with fail
  refine (rArith_any op a b _ HA.out HB.out).mono ?_
  rintro e w2 ⟨rfl, n2, h2⟩
  have u2 : Below w.heap.size w w2 := Dk.up_call u1 (by rw [h2]; exact drewN_up _ _)
  clear h2 u1
  go_wp2_with fail
  refine (awake_any _).mono ?_
  rintro e w3 ⟨rfl, h3⟩
  have u3 := Dk.up_call u2 h3
  clear h3 u2
  go_wp2_with fail
  go_ret
  exact ⟨rfl, u3⟩

theorem ariths_i (op a b : Int) (w : World) (ha : (Lit.int .u64 a).wf = true) (hb : (Lit.int .u64 b).wf = true) :
    Calls Try.prog 4 #[.int .i64 op, .int .u64 a, .int .u64 b] w fun e w' => e = .returned (.bool true) ∧ Below w.heap.size w w' := by
  obtain ⟨x, rfl, hx⟩ := Dk.wf_u64 ha
  obtain ⟨y, rfl, hy⟩ := Dk.wf_u64 hb
  exact ariths_any op x y w hx hy

end Go.Proofs.Ytmkeniobnjpohaa
