/- Small facts that close the proofs of layer 1's statements. -/
import Derived.Test.YtojjgmdcomdakaaRows
import Derived.WalkKit
import Derived.OpenShut
import Derived.Deep.Draws
namespace Go.Proofs.Ytojjgmdcomdakaa
open Go.RowKit
theorem grown_drewN (w : World) (n : Nat) : Grown w (w.drewN n) := Grown.refl w
theorem nat_u64 {x : Int} (h : (Lit.int .u64 x).wf = true) : ∃ a : Nat, x = a ∧ a < 18446744073709551616 := by
  simp [Lit.wf, IntKind.min, IntKind.max, IntKind.signed, IntKind.bits] at h
  exact ⟨x.toNat, by omega, by omega⟩
theorem int_i32 {x : Int} (h : (Lit.int .i32 x).wf = true) : -2147483648 ≤ x ∧ x ≤ 2147483647 := by
  simp [Lit.wf, IntKind.min, IntKind.max, IntKind.signed, IntKind.bits] at h
  omega
end Go.Proofs.Ytojjgmdcomdakaa
