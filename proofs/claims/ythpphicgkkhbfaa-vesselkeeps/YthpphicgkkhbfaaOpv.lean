/- A small number as an argument. -/
import Derived.Test.YthpphicgkkhbfaaOpn
namespace Dk
open Go Go.RowKit
theorem wf_u8 {x : Int} (h : (Lit.int .u8 x).wf = true) : ∃ a : Nat, x = a ∧ a < 256 := by
  simp [Lit.wf, IntKind.min, IntKind.max, IntKind.signed, IntKind.bits] at h
  exact ⟨x.toNat, by omega, by omega⟩
end Dk
