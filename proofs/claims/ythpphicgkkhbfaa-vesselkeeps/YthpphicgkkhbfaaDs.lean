/- What 'append' does with rows that are owned. -/
import Derived.Test.YthpphicgkkhbfaaChecked
import Derived.Test.YthpphicgkkhbfaaDe
import Derived.KernelRfl
namespace Go.Proofs.Ythpphicgkkhbfaa
set_option linter.unusedSimpArgs false
set_option linter.unusedVariables false
set_option linter.unnecessarySimpa false
open Go.RowKit

set_option maxRecDepth 100000 in
theorem info3 : (Try.prog.info? 3).map (fun i => (i.zero, i.size, i.bytes)) = some (some (.int .i64 0), 1, 8) := by kernel_rfl

set_option maxRecDepth 100000 in
/-- One cell in a new block. -/
theorem one_new (w w' : World) (v : Value) (t : TypeId) (e : w' = w.alloc (.cells #[v] t)) : ∀ (j : Nat) (u : Value), [v][j]? = some u → w'.cell? ((⟨w.heap.size, 0, none⟩ : Addr).add j) = some u := by
  intro j u hj
  match j, hj with
  | 0, hj =>
    simp at hj
    subst hj
    subst e
    have := (Dk.Box.new w #[v] t).cell 0
    simpa [Addr.add] using this

end Go.Proofs.Ythpphicgkkhbfaa
