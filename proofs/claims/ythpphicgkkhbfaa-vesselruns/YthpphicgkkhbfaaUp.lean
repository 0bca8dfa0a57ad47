/- Regions that draw their order, whose calls may make memory and write nothing old: one walk of the text's order serves all orders. Of any program of the model. -/
import Derived.Test.YthpphicgkkhbfaaMem
import Derived.Deep.QuietTactic
import Derived.BigQuiet
import Derived.Deep.RegionWith
namespace Dk
set_option linter.unusedSimpArgs false
set_option linter.unusedVariables false
set_option linter.unnecessarySimpa false
open Go Go.RowKit

/-- The worlds in which nothing that lay in 'w' has been written. -/
def Up (w : World) : Type := { w' : World // Below w.heap.size w w' }
def Up.wd {w : World} (x : Up w) : World := x.val

theorem wp_region_up_lit {P : Go.Program} {id : Nat} {Q : Exit → Act → World → Prop} {a : Act} {w : World} {l : List Oper} (hm : P.follows .mixedOrders = true) (hB : Region.lexB .any l.toArray = true)
    (h : wpQuiet P l.toArray (fun w' => ∃ x : Up w, w' = x.wd) (fun a' => ∀ w', (∃ x : Up w, w' = x.wd) → Q .normal a' w') l a) : (Code.region id l.toArray true).wp P Q a w :=
  wp_region_quiet (C := fun w' => ∃ x : Up w, w' = x.wd) hm hB ⟨⟨_, up_drew (Below.refl _ _)⟩, rfl⟩ (by simpa using h)

/-- A callee's contract, met in such a world. -/
theorem calls_up {P : Go.Program} {f : FuncId} {args : Array Value} {w : World} {v : Value} (x : Up w)
    (h : Calls P f args x.wd fun e w' => e = .returned v ∧ Below x.wd.heap.size x.wd w') : Calls P f args x.wd fun e w'' => e = .returned v ∧ ∃ y : Up w, w'' = y.wd :=
  h.mono fun _ _ ⟨he, hb⟩ => ⟨he, ⟨_, up_call x.property hb⟩, rfl⟩
theorem calls_up_same {P : Go.Program} {f : FuncId} {args : Array Value} {w : World} {v : Value} (x : Up w)
    (h : Calls P f args x.wd fun e w' => e = .returned v ∧ w' = x.wd) : Calls P f args x.wd fun e w'' => e = .returned v ∧ ∃ y : Up w, w'' = y.wd :=
  h.mono fun _ _ ⟨he, hb⟩ => ⟨he, x, hb⟩

end Dk
