/-
  No cell of these rows narrows 'for every input' (looked for: loops, veiled, ifaces, maps, wideKeys, modest, calm, conditions, laid).
  DERIVED. THE GIVEN ROWS OF THIS SEAT. 4 by the template 'for every input the law returns true; each argument reads behind the call as it read before'; 0 by the template 'total and deterministic' (their statements: YthpphicgkkhbfaaTotals.lean).
  GIVEN WITH THE SEED: the statements are not yours to turn. If you find one false, say at which input.
  Laid BY PROGRAM, IN A SANDBOX (cutbox-rows.mjs): the forced cells as the released guide's own fill.sh prints them over the translation c6615d3f090921e6… (all of the seat's roots in one cut). By AI agents, Wed Nov 11 2026. No macro, syntax, notation, axiom, sorry.
-/
import Derived.Test.YthpphicgkkhbfaaChecked
import GoSem.Claim
import GoSem.ClaimJoined
import GoSem.ClaimMapViews
import Derived.JoinedTies
import Derived.KernelRfl
namespace Go.Proofs.Ythpphicgkkhbfaa
/- THE CELL 'sum', in the pinned program and in every row, IS THE sha256 OF THE DUMP (.gsa) THAT YthpphicgkkhbfaaProg.lean LOADS. Nothing in Lean hashes anything: it is a label: what it is worth is what the hold of that sum in a sandbox is worth. -/
noncomputable def Try.pinned : Pinned := { name := "ythpphicgkkhbfaa", sum := "c6615d3f090921e60ccc43087826015ab78bceeb2a06acf5b893a0d9177d07f1", checked := Try.checked }
namespace Rows
def none {H : Type} : Left H := { results := [], args := [] }

/-- 'drawknifelaw15.VesselStrips': WHATEVER THE INPUT: true; the input reads as it did. -/
def vesselStripsSpec : ChangeSpec := { name := "vesselStrips", fn := fun _ => fun
  | [d] => { results := [.lit (.bool true)], args := [d] }
  | _ => none }
def vesselStripsRow : OpenClaim := { program := "ythpphicgkkhbfaa", sum := "c6615d3f090921e60ccc43087826015ab78bceeb2a06acf5b893a0d9177d07f1", func := "drawknife/drawknifelaw15.VesselStrips", spec := "vesselStrips", apart := false }
def VesselStripsSaid : Prop := vesselStripsRow.holds Try.pinned (OpenSpec.ofChange vesselStripsSpec)

/-- ITS FALSE NEIGHBOUR: 'it returns false'. Refute it at one input. -/
def vesselStripsWrong : ChangeSpec := { name := "vesselStrips", fn := fun _ => fun
  | [d] => { results := [.lit (.bool false)], args := [d] }
  | _ => none }
def VesselStripsWrongFalsely : Prop := vesselStripsRow.holds Try.pinned (OpenSpec.ofChange vesselStripsWrong)

/-- 'drawknifelaw15.VesselRuns': WHATEVER THE INPUT: true; the input reads as it did. -/
def vesselRunsSpec : ChangeSpec := { name := "vesselRuns", fn := fun _ => fun
  | [d] => { results := [.lit (.bool true)], args := [d] }
  | _ => none }
def vesselRunsRow : OpenClaim := { program := "ythpphicgkkhbfaa", sum := "c6615d3f090921e60ccc43087826015ab78bceeb2a06acf5b893a0d9177d07f1", func := "drawknife/drawknifelaw15.VesselRuns", spec := "vesselRuns", apart := false }
def VesselRunsSaid : Prop := vesselRunsRow.holds Try.pinned (OpenSpec.ofChange vesselRunsSpec)

/-- ITS FALSE NEIGHBOUR: 'it returns false'. Refute it at one input. -/
def vesselRunsWrong : ChangeSpec := { name := "vesselRuns", fn := fun _ => fun
  | [d] => { results := [.lit (.bool false)], args := [d] }
  | _ => none }
def VesselRunsWrongFalsely : Prop := vesselRunsRow.holds Try.pinned (OpenSpec.ofChange vesselRunsWrong)

/-- 'drawknifelaw15.VesselTold': WHATEVER THE INPUT: true; the input reads as it did. -/
def vesselToldSpec : ChangeSpec := { name := "vesselTold", fn := fun _ => fun
  | [d1, d2] => { results := [.lit (.bool true)], args := [d1, d2] }
  | _ => none }
def vesselToldRow : OpenClaim := { program := "ythpphicgkkhbfaa", sum := "c6615d3f090921e60ccc43087826015ab78bceeb2a06acf5b893a0d9177d07f1", func := "drawknife/drawknifelaw15.VesselTold", spec := "vesselTold", apart := false }
def VesselToldSaid : Prop := vesselToldRow.holds Try.pinned (OpenSpec.ofChange vesselToldSpec)

/-- ITS FALSE NEIGHBOUR: 'it returns false'. Refute it at one input. -/
def vesselToldWrong : ChangeSpec := { name := "vesselTold", fn := fun _ => fun
  | [d1, d2] => { results := [.lit (.bool false)], args := [d1, d2] }
  | _ => none }
def VesselToldWrongFalsely : Prop := vesselToldRow.holds Try.pinned (OpenSpec.ofChange vesselToldWrong)

/-- 'drawknifelaw15.VesselKeeps': WHATEVER THE INPUT: true; the input reads as it did. -/
def vesselKeepsSpec : ChangeSpec := { name := "vesselKeeps", fn := fun _ => fun
  | [d1, d2] => { results := [.lit (.bool true)], args := [d1, d2] }
  | _ => none }
def vesselKeepsRow : OpenClaim := { program := "ythpphicgkkhbfaa", sum := "c6615d3f090921e60ccc43087826015ab78bceeb2a06acf5b893a0d9177d07f1", func := "drawknife/drawknifelaw15.VesselKeeps", spec := "vesselKeeps", apart := false }
def VesselKeepsSaid : Prop := vesselKeepsRow.holds Try.pinned (OpenSpec.ofChange vesselKeepsSpec)

/-- ITS FALSE NEIGHBOUR: 'it returns false'. Refute it at one input. -/
def vesselKeepsWrong : ChangeSpec := { name := "vesselKeeps", fn := fun _ => fun
  | [d1, d2] => { results := [.lit (.bool false)], args := [d1, d2] }
  | _ => none }
def VesselKeepsWrongFalsely : Prop := vesselKeepsRow.holds Try.pinned (OpenSpec.ofChange vesselKeepsWrong)

/- THE SECOND FORM. 'bulk': how many values and letters a reading holds, each counted each time it is reached (what is shared counts as often as it is met; a slice's spare places count too). A statement '..UptoSaid' is the law's where the arguments, and the package variables that the reading takes, are together of bulk at most 1048576: NARROWER than '..Said'. Prove '..Said' where nothing that the law and all that it calls make is longer than what came in: it says more and counts as full. Else prove '..UptoSaid'. A law counts once. -/
mutual
def uptoBulk {H : Type} : DataW H → Nat
  | .lit (.string bytes) => bytes.length + 1
  | .lit _ => 1
  | .nil => 1
  | .ptr d => uptoBulk d + 1
  | .slice elems spare => uptoBulkAll elems + uptoBulkAll spare + 1
  | .agg parts => uptoBulkAll parts + 1
  | .iface _ d => uptoBulk d + 1
  | .map entries => uptoBulkEntries entries + 1
  | .held _ => 1
def uptoBulkAll {H : Type} : List (DataW H) → Nat
  | [] => 0
  | d :: r => uptoBulk d + uptoBulkAll r
def uptoBulkEntries {H : Type} : List (Lit × DataW H) → Nat
  | [] => 0
  | x :: r => uptoBulkEntry x + uptoBulkEntries r
def uptoBulkEntry {H : Type} : Lit × DataW H → Nat
  | (.string bytes, d) => bytes.length + uptoBulk d + 1
  | (_, d) => uptoBulk d + 1
 end
def uptoSmall : (H : Type) → List (DataW H) → Bool := fun _ ds => decide (uptoBulkAll ds ≤ 1048576)
def OpenSpec.upto (s : _root_.Go.ChangeSpec) : _root_.Go.OpenSpec := { _root_.Go.OpenSpec.ofChange s with cond := some uptoSmall }

/-- 'drawknifelaw15.VesselStrips', WHERE WHAT IT READS IS OF BULK AT MOST 1048576: true; the input reads as it did. -/
def vesselStripsUptoRow : OpenClaim := { program := "ythpphicgkkhbfaa", sum := "c6615d3f090921e60ccc43087826015ab78bceeb2a06acf5b893a0d9177d07f1", func := "drawknife/drawknifelaw15.VesselStrips", spec := "vesselStrips", apart := false, narrowed := true }
def VesselStripsUptoSaid : Prop := vesselStripsUptoRow.holds Try.pinned (OpenSpec.upto vesselStripsSpec)

/-- 'drawknifelaw15.VesselRuns', WHERE WHAT IT READS IS OF BULK AT MOST 1048576: true; the input reads as it did. -/
def vesselRunsUptoRow : OpenClaim := { program := "ythpphicgkkhbfaa", sum := "c6615d3f090921e60ccc43087826015ab78bceeb2a06acf5b893a0d9177d07f1", func := "drawknife/drawknifelaw15.VesselRuns", spec := "vesselRuns", apart := false, narrowed := true }
def VesselRunsUptoSaid : Prop := vesselRunsUptoRow.holds Try.pinned (OpenSpec.upto vesselRunsSpec)

/-- 'drawknifelaw15.VesselTold', WHERE WHAT IT READS IS OF BULK AT MOST 1048576: true; the input reads as it did. -/
def vesselToldUptoRow : OpenClaim := { program := "ythpphicgkkhbfaa", sum := "c6615d3f090921e60ccc43087826015ab78bceeb2a06acf5b893a0d9177d07f1", func := "drawknife/drawknifelaw15.VesselTold", spec := "vesselTold", apart := false, narrowed := true }
def VesselToldUptoSaid : Prop := vesselToldUptoRow.holds Try.pinned (OpenSpec.upto vesselToldSpec)

/-- 'drawknifelaw15.VesselKeeps', WHERE WHAT IT READS IS OF BULK AT MOST 1048576: true; the input reads as it did. -/
def vesselKeepsUptoRow : OpenClaim := { program := "ythpphicgkkhbfaa", sum := "c6615d3f090921e60ccc43087826015ab78bceeb2a06acf5b893a0d9177d07f1", func := "drawknife/drawknifelaw15.VesselKeeps", spec := "vesselKeeps", apart := false, narrowed := true }
def VesselKeepsUptoSaid : Prop := vesselKeepsUptoRow.holds Try.pinned (OpenSpec.upto vesselKeepsSpec)

end Rows
end Go.Proofs.Ythpphicgkkhbfaa
