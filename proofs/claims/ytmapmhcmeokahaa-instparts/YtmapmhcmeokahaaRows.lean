/-
  No cell of these rows narrows 'for every input' (looked for: loops, veiled, ifaces, maps, wideKeys, modest, calm, conditions, laid).
  DERIVED. THE GIVEN ROWS OF THIS SEAT. 5 by the template 'for every input the law returns true; each argument reads behind the call as it read before'; 0 by the template 'total and deterministic' (their statements: YtmapmhcmeokahaaTotals.lean).
  GIVEN WITH THE SEED: the statements are not yours to turn. If you find one false, say at which input.
  Laid BY PROGRAM, IN A SANDBOX (cutbox-rows.mjs): the forced cells as the released guide's own fill.sh prints them over the translation 417932afdc94f0fc… (all of the seat's roots in one cut). By AI agents, Wed Nov 11 2026. No macro, syntax, notation, axiom, sorry.
-/
import Derived.Test.YtmapmhcmeokahaaChecked
import GoSem.Claim
import GoSem.ClaimJoined
import GoSem.ClaimMapViews
import Derived.JoinedTies
import Derived.KernelRfl
namespace Go.Proofs.Ytmapmhcmeokahaa
/- THE CELL 'sum', in the pinned program and in every row, IS THE sha256 OF THE DUMP (.gsa) THAT YtmapmhcmeokahaaProg.lean LOADS. Nothing in Lean hashes anything: it is a label: what it is worth is what the hold of that sum in a sandbox is worth. -/
noncomputable def Try.pinned : Pinned := { name := "ytmapmhcmeokahaa", sum := "417932afdc94f0fc6cad43511fe5ac18a6cd4d6e00cd4eb9d994d4716534d29f", checked := Try.checked }
namespace Rows
def none {H : Type} : Left H := { results := [], args := [] }

/-- 'drawknifelaw02.InstSound': WHATEVER THE INPUT: true; the input reads as it did. -/
def instSoundSpec : ChangeSpec := { name := "instSound", fn := fun _ => fun
  | [d1, d2] => { results := [.lit (.bool true)], args := [d1, d2] }
  | _ => none }
def instSoundRow : OpenClaim := { program := "ytmapmhcmeokahaa", sum := "417932afdc94f0fc6cad43511fe5ac18a6cd4d6e00cd4eb9d994d4716534d29f", func := "drawknife/drawknifelaw02.InstSound", spec := "instSound", apart := false }
def InstSoundSaid : Prop := instSoundRow.holds Try.pinned (OpenSpec.ofChange instSoundSpec)

/-- ITS FALSE NEIGHBOUR: 'it returns false'. Refute it at one input. -/
def instSoundWrong : ChangeSpec := { name := "instSound", fn := fun _ => fun
  | [d1, d2] => { results := [.lit (.bool false)], args := [d1, d2] }
  | _ => none }
def InstSoundWrongFalsely : Prop := instSoundRow.holds Try.pinned (OpenSpec.ofChange instSoundWrong)

/-- 'drawknifelaw02.InstChecks': WHATEVER THE INPUT: true; the input reads as it did. -/
def instChecksSpec : ChangeSpec := { name := "instChecks", fn := fun _ => fun
  | [d] => { results := [.lit (.bool true)], args := [d] }
  | _ => none }
def instChecksRow : OpenClaim := { program := "ytmapmhcmeokahaa", sum := "417932afdc94f0fc6cad43511fe5ac18a6cd4d6e00cd4eb9d994d4716534d29f", func := "drawknife/drawknifelaw02.InstChecks", spec := "instChecks", apart := false }
def InstChecksSaid : Prop := instChecksRow.holds Try.pinned (OpenSpec.ofChange instChecksSpec)

/-- ITS FALSE NEIGHBOUR: 'it returns false'. Refute it at one input. -/
def instChecksWrong : ChangeSpec := { name := "instChecks", fn := fun _ => fun
  | [d] => { results := [.lit (.bool false)], args := [d] }
  | _ => none }
def InstChecksWrongFalsely : Prop := instChecksRow.holds Try.pinned (OpenSpec.ofChange instChecksWrong)

/-- 'drawknifelaw02.InstClasses': WHATEVER THE INPUT: true; the input reads as it did. -/
def instClassesSpec : ChangeSpec := { name := "instClasses", fn := fun _ => fun
  | [d] => { results := [.lit (.bool true)], args := [d] }
  | _ => none }
def instClassesRow : OpenClaim := { program := "ytmapmhcmeokahaa", sum := "417932afdc94f0fc6cad43511fe5ac18a6cd4d6e00cd4eb9d994d4716534d29f", func := "drawknife/drawknifelaw02.InstClasses", spec := "instClasses", apart := false }
def InstClassesSaid : Prop := instClassesRow.holds Try.pinned (OpenSpec.ofChange instClassesSpec)

/-- ITS FALSE NEIGHBOUR: 'it returns false'. Refute it at one input. -/
def instClassesWrong : ChangeSpec := { name := "instClasses", fn := fun _ => fun
  | [d] => { results := [.lit (.bool false)], args := [d] }
  | _ => none }
def InstClassesWrongFalsely : Prop := instClassesRow.holds Try.pinned (OpenSpec.ofChange instClassesWrong)

/-- 'drawknifelaw02.InstParts': WHATEVER THE INPUT: true; the input reads as it did. -/
def instPartsSpec : ChangeSpec := { name := "instParts", fn := fun _ => fun
  | [d1, d2] => { results := [.lit (.bool true)], args := [d1, d2] }
  | _ => none }
def instPartsRow : OpenClaim := { program := "ytmapmhcmeokahaa", sum := "417932afdc94f0fc6cad43511fe5ac18a6cd4d6e00cd4eb9d994d4716534d29f", func := "drawknife/drawknifelaw02.InstParts", spec := "instParts", apart := false }
def InstPartsSaid : Prop := instPartsRow.holds Try.pinned (OpenSpec.ofChange instPartsSpec)

/-- ITS FALSE NEIGHBOUR: 'it returns false'. Refute it at one input. -/
def instPartsWrong : ChangeSpec := { name := "instParts", fn := fun _ => fun
  | [d1, d2] => { results := [.lit (.bool false)], args := [d1, d2] }
  | _ => none }
def InstPartsWrongFalsely : Prop := instPartsRow.holds Try.pinned (OpenSpec.ofChange instPartsWrong)

/-- 'drawknifelaw02.InstRegs': WHATEVER THE INPUT: true; the input reads as it did. -/
def instRegsSpec : ChangeSpec := { name := "instRegs", fn := fun _ => fun
  | [d1, d2, d3] => { results := [.lit (.bool true)], args := [d1, d2, d3] }
  | _ => none }
def instRegsRow : OpenClaim := { program := "ytmapmhcmeokahaa", sum := "417932afdc94f0fc6cad43511fe5ac18a6cd4d6e00cd4eb9d994d4716534d29f", func := "drawknife/drawknifelaw02.InstRegs", spec := "instRegs", apart := false }
def InstRegsSaid : Prop := instRegsRow.holds Try.pinned (OpenSpec.ofChange instRegsSpec)

/-- ITS FALSE NEIGHBOUR: 'it returns false'. Refute it at one input. -/
def instRegsWrong : ChangeSpec := { name := "instRegs", fn := fun _ => fun
  | [d1, d2, d3] => { results := [.lit (.bool false)], args := [d1, d2, d3] }
  | _ => none }
def InstRegsWrongFalsely : Prop := instRegsRow.holds Try.pinned (OpenSpec.ofChange instRegsWrong)

/- THE SECOND FORM. 'bulk': how many values and letters a reading holds, each counted each time it is reached (what is shared counts as often as it is met; a slice's spare places count too). A statement '..UptoSaid' is the law's where the arguments, and the package variables that the reading takes, are together of bulk at most 1048576: NARROWER than '..Said'. Prove '..Said' where nothing that the law and all that it calls make is longer than what came in: it says more and counts as full. Else prove '..UptoSaid'. A law counts once. -/
mutual
def uptoBulk {H : Type} : DataW H → Nat
  | .lit (.string bytes) => bytes.length + 1
  | .lit _ => 1
  | .nil => 1
  | .ptr d => uptoBulk d + 1
  | .slice elems spare => uptoBulkAll elems + uptoBulkAll spare + 1
  | .agg parts => uptoBulkAll parts + 1
  | .iface _ d => uptoBulk d + 1
  | .map entries => uptoBulkEntries entries + 1
  | .held _ => 1
def uptoBulkAll {H : Type} : List (DataW H) → Nat
  | [] => 0
  | d :: r => uptoBulk d + uptoBulkAll r
def uptoBulkEntries {H : Type} : List (Lit × DataW H) → Nat
  | [] => 0
  | x :: r => uptoBulkEntry x + uptoBulkEntries r
def uptoBulkEntry {H : Type} : Lit × DataW H → Nat
  | (.string bytes, d) => bytes.length + uptoBulk d + 1
  | (_, d) => uptoBulk d + 1
 end
def uptoSmall : (H : Type) → List (DataW H) → Bool := fun _ ds => decide (uptoBulkAll ds ≤ 1048576)
def OpenSpec.upto (s : _root_.Go.ChangeSpec) : _root_.Go.OpenSpec := { _root_.Go.OpenSpec.ofChange s with cond := some uptoSmall }

/-- 'drawknifelaw02.InstSound', WHERE WHAT IT READS IS OF BULK AT MOST 1048576: true; the input reads as it did. -/
def instSoundUptoRow : OpenClaim := { program := "ytmapmhcmeokahaa", sum := "417932afdc94f0fc6cad43511fe5ac18a6cd4d6e00cd4eb9d994d4716534d29f", func := "drawknife/drawknifelaw02.InstSound", spec := "instSound", apart := false, narrowed := true }
def InstSoundUptoSaid : Prop := instSoundUptoRow.holds Try.pinned (OpenSpec.upto instSoundSpec)

/-- 'drawknifelaw02.InstChecks', WHERE WHAT IT READS IS OF BULK AT MOST 1048576: true; the input reads as it did. -/
def instChecksUptoRow : OpenClaim := { program := "ytmapmhcmeokahaa", sum := "417932afdc94f0fc6cad43511fe5ac18a6cd4d6e00cd4eb9d994d4716534d29f", func := "drawknife/drawknifelaw02.InstChecks", spec := "instChecks", apart := false, narrowed := true }
def InstChecksUptoSaid : Prop := instChecksUptoRow.holds Try.pinned (OpenSpec.upto instChecksSpec)

/-- 'drawknifelaw02.InstClasses', WHERE WHAT IT READS IS OF BULK AT MOST 1048576: true; the input reads as it did. -/
def instClassesUptoRow : OpenClaim := { program := "ytmapmhcmeokahaa", sum := "417932afdc94f0fc6cad43511fe5ac18a6cd4d6e00cd4eb9d994d4716534d29f", func := "drawknife/drawknifelaw02.InstClasses", spec := "instClasses", apart := false, narrowed := true }
def InstClassesUptoSaid : Prop := instClassesUptoRow.holds Try.pinned (OpenSpec.upto instClassesSpec)

/-- 'drawknifelaw02.InstParts', WHERE WHAT IT READS IS OF BULK AT MOST 1048576: true; the input reads as it did. -/
def instPartsUptoRow : OpenClaim := { program := "ytmapmhcmeokahaa", sum := "417932afdc94f0fc6cad43511fe5ac18a6cd4d6e00cd4eb9d994d4716534d29f", func := "drawknife/drawknifelaw02.InstParts", spec := "instParts", apart := false, narrowed := true }
def InstPartsUptoSaid : Prop := instPartsUptoRow.holds Try.pinned (OpenSpec.upto instPartsSpec)

/-- 'drawknifelaw02.InstRegs', WHERE WHAT IT READS IS OF BULK AT MOST 1048576: true; the input reads as it did. -/
def instRegsUptoRow : OpenClaim := { program := "ytmapmhcmeokahaa", sum := "417932afdc94f0fc6cad43511fe5ac18a6cd4d6e00cd4eb9d994d4716534d29f", func := "drawknife/drawknifelaw02.InstRegs", spec := "instRegs", apart := false, narrowed := true }
def InstRegsUptoSaid : Prop := instRegsUptoRow.holds Try.pinned (OpenSpec.upto instRegsSpec)

end Rows
end Go.Proofs.Ytmapmhcmeokahaa
