/-
  No cell of these rows narrows 'for every input' (looked for: loops, veiled, ifaces, maps, wideKeys, modest, calm, conditions, laid).
  DERIVED. THE GIVEN ROWS OF THIS SEAT. 5 by the template 'for every input the law returns true; each argument reads behind the call as it read before'; 0 by the template 'total and deterministic' (their statements: YtpnajphbjfehnaaGreatTotals.lean).
  GIVEN WITH THE SEED: the statements are not yours to turn. If you find one false, say at which input.
  Laid BY PROGRAM, IN A SANDBOX (cutbox-rows.mjs): the forced cells as the released guide's own fill.sh prints them over the translation a71ae5b25fdffaca… (all of the seat's roots in one cut). By AI agents, Wed Nov 11 2026. No macro, syntax, notation, axiom, sorry.
-/
import Derived.Test.YtpnajphbjfehnaaGreatChecked
import GoSem.Claim
import GoSem.ClaimJoined
import GoSem.ClaimMapViews
import Derived.JoinedTies
import Derived.KernelRfl
namespace Go.Proofs.YtpnajphbjfehnaaGreat
/- THE CELL 'sum', in the pinned program and in every row, IS THE sha256 OF THE DUMP (.gsa) THAT YtpnajphbjfehnaaGreatProg.lean LOADS. Nothing in Lean hashes anything: it is a label: what it is worth is what the hold of that sum in a sandbox is worth. -/
noncomputable def Tryz.pinned : Pinned := { name := "ytpnajphbjfehnaagreat", sum := "a71ae5b25fdffaca2bd8597e217891d6cd189fd8b64f10d651dc4e4929117d99", checked := Tryz.checked }
namespace Rows
def none {H : Type} : Left H := { results := [], args := [] }

/-- 'drawknifelaw16.LibPlays': WHATEVER THE INPUT: true; the input reads as it did. -/
def libPlaysSpec : ChangeSpec := { name := "libPlays", fn := fun _ => fun
  | [d1, d2, d3] => { results := [.lit (.bool true)], args := [d1, d2, d3] }
  | _ => none }
def libPlaysRow : OpenClaim := { program := "ytpnajphbjfehnaagreat", sum := "a71ae5b25fdffaca2bd8597e217891d6cd189fd8b64f10d651dc4e4929117d99", func := "drawknife/drawknifelaw16.LibPlays", spec := "libPlays", inPlace := ["math.Float64frombits", "math.Float64bits"], unfollowed := true, recurses := true, apart := false }
def LibPlaysSaid : Prop := libPlaysRow.holds Tryz.pinned (OpenSpec.ofChange libPlaysSpec)

/-- ITS FALSE NEIGHBOUR: 'it returns false'. Refute it at one input. -/
def libPlaysWrong : ChangeSpec := { name := "libPlays", fn := fun _ => fun
  | [d1, d2, d3] => { results := [.lit (.bool false)], args := [d1, d2, d3] }
  | _ => none }
def LibPlaysWrongFalsely : Prop := libPlaysRow.holds Tryz.pinned (OpenSpec.ofChange libPlaysWrong)

/-- 'drawknifelaw16.LibLocks': WHATEVER THE INPUT: true; the input reads as it did. -/
def libLocksSpec : ChangeSpec := { name := "libLocks", fn := fun _ => fun
  | [d1, d2, d3] => { results := [.lit (.bool true)], args := [d1, d2, d3] }
  | _ => none }
def libLocksRow : OpenClaim := { program := "ytpnajphbjfehnaagreat", sum := "a71ae5b25fdffaca2bd8597e217891d6cd189fd8b64f10d651dc4e4929117d99", func := "drawknife/drawknifelaw16.LibLocks", spec := "libLocks", inPlace := ["math.Float64frombits", "math.Float64bits"], unfollowed := true, recurses := true, apart := false }
def LibLocksSaid : Prop := libLocksRow.holds Tryz.pinned (OpenSpec.ofChange libLocksSpec)

/-- ITS FALSE NEIGHBOUR: 'it returns false'. Refute it at one input. -/
def libLocksWrong : ChangeSpec := { name := "libLocks", fn := fun _ => fun
  | [d1, d2, d3] => { results := [.lit (.bool false)], args := [d1, d2, d3] }
  | _ => none }
def LibLocksWrongFalsely : Prop := libLocksRow.holds Tryz.pinned (OpenSpec.ofChange libLocksWrong)

/-- 'drawknifelaw16.LibNone': WHATEVER THE INPUT: true; the input reads as it did. -/
def libNoneSpec : ChangeSpec := { name := "libNone", fn := fun _ => fun
  | [d1, d2, d3] => { results := [.lit (.bool true)], args := [d1, d2, d3] }
  | _ => none }
def libNoneRow : OpenClaim := { program := "ytpnajphbjfehnaagreat", sum := "a71ae5b25fdffaca2bd8597e217891d6cd189fd8b64f10d651dc4e4929117d99", func := "drawknife/drawknifelaw16.LibNone", spec := "libNone", inPlace := ["math.Float64frombits", "math.Float64bits"], unfollowed := true, recurses := true, apart := false }
def LibNoneSaid : Prop := libNoneRow.holds Tryz.pinned (OpenSpec.ofChange libNoneSpec)

/-- ITS FALSE NEIGHBOUR: 'it returns false'. Refute it at one input. -/
def libNoneWrong : ChangeSpec := { name := "libNone", fn := fun _ => fun
  | [d1, d2, d3] => { results := [.lit (.bool false)], args := [d1, d2, d3] }
  | _ => none }
def LibNoneWrongFalsely : Prop := libNoneRow.holds Tryz.pinned (OpenSpec.ofChange libNoneWrong)

/-- 'drawknifelaw16.LibKeeps': WHATEVER THE INPUT: true; the input reads as it did. -/
def libKeepsSpec : ChangeSpec := { name := "libKeeps", fn := fun _ => fun
  | [d1, d2, d3] => { results := [.lit (.bool true)], args := [d1, d2, d3] }
  | _ => none }
def libKeepsRow : OpenClaim := { program := "ytpnajphbjfehnaagreat", sum := "a71ae5b25fdffaca2bd8597e217891d6cd189fd8b64f10d651dc4e4929117d99", func := "drawknife/drawknifelaw16.LibKeeps", spec := "libKeeps", inPlace := ["math.Float64frombits", "math.Float64bits"], unfollowed := true, recurses := true, apart := false }
def LibKeepsSaid : Prop := libKeepsRow.holds Tryz.pinned (OpenSpec.ofChange libKeepsSpec)

/-- ITS FALSE NEIGHBOUR: 'it returns false'. Refute it at one input. -/
def libKeepsWrong : ChangeSpec := { name := "libKeeps", fn := fun _ => fun
  | [d1, d2, d3] => { results := [.lit (.bool false)], args := [d1, d2, d3] }
  | _ => none }
def LibKeepsWrongFalsely : Prop := libKeepsRow.holds Tryz.pinned (OpenSpec.ofChange libKeepsWrong)

/-- 'drawknifelaw16.LibSpins': WHATEVER THE INPUT: true; the input reads as it did. -/
def libSpinsSpec : ChangeSpec := { name := "libSpins", fn := fun _ => fun
  | [d1, d2, d3, d4] => { results := [.lit (.bool true)], args := [d1, d2, d3, d4] }
  | _ => none }
def libSpinsRow : OpenClaim := { program := "ytpnajphbjfehnaagreat", sum := "a71ae5b25fdffaca2bd8597e217891d6cd189fd8b64f10d651dc4e4929117d99", func := "drawknife/drawknifelaw16.LibSpins", spec := "libSpins", inPlace := ["math.Float64frombits", "math.Float64bits"], unfollowed := true, recurses := true, apart := false }
def LibSpinsSaid : Prop := libSpinsRow.holds Tryz.pinned (OpenSpec.ofChange libSpinsSpec)

/-- ITS FALSE NEIGHBOUR: 'it returns false'. Refute it at one input. -/
def libSpinsWrong : ChangeSpec := { name := "libSpins", fn := fun _ => fun
  | [d1, d2, d3, d4] => { results := [.lit (.bool false)], args := [d1, d2, d3, d4] }
  | _ => none }
def LibSpinsWrongFalsely : Prop := libSpinsRow.holds Tryz.pinned (OpenSpec.ofChange libSpinsWrong)

/- THE SECOND FORM. 'bulk': how many values and letters a reading holds, each counted each time it is reached (what is shared counts as often as it is met; a slice's spare places count too). A statement '..UptoSaid' is the law's where the arguments, and the package variables that the reading takes, are together of bulk at most 1048576: NARROWER than '..Said'. Prove '..Said' where nothing that the law and all that it calls make is longer than what came in: it says more and counts as full. Else prove '..UptoSaid'. A law counts once. -/
mutual
def uptoBulk {H : Type} : DataW H → Nat
  | .lit (.string bytes) => bytes.length + 1
  | .lit _ => 1
  | .nil => 1
  | .ptr d => uptoBulk d + 1
  | .slice elems spare => uptoBulkAll elems + uptoBulkAll spare + 1
  | .agg parts => uptoBulkAll parts + 1
  | .iface _ d => uptoBulk d + 1
  | .map entries => uptoBulkEntries entries + 1
  | .held _ => 1
def uptoBulkAll {H : Type} : List (DataW H) → Nat
  | [] => 0
  | d :: r => uptoBulk d + uptoBulkAll r
def uptoBulkEntries {H : Type} : List (Lit × DataW H) → Nat
  | [] => 0
  | x :: r => uptoBulkEntry x + uptoBulkEntries r
def uptoBulkEntry {H : Type} : Lit × DataW H → Nat
  | (.string bytes, d) => bytes.length + uptoBulk d + 1
  | (_, d) => uptoBulk d + 1
 end
def uptoSmall : (H : Type) → List (DataW H) → Bool := fun _ ds => decide (uptoBulkAll ds ≤ 1048576)
def OpenSpec.upto (s : _root_.Go.ChangeSpec) : _root_.Go.OpenSpec := { _root_.Go.OpenSpec.ofChange s with cond := some uptoSmall }

/-- 'drawknifelaw16.LibPlays', WHERE WHAT IT READS IS OF BULK AT MOST 1048576: true; the input reads as it did. -/
def libPlaysUptoRow : OpenClaim := { program := "ytpnajphbjfehnaagreat", sum := "a71ae5b25fdffaca2bd8597e217891d6cd189fd8b64f10d651dc4e4929117d99", func := "drawknife/drawknifelaw16.LibPlays", spec := "libPlays", inPlace := ["math.Float64frombits", "math.Float64bits"], unfollowed := true, recurses := true, apart := false, narrowed := true }
def LibPlaysUptoSaid : Prop := libPlaysUptoRow.holds Tryz.pinned (OpenSpec.upto libPlaysSpec)

/-- 'drawknifelaw16.LibLocks', WHERE WHAT IT READS IS OF BULK AT MOST 1048576: true; the input reads as it did. -/
def libLocksUptoRow : OpenClaim := { program := "ytpnajphbjfehnaagreat", sum := "a71ae5b25fdffaca2bd8597e217891d6cd189fd8b64f10d651dc4e4929117d99", func := "drawknife/drawknifelaw16.LibLocks", spec := "libLocks", inPlace := ["math.Float64frombits", "math.Float64bits"], unfollowed := true, recurses := true, apart := false, narrowed := true }
def LibLocksUptoSaid : Prop := libLocksUptoRow.holds Tryz.pinned (OpenSpec.upto libLocksSpec)

/-- 'drawknifelaw16.LibNone', WHERE WHAT IT READS IS OF BULK AT MOST 1048576: true; the input reads as it did. -/
def libNoneUptoRow : OpenClaim := { program := "ytpnajphbjfehnaagreat", sum := "a71ae5b25fdffaca2bd8597e217891d6cd189fd8b64f10d651dc4e4929117d99", func := "drawknife/drawknifelaw16.LibNone", spec := "libNone", inPlace := ["math.Float64frombits", "math.Float64bits"], unfollowed := true, recurses := true, apart := false, narrowed := true }
def LibNoneUptoSaid : Prop := libNoneUptoRow.holds Tryz.pinned (OpenSpec.upto libNoneSpec)

/-- 'drawknifelaw16.LibKeeps', WHERE WHAT IT READS IS OF BULK AT MOST 1048576: true; the input reads as it did. -/
def libKeepsUptoRow : OpenClaim := { program := "ytpnajphbjfehnaagreat", sum := "a71ae5b25fdffaca2bd8597e217891d6cd189fd8b64f10d651dc4e4929117d99", func := "drawknife/drawknifelaw16.LibKeeps", spec := "libKeeps", inPlace := ["math.Float64frombits", "math.Float64bits"], unfollowed := true, recurses := true, apart := false, narrowed := true }
def LibKeepsUptoSaid : Prop := libKeepsUptoRow.holds Tryz.pinned (OpenSpec.upto libKeepsSpec)

/-- 'drawknifelaw16.LibSpins', WHERE WHAT IT READS IS OF BULK AT MOST 1048576: true; the input reads as it did. -/
def libSpinsUptoRow : OpenClaim := { program := "ytpnajphbjfehnaagreat", sum := "a71ae5b25fdffaca2bd8597e217891d6cd189fd8b64f10d651dc4e4929117d99", func := "drawknife/drawknifelaw16.LibSpins", spec := "libSpins", inPlace := ["math.Float64frombits", "math.Float64bits"], unfollowed := true, recurses := true, apart := false, narrowed := true }
def LibSpinsUptoSaid : Prop := libSpinsUptoRow.holds Tryz.pinned (OpenSpec.upto libSpinsSpec)

end Rows
end Go.Proofs.YtpnajphbjfehnaaGreat
