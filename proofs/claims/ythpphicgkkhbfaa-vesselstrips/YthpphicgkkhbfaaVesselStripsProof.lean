/- Proved: for every input the statement VesselStrips answers true (what is left of any vessel that is taken away is what the document says), and each argument reads afterwards as it read before. Conditions: none. -/
import Derived.Test.YthpphicgkkhbfaaRows
import Derived.Test.YthpphicgkkhbfaaMem
import Derived.Test.YthpphicgkkhbfaaZf
import Derived.Test.YthpphicgkkhbfaaOpw
import Derived.Test.YthpphicgkkhbfaaOsz
import Derived.WalkKit
import Derived.ProofKit
import Derived.OpenShut
namespace Go.Proofs.Ythpphicgkkhbfaa.vesselStrips
open Go.ChangeShapes Go.WideShapes Go.ChangeAt Go.RowKit
set_option linter.unusedVariables false

theorem own : ownKnob Try.prog.godebug = none := by kernel_rfl
theorem laidOut : laidOutB Try.prog = true := by kernel_rfl
theorem res : Try.f3.resultTypes = #[4] := by kernel_rfl
theorem cells3 : Try.prog.cellsOf 3 = 1 := by kernel_rfl
theorem cells22 : Try.prog.cellsOf 22 = 1 := by kernel_rfl
theorem cells24 : Try.prog.cellsOf 24 = 3 := by kernel_rfl
theorem cells36 : Try.prog.cellsOf 36 = 3 := by kernel_rfl
theorem bytes36 : Try.prog.bytesOf 36 = 24 := by kernel_rfl
theorem rec24 : Try.prog.readableRec 24 = true ∧ 24 < Try.prog.types.size := ⟨by kernel_rfl, of_decide_eq_true (by kernel_rfl)⟩
theorem recs : ∀ t ∈ Try.f3.params.toList, Try.prog.readableRec t = true ∧ t < Try.prog.types.size := by
  rw [Try.params3]
  intro t ht
  simp only [List.mem_cons, List.not_mem_nil, or_false] at ht
  rw [ht]
  exact rec24
theorem spec {H : Type} : ∀ ds : List (DataW H), ds.length = Try.f3.params.toList.length → Rows.vesselStripsSpec.fn H ds = { results := [.lit (.bool true)], args := ds } := by
  rw [Try.params3]
  intro ds h
  match ds, h with
  | [d0], _ => rfl

set_option maxRecDepth 100000 in
theorem lifted (os : Os) (started : os.Started) (H : Type) (enc : TypeId × Value → H) :
    ReturnsInHanded {} Try.checked os 3 .any (Rows.vesselStripsSpec.pre6 enc Try.prog Try.f3 Rows.vesselStripsRow.domain false) (Rows.vesselStripsSpec.post enc Try.prog Try.f3 false true false false) := by
  refine returnsInHanded_of_change_sized (C := Try.checked) own started (by kernel_rfl) Try.func3
    (ChangeSpec.witness6 (enc := enc) (C := Try.checked) false ⟨#[], #[.agg #[.int .i64 0, .int .i64 0, .slice none 0 0]], []⟩ 8 (by kernel_rfl) (by kernel_rfl) (by kernel_rfl) (by kernel_rfl)) ?_
  intro W base args ds gs before hval0 hW hcnd hsz0 _
  have hval : ∀ (j : Nat) t v, Try.f3.params[j]? = some t → args[j]? = some v → Value.okWide Try.prog W .any base t v := hval0
  have hW' := hW
  obtain ⟨p, q, hA0, hV, rfl, hfz, hnd⟩ := hW
  have hA : DataW.TrodAll enc Try.prog W 0 (fun _ => true) true Try.f3.params.toList args.toList ds p := hA0
  have hsz : (DataW.weightsEach Try.prog (Try.f3.params.toList ++ Rows.vesselStripsSpec.plain.varTypes Try.prog) (ds ++ gs)).all (· ≤ reachBytes) = true := hsz0
  rw [Try.params3] at hA hval hsz
  obtain ⟨v0, vs0, d0, ds0, p0', q0, hargs, rfl, rfl, h0, r0⟩ := trodAll_cons hA
  obtain ⟨rfl, rfl, rfl⟩ := trodAll_nil r0
  obtain rfl : args = #[v0] := by cases args; simp_all
  obtain ⟨m0, t0, A0, L0, C0, xs0, hm0, ht0, rfl, hr0, hz0⟩ := Dk.open_ves (tI := 3) (tS := 22) (tE := 36) Try.underlying24 Try.underlying3 Try.underlying22 cells3 cells22 cells36 cells24 (Dk.el_ints (tI := 3) Try.underlying36 Try.underlying3 cells3 cells36 rfl (by decide)) ⟨rfl, rfl⟩ ⟨rfl, rfl⟩ ⟨rfl, rfl⟩ (hval 0 24 v0 rfl rfl) h0
  obtain ⟨es0, he0⟩ := Dk.row_sle hr0
  have hb0 : L0 * 24 ≤ 140737488351232 := by
    rcases hz0 with h00 | ⟨d0, d1, el, sp, rfl, hl, hs⟩
    · omega
    · have q := Dk.sized_ves hsz (j := 0) (t := 24) (tS := 22) (tE := 36) rfl rfl Try.underlying24 rfl Try.underlying22
      rw [bytes36, hl] at q
      simp only [reachBytes] at q
      have : L0 * 24 ≤ (L0 + sp.length) * 24 := Nat.mul_le_mul_right _ (Nat.le_add_right _ _)
      omega
  clear hA0 hval0
  refine (VesselStrips_any hm0 ht0 he0 (by omega)).mono fun e W' ⟨he, hb⟩ => ?_
  subst he
  exact ⟨_, rfl, Dk.law_post laidOut recs rfl res Try.underlying4 spec hW' hb⟩

theorem over : Rows.vesselStripsRow.holds Try.pinned (OpenSpec.ofChange Rows.vesselStripsSpec) :=
  OpenClaim.holds_of_wide 3 Try.f3 rfl rfl rfl rfl rfl rfl rfl ⟨rfl, rfl, rfl, rfl, rfl⟩ rfl rfl rfl rfl rfl (by kernel_rfl) Try.func3 (by kernel_rfl)
    (of_decide_eq_true (by kernel_rfl)) (by unfold Func.isWrapper; first | (rw [if_pos (by decide +kernel)]; kernel_rfl) | (rw [if_neg (by decide +kernel)]; exact ⟨rfl, rfl⟩))
    (fun os started H enc _ => lifted os started H enc)

theorem proved : Rows.VesselStripsSaid :=
  over
#print axioms proved
end Go.Proofs.Ythpphicgkkhbfaa.vesselStrips
