/- Proved: for every input the statement EventWithin answers true (the first of any events that was taken away within a section, and the others, are what the document answers), and each argument reads afterwards as it read before. Conditions: none. -/
import Derived.Test.YtogddcbggenjmaaRows
import Derived.Test.YtogddcbggenjmaaMem
import Derived.Test.YtogddcbggenjmaaEg
import Derived.Test.YtogddcbggenjmaaOpd
import Derived.Test.YtogddcbggenjmaaOsz
import Derived.WalkKit
import Derived.ProofKit
import Derived.OpenShut
namespace Go.Proofs.Ytogddcbggenjmaa.eventWithin
open Go.ChangeShapes Go.WideShapes Go.ChangeAt Go.RowKit
set_option linter.unusedVariables false

theorem own : ownKnob Try.prog.godebug = none := by kernel_rfl
theorem laidOut : laidOutB Try.prog = true := by kernel_rfl
theorem res : Try.f4.resultTypes = #[4] := by kernel_rfl
theorem cells3 : Try.prog.cellsOf 3 = 1 := by kernel_rfl
theorem cells25 : Try.prog.cellsOf 25 = 3 := by kernel_rfl
theorem bytes25 : Try.prog.bytesOf 25 = 24 := by kernel_rfl
theorem rec22 : Try.prog.readableRec 22 = true ∧ 22 < Try.prog.types.size := ⟨by kernel_rfl, of_decide_eq_true (by kernel_rfl)⟩
theorem recs : ∀ t ∈ Try.f4.params.toList, Try.prog.readableRec t = true ∧ t < Try.prog.types.size := by
  rw [Try.params4]
  intro t ht
  simp only [List.mem_cons, List.not_mem_nil, or_false] at ht
  rw [ht]
  exact rec22
theorem spec {H : Type} : ∀ ds : List (DataW H), ds.length = Try.f4.params.toList.length → Rows.eventWithinSpec.fn H ds = { results := [.lit (.bool true)], args := ds } := by
  rw [Try.params4]
  intro ds h
  match ds, h with
  | [d0], _ => rfl

set_option maxRecDepth 100000 in
theorem lifted (os : Os) (started : os.Started) (H : Type) (enc : TypeId × Value → H) :
    ReturnsInHanded {} Try.checked os 4 .any (Rows.eventWithinSpec.pre6 enc Try.prog Try.f4 Rows.eventWithinRow.domain false) (Rows.eventWithinSpec.post enc Try.prog Try.f4 false true false false) := by
  refine returnsInHanded_of_change_sized (C := Try.checked) own started (by kernel_rfl) Try.func4
    (ChangeSpec.witness6 (enc := enc) (C := Try.checked) false ⟨#[], #[.slice none 0 0], []⟩ 8 (by kernel_rfl) (by kernel_rfl) (by kernel_rfl) (by kernel_rfl)) ?_
  intro W base args ds gs before hval0 hW hcnd hsz0 _
  have hval : ∀ (j : Nat) t v, Try.f4.params[j]? = some t → args[j]? = some v → Value.okWide Try.prog W .any base t v := hval0
  have hW' := hW
  obtain ⟨p, q, hA0, hV, rfl, hfz, hnd⟩ := hW
  have hA : DataW.TrodAll enc Try.prog W 0 (fun _ => true) true Try.f4.params.toList args.toList ds p := hA0
  have hsz : (DataW.weightsEach Try.prog (Try.f4.params.toList ++ Rows.eventWithinSpec.plain.varTypes Try.prog) (ds ++ gs)).all (· ≤ reachBytes) = true := hsz0
  rw [Try.params4] at hA hval hsz
  obtain ⟨v0, vs0, d0, ds0, p0', q0, hargs, rfl, rfl, h0, r0⟩ := trodAll_cons hA
  obtain ⟨rfl, rfl, rfl⟩ := trodAll_nil r0
  obtain rfl : args = #[v0] := by cases args; simp_all
  obtain ⟨A0, L0, C0, xs0, rfl, hr0⟩ := Dk.open_row (n := 3) (d0 := []) (R := Dk.IsInts) Try.underlying22 cells25 (by decide) (Dk.el_ints (tI := 3) Try.underlying25 Try.underlying3 cells3 cells25 rfl (by decide)) (hval 0 22 v0 rfl rfl) h0
  obtain ⟨es0, he0⟩ := Dk.row_sle hr0
  have hb0 : L0 * 24 ≤ 140737488351232 := by
    rcases Dk.row_elems Try.underlying22 h0 with h00 | ⟨el, sp, rfl, hl, hs⟩
    · omega
    · have q := sized_slice hsz (j := 0) (t := 22) (e := 25) rfl rfl Try.underlying22
      rw [bytes25, hl] at q
      simp only [reachBytes] at q
      have : L0 * 24 ≤ (L0 + sp.length) * 24 := Nat.mul_le_mul_right _ (Nat.le_add_right _ _)
      omega
  clear hA0 hval0
  refine (EventWithin_any he0 (by omega)).mono fun e W' ⟨he, hb⟩ => ?_
  subst he
  exact ⟨_, rfl, Dk.law_post laidOut recs rfl res Try.underlying4 spec hW' hb⟩

theorem over : Rows.eventWithinRow.holds Try.pinned (OpenSpec.ofChange Rows.eventWithinSpec) :=
  OpenClaim.holds_of_wide 4 Try.f4 rfl rfl rfl rfl rfl rfl rfl ⟨rfl, rfl, rfl, rfl, rfl⟩ rfl rfl rfl rfl rfl (by kernel_rfl) Try.func4 (by kernel_rfl)
    (of_decide_eq_true (by kernel_rfl)) (by unfold Func.isWrapper; first | (rw [if_pos (by decide +kernel)]; kernel_rfl) | (rw [if_neg (by decide +kernel)]; exact ⟨rfl, rfl⟩))
    (fun os started H enc _ => lifted os started H enc)

theorem proved : Rows.EventWithinSaid :=
  over
#print axioms proved
end Go.Proofs.Ytogddcbggenjmaa.eventWithin
