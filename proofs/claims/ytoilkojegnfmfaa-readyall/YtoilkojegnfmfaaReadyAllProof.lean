/- Proved: for every input the statement ReadyAll answers true (for every input the statement ReadyAll answers true (whoever picks, all that came in come out, each once), and each argument reads afterwards as it read before), and each argument reads afterwards as it read before. Conditions: none. -/
import Derived.Test.YtoilkojegnfmfaaRows
import Derived.Test.YtoilkojegnfmfaaMem
import Derived.Test.YtoilkojegnfmfaaYp
import Derived.Test.YtoilkojegnfmfaaOpm
import Derived.WalkKit
import Derived.ProofKit
import Derived.OpenShut
namespace Go.Proofs.Ytoilkojegnfmfaa.readyAll
open Go.ChangeShapes Go.WideShapes Go.ChangeAt Go.RowKit
set_option linter.unusedVariables false

theorem own : ownKnob Try.prog.godebug = none := by kernel_rfl
theorem laidOut : laidOutB Try.prog = true := by kernel_rfl
theorem res : Try.f4.resultTypes = #[4] := by kernel_rfl
theorem cells5 : Try.prog.cellsOf 5 = 1 := by kernel_rfl
theorem rec5 : Try.prog.readableRec 5 = true ∧ 5 < Try.prog.types.size := ⟨by kernel_rfl, of_decide_eq_true (by kernel_rfl)⟩
theorem rec38 : Try.prog.readableRec 38 = true ∧ 38 < Try.prog.types.size := ⟨by kernel_rfl, of_decide_eq_true (by kernel_rfl)⟩
theorem recs : ∀ t ∈ Try.f4.params.toList, Try.prog.readableRec t = true ∧ t < Try.prog.types.size := by
  rw [Try.params4]
  intro t ht
  simp only [List.mem_cons, List.not_mem_nil, or_false] at ht
  rcases ht with rfl | rfl | rfl
  · exact rec5
  · exact rec38
  · exact rec38
theorem spec {H : Type} : ∀ ds : List (DataW H), ds.length = Try.f4.params.toList.length → Rows.readyAllSpec.fn H ds = { results := [.lit (.bool true)], args := ds } := by
  rw [Try.params4]
  intro ds h
  match ds, h with
  | [d0, d1, d2], _ => rfl

set_option maxRecDepth 100000 in
theorem lifted (os : Os) (started : os.Started) (H : Type) (enc : TypeId × Value → H) :
    ReturnsInHanded {} Try.checked os 4 .any (Rows.readyAllSpec.pre6 enc Try.prog Try.f4 Rows.readyAllRow.domain false) (Rows.readyAllSpec.post enc Try.prog Try.f4 false true false false) := by
  refine returnsInHanded_of_change (C := Try.checked) own started (by kernel_rfl) Try.func4
    (ChangeSpec.witness6 (enc := enc) (C := Try.checked) false ⟨#[], #[.int .u8 0, .slice none 0 0, .slice none 0 0], []⟩ 8 (by kernel_rfl) (by kernel_rfl) (by kernel_rfl) (by kernel_rfl)) ?_
  intro W base args ds gs before hval0 hW hcnd _
  have hval : ∀ (j : Nat) t v, Try.f4.params[j]? = some t → args[j]? = some v → Value.okWide Try.prog W .any base t v := hval0
  have hW' := hW
  obtain ⟨p, q, hA0, hV, rfl, hfz, hnd⟩ := hW
  have hA : DataW.TrodAll enc Try.prog W 0 (fun _ => true) true Try.f4.params.toList args.toList ds p := hA0
  rw [Try.params4] at hA hval
  obtain ⟨v0, vs0, d0, ds0, p0', q0, hargs, rfl, rfl, h0, r0⟩ := trodAll_cons hA
  obtain ⟨v1, vs1, d1, ds1, p1', q1, rfl, rfl, rfl, h1, r1⟩ := trodAll_cons r0
  obtain ⟨v2, vs2, d2, ds2, p2', q2, rfl, rfl, rfl, h2, r2⟩ := trodAll_cons r1
  obtain ⟨rfl, rfl, rfl⟩ := trodAll_nil r2
  obtain rfl : args = #[v0, v1, v2] := by cases args; simp_all
  obtain ⟨a0, rfl, rfl, rfl, w0⟩ := open_int Try.underlying5 (hval 0 5 v0 rfl rfl) h0
  obtain ⟨n0, rfl, hn0⟩ := Dk.wf_u8 w0
  obtain ⟨A1, L1, C1, xs1, rfl, hr1⟩ := Dk.open_row (n := 1) (d0 := 0) (R := Dk.IsByte) Try.underlying38 cells5 (by decide) (Dk.el_byte Try.underlying5) (hval 1 38 v1 rfl rfl) h1
  obtain ⟨A2, L2, C2, xs2, rfl, hr2⟩ := Dk.open_row (n := 1) (d0 := 0) (R := Dk.IsByte) Try.underlying38 cells5 (by decide) (Dk.el_byte Try.underlying5) (hval 2 38 v2 rfl rfl) h2
  clear hA0 hval0
  refine (ReadyAll_any rowsR n0 hn0 A1 L1 C1 xs1 A2 L2 C2 xs2 W hr1 hr2).mono fun e W' ⟨he, hb⟩ => ?_
  subst he
  exact ⟨_, rfl, Dk.law_post laidOut recs rfl res Try.underlying4 spec hW' hb⟩

theorem over : Rows.readyAllRow.holds Try.pinned (OpenSpec.ofChange Rows.readyAllSpec) :=
  OpenClaim.holds_of_wide 4 Try.f4 rfl rfl rfl rfl rfl rfl rfl ⟨rfl, rfl, rfl, rfl, rfl⟩ rfl rfl rfl rfl rfl (by kernel_rfl) Try.func4 (by kernel_rfl)
    (of_decide_eq_true (by kernel_rfl)) (by unfold Func.isWrapper; first | (rw [if_pos (by decide +kernel)]; kernel_rfl) | (rw [if_neg (by decide +kernel)]; exact ⟨rfl, rfl⟩))
    (fun os started H enc _ => lifted os started H enc)

theorem proved : Rows.ReadyAllSaid :=
  over
#print axioms proved
end Go.Proofs.Ytoilkojegnfmfaa.readyAll
