/- Proved: for every input the statement OneApart answers true (a space of the model is what it is by its own acts, and the clock's, alone), and each argument reads afterwards as it read before. Conditions: none. -/
import Derived.Test.YtglhhlfopccmaaaGreatOq44

namespace Go.Proofs.YtglhhlfopccmaaaGreat.oneApart
open Go.ChangeShapes Go.WideShapes Go.ChangeAt Go.RowKit
set_option linter.unusedVariables false

theorem own : ownKnob Tryz.prog.godebug = none := by kernel_rfl
theorem laidOut : laidOutB Tryz.prog = true := by kernel_rfl
theorem res : Tryz.f9.resultTypes = #[4] := by kernel_rfl
theorem cells3 : Tryz.prog.cellsOf 3 = 1 := by kernel_rfl
theorem cells22 : Tryz.prog.cellsOf 22 = 1 := by kernel_rfl
theorem cells23 : Tryz.prog.cellsOf 23 = 1 := by kernel_rfl
theorem cells25 : Tryz.prog.cellsOf 25 = 8 := by kernel_rfl
theorem cells38 : Tryz.prog.cellsOf 38 = 1 := by kernel_rfl
theorem cells88 : Tryz.prog.cellsOf 88 = 4 := by kernel_rfl
theorem cells112 : Tryz.prog.cellsOf 112 = 5 := by kernel_rfl
theorem cells123 : Tryz.prog.cellsOf 123 = 1 := by kernel_rfl
theorem rec5 : Tryz.prog.readableRec 5 = true ∧ 5 < Tryz.prog.types.size := ⟨by kernel_rfl, of_decide_eq_true (by kernel_rfl)⟩
theorem rec79 : Tryz.prog.readableRec 79 = true ∧ 79 < Tryz.prog.types.size := ⟨by kernel_rfl, of_decide_eq_true (by kernel_rfl)⟩
theorem rec80 : Tryz.prog.readableRec 80 = true ∧ 80 < Tryz.prog.types.size := ⟨by kernel_rfl, of_decide_eq_true (by kernel_rfl)⟩
theorem recs : ∀ t ∈ Tryz.f9.params.toList, Tryz.prog.readableRec t = true ∧ t < Tryz.prog.types.size := by
  rw [Tryz.params9]
  intro t ht
  simp only [List.mem_cons, List.not_mem_nil, or_false] at ht
  rcases ht with rfl | rfl | rfl
  · exact rec79
  · exact rec80
  · exact rec5
theorem spec {H : Type} : ∀ ds : List (DataW H), ds.length = Tryz.f9.params.toList.length → Rows.oneApartSpec.fn H ds = { results := [.lit (.bool true)], args := ds } := by
  rw [Tryz.params9]
  intro ds h
  match ds, h with
  | [d0, d1, d2], _ => rfl

set_option maxRecDepth 100000 in
theorem lifted (os : Os) (started : os.Started) (H : Type) (enc : TypeId × Value → H) :
    ReturnsInHanded {} Tryz.checked os 9 .any (Rows.oneApartSpec.pre6 enc Tryz.prog Tryz.f9 Rows.oneApartRow.domain false) (Rows.oneApartSpec.post enc Tryz.prog Tryz.f9 false true false false) := by
  refine returnsInHanded_of_change (C := Tryz.checked) own started (by kernel_rfl) Tryz.func9
    (ChangeSpec.witness6 (enc := enc) (C := Tryz.checked) false ⟨#[], #[.slice none 0 0, .slice none 0 0, .int .u8 0], []⟩ 8 (by kernel_rfl) (by kernel_rfl) (by kernel_rfl) (by kernel_rfl)) ?_
  intro W base args ds gs before hval0 hW hcnd _
  have hval : ∀ (j : Nat) t v, Tryz.f9.params[j]? = some t → args[j]? = some v → Value.okWide Tryz.prog W .any base t v := hval0
  have hW' := hW
  obtain ⟨p, q, hA0, hV, rfl, hfz, hnd⟩ := hW
  have hA : DataW.TrodAll enc Tryz.prog W 0 (fun _ => true) true Tryz.f9.params.toList args.toList ds p := hA0
  rw [Tryz.params9] at hA hval
  obtain ⟨v0, vs0, d0, ds0, p0', q0, hargs, rfl, rfl, h0, r0⟩ := trodAll_cons hA
  obtain ⟨v1, vs1, d1, ds1, p1', q1, rfl, rfl, rfl, h1, r1⟩ := trodAll_cons r0
  obtain ⟨v2, vs2, d2, ds2, p2', q2, rfl, rfl, rfl, h2, r2⟩ := trodAll_cons r1
  obtain ⟨rfl, rfl, rfl⟩ := trodAll_nil r2
  obtain rfl : args = #[v0, v1, v2] := by cases args; simp_all
  obtain ⟨A0, L0, C0, xs0, rfl, hr0⟩ := Dk.open_row (n := 8) (d0 := (⟨none, 0, 0, none, 0, 0, none, 0, 0⟩, ⟨[], 0, 0, 0, [], [], 0, 0⟩)) (R := Dk.IsPrg W) Tryz.underlying79 cells25 (by decide) (Dk.el_prg (tF := 22) (tS := 123) (tN := 112) (tI := 3) (tU := 38) (tX := 23) Tryz.underlying25 cells25 Tryz.underlying22 cells22 cells123 Tryz.underlying123 Tryz.underlying112 cells112 Tryz.underlying3 Tryz.underlying38 cells3 cells38 Tryz.underlying23 cells23 ⟨rfl, rfl⟩ ⟨rfl, rfl⟩ ⟨rfl, rfl⟩ ⟨rfl, rfl⟩ ⟨rfl, rfl⟩ ⟨rfl, rfl⟩ ⟨rfl, rfl⟩ ⟨rfl, rfl⟩ ⟨rfl, rfl⟩ ⟨rfl, rfl⟩ ⟨rfl, rfl⟩ ⟨rfl, rfl⟩ ⟨rfl, rfl⟩) (hval 0 79 v0 rfl rfl) h0
  have hs0 := Dk.row_slp hr0
  obtain ⟨A1, L1, C1, xs1, rfl, hr1⟩ := Dk.open_row (n := 4) (d0 := []) (R := Dk.zjl) Tryz.underlying80 cells88 (by decide) (Dk.el_ints (tI := 3) Tryz.underlying88 Tryz.underlying3 cells3 cells88 rfl (by decide)) (hval 1 80 v1 rfl rfl) h1
  obtain ⟨a2, rfl, rfl, rfl, w2⟩ := open_int Tryz.underlying5 (hval 2 5 v2 rfl rfl) h2
  obtain ⟨n2, rfl, hn2⟩ := Dk.wf_u8 w2
  clear hA0 hval0
  refine (zjn n2 hn2 W hs0 hr1).mono fun e W' ⟨he, hb⟩ => ?_
  subst he
  exact ⟨_, rfl, Dk.law_post laidOut recs rfl res Tryz.underlying4 spec hW' hb⟩

theorem over : Rows.oneApartRow.holds Tryz.pinned (OpenSpec.ofChange Rows.oneApartSpec) :=
  OpenClaim.holds_of_wide 9 Tryz.f9 rfl rfl rfl rfl rfl rfl rfl ⟨rfl, rfl, rfl, rfl, rfl⟩ rfl rfl rfl rfl rfl (by kernel_rfl) Tryz.func9 (by kernel_rfl)
    (of_decide_eq_true (by kernel_rfl)) (by unfold Func.isWrapper; first | (rw [if_pos (by decide +kernel)]; kernel_rfl) | (rw [if_neg (by decide +kernel)]; exact ⟨rfl, rfl⟩))
    (fun os started H enc _ => lifted os started H enc)

theorem proved : Rows.OneApartSaid :=
  over
#print axioms proved
end Go.Proofs.YtglhhlfopccmaaaGreat.oneApart
