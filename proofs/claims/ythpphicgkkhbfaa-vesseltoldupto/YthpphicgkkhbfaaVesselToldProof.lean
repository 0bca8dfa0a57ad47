/- Proved: for every input of bulk at most 1048576 the statement VesselTold answers true (what is told, and what is left, are told behind one another), and each argument reads afterwards as it read before. Condition: what is read is together of bulk at most 1048576 (beyond it an append may ask for more bytes than there are). -/
import Derived.Test.YthpphicgkkhbfaaRows
import Derived.Test.YthpphicgkkhbfaaMem
import Derived.Test.YthpphicgkkhbfaaZg
import Derived.Test.YthpphicgkkhbfaaOpd
import Derived.Test.YthpphicgkkhbfaaOpw
import Derived.Test.YthpphicgkkhbfaaOsz
import Derived.JoinedCond
import Derived.WalkKit
import Derived.ProofKit
import Derived.OpenShut
namespace Go.Proofs.Ythpphicgkkhbfaa.vesselTold
open Go.ChangeShapes Go.WideShapes Go.ChangeAt Go.RowKit
set_option linter.unusedVariables false

theorem own : ownKnob Try.prog.godebug = none := by kernel_rfl
theorem laidOut : laidOutB Try.prog = true := by kernel_rfl
theorem res : Try.f5.resultTypes = #[4] := by kernel_rfl
theorem cells3 : Try.prog.cellsOf 3 = 1 := by kernel_rfl
theorem cells22 : Try.prog.cellsOf 22 = 1 := by kernel_rfl
theorem cells24 : Try.prog.cellsOf 24 = 3 := by kernel_rfl
theorem cells36 : Try.prog.cellsOf 36 = 3 := by kernel_rfl
theorem one_le {H : Type} (d : DataW H) : 1 ≤ Rows.uptoBulk d := by
  cases d with
  | lit l => cases l <;> simp [Rows.uptoBulk]
  | _ => simp [Rows.uptoBulk]
theorem all_le {H : Type} : ∀ l : List (DataW H), l.length ≤ Rows.uptoBulkAll l
  | [] => by simp
  | d :: r => by
    have h1 := one_le d
    have h2 := all_le r
    simp only [Rows.uptoBulkAll, List.length_cons]
    omega
theorem in_le {H : Type} {d : DataW H} : ∀ {l : List (DataW H)}, d ∈ l → Rows.uptoBulk d ≤ Rows.uptoBulkAll l
  | x :: r, h => by
    simp only [Rows.uptoBulkAll]
    rcases List.mem_cons.1 h with rfl | h
    · omega
    · have := in_le h
      omega
theorem small {H : Type} {l : List (DataW H)} (hk : Rows.uptoSmall H l = true) (d : DataW H) (hd : d ∈ l) (el sp : List (DataW H)) (e : d = .slice el sp) : el.length ≤ 1048576 := by
  have h : Rows.uptoBulkAll l ≤ 1048576 := of_decide_eq_true hk
  have h1 := in_le hd
  have h2 := all_le el
  rw [e] at h1
  simp only [Rows.uptoBulk] at h1
  omega
theorem smallV {H : Type} {l : List (DataW H)} (hk : Rows.uptoSmall H l = true) (d : DataW H) (hd : d ∈ l) (d0 d1 : DataW H) (el sp : List (DataW H)) (e : d = .agg [d0, d1, .slice el sp]) : el.length ≤ 1048576 := by
  have h : Rows.uptoBulkAll l ≤ 1048576 := of_decide_eq_true hk
  have h1 := in_le hd
  have h2 := all_le el
  rw [e] at h1
  simp only [Rows.uptoBulk, Rows.uptoBulkAll] at h1
  omega
theorem rec22 : Try.prog.readableRec 22 = true ∧ 22 < Try.prog.types.size := ⟨by kernel_rfl, of_decide_eq_true (by kernel_rfl)⟩
theorem rec24 : Try.prog.readableRec 24 = true ∧ 24 < Try.prog.types.size := ⟨by kernel_rfl, of_decide_eq_true (by kernel_rfl)⟩
theorem recs : ∀ t ∈ Try.f5.params.toList, Try.prog.readableRec t = true ∧ t < Try.prog.types.size := by
  rw [Try.params5]
  intro t ht
  simp only [List.mem_cons, List.not_mem_nil, or_false] at ht
  rcases ht with rfl | rfl
  · exact rec24
  · exact rec22
theorem spec {H : Type} : ∀ ds : List (DataW H), ds.length = Try.f5.params.toList.length → Rows.vesselToldSpec.fn H ds = { results := [.lit (.bool true)], args := ds } := by
  rw [Try.params5]
  intro ds h
  match ds, h with
  | [d0, d1], _ => rfl

set_option maxRecDepth 100000 in
theorem contract (H : Type) (enc : TypeId × Value → H) (W : World) (base : Nat) (args : Array Value) (ds gs : List (DataW H)) (before : List MemPlace)
    (hval0 : ∀ (j : Nat) t v, Try.f5.params[j]? = some t → args[j]? = some v → Value.okWide Try.prog W .any base t v)
    (hW : DataW.Whole enc Try.prog Try.f5.params.toList Rows.vesselToldSpec.vars false W args.toList ds gs before) (hk : Rows.uptoSmall H (ds ++ gs) = true) :
    Calls Try.prog 5 args W fun e W' => ∃ v, e = .returned v ∧ Rows.vesselToldSpec.post enc Try.prog Try.f5 false true false false W args v W' := by
  have hval : ∀ (j : Nat) t v, Try.f5.params[j]? = some t → args[j]? = some v → Value.okWide Try.prog W .any base t v := hval0
  have hW' := hW
  obtain ⟨p, q, hA0, hV, rfl, hfz, hnd⟩ := hW
  have hA : DataW.TrodAll enc Try.prog W 0 (fun _ => true) true Try.f5.params.toList args.toList ds p := hA0
  rw [Try.params5] at hA hval
  obtain ⟨v0, vs0, d0, ds0, p0', q0, hargs, rfl, rfl, h0, r0⟩ := trodAll_cons hA
  obtain ⟨v1, vs1, d1, ds1, p1', q1, rfl, rfl, rfl, h1, r1⟩ := trodAll_cons r0
  obtain ⟨rfl, rfl, rfl⟩ := trodAll_nil r1
  obtain rfl : args = #[v0, v1] := by cases args; simp_all
  obtain ⟨m0, t0, A0, L0, C0, xs0, hm0, ht0, rfl, hr0, hz0⟩ := Dk.open_ves (tI := 3) (tS := 22) (tE := 36) Try.underlying24 Try.underlying3 Try.underlying22 cells3 cells22 cells36 cells24 (Dk.el_ints (tI := 3) Try.underlying36 Try.underlying3 cells3 cells36 rfl (by decide)) ⟨rfl, rfl⟩ ⟨rfl, rfl⟩ ⟨rfl, rfl⟩ (hval 0 24 v0 rfl rfl) h0
  obtain ⟨es0, he0⟩ := Dk.row_sle hr0
  have hb0 : L0 ≤ 1048576 := by
    rcases hz0 with h00 | ⟨d0, d1, el, sp, rfl, hl, hs⟩
    · omega
    · have q := smallV hk _ (by simp) d0 d1 el sp rfl
      omega
  obtain ⟨A1, L1, C1, xs1, rfl, hr1⟩ := Dk.open_row (n := 3) (d0 := []) (R := Dk.IsInts) Try.underlying22 cells36 (by decide) (Dk.el_ints (tI := 3) Try.underlying36 Try.underlying3 cells3 cells36 rfl (by decide)) (hval 1 22 v1 rfl rfl) h1
  obtain ⟨es1, he1⟩ := Dk.row_sle hr1
  have hb1 : L1 ≤ 1048576 := by
    rcases Dk.row_elems Try.underlying22 h1 with h00 | ⟨el, sp, rfl, hl, hs⟩
    · omega
    · have q := small hk _ (by simp) el sp rfl
      omega
  clear hA0 hval0
  refine (VesselTold_any hm0 ht0 he0 he1 (by omega)).mono fun e W' ⟨he, hb⟩ => ?_
  subst he
  exact ⟨_, rfl, Dk.law_post laidOut recs rfl res Try.underlying4 spec hW' hb⟩

set_option maxRecDepth 100000 in
theorem lifted (os : Os) (started : os.Started) (H : Type) (enc : TypeId × Value → H) (F : Stop.Interp) :
    ReturnsInHanded {} Try.checked os 5 .any ((Rows.OpenSpec.upto Rows.vesselToldSpec).pre6 enc Try.prog Try.f5 Rows.vesselToldUptoRow.domain false) (((Rows.OpenSpec.upto Rows.vesselToldSpec).at F).post enc Try.prog Try.f5 false true false false) := by
  refine returnsInHanded_of_cond (C := Try.checked) (s := Rows.OpenSpec.upto Rows.vesselToldSpec) (k := Rows.uptoSmall) rfl own started (by kernel_rfl) Try.func5
    (OpenSpec.witness (enc := enc) (C := Try.checked) (s := Rows.OpenSpec.upto Rows.vesselToldSpec) (k := Rows.uptoSmall) rfl false ⟨#[], #[.agg #[.int .i64 0, .int .i64 0, .slice none 0 0], .slice none 0 0], []⟩ 8 (by kernel_rfl) (by kernel_rfl) (by kernel_rfl)
      (x := ([.agg [.lit (.int .i64 0), .lit (.int .i64 0), .nil], .nil], [], [])) (by kernel_rfl) rfl (by kernel_rfl)) ?_
  intro W base args ds gs before hval hW _ hk _
  exact contract H enc W base args ds gs before hval hW hk
theorem proved : Rows.VesselToldUptoSaid :=
  OpenClaim.holds_of_cond 5 Try.f5 rfl rfl rfl rfl rfl rfl rfl ⟨rfl, rfl, rfl, rfl, rfl⟩ rfl rfl rfl rfl rfl (by kernel_rfl) Try.func5 (by kernel_rfl)
    (of_decide_eq_true (by kernel_rfl)) (by unfold Func.isWrapper; first | (rw [if_pos (by decide +kernel)]; kernel_rfl) | (rw [if_neg (by decide +kernel)]; exact ⟨rfl, rfl⟩))
    (fun os started H enc _ F => lifted os started H enc F)
#print axioms proved
end Go.Proofs.Ythpphicgkkhbfaa.vesselTold
