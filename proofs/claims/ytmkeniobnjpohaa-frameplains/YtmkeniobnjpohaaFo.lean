/- The walk of a plain instruction that may be done. -/
import Derived.Test.YtmkeniobnjpohaaFp
import Derived.Deep.OwnRows
import Derived.Test.YtmkeniobnjpohaaQh
import Derived.Test.YtmkeniobnjpohaaUp
namespace Go.Proofs.Ytmkeniobnjpohaa
set_option linter.unusedSimpArgs false
set_option linter.unusedVariables false
set_option linter.unnecessarySimpa false
open Go.RowKit

theorem wp_of_call {P : Go.Program} {o : Oper} {a : Act} {w : World} {K : Act → World → Prop} {Q : Exit → Act → World → Prop} {f : FuncId} {args : Array Value} {v : Value} {R : World → Prop} (h : (execOp a.eval o).run P w = .ok (.enter f args) w)
    (hc : Calls P f args w fun e w' => e = .returned v ∧ R w') (hK : ∀ w', R w' → K (a.put o.dst v) w') : o.wp P a w K Q := by
  unfold Oper.wp
  rw [h]
  exact hc.mono fun e w' ⟨he, hR⟩ => by subst he; exact hK w' hR
theorem wp_of_skip {P : Go.Program} {o : Oper} {a : Act} {w w' : World} {K : Act → World → Prop} {Q : Exit → Act → World → Prop} (h : (execOp a.eval o).run P w = .ok .skip w') (hK : K (a.put o.dst undef) w') : o.wp P a w K Q := by
  unfold Oper.wp
  rw [h]
  exact hK

/-- What a plain instruction answers where it may be done. -/
def PlainSaid (f : Dk.Frm) (i : Dk.Ins) (m : List Nat) (L : Nat) (e : Ending) (w w' : World) : Prop :=
  ∃ wb, e = .returned (.tuple #[Dk.fv (Dk.doneF f i m), .slice (some ⟨wb, 0, none⟩) L L, .int .i64 0]) ∧ Dk.Box w' wb (Dk.wc (Dk.doneM f i m)) 26 ∧ Below w.heap.size w w'

set_option maxRecDepth 100000 in
set_option maxHeartbeats 1000000 in
theorem Plain_ok (f : Dk.Frm) (i : Dk.Ins) (A : Option Addr) (L C : Nat) (m : List Nat) (w : World) (hf : f.ok) (hi : i.ok) (hc : Dk.codeB i = true) (hx : Dk.faultB f i L = false) (hr : Dk.Row 1 0 Dk.IsWord w.heap.size w A L C m) (hL : L ≤ 1000) :
    Calls Try.prog 12 #[Dk.fv f, Dk.iv i, .slice A L C] w fun e w' => PlainSaid f i m L e w w' := by
  have hmf : ∀ (fn : Fn) (first cap : Array Value) (w : World), (Instr.makeFunc fn first cap).run Try.prog w = .ok (.func fn first cap) w := fun _ _ _ _ => rfl
  obtain ⟨X, e0⟩ : ∃ X, ((((w.alloc (.cells #[.int .i64 f.fn, .int .i64 f.pc, .int .u64 (f.r 0 : Nat), .int .u64 (f.r 1 : Nat), .int .u64 (f.r 2 : Nat), .int .u64 (f.r 3 : Nat), .int .u64 (f.r 4 : Nat), .int .u64 (f.r 5 : Nat), .int .u64 (f.r 6 : Nat), .int .u64 (f.r 7 : Nat)] 29)).alloc (.cells #[.int .i64 i.op, .int .i64 i.a, .int .i64 i.b, .int .i64 i.c, .int .u64 (i.n : Nat)] 31)).alloc (.cells #[.int .i64 0, .int .i64 0, .int .u64 0, .int .u64 0, .int .u64 0, .int .u64 0, .int .u64 0, .int .u64 0, .int .u64 0, .int .u64 0] 29)).alloc (.cells #[.slice none 0 0] 40)).alloc (.cells #[.int .i64 0] 41) = X := ⟨_, rfl⟩
  obtain ⟨b1, b2, b3, b4, b5, u0, z0⟩ := five f i w X e0
  have c2 := b2.cell
  have hmk := make_words L hL
  have hlen := hr.len
  go_enter_defers Try.func12, Try.ntmps12
  go_wp2_with fail
  try rw [e0]
  clear e0 c2
  refine (askCode_good i _ hi hc).mono ?_
  rintro e w1 ⟨rfl, hb⟩
  obtain ⟨X2, e2⟩ : ∃ X2, (w1.alloc (.cells (madeCells #[.int .u64 0] L) 26)).setCell ⟨w.heap.size + 1 + 1 + 1, 0, none⟩ (.slice (some ⟨w1.heap.size, 0, none⟩) L L) = X2 := ⟨_, rfl⟩
  obtain ⟨d1, d2, d3, d4, d5, dw, u2, hlt⟩ := copied f i w X w1 X2 A L C m hr hL b1 b2 b3 b4 b5 u0 hb e2
  have q1 : (w1.alloc (.cells (madeCells #[.int .u64 0] L) 26)).cell? ⟨w.heap.size + 1 + 1 + 1, 0, none⟩ = some (.slice none 0 0) := ((b4.up hb).old _).cell 0
  have q2 := ((b4.up hb).old (.cells (madeCells #[.int .u64 0] L) 26)).frozen 0
  have q4 : X2.cell? ⟨w.heap.size + 1 + 1 + 1, 0, none⟩ = some (.slice (some ⟨w1.heap.size, 0, none⟩) L L) := d4.cell 0
  have hsrc := row_src hr u2
  have hcs : (Dk.wc m).toList.length = L := by simp [Dk.wc, hlen]
  have hcur : (madeCells #[.int .u64 0] L).toList.length = L := by simp [size_madeCells]
  have hone : ∀ v ∈ (Dk.wc m).toList, v.oneCell' = true := by simp [Dk.wc, Value.oneCell']
  obtain ⟨cs, ecs⟩ : ∃ cs, cs = (Dk.wc m).toList := ⟨_, rfl⟩
  obtain ⟨cur, ecur⟩ : ∃ cur, cur = (madeCells #[.int .u64 0] L).toList := ⟨_, rfl⟩
  rw [← ecs] at hsrc hcs hone
  rw [← ecur] at hcur
  have hdw : X2.heap[w1.heap.size]? = some (.cells cur.toArray 26 (0, 0)) := by rw [ecur]; simpa using dw.heap
  have ECS : Hid _ := ecs
  have ECU : Hid _ := ecur
  have HDW : Hid _ := hdw
  have HSR : Hid _ := hsrc
  have HCS : Hid _ := hcs
  have HCU : Hid _ := hcur
  have HON : Hid _ := hone
  have HLT : Hid _ := hlt
  clear ecs ecur hdw hsrc hcs hcur hone dw b1 b2 b3 b4 b5 hlen z0 hlt
  go_wp2_with (first | (rw [e2]; clear e2) | (refine wpList_copy_splice rfl _ _ 40 40 rfl 26 Try.underlying40 word_size _ _ _ _ _ _ rfl rfl w1.heap.size 0 cur 26 HDW.out cs (by rw [HCS.out]; exact (Nat.min_self L).symm) (fun h => ⟨rfl, HSR.out h⟩) (by rw [HCS.out, HCU.out]; omega) HON.out w1.heap.size X2 (Below.refl _ _) (Nat.le_refl _) ?_; intro X3 HG hb3))
  simp only [Act.put, List.setIfInBounds_toArray, List.set_cons_succ, List.set_cons_zero]
  have g1 := d1.below hb3 (by have := HLT.out; omega)
  have g2 := d2.below hb3 (by have := HLT.out; omega)
  have g3 := d3.below hb3 (by have := HLT.out; omega)
  have g4 := d4.below hb3 (by have := HLT.out; omega)
  have g5 := d5.below hb3 (by have := HLT.out; omega)
  have gw : Dk.Box X3 w1.heap.size (Dk.wc m) 26 := ⟨by
    have := HG.out
    rw [splice_all _ _ (by rw [HCS.out, HCU.out])] at this
    rw [this, ECS.out]⟩
  have u3 : Below w.heap.size w X3 := u2.trans (hb3.mono (by have := HLT.out; omega))
  have hN := HLT.out
  have hdo := do_ok f i m L L X3.drew w1.heap.size hf hc hx gw.drew hr.len (by unfold maxLen; omega)
  obtain ⟨fz, efz⟩ : ∃ fz, Dk.doneF f i m = fz := ⟨_, rfl⟩
  obtain ⟨mz, emz⟩ : ∃ mz, Dk.doneM f i m = mz := ⟨_, rfl⟩
  rw [efz, emz] at hdo
  have HDO : Hid _ := hdo
  have EFZ : Hid _ := efz
  have EMZ : Hid _ := emz
  clear hdo efz emz
  refine Dk.wp_region_line (S := fun w' => Dk.Box w' w.heap.size (Dk.fc f) 29 ∧ Dk.Box w' (w.heap.size + 1) (Dk.ic i) 31 ∧ Dk.Box w' (w.heap.size + 1 + 1 + 1) #[.slice (some ⟨w1.heap.size, 0, none⟩) L L] 40) [0, 1, 2, 4] [3, 5, 6, 7] (by kernel_rfl) (by kernel_rfl) ⟨g1.drew, g2.drew, g4.drew⟩ ?_
  refine Dk.held_step (v := Dk.fv f) rfl rfl (fun w' hw => ?_) ?_
  · have c := hw.1.cell
    go_simp
  simp only [Act.put, List.setIfInBounds_toArray, List.set_cons_succ, List.set_cons_zero]
  refine Dk.held_step (v := Dk.iv i) rfl rfl (fun w' hw => ?_) ?_
  · have c := hw.2.1.cell
    go_simp
  simp only [Act.put, List.setIfInBounds_toArray, List.set_cons_succ, List.set_cons_zero]
  refine Dk.held_step (v := .slice (some ⟨w1.heap.size, 0, none⟩) L L) rfl rfl (fun w' hw => ?_) ?_
  · have c := hw.2.2.cell 0
    go_simp
  simp only [Act.put, List.setIfInBounds_toArray, List.set_cons_succ, List.set_cons_zero]
  refine Dk.held_step (v := .slice (some ⟨w1.heap.size, 0, none⟩) L L) rfl rfl (fun w' hw => ?_) ?_
  · have c := hw.2.2.cell 0
    go_simp
  simp only [Act.put, List.setIfInBounds_toArray, List.set_cons_succ, List.set_cons_zero]
  refine Dk.line_step rfl rfl ?_
  refine wp_of_call (f := 36) (args := #[Dk.fv f, Dk.iv i, .slice (some ⟨w1.heap.size, 0, none⟩) L L]) (R := fun w' => Below w1.heap.size X3.drew w' ∧ Dk.Box w' w1.heap.size (Dk.wc mz) 26) ?_ HDO.out ?_
  · go_simp
  rintro w2 ⟨v2, vw⟩
  have y1 := g1.drew.below v2 (by omega)
  have y2 := g2.drew.below v2 (by omega)
  have y3 := g3.drew.below v2 (by omega)
  have y4 := g4.drew.below v2 (by omega)
  have y5 := g5.drew.below v2 (by omega)
  have uu : Below w.heap.size w w2 := (Dk.up_drew u3).trans (v2.mono (by omega))
  refine ⟨⟨y1, y2, y4⟩, ?_⟩
  simp only [Act.put, List.setIfInBounds_toArray, List.set_cons_succ, List.set_cons_zero]
  refine Dk.line_step rfl rfl ?_
  refine wp_store_row 29 _ _ rfl (w.heap.size + 1 + 1) (Dk.fc fz) rfl rfl 29 _ y3.heap frm_size rfl (Dk.fc_cells _) ?_
  have t1 := y1.row_other (b' := w.heap.size + 1 + 1) (cs' := Dk.fc fz) (by omega)
  have t2 := y2.row_other (b' := w.heap.size + 1 + 1) (cs' := Dk.fc fz) (by omega)
  have t3 := y3.row (cs' := Dk.fc fz)
  have t4 := y4.row_other (b' := w.heap.size + 1 + 1) (cs' := Dk.fc fz) (by omega)
  have t5 := y5.row_other (b' := w.heap.size + 1 + 1) (cs' := Dk.fc fz) (by omega)
  have tw := vw.row_other (b' := w.heap.size + 1 + 1) (cs' := Dk.fc fz) (by omega)
  have tu := below_setRow (g := w.heap.size + 1 + 1) uu (by omega) (Dk.fc fz)
  generalize w2.setRow (w.heap.size + 1 + 1) (Dk.fc fz) = w3 at *
  refine ⟨⟨t1, t2, t4⟩, ?_⟩
  simp only [Act.put, List.setIfInBounds_toArray, List.set_cons_succ, List.set_cons_zero]
  refine Dk.line_step rfl rfl ?_
  have s4 := t4.cell 0
  have f4 := t4.frozen 0
  refine wp_of_skip (w' := w3.setCell ⟨w.heap.size + 1 + 1 + 1, 0, none⟩ (.slice (some ⟨w1.heap.size, 0, none⟩) L L)) ?_ ?_
  · go_simp
  have r1 := t1.set_other (b' := w.heap.size + 1 + 1 + 1) (by omega) 0 (.slice (some ⟨w1.heap.size, 0, none⟩) L L)
  have r2 := t2.set_other (b' := w.heap.size + 1 + 1 + 1) (by omega) 0 (.slice (some ⟨w1.heap.size, 0, none⟩) L L)
  have r3 := t3.set_other (b' := w.heap.size + 1 + 1 + 1) (by omega) 0 (.slice (some ⟨w1.heap.size, 0, none⟩) L L)
  have r4 : Dk.Box _ _ #[.slice (some ⟨w1.heap.size, 0, none⟩) L L] 40 := t4.set 0 (.slice (some ⟨w1.heap.size, 0, none⟩) L L)
  have r5 := t5.set_other (b' := w.heap.size + 1 + 1 + 1) (by omega) 0 (.slice (some ⟨w1.heap.size, 0, none⟩) L L)
  have rw' := tw.set_other (b' := w.heap.size + 1 + 1 + 1) (by omega) 0 (.slice (some ⟨w1.heap.size, 0, none⟩) L L)
  have ru := tu.setCell (p := ⟨w.heap.size + 1 + 1 + 1, 0, none⟩) (by show w.heap.size ≤ w.heap.size + 1 + 1 + 1; omega) (.slice (some ⟨w1.heap.size, 0, none⟩) L L)
  clear s4 f4
  generalize w3.setCell ⟨w.heap.size + 1 + 1 + 1, 0, none⟩ (.slice (some ⟨w1.heap.size, 0, none⟩) L L) = w4 at *
  refine ⟨⟨r1, r2, r4⟩, ?_⟩
  refine Dk.line_step rfl rfl ?_
  have s5 := r5.cell 0
  have f5 := r5.frozen 0
  refine wp_of_skip (w' := w4.setCell ⟨w.heap.size + 1 + 1 + 1 + 1, 0, none⟩ (.int .i64 0)) ?_ ?_
  · go_simp
  have x1 := r1.set_other (b' := w.heap.size + 1 + 1 + 1 + 1) (by omega) 0 (.int .i64 0)
  have x2 := r2.set_other (b' := w.heap.size + 1 + 1 + 1 + 1) (by omega) 0 (.int .i64 0)
  have x3 := r3.set_other (b' := w.heap.size + 1 + 1 + 1 + 1) (by omega) 0 (.int .i64 0)
  have x4 := r4.set_other (b' := w.heap.size + 1 + 1 + 1 + 1) (by omega) 0 (.int .i64 0)
  have x5 : Dk.Box _ _ #[.int .i64 0] 41 := r5.set 0 (.int .i64 0)
  have xw := rw'.set_other (b' := w.heap.size + 1 + 1 + 1 + 1) (by omega) 0 (.int .i64 0)
  have xu := ru.setCell (p := ⟨w.heap.size + 1 + 1 + 1 + 1, 0, none⟩) (by show w.heap.size ≤ w.heap.size + 1 + 1 + 1 + 1; omega) (.int .i64 0)
  clear s5 f5
  generalize w4.setCell ⟨w.heap.size + 1 + 1 + 1 + 1, 0, none⟩ (.int .i64 0) = w5 at *
  refine ⟨⟨x1, x2, x4⟩, ?_⟩
  show NoPanic _ Exit.normal _ _
  refine NoPanic.normal ?_
  simp only [Act.put]
  go_wp2
  refine leaves_cons (f := 33) (args := #[.pointer (some ⟨w.heap.size + 1 + 1, 0, none⟩), .pointer (some ⟨w.heap.size + 1 + 1 + 1, 0, none⟩), .pointer (some ⟨w.heap.size + 1 + 1 + 1 + 1, 0, none⟩)]) (by simp) (by simp [go_sem]) ?_
  refine (catch_idle _ _ _ _).mono ?_
  rintro e u' w6 ⟨rfl, rfl, rfl⟩
  have c6 := x3.cell
  have c7 : w6.cell? ⟨w.heap.size + 1 + 1 + 1, 0, none⟩ = some (.slice (some ⟨w1.heap.size, 0, none⟩) L L) := x4.cell 0
  have c8 : w6.cell? ⟨w.heap.size + 1 + 1 + 1 + 1, 0, none⟩ = some (.int .i64 0) := x5.cell 0
  simp [Leaves, settle, results, Try.results12, go_sem, c6, c7, c8]
  exact ⟨_, by rw [EFZ.out], by rw [EMZ.out]; exact xw, xu⟩

end Go.Proofs.Ytmkeniobnjpohaa
