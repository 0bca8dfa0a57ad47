/- The walks of the instruction that comes next. -/
import Derived.Test.YtmkeniobnjpohaaFo
import Derived.BigQuiet
namespace Dk
set_option linter.unusedSimpArgs false
set_option linter.unusedVariables false
set_option linter.unnecessarySimpa false
/-- Is there an instruction at the frame's place, and which. -/
def nextB (p : Prg) (f : Frm) : Bool := plB f.fn p.funcs.length && plB f.pc (p.funcs.getD f.fn.toNat []).length
def nextI (p : Prg) (f : Frm) : Ins := if nextB p f then (p.funcs.getD f.fn.toNat []).getD f.pc.toNat Ins.zero else Ins.zero
end Dk
namespace Go.Proofs.Ytmkeniobnjpohaa
set_option linter.unusedSimpArgs false
set_option linter.unusedVariables false
set_option linter.unnecessarySimpa false
open Go.RowKit

theorem ins_size : (Try.prog.info? 31).map (·.size) = some 5 := by kernel_rfl
theorem ic_cells (i : Dk.Ins) : (Dk.ic i).all (·.oneCell') = true := by simp [Value.oneCell']

set_option maxRecDepth 100000 in
set_option maxHeartbeats 1000000 in
theorem Next_none (fA sA pA : Option Addr) (fL fC sL sC pL pC : Nat) (p : Dk.Prg) (f : Dk.Frm) (w : World) (h1 : Dk.plB f.fn (fL : Int) = false) :
    Calls Try.prog 8 #[Dk.pv ⟨fA, fL, fC, sA, sL, sC, pA, pL, pC⟩ p, Dk.fv f] w fun e w' => e = .returned (.tuple #[Dk.iv Dk.Ins.zero, .bool false]) ∧ Below w.heap.size w w' := by
  obtain ⟨W, e3⟩ : ∃ W, ((w.alloc (.cells #[.slice fA fL fC, .int .i64 p.words, .int .i64 p.mutexes, .int .i64 p.conds, .slice sA sL sC, .slice pA pL pC, .int .i64 p.blocks, .int .i64 p.prio] 25)).alloc (.cells #[.int .i64 f.fn, .int .i64 f.pc, .int .u64 (f.r 0 : Nat), .int .u64 (f.r 1 : Nat), .int .u64 (f.r 2 : Nat), .int .u64 (f.r 3 : Nat), .int .u64 (f.r 4 : Nat), .int .u64 (f.r 5 : Nat), .int .u64 (f.r 6 : Nat), .int .u64 (f.r 7 : Nat)] 29)).alloc (.cells #[.int .i64 0, .int .i64 0, .int .i64 0, .int .i64 0, .int .u64 0] 31) = W := ⟨_, rfl⟩
  obtain ⟨b1, b2, b3, u3, z3⟩ := Dk.three _ _ _ _ _ _ _ _ e3
  have c1 := b1.cell
  have c2 := b2.cell
  have HB3 : Hid _ := b3
  have HU : Hid _ := u3
  clear b1 b2 b3 u3 z3
  go_enter Try.func8, Try.ntmps8
  go_wp2_with (first | (rw [e3]; clear e3) | fail)
  try rw [e3]
  try clear e3
  go_quiet ((go_at_call 16; exact Calls.quiet_of_same (isPlace_any _ _ _)))
  go_wp2_with (refine wpList_store_row rfl 31 _ _ rfl (w.heap.size + 1 + 1) (Dk.ic Dk.Ins.zero) rfl rfl 31 _ (HB3.out.drewN nq).heap ins_size rfl (ic_cells _) ?_)
  have c6 := (HB3.out.drewN nq).row (cs' := Dk.ic Dk.Ins.zero) |>.cell
  exact bodyPost_ret (v := .tuple #[Dk.iv Dk.Ins.zero, .bool false]) (by simp [results, Try.results8, go_sem, c6]) rfl ⟨rfl, below_setRow (Dk.up_drewN HU.out nq) (by omega) _⟩

set_option maxRecDepth 100000 in
set_option maxHeartbeats 1000000 in
theorem Next_off (fA sA pA : Option Addr) (fL fC sL sC pL pC : Nat) (p : Dk.Prg) (f : Dk.Frm) (w : World) (fb fo : Nat) (A' : Option Addr) (L' C' : Nat) (h1 : Dk.plB f.fn (fL : Int) = true) (h2 : Dk.plB f.pc (L' : Int) = false) (hfA : fA = some ⟨fb, fo, none⟩) (hfb : fb < w.heap.size) (hc : w.cell? ⟨fb, fo + f.fn.toNat, none⟩ = some (.slice A' L' C')) :
    Calls Try.prog 8 #[Dk.pv ⟨fA, fL, fC, sA, sL, sC, pA, pL, pC⟩ p, Dk.fv f] w fun e w' => e = .returned (.tuple #[Dk.iv Dk.Ins.zero, .bool false]) ∧ Below w.heap.size w w' := by
  subst hfA
  obtain ⟨x0, x1⟩ := Dk.plB_iff.1 h1
  obtain ⟨W, e3⟩ : ∃ W, ((w.alloc (.cells #[.slice (some ⟨fb, fo, none⟩) fL fC, .int .i64 p.words, .int .i64 p.mutexes, .int .i64 p.conds, .slice sA sL sC, .slice pA pL pC, .int .i64 p.blocks, .int .i64 p.prio] 25)).alloc (.cells #[.int .i64 f.fn, .int .i64 f.pc, .int .u64 (f.r 0 : Nat), .int .u64 (f.r 1 : Nat), .int .u64 (f.r 2 : Nat), .int .u64 (f.r 3 : Nat), .int .u64 (f.r 4 : Nat), .int .u64 (f.r 5 : Nat), .int .u64 (f.r 6 : Nat), .int .u64 (f.r 7 : Nat)] 29)).alloc (.cells #[.int .i64 0, .int .i64 0, .int .i64 0, .int .i64 0, .int .u64 0] 31) = W := ⟨_, rfl⟩
  obtain ⟨b1, b2, b3, u3, z3⟩ := Dk.three _ _ _ _ _ _ _ _ e3
  have hw : W.cell? ⟨fb, fo + f.fn.toNat, none⟩ = some (.slice A' L' C') := by rw [u3.cell (by show fb < w.heap.size; exact hfb)]; exact hc
  clear hc
  have c1 := b1.cell
  have c2 := b2.cell
  have HB3 : Hid _ := b3
  have HU : Hid _ := u3
  clear b1 b2 b3 u3 z3
  go_enter Try.func8, Try.ntmps8
  go_wp2_with (first | (rw [e3]; clear e3) | fail)
  try rw [e3]
  try clear e3
  go_quiet ((go_at_call 16; exact Calls.quiet_of_same (isPlace_any _ _ _)))
  go_wp2_with (refine wpList_store_row rfl 31 _ _ rfl (w.heap.size + 1 + 1) (Dk.ic Dk.Ins.zero) rfl rfl 31 _ (HB3.out.drewN nq).heap ins_size rfl (ic_cells _) ?_)
  have c6 := (HB3.out.drewN nq).row (cs' := Dk.ic Dk.Ins.zero) |>.cell
  exact bodyPost_ret (v := .tuple #[Dk.iv Dk.Ins.zero, .bool false]) (by simp [results, Try.results8, go_sem, c6]) rfl ⟨rfl, below_setRow (Dk.up_drewN HU.out nq) (by omega) _⟩

theorem wp_of_value {P : Go.Program} {o : Oper} {a : Act} {w : World} {K : Act → World → Prop} {Q : Exit → Act → World → Prop} {v : Value} (h : (execOp a.eval o).run P w = .ok (.value v) w) (hK : K (a.put o.dst v) w) : o.wp P a w K Q := by
  unfold Oper.wp
  rw [h]
  exact hK

set_option maxRecDepth 100000 in
set_option maxHeartbeats 1000000 in
theorem Next_some (fA sA pA : Option Addr) (fL fC sL sC pL pC : Nat) (p : Dk.Prg) (f : Dk.Frm) (w : World) (fb fo : Nat) (ib io : Nat) (L' C' : Nat) (i : Dk.Ins) (h1 : Dk.plB f.fn (fL : Int) = true) (h2 : Dk.plB f.pc (L' : Int) = true) (hfA : fA = some ⟨fb, fo, none⟩) (hfb : fb < w.heap.size) (hib : ib < w.heap.size) (hc : w.cell? ⟨fb, fo + f.fn.toNat, none⟩ = some (.slice (some ⟨ib, io, none⟩) L' C'))
    (hi : w.cell? ⟨ib, io + f.pc.toNat * 5, none⟩ = some (.int .i64 i.op) ∧ w.cell? ⟨ib, io + f.pc.toNat * 5 + 1, none⟩ = some (.int .i64 i.a) ∧ w.cell? ⟨ib, io + f.pc.toNat * 5 + 2, none⟩ = some (.int .i64 i.b) ∧ w.cell? ⟨ib, io + f.pc.toNat * 5 + 3, none⟩ = some (.int .i64 i.c) ∧ w.cell? ⟨ib, io + f.pc.toNat * 5 + 4, none⟩ = some (.int .u64 (i.n : Nat))) :
    Calls Try.prog 8 #[Dk.pv ⟨fA, fL, fC, sA, sL, sC, pA, pL, pC⟩ p, Dk.fv f] w fun e w' => e = .returned (.tuple #[Dk.iv i, .bool true]) ∧ Below w.heap.size w w' := by
  subst hfA
  obtain ⟨x0, x1⟩ := Dk.plB_iff.1 h1
  obtain ⟨y0, y1⟩ := Dk.plB_iff.1 h2
  obtain ⟨W, e3⟩ : ∃ W, ((w.alloc (.cells #[.slice (some ⟨fb, fo, none⟩) fL fC, .int .i64 p.words, .int .i64 p.mutexes, .int .i64 p.conds, .slice sA sL sC, .slice pA pL pC, .int .i64 p.blocks, .int .i64 p.prio] 25)).alloc (.cells #[.int .i64 f.fn, .int .i64 f.pc, .int .u64 (f.r 0 : Nat), .int .u64 (f.r 1 : Nat), .int .u64 (f.r 2 : Nat), .int .u64 (f.r 3 : Nat), .int .u64 (f.r 4 : Nat), .int .u64 (f.r 5 : Nat), .int .u64 (f.r 6 : Nat), .int .u64 (f.r 7 : Nat)] 29)).alloc (.cells #[.int .i64 0, .int .i64 0, .int .i64 0, .int .i64 0, .int .u64 0] 31) = W := ⟨_, rfl⟩
  obtain ⟨b1, b2, b3, u3, z3⟩ := Dk.three _ _ _ _ _ _ _ _ e3
  have hw : W.cell? ⟨fb, fo + f.fn.toNat, none⟩ = some (.slice (some ⟨ib, io, none⟩) L' C') := by rw [u3.cell (by show fb < w.heap.size; exact hfb)]; exact hc
  have hall : ∀ o, W.cell? ⟨ib, o, none⟩ = w.cell? ⟨ib, o, none⟩ := fun o => u3.cell (by show ib < w.heap.size; exact hib)
  rw [← hall, ← hall, ← hall, ← hall, ← hall] at hi
  clear hc hall
  have c1 := b1.cell
  have c2 := b2.cell
  have HB1 : Hid _ := b1
  have HB2 : Hid _ := b2
  have HB3 : Hid _ := b3
  have HU : Hid _ := u3
  have HI : Hid _ := hi
  clear b1 b2 b3 u3 z3 hi
  go_enter Try.func8, Try.ntmps8
  go_wp2_with (first | (rw [e3]; clear e3) | fail)
  try rw [e3]
  try clear e3
  go_quiet ((go_at_call 16; exact Calls.quiet_of_same (isPlace_any _ _ _)))
  go_wp2
  refine Dk.wp_region_line (S := fun w' => Dk.Box w' w.heap.size #[.slice (some ⟨fb, fo, none⟩) fL fC, .int .i64 p.words, .int .i64 p.mutexes, .int .i64 p.conds, .slice sA sL sC, .slice pA pL pC, .int .i64 p.blocks, .int .i64 p.prio] 25 ∧ Dk.Box w' (w.heap.size + 1) (Dk.fc f) 29 ∧ w'.cell? ⟨fb, fo + f.fn.toNat, none⟩ = some (.slice (some ⟨ib, io, none⟩) L' C') ∧
    w'.cell? ⟨ib, io + f.pc.toNat * 5, none⟩ = some (.int .i64 i.op) ∧ w'.cell? ⟨ib, io + f.pc.toNat * 5 + 1, none⟩ = some (.int .i64 i.a) ∧ w'.cell? ⟨ib, io + f.pc.toNat * 5 + 2, none⟩ = some (.int .i64 i.b) ∧ w'.cell? ⟨ib, io + f.pc.toNat * 5 + 3, none⟩ = some (.int .i64 i.c) ∧ w'.cell? ⟨ib, io + f.pc.toNat * 5 + 4, none⟩ = some (.int .u64 (i.n : Nat))) [0, 1, 2, 3, 4, 5, 6, 7, 8, 9] [10, 11] (by kernel_rfl) (by kernel_rfl) ⟨(HB1.out.drewN nq).drew, (HB2.out.drewN nq).drew, hw, HI.out⟩ ?_
  refine Dk.held_step (v := .pointer (some ⟨w.heap.size, 0, none⟩)) rfl rfl (fun w' hw => ?_) ?_
  · go_simp
  simp only [Act.put, List.setIfInBounds_toArray, List.set_cons_succ, List.set_cons_zero]
  refine Dk.held_step (v := .slice (some ⟨fb, fo, none⟩) fL fC) rfl rfl (fun w' hw => ?_) ?_
  · have k1 := hw.1.cell
    go_simp
  simp only [Act.put, List.setIfInBounds_toArray, List.set_cons_succ, List.set_cons_zero]
  refine Dk.held_step (v := .pointer (some ⟨w.heap.size + 1, 0, none⟩)) rfl rfl (fun w' hw => ?_) ?_
  · go_simp
  simp only [Act.put, List.setIfInBounds_toArray, List.set_cons_succ, List.set_cons_zero]
  refine Dk.held_step (v := .int .i64 f.fn) rfl rfl (fun w' hw => ?_) ?_
  · have k1 := hw.2.1.cell
    go_simp
  simp only [Act.put, List.setIfInBounds_toArray, List.set_cons_succ, List.set_cons_zero]
  refine Dk.held_step (v := .pointer (some ⟨fb, fo + f.fn.toNat, none⟩)) rfl rfl (fun w' hw => ?_) ?_
  · go_simp
  simp only [Act.put, List.setIfInBounds_toArray, List.set_cons_succ, List.set_cons_zero]
  refine Dk.held_step (v := .slice (some ⟨ib, io, none⟩) L' C') rfl rfl (fun w' hw => ?_) ?_
  · have k1 := hw.2.2.1
    go_simp
  simp only [Act.put, List.setIfInBounds_toArray, List.set_cons_succ, List.set_cons_zero]
  refine Dk.held_step (v := .pointer (some ⟨w.heap.size + 1, 1, none⟩)) rfl rfl (fun w' hw => ?_) ?_
  · go_simp
  simp only [Act.put, List.setIfInBounds_toArray, List.set_cons_succ, List.set_cons_zero]
  refine Dk.held_step (v := .int .i64 f.pc) rfl rfl (fun w' hw => ?_) ?_
  · have k1 := hw.2.1.cell
    go_simp
  simp only [Act.put, List.setIfInBounds_toArray, List.set_cons_succ, List.set_cons_zero]
  refine Dk.held_step (v := .pointer (some ⟨ib, io + f.pc.toNat * 5, none⟩)) rfl rfl (fun w' hw => ?_) ?_
  · go_simp
  simp only [Act.put, List.setIfInBounds_toArray, List.set_cons_succ, List.set_cons_zero]
  refine Dk.held_step (v := Dk.iv i) rfl rfl (fun w' hw => ?_) ?_
  · obtain ⟨_, _, _, k1, k2, k3, k4, k5⟩ := hw
    go_simp
  simp only [Act.put, List.setIfInBounds_toArray, List.set_cons_succ, List.set_cons_zero]
  refine Dk.line_step rfl rfl ?_
  refine wp_store_row 31 _ _ rfl (w.heap.size + 1 + 1) (Dk.ic i) rfl rfl 31 _ (HB3.out.drewN nq).drew.heap ins_size rfl (ic_cells _) ?_
  have t1 := (HB1.out.drewN nq).drew.row_other (b' := w.heap.size + 1 + 1) (cs' := Dk.ic i) (by omega)
  have t2 := (HB2.out.drewN nq).drew.row_other (b' := w.heap.size + 1 + 1) (cs' := Dk.ic i) (by omega)
  have t3 := (HB3.out.drewN nq).drew.row (cs' := Dk.ic i)
  have tu : Below w.heap.size w _ := below_setRow (g := w.heap.size + 1 + 1) (Dk.up_drew (Dk.up_drewN HU.out nq)) (by omega) (Dk.ic i)
  have tk : ∀ b o, b < w.heap.size → ((W.drewN nq).drew.setRow (w.heap.size + 1 + 1) (Dk.ic i)).cell? ⟨b, o, none⟩ = W.cell? ⟨b, o, none⟩ := fun b o hb => (tu.cell (p := ⟨b, o, none⟩) hb).trans (HU.out.cell (p := ⟨b, o, none⟩) hb).symm
  generalize (W.drewN nq).drew.setRow (w.heap.size + 1 + 1) (Dk.ic i) = w3 at *
  have s1 := (tk fb (fo + f.fn.toNat) hfb).trans hw
  have s2 := HI.out
  rw [← tk ib _ hib, ← tk ib _ hib, ← tk ib _ hib, ← tk ib _ hib, ← tk ib _ hib] at s2
  refine ⟨⟨t1, t2, s1, s2⟩, ?_⟩
  refine Dk.line_step rfl rfl ?_
  refine wp_of_value (v := .bool true) ?_ ?_
  · go_simp
  refine ⟨⟨t1, t2, s1, s2⟩, ?_⟩
  show NoPanic _ Exit.normal _ _
  refine NoPanic.normal ?_
  simp only [Act.put, List.setIfInBounds_toArray, List.set_cons_succ, List.set_cons_zero]
  go_wp2
  have c6 := t3.cell
  exact bodyPost_ret (v := .tuple #[Dk.iv i, .bool true]) (by simp [results, Try.results8, go_sem, c6]) rfl ⟨rfl, tu⟩

theorem Next_any (s : Dk.Sh) (p : Dk.Prg) (f : Dk.Frm) (w : World) (h : Dk.PrgAt w.heap.size w s p) :
    Calls Try.prog 8 #[Dk.pv s p, Dk.fv f] w fun e w' => e = .returned (.tuple #[Dk.iv (Dk.nextI p f), .bool (Dk.nextB p f)]) ∧ Below w.heap.size w w' := by
  obtain ⟨fA, fL, fC, sA, sL, sC, pA, pL, pC⟩ := s
  have hfn := h.funcs
  have hlen : p.funcs.length = fL := hfn.len
  cases h1 : Dk.plB f.fn (fL : Int)
  · have e1 : Dk.nextB p f = false := by unfold Dk.nextB; rw [hlen, h1]; rfl
    have e2 : Dk.nextI p f = Dk.Ins.zero := by unfold Dk.nextI; rw [e1]; rfl
    rw [e1, e2]
    exact Next_none fA sA pA fL fC sL sC pL pC p f w h1
  · obtain ⟨x0, x1⟩ := Dk.plB_iff.1 h1
    obtain ⟨fb, fo, e, hfb, hc⟩ := hfn.cells (by show 0 < fL; omega)
    obtain ⟨A', L', C', hc1, hN⟩ := hc f.fn.toNat (by show f.fn.toNat < fL; omega)
    have hl' : (p.funcs.getD f.fn.toNat []).length = L' := hN.len
    cases h2 : Dk.plB f.pc (L' : Int)
    · have e1 : Dk.nextB p f = false := by unfold Dk.nextB; rw [hl', h2, Bool.and_false]
      have e2 : Dk.nextI p f = Dk.Ins.zero := by unfold Dk.nextI; rw [e1]; rfl
      rw [e1, e2]
      exact Next_off fA sA pA fL fC sL sC pL pC p f w fb fo A' L' C' h1 h2 e hfb hc1
    · obtain ⟨y0, y1⟩ := Dk.plB_iff.1 h2
      have e1 : Dk.nextB p f = true := by unfold Dk.nextB; rw [hlen, h1, hl', h2]; rfl
      have e2 : Dk.nextI p f = (p.funcs.getD f.fn.toNat []).getD f.pc.toNat Dk.Ins.zero := by unfold Dk.nextI; rw [e1]; rfl
      rw [e1, e2]
      obtain ⟨ib, io, rfl, hib, hi⟩ := hN.cells (by omega)
      exact Next_some fA sA pA fL fC sL sC pL pC p f w fb fo ib io L' C' _ h1 h2 e hfb hib hc1 (hi f.pc.toNat (by omega))

end Go.Proofs.Ytmkeniobnjpohaa
