/- The walk of the document's own answer on programs: the lists. -/
import Derived.Test.YtmapmhcmeokahaaRchk
namespace Go.Proofs.Ytmapmhcmeokahaa
set_option linter.unusedSimpArgs false
set_option linter.unusedVariables false
set_option linter.unnecessarySimpa false
open Go.RowKit

theorem up_below {w : World} (y : Dk.Up w) : Below w.heap.size w y.wd := y.property
theorem getD_mem {α : Type} (l : List α) (d : α) (k : Nat) (h : k < l.length) : l.getD k d ∈ l := by
  rw [List.getD_eq_getElem?_getD, List.getElem?_eq_getElem h]
  exact List.getElem_mem h
theorem nine_sems {p : Dk.Prg} (h : Dk.allWithinB p.sems 0 1048576 = false) : Dk.check p = 9 := by
  apply check_nine; unfold Dk.objectsFitB; rw [h]; simp
theorem nine_pipes {p : Dk.Prg} (h : Dk.allWithinB p.pipes 1 8 = false) : Dk.check p = 9 := by
  apply check_nine; unfold Dk.objectsFitB; rw [h]; simp
theorem nine_code {p : Dk.Prg} (h : (p.funcs.all fun c => decide (c.length ≤ 256)) = false) : Dk.check p = 9 := by
  apply check_nine; unfold Dk.codeFitsB; rw [h]; simp
theorem fits {s : Dk.Sh} {p : Dk.Prg} (hs : Lens s p) (hf : Fine s p) (h1 : Dk.allWithinB p.sems 0 1048576 = true) (h2 : Dk.allWithinB p.pipes 1 8 = true) (h3 : (p.funcs.all fun c => decide (c.length ≤ 256)) = true) :
    (Dk.codeFitsB p.funcs && Dk.objectsFitB p) = true := by
  obtain ⟨f0, f1, w0, w1, m0, m1, c0, c1, s1, p1, b0, b1, r0, r1⟩ := hf
  rw [objects_eq hs]
  unfold Dk.codeFitsB Dk.withinB
  rw [hs.ef, h1, h2, h3]
  simp only [Bool.and_eq_true, decide_eq_true_eq, Bool.and_true]
  omega
theorem check_eight {p : Dk.Prg} (h : (Dk.codeFitsB p.funcs && Dk.objectsFitB p) = true) (h2 : Dk.allSoundB p = false) : Dk.check p = 8 := by
  unfold Dk.check; rw [h, h2]; rfl
theorem check_zero {p : Dk.Prg} (h : (Dk.codeFitsB p.funcs && Dk.objectsFitB p) = true) (h2 : Dk.allSoundB p = true) : Dk.check p = 0 := by
  unfold Dk.check; rw [h, h2]; rfl

set_option maxRecDepth 100000 in
set_option maxHeartbeats 4000000 in
theorem rcheck_fine (B : Nat) (s : Dk.Sh) (p : Dk.Prg) (w : World) (h : Dk.PrgAt B w s p) (hB : B ≤ w.heap.size) (hf : Fine s p) :
    Calls Try.prog 12 #[Dk.pv s p] w fun e w' => e = .returned (.int .i64 (Dk.check p)) ∧ Below w.heap.size w w' := by
  have hs := lens_of h
  have hp := h.ok
  have HF : Hid _ := fits hs hf
  obtain ⟨f0, f1, w0, w1, m0, m1, c0, c1, s1, p1, b0, b1, r0, r1⟩ := hf
  obtain ⟨sfA, sfL, sfC, sA, sL, sC, pA, pL, pC⟩ := s
  simp only at f0 f1 s1 p1
  have f0' : ((sfL : Int) == 0) = false := by rw [beq_eq_false_iff_ne]; omega
  have f1' : ¬ 8 < sfL := by omega
  have w0' : ¬ p.words < 0 := by omega
  have w1' : ¬ 64 < p.words := by omega
  have m0' : ¬ p.mutexes < 0 := by omega
  have m1' : ¬ 4 < p.mutexes := by omega
  have c0' : ¬ p.conds < 0 := by omega
  have c1' : ¬ 4 < p.conds := by omega
  have s1' : ¬ 4 < sL := by omega
  have p1' : ¬ 4 < pL := by omega
  have b0' : ¬ p.blocks < 0 := by omega
  have b1' : ¬ 64 < p.blocks := by omega
  have r0' : ¬ p.prio < 0 := by omega
  have r1' : ¬ 7 < p.prio := by omega
  have hfm := h.funcs.max
  have hfc := h.funcs.cap
  have hsm := h.sems.max
  have hsc := h.sems.cap
  have hpm := h.pipes.max
  have hpc := h.pipes.cap
  unfold maxLen at hfm hsm hpm
  simp only at hfm hfc hsm hsc hpm hpc
  have HLf : Hid (p.funcs.length = sfL) := h.funcs.len
  have HLs : Hid (p.sems.length = sL) := h.sems.len
  have HLp : Hid (p.pipes.length = pL) := h.pipes.len
  clear w0 w1 m0 m1 c0 c1 b0 b1 r0 r1
  go_enter Try.func12, Try.ntmps12
  dsimp only [List.append]
  go_wp2
  go_loop [3] (fun i => ∃ k : Nat, k ≤ sL ∧ i = .int .i64 k ∧ Hid ((p.sems.take k).all (fun n => Dk.withinB n 0 1048576) = true)) (fun i => sL - (intOf i).toNat)
  case atStart => exact ⟨0, Nat.zero_le _, rfl, by show (p.sems.take 0).all _ = true; simp⟩
  case round =>
    obtain ⟨k, hk, rfl, HA⟩ := hrel
    by_cases hlt : k < sL
    · obtain ⟨b, o, rfl, hbB, hcs⟩ := h.sems.cells (by show 0 < sL; omega)
      have hcell := hcs k hlt
      clear hcs
      obtain ⟨v, hv⟩ : ∃ v, v = p.sems.getD k 0 := ⟨_, rfl⟩
      rw [← hv] at hcell
      have HV : Hid (v = p.sems.getD k 0) := hv
      clear hv
      have hcell' : (w.alloc (.cells #[.slice sfA sfL sfC, .int .i64 p.words, .int .i64 p.mutexes, .int .i64 p.conds, .slice (some ⟨b, o, none⟩) sL sC, .slice pA pL pC, .int .i64 p.blocks, .int .i64 p.prio] 25)).cell? ⟨b, o + k, none⟩ = some (.int .i64 v) := by
        rw [(Dk.up_alloc (Below.refl w.heap.size w) _).cell (by show b < w.heap.size; omega)]; exact hcell
      clear hcell
      have HBAD : Hid (Dk.withinB v 0 1048576 = false → Dk.check p = 9) := fun hw => nine_sems (all_no p.sems _ 0 k (by rw [HLs.out]; exact hlt) (by rw [← HV.out]; exact hw))
      by_cases hv0 : v < 0
      · go_wp2
        go_ret
        exact ⟨ret_int (HBAD.out (by unfold Dk.withinB; simp; omega)).symm, Dk.up_alloc (Below.refl _ _) _⟩
      by_cases hv1 : 1048576 < v
      · go_wp2
        go_ret
        exact ⟨ret_int (HBAD.out (by unfold Dk.withinB; simp; omega)).symm, Dk.up_alloc (Below.refl _ _) _⟩
      · have HW : Hid (Dk.withinB v 0 1048576 = true) := by show _ = true; unfold Dk.withinB; simp; omega
        clear HBAD
        go_wp2
        go_round
        case rel =>
          refine ⟨k + 1, by omega, by go_num, ?_⟩
          show List.all _ _ = true
          rw [all_take_succ _ _ 0 k (by rw [HLs.out]; exact hlt), HA.out, ← HV.out, HW.out]
          rfl
        case measure => simp [intOf]; omega
    · have HS1 : Hid (Dk.allWithinB p.sems 0 1048576 = true) := by
        have := HA.out
        rw [List.take_of_length_le (by rw [HLs.out]; omega)] at this
        exact this
      clear HA
      go_wp2
      go_loop [4] (fun i => ∃ k : Nat, k ≤ pL ∧ i = .int .i64 k ∧ Hid ((p.pipes.take k).all (fun n => Dk.withinB n 1 8) = true)) (fun i => pL - (intOf i).toNat)
      case atStart => exact ⟨0, Nat.zero_le _, rfl, by show (p.pipes.take 0).all _ = true; simp⟩
      case round =>
        clear hk hlt
        obtain ⟨k, hk, rfl, HA⟩ := hrel
        by_cases hlt : k < pL
        · obtain ⟨b, o, rfl, hbB, hcs⟩ := h.pipes.cells (by show 0 < pL; omega)
          have hcell := hcs k hlt
          clear hcs
          obtain ⟨v, hv⟩ : ∃ v, v = p.pipes.getD k 0 := ⟨_, rfl⟩
          rw [← hv] at hcell
          have HV : Hid (v = p.pipes.getD k 0) := hv
          clear hv
          have hcell' : (w.alloc (.cells #[.slice sfA sfL sfC, .int .i64 p.words, .int .i64 p.mutexes, .int .i64 p.conds, .slice sA sL sC, .slice (some ⟨b, o, none⟩) pL pC, .int .i64 p.blocks, .int .i64 p.prio] 25)).cell? ⟨b, o + k, none⟩ = some (.int .i64 v) := by
            rw [(Dk.up_alloc (Below.refl w.heap.size w) _).cell (by show b < w.heap.size; omega)]; exact hcell
          clear hcell
          have HBAD : Hid (Dk.withinB v 1 8 = false → Dk.check p = 9) := fun hw => nine_pipes (all_no p.pipes _ 0 k (by rw [HLp.out]; exact hlt) (by rw [← HV.out]; exact hw))
          by_cases hv0 : v < 1
          · go_wp2
            go_ret
            exact ⟨ret_int (HBAD.out (by unfold Dk.withinB; simp; omega)).symm, Dk.up_alloc (Below.refl _ _) _⟩
          by_cases hv1 : 8 < v
          · go_wp2
            go_ret
            exact ⟨ret_int (HBAD.out (by unfold Dk.withinB; simp; omega)).symm, Dk.up_alloc (Below.refl _ _) _⟩
          · have HW : Hid (Dk.withinB v 1 8 = true) := by show _ = true; unfold Dk.withinB; simp; omega
            clear HBAD
            go_wp2
            go_round
            case rel =>
              refine ⟨k + 1, by omega, by go_num, ?_⟩
              show List.all _ _ = true
              rw [all_take_succ _ _ 0 k (by rw [HLp.out]; exact hlt), HA.out, ← HV.out, HW.out]
              rfl
            case measure => simp [intOf]; omega
        · have HS2 : Hid (Dk.allWithinB p.pipes 1 8 = true) := by
            have := HA.out
            rw [List.take_of_length_le (by rw [HLp.out]; omega)] at this
            exact this
          clear HA
          go_wp2
          go_loop [5] (fun i => ∃ k : Nat, k ≤ sfL ∧ i = .int .i64 k ∧ Hid ((p.funcs.take k).all (fun c => decide (c.length ≤ 256)) = true)) (fun i => sfL - (intOf i).toNat)
          case atStart => exact ⟨0, Nat.zero_le _, rfl, by show (p.funcs.take 0).all _ = true; simp⟩
          case round =>
            clear hk hlt
            obtain ⟨k, hk, rfl, HA⟩ := hrel
            by_cases hlt : k < sfL
            · obtain ⟨b, o, rfl, hbB, hcs⟩ := h.funcs.cells (by show 0 < sfL; omega)
              obtain ⟨A', L', C', hcell, hn⟩ := hcs k hlt
              have HN : Hid ((p.funcs.getD k []).length = L') := hn.len
              have hmax' := hn.max
              have hcap' := hn.cap
              unfold maxLen at hmax'
              have hcell' : (w.alloc (.cells #[.slice (some ⟨b, o, none⟩) sfL sfC, .int .i64 p.words, .int .i64 p.mutexes, .int .i64 p.conds, .slice sA sL sC, .slice pA pL pC, .int .i64 p.blocks, .int .i64 p.prio] 25)).cell? ⟨b, o + k, none⟩ = some (.slice A' L' C') := by
                rw [(Dk.up_alloc (Below.refl w.heap.size w) _).cell (by show b < w.heap.size; omega)]; exact hcell
              clear hcell hcs hn
              by_cases hl : L' ≤ 256
              · have hl2 : ¬ 256 < L' := by omega
                go_wp2
                go_round
                case rel =>
                  refine ⟨k + 1, by omega, by go_num, ?_⟩
                  show List.all _ _ = true
                  rw [all_take_succ _ _ [] k (by rw [HLf.out]; exact hlt), HA.out, HN.out]
                  simp [hl]
                case measure => simp [intOf]; omega
              · have hl2 : 256 < L' := by omega
                have HBAD : Hid (Dk.check p = 9) := nine_code (all_no p.funcs _ [] k (by rw [HLf.out]; exact hlt) (by rw [HN.out]; simp [hl]))
                go_wp2
                go_ret
                exact ⟨ret_int HBAD.out.symm, Dk.up_alloc (Below.refl _ _) _⟩
            · have HS3 : Hid ((p.funcs.all fun c => decide (c.length ≤ 256)) = true) := by
                have := HA.out
                rw [List.take_of_length_le (by rw [HLf.out]; omega)] at this
                exact this
              have HFIT : Hid _ := HF.out HS1.out HS2.out HS3.out
              clear HA HS1 HS2 HS3
              go_wp2
              go_loopw [6] (fun i w' => ∃ k : Nat, k ≤ sfL ∧ i = .int .i64 k ∧ Hid ((p.funcs.take k).all (fun c => c.all fun i => Dk.soundB p i) = true) ∧ Hid (Below (w.alloc (.cells #[.slice sfA sfL sfC, .int .i64 p.words, .int .i64 p.mutexes, .int .i64 p.conds, .slice sA sL sC, .slice pA pL pC, .int .i64 p.blocks, .int .i64 p.prio] 25)).heap.size (w.alloc (.cells #[.slice sfA sfL sfC, .int .i64 p.words, .int .i64 p.mutexes, .int .i64 p.conds, .slice sA sL sC, .slice pA pL pC, .int .i64 p.blocks, .int .i64 p.prio] 25)) w')) (fun i w' => sfL - (intOf i).toNat)
              case atStart => exact ⟨0, Nat.zero_le _, rfl, by show (p.funcs.take 0).all _ = true; simp, Below.refl _ _⟩
              case round =>
                clear hk hlt
                obtain ⟨k, hk, rfl, HA, HB⟩ := hrel
                have hboxo := Dk.box_cell HB.out
                by_cases hlt : k < sfL
                · obtain ⟨b, o, rfl, hbB, hcs⟩ := h.funcs.cells (by show 0 < sfL; omega)
                  obtain ⟨A', L', C', hcell, hn⟩ := hcs k hlt
                  have HN : Hid ((p.funcs.getD k []).length = L') := hn.len
                  have hmax' := hn.max
                  have hcap' := hn.cap
                  unfold maxLen at hmax'
                  clear hcs
                  go_wp2
                  go_loopw [7] (fun j w' => ∃ q : Nat, q ≤ L' ∧ j = .int .i64 q ∧ Hid (((p.funcs.getD k []).take q).all (fun i => Dk.soundB p i) = true) ∧ Hid (Below (w.alloc (.cells #[.slice (some ⟨b, o, none⟩) sfL sfC, .int .i64 p.words, .int .i64 p.mutexes, .int .i64 p.conds, .slice sA sL sC, .slice pA pL pC, .int .i64 p.blocks, .int .i64 p.prio] 25)).heap.size (w.alloc (.cells #[.slice (some ⟨b, o, none⟩) sfL sfC, .int .i64 p.words, .int .i64 p.mutexes, .int .i64 p.conds, .slice sA sL sC, .slice pA pL pC, .int .i64 p.blocks, .int .i64 p.prio] 25)) w')) (fun j w' => L' - (intOf j).toNat)
                  case atStart => exact ⟨0, Nat.zero_le _, rfl, by show (List.take 0 _).all _ = true; simp, HB⟩
                  case round =>
                    obtain ⟨q, hq, rfl, HA2, HB2⟩ := hrel
                    have hbox := Dk.box_cell HB2.out
                    have hrow : wr.cell? ⟨b, o + k, none⟩ = some (.slice A' L' C') := by
                      rw [HB2.out.cell (by simp; omega), (Dk.up_alloc (Below.refl w.heap.size w) _).cell (by show b < w.heap.size; omega)]; exact hcell
                    by_cases hlt2 : q < L'
                    · obtain ⟨b', o', rfl, hbB', hcs⟩ := hn.cells (by omega)
                      have hx := hcs q hlt2
                      generalize hg : (p.funcs.getD k []).getD q Dk.Ins.zero = x at hx
                      have HG : Hid ((p.funcs.getD k []).getD q Dk.Ins.zero = x) := hg
                      have hxok : x.ok := by
                        have hm : x ∈ p.funcs.getD k [] := by
                          rw [← hg]; exact getD_mem _ _ _ (by rw [HN.out]; exact hlt2)
                        exact hn.wf x hm
                      clear hg hcs
                      have hz : b' < wr.heap.size ∧ b < wr.heap.size ∧ w.heap.size < wr.heap.size := by
                        have := HB2.out.size
                        simp only [World.size_alloc] at this
                        omega
                      have up : ∀ (y : Dk.Up wr) c, y.wd.cell? ⟨b', c, none⟩ = w.cell? ⟨b', c, none⟩ := fun y c => by
                        rw [(up_below y).cell (by show b' < wr.heap.size; omega), HB2.out.cell (by simp; omega), (Dk.up_alloc (Below.refl w.heap.size w) _).cell (by show b' < w.heap.size; omega)]
                      have x0 : ∀ y : Dk.Up wr, y.wd.cell? ⟨b', o' + q * 5, none⟩ = some (.int .i64 x.op) := fun y => (up y _).trans hx.1
                      have x1 : ∀ y : Dk.Up wr, y.wd.cell? ⟨b', o' + q * 5 + 1, none⟩ = some (.int .i64 x.a) := fun y => (up y _).trans hx.2.1
                      have x2 : ∀ y : Dk.Up wr, y.wd.cell? ⟨b', o' + q * 5 + 2, none⟩ = some (.int .i64 x.b) := fun y => (up y _).trans hx.2.2.1
                      have x3 : ∀ y : Dk.Up wr, y.wd.cell? ⟨b', o' + q * 5 + 3, none⟩ = some (.int .i64 x.c) := fun y => (up y _).trans hx.2.2.2.1
                      have x4 : ∀ y : Dk.Up wr, y.wd.cell? ⟨b', o' + q * 5 + 4, none⟩ = some (.int .u64 (x.n : Nat)) := fun y => (up y _).trans hx.2.2.2.2
                      have y0 : ∀ (y : Dk.Up wr) c, y.wd.cell? ⟨w.heap.size, c, none⟩ = (#[.slice (some ⟨b, o, none⟩) sfL sfC, .int .i64 p.words, .int .i64 p.mutexes, .int .i64 p.conds, .slice sA sL sC, .slice pA pL pC, .int .i64 p.blocks, .int .i64 p.prio] : Array Value)[c]? := fun y c => by
                        rw [(up_below y).cell (by show w.heap.size < wr.heap.size; omega)]; exact hbox c
                      have y1 : ∀ y : Dk.Up wr, y.wd.cell? ⟨b, o + k, none⟩ = some (.slice (some ⟨b', o', none⟩) L' C') := fun y => by
                        rw [(up_below y).cell (by show b < wr.heap.size; omega)]; exact hrow
                      have hne : Nonempty (Dk.Up wr) := ⟨⟨wr, Below.refl _ _⟩⟩
                      have i1 : (k : Int) < (sfL : Int) := by omega
                      have i2 : (q : Int) < (L' : Int) := by omega
                      clear up hx
                      cases hsd : Dk.soundB p x
                      · have c2 : ∀ w, Calls Try.prog 10 #[Dk.pv ⟨some ⟨b, o, none⟩, sfL, sfC, sA, sL, sC, pA, pL, pC⟩ p, Dk.iv x] w fun e w' => e = .returned (.bool false) ∧ Below w.heap.size w w' := fun w => by rw [← hsd]; exact rSound_any _ p x w hs hp hxok
                        have C2 : Hid _ := c2
                        have HSD : Hid _ := hsd
                        clear c2 hsd
                        go_wp2_with fail
                        refine Dk.wp_region_up_lit (by kernel_rfl) (by kernel_rfl) ?_
                        repeat (go_big_quiet_step ((go_at_call 10; exact Dk.calls_up _ (C2.out _))))
                        refine wpQuiet_nil ?_
                        intro _ hw'
                        obtain ⟨y, hw''⟩ := hw'
                        subst hw''
                        go_wp2_with fail
                        go_ret
                        refine ⟨ret_int (check_eight HFIT.out ?_).symm, Dk.up_call (Dk.up_call (Dk.up_alloc (Below.refl _ _) _) HB2.out) (up_below y)⟩
                        exact all_no p.funcs _ [] k (by rw [HLf.out]; exact hlt) (all_no _ _ Dk.Ins.zero q (by rw [HN.out]; exact hlt2) (by rw [HG.out]; exact HSD.out))
                      · have c2 : ∀ w, Calls Try.prog 10 #[Dk.pv ⟨some ⟨b, o, none⟩, sfL, sfC, sA, sL, sC, pA, pL, pC⟩ p, Dk.iv x] w fun e w' => e = .returned (.bool true) ∧ Below w.heap.size w w' := fun w => by rw [← hsd]; exact rSound_any _ p x w hs hp hxok
                        have C2 : Hid _ := c2
                        have HSD : Hid _ := hsd
                        clear c2 hsd
                        go_wp2_with fail
                        refine Dk.wp_region_up_lit (by kernel_rfl) (by kernel_rfl) ?_
                        repeat (go_big_quiet_step ((go_at_call 10; exact Dk.calls_up _ (C2.out _))))
                        refine wpQuiet_nil ?_
                        intro _ hw'
                        obtain ⟨y, hw''⟩ := hw'
                        subst hw''
                        go_wp2_with fail
                        go_roundw
                        case rel =>
                          refine ⟨q + 1, by omega, by go_num, ?_, Dk.up_call HB2.out (up_below y)⟩
                          show List.all _ _ = true
                          rw [all_take_succ _ _ Dk.Ins.zero q (by rw [HN.out]; exact hlt2), HA2.out, HG.out, HSD.out]
                          rfl
                        case measure => simp [intOf]; omega
                    · go_wp2
                      go_roundw
                      case rel =>
                        refine ⟨k + 1, by omega, by go_num, ?_, HB2⟩
                        show List.all _ _ = true
                        have := HA2.out
                        rw [List.take_of_length_le (by rw [HN.out]; omega)] at this
                        rw [all_take_succ _ _ [] k (by rw [HLf.out]; exact hlt), HA.out, this]
                        rfl
                      case measure => simp [intOf]; omega
                · go_wp2
                  go_ret
                  refine ⟨ret_int (check_zero HFIT.out ?_).symm, Dk.up_call (Dk.up_alloc (Below.refl _ _) _) HB.out⟩
                  have := HA.out
                  rw [List.take_of_length_le (by rw [HLf.out]; omega)] at this
                  exact this

theorem rCheck_any (B : Nat) (s : Dk.Sh) (p : Dk.Prg) (w : World) (h : Dk.PrgAt B w s p) (hB : B ≤ w.heap.size) :
    Calls Try.prog 12 #[Dk.pv s p] w fun e w' => e = .returned (.int .i64 (Dk.check p)) ∧ Below w.heap.size w w' := by
  by_cases hf : Fine s p
  · exact rcheck_fine B s p w h hB hf
  · exact rcheck_not s p w (lens_of h) hf

end Go.Proofs.Ytmapmhcmeokahaa
