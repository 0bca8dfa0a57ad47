/- The walk of the statement on a program's parts. -/
import Derived.Test.YtmapmhcmeokahaaLawr
import Derived.Test.YtmapmhcmeokahaaParts
import Derived.Test.YtmapmhcmeokahaaUp
import Derived.Deep.OwnRows
import Derived.Deep.RegionHeld3
namespace Go.Proofs.Ytmapmhcmeokahaa
set_option linter.unusedSimpArgs false
set_option linter.unusedVariables false
set_option linter.unnecessarySimpa false
open Go.RowKit

theorem make_funcs (n : Nat) (hn : n ≤ 8) (w : World) : (Instr.makeSlice 22 (.int .i64 (n : Int)) (.int .i64 (n : Int))).run Try.prog w = .ok (.slice (some ⟨w.heap.size, 0, none⟩) n n) (w.alloc (.cells (madeCells #[.slice none 0 0] n) 36)) :=
  run_make_row' 22 36 (.slice none 0 0) 24 Try.underlying22 (by kernel_rfl) rfl .i64 .i64 n (by omega) (by omega) w

set_option maxHeartbeats 1000000 in
theorem parts_cap (s : Dk.Sh) (p : Dk.Prg) (i : Dk.Ins) (w : World) (h : Dk.PrgAt w.heap.size w s p) (hc : (Dk.check p == 9) = true) :
    Calls Try.prog 6 #[Dk.pv s p, Dk.iv i] w fun e w' => e = .returned (.bool true) ∧ Below w.heap.size w w' := by
  go_enter Try.func6, Try.ntmps6
  go_wp2_with fail
  refine (Check_any w.heap.size s p _ (h.below (Dk.up_alloc (Dk.up_alloc (Below.refl _ _) _) _) (Nat.le_refl _)) (by simp; omega)).mono ?_
  rintro e w1 ⟨rfl, hb1⟩
  go_wp2_with fail
  refine (awake_any _).mono ?_
  rintro e w2 ⟨rfl, hb2⟩
  go_wp2_with fail
  go_ret
  exact ⟨rfl, Dk.up_call (Dk.up_call (Dk.up_alloc (Dk.up_alloc (Below.refl _ _) _) _) hb1) hb2⟩

theorem i64_four : Dk.i64 4 := by unfold Dk.i64; decide
theorem made_cell (n k : Nat) (h : k < n) : (madeCells #[.slice none 0 0] n)[k]? = some (.slice none 0 0) := by
  rw [← Array.getElem?_toList, toList_madeCells_one]
  simp [h]

set_option maxHeartbeats 1000000 in
theorem parts_try (s : Dk.Sh) (p : Dk.Prg) (i : Dk.Ins) (w : World) (h : Dk.PrgAt w.heap.size w s p) (hc : (Dk.check p == 9) = false) :
    Calls Try.prog 6 #[Dk.pv s p, Dk.iv i] w fun e w' => e = .returned (.bool true) ∧ Below w.heap.size w w' := by
  have hfl := (Dk.fits_of hc).1
  unfold Dk.codeFitsB Dk.withinB at hfl
  simp only [Bool.and_eq_true, decide_eq_true_eq] at hfl
  rw [h.funcs.len] at hfl
  have hfl1 : s.fL ≤ 8 := by omega
  clear hfl
  have hmk := make_funcs s.fL hfl1
  have hs := lens_of h
  have hp := h.ok
  have HLf : Hid (p.funcs.length = s.fL) := h.funcs.len
  obtain ⟨sfA, sfL, sfC, sA, sL, sC, pA, pL, pC⟩ := s
  simp only at hfl1 hmk HLf
  obtain ⟨W2, e2⟩ : ∃ W2, W2 = (w.alloc (.cells #[.slice sfA sfL sfC, .int .i64 p.words, .int .i64 p.mutexes, .int .i64 p.conds, .slice sA sL sC, .slice pA pL pC, .int .i64 p.blocks, .int .i64 p.prio] 25)).alloc (.cells #[.int .i64 i.op, .int .i64 i.a, .int .i64 i.b, .int .i64 i.c, .int .u64 (i.n : Nat)] 28) := ⟨_, rfl⟩
  obtain ⟨z2, hF⟩ := boxes ⟨sfA, sfL, sfC, sA, sL, sC, pA, pL, pC⟩ p i w W2 e2
  have HF : Hid _ := hF
  have HZ : Hid _ := z2
  clear hF z2
  go_enter Try.func6, Try.ntmps6
  go_wp2_with fail
  rw [← e2]
  clear e2
  obtain ⟨u0, _, _, _⟩ := HF.out W2 (Below.refl _ _)
  refine (Check_any w.heap.size ⟨sfA, sfL, sfC, sA, sL, sC, pA, pL, pC⟩ p _ (h.below u0 (Nat.le_refl _)) u0.size).mono ?_
  rintro e w1 ⟨rfl, hb1⟩
  go_wp2
  go_loopw [5, 6] (fun al j w' => ∃ k : Nat, k ≤ sfL ∧ j = .int .i64 k ∧ al = .bool ((p.funcs.take k).all fun c => c.all fun i => Dk.soundB p i) ∧ Hid (Below W2.heap.size W2 w')) (fun _ j w' => sfL - (intOf j).toNat)
  case atStart => exact ⟨0, Nat.zero_le _, rfl, by simp, hb1⟩
  case round =>
    obtain ⟨k, hk, rfl, rfl, HB⟩ := hrel
    clear u0 hb1
    by_cases hlt : k < sfL
    · obtain ⟨b, o, rfl, hbB, hcs⟩ := h.funcs.cells (by show 0 < sfL; omega)
      obtain ⟨A', L', C', hcell0, hn⟩ := hcs k hlt
      obtain ⟨u1, g1, g2, g3⟩ := HF.out _ HB.out
      have g4 : w.heap.size < wr.heap.size := by omega
      have hrow : wr.cell? ⟨b, o + k, none⟩ = some (.slice A' L' C') := by rw [u1.cell (by show b < w.heap.size; omega)]; exact hcell0
      clear hcs hcell0
      have hb1 : b ≠ wr.heap.size := by omega
      have hb2 : b ≠ wr.heap.size + 1 := by omega
      obtain ⟨X, eX⟩ : ∃ X, X = (wr.alloc (.cells #[.slice (some ⟨wr.heap.size + 1, 0, none⟩) sfL sfL, .int .i64 p.words, .int .i64 p.mutexes, .int .i64 p.conds, .slice sA sL sC, .slice pA pL pC, .int .i64 p.blocks, .int .i64 p.prio] 25)).alloc (.cells (madeCells #[.slice none 0 0] sfL) 36) := ⟨_, rfl⟩
      have uX : Below wr.heap.size wr X := by rw [eX]; exact Dk.up_alloc (Dk.up_alloc (Below.refl _ _) _) _
      have xq : ∀ o, X.cell? ⟨wr.heap.size, o, none⟩ = (#[.slice (some ⟨wr.heap.size + 1, 0, none⟩) sfL sfL, .int .i64 p.words, .int .i64 p.mutexes, .int .i64 p.conds, .slice sA sL sC, .slice pA pL pC, .int .i64 p.blocks, .int .i64 p.prio] : Array Value)[o]? := by
        rw [eX]; exact Dk.box_cell (Dk.up_alloc (Below.refl _ _) _)
      have xm : ∀ o, X.cell? ⟨wr.heap.size + 1, o, none⟩ = (madeCells #[.slice none 0 0] sfL)[o]? := by
        have := Dk.box_cell (w := wr.alloc (.cells #[.slice (some ⟨wr.heap.size + 1, 0, none⟩) sfL sfL, .int .i64 p.words, .int .i64 p.mutexes, .int .i64 p.conds, .slice sA sL sC, .slice pA pL pC, .int .i64 p.blocks, .int .i64 p.prio] 25)) (t := 36) (cs := madeCells #[.slice none 0 0] sfL) (Below.refl _ _)
        rw [eX]; simp only [World.size_alloc] at this; exact this
      have xf : ∀ o, X.frozen? ⟨wr.heap.size + 1, o, none⟩ = false := by
        have := Dk.box_frozen (w := wr.alloc (.cells #[.slice (some ⟨wr.heap.size + 1, 0, none⟩) sfL sfL, .int .i64 p.words, .int .i64 p.mutexes, .int .i64 p.conds, .slice sA sL sC, .slice pA pL pC, .int .i64 p.blocks, .int .i64 p.prio] 25)) (t := 36) (cs := madeCells #[.slice none 0 0] sfL) (Below.refl _ _)
        rw [eX]; simp only [World.size_alloc] at this; exact this
      have xk : X.cell? ⟨wr.heap.size + 1, k, none⟩ = some (.slice none 0 0) := by rw [xm, made_cell _ _ hlt]
      have xr : X.cell? ⟨b, o + k, none⟩ = some (.slice A' L' C') := by rw [uX.cell (by show b < wr.heap.size; omega)]; exact hrow
      have xp : ∀ q, X.cell? ⟨w.heap.size, q, none⟩ = wr.cell? ⟨w.heap.size, q, none⟩ := fun q => uX.cell (by show w.heap.size < wr.heap.size; omega)
      have xp0 := (xp 0).trans (g1 0)
      simp only [List.getElem?_toArray, List.getElem?_cons_zero] at xp0
      go_wp2
      rw [← eX]
      have HM : Hid _ := xm
      clear eX xm xp hrow
      obtain ⟨Y, eY⟩ : ∃ Y, Y = X.setCell ⟨wr.heap.size + 1, k, none⟩ (.slice A' L' C') := ⟨_, rfl⟩
      have yo : ∀ bb q, bb ≠ wr.heap.size + 1 → Y.cell? ⟨bb, q, none⟩ = X.cell? ⟨bb, q, none⟩ := fun bb q hbb => by
        rw [eY]; exact World.cell?_setCell_other _ _ _ _ (by simp <;> omega)
      have yq : ∀ q, Y.cell? ⟨wr.heap.size, q, none⟩ = (#[.slice (some ⟨wr.heap.size + 1, 0, none⟩) sfL sfL, .int .i64 p.words, .int .i64 p.mutexes, .int .i64 p.conds, .slice sA sL sC, .slice pA pL pC, .int .i64 p.blocks, .int .i64 p.prio] : Array Value)[q]? := fun q => by rw [yo _ _ (by omega)]; exact xq q
      have yr : Y.cell? ⟨b, o + k, none⟩ = some (.slice A' L' C') := by rw [yo _ _ (by omega)]; exact xr
      have yp0 : Y.cell? ⟨w.heap.size, 0, none⟩ = some (.slice (some ⟨b, o, none⟩) sfL sfC) := by rw [yo _ _ (by omega)]; exact xp0
      have ym : ∀ r, r < sfL → Y.cell? ⟨wr.heap.size + 1, r, none⟩ = some (if r = k then .slice A' L' C' else .slice none 0 0) := fun r hr => by
        by_cases e : r = k
        · rw [if_pos e, e, eY]; exact World.cell?_setCell_same _ _ _ xk
        · rw [if_neg e, eY, World.cell?_setCell_other _ _ _ _ (by simp <;> omega), HM.out, made_cell _ _ hr]
      have uY : Below wr.heap.size wr Y := by rw [eY]; exact Dk.up_set uX (by omega) _
      have yz : Y.heap.size = X.heap.size := by rw [eY]; simp [World.setCell]
      have YQ : Hid _ := yq
      have YR : Hid _ := yr
      have YP : Hid _ := yp0
      have YM : Hid _ := ym
      have YE : Hid _ := eY
      rw [eY] at yr yp0
      clear yo yq ym eY
      go_region_held3 (fun w' => w'.cell? ⟨wr.heap.size, 0, none⟩ = some (.slice (some ⟨wr.heap.size + 1, 0, none⟩) sfL sfL) ∧ w'.cell? ⟨w.heap.size, 0, none⟩ = some (.slice (some ⟨b, o, none⟩) sfL sfC) ∧ w'.cell? ⟨b, o + k, none⟩ = some (.slice A' L' C')) (go_keep) (fail)
      rw [← YE.out]
      have uZ : Below W2.heap.size W2 Y.drew := Dk.up_drew (Dk.up_call HB.out uY)
      have zq : ∀ q, Y.drew.cell? ⟨wr.heap.size, q, none⟩ = (#[.slice (some ⟨wr.heap.size + 1, 0, none⟩) sfL sfL, .int .i64 p.words, .int .i64 p.mutexes, .int .i64 p.conds, .slice sA sL sC, .slice pA pL pC, .int .i64 p.blocks, .int .i64 p.prio] : Array Value)[q]? := YQ.out
      have hZ : Dk.PrgAt Y.drew.heap.size Y.drew ⟨some ⟨wr.heap.size + 1, 0, none⟩, sfL, sfL, sA, sL, sC, pA, pL, pC⟩ (Dk.part p k) := by
        have u := (HF.out _ uZ).1
        have := uX.size
        have hsz : wr.heap.size + 1 < Y.drew.heap.size := by
          show wr.heap.size + 1 < Y.heap.size
          rw [yz]; exact Dk.lt_of_cell xk
        exact Dk.part_at (h.below u (Nat.le_refl _)) hlt u.size hsz (hn.below u (Nat.le_refl _)) YM.out
      generalize Y.drew = Z at *
      have HPZ : Hid _ := hZ
      clear hZ xk xf xr xp0 xq yr yp0 uX uY yz YQ YR YP YM YE HM
      cases hal : (p.funcs.take k).all fun c => c.all fun i => Dk.soundB p i
      · have HAL : Hid _ := hal
        clear hal
        go_wp2
        go_roundw
        case rel =>
          refine ⟨k + 1, by omega, by go_num, ?_, uZ⟩
          rw [all_take_succ _ _ [] k (by rw [HLf.out]; exact hlt), HAL.out]
          rfl
        case measure => simp [intOf]; omega
      · have HAL : Hid _ := hal
        clear hal
        go_wp2_with fail
        refine (Check_any Z.heap.size _ (Dk.part p k) Z HPZ.out (Nat.le_refl _)).mono ?_
        rintro e w5 ⟨rfl, hb5⟩
        go_wp2_with fail
        go_roundw
        case rel =>
          refine ⟨k + 1, by omega, by go_num, ?_, Dk.up_call uZ hb5⟩
          rw [all_take_succ _ _ [] k (by rw [HLf.out]; exact hlt), HAL.out, ← Dk.check_part (by rw [HLf.out]; exact hlt) hc]
          rfl
        case measure => simp [intOf]; omega
    · obtain ⟨u1, g1, g2, g3⟩ := HF.out _ HB.out
      have g4 : w.heap.size < wr.heap.size := by omega
      have hal : ((p.funcs.take k).all fun c => c.all fun i => Dk.soundB p i) = (Dk.check p == 0) := by
        rw [Dk.check_zero_iff hc, List.take_of_length_le (by rw [HLf.out]; omega)]
        rfl
      rw [hal]
      clear hal
      obtain ⟨X3, e3⟩ : ∃ X3, X3 = ((wr.alloc (.cells #[.slice sfA sfL sfC, .int .i64 p.words, .int .i64 4, .int .i64 4, .slice (some ⟨wr.heap.size + 1, 0, none⟩) 4 4, .slice (some ⟨wr.heap.size + 1 + 1, 0, none⟩) 4 4, .int .i64 p.blocks, .int .i64 p.prio] 25)).alloc (.cells #[.int .i64 1, .int .i64 1, .int .i64 1, .int .i64 1] 3)).alloc (.cells #[.int .i64 1, .int .i64 1, .int .i64 1, .int .i64 1] 3) := ⟨_, rfl⟩
      have U3 : Hid (Below W2.heap.size W2 X3) := by show Below _ _ _; rw [e3]; exact Dk.up_alloc (Dk.up_alloc (Dk.up_alloc HB.out _) _) _
      have HM3 : Hid (∀ w', Below X3.heap.size X3 w' → ∀ q, w'.cell? ⟨wr.heap.size, q, none⟩ = (#[.slice sfA sfL sfC, .int .i64 p.words, .int .i64 4, .int .i64 4, .slice (some ⟨wr.heap.size + 1, 0, none⟩) 4 4, .slice (some ⟨wr.heap.size + 1 + 1, 0, none⟩) 4 4, .int .i64 p.blocks, .int .i64 p.prio] : Array Value)[q]?) := fun w' hw' => by
        rw [e3] at hw'
        exact Dk.box_cell (Dk.up_call (Dk.up_alloc (Dk.up_alloc (Below.refl _ _) _) _) hw')
      have hsm : Lens ⟨sfA, sfL, sfC, some ⟨wr.heap.size + 1, 0, none⟩, 4, 4, some ⟨wr.heap.size + 1 + 1, 0, none⟩, 4, 4⟩ (Dk.more p) := ⟨HLf.out, rfl, rfl⟩
      have hpm : (Dk.more p).ok := ⟨i64_four, i64_four, hp.funcsL, (by show ((4 : Nat) : Int) ≤ 9223372036854775807; decide), (by show ((4 : Nat) : Int) ≤ 9223372036854775807; decide)⟩
      cases hsd : Dk.soundB p i
      · have HSD : Hid _ := hsd
        go_wp2_with fail
        rw [← e3]
        clear e3
        refine (awake_any _).mono ?_
        rintro e w6 ⟨rfl, hb6⟩
        have u6 : Below W2.heap.size W2 w6 := Dk.up_call U3.out hb6
        obtain ⟨k6, a1, a2, a3⟩ := HF.out _ u6
        have m6 := HM3.out _ hb6
        clear g1 g2 g3 g4
        go_wp2_with fail
        refine (Check_any w.heap.size ⟨sfA, sfL, sfC, sA, sL, sC, pA, pL, pC⟩ p _ (h.below k6 (Nat.le_refl _)) k6.size).mono ?_
        rintro e w7 ⟨rfl, hb7⟩
        have u7 : Below W2.heap.size W2 w7 := Dk.up_call u6 hb7
        have b7 := Dk.up_call hb6 hb7
        clear a1 a2 a3 m6
        obtain ⟨k7, a1, a2, a3⟩ := HF.out _ u7
        have m7 := HM3.out _ b7
        go_wp2_with fail
        refine (Sound_any ⟨sfA, sfL, sfC, sA, sL, sC, pA, pL, pC⟩ p i _ hs hp).mono ?_
        rintro e w8 ⟨rfl, hb8⟩
        have u8 : Below W2.heap.size W2 w8 := Dk.up_call u7 hb8
        have b8 := Dk.up_call b7 hb8
        clear a1 a2 a3 m7
        obtain ⟨k8, a1, a2, a3⟩ := HF.out _ u8
        have m8 := HM3.out _ b8
        rw [HSD.out]
        go_wp2_with fail
        go_ret
        exact ⟨ret_bool (by simp), k8⟩
      · have HSD : Hid _ := hsd
        have HSM : Hid _ := Dk.sound_more hc hsd
        go_wp2_with fail
        rw [← e3]
        clear e3
        refine (awake_any _).mono ?_
        rintro e w6 ⟨rfl, hb6⟩
        have u6 : Below W2.heap.size W2 w6 := Dk.up_call U3.out hb6
        obtain ⟨k6, a1, a2, a3⟩ := HF.out _ u6
        have m6 := HM3.out _ hb6
        clear g1 g2 g3 g4
        go_wp2_with fail
        refine (Check_any w.heap.size ⟨sfA, sfL, sfC, sA, sL, sC, pA, pL, pC⟩ p _ (h.below k6 (Nat.le_refl _)) k6.size).mono ?_
        rintro e w7 ⟨rfl, hb7⟩
        have u7 : Below W2.heap.size W2 w7 := Dk.up_call u6 hb7
        have b7 := Dk.up_call hb6 hb7
        clear a1 a2 a3 m6
        obtain ⟨k7, a1, a2, a3⟩ := HF.out _ u7
        have m7 := HM3.out _ b7
        go_wp2_with fail
        refine (Sound_any ⟨sfA, sfL, sfC, sA, sL, sC, pA, pL, pC⟩ p i _ hs hp).mono ?_
        rintro e w8 ⟨rfl, hb8⟩
        have u8 : Below W2.heap.size W2 w8 := Dk.up_call u7 hb8
        have b8 := Dk.up_call b7 hb8
        clear a1 a2 a3 m7
        obtain ⟨k8, a1, a2, a3⟩ := HF.out _ u8
        have m8 := HM3.out _ b8
        rw [HSD.out]
        go_wp2_with fail
        refine (Sound_any ⟨sfA, sfL, sfC, some ⟨wr.heap.size + 1, 0, none⟩, 4, 4, some ⟨wr.heap.size + 1 + 1, 0, none⟩, 4, 4⟩ (Dk.more p) i _ hsm hpm).mono ?_
        rintro e w9 ⟨rfl, hb9⟩
        rw [HSM.out]
        go_wp2_with fail
        go_ret
        exact ⟨ret_bool (by simp), (HF.out _ (Dk.up_call u8 hb9)).1⟩

theorem instParts_w (s : Dk.Sh) (p : Dk.Prg) (i : Dk.Ins) (w : World) (h : Dk.PrgAt w.heap.size w s p) :
    Calls Try.prog 6 #[Dk.pv s p, Dk.iv i] w fun e w' => e = .returned (.bool true) ∧ Below w.heap.size w w' := by
  cases hc : (Dk.check p == 9)
  · exact parts_try s p i w h hc
  · exact parts_cap s p i w h hc

end Go.Proofs.Ytmapmhcmeokahaa
