/- A mutex is never two's: the statement GateAlone, walked. -/
import Derived.Test.YtjkdaankjondjaaHu
import Derived.Test.YtjkdaankjondjaaGm
namespace Go.Proofs.Ytjkdaankjondjaa
set_option linter.unusedSimpArgs false
set_option linter.unusedVariables false
set_option linter.unnecessarySimpa false
open Go.RowKit Go.Lib

set_option maxRecDepth 100000 in
set_option maxHeartbeats 16000000 in
theorem GateAlone_true (A : Option Addr) (L C : Nat) (acts : List (List Int)) (w : World) (hr : Dk.Row 5 [] Dk.IsInts w.heap.size w A L C acts) : Calls Try.prog 4 #[.slice A L C] w fun e w' => e = .returned (.bool true) ∧ Below w.heap.size w w' := by
  obtain ⟨W1, e1⟩ : ∃ W1, W1 = w.alloc (.cells #[.int .i64 0] 3) := ⟨_, rfl⟩
  have u1 : Below w.heap.size w W1 := by rw [e1]; exact Dk.up_alloc (Below.refl _ _) _
  have K0 := New_gt (W := w) (us := []) (Dk.Sep.begin u1) 2 2 _ 1 1 [0] (lit_one w W1 0 (i64_of _ (by omega)) e1)
  have HL0 : Hid (Dk.Lens (Dk.start 2 2 [0]) 2 2 1) := ⟨rfl, rfl, rfl⟩
  generalize Dk.start 2 2 [0] = S0 at K0 HL0
  have H1 : Hid (w.alloc (.cells #[.int .i64 0] 3) = W1) := e1.symm
  have HR : Hid _ := hr
  have hmx := hr.max
  have hcap := hr.cap
  unfold maxLen at hmx
  clear e1 u1 hr
  go_enter Try.func4, Try.ntmps4
  go_wp2_with (rw [H1.out]; clear H1)
  refine K0.mono ?_
  rintro e w0 ⟨b, rfl, h0⟩
  clear K0
  go_wp2_with fail
  go_loopw [4] (fun i w' => ∃ (j : Nat) (S : Dk.St), j ≤ L ∧ j ≤ 80 ∧ i = .int .i64 j ∧ Dk.Lens S 2 2 1 ∧ Gt w w' b S j []) (fun i w' => L - (intOf i).toNat)
  case atStart => exact ⟨0, S0, by omega, by omega, rfl, HL0.out, h0⟩
  case round =>
    obtain ⟨j, S, hjL, hj80, rfl, lS, hT⟩ := hrel
    clear h0
    by_cases hlt : j < L ∧ j < 80
    · obtain ⟨hlt1, hlt8⟩ := hlt
      obtain ⟨ba, oa, rfl, hba, hcx⟩ := Dk.act5_cell HR.out (by omega)
      obtain ⟨what, who, nn, mm, ch, ⟨i0, i1, i2, i3, i4⟩, d0, d1, d2, d3, d4⟩ := hcx j hlt1
      have x0 : wr.cell? ⟨ba, oa + j * 5, none⟩ = some (.int .i64 what) := by rw [hT.out.cell (p := ⟨ba, oa + j * 5, none⟩) hba]; exact d0
      have x1 : wr.cell? ⟨ba, oa + j * 5 + 1, none⟩ = some (.int .i64 who) := by rw [hT.out.cell (p := ⟨ba, oa + j * 5 + 1, none⟩) hba]; exact d1
      have x2 : wr.cell? ⟨ba, oa + j * 5 + 2, none⟩ = some (.int .i64 nn) := by rw [hT.out.cell (p := ⟨ba, oa + j * 5 + 2, none⟩) hba]; exact d2
      have x3 : wr.cell? ⟨ba, oa + j * 5 + 3, none⟩ = some (.int .i64 mm) := by rw [hT.out.cell (p := ⟨ba, oa + j * 5 + 3, none⟩) hba]; exact d3
      have x4 : wr.cell? ⟨ba, oa + j * 5 + 4, none⟩ = some (.int .i64 ch) := by rw [hT.out.cell (p := ⟨ba, oa + j * 5 + 4, none⟩) hba]; exact d4
      have y1 : decide ((j : Int) < (L : Int)) = true := decide_eq_true (by omega)
      have y2 : decide ((j : Int) < 80) = true := decide_eq_true (by omega)
      have hjLi : (j : Int) < (L : Int) := by omega
      obtain ⟨W2, e2⟩ : ∃ W2, W2 = wr.alloc (.cells #[.int .i64 0, .int .i64 0, .int .i64 0, .int .i64 0, .int .i64 0] 30) := ⟨_, rfl⟩
      have h2 := hT.newBox e2
      have b2 : Dk.Box W2 wr.heap.size #[.int .i64 0, .int .i64 0, .int .i64 0, .int .i64 0, .int .i64 0] 30 := h2.box (by simp)
      obtain ⟨W3, e3⟩ : ∃ W3, W3 = W2.setRow wr.heap.size #[.int .i64 what, .int .i64 who, .int .i64 nn, .int .i64 mm, .int .i64 ch] := ⟨_, rfl⟩
      have h3 := h2.setRow e3
      have h4 := h3.below (Dk.up_drew (Below.refl _ _))
      obtain ⟨bx, ebx⟩ : ∃ bx, wr.heap.size = bx := ⟨_, rfl⟩
      rw [ebx] at h4
      have HS : Hid (W3.drew.cell? ⟨bx, 2, none⟩ = some (.int .i64 nn) ∧ W3.drew.cell? ⟨bx, 3, none⟩ = some (.int .i64 mm)) := ⟨(h4.box (a := bx) (cs := #[.int .i64 what, .int .i64 who, .int .i64 nn, .int .i64 mm, .int .i64 ch]) (t := 30) (by simp)).cell 2, (h4.box (a := bx) (cs := #[.int .i64 what, .int .i64 who, .int .i64 nn, .int .i64 mm, .int .i64 ch]) (t := 30) (by simp)).cell 3⟩
      have H2 : Hid (wr.alloc (.cells #[.int .i64 0, .int .i64 0, .int .i64 0, .int .i64 0, .int .i64 0] 30) = W2) := e2.symm
      have H3 : Hid (W2.setRow wr.heap.size #[.int .i64 what, .int .i64 who, .int .i64 nn, .int .i64 mm, .int .i64 ch] = W3) := e3.symm
      have HB2 : Hid (Dk.Box W2 wr.heap.size #[.int .i64 0, .int .i64 0, .int .i64 0, .int .i64 0, .int .i64 0] 30) := b2
      have HBX : Hid (wr.heap.size = bx) := ebx
      have hn1 := Dk.at_lt nn (n := 2) (by decide)
      have hm1 := Dk.at_lt mm (n := 2) (by decide)
      have KN : ∀ w, Calls Try.prog 16 #[.int .i64 nn, .int .i64 2] w fun e w' => e = .returned (.int .i64 (Dk.at_ nn 2 : Nat)) ∧ w' = w := fun w => pick_any nn 2 i2 (by decide) (by decide) w
      have KM : ∀ w, Calls Try.prog 16 #[.int .i64 mm, .int .i64 2] w fun e w' => e = .returned (.int .i64 (Dk.at_ mm 2 : Nat)) ∧ w' = w := fun w => pick_any mm 2 i3 (by decide) (by decide) w
      generalize Dk.at_ nn 2 = n1 at hn1 KN
      generalize Dk.at_ mm 2 = m1 at hm1 KM
      clear hT h2 h3 b2 e2 e3 ebx hcx d0 d1 d2 d3 d4
      go_wp2_with (first | (rw [H2.out]; clear H2) | (refine wpList_store_row rfl 30 _ _ rfl wr.heap.size #[.int .i64 what, .int .i64 who, .int .i64 nn, .int .i64 mm, .int .i64 ch] rfl rfl 30 _ HB2.out.heap act_size rfl (act_cells _ _ _ _ _) ?_; rw [H3.out, HBX.out]; clear HB2))
      refine Dk.wp_region_tree (S := fun w' => w'.cell? ⟨bx, 2, none⟩ = some (.int .i64 nn) ∧ w'.cell? ⟨bx, 3, none⟩ = some (.int .i64 mm)) [] [0, 1, 3, 4] [7, 8, 9] 6 (by kernel_rfl) (by kernel_rfl) (by kernel_rfl) (by kernel_rfl) rfl HS.out _ ?_ (fun a' h => h)
      refine Dk.held_step (v := .pointer (some ⟨bx, 2, none⟩)) rfl rfl (fun w' hw' => by obtain ⟨q0, q1⟩ := hw'; go_simp) ?_
      simp only [Act.put, List.setIfInBounds_toArray, List.set_cons_succ, List.set_cons_zero]
      refine Dk.held_step (v := .int .i64 nn) rfl rfl (fun w' hw' => by obtain ⟨q0, q1⟩ := hw'; go_simp) ?_
      simp only [Act.put, List.setIfInBounds_toArray, List.set_cons_succ, List.set_cons_zero]
      refine Dk.held_step (v := .pointer (some ⟨bx, 3, none⟩)) rfl rfl (fun w' hw' => by obtain ⟨q0, q1⟩ := hw'; go_simp) ?_
      simp only [Act.put, List.setIfInBounds_toArray, List.set_cons_succ, List.set_cons_zero]
      refine Dk.held_step (v := .int .i64 mm) rfl rfl (fun w' hw' => by obtain ⟨q0, q1⟩ := hw'; go_simp) ?_
      simp only [Act.put, List.setIfInBounds_toArray, List.set_cons_succ, List.set_cons_zero]
      generalize W3.drew = Wd at *
      clear x0 x1 x2 x3 x4 H3 HBX
      refine Dk.nameY ?_
      intro a0 hA
      refine Dk.cutY (T := fun a w => a = (((a0.put (some 36) (.int .i64 (n1 : Int))).put (some 39) (.int .i64 (m1 : Int))).put (some 40) (.pointer (some ⟨bx, 2, none⟩))) ∧ w = Wd) (js := [7, 8, 9]) ?_ 3 _ _ _ ?_
      · rintro a w6 ⟨rfl, hw6⟩
        subst w6
        rw [← hA]
        clear hA
        simp only [Act.put, List.setIfInBounds_toArray, List.set_cons_succ, List.set_cons_zero]
        have k2 : Wd.cell? ⟨bx, 2, none⟩ = some (.int .i64 nn) := HS.out.1
        have b4 : Dk.Box Wd bx #[.int .i64 what, .int .i64 who, .int .i64 nn, .int .i64 mm, .int .i64 ch] 30 := h4.box (by simp)
        have z2 : Wd.frozen? ⟨bx, 2, none⟩ = false := b4.frozen 2
        have h5 : Gt w (Wd.setCell ⟨bx, 2, none⟩ (.int .i64 (n1 : Int))) b S j [Dk.boxOf bx #[.int .i64 what, .int .i64 who, .int .i64 (n1 : Int), .int .i64 mm, .int .i64 ch] 30] := h4.setBox (o := 2) (.int .i64 (n1 : Int))
        obtain ⟨W5, g5⟩ : ∃ W5, W5 = Wd.setCell ⟨bx, 2, none⟩ (.int .i64 (n1 : Int)) := ⟨_, rfl⟩
        rw [← g5] at h5
        have b5 : Dk.Box W5 bx #[.int .i64 what, .int .i64 who, .int .i64 (n1 : Int), .int .i64 mm, .int .i64 ch] 30 := h5.box (by simp)
        have k3 : W5.cell? ⟨bx, 3, none⟩ = some (.int .i64 mm) := b5.cell 3
        have z3 : W5.frozen? ⟨bx, 3, none⟩ = false := b5.frozen 3
        have h6 : Gt w (W5.setCell ⟨bx, 3, none⟩ (.int .i64 (m1 : Int))) b S j [Dk.boxOf bx #[.int .i64 what, .int .i64 who, .int .i64 (n1 : Int), .int .i64 (m1 : Int), .int .i64 ch] 30] := h5.setBox (o := 3) (.int .i64 (m1 : Int))
        obtain ⟨W6, g6⟩ : ∃ W6, W6 = W5.setCell ⟨bx, 3, none⟩ (.int .i64 (m1 : Int)) := ⟨_, rfl⟩
        rw [← g6] at h6
        refine Dk.lineY_skip (w' := W5) none rfl rfl rfl (by rw [g5]; go_simp) (fun h => absurd (by decide) h) ?_
        simp only [Act.put, List.setIfInBounds_toArray, List.set_cons_succ, List.set_cons_zero]
        refine Dk.lineY_step (v := .pointer (some ⟨bx, 3, none⟩)) (w' := W5) (some 41) rfl rfl rfl (by go_simp) (fun h => absurd (by decide) h) ?_
        simp only [Act.put, List.setIfInBounds_toArray, List.set_cons_succ, List.set_cons_zero]
        refine Dk.lineY_skip (w' := W6) none rfl rfl rfl (by clear g5; rw [g6]; clear g6; go_simp) (fun h => absurd (by decide) h) ?_
        simp only [Act.put, List.setIfInBounds_toArray, List.set_cons_succ, List.set_cons_zero]
        rename ∀ (_ : Act) (_ : World), Code.wp _ _ _ _ _ → _ => hK
        refine hK _ _ ?_
        clear hK HS KN KM h4 h5 b4 b5 k2 k3 z2 z3 g5 g6
        have q0 : W6.cell? ⟨bx, 0, none⟩ = some (.int .i64 what) := (h6.box (a := bx) (cs := #[.int .i64 what, .int .i64 who, .int .i64 (n1 : Int), .int .i64 (m1 : Int), .int .i64 ch]) (t := 30) (by simp)).cell 0
        have q1 : W6.cell? ⟨bx, 1, none⟩ = some (.int .i64 who) := (h6.box (a := bx) (cs := #[.int .i64 what, .int .i64 who, .int .i64 (n1 : Int), .int .i64 (m1 : Int), .int .i64 ch]) (t := 30) (by simp)).cell 1
        have q2 : W6.cell? ⟨bx, 2, none⟩ = some (.int .i64 (n1 : Int)) := (h6.box (a := bx) (cs := #[.int .i64 what, .int .i64 who, .int .i64 (n1 : Int), .int .i64 (m1 : Int), .int .i64 ch]) (t := 30) (by simp)).cell 2
        have q3 : W6.cell? ⟨bx, 3, none⟩ = some (.int .i64 (m1 : Int)) := (h6.box (a := bx) (cs := #[.int .i64 what, .int .i64 who, .int .i64 (n1 : Int), .int .i64 (m1 : Int), .int .i64 ch]) (t := 30) (by simp)).cell 3
        have q4 : W6.cell? ⟨bx, 4, none⟩ = some (.int .i64 ch) := (h6.box (a := bx) (cs := #[.int .i64 what, .int .i64 who, .int .i64 (n1 : Int), .int .i64 (m1 : Int), .int .i64 ch]) (t := 30) (by simp)).cell 4
        have K := Owner_all (n := n1) h6 (by rw [lS.owner]; exact hn1)
        have hwh : whose S n1 = whose S n1 := rfl
        go_wp2_with fail
        refine K.mono ?_
        rintro e w7 ⟨rfl, h7⟩
        clear K q0 q1 q2 q3 q4
        have q0 : w7.cell? ⟨bx, 0, none⟩ = some (.int .i64 what) := (h7.box (a := bx) (cs := #[.int .i64 what, .int .i64 who, .int .i64 (n1 : Int), .int .i64 (m1 : Int), .int .i64 ch]) (t := 30) (by simp)).cell 0
        have q1 : w7.cell? ⟨bx, 1, none⟩ = some (.int .i64 who) := (h7.box (a := bx) (cs := #[.int .i64 what, .int .i64 who, .int .i64 (n1 : Int), .int .i64 (m1 : Int), .int .i64 ch]) (t := 30) (by simp)).cell 1
        have q2 : w7.cell? ⟨bx, 2, none⟩ = some (.int .i64 (n1 : Int)) := (h7.box (a := bx) (cs := #[.int .i64 what, .int .i64 who, .int .i64 (n1 : Int), .int .i64 (m1 : Int), .int .i64 ch]) (t := 30) (by simp)).cell 2
        have q3 : w7.cell? ⟨bx, 3, none⟩ = some (.int .i64 (m1 : Int)) := (h7.box (a := bx) (cs := #[.int .i64 what, .int .i64 who, .int .i64 (n1 : Int), .int .i64 (m1 : Int), .int .i64 ch]) (t := 30) (by simp)).cell 3
        have q4 : w7.cell? ⟨bx, 4, none⟩ = some (.int .i64 ch) := (h7.box (a := bx) (cs := #[.int .i64 what, .int .i64 who, .int .i64 (n1 : Int), .int .i64 (m1 : Int), .int .i64 ch]) (t := 30) (by simp)).cell 4
        clear h6
        by_cases a0' : what = 0
        · have a1' : decide (what = 0) = true := decide_eq_true a0'
          have a2' : (what == 0) = true := by simpa using a0'
          rcases Dk.lock_ways S who n1 with ⟨ho, hhd, how⟩ | ⟨ho, he0, hhd⟩
          · have K := Lock_all (who := who) (n := n1) h7 (by omega) (by rw [lS.owner]; exact hn1) i1
            have HLS : Hid _ := lS.lock who n1
            obtain ⟨S1, eS1⟩ : ∃ S1, (S.lock who n1).1 = S1 := ⟨_, rfl⟩
            obtain ⟨er, eer⟩ : ∃ er, (S.lock who n1).2.2 = er := ⟨_, rfl⟩
            rw [eS1] at hhd how K HLS
            rw [ho, eer] at K
            have HW : Hid (whose S1 n1 = whose S n1) := by
              show whose S1 n1 = whose S n1
              unfold whose
              rw [hhd, how]
            have HH : Hid (S1.held = S.held) := hhd
            clear hhd how eS1 eer h7
            cases hd : S.held.getD n1 false with
            | true =>
              go_wp2_with fail
              refine K.mono ?_
              rintro e w3 ⟨rfl, h3⟩
              clear K q0 q1 q2 q3 q4
              have q0 : w3.cell? ⟨bx, 0, none⟩ = some (.int .i64 what) := (h3.box (a := bx) (cs := #[.int .i64 what, .int .i64 who, .int .i64 (n1 : Int), .int .i64 (m1 : Int), .int .i64 ch]) (t := 30) (by simp)).cell 0
              have q1 : w3.cell? ⟨bx, 1, none⟩ = some (.int .i64 who) := (h3.box (a := bx) (cs := #[.int .i64 what, .int .i64 who, .int .i64 (n1 : Int), .int .i64 (m1 : Int), .int .i64 ch]) (t := 30) (by simp)).cell 1
              have q2 : w3.cell? ⟨bx, 2, none⟩ = some (.int .i64 (n1 : Int)) := (h3.box (a := bx) (cs := #[.int .i64 what, .int .i64 who, .int .i64 (n1 : Int), .int .i64 (m1 : Int), .int .i64 ch]) (t := 30) (by simp)).cell 2
              have q3 : w3.cell? ⟨bx, 3, none⟩ = some (.int .i64 (m1 : Int)) := (h3.box (a := bx) (cs := #[.int .i64 what, .int .i64 who, .int .i64 (n1 : Int), .int .i64 (m1 : Int), .int .i64 ch]) (t := 30) (by simp)).cell 3
              have q4 : w3.cell? ⟨bx, 4, none⟩ = some (.int .i64 ch) := (h3.box (a := bx) (cs := #[.int .i64 what, .int .i64 who, .int .i64 (n1 : Int), .int .i64 (m1 : Int), .int .i64 ch]) (t := 30) (by simp)).cell 4
              go_wp2_with fail
              have K := Owner_all (n := n1) h3 (by rw [HLS.out.owner]; exact hn1)
              rw [HW.out, HH.out, hd] at K
              generalize whose S n1 = ow at *
              have v1 : (ow != ow) = false := by simp
              have v2 : decide (ow ≠ ow) = false := by simp
              refine K.mono ?_
              rintro e wz ⟨rfl, hz'⟩
              have hz := hz'.drop
              clear K hz' h3
              have lS1 := HLS.out
              clear q0 q1 q2 q3 q4
              go_wp2_with fail
              generalize wz = wy at *
              go_loopw [15] (fun i w' => ∃ t : Nat, t ≤ 2 ∧ i = .int .i64 t ∧ Gt w w' b S1 (j + 1) []) (fun i w' => 2 - (intOf i).toNat)
              case atStart => exact ⟨0, by omega, rfl, hz⟩
              case round =>
                obtain ⟨t, ht, rfl, hI⟩ := hrel
                clear hz
                by_cases htl : t < 2
                · have y3 : decide ((t : Int) < 2) = true := decide_eq_true (by omega)
                  have K := Owner_all (n := t) hI (by rw [lS1.owner]; exact htl)
                  go_wp2_with fail
                  refine K.mono ?_
                  rintro e w8 ⟨rfl, h8⟩
                  clear K hI
                  cases hh : S1.held.getD t false with
                  | true =>
                    go_wp2_with fail
                    go_roundw
                    case rel => exact ⟨t + 1, by omega, by go_num, h8⟩
                    case measure => simp [intOf]; omega
                  | false =>
                    have hf := h8.fair.free t (by rw [h8.ok.wait, lS1.owner]; exact htl) hh
                    have K := Waiters1 (n := t) h8 (by omega) (by rw [lS1.owner]; exact htl) [] hf
                    have K' : Calls Try.prog 13 #[.pointer (some ⟨b, 0, none⟩), .int .i64 1, .int .i64 (t : Int)] w8 fun e w' => ∃ A C, e = .returned (.slice A 0 C) ∧ Gt w w' b S1 (j + 1) (Dk.rowOf 3 1 (.slice A 0 C) 0 (Dk.is []) :: []) := K
                    clear K h8 hf
                    go_wp2_with fail
                    refine K'.mono ?_
                    rintro e w9 ⟨A9, C9, rfl, h9⟩
                    have h10 := h9.drop
                    clear K' h9
                    go_wp2_with fail
                    go_roundw
                    case rel => exact ⟨t + 1, by omega, by go_num, h10⟩
                    case measure => simp [intOf]; omega
                · have y3 : decide ((t : Int) < 2) = false := decide_eq_false (by omega)
                  go_wp2_with fail
                  go_roundw
                  case rel => exact ⟨j + 1, S1, by omega, by omega, by go_num, lS1, hI⟩
                  case measure => simp [intOf]; omega
            | false =>
              go_wp2_with fail
              refine K.mono ?_
              rintro e w3 ⟨rfl, h3⟩
              clear K q0 q1 q2 q3 q4
              have q0 : w3.cell? ⟨bx, 0, none⟩ = some (.int .i64 what) := (h3.box (a := bx) (cs := #[.int .i64 what, .int .i64 who, .int .i64 (n1 : Int), .int .i64 (m1 : Int), .int .i64 ch]) (t := 30) (by simp)).cell 0
              have q1 : w3.cell? ⟨bx, 1, none⟩ = some (.int .i64 who) := (h3.box (a := bx) (cs := #[.int .i64 what, .int .i64 who, .int .i64 (n1 : Int), .int .i64 (m1 : Int), .int .i64 ch]) (t := 30) (by simp)).cell 1
              have q2 : w3.cell? ⟨bx, 2, none⟩ = some (.int .i64 (n1 : Int)) := (h3.box (a := bx) (cs := #[.int .i64 what, .int .i64 who, .int .i64 (n1 : Int), .int .i64 (m1 : Int), .int .i64 ch]) (t := 30) (by simp)).cell 2
              have q3 : w3.cell? ⟨bx, 3, none⟩ = some (.int .i64 (m1 : Int)) := (h3.box (a := bx) (cs := #[.int .i64 what, .int .i64 who, .int .i64 (n1 : Int), .int .i64 (m1 : Int), .int .i64 ch]) (t := 30) (by simp)).cell 3
              have q4 : w3.cell? ⟨bx, 4, none⟩ = some (.int .i64 ch) := (h3.box (a := bx) (cs := #[.int .i64 what, .int .i64 who, .int .i64 (n1 : Int), .int .i64 (m1 : Int), .int .i64 ch]) (t := 30) (by simp)).cell 4
              go_wp2_with fail
              have K := Owner_all (n := n1) h3 (by rw [HLS.out.owner]; exact hn1)
              rw [HW.out, HH.out, hd] at K
              generalize whose S n1 = ow at *
              refine K.mono ?_
              rintro e wz ⟨rfl, hz'⟩
              have hz := hz'.drop
              clear K hz' h3
              have lS1 := HLS.out
              clear q0 q1 q2 q3 q4
              go_wp2_with fail
              generalize wz = wy at *
              go_loopw [15] (fun i w' => ∃ t : Nat, t ≤ 2 ∧ i = .int .i64 t ∧ Gt w w' b S1 (j + 1) []) (fun i w' => 2 - (intOf i).toNat)
              case atStart => exact ⟨0, by omega, rfl, hz⟩
              case round =>
                obtain ⟨t, ht, rfl, hI⟩ := hrel
                clear hz
                by_cases htl : t < 2
                · have y3 : decide ((t : Int) < 2) = true := decide_eq_true (by omega)
                  have K := Owner_all (n := t) hI (by rw [lS1.owner]; exact htl)
                  go_wp2_with fail
                  refine K.mono ?_
                  rintro e w8 ⟨rfl, h8⟩
                  clear K hI
                  cases hh : S1.held.getD t false with
                  | true =>
                    go_wp2_with fail
                    go_roundw
                    case rel => exact ⟨t + 1, by omega, by go_num, h8⟩
                    case measure => simp [intOf]; omega
                  | false =>
                    have hf := h8.fair.free t (by rw [h8.ok.wait, lS1.owner]; exact htl) hh
                    have K := Waiters1 (n := t) h8 (by omega) (by rw [lS1.owner]; exact htl) [] hf
                    have K' : Calls Try.prog 13 #[.pointer (some ⟨b, 0, none⟩), .int .i64 1, .int .i64 (t : Int)] w8 fun e w' => ∃ A C, e = .returned (.slice A 0 C) ∧ Gt w w' b S1 (j + 1) (Dk.rowOf 3 1 (.slice A 0 C) 0 (Dk.is []) :: []) := K
                    clear K h8 hf
                    go_wp2_with fail
                    refine K'.mono ?_
                    rintro e w9 ⟨A9, C9, rfl, h9⟩
                    have h10 := h9.drop
                    clear K' h9
                    go_wp2_with fail
                    go_roundw
                    case rel => exact ⟨t + 1, by omega, by go_num, h10⟩
                    case measure => simp [intOf]; omega
                · have y3 : decide ((t : Int) < 2) = false := decide_eq_false (by omega)
                  go_wp2_with fail
                  go_roundw
                  case rel => exact ⟨j + 1, S1, by omega, by omega, by go_num, lS1, hI⟩
                  case measure => simp [intOf]; omega
          · have K := Lock_all (who := who) (n := n1) h7 (by omega) (by rw [lS.owner]; exact hn1) i1
            have HLS : Hid _ := lS.lock who n1
            obtain ⟨S1, eS1⟩ : ∃ S1, (S.lock who n1).1 = S1 := ⟨_, rfl⟩
            obtain ⟨er, eer⟩ : ∃ er, (S.lock who n1).2.2 = er := ⟨_, rfl⟩
            rw [eS1] at K HLS
            rw [ho, he0] at K
            clear eS1 eer h7
            have hd := hhd
            clear hhd
            generalize S.held.getD n1 false = hd0 at *
            subst hd
            go_wp2_with fail
            refine K.mono ?_
            rintro e w3 ⟨rfl, h3⟩
            clear K q0 q1 q2 q3 q4
            have q0 : w3.cell? ⟨bx, 0, none⟩ = some (.int .i64 what) := (h3.box (a := bx) (cs := #[.int .i64 what, .int .i64 who, .int .i64 (n1 : Int), .int .i64 (m1 : Int), .int .i64 ch]) (t := 30) (by simp)).cell 0
            have q1 : w3.cell? ⟨bx, 1, none⟩ = some (.int .i64 who) := (h3.box (a := bx) (cs := #[.int .i64 what, .int .i64 who, .int .i64 (n1 : Int), .int .i64 (m1 : Int), .int .i64 ch]) (t := 30) (by simp)).cell 1
            have q2 : w3.cell? ⟨bx, 2, none⟩ = some (.int .i64 (n1 : Int)) := (h3.box (a := bx) (cs := #[.int .i64 what, .int .i64 who, .int .i64 (n1 : Int), .int .i64 (m1 : Int), .int .i64 ch]) (t := 30) (by simp)).cell 2
            have q3 : w3.cell? ⟨bx, 3, none⟩ = some (.int .i64 (m1 : Int)) := (h3.box (a := bx) (cs := #[.int .i64 what, .int .i64 who, .int .i64 (n1 : Int), .int .i64 (m1 : Int), .int .i64 ch]) (t := 30) (by simp)).cell 3
            have q4 : w3.cell? ⟨bx, 4, none⟩ = some (.int .i64 ch) := (h3.box (a := bx) (cs := #[.int .i64 what, .int .i64 who, .int .i64 (n1 : Int), .int .i64 (m1 : Int), .int .i64 ch]) (t := 30) (by simp)).cell 4
            go_wp2_with fail
            have K := Owner_all (n := n1) h3 (by rw [HLS.out.owner]; exact hn1)
            generalize whose S1 n1 = ow1 at K
            generalize S1.held.getD n1 false = hh1 at K
            refine K.mono ?_
            rintro e wz ⟨rfl, hz'⟩
            have hz := hz'.drop
            clear K hz' h3
            have lS1 := HLS.out
            clear q0 q1 q2 q3 q4
            go_wp2_with fail
            generalize wz = wy at *
            go_loopw [15] (fun i w' => ∃ t : Nat, t ≤ 2 ∧ i = .int .i64 t ∧ Gt w w' b S1 (j + 1) []) (fun i w' => 2 - (intOf i).toNat)
            case atStart => exact ⟨0, by omega, rfl, hz⟩
            case round =>
              obtain ⟨t, ht, rfl, hI⟩ := hrel
              clear hz
              by_cases htl : t < 2
              · have y3 : decide ((t : Int) < 2) = true := decide_eq_true (by omega)
                have K := Owner_all (n := t) hI (by rw [lS1.owner]; exact htl)
                go_wp2_with fail
                refine K.mono ?_
                rintro e w8 ⟨rfl, h8⟩
                clear K hI
                cases hh : S1.held.getD t false with
                | true =>
                  go_wp2_with fail
                  go_roundw
                  case rel => exact ⟨t + 1, by omega, by go_num, h8⟩
                  case measure => simp [intOf]; omega
                | false =>
                  have hf := h8.fair.free t (by rw [h8.ok.wait, lS1.owner]; exact htl) hh
                  have K := Waiters1 (n := t) h8 (by omega) (by rw [lS1.owner]; exact htl) [] hf
                  have K' : Calls Try.prog 13 #[.pointer (some ⟨b, 0, none⟩), .int .i64 1, .int .i64 (t : Int)] w8 fun e w' => ∃ A C, e = .returned (.slice A 0 C) ∧ Gt w w' b S1 (j + 1) (Dk.rowOf 3 1 (.slice A 0 C) 0 (Dk.is []) :: []) := K
                  clear K h8 hf
                  go_wp2_with fail
                  refine K'.mono ?_
                  rintro e w9 ⟨A9, C9, rfl, h9⟩
                  have h10 := h9.drop
                  clear K' h9
                  go_wp2_with fail
                  go_roundw
                  case rel => exact ⟨t + 1, by omega, by go_num, h10⟩
                  case measure => simp [intOf]; omega
              · have y3 : decide ((t : Int) < 2) = false := decide_eq_false (by omega)
                go_wp2_with fail
                go_roundw
                case rel => exact ⟨j + 1, S1, by omega, by omega, by go_num, lS1, hI⟩
                case measure => simp [intOf]; omega
        · have a1' : decide (what = 0) = false := decide_eq_false a0'
          have a2' : (what == 0) = false := by simpa using a0'
          by_cases b0' : what = 1
          · have b1' : decide (what = 1) = true := decide_eq_true b0'
            have b2' : (what == 1) = true := by simpa using b0'
            have K := Unlock_all (who := who) (n := n1) (ch := ch) h7 (by omega) (by rw [lS.owner]; exact hn1) i4
            have HLS : Hid _ := lS.unlock who n1 ch
            obtain ⟨S1, eS1⟩ : ∃ S1, (S.unlock who n1 ch).1 = S1 := ⟨_, rfl⟩
            obtain ⟨r1, er1⟩ : ∃ r1, (S.unlock who n1 ch).2.1 = r1 := ⟨_, rfl⟩
            obtain ⟨r2, er2⟩ : ∃ r2, (S.unlock who n1 ch).2.2.1 = r2 := ⟨_, rfl⟩
            rw [eS1] at K HLS
            rw [er1, er2] at K
            rcases Dk.unlock_ways S who n1 ch with h5' | ⟨h5', hd, how⟩
            · rw [h5'] at K
              clear eS1 er1 er2 h5' h7
              go_wp2_with fail
              refine K.mono ?_
              rintro e wz ⟨rfl, hz'⟩
              have hz := hz'.drop
              clear K q0 q1 q2 q3 q4
              have q0 : wz.cell? ⟨bx, 0, none⟩ = some (.int .i64 what) := (hz'.box (a := bx) (cs := #[.int .i64 what, .int .i64 who, .int .i64 (n1 : Int), .int .i64 (m1 : Int), .int .i64 ch]) (t := 30) (by simp)).cell 0
              have q1 : wz.cell? ⟨bx, 1, none⟩ = some (.int .i64 who) := (hz'.box (a := bx) (cs := #[.int .i64 what, .int .i64 who, .int .i64 (n1 : Int), .int .i64 (m1 : Int), .int .i64 ch]) (t := 30) (by simp)).cell 1
              have q2 : wz.cell? ⟨bx, 2, none⟩ = some (.int .i64 (n1 : Int)) := (hz'.box (a := bx) (cs := #[.int .i64 what, .int .i64 who, .int .i64 (n1 : Int), .int .i64 (m1 : Int), .int .i64 ch]) (t := 30) (by simp)).cell 2
              have q3 : wz.cell? ⟨bx, 3, none⟩ = some (.int .i64 (m1 : Int)) := (hz'.box (a := bx) (cs := #[.int .i64 what, .int .i64 who, .int .i64 (n1 : Int), .int .i64 (m1 : Int), .int .i64 ch]) (t := 30) (by simp)).cell 3
              have q4 : wz.cell? ⟨bx, 4, none⟩ = some (.int .i64 ch) := (hz'.box (a := bx) (cs := #[.int .i64 what, .int .i64 who, .int .i64 (n1 : Int), .int .i64 (m1 : Int), .int .i64 ch]) (t := 30) (by simp)).cell 4
              clear hz'
              have lS1 := HLS.out
              clear q0 q1 q2 q3 q4
              go_wp2_with fail
              generalize wz = wy at *
              go_loopw [15] (fun i w' => ∃ t : Nat, t ≤ 2 ∧ i = .int .i64 t ∧ Gt w w' b S1 (j + 1) []) (fun i w' => 2 - (intOf i).toNat)
              case atStart => exact ⟨0, by omega, rfl, hz⟩
              case round =>
                obtain ⟨t, ht, rfl, hI⟩ := hrel
                clear hz
                by_cases htl : t < 2
                · have y3 : decide ((t : Int) < 2) = true := decide_eq_true (by omega)
                  have K := Owner_all (n := t) hI (by rw [lS1.owner]; exact htl)
                  go_wp2_with fail
                  refine K.mono ?_
                  rintro e w8 ⟨rfl, h8⟩
                  clear K hI
                  cases hh : S1.held.getD t false with
                  | true =>
                    go_wp2_with fail
                    go_roundw
                    case rel => exact ⟨t + 1, by omega, by go_num, h8⟩
                    case measure => simp [intOf]; omega
                  | false =>
                    have hf := h8.fair.free t (by rw [h8.ok.wait, lS1.owner]; exact htl) hh
                    have K := Waiters1 (n := t) h8 (by omega) (by rw [lS1.owner]; exact htl) [] hf
                    have K' : Calls Try.prog 13 #[.pointer (some ⟨b, 0, none⟩), .int .i64 1, .int .i64 (t : Int)] w8 fun e w' => ∃ A C, e = .returned (.slice A 0 C) ∧ Gt w w' b S1 (j + 1) (Dk.rowOf 3 1 (.slice A 0 C) 0 (Dk.is []) :: []) := K
                    clear K h8 hf
                    go_wp2_with fail
                    refine K'.mono ?_
                    rintro e w9 ⟨A9, C9, rfl, h9⟩
                    have h10 := h9.drop
                    clear K' h9
                    go_wp2_with fail
                    go_roundw
                    case rel => exact ⟨t + 1, by omega, by go_num, h10⟩
                    case measure => simp [intOf]; omega
                · have y3 : decide ((t : Int) < 2) = false := decide_eq_false (by omega)
                  go_wp2_with fail
                  go_roundw
                  case rel => exact ⟨j + 1, S1, by omega, by omega, by go_num, lS1, hI⟩
                  case measure => simp [intOf]; omega
            · rw [h5'] at K
              have HWH : Hid (whose S n1 = who) := by
                show whose S n1 = who
                unfold whose
                rw [if_pos hd, how]
              clear eS1 er1 er2 h5' h7 how
              rw [HWH.out]
              generalize S.held.getD n1 false = hd0 at *
              subst hd
              have v1 : (who != who) = false := by simp
              have v2 : decide (who ≠ who) = false := by simp
              go_wp2_with fail
              refine K.mono ?_
              rintro e wz ⟨rfl, hz'⟩
              have hz := hz'.drop
              clear K q0 q1 q2 q3 q4
              have q0 : wz.cell? ⟨bx, 0, none⟩ = some (.int .i64 what) := (hz'.box (a := bx) (cs := #[.int .i64 what, .int .i64 who, .int .i64 (n1 : Int), .int .i64 (m1 : Int), .int .i64 ch]) (t := 30) (by simp)).cell 0
              have q1 : wz.cell? ⟨bx, 1, none⟩ = some (.int .i64 who) := (hz'.box (a := bx) (cs := #[.int .i64 what, .int .i64 who, .int .i64 (n1 : Int), .int .i64 (m1 : Int), .int .i64 ch]) (t := 30) (by simp)).cell 1
              have q2 : wz.cell? ⟨bx, 2, none⟩ = some (.int .i64 (n1 : Int)) := (hz'.box (a := bx) (cs := #[.int .i64 what, .int .i64 who, .int .i64 (n1 : Int), .int .i64 (m1 : Int), .int .i64 ch]) (t := 30) (by simp)).cell 2
              have q3 : wz.cell? ⟨bx, 3, none⟩ = some (.int .i64 (m1 : Int)) := (hz'.box (a := bx) (cs := #[.int .i64 what, .int .i64 who, .int .i64 (n1 : Int), .int .i64 (m1 : Int), .int .i64 ch]) (t := 30) (by simp)).cell 3
              have q4 : wz.cell? ⟨bx, 4, none⟩ = some (.int .i64 ch) := (hz'.box (a := bx) (cs := #[.int .i64 what, .int .i64 who, .int .i64 (n1 : Int), .int .i64 (m1 : Int), .int .i64 ch]) (t := 30) (by simp)).cell 4
              clear hz'
              have lS1 := HLS.out
              go_wp2_with fail
              clear q0 q1 q2 q3 q4
              generalize wz = wy at *
              go_loopw [15] (fun i w' => ∃ t : Nat, t ≤ 2 ∧ i = .int .i64 t ∧ Gt w w' b S1 (j + 1) []) (fun i w' => 2 - (intOf i).toNat)
              case atStart => exact ⟨0, by omega, rfl, hz⟩
              case round =>
                obtain ⟨t, ht, rfl, hI⟩ := hrel
                clear hz
                by_cases htl : t < 2
                · have y3 : decide ((t : Int) < 2) = true := decide_eq_true (by omega)
                  have K := Owner_all (n := t) hI (by rw [lS1.owner]; exact htl)
                  go_wp2_with fail
                  refine K.mono ?_
                  rintro e w8 ⟨rfl, h8⟩
                  clear K hI
                  cases hh : S1.held.getD t false with
                  | true =>
                    go_wp2_with fail
                    go_roundw
                    case rel => exact ⟨t + 1, by omega, by go_num, h8⟩
                    case measure => simp [intOf]; omega
                  | false =>
                    have hf := h8.fair.free t (by rw [h8.ok.wait, lS1.owner]; exact htl) hh
                    have K := Waiters1 (n := t) h8 (by omega) (by rw [lS1.owner]; exact htl) [] hf
                    have K' : Calls Try.prog 13 #[.pointer (some ⟨b, 0, none⟩), .int .i64 1, .int .i64 (t : Int)] w8 fun e w' => ∃ A C, e = .returned (.slice A 0 C) ∧ Gt w w' b S1 (j + 1) (Dk.rowOf 3 1 (.slice A 0 C) 0 (Dk.is []) :: []) := K
                    clear K h8 hf
                    go_wp2_with fail
                    refine K'.mono ?_
                    rintro e w9 ⟨A9, C9, rfl, h9⟩
                    have h10 := h9.drop
                    clear K' h9
                    go_wp2_with fail
                    go_roundw
                    case rel => exact ⟨t + 1, by omega, by go_num, h10⟩
                    case measure => simp [intOf]; omega
                · have y3 : decide ((t : Int) < 2) = false := decide_eq_false (by omega)
                  go_wp2_with fail
                  go_roundw
                  case rel => exact ⟨j + 1, S1, by omega, by omega, by go_num, lS1, hI⟩
                  case measure => simp [intOf]; omega
          · have b1' : decide (what = 1) = false := decide_eq_false b0'
            have b2' : (what == 1) = false := by simpa using b0'
            by_cases c0' : what = 2
            · have c1' : decide (what = 2) = true := decide_eq_true c0'
              have c2' : (what == 2) = true := by simpa using c0'
              have K := Wait_all (who := who) (c := n1) (n := m1) (ch := ch) h7 (by omega) (by rw [lS.conds]; exact hn1) (by rw [lS.owner]; exact hm1) i1 i4
              have HLS : Hid _ := lS.hold who n1 m1 ch
              obtain ⟨S1, eS1⟩ : ∃ S1, (S.hold who n1 m1 ch).1 = S1 := ⟨_, rfl⟩
              obtain ⟨r1, er1⟩ : ∃ r1, (S.hold who n1 m1 ch).2.1 = r1 := ⟨_, rfl⟩
              obtain ⟨r2, er2⟩ : ∃ r2, (S.hold who n1 m1 ch).2.2.1 = r2 := ⟨_, rfl⟩
              obtain ⟨r3, er3⟩ : ∃ r3, (S.hold who n1 m1 ch).2.2.2 = r3 := ⟨_, rfl⟩
              rw [eS1] at K HLS
              rw [er1, er2, er3] at K
              clear eS1 er1 er2 er3 h7
              generalize whose S n1 = ow at *
              generalize S.held.getD n1 false = hd at *
              go_wp2_with fail
              refine K.mono ?_
              rintro e wz ⟨rfl, hz'⟩
              have hz := hz'.drop
              clear K hz'
              have lS1 := HLS.out
              clear q0 q1 q2 q3 q4
              go_wp2_with fail
              generalize wz = wy at *
              go_loopw [15] (fun i w' => ∃ t : Nat, t ≤ 2 ∧ i = .int .i64 t ∧ Gt w w' b S1 (j + 1) []) (fun i w' => 2 - (intOf i).toNat)
              case atStart => exact ⟨0, by omega, rfl, hz⟩
              case round =>
                obtain ⟨t, ht, rfl, hI⟩ := hrel
                clear hz
                by_cases htl : t < 2
                · have y3 : decide ((t : Int) < 2) = true := decide_eq_true (by omega)
                  have K := Owner_all (n := t) hI (by rw [lS1.owner]; exact htl)
                  go_wp2_with fail
                  refine K.mono ?_
                  rintro e w8 ⟨rfl, h8⟩
                  clear K hI
                  cases hh : S1.held.getD t false with
                  | true =>
                    go_wp2_with fail
                    go_roundw
                    case rel => exact ⟨t + 1, by omega, by go_num, h8⟩
                    case measure => simp [intOf]; omega
                  | false =>
                    have hf := h8.fair.free t (by rw [h8.ok.wait, lS1.owner]; exact htl) hh
                    have K := Waiters1 (n := t) h8 (by omega) (by rw [lS1.owner]; exact htl) [] hf
                    have K' : Calls Try.prog 13 #[.pointer (some ⟨b, 0, none⟩), .int .i64 1, .int .i64 (t : Int)] w8 fun e w' => ∃ A C, e = .returned (.slice A 0 C) ∧ Gt w w' b S1 (j + 1) (Dk.rowOf 3 1 (.slice A 0 C) 0 (Dk.is []) :: []) := K
                    clear K h8 hf
                    go_wp2_with fail
                    refine K'.mono ?_
                    rintro e w9 ⟨A9, C9, rfl, h9⟩
                    have h10 := h9.drop
                    clear K' h9
                    go_wp2_with fail
                    go_roundw
                    case rel => exact ⟨t + 1, by omega, by go_num, h10⟩
                    case measure => simp [intOf]; omega
                · have y3 : decide ((t : Int) < 2) = false := decide_eq_false (by omega)
                  go_wp2_with fail
                  go_roundw
                  case rel => exact ⟨j + 1, S1, by omega, by omega, by go_num, lS1, hI⟩
                  case measure => simp [intOf]; omega
            · have c1' : decide (what = 2) = false := decide_eq_false c0'
              have c2' : (what == 2) = false := by simpa using c0'
              obtain ⟨al, eal⟩ : ∃ al, decide (what = 4) = al := ⟨_, rfl⟩
              have eal2 : (what == 4) = al := by rw [← eal]; rfl
              have K := Signal_all (c := n1) (ch := ch) h7 (by omega) (by rw [lS.conds]; exact hn1) i4 al
              have HLS : Hid _ := lS.signal n1 ch al
              obtain ⟨S1, eS1⟩ : ∃ S1, (S.signal n1 ch al).1 = S1 := ⟨_, rfl⟩
              obtain ⟨l1, el1⟩ : ∃ l1, (S.signal n1 ch al).2 = l1 := ⟨_, rfl⟩
              rw [eS1] at K HLS
              rw [el1] at K
              clear eS1 el1 h7
              generalize whose S n1 = ow at *
              generalize S.held.getD n1 false = hd at *
              go_wp2_with fail
              refine K.mono ?_
              rintro e wz ⟨A7, C7, rfl, hz'⟩
              have hz := hz'.drop.drop.mono (k' := j + 1) (by omega)
              clear K hz'
              have lS1 := HLS.out
              clear q0 q1 q2 q3 q4
              go_wp2_with fail
              generalize wz = wy at *
              go_loopw [15] (fun i w' => ∃ t : Nat, t ≤ 2 ∧ i = .int .i64 t ∧ Gt w w' b S1 (j + 1) []) (fun i w' => 2 - (intOf i).toNat)
              case atStart => exact ⟨0, by omega, rfl, hz⟩
              case round =>
                obtain ⟨t, ht, rfl, hI⟩ := hrel
                clear hz
                by_cases htl : t < 2
                · have y3 : decide ((t : Int) < 2) = true := decide_eq_true (by omega)
                  have K := Owner_all (n := t) hI (by rw [lS1.owner]; exact htl)
                  go_wp2_with fail
                  refine K.mono ?_
                  rintro e w8 ⟨rfl, h8⟩
                  clear K hI
                  cases hh : S1.held.getD t false with
                  | true =>
                    go_wp2_with fail
                    go_roundw
                    case rel => exact ⟨t + 1, by omega, by go_num, h8⟩
                    case measure => simp [intOf]; omega
                  | false =>
                    have hf := h8.fair.free t (by rw [h8.ok.wait, lS1.owner]; exact htl) hh
                    have K := Waiters1 (n := t) h8 (by omega) (by rw [lS1.owner]; exact htl) [] hf
                    have K' : Calls Try.prog 13 #[.pointer (some ⟨b, 0, none⟩), .int .i64 1, .int .i64 (t : Int)] w8 fun e w' => ∃ A C, e = .returned (.slice A 0 C) ∧ Gt w w' b S1 (j + 1) (Dk.rowOf 3 1 (.slice A 0 C) 0 (Dk.is []) :: []) := K
                    clear K h8 hf
                    go_wp2_with fail
                    refine K'.mono ?_
                    rintro e w9 ⟨A9, C9, rfl, h9⟩
                    have h10 := h9.drop
                    clear K' h9
                    go_wp2_with fail
                    go_roundw
                    case rel => exact ⟨t + 1, by omega, by go_num, h10⟩
                    case measure => simp [intOf]; omega
                · have y3 : decide ((t : Int) < 2) = false := decide_eq_false (by omega)
                  go_wp2_with fail
                  go_roundw
                  case rel => exact ⟨j + 1, S1, by omega, by omega, by go_num, lS1, hI⟩
                  case measure => simp [intOf]; omega
      · refine Dk.nodeT (rs := [2]) (by kernel_rfl) (by simp) ?_
        intro i hi
        simp only [List.mem_cons, List.not_mem_nil, or_false] at hi
        subst hi
        refine Dk.op_call (some 36) rfl rfl rfl (f := 16) (args := #[.int .i64 nn, .int .i64 2]) (by rw [← hA]; clear hA; (try simp only [Act.put, List.setIfInBounds_toArray, List.set_cons_succ, List.set_cons_zero]); go_simp) ?_
        refine (KN Wd).mono ?_
        rintro e w' ⟨rfl, hw'⟩
        subst w'
        refine ⟨_, rfl, fun _ => HS.out, ?_⟩
        refine Dk.nodeT (rs := [5, 6]) (by kernel_rfl) (by simp) ?_
        intro i hi
        simp only [List.mem_cons, List.not_mem_nil, or_false] at hi
        rcases hi with rfl | rfl
        · refine Dk.op_call (some 39) rfl rfl rfl (f := 16) (args := #[.int .i64 mm, .int .i64 2]) (by rw [← hA]; clear hA; (try simp only [Act.put, List.setIfInBounds_toArray, List.set_cons_succ, List.set_cons_zero]); go_simp) ?_
          refine (KM Wd).mono ?_
          rintro e w' ⟨rfl, hw'⟩
          subst w'
          refine ⟨_, rfl, fun _ => HS.out, ?_⟩
          refine Dk.nodeT (rs := [6]) (by kernel_rfl) (by simp) ?_
          intro i hi
          simp only [List.mem_cons, List.not_mem_nil, or_false] at hi
          subst hi
          refine Dk.op_value (v := .pointer (some ⟨bx, 2, none⟩)) (w' := Wd) (some 40) rfl rfl rfl (by rw [← hA]; clear hA; (try simp only [Act.put, List.setIfInBounds_toArray, List.set_cons_succ, List.set_cons_zero]); go_simp) ⟨fun _ => HS.out, ?_⟩
          refine ⟨by kernel_rfl, ?_, rfl⟩
          subst hA
          first | rfl | (simp only [Act.put, List.setIfInBounds_toArray, List.set_cons_succ, List.set_cons_zero])
        · refine Dk.op_value (v := .pointer (some ⟨bx, 2, none⟩)) (w' := Wd) (some 40) rfl rfl rfl (by rw [← hA]; clear hA; (try simp only [Act.put, List.setIfInBounds_toArray, List.set_cons_succ, List.set_cons_zero]); go_simp) ⟨fun _ => HS.out, ?_⟩
          refine Dk.nodeT (rs := [5]) (by kernel_rfl) (by simp) ?_
          intro i hi
          simp only [List.mem_cons, List.not_mem_nil, or_false] at hi
          subst hi
          refine Dk.op_call (some 39) rfl rfl rfl (f := 16) (args := #[.int .i64 mm, .int .i64 2]) (by rw [← hA]; clear hA; (try simp only [Act.put, List.setIfInBounds_toArray, List.set_cons_succ, List.set_cons_zero]); go_simp) ?_
          refine (KM Wd).mono ?_
          rintro e w' ⟨rfl, hw'⟩
          subst w'
          refine ⟨_, rfl, fun _ => HS.out, ?_⟩
          refine ⟨by kernel_rfl, ?_, rfl⟩
          subst hA
          first | rfl | (simp only [Act.put, List.setIfInBounds_toArray, List.set_cons_succ, List.set_cons_zero])
    · by_cases hlt1 : j < L
      · have y1 : decide ((j : Int) < (L : Int)) = true := decide_eq_true (by omega)
        have y2 : decide ((j : Int) < 80) = false := decide_eq_false (by omega)
        go_wp2_with fail
        refine (awake_any wr).mono ?_
        rintro e w2 ⟨rfl, u2⟩
        have HU : Hid _ := Dk.up_call hT.out u2
        clear u2 hT
        go_wp2_with fail
        go_ret
        exact ⟨rfl, HU.out⟩
      · have y1 : decide ((j : Int) < (L : Int)) = false := decide_eq_false (by omega)
        go_wp2_with fail
        refine (awake_any wr).mono ?_
        rintro e w2 ⟨rfl, u2⟩
        have HU : Hid _ := Dk.up_call hT.out u2
        clear u2 hT
        go_wp2_with fail
        go_ret
        exact ⟨rfl, HU.out⟩

end Go.Proofs.Ytjkdaankjondjaa
