/- Nobody ever waits in two places, or twice in one: the statement GateOnce, walked. -/
import Derived.Test.YtjkdaankjondjaaHx
namespace Go.Proofs.Ytjkdaankjondjaa
set_option linter.unusedSimpArgs false
set_option linter.unusedVariables false
set_option linter.unnecessarySimpa false
open Go.RowKit Go.Lib

/-- A list of two numbers, typed out. -/
theorem lit_two (w w' : World) (x y : Int) (hx : Dk.i64 x) (hy : Dk.i64 y) (e : w' = w.alloc (.cells #[.int .i64 x, .int .i64 y] 3)) : Dk.SlI w'.heap.size w' (some ⟨w.heap.size, 0, none⟩) 2 2 [x, y] := by
  have b6 : Dk.Box w' w.heap.size #[.int .i64 x, .int .i64 y] 3 := by rw [e]; exact Dk.Box.new _ _ _
  refine ⟨rfl, Nat.le_refl _, by unfold maxLen; omega, fun z hz => ?_, fun _ => ⟨_, 0, rfl, b6.lt, fun k hk => ?_⟩⟩
  · simp at hz
    rcases hz with rfl | rfl
    · exact hx
    · exact hy
  · obtain rfl | rfl : k = 0 ∨ k = 1 := by omega
    · exact b6.cell 0
    · exact b6.cell 1

set_option maxRecDepth 100000 in
set_option maxHeartbeats 64000000 in
theorem GateOnce_true (A : Option Addr) (L C : Nat) (acts : List (List Int)) (w : World) (hr : Dk.Row 5 [] Dk.IsInts w.heap.size w A L C acts) : Calls Try.prog 7 #[.slice A L C] w fun e w' => e = .returned (.bool true) ∧ Below w.heap.size w w' := by
  obtain ⟨W1, e1⟩ : ∃ W1, W1 = w.alloc (.cells #[.int .i64 0, .int .i64 1] 3) := ⟨_, rfl⟩
  have u1 : Below w.heap.size w W1 := by rw [e1]; exact Dk.up_alloc (Below.refl _ _) _
  have K0 := New_gt (W := w) (us := []) (Dk.Sep.begin u1) 2 2 _ 2 2 [0, 1] (lit_two w W1 0 1 (i64_of _ (by omega)) (i64_of _ (by omega)) e1)
  have HL0 : Hid (Dk.Lens (Dk.start 2 2 [0, 1]) 2 2 2) := ⟨rfl, rfl, rfl⟩
  generalize Dk.start 2 2 [0, 1] = S0 at K0 HL0
  have H1 : Hid (w.alloc (.cells #[.int .i64 0, .int .i64 1] 3) = W1) := e1.symm
  have HR : Hid _ := hr
  have hmx := hr.max
  have hcap := hr.cap
  unfold maxLen at hmx
  clear e1 u1 hr
  go_enter Try.func7, Try.ntmps7
  go_wp2_with (rw [H1.out]; clear H1)
  refine K0.mono ?_
  rintro e w0 ⟨b, rfl, h0⟩
  clear K0
  go_wp2_with fail
  go_loopw [4] (fun i w' => ∃ (j : Nat) (S : Dk.St), j ≤ L ∧ j ≤ 60 ∧ i = .int .i64 j ∧ Dk.Lens S 2 2 2 ∧ Gt w w' b S j []) (fun i w' => L - (intOf i).toNat)
  case atStart => exact ⟨0, S0, by omega, by omega, rfl, HL0.out, h0⟩
  case round =>
    obtain ⟨j, S, hjL, hj80, rfl, lS, hT⟩ := hrel
    clear h0
    by_cases hlt : j < L ∧ j < 60
    · obtain ⟨hlt1, hlt8⟩ := hlt
      obtain ⟨ba, oa, rfl, hba, hcx⟩ := Dk.act5_cell HR.out (by omega)
      obtain ⟨what, who, nn, mm, ch, ⟨i0, i1, i2, i3, i4⟩, d0, d1, d2, d3, d4⟩ := hcx j hlt1
      have x0 : wr.cell? ⟨ba, oa + j * 5, none⟩ = some (.int .i64 what) := by rw [hT.out.cell (p := ⟨ba, oa + j * 5, none⟩) hba]; exact d0
      have x1 : wr.cell? ⟨ba, oa + j * 5 + 1, none⟩ = some (.int .i64 who) := by rw [hT.out.cell (p := ⟨ba, oa + j * 5 + 1, none⟩) hba]; exact d1
      have x2 : wr.cell? ⟨ba, oa + j * 5 + 2, none⟩ = some (.int .i64 nn) := by rw [hT.out.cell (p := ⟨ba, oa + j * 5 + 2, none⟩) hba]; exact d2
      have x3 : wr.cell? ⟨ba, oa + j * 5 + 3, none⟩ = some (.int .i64 mm) := by rw [hT.out.cell (p := ⟨ba, oa + j * 5 + 3, none⟩) hba]; exact d3
      have x4 : wr.cell? ⟨ba, oa + j * 5 + 4, none⟩ = some (.int .i64 ch) := by rw [hT.out.cell (p := ⟨ba, oa + j * 5 + 4, none⟩) hba]; exact d4
      have y1 : decide ((j : Int) < (L : Int)) = true := decide_eq_true (by omega)
      have y2 : decide ((j : Int) < 60) = true := decide_eq_true (by omega)
      have hjLi : (j : Int) < (L : Int) := by omega
      obtain ⟨W2, e2⟩ : ∃ W2, W2 = wr.alloc (.cells #[.int .i64 0, .int .i64 0, .int .i64 0, .int .i64 0, .int .i64 0] 30) := ⟨_, rfl⟩
      have h2 := hT.newBox e2
      have b2 : Dk.Box W2 wr.heap.size #[.int .i64 0, .int .i64 0, .int .i64 0, .int .i64 0, .int .i64 0] 30 := h2.box (by simp)
      obtain ⟨W3, e3⟩ : ∃ W3, W3 = W2.setRow wr.heap.size #[.int .i64 what, .int .i64 who, .int .i64 nn, .int .i64 mm, .int .i64 ch] := ⟨_, rfl⟩
      have h3 := h2.setRow e3
      have h4 := h3.below (Dk.up_drew (Below.refl _ _))
      obtain ⟨bx, ebx⟩ : ∃ bx, wr.heap.size = bx := ⟨_, rfl⟩
      rw [ebx] at h4
      have HS : Hid (W3.drew.cell? ⟨bx, 2, none⟩ = some (.int .i64 nn) ∧ W3.drew.cell? ⟨bx, 3, none⟩ = some (.int .i64 mm)) := ⟨(h4.box (a := bx) (cs := #[.int .i64 what, .int .i64 who, .int .i64 nn, .int .i64 mm, .int .i64 ch]) (t := 30) (by simp)).cell 2, (h4.box (a := bx) (cs := #[.int .i64 what, .int .i64 who, .int .i64 nn, .int .i64 mm, .int .i64 ch]) (t := 30) (by simp)).cell 3⟩
      have H2 : Hid (wr.alloc (.cells #[.int .i64 0, .int .i64 0, .int .i64 0, .int .i64 0, .int .i64 0] 30) = W2) := e2.symm
      have H3 : Hid (W2.setRow wr.heap.size #[.int .i64 what, .int .i64 who, .int .i64 nn, .int .i64 mm, .int .i64 ch] = W3) := e3.symm
      have HB2 : Hid (Dk.Box W2 wr.heap.size #[.int .i64 0, .int .i64 0, .int .i64 0, .int .i64 0, .int .i64 0] 30) := b2
      have HBX : Hid (wr.heap.size = bx) := ebx
      have hn1 := Dk.at_lt nn (n := 2) (by decide)
      have hm1 := Dk.at_lt mm (n := 2) (by decide)
      have KN : ∀ w, Calls Try.prog 16 #[.int .i64 nn, .int .i64 2] w fun e w' => e = .returned (.int .i64 (Dk.at_ nn 2 : Nat)) ∧ w' = w := fun w => pick_any nn 2 i2 (by decide) (by decide) w
      have KM : ∀ w, Calls Try.prog 16 #[.int .i64 mm, .int .i64 2] w fun e w' => e = .returned (.int .i64 (Dk.at_ mm 2 : Nat)) ∧ w' = w := fun w => pick_any mm 2 i3 (by decide) (by decide) w
      generalize Dk.at_ nn 2 = n1 at hn1 KN
      generalize Dk.at_ mm 2 = m1 at hm1 KM
      clear hT h2 h3 b2 e2 e3 ebx hcx d0 d1 d2 d3 d4
      go_wp2_with (first | (rw [H2.out]; clear H2) | (refine wpList_store_row rfl 30 _ _ rfl wr.heap.size #[.int .i64 what, .int .i64 who, .int .i64 nn, .int .i64 mm, .int .i64 ch] rfl rfl 30 _ HB2.out.heap act_size rfl (act_cells _ _ _ _ _) ?_; rw [H3.out, HBX.out]; clear HB2))
      refine Dk.wp_region_tree (S := fun w' => w'.cell? ⟨bx, 2, none⟩ = some (.int .i64 nn) ∧ w'.cell? ⟨bx, 3, none⟩ = some (.int .i64 mm)) [] [0, 1, 3, 4] [7, 8, 9] 6 (by kernel_rfl) (by kernel_rfl) (by kernel_rfl) (by kernel_rfl) rfl HS.out _ ?_ (fun a' h => h)
      refine Dk.held_step (v := .pointer (some ⟨bx, 2, none⟩)) rfl rfl (fun w' hw' => by obtain ⟨q0, q1⟩ := hw'; go_simp) ?_
      simp only [Act.put, List.setIfInBounds_toArray, List.set_cons_succ, List.set_cons_zero]
      refine Dk.held_step (v := .int .i64 nn) rfl rfl (fun w' hw' => by obtain ⟨q0, q1⟩ := hw'; go_simp) ?_
      simp only [Act.put, List.setIfInBounds_toArray, List.set_cons_succ, List.set_cons_zero]
      refine Dk.held_step (v := .pointer (some ⟨bx, 3, none⟩)) rfl rfl (fun w' hw' => by obtain ⟨q0, q1⟩ := hw'; go_simp) ?_
      simp only [Act.put, List.setIfInBounds_toArray, List.set_cons_succ, List.set_cons_zero]
      refine Dk.held_step (v := .int .i64 mm) rfl rfl (fun w' hw' => by obtain ⟨q0, q1⟩ := hw'; go_simp) ?_
      simp only [Act.put, List.setIfInBounds_toArray, List.set_cons_succ, List.set_cons_zero]
      generalize W3.drew = Wd at *
      clear x0 x1 x2 x3 x4 H3 HBX
      refine Dk.nameY ?_
      intro a0 hA
      refine Dk.cutY (T := fun a w => a = (((a0.put (some 29) (.int .i64 (n1 : Int))).put (some 32) (.int .i64 (m1 : Int))).put (some 33) (.pointer (some ⟨bx, 2, none⟩))) ∧ w = Wd) (js := [7, 8, 9]) ?_ 3 _ _ _ ?_
      · rintro a w6 ⟨rfl, hw6⟩
        subst w6
        rw [← hA]
        clear hA
        simp only [Act.put, List.setIfInBounds_toArray, List.set_cons_succ, List.set_cons_zero]
        have k2 : Wd.cell? ⟨bx, 2, none⟩ = some (.int .i64 nn) := HS.out.1
        have b4 : Dk.Box Wd bx #[.int .i64 what, .int .i64 who, .int .i64 nn, .int .i64 mm, .int .i64 ch] 30 := h4.box (by simp)
        have z2 : Wd.frozen? ⟨bx, 2, none⟩ = false := b4.frozen 2
        have h5 : Gt w (Wd.setCell ⟨bx, 2, none⟩ (.int .i64 (n1 : Int))) b S j [Dk.boxOf bx #[.int .i64 what, .int .i64 who, .int .i64 (n1 : Int), .int .i64 mm, .int .i64 ch] 30] := h4.setBox (o := 2) (.int .i64 (n1 : Int))
        obtain ⟨W5, g5⟩ : ∃ W5, W5 = Wd.setCell ⟨bx, 2, none⟩ (.int .i64 (n1 : Int)) := ⟨_, rfl⟩
        rw [← g5] at h5
        have b5 : Dk.Box W5 bx #[.int .i64 what, .int .i64 who, .int .i64 (n1 : Int), .int .i64 mm, .int .i64 ch] 30 := h5.box (by simp)
        have k3 : W5.cell? ⟨bx, 3, none⟩ = some (.int .i64 mm) := b5.cell 3
        have z3 : W5.frozen? ⟨bx, 3, none⟩ = false := b5.frozen 3
        have h6 : Gt w (W5.setCell ⟨bx, 3, none⟩ (.int .i64 (m1 : Int))) b S j [Dk.boxOf bx #[.int .i64 what, .int .i64 who, .int .i64 (n1 : Int), .int .i64 (m1 : Int), .int .i64 ch] 30] := h5.setBox (o := 3) (.int .i64 (m1 : Int))
        obtain ⟨W6, g6⟩ : ∃ W6, W6 = W5.setCell ⟨bx, 3, none⟩ (.int .i64 (m1 : Int)) := ⟨_, rfl⟩
        rw [← g6] at h6
        refine Dk.lineY_skip (w' := W5) none rfl rfl rfl (by rw [g5]; go_simp) (fun h => absurd (by decide) h) ?_
        simp only [Act.put, List.setIfInBounds_toArray, List.set_cons_succ, List.set_cons_zero]
        refine Dk.lineY_step (v := .pointer (some ⟨bx, 3, none⟩)) (w' := W5) (some 34) rfl rfl rfl (by go_simp) (fun h => absurd (by decide) h) ?_
        simp only [Act.put, List.setIfInBounds_toArray, List.set_cons_succ, List.set_cons_zero]
        refine Dk.lineY_skip (w' := W6) none rfl rfl rfl (by clear g5; rw [g6]; clear g6; go_simp) (fun h => absurd (by decide) h) ?_
        simp only [Act.put, List.setIfInBounds_toArray, List.set_cons_succ, List.set_cons_zero]
        rename ∀ (_ : Act) (_ : World), Code.wp _ _ _ _ _ → _ => hK
        refine hK _ _ ?_
        clear hK HS KN KM h4 h5 b4 b5 k2 k3 z2 z3 g5 g6
        have q0 : W6.cell? ⟨bx, 0, none⟩ = some (.int .i64 what) := (h6.box (a := bx) (cs := #[.int .i64 what, .int .i64 who, .int .i64 (n1 : Int), .int .i64 (m1 : Int), .int .i64 ch]) (t := 30) (by simp)).cell 0
        have q1 : W6.cell? ⟨bx, 1, none⟩ = some (.int .i64 who) := (h6.box (a := bx) (cs := #[.int .i64 what, .int .i64 who, .int .i64 (n1 : Int), .int .i64 (m1 : Int), .int .i64 ch]) (t := 30) (by simp)).cell 1
        have q2 : W6.cell? ⟨bx, 2, none⟩ = some (.int .i64 (n1 : Int)) := (h6.box (a := bx) (cs := #[.int .i64 what, .int .i64 who, .int .i64 (n1 : Int), .int .i64 (m1 : Int), .int .i64 ch]) (t := 30) (by simp)).cell 2
        have q3 : W6.cell? ⟨bx, 3, none⟩ = some (.int .i64 (m1 : Int)) := (h6.box (a := bx) (cs := #[.int .i64 what, .int .i64 who, .int .i64 (n1 : Int), .int .i64 (m1 : Int), .int .i64 ch]) (t := 30) (by simp)).cell 3
        have q4 : W6.cell? ⟨bx, 4, none⟩ = some (.int .i64 ch) := (h6.box (a := bx) (cs := #[.int .i64 what, .int .i64 who, .int .i64 (n1 : Int), .int .i64 (m1 : Int), .int .i64 ch]) (t := 30) (by simp)).cell 4
        by_cases z0 : what = 0
        · have a0' : decide (what = 0) = true := decide_eq_true z0
          have a0'' : (what == 0) = true := by simpa using z0
          have K := Lock_all (who := who) (n := n1) h6 (by omega) (by rw [lS.owner]; exact hn1) i1
          have HLS : Hid _ := lS.lock who n1
          obtain ⟨S1, eS1⟩ : ∃ S1, (S.lock who n1).1 = S1 := ⟨_, rfl⟩
          obtain ⟨r1, er1⟩ : ∃ r1, (S.lock who n1).2.1 = r1 := ⟨_, rfl⟩
          obtain ⟨r2, er2⟩ : ∃ r2, (S.lock who n1).2.2 = r2 := ⟨_, rfl⟩
          rw [eS1] at K HLS
          rw [er1, er2] at K
          clear eS1 er1 er2 h6
          go_wp2_with fail
          refine K.mono ?_
          rintro e wz ⟨rfl, hz'⟩
          have hz := hz'.drop
          clear K hz' q0 q1 q2 q3 q4
          have lS1 := HLS.out
          obtain ⟨Wa, ea⟩ : ∃ Wa, Wa = wz.alloc (.cells #[] 3) := ⟨_, rfl⟩
          have hA1 : Gt w Wa b S1 (j + 1) [Dk.rowOf 3 1 (.slice (some ⟨wz.heap.size, 0, none⟩) 0 0) (S1.acc 0).length (Dk.is (S1.acc 0))] := hz.map fun ts s => s.empty ea
          have HA : Hid (wz.alloc (.cells #[] 3) = Wa) := ea.symm
          clear hz ea
          go_wp2_with (rw [HA.out]; clear HA)
          generalize Wa = wy at *
          go_loopw [6, 7] (fun v i w' => ∃ m kd : Nat, Hid (kd = m + 1) ∧ m ≤ 3 ∧ i = .int .i64 (kd : Int) ∧ Gt w w' b S1 (j + 1) [Dk.rowOf 3 1 v (S1.acc m).length (Dk.is (S1.acc m))]) (fun v i w' => 4 - (intOf i).toNat)
          case atStart => exact ⟨0, 1, rfl, by omega, rfl, hA1⟩
          case round =>
            obtain ⟨m, kd, HKD, hm, rfl, hB⟩ := hrel
            clear hA1
            by_cases hml : m < 3
            · have y3 : decide ((kd : Int) ≤ 3) = true := decide_eq_true (by have := HKD.out; omega)
              have hkd3 : kd ≤ 3 := by have := HKD.out; omega
              go_wp2_with fail
              generalize wr = wq at *
              go_loopw [6, 8] (fun v i w' => ∃ n : Nat, n ≤ 2 ∧ i = .int .i64 (n : Int) ∧ Gt w w' b S1 (j + 1) [Dk.rowOf 3 1 v (S1.accp m n).length (Dk.is (S1.accp m n))]) (fun v i w' => 2 - (intOf i).toNat)
              case atStart => exact ⟨0, by omega, rfl, hB⟩
              case round =>
                obtain ⟨n, hn, rfl, hC⟩ := hrel
                clear hB
                by_cases hnl : n < 2
                · have y5 : decide ((n : Int) < 2) = true := decide_eq_true (by omega)
                  obtain ⟨r, er⟩ : ∃ r, S1.wl (m + 1) n = r := ⟨_, rfl⟩
                  have K := Waiters_wl (kd := kd) (n := n) hC (by omega) lS1 ⟨by have := HKD.out; omega, hkd3⟩ hnl r (by rw [HKD.out]; exact er)
                  have hal := Dk.accp_len hC.ok m n hml
                  have hrl := (Dk.wl_i64 hC.ok (m + 1) n).2
                  rw [er] at hrl
                  have hnx := Dk.accp_next S1 m n hnl
                  rw [er] at hnx
                  have HNX : Hid _ := hnx
                  obtain ⟨A6, C6, e6, _, _⟩ := Dk.owns_slice (hC.row (e := 3) (s := 1) (v := u6) (m := (S1.accp m n).length) (xs := Dk.is (S1.accp m n)) (by simp))
                  subst e6
                  generalize S1.accp m n = ls at *
                  clear hC er hnx
                  go_wp2_with fail
                  refine K.mono ?_
                  rintro e w3 ⟨A3, C3, rfl, h3⟩
                  obtain ⟨v', w4, hrun, h4⟩ := h3.appendRow (Dk.is_one r) (by omega)
                  obtain ⟨A4, C4, e4, _, _⟩ := Dk.owns_slice (h4.row (e := 3) (s := 1) (v := v') (m := ls.length + r.length) (xs := Dk.is ls ++ Dk.is r) (by simp))
                  subst e4
                  have h5 : Gt w w4 b S1 (j + 1) [Dk.rowOf 3 1 (.slice A4 (ls.length + r.length) C4) (S1.accp m (n + 1)).length (Dk.is (S1.accp m (n + 1)))] := by
                    rw [HNX.out, List.length_append, Dk.is, List.map_append]
                    exact h4
                  clear K h3 h4
                  go_wp2_with (at_builtin; refine Lib.wpList_append_run _ rfl _ _ _ _ rfl _ _ rfl rfl _ _ hrun ?_)
                  go_roundw
                  case rel => exact ⟨n + 1, by omega, by go_num, h5⟩
                  case measure => simp [intOf]; omega
                · obtain rfl : n = 2 := by omega
                  have y5 : decide (((2 : Nat) : Int) < 2) = false := by decide
                  have hD : Gt w wr b S1 (j + 1) [Dk.rowOf 3 1 u6 (S1.acc (m + 1)).length (Dk.is (S1.acc (m + 1)))] := hC
                  clear hC
                  go_wp2_with fail
                  go_roundw
                  case rel => exact ⟨m + 1, kd + 1, (congrArg (· + 1) HKD.out : kd + 1 = m + 1 + 1), by omega, by go_num, hD⟩
                  case measure => simp [intOf]; omega
            · obtain rfl : m = 3 := by omega
              have y3 : decide ((kd : Int) ≤ 3) = false := decide_eq_false (by have := HKD.out; omega)
              have hkd4 : kd ≤ 4 := by have := HKD.out; omega
              have hnd := Dk.acc_nodup lS1 hB.ok hB.fair
              have hlen := (Dk.acc_i64 hB.ok 3).2
              have HND : Hid _ := hnd
              obtain ⟨A6, C6, e6, hC6, hm6⟩ := Dk.owns_slice (hB.row (e := 3) (s := 1) (v := u6) (m := (S1.acc 3).length) (xs := Dk.is (S1.acc 3)) (by simp))
              subst e6
              unfold maxLen at hm6
              generalize S1.acc 3 = xs at *
              generalize eN : xs.length = N at hB hlen hC6 ⊢
              have HN : Hid _ := eN
              clear hnd eN
              go_wp2_with fail
              generalize wr = wq at *
              go_loopw [9] (fun i w' => ∃ k : Nat, k ≤ N ∧ i = .int .i64 (k : Int) ∧ Gt w w' b S1 (j + 1) [Dk.rowOf 3 1 (.slice A6 N C6) N (Dk.is xs)]) (fun i w' => N - (intOf i).toNat)
              case atStart => exact ⟨0, by omega, rfl, hB⟩
              case round =>
                obtain ⟨k, hk, rfl, hE⟩ := hrel
                clear hB
                by_cases hkN : k < N
                · have y5 : decide ((k : Int) < (N : Int)) = true := decide_eq_true (by omega)
                  have hkNi : (k : Int) < (N : Int) := by omega
                  go_wp2_with fail
                  generalize wr = wq2 at *
                  go_loopw [10] (fun i w' => ∃ t : Nat, t ≤ k ∧ i = .int .i64 (t : Int) ∧ Gt w w' b S1 (j + 1) [Dk.rowOf 3 1 (.slice A6 N C6) N (Dk.is xs)]) (fun i w' => k - (intOf i).toNat)
                  case atStart => exact ⟨0, by omega, rfl, hE⟩
                  case round =>
                    obtain ⟨t, ht, rfl, hF⟩ := hrel
                    clear hE
                    by_cases htk : t < k
                    · have y6 : decide ((t : Int) < (k : Int)) = true := decide_eq_true (by omega)
                      have htNi : (t : Int) < (N : Int) := by omega
                      obtain ⟨x, ex⟩ := Dk.lt_some (l := xs) (i := t) (by have := HN.out; omega)
                      obtain ⟨y, ey⟩ := Dk.lt_some (l := xs) (i := k) (by have := HN.out; omega)
                      have hxy := Dk.nodup_ne HND.out htk ex ey
                      have v1 : decide (x = y) = false := decide_eq_false hxy
                      have v2 : (x == y) = false := by simpa using hxy
                      have rowc : ∀ yy : Dk.Up wr, yy.wd.ownsRow w.heap.size 3 1 (.slice A6 N C6) N (Dk.is xs) := fun yy => (hF.below yy.property).row (by simp)
                      obtain ⟨g6, C6', _, eg, _⟩ := Dk.row_cell1 (rowc ⟨wr, Below.refl _ _⟩) (k := t) (by omega)
                      injection eg with eA _ eC
                      subst eA eC
                      have c1 : ∀ yy : Dk.Up wr, yy.wd.cell? ⟨g6, t, none⟩ = some (.int .i64 x) := fun yy => by
                        have q := (rowc yy).cells (g := g6) rfl t (.int .i64 x) (by rw [List.getElem?_map, ex]; rfl)
                        rw [Addr.add_lit, Nat.zero_add] at q
                        exact q
                      have c2 : ∀ yy : Dk.Up wr, yy.wd.cell? ⟨g6, k, none⟩ = some (.int .i64 y) := fun yy => by
                        have q := (rowc yy).cells (g := g6) rfl k (.int .i64 y) (by rw [List.getElem?_map, ey]; rfl)
                        rw [Addr.add_lit, Nat.zero_add] at q
                        exact q
                      have hne : Nonempty (Dk.Up wr) := ⟨⟨wr, Below.refl _ _⟩⟩
                      clear rowc ex ey hxy
                      go_wp2_with fail
                      refine Dk.wp_region_up_lit (by kernel_rfl) (by kernel_rfl) ?_
                      repeat (go_big_quiet_step (fail))
                      refine wpQuiet_nil ?_
                      intro _ hw'
                      obtain ⟨yy, hw''⟩ := hw'
                      subst hw''
                      have hG := hF.below yy.property
                      clear c1 c2 hne hF
                      go_wp2_with fail
                      go_roundw
                      case rel => exact ⟨t + 1, by omega, by go_num, hG⟩
                      case measure => simp [intOf]; omega
                    · have y6 : decide ((t : Int) < (k : Int)) = false := decide_eq_false (by omega)
                      go_wp2_with fail
                      go_roundw
                      case rel => exact ⟨k + 1, by omega, by go_num, hF⟩
                      case measure => simp [intOf]; omega
                · have y5 : decide ((k : Int) < (N : Int)) = false := decide_eq_false (by omega)
                  have hF := hE.drop
                  clear hE
                  go_wp2_with fail
                  go_roundw
                  case rel => exact ⟨j + 1, S1, by omega, by omega, by go_num, lS1, hF⟩
                  case measure => simp [intOf]; omega
        · have a0' : decide (what = 0) = false := decide_eq_false z0
          have a0'' : (what == 0) = false := by simpa using z0
          by_cases z1 : what = 1
          · have a1' : decide (what = 1) = true := decide_eq_true z1
            have a1'' : (what == 1) = true := by simpa using z1
            have K := Unlock_all (who := who) (n := n1) (ch := ch) h6 (by omega) (by rw [lS.owner]; exact hn1) i4
            have HLS : Hid _ := lS.unlock who n1 ch
            obtain ⟨S1, eS1⟩ : ∃ S1, (S.unlock who n1 ch).1 = S1 := ⟨_, rfl⟩
            obtain ⟨r1, er1⟩ : ∃ r1, (S.unlock who n1 ch).2.1 = r1 := ⟨_, rfl⟩
            obtain ⟨r2, er2⟩ : ∃ r2, (S.unlock who n1 ch).2.2.1 = r2 := ⟨_, rfl⟩
            obtain ⟨r3, er3⟩ : ∃ r3, (S.unlock who n1 ch).2.2.2 = r3 := ⟨_, rfl⟩
            rw [eS1] at K HLS
            rw [er1, er2, er3] at K
            clear eS1 er1 er2 er3 h6
            go_wp2_with fail
            refine K.mono ?_
            rintro e wz ⟨rfl, hz'⟩
            have hz := hz'.drop
            clear K hz' q0 q1 q2 q3 q4
            have lS1 := HLS.out
            obtain ⟨Wa, ea⟩ : ∃ Wa, Wa = wz.alloc (.cells #[] 3) := ⟨_, rfl⟩
            have hA1 : Gt w Wa b S1 (j + 1) [Dk.rowOf 3 1 (.slice (some ⟨wz.heap.size, 0, none⟩) 0 0) (S1.acc 0).length (Dk.is (S1.acc 0))] := hz.map fun ts s => s.empty ea
            have HA : Hid (wz.alloc (.cells #[] 3) = Wa) := ea.symm
            clear hz ea
            go_wp2_with (rw [HA.out]; clear HA)
            generalize Wa = wy at *
            go_loopw [6, 7] (fun v i w' => ∃ m kd : Nat, Hid (kd = m + 1) ∧ m ≤ 3 ∧ i = .int .i64 (kd : Int) ∧ Gt w w' b S1 (j + 1) [Dk.rowOf 3 1 v (S1.acc m).length (Dk.is (S1.acc m))]) (fun v i w' => 4 - (intOf i).toNat)
            case atStart => exact ⟨0, 1, rfl, by omega, rfl, hA1⟩
            case round =>
              obtain ⟨m, kd, HKD, hm, rfl, hB⟩ := hrel
              clear hA1
              by_cases hml : m < 3
              · have y3 : decide ((kd : Int) ≤ 3) = true := decide_eq_true (by have := HKD.out; omega)
                have hkd3 : kd ≤ 3 := by have := HKD.out; omega
                go_wp2_with fail
                generalize wr = wq at *
                go_loopw [6, 8] (fun v i w' => ∃ n : Nat, n ≤ 2 ∧ i = .int .i64 (n : Int) ∧ Gt w w' b S1 (j + 1) [Dk.rowOf 3 1 v (S1.accp m n).length (Dk.is (S1.accp m n))]) (fun v i w' => 2 - (intOf i).toNat)
                case atStart => exact ⟨0, by omega, rfl, hB⟩
                case round =>
                  obtain ⟨n, hn, rfl, hC⟩ := hrel
                  clear hB
                  by_cases hnl : n < 2
                  · have y5 : decide ((n : Int) < 2) = true := decide_eq_true (by omega)
                    obtain ⟨r, er⟩ : ∃ r, S1.wl (m + 1) n = r := ⟨_, rfl⟩
                    have K := Waiters_wl (kd := kd) (n := n) hC (by omega) lS1 ⟨by have := HKD.out; omega, hkd3⟩ hnl r (by rw [HKD.out]; exact er)
                    have hal := Dk.accp_len hC.ok m n hml
                    have hrl := (Dk.wl_i64 hC.ok (m + 1) n).2
                    rw [er] at hrl
                    have hnx := Dk.accp_next S1 m n hnl
                    rw [er] at hnx
                    have HNX : Hid _ := hnx
                    obtain ⟨A6, C6, e6, _, _⟩ := Dk.owns_slice (hC.row (e := 3) (s := 1) (v := u6) (m := (S1.accp m n).length) (xs := Dk.is (S1.accp m n)) (by simp))
                    subst e6
                    generalize S1.accp m n = ls at *
                    clear hC er hnx
                    go_wp2_with fail
                    refine K.mono ?_
                    rintro e w3 ⟨A3, C3, rfl, h3⟩
                    obtain ⟨v', w4, hrun, h4⟩ := h3.appendRow (Dk.is_one r) (by omega)
                    obtain ⟨A4, C4, e4, _, _⟩ := Dk.owns_slice (h4.row (e := 3) (s := 1) (v := v') (m := ls.length + r.length) (xs := Dk.is ls ++ Dk.is r) (by simp))
                    subst e4
                    have h5 : Gt w w4 b S1 (j + 1) [Dk.rowOf 3 1 (.slice A4 (ls.length + r.length) C4) (S1.accp m (n + 1)).length (Dk.is (S1.accp m (n + 1)))] := by
                      rw [HNX.out, List.length_append, Dk.is, List.map_append]
                      exact h4
                    clear K h3 h4
                    go_wp2_with (at_builtin; refine Lib.wpList_append_run _ rfl _ _ _ _ rfl _ _ rfl rfl _ _ hrun ?_)
                    go_roundw
                    case rel => exact ⟨n + 1, by omega, by go_num, h5⟩
                    case measure => simp [intOf]; omega
                  · obtain rfl : n = 2 := by omega
                    have y5 : decide (((2 : Nat) : Int) < 2) = false := by decide
                    have hD : Gt w wr b S1 (j + 1) [Dk.rowOf 3 1 u6 (S1.acc (m + 1)).length (Dk.is (S1.acc (m + 1)))] := hC
                    clear hC
                    go_wp2_with fail
                    go_roundw
                    case rel => exact ⟨m + 1, kd + 1, (congrArg (· + 1) HKD.out : kd + 1 = m + 1 + 1), by omega, by go_num, hD⟩
                    case measure => simp [intOf]; omega
              · obtain rfl : m = 3 := by omega
                have y3 : decide ((kd : Int) ≤ 3) = false := decide_eq_false (by have := HKD.out; omega)
                have hkd4 : kd ≤ 4 := by have := HKD.out; omega
                have hnd := Dk.acc_nodup lS1 hB.ok hB.fair
                have hlen := (Dk.acc_i64 hB.ok 3).2
                have HND : Hid _ := hnd
                obtain ⟨A6, C6, e6, hC6, hm6⟩ := Dk.owns_slice (hB.row (e := 3) (s := 1) (v := u6) (m := (S1.acc 3).length) (xs := Dk.is (S1.acc 3)) (by simp))
                subst e6
                unfold maxLen at hm6
                generalize S1.acc 3 = xs at *
                generalize eN : xs.length = N at hB hlen hC6 ⊢
                have HN : Hid _ := eN
                clear hnd eN
                go_wp2_with fail
                generalize wr = wq at *
                go_loopw [9] (fun i w' => ∃ k : Nat, k ≤ N ∧ i = .int .i64 (k : Int) ∧ Gt w w' b S1 (j + 1) [Dk.rowOf 3 1 (.slice A6 N C6) N (Dk.is xs)]) (fun i w' => N - (intOf i).toNat)
                case atStart => exact ⟨0, by omega, rfl, hB⟩
                case round =>
                  obtain ⟨k, hk, rfl, hE⟩ := hrel
                  clear hB
                  by_cases hkN : k < N
                  · have y5 : decide ((k : Int) < (N : Int)) = true := decide_eq_true (by omega)
                    have hkNi : (k : Int) < (N : Int) := by omega
                    go_wp2_with fail
                    generalize wr = wq2 at *
                    go_loopw [10] (fun i w' => ∃ t : Nat, t ≤ k ∧ i = .int .i64 (t : Int) ∧ Gt w w' b S1 (j + 1) [Dk.rowOf 3 1 (.slice A6 N C6) N (Dk.is xs)]) (fun i w' => k - (intOf i).toNat)
                    case atStart => exact ⟨0, by omega, rfl, hE⟩
                    case round =>
                      obtain ⟨t, ht, rfl, hF⟩ := hrel
                      clear hE
                      by_cases htk : t < k
                      · have y6 : decide ((t : Int) < (k : Int)) = true := decide_eq_true (by omega)
                        have htNi : (t : Int) < (N : Int) := by omega
                        obtain ⟨x, ex⟩ := Dk.lt_some (l := xs) (i := t) (by have := HN.out; omega)
                        obtain ⟨y, ey⟩ := Dk.lt_some (l := xs) (i := k) (by have := HN.out; omega)
                        have hxy := Dk.nodup_ne HND.out htk ex ey
                        have v1 : decide (x = y) = false := decide_eq_false hxy
                        have v2 : (x == y) = false := by simpa using hxy
                        have rowc : ∀ yy : Dk.Up wr, yy.wd.ownsRow w.heap.size 3 1 (.slice A6 N C6) N (Dk.is xs) := fun yy => (hF.below yy.property).row (by simp)
                        obtain ⟨g6, C6', _, eg, _⟩ := Dk.row_cell1 (rowc ⟨wr, Below.refl _ _⟩) (k := t) (by omega)
                        injection eg with eA _ eC
                        subst eA eC
                        have c1 : ∀ yy : Dk.Up wr, yy.wd.cell? ⟨g6, t, none⟩ = some (.int .i64 x) := fun yy => by
                          have q := (rowc yy).cells (g := g6) rfl t (.int .i64 x) (by rw [List.getElem?_map, ex]; rfl)
                          rw [Addr.add_lit, Nat.zero_add] at q
                          exact q
                        have c2 : ∀ yy : Dk.Up wr, yy.wd.cell? ⟨g6, k, none⟩ = some (.int .i64 y) := fun yy => by
                          have q := (rowc yy).cells (g := g6) rfl k (.int .i64 y) (by rw [List.getElem?_map, ey]; rfl)
                          rw [Addr.add_lit, Nat.zero_add] at q
                          exact q
                        have hne : Nonempty (Dk.Up wr) := ⟨⟨wr, Below.refl _ _⟩⟩
                        clear rowc ex ey hxy
                        go_wp2_with fail
                        refine Dk.wp_region_up_lit (by kernel_rfl) (by kernel_rfl) ?_
                        repeat (go_big_quiet_step (fail))
                        refine wpQuiet_nil ?_
                        intro _ hw'
                        obtain ⟨yy, hw''⟩ := hw'
                        subst hw''
                        have hG := hF.below yy.property
                        clear c1 c2 hne hF
                        go_wp2_with fail
                        go_roundw
                        case rel => exact ⟨t + 1, by omega, by go_num, hG⟩
                        case measure => simp [intOf]; omega
                      · have y6 : decide ((t : Int) < (k : Int)) = false := decide_eq_false (by omega)
                        go_wp2_with fail
                        go_roundw
                        case rel => exact ⟨k + 1, by omega, by go_num, hF⟩
                        case measure => simp [intOf]; omega
                  · have y5 : decide ((k : Int) < (N : Int)) = false := decide_eq_false (by omega)
                    have hF := hE.drop
                    clear hE
                    go_wp2_with fail
                    go_roundw
                    case rel => exact ⟨j + 1, S1, by omega, by omega, by go_num, lS1, hF⟩
                    case measure => simp [intOf]; omega
          · have a1' : decide (what = 1) = false := decide_eq_false z1
            have a1'' : (what == 1) = false := by simpa using z1
            by_cases z2 : what = 2
            · have a2' : decide (what = 2) = true := decide_eq_true z2
              have a2'' : (what == 2) = true := by simpa using z2
              have K := Wait_all (who := who) (c := n1) (n := m1) (ch := ch) h6 (by omega) (by rw [lS.conds]; exact hn1) (by rw [lS.owner]; exact hm1) i1 i4
              have HLS : Hid _ := lS.hold who n1 m1 ch
              obtain ⟨S1, eS1⟩ : ∃ S1, (S.hold who n1 m1 ch).1 = S1 := ⟨_, rfl⟩
              obtain ⟨r1, er1⟩ : ∃ r1, (S.hold who n1 m1 ch).2.1 = r1 := ⟨_, rfl⟩
              obtain ⟨r2, er2⟩ : ∃ r2, (S.hold who n1 m1 ch).2.2.1 = r2 := ⟨_, rfl⟩
              obtain ⟨r3, er3⟩ : ∃ r3, (S.hold who n1 m1 ch).2.2.2 = r3 := ⟨_, rfl⟩
              rw [eS1] at K HLS
              rw [er1, er2, er3] at K
              clear eS1 er1 er2 er3 h6
              go_wp2_with fail
              refine K.mono ?_
              rintro e wz ⟨rfl, hz'⟩
              have hz := hz'.drop
              clear K hz' q0 q1 q2 q3 q4
              have lS1 := HLS.out
              obtain ⟨Wa, ea⟩ : ∃ Wa, Wa = wz.alloc (.cells #[] 3) := ⟨_, rfl⟩
              have hA1 : Gt w Wa b S1 (j + 1) [Dk.rowOf 3 1 (.slice (some ⟨wz.heap.size, 0, none⟩) 0 0) (S1.acc 0).length (Dk.is (S1.acc 0))] := hz.map fun ts s => s.empty ea
              have HA : Hid (wz.alloc (.cells #[] 3) = Wa) := ea.symm
              clear hz ea
              go_wp2_with (rw [HA.out]; clear HA)
              generalize Wa = wy at *
              go_loopw [6, 7] (fun v i w' => ∃ m kd : Nat, Hid (kd = m + 1) ∧ m ≤ 3 ∧ i = .int .i64 (kd : Int) ∧ Gt w w' b S1 (j + 1) [Dk.rowOf 3 1 v (S1.acc m).length (Dk.is (S1.acc m))]) (fun v i w' => 4 - (intOf i).toNat)
              case atStart => exact ⟨0, 1, rfl, by omega, rfl, hA1⟩
              case round =>
                obtain ⟨m, kd, HKD, hm, rfl, hB⟩ := hrel
                clear hA1
                by_cases hml : m < 3
                · have y3 : decide ((kd : Int) ≤ 3) = true := decide_eq_true (by have := HKD.out; omega)
                  have hkd3 : kd ≤ 3 := by have := HKD.out; omega
                  go_wp2_with fail
                  generalize wr = wq at *
                  go_loopw [6, 8] (fun v i w' => ∃ n : Nat, n ≤ 2 ∧ i = .int .i64 (n : Int) ∧ Gt w w' b S1 (j + 1) [Dk.rowOf 3 1 v (S1.accp m n).length (Dk.is (S1.accp m n))]) (fun v i w' => 2 - (intOf i).toNat)
                  case atStart => exact ⟨0, by omega, rfl, hB⟩
                  case round =>
                    obtain ⟨n, hn, rfl, hC⟩ := hrel
                    clear hB
                    by_cases hnl : n < 2
                    · have y5 : decide ((n : Int) < 2) = true := decide_eq_true (by omega)
                      obtain ⟨r, er⟩ : ∃ r, S1.wl (m + 1) n = r := ⟨_, rfl⟩
                      have K := Waiters_wl (kd := kd) (n := n) hC (by omega) lS1 ⟨by have := HKD.out; omega, hkd3⟩ hnl r (by rw [HKD.out]; exact er)
                      have hal := Dk.accp_len hC.ok m n hml
                      have hrl := (Dk.wl_i64 hC.ok (m + 1) n).2
                      rw [er] at hrl
                      have hnx := Dk.accp_next S1 m n hnl
                      rw [er] at hnx
                      have HNX : Hid _ := hnx
                      obtain ⟨A6, C6, e6, _, _⟩ := Dk.owns_slice (hC.row (e := 3) (s := 1) (v := u6) (m := (S1.accp m n).length) (xs := Dk.is (S1.accp m n)) (by simp))
                      subst e6
                      generalize S1.accp m n = ls at *
                      clear hC er hnx
                      go_wp2_with fail
                      refine K.mono ?_
                      rintro e w3 ⟨A3, C3, rfl, h3⟩
                      obtain ⟨v', w4, hrun, h4⟩ := h3.appendRow (Dk.is_one r) (by omega)
                      obtain ⟨A4, C4, e4, _, _⟩ := Dk.owns_slice (h4.row (e := 3) (s := 1) (v := v') (m := ls.length + r.length) (xs := Dk.is ls ++ Dk.is r) (by simp))
                      subst e4
                      have h5 : Gt w w4 b S1 (j + 1) [Dk.rowOf 3 1 (.slice A4 (ls.length + r.length) C4) (S1.accp m (n + 1)).length (Dk.is (S1.accp m (n + 1)))] := by
                        rw [HNX.out, List.length_append, Dk.is, List.map_append]
                        exact h4
                      clear K h3 h4
                      go_wp2_with (at_builtin; refine Lib.wpList_append_run _ rfl _ _ _ _ rfl _ _ rfl rfl _ _ hrun ?_)
                      go_roundw
                      case rel => exact ⟨n + 1, by omega, by go_num, h5⟩
                      case measure => simp [intOf]; omega
                    · obtain rfl : n = 2 := by omega
                      have y5 : decide (((2 : Nat) : Int) < 2) = false := by decide
                      have hD : Gt w wr b S1 (j + 1) [Dk.rowOf 3 1 u6 (S1.acc (m + 1)).length (Dk.is (S1.acc (m + 1)))] := hC
                      clear hC
                      go_wp2_with fail
                      go_roundw
                      case rel => exact ⟨m + 1, kd + 1, (congrArg (· + 1) HKD.out : kd + 1 = m + 1 + 1), by omega, by go_num, hD⟩
                      case measure => simp [intOf]; omega
                · obtain rfl : m = 3 := by omega
                  have y3 : decide ((kd : Int) ≤ 3) = false := decide_eq_false (by have := HKD.out; omega)
                  have hkd4 : kd ≤ 4 := by have := HKD.out; omega
                  have hnd := Dk.acc_nodup lS1 hB.ok hB.fair
                  have hlen := (Dk.acc_i64 hB.ok 3).2
                  have HND : Hid _ := hnd
                  obtain ⟨A6, C6, e6, hC6, hm6⟩ := Dk.owns_slice (hB.row (e := 3) (s := 1) (v := u6) (m := (S1.acc 3).length) (xs := Dk.is (S1.acc 3)) (by simp))
                  subst e6
                  unfold maxLen at hm6
                  generalize S1.acc 3 = xs at *
                  generalize eN : xs.length = N at hB hlen hC6 ⊢
                  have HN : Hid _ := eN
                  clear hnd eN
                  go_wp2_with fail
                  generalize wr = wq at *
                  go_loopw [9] (fun i w' => ∃ k : Nat, k ≤ N ∧ i = .int .i64 (k : Int) ∧ Gt w w' b S1 (j + 1) [Dk.rowOf 3 1 (.slice A6 N C6) N (Dk.is xs)]) (fun i w' => N - (intOf i).toNat)
                  case atStart => exact ⟨0, by omega, rfl, hB⟩
                  case round =>
                    obtain ⟨k, hk, rfl, hE⟩ := hrel
                    clear hB
                    by_cases hkN : k < N
                    · have y5 : decide ((k : Int) < (N : Int)) = true := decide_eq_true (by omega)
                      have hkNi : (k : Int) < (N : Int) := by omega
                      go_wp2_with fail
                      generalize wr = wq2 at *
                      go_loopw [10] (fun i w' => ∃ t : Nat, t ≤ k ∧ i = .int .i64 (t : Int) ∧ Gt w w' b S1 (j + 1) [Dk.rowOf 3 1 (.slice A6 N C6) N (Dk.is xs)]) (fun i w' => k - (intOf i).toNat)
                      case atStart => exact ⟨0, by omega, rfl, hE⟩
                      case round =>
                        obtain ⟨t, ht, rfl, hF⟩ := hrel
                        clear hE
                        by_cases htk : t < k
                        · have y6 : decide ((t : Int) < (k : Int)) = true := decide_eq_true (by omega)
                          have htNi : (t : Int) < (N : Int) := by omega
                          obtain ⟨x, ex⟩ := Dk.lt_some (l := xs) (i := t) (by have := HN.out; omega)
                          obtain ⟨y, ey⟩ := Dk.lt_some (l := xs) (i := k) (by have := HN.out; omega)
                          have hxy := Dk.nodup_ne HND.out htk ex ey
                          have v1 : decide (x = y) = false := decide_eq_false hxy
                          have v2 : (x == y) = false := by simpa using hxy
                          have rowc : ∀ yy : Dk.Up wr, yy.wd.ownsRow w.heap.size 3 1 (.slice A6 N C6) N (Dk.is xs) := fun yy => (hF.below yy.property).row (by simp)
                          obtain ⟨g6, C6', _, eg, _⟩ := Dk.row_cell1 (rowc ⟨wr, Below.refl _ _⟩) (k := t) (by omega)
                          injection eg with eA _ eC
                          subst eA eC
                          have c1 : ∀ yy : Dk.Up wr, yy.wd.cell? ⟨g6, t, none⟩ = some (.int .i64 x) := fun yy => by
                            have q := (rowc yy).cells (g := g6) rfl t (.int .i64 x) (by rw [List.getElem?_map, ex]; rfl)
                            rw [Addr.add_lit, Nat.zero_add] at q
                            exact q
                          have c2 : ∀ yy : Dk.Up wr, yy.wd.cell? ⟨g6, k, none⟩ = some (.int .i64 y) := fun yy => by
                            have q := (rowc yy).cells (g := g6) rfl k (.int .i64 y) (by rw [List.getElem?_map, ey]; rfl)
                            rw [Addr.add_lit, Nat.zero_add] at q
                            exact q
                          have hne : Nonempty (Dk.Up wr) := ⟨⟨wr, Below.refl _ _⟩⟩
                          clear rowc ex ey hxy
                          go_wp2_with fail
                          refine Dk.wp_region_up_lit (by kernel_rfl) (by kernel_rfl) ?_
                          repeat (go_big_quiet_step (fail))
                          refine wpQuiet_nil ?_
                          intro _ hw'
                          obtain ⟨yy, hw''⟩ := hw'
                          subst hw''
                          have hG := hF.below yy.property
                          clear c1 c2 hne hF
                          go_wp2_with fail
                          go_roundw
                          case rel => exact ⟨t + 1, by omega, by go_num, hG⟩
                          case measure => simp [intOf]; omega
                        · have y6 : decide ((t : Int) < (k : Int)) = false := decide_eq_false (by omega)
                          go_wp2_with fail
                          go_roundw
                          case rel => exact ⟨k + 1, by omega, by go_num, hF⟩
                          case measure => simp [intOf]; omega
                    · have y5 : decide ((k : Int) < (N : Int)) = false := decide_eq_false (by omega)
                      have hF := hE.drop
                      clear hE
                      go_wp2_with fail
                      go_roundw
                      case rel => exact ⟨j + 1, S1, by omega, by omega, by go_num, lS1, hF⟩
                      case measure => simp [intOf]; omega
            · have a2' : decide (what = 2) = false := decide_eq_false z2
              have a2'' : (what == 2) = false := by simpa using z2
              by_cases z3 : what = 3
              · have a3' : decide (what = 3) = true := decide_eq_true z3
                have a3'' : (what == 3) = true := by simpa using z3
                have a4' : decide (what = 4) = false := decide_eq_false (by omega)
                have a4'' : (what == 4) = false := by simp; omega
                have K := Signal_all (c := n1) (ch := ch) h6 (by omega) (by rw [lS.conds]; exact hn1) i4 false
                have HLS : Hid _ := lS.signal n1 ch false
                obtain ⟨S1, eS1⟩ : ∃ S1, (S.signal n1 ch false).1 = S1 := ⟨_, rfl⟩
                obtain ⟨l1, el1⟩ : ∃ l1, (S.signal n1 ch false).2 = l1 := ⟨_, rfl⟩
                rw [eS1] at K HLS
                rw [el1] at K
                clear eS1 el1 h6
                go_wp2_with fail
                refine K.mono ?_
                rintro e wz ⟨A7, C7, rfl, hz'⟩
                have hz := hz'.drop.drop.mono (k' := j + 1) (by omega)
                clear K hz' q0 q1 q2 q3 q4
                have lS1 := HLS.out
                obtain ⟨Wa, ea⟩ : ∃ Wa, Wa = wz.alloc (.cells #[] 3) := ⟨_, rfl⟩
                have hA1 : Gt w Wa b S1 (j + 1) [Dk.rowOf 3 1 (.slice (some ⟨wz.heap.size, 0, none⟩) 0 0) (S1.acc 0).length (Dk.is (S1.acc 0))] := hz.map fun ts s => s.empty ea
                have HA : Hid (wz.alloc (.cells #[] 3) = Wa) := ea.symm
                clear hz ea
                go_wp2_with (rw [HA.out]; clear HA)
                generalize Wa = wy at *
                go_loopw [6, 7] (fun v i w' => ∃ m kd : Nat, Hid (kd = m + 1) ∧ m ≤ 3 ∧ i = .int .i64 (kd : Int) ∧ Gt w w' b S1 (j + 1) [Dk.rowOf 3 1 v (S1.acc m).length (Dk.is (S1.acc m))]) (fun v i w' => 4 - (intOf i).toNat)
                case atStart => exact ⟨0, 1, rfl, by omega, rfl, hA1⟩
                case round =>
                  obtain ⟨m, kd, HKD, hm, rfl, hB⟩ := hrel
                  clear hA1
                  by_cases hml : m < 3
                  · have y3 : decide ((kd : Int) ≤ 3) = true := decide_eq_true (by have := HKD.out; omega)
                    have hkd3 : kd ≤ 3 := by have := HKD.out; omega
                    go_wp2_with fail
                    generalize wr = wq at *
                    go_loopw [6, 8] (fun v i w' => ∃ n : Nat, n ≤ 2 ∧ i = .int .i64 (n : Int) ∧ Gt w w' b S1 (j + 1) [Dk.rowOf 3 1 v (S1.accp m n).length (Dk.is (S1.accp m n))]) (fun v i w' => 2 - (intOf i).toNat)
                    case atStart => exact ⟨0, by omega, rfl, hB⟩
                    case round =>
                      obtain ⟨n, hn, rfl, hC⟩ := hrel
                      clear hB
                      by_cases hnl : n < 2
                      · have y5 : decide ((n : Int) < 2) = true := decide_eq_true (by omega)
                        obtain ⟨r, er⟩ : ∃ r, S1.wl (m + 1) n = r := ⟨_, rfl⟩
                        have K := Waiters_wl (kd := kd) (n := n) hC (by omega) lS1 ⟨by have := HKD.out; omega, hkd3⟩ hnl r (by rw [HKD.out]; exact er)
                        have hal := Dk.accp_len hC.ok m n hml
                        have hrl := (Dk.wl_i64 hC.ok (m + 1) n).2
                        rw [er] at hrl
                        have hnx := Dk.accp_next S1 m n hnl
                        rw [er] at hnx
                        have HNX : Hid _ := hnx
                        obtain ⟨A6, C6, e6, _, _⟩ := Dk.owns_slice (hC.row (e := 3) (s := 1) (v := u6) (m := (S1.accp m n).length) (xs := Dk.is (S1.accp m n)) (by simp))
                        subst e6
                        generalize S1.accp m n = ls at *
                        clear hC er hnx
                        go_wp2_with fail
                        refine K.mono ?_
                        rintro e w3 ⟨A3, C3, rfl, h3⟩
                        obtain ⟨v', w4, hrun, h4⟩ := h3.appendRow (Dk.is_one r) (by omega)
                        obtain ⟨A4, C4, e4, _, _⟩ := Dk.owns_slice (h4.row (e := 3) (s := 1) (v := v') (m := ls.length + r.length) (xs := Dk.is ls ++ Dk.is r) (by simp))
                        subst e4
                        have h5 : Gt w w4 b S1 (j + 1) [Dk.rowOf 3 1 (.slice A4 (ls.length + r.length) C4) (S1.accp m (n + 1)).length (Dk.is (S1.accp m (n + 1)))] := by
                          rw [HNX.out, List.length_append, Dk.is, List.map_append]
                          exact h4
                        clear K h3 h4
                        go_wp2_with (at_builtin; refine Lib.wpList_append_run _ rfl _ _ _ _ rfl _ _ rfl rfl _ _ hrun ?_)
                        go_roundw
                        case rel => exact ⟨n + 1, by omega, by go_num, h5⟩
                        case measure => simp [intOf]; omega
                      · obtain rfl : n = 2 := by omega
                        have y5 : decide (((2 : Nat) : Int) < 2) = false := by decide
                        have hD : Gt w wr b S1 (j + 1) [Dk.rowOf 3 1 u6 (S1.acc (m + 1)).length (Dk.is (S1.acc (m + 1)))] := hC
                        clear hC
                        go_wp2_with fail
                        go_roundw
                        case rel => exact ⟨m + 1, kd + 1, (congrArg (· + 1) HKD.out : kd + 1 = m + 1 + 1), by omega, by go_num, hD⟩
                        case measure => simp [intOf]; omega
                  · obtain rfl : m = 3 := by omega
                    have y3 : decide ((kd : Int) ≤ 3) = false := decide_eq_false (by have := HKD.out; omega)
                    have hkd4 : kd ≤ 4 := by have := HKD.out; omega
                    have hnd := Dk.acc_nodup lS1 hB.ok hB.fair
                    have hlen := (Dk.acc_i64 hB.ok 3).2
                    have HND : Hid _ := hnd
                    obtain ⟨A6, C6, e6, hC6, hm6⟩ := Dk.owns_slice (hB.row (e := 3) (s := 1) (v := u6) (m := (S1.acc 3).length) (xs := Dk.is (S1.acc 3)) (by simp))
                    subst e6
                    unfold maxLen at hm6
                    generalize S1.acc 3 = xs at *
                    generalize eN : xs.length = N at hB hlen hC6 ⊢
                    have HN : Hid _ := eN
                    clear hnd eN
                    go_wp2_with fail
                    generalize wr = wq at *
                    go_loopw [9] (fun i w' => ∃ k : Nat, k ≤ N ∧ i = .int .i64 (k : Int) ∧ Gt w w' b S1 (j + 1) [Dk.rowOf 3 1 (.slice A6 N C6) N (Dk.is xs)]) (fun i w' => N - (intOf i).toNat)
                    case atStart => exact ⟨0, by omega, rfl, hB⟩
                    case round =>
                      obtain ⟨k, hk, rfl, hE⟩ := hrel
                      clear hB
                      by_cases hkN : k < N
                      · have y5 : decide ((k : Int) < (N : Int)) = true := decide_eq_true (by omega)
                        have hkNi : (k : Int) < (N : Int) := by omega
                        go_wp2_with fail
                        generalize wr = wq2 at *
                        go_loopw [10] (fun i w' => ∃ t : Nat, t ≤ k ∧ i = .int .i64 (t : Int) ∧ Gt w w' b S1 (j + 1) [Dk.rowOf 3 1 (.slice A6 N C6) N (Dk.is xs)]) (fun i w' => k - (intOf i).toNat)
                        case atStart => exact ⟨0, by omega, rfl, hE⟩
                        case round =>
                          obtain ⟨t, ht, rfl, hF⟩ := hrel
                          clear hE
                          by_cases htk : t < k
                          · have y6 : decide ((t : Int) < (k : Int)) = true := decide_eq_true (by omega)
                            have htNi : (t : Int) < (N : Int) := by omega
                            obtain ⟨x, ex⟩ := Dk.lt_some (l := xs) (i := t) (by have := HN.out; omega)
                            obtain ⟨y, ey⟩ := Dk.lt_some (l := xs) (i := k) (by have := HN.out; omega)
                            have hxy := Dk.nodup_ne HND.out htk ex ey
                            have v1 : decide (x = y) = false := decide_eq_false hxy
                            have v2 : (x == y) = false := by simpa using hxy
                            have rowc : ∀ yy : Dk.Up wr, yy.wd.ownsRow w.heap.size 3 1 (.slice A6 N C6) N (Dk.is xs) := fun yy => (hF.below yy.property).row (by simp)
                            obtain ⟨g6, C6', _, eg, _⟩ := Dk.row_cell1 (rowc ⟨wr, Below.refl _ _⟩) (k := t) (by omega)
                            injection eg with eA _ eC
                            subst eA eC
                            have c1 : ∀ yy : Dk.Up wr, yy.wd.cell? ⟨g6, t, none⟩ = some (.int .i64 x) := fun yy => by
                              have q := (rowc yy).cells (g := g6) rfl t (.int .i64 x) (by rw [List.getElem?_map, ex]; rfl)
                              rw [Addr.add_lit, Nat.zero_add] at q
                              exact q
                            have c2 : ∀ yy : Dk.Up wr, yy.wd.cell? ⟨g6, k, none⟩ = some (.int .i64 y) := fun yy => by
                              have q := (rowc yy).cells (g := g6) rfl k (.int .i64 y) (by rw [List.getElem?_map, ey]; rfl)
                              rw [Addr.add_lit, Nat.zero_add] at q
                              exact q
                            have hne : Nonempty (Dk.Up wr) := ⟨⟨wr, Below.refl _ _⟩⟩
                            clear rowc ex ey hxy
                            go_wp2_with fail
                            refine Dk.wp_region_up_lit (by kernel_rfl) (by kernel_rfl) ?_
                            repeat (go_big_quiet_step (fail))
                            refine wpQuiet_nil ?_
                            intro _ hw'
                            obtain ⟨yy, hw''⟩ := hw'
                            subst hw''
                            have hG := hF.below yy.property
                            clear c1 c2 hne hF
                            go_wp2_with fail
                            go_roundw
                            case rel => exact ⟨t + 1, by omega, by go_num, hG⟩
                            case measure => simp [intOf]; omega
                          · have y6 : decide ((t : Int) < (k : Int)) = false := decide_eq_false (by omega)
                            go_wp2_with fail
                            go_roundw
                            case rel => exact ⟨k + 1, by omega, by go_num, hF⟩
                            case measure => simp [intOf]; omega
                      · have y5 : decide ((k : Int) < (N : Int)) = false := decide_eq_false (by omega)
                        have hF := hE.drop
                        clear hE
                        go_wp2_with fail
                        go_roundw
                        case rel => exact ⟨j + 1, S1, by omega, by omega, by go_num, lS1, hF⟩
                        case measure => simp [intOf]; omega
              · have a3' : decide (what = 3) = false := decide_eq_false z3
                have a3'' : (what == 3) = false := by simpa using z3
                by_cases z4 : what = 4
                · have a4' : decide (what = 4) = true := decide_eq_true z4
                  have a4'' : (what == 4) = true := by simpa using z4
                  have K := Signal_all (c := n1) (ch := ch) h6 (by omega) (by rw [lS.conds]; exact hn1) i4 true
                  have HLS : Hid _ := lS.signal n1 ch true
                  obtain ⟨S1, eS1⟩ : ∃ S1, (S.signal n1 ch true).1 = S1 := ⟨_, rfl⟩
                  obtain ⟨l1, el1⟩ : ∃ l1, (S.signal n1 ch true).2 = l1 := ⟨_, rfl⟩
                  rw [eS1] at K HLS
                  rw [el1] at K
                  clear eS1 el1 h6
                  go_wp2_with fail
                  refine K.mono ?_
                  rintro e wz ⟨A7, C7, rfl, hz'⟩
                  have hz := hz'.drop.drop.mono (k' := j + 1) (by omega)
                  clear K hz' q0 q1 q2 q3 q4
                  have lS1 := HLS.out
                  obtain ⟨Wa, ea⟩ : ∃ Wa, Wa = wz.alloc (.cells #[] 3) := ⟨_, rfl⟩
                  have hA1 : Gt w Wa b S1 (j + 1) [Dk.rowOf 3 1 (.slice (some ⟨wz.heap.size, 0, none⟩) 0 0) (S1.acc 0).length (Dk.is (S1.acc 0))] := hz.map fun ts s => s.empty ea
                  have HA : Hid (wz.alloc (.cells #[] 3) = Wa) := ea.symm
                  clear hz ea
                  go_wp2_with (rw [HA.out]; clear HA)
                  generalize Wa = wy at *
                  go_loopw [6, 7] (fun v i w' => ∃ m kd : Nat, Hid (kd = m + 1) ∧ m ≤ 3 ∧ i = .int .i64 (kd : Int) ∧ Gt w w' b S1 (j + 1) [Dk.rowOf 3 1 v (S1.acc m).length (Dk.is (S1.acc m))]) (fun v i w' => 4 - (intOf i).toNat)
                  case atStart => exact ⟨0, 1, rfl, by omega, rfl, hA1⟩
                  case round =>
                    obtain ⟨m, kd, HKD, hm, rfl, hB⟩ := hrel
                    clear hA1
                    by_cases hml : m < 3
                    · have y3 : decide ((kd : Int) ≤ 3) = true := decide_eq_true (by have := HKD.out; omega)
                      have hkd3 : kd ≤ 3 := by have := HKD.out; omega
                      go_wp2_with fail
                      generalize wr = wq at *
                      go_loopw [6, 8] (fun v i w' => ∃ n : Nat, n ≤ 2 ∧ i = .int .i64 (n : Int) ∧ Gt w w' b S1 (j + 1) [Dk.rowOf 3 1 v (S1.accp m n).length (Dk.is (S1.accp m n))]) (fun v i w' => 2 - (intOf i).toNat)
                      case atStart => exact ⟨0, by omega, rfl, hB⟩
                      case round =>
                        obtain ⟨n, hn, rfl, hC⟩ := hrel
                        clear hB
                        by_cases hnl : n < 2
                        · have y5 : decide ((n : Int) < 2) = true := decide_eq_true (by omega)
                          obtain ⟨r, er⟩ : ∃ r, S1.wl (m + 1) n = r := ⟨_, rfl⟩
                          have K := Waiters_wl (kd := kd) (n := n) hC (by omega) lS1 ⟨by have := HKD.out; omega, hkd3⟩ hnl r (by rw [HKD.out]; exact er)
                          have hal := Dk.accp_len hC.ok m n hml
                          have hrl := (Dk.wl_i64 hC.ok (m + 1) n).2
                          rw [er] at hrl
                          have hnx := Dk.accp_next S1 m n hnl
                          rw [er] at hnx
                          have HNX : Hid _ := hnx
                          obtain ⟨A6, C6, e6, _, _⟩ := Dk.owns_slice (hC.row (e := 3) (s := 1) (v := u6) (m := (S1.accp m n).length) (xs := Dk.is (S1.accp m n)) (by simp))
                          subst e6
                          generalize S1.accp m n = ls at *
                          clear hC er hnx
                          go_wp2_with fail
                          refine K.mono ?_
                          rintro e w3 ⟨A3, C3, rfl, h3⟩
                          obtain ⟨v', w4, hrun, h4⟩ := h3.appendRow (Dk.is_one r) (by omega)
                          obtain ⟨A4, C4, e4, _, _⟩ := Dk.owns_slice (h4.row (e := 3) (s := 1) (v := v') (m := ls.length + r.length) (xs := Dk.is ls ++ Dk.is r) (by simp))
                          subst e4
                          have h5 : Gt w w4 b S1 (j + 1) [Dk.rowOf 3 1 (.slice A4 (ls.length + r.length) C4) (S1.accp m (n + 1)).length (Dk.is (S1.accp m (n + 1)))] := by
                            rw [HNX.out, List.length_append, Dk.is, List.map_append]
                            exact h4
                          clear K h3 h4
                          go_wp2_with (at_builtin; refine Lib.wpList_append_run _ rfl _ _ _ _ rfl _ _ rfl rfl _ _ hrun ?_)
                          go_roundw
                          case rel => exact ⟨n + 1, by omega, by go_num, h5⟩
                          case measure => simp [intOf]; omega
                        · obtain rfl : n = 2 := by omega
                          have y5 : decide (((2 : Nat) : Int) < 2) = false := by decide
                          have hD : Gt w wr b S1 (j + 1) [Dk.rowOf 3 1 u6 (S1.acc (m + 1)).length (Dk.is (S1.acc (m + 1)))] := hC
                          clear hC
                          go_wp2_with fail
                          go_roundw
                          case rel => exact ⟨m + 1, kd + 1, (congrArg (· + 1) HKD.out : kd + 1 = m + 1 + 1), by omega, by go_num, hD⟩
                          case measure => simp [intOf]; omega
                    · obtain rfl : m = 3 := by omega
                      have y3 : decide ((kd : Int) ≤ 3) = false := decide_eq_false (by have := HKD.out; omega)
                      have hkd4 : kd ≤ 4 := by have := HKD.out; omega
                      have hnd := Dk.acc_nodup lS1 hB.ok hB.fair
                      have hlen := (Dk.acc_i64 hB.ok 3).2
                      have HND : Hid _ := hnd
                      obtain ⟨A6, C6, e6, hC6, hm6⟩ := Dk.owns_slice (hB.row (e := 3) (s := 1) (v := u6) (m := (S1.acc 3).length) (xs := Dk.is (S1.acc 3)) (by simp))
                      subst e6
                      unfold maxLen at hm6
                      generalize S1.acc 3 = xs at *
                      generalize eN : xs.length = N at hB hlen hC6 ⊢
                      have HN : Hid _ := eN
                      clear hnd eN
                      go_wp2_with fail
                      generalize wr = wq at *
                      go_loopw [9] (fun i w' => ∃ k : Nat, k ≤ N ∧ i = .int .i64 (k : Int) ∧ Gt w w' b S1 (j + 1) [Dk.rowOf 3 1 (.slice A6 N C6) N (Dk.is xs)]) (fun i w' => N - (intOf i).toNat)
                      case atStart => exact ⟨0, by omega, rfl, hB⟩
                      case round =>
                        obtain ⟨k, hk, rfl, hE⟩ := hrel
                        clear hB
                        by_cases hkN : k < N
                        · have y5 : decide ((k : Int) < (N : Int)) = true := decide_eq_true (by omega)
                          have hkNi : (k : Int) < (N : Int) := by omega
                          go_wp2_with fail
                          generalize wr = wq2 at *
                          go_loopw [10] (fun i w' => ∃ t : Nat, t ≤ k ∧ i = .int .i64 (t : Int) ∧ Gt w w' b S1 (j + 1) [Dk.rowOf 3 1 (.slice A6 N C6) N (Dk.is xs)]) (fun i w' => k - (intOf i).toNat)
                          case atStart => exact ⟨0, by omega, rfl, hE⟩
                          case round =>
                            obtain ⟨t, ht, rfl, hF⟩ := hrel
                            clear hE
                            by_cases htk : t < k
                            · have y6 : decide ((t : Int) < (k : Int)) = true := decide_eq_true (by omega)
                              have htNi : (t : Int) < (N : Int) := by omega
                              obtain ⟨x, ex⟩ := Dk.lt_some (l := xs) (i := t) (by have := HN.out; omega)
                              obtain ⟨y, ey⟩ := Dk.lt_some (l := xs) (i := k) (by have := HN.out; omega)
                              have hxy := Dk.nodup_ne HND.out htk ex ey
                              have v1 : decide (x = y) = false := decide_eq_false hxy
                              have v2 : (x == y) = false := by simpa using hxy
                              have rowc : ∀ yy : Dk.Up wr, yy.wd.ownsRow w.heap.size 3 1 (.slice A6 N C6) N (Dk.is xs) := fun yy => (hF.below yy.property).row (by simp)
                              obtain ⟨g6, C6', _, eg, _⟩ := Dk.row_cell1 (rowc ⟨wr, Below.refl _ _⟩) (k := t) (by omega)
                              injection eg with eA _ eC
                              subst eA eC
                              have c1 : ∀ yy : Dk.Up wr, yy.wd.cell? ⟨g6, t, none⟩ = some (.int .i64 x) := fun yy => by
                                have q := (rowc yy).cells (g := g6) rfl t (.int .i64 x) (by rw [List.getElem?_map, ex]; rfl)
                                rw [Addr.add_lit, Nat.zero_add] at q
                                exact q
                              have c2 : ∀ yy : Dk.Up wr, yy.wd.cell? ⟨g6, k, none⟩ = some (.int .i64 y) := fun yy => by
                                have q := (rowc yy).cells (g := g6) rfl k (.int .i64 y) (by rw [List.getElem?_map, ey]; rfl)
                                rw [Addr.add_lit, Nat.zero_add] at q
                                exact q
                              have hne : Nonempty (Dk.Up wr) := ⟨⟨wr, Below.refl _ _⟩⟩
                              clear rowc ex ey hxy
                              go_wp2_with fail
                              refine Dk.wp_region_up_lit (by kernel_rfl) (by kernel_rfl) ?_
                              repeat (go_big_quiet_step (fail))
                              refine wpQuiet_nil ?_
                              intro _ hw'
                              obtain ⟨yy, hw''⟩ := hw'
                              subst hw''
                              have hG := hF.below yy.property
                              clear c1 c2 hne hF
                              go_wp2_with fail
                              go_roundw
                              case rel => exact ⟨t + 1, by omega, by go_num, hG⟩
                              case measure => simp [intOf]; omega
                            · have y6 : decide ((t : Int) < (k : Int)) = false := decide_eq_false (by omega)
                              go_wp2_with fail
                              go_roundw
                              case rel => exact ⟨k + 1, by omega, by go_num, hF⟩
                              case measure => simp [intOf]; omega
                        · have y5 : decide ((k : Int) < (N : Int)) = false := decide_eq_false (by omega)
                          have hF := hE.drop
                          clear hE
                          go_wp2_with fail
                          go_roundw
                          case rel => exact ⟨j + 1, S1, by omega, by omega, by go_num, lS1, hF⟩
                          case measure => simp [intOf]; omega
                · have a4' : decide (what = 4) = false := decide_eq_false z4
                  have a4'' : (what == 4) = false := by simpa using z4
                  by_cases z5 : what = 5
                  · have a5' : decide (what = 5) = true := decide_eq_true z5
                    have a5'' : (what == 5) = true := by simpa using z5
                    have K := Down_all (who := who) (n := n1) h6 (by omega) (by rw [lS.count]; exact hn1) i1
                    have HLS : Hid _ := lS.down who n1
                    obtain ⟨S1, eS1⟩ : ∃ S1, (S.down who n1).1 = S1 := ⟨_, rfl⟩
                    obtain ⟨r1, er1⟩ : ∃ r1, (S.down who n1).2.1 = r1 := ⟨_, rfl⟩
                    obtain ⟨r2, er2⟩ : ∃ r2, (S.down who n1).2.2 = r2 := ⟨_, rfl⟩
                    rw [eS1] at K HLS
                    rw [er1, er2] at K
                    clear eS1 er1 er2 h6
                    go_wp2_with fail
                    refine K.mono ?_
                    rintro e wz ⟨rfl, hz'⟩
                    have hz := hz'.drop
                    clear K hz' q0 q1 q2 q3 q4
                    have lS1 := HLS.out
                    obtain ⟨Wa, ea⟩ : ∃ Wa, Wa = wz.alloc (.cells #[] 3) := ⟨_, rfl⟩
                    have hA1 : Gt w Wa b S1 (j + 1) [Dk.rowOf 3 1 (.slice (some ⟨wz.heap.size, 0, none⟩) 0 0) (S1.acc 0).length (Dk.is (S1.acc 0))] := hz.map fun ts s => s.empty ea
                    have HA : Hid (wz.alloc (.cells #[] 3) = Wa) := ea.symm
                    clear hz ea
                    go_wp2_with (rw [HA.out]; clear HA)
                    generalize Wa = wy at *
                    go_loopw [6, 7] (fun v i w' => ∃ m kd : Nat, Hid (kd = m + 1) ∧ m ≤ 3 ∧ i = .int .i64 (kd : Int) ∧ Gt w w' b S1 (j + 1) [Dk.rowOf 3 1 v (S1.acc m).length (Dk.is (S1.acc m))]) (fun v i w' => 4 - (intOf i).toNat)
                    case atStart => exact ⟨0, 1, rfl, by omega, rfl, hA1⟩
                    case round =>
                      obtain ⟨m, kd, HKD, hm, rfl, hB⟩ := hrel
                      clear hA1
                      by_cases hml : m < 3
                      · have y3 : decide ((kd : Int) ≤ 3) = true := decide_eq_true (by have := HKD.out; omega)
                        have hkd3 : kd ≤ 3 := by have := HKD.out; omega
                        go_wp2_with fail
                        generalize wr = wq at *
                        go_loopw [6, 8] (fun v i w' => ∃ n : Nat, n ≤ 2 ∧ i = .int .i64 (n : Int) ∧ Gt w w' b S1 (j + 1) [Dk.rowOf 3 1 v (S1.accp m n).length (Dk.is (S1.accp m n))]) (fun v i w' => 2 - (intOf i).toNat)
                        case atStart => exact ⟨0, by omega, rfl, hB⟩
                        case round =>
                          obtain ⟨n, hn, rfl, hC⟩ := hrel
                          clear hB
                          by_cases hnl : n < 2
                          · have y5 : decide ((n : Int) < 2) = true := decide_eq_true (by omega)
                            obtain ⟨r, er⟩ : ∃ r, S1.wl (m + 1) n = r := ⟨_, rfl⟩
                            have K := Waiters_wl (kd := kd) (n := n) hC (by omega) lS1 ⟨by have := HKD.out; omega, hkd3⟩ hnl r (by rw [HKD.out]; exact er)
                            have hal := Dk.accp_len hC.ok m n hml
                            have hrl := (Dk.wl_i64 hC.ok (m + 1) n).2
                            rw [er] at hrl
                            have hnx := Dk.accp_next S1 m n hnl
                            rw [er] at hnx
                            have HNX : Hid _ := hnx
                            obtain ⟨A6, C6, e6, _, _⟩ := Dk.owns_slice (hC.row (e := 3) (s := 1) (v := u6) (m := (S1.accp m n).length) (xs := Dk.is (S1.accp m n)) (by simp))
                            subst e6
                            generalize S1.accp m n = ls at *
                            clear hC er hnx
                            go_wp2_with fail
                            refine K.mono ?_
                            rintro e w3 ⟨A3, C3, rfl, h3⟩
                            obtain ⟨v', w4, hrun, h4⟩ := h3.appendRow (Dk.is_one r) (by omega)
                            obtain ⟨A4, C4, e4, _, _⟩ := Dk.owns_slice (h4.row (e := 3) (s := 1) (v := v') (m := ls.length + r.length) (xs := Dk.is ls ++ Dk.is r) (by simp))
                            subst e4
                            have h5 : Gt w w4 b S1 (j + 1) [Dk.rowOf 3 1 (.slice A4 (ls.length + r.length) C4) (S1.accp m (n + 1)).length (Dk.is (S1.accp m (n + 1)))] := by
                              rw [HNX.out, List.length_append, Dk.is, List.map_append]
                              exact h4
                            clear K h3 h4
                            go_wp2_with (at_builtin; refine Lib.wpList_append_run _ rfl _ _ _ _ rfl _ _ rfl rfl _ _ hrun ?_)
                            go_roundw
                            case rel => exact ⟨n + 1, by omega, by go_num, h5⟩
                            case measure => simp [intOf]; omega
                          · obtain rfl : n = 2 := by omega
                            have y5 : decide (((2 : Nat) : Int) < 2) = false := by decide
                            have hD : Gt w wr b S1 (j + 1) [Dk.rowOf 3 1 u6 (S1.acc (m + 1)).length (Dk.is (S1.acc (m + 1)))] := hC
                            clear hC
                            go_wp2_with fail
                            go_roundw
                            case rel => exact ⟨m + 1, kd + 1, (congrArg (· + 1) HKD.out : kd + 1 = m + 1 + 1), by omega, by go_num, hD⟩
                            case measure => simp [intOf]; omega
                      · obtain rfl : m = 3 := by omega
                        have y3 : decide ((kd : Int) ≤ 3) = false := decide_eq_false (by have := HKD.out; omega)
                        have hkd4 : kd ≤ 4 := by have := HKD.out; omega
                        have hnd := Dk.acc_nodup lS1 hB.ok hB.fair
                        have hlen := (Dk.acc_i64 hB.ok 3).2
                        have HND : Hid _ := hnd
                        obtain ⟨A6, C6, e6, hC6, hm6⟩ := Dk.owns_slice (hB.row (e := 3) (s := 1) (v := u6) (m := (S1.acc 3).length) (xs := Dk.is (S1.acc 3)) (by simp))
                        subst e6
                        unfold maxLen at hm6
                        generalize S1.acc 3 = xs at *
                        generalize eN : xs.length = N at hB hlen hC6 ⊢
                        have HN : Hid _ := eN
                        clear hnd eN
                        go_wp2_with fail
                        generalize wr = wq at *
                        go_loopw [9] (fun i w' => ∃ k : Nat, k ≤ N ∧ i = .int .i64 (k : Int) ∧ Gt w w' b S1 (j + 1) [Dk.rowOf 3 1 (.slice A6 N C6) N (Dk.is xs)]) (fun i w' => N - (intOf i).toNat)
                        case atStart => exact ⟨0, by omega, rfl, hB⟩
                        case round =>
                          obtain ⟨k, hk, rfl, hE⟩ := hrel
                          clear hB
                          by_cases hkN : k < N
                          · have y5 : decide ((k : Int) < (N : Int)) = true := decide_eq_true (by omega)
                            have hkNi : (k : Int) < (N : Int) := by omega
                            go_wp2_with fail
                            generalize wr = wq2 at *
                            go_loopw [10] (fun i w' => ∃ t : Nat, t ≤ k ∧ i = .int .i64 (t : Int) ∧ Gt w w' b S1 (j + 1) [Dk.rowOf 3 1 (.slice A6 N C6) N (Dk.is xs)]) (fun i w' => k - (intOf i).toNat)
                            case atStart => exact ⟨0, by omega, rfl, hE⟩
                            case round =>
                              obtain ⟨t, ht, rfl, hF⟩ := hrel
                              clear hE
                              by_cases htk : t < k
                              · have y6 : decide ((t : Int) < (k : Int)) = true := decide_eq_true (by omega)
                                have htNi : (t : Int) < (N : Int) := by omega
                                obtain ⟨x, ex⟩ := Dk.lt_some (l := xs) (i := t) (by have := HN.out; omega)
                                obtain ⟨y, ey⟩ := Dk.lt_some (l := xs) (i := k) (by have := HN.out; omega)
                                have hxy := Dk.nodup_ne HND.out htk ex ey
                                have v1 : decide (x = y) = false := decide_eq_false hxy
                                have v2 : (x == y) = false := by simpa using hxy
                                have rowc : ∀ yy : Dk.Up wr, yy.wd.ownsRow w.heap.size 3 1 (.slice A6 N C6) N (Dk.is xs) := fun yy => (hF.below yy.property).row (by simp)
                                obtain ⟨g6, C6', _, eg, _⟩ := Dk.row_cell1 (rowc ⟨wr, Below.refl _ _⟩) (k := t) (by omega)
                                injection eg with eA _ eC
                                subst eA eC
                                have c1 : ∀ yy : Dk.Up wr, yy.wd.cell? ⟨g6, t, none⟩ = some (.int .i64 x) := fun yy => by
                                  have q := (rowc yy).cells (g := g6) rfl t (.int .i64 x) (by rw [List.getElem?_map, ex]; rfl)
                                  rw [Addr.add_lit, Nat.zero_add] at q
                                  exact q
                                have c2 : ∀ yy : Dk.Up wr, yy.wd.cell? ⟨g6, k, none⟩ = some (.int .i64 y) := fun yy => by
                                  have q := (rowc yy).cells (g := g6) rfl k (.int .i64 y) (by rw [List.getElem?_map, ey]; rfl)
                                  rw [Addr.add_lit, Nat.zero_add] at q
                                  exact q
                                have hne : Nonempty (Dk.Up wr) := ⟨⟨wr, Below.refl _ _⟩⟩
                                clear rowc ex ey hxy
                                go_wp2_with fail
                                refine Dk.wp_region_up_lit (by kernel_rfl) (by kernel_rfl) ?_
                                repeat (go_big_quiet_step (fail))
                                refine wpQuiet_nil ?_
                                intro _ hw'
                                obtain ⟨yy, hw''⟩ := hw'
                                subst hw''
                                have hG := hF.below yy.property
                                clear c1 c2 hne hF
                                go_wp2_with fail
                                go_roundw
                                case rel => exact ⟨t + 1, by omega, by go_num, hG⟩
                                case measure => simp [intOf]; omega
                              · have y6 : decide ((t : Int) < (k : Int)) = false := decide_eq_false (by omega)
                                go_wp2_with fail
                                go_roundw
                                case rel => exact ⟨k + 1, by omega, by go_num, hF⟩
                                case measure => simp [intOf]; omega
                          · have y5 : decide ((k : Int) < (N : Int)) = false := decide_eq_false (by omega)
                            have hF := hE.drop
                            clear hE
                            go_wp2_with fail
                            go_roundw
                            case rel => exact ⟨j + 1, S1, by omega, by omega, by go_num, lS1, hF⟩
                            case measure => simp [intOf]; omega
                  · have a5' : decide (what = 5) = false := decide_eq_false z5
                    have a5'' : (what == 5) = false := by simpa using z5
                    have K := Up_all (n := n1) (ch := ch) h6 (by omega) (by rw [lS.count]; exact hn1) i4
                    have HLS : Hid _ := lS.up n1 ch
                    obtain ⟨S1, eS1⟩ : ∃ S1, (S.up n1 ch).1 = S1 := ⟨_, rfl⟩
                    obtain ⟨r1, er1⟩ : ∃ r1, (S.up n1 ch).2.1 = r1 := ⟨_, rfl⟩
                    obtain ⟨r2, er2⟩ : ∃ r2, (S.up n1 ch).2.2.1 = r2 := ⟨_, rfl⟩
                    obtain ⟨r3, er3⟩ : ∃ r3, (S.up n1 ch).2.2.2 = r3 := ⟨_, rfl⟩
                    rw [eS1] at K HLS
                    rw [er1, er2, er3] at K
                    clear eS1 er1 er2 er3 h6
                    go_wp2_with fail
                    refine K.mono ?_
                    rintro e wz ⟨rfl, hz'⟩
                    have hz := hz'.drop
                    clear K hz' q0 q1 q2 q3 q4
                    have lS1 := HLS.out
                    obtain ⟨Wa, ea⟩ : ∃ Wa, Wa = wz.alloc (.cells #[] 3) := ⟨_, rfl⟩
                    have hA1 : Gt w Wa b S1 (j + 1) [Dk.rowOf 3 1 (.slice (some ⟨wz.heap.size, 0, none⟩) 0 0) (S1.acc 0).length (Dk.is (S1.acc 0))] := hz.map fun ts s => s.empty ea
                    have HA : Hid (wz.alloc (.cells #[] 3) = Wa) := ea.symm
                    clear hz ea
                    go_wp2_with (rw [HA.out]; clear HA)
                    generalize Wa = wy at *
                    go_loopw [6, 7] (fun v i w' => ∃ m kd : Nat, Hid (kd = m + 1) ∧ m ≤ 3 ∧ i = .int .i64 (kd : Int) ∧ Gt w w' b S1 (j + 1) [Dk.rowOf 3 1 v (S1.acc m).length (Dk.is (S1.acc m))]) (fun v i w' => 4 - (intOf i).toNat)
                    case atStart => exact ⟨0, 1, rfl, by omega, rfl, hA1⟩
                    case round =>
                      obtain ⟨m, kd, HKD, hm, rfl, hB⟩ := hrel
                      clear hA1
                      by_cases hml : m < 3
                      · have y3 : decide ((kd : Int) ≤ 3) = true := decide_eq_true (by have := HKD.out; omega)
                        have hkd3 : kd ≤ 3 := by have := HKD.out; omega
                        go_wp2_with fail
                        generalize wr = wq at *
                        go_loopw [6, 8] (fun v i w' => ∃ n : Nat, n ≤ 2 ∧ i = .int .i64 (n : Int) ∧ Gt w w' b S1 (j + 1) [Dk.rowOf 3 1 v (S1.accp m n).length (Dk.is (S1.accp m n))]) (fun v i w' => 2 - (intOf i).toNat)
                        case atStart => exact ⟨0, by omega, rfl, hB⟩
                        case round =>
                          obtain ⟨n, hn, rfl, hC⟩ := hrel
                          clear hB
                          by_cases hnl : n < 2
                          · have y5 : decide ((n : Int) < 2) = true := decide_eq_true (by omega)
                            obtain ⟨r, er⟩ : ∃ r, S1.wl (m + 1) n = r := ⟨_, rfl⟩
                            have K := Waiters_wl (kd := kd) (n := n) hC (by omega) lS1 ⟨by have := HKD.out; omega, hkd3⟩ hnl r (by rw [HKD.out]; exact er)
                            have hal := Dk.accp_len hC.ok m n hml
                            have hrl := (Dk.wl_i64 hC.ok (m + 1) n).2
                            rw [er] at hrl
                            have hnx := Dk.accp_next S1 m n hnl
                            rw [er] at hnx
                            have HNX : Hid _ := hnx
                            obtain ⟨A6, C6, e6, _, _⟩ := Dk.owns_slice (hC.row (e := 3) (s := 1) (v := u6) (m := (S1.accp m n).length) (xs := Dk.is (S1.accp m n)) (by simp))
                            subst e6
                            generalize S1.accp m n = ls at *
                            clear hC er hnx
                            go_wp2_with fail
                            refine K.mono ?_
                            rintro e w3 ⟨A3, C3, rfl, h3⟩
                            obtain ⟨v', w4, hrun, h4⟩ := h3.appendRow (Dk.is_one r) (by omega)
                            obtain ⟨A4, C4, e4, _, _⟩ := Dk.owns_slice (h4.row (e := 3) (s := 1) (v := v') (m := ls.length + r.length) (xs := Dk.is ls ++ Dk.is r) (by simp))
                            subst e4
                            have h5 : Gt w w4 b S1 (j + 1) [Dk.rowOf 3 1 (.slice A4 (ls.length + r.length) C4) (S1.accp m (n + 1)).length (Dk.is (S1.accp m (n + 1)))] := by
                              rw [HNX.out, List.length_append, Dk.is, List.map_append]
                              exact h4
                            clear K h3 h4
                            go_wp2_with (at_builtin; refine Lib.wpList_append_run _ rfl _ _ _ _ rfl _ _ rfl rfl _ _ hrun ?_)
                            go_roundw
                            case rel => exact ⟨n + 1, by omega, by go_num, h5⟩
                            case measure => simp [intOf]; omega
                          · obtain rfl : n = 2 := by omega
                            have y5 : decide (((2 : Nat) : Int) < 2) = false := by decide
                            have hD : Gt w wr b S1 (j + 1) [Dk.rowOf 3 1 u6 (S1.acc (m + 1)).length (Dk.is (S1.acc (m + 1)))] := hC
                            clear hC
                            go_wp2_with fail
                            go_roundw
                            case rel => exact ⟨m + 1, kd + 1, (congrArg (· + 1) HKD.out : kd + 1 = m + 1 + 1), by omega, by go_num, hD⟩
                            case measure => simp [intOf]; omega
                      · obtain rfl : m = 3 := by omega
                        have y3 : decide ((kd : Int) ≤ 3) = false := decide_eq_false (by have := HKD.out; omega)
                        have hkd4 : kd ≤ 4 := by have := HKD.out; omega
                        have hnd := Dk.acc_nodup lS1 hB.ok hB.fair
                        have hlen := (Dk.acc_i64 hB.ok 3).2
                        have HND : Hid _ := hnd
                        obtain ⟨A6, C6, e6, hC6, hm6⟩ := Dk.owns_slice (hB.row (e := 3) (s := 1) (v := u6) (m := (S1.acc 3).length) (xs := Dk.is (S1.acc 3)) (by simp))
                        subst e6
                        unfold maxLen at hm6
                        generalize S1.acc 3 = xs at *
                        generalize eN : xs.length = N at hB hlen hC6 ⊢
                        have HN : Hid _ := eN
                        clear hnd eN
                        go_wp2_with fail
                        generalize wr = wq at *
                        go_loopw [9] (fun i w' => ∃ k : Nat, k ≤ N ∧ i = .int .i64 (k : Int) ∧ Gt w w' b S1 (j + 1) [Dk.rowOf 3 1 (.slice A6 N C6) N (Dk.is xs)]) (fun i w' => N - (intOf i).toNat)
                        case atStart => exact ⟨0, by omega, rfl, hB⟩
                        case round =>
                          obtain ⟨k, hk, rfl, hE⟩ := hrel
                          clear hB
                          by_cases hkN : k < N
                          · have y5 : decide ((k : Int) < (N : Int)) = true := decide_eq_true (by omega)
                            have hkNi : (k : Int) < (N : Int) := by omega
                            go_wp2_with fail
                            generalize wr = wq2 at *
                            go_loopw [10] (fun i w' => ∃ t : Nat, t ≤ k ∧ i = .int .i64 (t : Int) ∧ Gt w w' b S1 (j + 1) [Dk.rowOf 3 1 (.slice A6 N C6) N (Dk.is xs)]) (fun i w' => k - (intOf i).toNat)
                            case atStart => exact ⟨0, by omega, rfl, hE⟩
                            case round =>
                              obtain ⟨t, ht, rfl, hF⟩ := hrel
                              clear hE
                              by_cases htk : t < k
                              · have y6 : decide ((t : Int) < (k : Int)) = true := decide_eq_true (by omega)
                                have htNi : (t : Int) < (N : Int) := by omega
                                obtain ⟨x, ex⟩ := Dk.lt_some (l := xs) (i := t) (by have := HN.out; omega)
                                obtain ⟨y, ey⟩ := Dk.lt_some (l := xs) (i := k) (by have := HN.out; omega)
                                have hxy := Dk.nodup_ne HND.out htk ex ey
                                have v1 : decide (x = y) = false := decide_eq_false hxy
                                have v2 : (x == y) = false := by simpa using hxy
                                have rowc : ∀ yy : Dk.Up wr, yy.wd.ownsRow w.heap.size 3 1 (.slice A6 N C6) N (Dk.is xs) := fun yy => (hF.below yy.property).row (by simp)
                                obtain ⟨g6, C6', _, eg, _⟩ := Dk.row_cell1 (rowc ⟨wr, Below.refl _ _⟩) (k := t) (by omega)
                                injection eg with eA _ eC
                                subst eA eC
                                have c1 : ∀ yy : Dk.Up wr, yy.wd.cell? ⟨g6, t, none⟩ = some (.int .i64 x) := fun yy => by
                                  have q := (rowc yy).cells (g := g6) rfl t (.int .i64 x) (by rw [List.getElem?_map, ex]; rfl)
                                  rw [Addr.add_lit, Nat.zero_add] at q
                                  exact q
                                have c2 : ∀ yy : Dk.Up wr, yy.wd.cell? ⟨g6, k, none⟩ = some (.int .i64 y) := fun yy => by
                                  have q := (rowc yy).cells (g := g6) rfl k (.int .i64 y) (by rw [List.getElem?_map, ey]; rfl)
                                  rw [Addr.add_lit, Nat.zero_add] at q
                                  exact q
                                have hne : Nonempty (Dk.Up wr) := ⟨⟨wr, Below.refl _ _⟩⟩
                                clear rowc ex ey hxy
                                go_wp2_with fail
                                refine Dk.wp_region_up_lit (by kernel_rfl) (by kernel_rfl) ?_
                                repeat (go_big_quiet_step (fail))
                                refine wpQuiet_nil ?_
                                intro _ hw'
                                obtain ⟨yy, hw''⟩ := hw'
                                subst hw''
                                have hG := hF.below yy.property
                                clear c1 c2 hne hF
                                go_wp2_with fail
                                go_roundw
                                case rel => exact ⟨t + 1, by omega, by go_num, hG⟩
                                case measure => simp [intOf]; omega
                              · have y6 : decide ((t : Int) < (k : Int)) = false := decide_eq_false (by omega)
                                go_wp2_with fail
                                go_roundw
                                case rel => exact ⟨k + 1, by omega, by go_num, hF⟩
                                case measure => simp [intOf]; omega
                          · have y5 : decide ((k : Int) < (N : Int)) = false := decide_eq_false (by omega)
                            have hF := hE.drop
                            clear hE
                            go_wp2_with fail
                            go_roundw
                            case rel => exact ⟨j + 1, S1, by omega, by omega, by go_num, lS1, hF⟩
                            case measure => simp [intOf]; omega
      · refine Dk.nodeT (rs := [2]) (by kernel_rfl) (by simp) ?_
        intro i hi
        simp only [List.mem_cons, List.not_mem_nil, or_false] at hi
        subst hi
        refine Dk.op_call (some 29) rfl rfl rfl (f := 16) (args := #[.int .i64 nn, .int .i64 2]) (by rw [← hA]; clear hA; (try simp only [Act.put, List.setIfInBounds_toArray, List.set_cons_succ, List.set_cons_zero]); go_simp) ?_
        refine (KN Wd).mono ?_
        rintro e w' ⟨rfl, hw'⟩
        subst w'
        refine ⟨_, rfl, fun _ => HS.out, ?_⟩
        refine Dk.nodeT (rs := [5, 6]) (by kernel_rfl) (by simp) ?_
        intro i hi
        simp only [List.mem_cons, List.not_mem_nil, or_false] at hi
        rcases hi with rfl | rfl
        · refine Dk.op_call (some 32) rfl rfl rfl (f := 16) (args := #[.int .i64 mm, .int .i64 2]) (by rw [← hA]; clear hA; (try simp only [Act.put, List.setIfInBounds_toArray, List.set_cons_succ, List.set_cons_zero]); go_simp) ?_
          refine (KM Wd).mono ?_
          rintro e w' ⟨rfl, hw'⟩
          subst w'
          refine ⟨_, rfl, fun _ => HS.out, ?_⟩
          refine Dk.nodeT (rs := [6]) (by kernel_rfl) (by simp) ?_
          intro i hi
          simp only [List.mem_cons, List.not_mem_nil, or_false] at hi
          subst hi
          refine Dk.op_value (v := .pointer (some ⟨bx, 2, none⟩)) (w' := Wd) (some 33) rfl rfl rfl (by rw [← hA]; clear hA; (try simp only [Act.put, List.setIfInBounds_toArray, List.set_cons_succ, List.set_cons_zero]); go_simp) ⟨fun _ => HS.out, ?_⟩
          refine ⟨by kernel_rfl, ?_, rfl⟩
          subst hA
          first | rfl | (simp only [Act.put, List.setIfInBounds_toArray, List.set_cons_succ, List.set_cons_zero])
        · refine Dk.op_value (v := .pointer (some ⟨bx, 2, none⟩)) (w' := Wd) (some 33) rfl rfl rfl (by rw [← hA]; clear hA; (try simp only [Act.put, List.setIfInBounds_toArray, List.set_cons_succ, List.set_cons_zero]); go_simp) ⟨fun _ => HS.out, ?_⟩
          refine Dk.nodeT (rs := [5]) (by kernel_rfl) (by simp) ?_
          intro i hi
          simp only [List.mem_cons, List.not_mem_nil, or_false] at hi
          subst hi
          refine Dk.op_call (some 32) rfl rfl rfl (f := 16) (args := #[.int .i64 mm, .int .i64 2]) (by rw [← hA]; clear hA; (try simp only [Act.put, List.setIfInBounds_toArray, List.set_cons_succ, List.set_cons_zero]); go_simp) ?_
          refine (KM Wd).mono ?_
          rintro e w' ⟨rfl, hw'⟩
          subst w'
          refine ⟨_, rfl, fun _ => HS.out, ?_⟩
          refine ⟨by kernel_rfl, ?_, rfl⟩
          subst hA
          first | rfl | (simp only [Act.put, List.setIfInBounds_toArray, List.set_cons_succ, List.set_cons_zero])
    · by_cases hlt1 : j < L
      · have y1 : decide ((j : Int) < (L : Int)) = true := decide_eq_true (by omega)
        have y2 : decide ((j : Int) < 60) = false := decide_eq_false (by omega)
        go_wp2_with fail
        refine (awake_any wr).mono ?_
        rintro e w2 ⟨rfl, u2⟩
        have HU : Hid _ := Dk.up_call hT.out u2
        clear u2 hT
        go_wp2_with fail
        go_ret
        exact ⟨rfl, HU.out⟩
      · have y1 : decide ((j : Int) < (L : Int)) = false := decide_eq_false (by omega)
        go_wp2_with fail
        refine (awake_any wr).mono ?_
        rintro e w2 ⟨rfl, u2⟩
        have HU : Hid _ := Dk.up_call hT.out u2
        clear u2 hT
        go_wp2_with fail
        go_ret
        exact ⟨rfl, HU.out⟩

end Go.Proofs.Ytjkdaankjondjaa
