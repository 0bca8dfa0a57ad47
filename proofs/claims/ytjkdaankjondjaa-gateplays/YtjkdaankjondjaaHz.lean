/- Mutexes, conditions and semaphores, by whatever anybody does: the statement GatePlays, walked. -/
import Derived.Test.YtjkdaankjondjaaHy
import Derived.Deep.CutRange
namespace Go.Proofs.Ytjkdaankjondjaa
set_option linter.unusedSimpArgs false
set_option linter.unusedVariables false
set_option linter.unnecessarySimpa false
open Go.RowKit Go.Lib

set_option maxRecDepth 100000 in
set_option maxHeartbeats 64000000 in
theorem GatePlays_true (mutexes conds : Int) (A : Option Addr) (L C : Nat) (xs : List Int) (A' : Option Addr) (L' C' : Nat) (acts : List (List Int)) (w : World) (hs : Dk.SlI w.heap.size w A L C xs) (hr : Dk.Row 5 [] Dk.IsInts w.heap.size w A' L' C' acts) : Calls Try.prog 3 #[.int .i64 mutexes, .int .i64 conds, .slice A L C, .slice A' L' C'] w fun e w' => e = .returned (.bool true) ∧ Below w.heap.size w w' := by
  have K0 := New_any (W := w) (us := []) (Dk.Sep.begin (Below.refl _ _)) mutexes conds A L C xs hs
  have HX : Hid (Dk.SlI w.heap.size w A L C xs) := hs
  have HR : Hid (Dk.Row 5 [] Dk.IsInts w.heap.size w A' L' C' acts) := hr
  have hmx := hr.max
  have hcap := hr.cap
  unfold maxLen at hmx
  clear hs hr
  go_enter Try.func3, Try.ntmps3
  go_wp2_with fail
  refine K0.mono ?_
  rintro e w0 ⟨b, ts, rfl, hG, h0⟩
  have K1 := begin_t (W := w) (us := ts) h0 mutexes conds A L C xs HX.out
  clear K0
  go_wp2_with fail
  refine K1.mono ?_
  rintro e w1 ⟨bm, V, rfl, h1⟩
  have hB : Both G0 w w1 b bm 0 [] := by
    refine ⟨Dk.start mutexes conds xs, V, ts, hG, ?_, Dk.start_ok _ _ _ HX.out.wf⟩
    unfold Dk.start
    rw [HX.out.len]
    exact h1
  clear K1 h0 h1 hG
  go_wp2_with fail
  go_loopw [11] (fun i w' => ∃ j : Nat, j ≤ L' ∧ j ≤ 80 ∧ i = .int .i64 j ∧ Both G0 w w' b bm j []) (fun i w' => L' - (intOf i).toNat)
  case atStart => exact ⟨0, by omega, by omega, rfl, hB⟩
  case round =>
    obtain ⟨j, hjL, hj80, rfl, hT⟩ := hrel
    clear hB
    by_cases hlt : j < L' ∧ j < 80
    · obtain ⟨hlt1, hlt8⟩ := hlt
      obtain ⟨ba, oa, rfl, hba, hcx⟩ := Dk.act5_cell HR.out (by omega)
      obtain ⟨what, who, nn, mm, ch, ⟨i0, i1, i2, i3, i4⟩, d0, d1, d2, d3, d4⟩ := hcx j hlt1
      have hO : Below w.heap.size w wr := by
        obtain ⟨S, V, g⟩ := Gt.of_both hT
        exact g.out
      have x0 : wr.cell? ⟨ba, oa + j * 5, none⟩ = some (.int .i64 what) := by rw [hO.cell (p := ⟨ba, oa + j * 5, none⟩) hba]; exact d0
      have x1 : wr.cell? ⟨ba, oa + j * 5 + 1, none⟩ = some (.int .i64 who) := by rw [hO.cell (p := ⟨ba, oa + j * 5 + 1, none⟩) hba]; exact d1
      have x2 : wr.cell? ⟨ba, oa + j * 5 + 2, none⟩ = some (.int .i64 nn) := by rw [hO.cell (p := ⟨ba, oa + j * 5 + 2, none⟩) hba]; exact d2
      have x3 : wr.cell? ⟨ba, oa + j * 5 + 3, none⟩ = some (.int .i64 mm) := by rw [hO.cell (p := ⟨ba, oa + j * 5 + 3, none⟩) hba]; exact d3
      have x4 : wr.cell? ⟨ba, oa + j * 5 + 4, none⟩ = some (.int .i64 ch) := by rw [hO.cell (p := ⟨ba, oa + j * 5 + 4, none⟩) hba]; exact d4
      have y1 : decide ((j : Int) < (L' : Int)) = true := decide_eq_true (by omega)
      have y2 : decide ((j : Int) < 80) = true := decide_eq_true (by omega)
      have hjLi : (j : Int) < (L' : Int) := by omega
      have K := play_any gateI hT (by omega) what who nn mm ch i1 i4
      clear hT hcx d0 d1 d2 d3 d4 hO
      go_wp2_with fail
      refine K.mono ?_
      rintro e w2 ⟨rfl, h2⟩
      clear K x0 x1 x2 x3 x4
      go_wp2_with fail
      go_roundw
      case rel => exact ⟨j + 1, by omega, by omega, by go_num, h2⟩
      case measure => simp [intOf]; omega
    · go_upto_region 4 with fail
      go_cut [36] from 29 to 46 (fun v w' => v = .bool false ∧ w' = wr)
      case first =>
        by_cases hlt1 : j < L'
        · have y1 : decide ((j : Int) < (L' : Int)) = true := decide_eq_true (by omega)
          have y2 : decide ((j : Int) < 80) = false := decide_eq_false (by omega)
          go_wp2_with fail
          go_meet
          exact ⟨rfl, rfl⟩
        · have y1 : decide ((j : Int) < (L' : Int)) = false := decide_eq_false (by omega)
          go_wp2_with fail
          go_meet
          exact ⟨rfl, rfl⟩
      case rest =>
        obtain ⟨rfl, hw⟩ := hcut
        subst wc
        have hL : Both G0 w wr b bm 80 [] := by
          obtain ⟨S, V, g⟩ := Gt.of_both hT
          exact (g.mono (by omega)).to_both
        clear hT
        go_wp2_with fail
        generalize wr = wq at *
        go_loopw [12] (fun i w' => ∃ n : Nat, n ≤ 5 ∧ i = .int .i64 (n : Int) ∧ Both G0 w w' b bm 80 []) (fun i w' => 5 - (intOf i).toNat)
        case atStart => exact ⟨0, by omega, rfl, hL⟩
        case round =>
          obtain ⟨n, hn5, rfl, hT⟩ := hrel
          clear hL
          by_cases hn : n < 5
          · have y0 : decide ((n : Int) < 5) = true := decide_eq_true (by omega)
            obtain ⟨S, V, hP⟩ := Gt.of_both hT
            clear hT
            have K := Owner_uni hP n
            obtain ⟨hd, ehd⟩ : ∃ hd, S.held.getD n false = hd := ⟨_, rfl⟩
            obtain ⟨ow, eow⟩ : ∃ ow, whose S n = ow := ⟨_, rfl⟩
            rw [ehd, eow] at K
            have HHD : Hid (S.held.getD n false = hd) := ehd
            have HOW : Hid (whose S n = ow) := eow
            clear ehd eow hP
            go_wp2_with fail
            refine K.mono ?_
            rintro e w1 ⟨rfl, h1⟩
            clear K
            go_upto_region 12 with fail
            go_cut [15] from 47 to 197 (fun v w' => v = .bool hd ∧ w' = w1)
            case first =>
              have c1 : w1.cell? ⟨bm, 1, none⟩ = some V.v1 := (Gt.field (us := []) h1).cell 1
              by_cases hnl : n < S.held.length
              · obtain ⟨gh, Ch, x, ev, q1, q2, hx, cx, _, _⟩ := Dk.row_cell1 (Gt.helds (us := []) h1) hnl
                rw [List.getElem?_map, List.getElem?_eq_getElem hnl] at hx
                have ex : x = .bool hd := by
                  rw [← HHD.out]
                  simp at hx
                  rw [← hx]
                  simp [List.getD, hnl]
                subst ex
                rw [ev] at c1
                unfold maxLen at q2
                have z1 : decide ((n : Int) < (S.held.length : Int)) = true := decide_eq_true (by omega)
                have hnli : (n : Int) < (S.held.length : Int) := by omega
                clear hx ev
                go_wp2_with fail
                go_meet
                exact ⟨rfl, rfl⟩
              · obtain ⟨A1, C1, ev1, _, _⟩ := Dk.owns_slice (Gt.helds (us := []) h1)
                rw [ev1] at c1
                have z1 : decide ((n : Int) < (S.held.length : Int)) = false := decide_eq_false (by omega)
                have e0 : hd = false := by rw [← HHD.out]; exact getD_out hnl
                clear ev1
                go_wp2_with fail
                go_meet
                exact ⟨by rw [e0], rfl⟩
            case rest =>
              obtain ⟨rfl, hw⟩ := hcut
              subst wc
              go_upto_region 13 with fail
              go_cut [97] from 47 to 197 (fun v w' => v = .bool false ∧ w' = w1)
              case first =>
                cases hd with
                | true =>
                  have hnl : n < S.owner.length := by
                    rw [← h1.ok.held]
                    refine Decidable.by_contra fun hc => ?_
                    have := HHD.out
                    rw [getD_out hc] at this
                    cases this
                  have eo : ow = S.owner.getD n 0 := by rw [← HOW.out]; unfold whose; rw [if_pos HHD.out]
                  obtain ⟨g0, C0, x, ev, q1, q2, hx, cx, _, _⟩ := Dk.row_cell1 (Gt.owners (us := []) h1) hnl
                  have c0 : w1.cell? ⟨bm, 0, none⟩ = some V.v0 := (Gt.field (us := []) h1).cell 0
                  rw [List.getElem?_map, List.getElem?_eq_getElem hnl] at hx
                  have ex : x = .int .i64 ow := by
                    rw [eo]
                    simp at hx
                    rw [← hx]
                    simp [List.getD, hnl]
                  subst ex
                  rw [ev] at c0
                  unfold maxLen at q2
                  have hnli : (n : Int) < (S.owner.length : Int) := by omega
                  have v1 : (ow != ow) = false := by simp
                  have v2 : decide (ow ≠ ow) = false := by simp
                  have v3 : (ow == ow) = true := by simp
                  clear hx ev eo
                  go_wp2_with fail
                  go_meet
                  exact ⟨rfl, rfl⟩
                | false =>
                  have eo : ow = 0 := by rw [← HOW.out]; unfold whose; rw [if_neg (by rw [HHD.out]; simp)]
                  subst eo
                  go_wp2_with fail
                  go_meet
                  exact ⟨rfl, rfl⟩
              case rest =>
                obtain ⟨rfl, hw⟩ := hcut
                subst wc
                obtain ⟨la, ela⟩ : ∃ la, S.wl 1 n = la := ⟨_, rfl⟩
                obtain ⟨lb, elb⟩ : ∃ lb, S.wl 2 n = lb := ⟨_, rfl⟩
                obtain ⟨lc, elc⟩ : ∃ lc, S.wl 3 n = lc := ⟨_, rfl⟩
                obtain ⟨cn, ecn⟩ : ∃ cn, S.count.getD n 0 = cn := ⟨_, rfl⟩
                have HLA : Hid (S.wl 1 n = la) := ela
                have HLB : Hid (S.wl 2 n = lb) := elb
                have HLC : Hid (S.wl 3 n = lc) := elc
                have HCN : Hid (S.count.getD n 0 = cn) := ecn
                have HIB : Hid (∀ x ∈ lb, Dk.i64 x) := by
                  show ∀ x ∈ lb, Dk.i64 x
                  rw [← elb]
                  exact (Dk.wl_i64 h1.ok 2 n).1
                obtain ⟨Wa, e1⟩ : ∃ Wa, Wa = w1.alloc (.cells #[] 3) := ⟨_, rfl⟩
                obtain ⟨Wb, e2⟩ : ∃ Wb, Wb = Wa.alloc (.cells #[] 3) := ⟨_, rfl⟩
                obtain ⟨Wc, e3⟩ : ∃ Wc, Wc = Wb.alloc (.cells #[] 3) := ⟨_, rfl⟩
                have h2 := h1.empty e1
                have h3 := h2.empty e2
                have h4 := h3.empty e3
                obtain ⟨sA, esA⟩ : ∃ sA, w1.heap.size = sA := ⟨_, rfl⟩
                obtain ⟨sB, esB⟩ : ∃ sB, Wa.heap.size = sB := ⟨_, rfl⟩
                obtain ⟨sC, esC⟩ : ∃ sC, Wb.heap.size = sC := ⟨_, rfl⟩
                rw [esA, esB, esC] at h4
                have h5 : Gt w Wc b S 80 ([Dk.rowOf 3 1 (.slice (some ⟨sB, 0, none⟩) 0 0) 0 (Dk.is [])] ++ Dk.mdl bm V S) := h4.map fun ts s => s.sub ((((List.Sublist.refl _).cons _).cons_cons _).cons _)
                have H1 : Hid (w1.alloc (.cells #[] 3) = Wa) := e1.symm
                have H2 : Hid (Wa.alloc (.cells #[] 3) = Wb) := e2.symm
                have H3 : Hid (Wb.alloc (.cells #[] 3) = Wc) := e3.symm
                have HB1 : Hid (w1.heap.size = sA) := esA
                have HB2 : Hid (Wa.heap.size = sB) := esB
                have HB3 : Hid (Wb.heap.size = sC) := esC
                clear e1 e2 e3 esA esB esC h1 h2 h3 h4 ela elb elc ecn HOW
                obtain ⟨ts2, hs2⟩ := h5.sep
                obtain ⟨Z2, D2, ev2, hle2, hmx2⟩ := hs2.nestLen (eh := 22) (e := 3) (s := 1) (f := Dk.is) (v := V.v2) (vs := V.hv) (xss := S.wait) (by simp [Dk.mdl])
                have c2 : Wc.cell? ⟨bm, 2, none⟩ = some (.slice Z2 S.wait.length D2) := by rw [← ev2]; exact (Gt.field h5).cell 2
                have HV2 : Hid (V.v2 = .slice Z2 S.wait.length D2) := ev2
                unfold maxLen at hmx2
                clear hs2 ev2
                go_upto_if 107 with (first | (rw [H1.out, HB1.out]; clear H1) | (rw [H2.out, HB2.out]; clear H2) | (rw [H3.out, HB3.out]; clear H3))
                go_cut [16] from 47 to 197 (fun v w' => (∃ Aa Ca, v = .slice Aa la.length Ca ∧ Hid (∀ w'' us', Gt w w'' b S 80 (us' ++ Dk.mdl bm V S) → Dk.SlI w''.heap.size w'' Aa la.length Ca la)) ∧ w' = Wc)
                case first =>
                  by_cases hnw : n < S.wait.length
                  · have z2 : decide ((n : Int) < (S.wait.length : Int)) = true := decide_eq_true (by omega)
                    have hnwi : (n : Int) < (S.wait.length : Int) := by omega
                    obtain ⟨g2, C2, A2, Ca2, ev2, _, _, hv2, hc2, _⟩ := Gt.waitsM h5 hnw
                    rw [HV2.out] at ev2
                    injection ev2 with e1 _ e3
                    subst e1 e3
                    rw [HLA.out] at hv2 hc2
                    have FD : Hid (∀ w'' us', Gt w w'' b S 80 (us' ++ Dk.mdl bm V S) → Dk.SlI w''.heap.size w'' A2 la.length Ca2 la) := fun w'' us' h => by
                      obtain ⟨_, _, A5', Ca5', _, _, _, hv5', _, hsl⟩ := Gt.waitsM h hnw
                      rw [HLA.out] at hv5' hsl
                      rw [hv2] at hv5'
                      have := Option.some.inj hv5'
                      injection this with e1 _ e3
                      rw [e1, e3]
                      exact hsl
                    clear hv2
                    go_wp2_with fail
                    go_meet
                    exact ⟨⟨_, _, rfl, FD⟩, rfl⟩
                  · have z2 : decide ((n : Int) < (S.wait.length : Int)) = false := decide_eq_false (by omega)
                    have e0 : la = [] := by rw [← HLA.out]; exact getD_out hnw
                    go_wp2_with fail
                    go_meet
                    subst e0
                    exact ⟨⟨_, _, rfl, fun w'' us' h => sli_zero _ _⟩, rfl⟩
                case rest =>
                  obtain ⟨⟨Aa, Ca, rfl, FA⟩, hw⟩ := hcut
                  subst wc
                  clear c2
                  obtain ⟨ts3, hs3⟩ := h5.sep
                  obtain ⟨Z3, D3, ev3', hle3', hmx3'⟩ := hs3.nestLen (eh := 38) (e := 40) (s := 2) (f := Dk.pr2) (v := V.v3) (vs := V.cv) (xss := S.conds) (by simp [Dk.mdl])
                  have c3 : Wc.cell? ⟨bm, 3, none⟩ = some (.slice Z3 S.conds.length D3) := by rw [← ev3']; exact (Gt.field h5).cell 3
                  have HV3 : Hid (V.v3 = .slice Z3 S.conds.length D3) := ev3'
                  unfold maxLen at hmx3'
                  clear hs3 ev3'
                  go_upto_if 121 with fail
                  go_cut [17] from 47 to 197 (fun v w' => ∃ Ab Cb, v = .slice Ab lb.length Cb ∧ Gt w w' b S 80 ([Dk.rowOf 3 1 (.slice Ab (lb).length Cb) (lb).length (Dk.is (lb))] ++ Dk.mdl bm V S))
                  case first =>
                    by_cases hnc : n < S.conds.length
                    · have z3 : decide ((n : Int) < (S.conds.length : Int)) = true := decide_eq_true (by omega)
                      have hnci : (n : Int) < (S.conds.length : Int) := by omega
                      obtain ⟨g3, C3, A3, Ca3, ev3, hle3, hmx3, hv3, _, _, _, _⟩ := Gt.waitsC h5 hnc
                      have e0 := HV3.out.symm.trans ev3
                      injection e0 with e1 _ e3
                      subst e1 e3
                      unfold maxLen at hmx3
                      obtain ⟨cl, ecl⟩ : ∃ cl, S.conds.getD n [] = cl := ⟨_, rfl⟩
                      have HCL : Hid (S.conds.getD n [] = cl) := ecl
                      have elb : lb = cl.map Prod.fst := by rw [← HLB.out, ← ecl]; rfl
                      have hcl80 : cl.length ≤ 80 := by rw [← ecl]; exact h5.ok.condLen (Dk.getD_mem S.conds [] n hnc)
                      have FX : Hid (∀ w'' us', Gt w w'' b S 80 (us' ++ Dk.mdl bm V S) → w''.cell? ⟨bm, 3, none⟩ = some (.slice (some ⟨g3, 0, none⟩) S.conds.length D3) ∧ w''.cell? ⟨g3, n, none⟩ = some (.slice A3 cl.length Ca3) ∧ cl.length ≤ Ca3 ∧ Ca3 ≤ maxLen ∧ ∀ t p, cl[t]? = some p → ∃ ga, A3 = some ⟨ga, 0, none⟩ ∧ w''.cell? ⟨ga, t * 2, none⟩ = some (.int .i64 p.1)) := fun w'' us' h => by
                        obtain ⟨g3', C3', A3', Ca3', ev3', _, _, hv3', hc3', q1, q2, q3⟩ := Gt.waitsC h hnc
                        rw [HCL.out] at hv3' hc3' q1 q3
                        rw [HCL.out] at hv3
                        rw [hv3] at hv3'
                        have e2 := Option.some.inj hv3'
                        injection e2 with e3 _ e4
                        subst e3 e4
                        have e5 : g3' = g3 := by
                          rw [ev3] at ev3'
                          injection ev3' with e1 _ _
                          injection e1 with e1
                          injection e1 with e1
                          exact e1.symm
                        subst e5
                        exact ⟨by rw [← ev3]; exact (Gt.field h).cell 3, hc3', q1, q2, q3⟩
                      have h50 : Gt w Wc b S 80 (Dk.rowOf 3 1 (.slice (some ⟨sB, 0, none⟩) 0 0) ((cl.take 0).map Prod.fst).length (Dk.is ((cl.take 0).map Prod.fst)) :: Dk.mdl bm V S) := h5
                      have ELB : Hid _ := elb
                      clear hv3 h5 ecl elb
                      go_wp2_with fail
                      generalize Wc = wq3 at *
                      go_loopw [17, 20] (fun v i w' => ∃ t : Nat, t ≤ cl.length ∧ i = .int .i64 (t : Int) ∧ Gt w w' b S 80 (Dk.rowOf 3 1 v ((cl.take t).map Prod.fst).length (Dk.is ((cl.take t).map Prod.fst)) :: Dk.mdl bm V S)) (fun v i w' => cl.length - (intOf i).toNat)
                      case atStart => exact ⟨0, Nat.zero_le _, rfl, h50⟩
                      case round =>
                        obtain ⟨t, ht, rfl, hT⟩ := hrel
                        clear h50 c3
                        obtain ⟨x3, x4, x5, x6, x7⟩ := FX.out wr [Dk.rowOf 3 1 u17 ((cl.take t).map Prod.fst).length (Dk.is ((cl.take t).map Prod.fst))] hT
                        unfold maxLen at x6
                        by_cases htl : t < cl.length
                        · have y6 : decide ((t : Int) < (cl.length : Int)) = true := decide_eq_true (by omega)
                          have htli : (t : Int) < (cl.length : Int) := by omega
                          obtain ⟨⟨pw, pm⟩, ep⟩ := Dk.lt_some htl
                          obtain ⟨ga, rfl, x8⟩ := x7 t _ ep
                          have hlen : ((cl.take t).map Prod.fst).length = t := by rw [List.length_map, List.length_take]; omega
                          obtain ⟨v', w4, hrun, h4⟩ := Gt.append hT pw (by rw [hlen]; omega)
                          obtain ⟨Av, Cv, ev, _, _⟩ := Dk.owns_slice (hT.row (e := 3) (s := 1) (v := u17) (m := ((cl.take t).map Prod.fst).length) (xs := Dk.is ((cl.take t).map Prod.fst)) (by simp))
                          rw [hlen] at ev
                          subst ev
                          obtain ⟨Av', Cv', ev', _, _⟩ := Dk.owns_slice (h4.row (e := 3) (s := 1) (v := v') (m := ((cl.take t).map Prod.fst).length + 1) (xs := Dk.is ((cl.take t).map Prod.fst) ++ [.int .i64 pw]) (by simp))
                          rw [hlen] at ev'
                          subst ev'
                          have h5 : Gt w w4 b S 80 (Dk.rowOf 3 1 (.slice Av' (t + 1) Cv') ((cl.take (t + 1)).map Prod.fst).length (Dk.is ((cl.take (t + 1)).map Prod.fst)) :: Dk.mdl bm V S) := by
                            have e1 : (cl.take (t + 1)).map Prod.fst = (cl.take t).map Prod.fst ++ [pw] := by rw [List.take_add_one, ep, List.map_append]; rfl
                            rw [e1, List.length_append, Dk.is, List.map_append]
                            exact h4
                          clear hT h4 x7 ep hlen
                          go_wp2_with (at_builtin; refine Lib.wpList_append_run _ rfl _ _ _ _ rfl _ _ rfl rfl _ _ hrun ?_)
                          go_roundw
                          case rel => exact ⟨t + 1, by omega, by go_num, h5⟩
                          case measure => simp [intOf]; omega
                        · obtain rfl : t = cl.length := by omega
                          have y6 : decide ((cl.length : Int) < (cl.length : Int)) = false := decide_eq_false (by omega)
                          rw [List.take_length, ← ELB.out] at hT
                          obtain ⟨Av, Cv, ev, _, _⟩ := Dk.owns_slice (hT.row (e := 3) (s := 1) (v := u17) (m := lb.length) (xs := Dk.is lb) (by simp))
                          subst ev
                          clear x7
                          go_wp2_with fail
                          go_meet
                          exact ⟨_, _, rfl, hT⟩
                    · have z3 : decide ((n : Int) < (S.conds.length : Int)) = false := decide_eq_false (by omega)
                      have e0 : lb = [] := by
                        rw [← HLB.out]
                        show (S.conds.getD n []).map Prod.fst = []
                        rw [getD_out hnc]
                        rfl
                      go_wp2_with fail
                      go_meet
                      subst e0
                      exact ⟨_, _, rfl, h5⟩
                  case rest =>
                    obtain ⟨Ab, Cb, rfl, h6⟩ := hcut
                    clear h5 c3
                    generalize wc = w6 at *
                    obtain ⟨ts5, hs5⟩ := h6.sep
                    obtain ⟨Z5, D5, ev5', hle5', hmx5'⟩ := hs5.nestLen (eh := 22) (e := 3) (s := 1) (f := Dk.is) (v := V.v5) (vs := V.dv) (xss := S.downs) (by simp [Dk.mdl])
                    have c5 : w6.cell? ⟨bm, 5, none⟩ = some (.slice Z5 S.downs.length D5) := by rw [← ev5']; exact (Gt.field h6).cell 5
                    have HV5 : Hid (V.v5 = .slice Z5 S.downs.length D5) := ev5'
                    unfold maxLen at hmx5'
                    clear hs5 ev5'
                    go_upto_if 154 with fail
                    go_cut [18, 19] from 47 to 197 (fun v c w' => ∃ Ac Cc, v = .slice Ac lc.length Cc ∧ c = .int .i64 cn ∧ Hid (∀ w'' us', Gt w w'' b S 80 (us' ++ Dk.mdl bm V S) → Dk.SlI w''.heap.size w'' Ac lc.length Cc lc) ∧ Gt w w' b S 80 ([Dk.rowOf 3 1 (.slice Ab (lb).length Cb) (lb).length (Dk.is (lb))] ++ Dk.mdl bm V S))
                    case first =>
                      by_cases hnd : n < S.downs.length
                      · obtain ⟨g5, C5, A5, Ca5, ev5, hle5, hmx5, hv5, _, _⟩ := Gt.waitsS h6 hnd
                        have hnc : n < S.count.length := by rw [← h6.ok.downs]; exact hnd
                        obtain ⟨g4, C4, x4, ev4, hle4, hmx4, hx4, _, _, _⟩ := Dk.row_cell1 (Gt.counts h6) hnc
                        rw [HLC.out] at hv5
                        have e0 := HV5.out.symm.trans ev5
                        injection e0 with e1 _ e3
                        subst e1 e3
                        unfold maxLen at hmx5 hmx4
                        have a5 : ∀ y : Dk.Up w6, y.wd.cell? ⟨bm, 5, none⟩ = some (.slice (some ⟨g5, 0, none⟩) S.downs.length D5) := fun y => by rw [← ev5]; exact (Gt.field (h6.below y.property)).cell 5
                        have a4 : ∀ y : Dk.Up w6, y.wd.cell? ⟨bm, 4, none⟩ = some (.slice (some ⟨g4, 0, none⟩) S.count.length C4) := fun y => by rw [← ev4]; exact (Gt.field (h6.below y.property)).cell 4
                        have d5 : ∀ y : Dk.Up w6, y.wd.cell? ⟨g5, n, none⟩ = some (.slice A5 lc.length Ca5) := fun y => by
                          obtain ⟨g5', C5', A5', Ca5', ev5', _, _, hv5', hc5', _⟩ := Gt.waitsS (h6.below y.property) hnd
                          rw [HLC.out] at hv5' hc5'
                          rw [ev5] at ev5'
                          injection ev5' with e1 _ _
                          injection e1 with e1
                          injection e1 with e1
                          subst e1
                          rw [hv5] at hv5'
                          exact hc5'.trans (by rw [Option.some.inj hv5'])
                        have d4 : ∀ y : Dk.Up w6, y.wd.cell? ⟨g4, n, none⟩ = some (.int .i64 cn) := fun y => by
                          have hrow := Gt.counts (h6.below y.property)
                          rw [ev4] at hrow
                          have q := hrow.cells (g := g4) rfl n (.int .i64 cn) (by rw [List.getElem?_map, ← HCN.out, List.getElem?_eq_getElem hnc]; simp [List.getD, hnc])
                          rw [Addr.add_lit, Nat.zero_add] at q
                          exact q
                        have FD : Hid (∀ w'' us', Gt w w'' b S 80 (us' ++ Dk.mdl bm V S) → Dk.SlI w''.heap.size w'' A5 lc.length Ca5 lc) := fun w'' us' h => by
                          obtain ⟨_, _, A5', Ca5', _, _, _, hv5', _, hsl⟩ := Gt.waitsS h hnd
                          rw [HLC.out] at hv5' hsl
                          rw [hv5] at hv5'
                          have := Option.some.inj hv5'
                          injection this with e1 _ e3
                          rw [e1, e3]
                          exact hsl
                        have hnE : Nonempty (Dk.Up w6) := ⟨⟨w6, Below.refl _ _⟩⟩
                        have z5 : decide ((n : Int) < (S.downs.length : Int)) = true := decide_eq_true (by omega)
                        have hndi : (n : Int) < (S.downs.length : Int) := by omega
                        have hnci : (n : Int) < (S.count.length : Int) := by omega
                        clear hv5 ev5 ev4 hx4
                        go_wp2_with fail
                        refine Dk.wp_region_up_lit (by kernel_rfl) (by kernel_rfl) ?_
                        repeat (go_big_quiet_step (fail))
                        refine wpQuiet_nil ?_
                        intro _ hw'
                        obtain ⟨y, hw''⟩ := hw'
                        subst hw''
                        have h7 := h6.below y.property
                        clear a5 a4 d5 d4 hnE h6 c5
                        go_wp2_with fail
                        go_meet
                        exact ⟨_, _, rfl, rfl, FD, h7⟩
                      · have z5 : decide ((n : Int) < (S.downs.length : Int)) = false := decide_eq_false (by omega)
                        have e0 : lc = [] := by rw [← HLC.out]; exact getD_out hnd
                        have e1 : cn = 0 := by rw [← HCN.out]; exact getD_out (by rw [← h6.ok.downs]; exact hnd)
                        go_wp2_with fail
                        go_meet
                        subst e0 e1
                        exact ⟨_, _, rfl, rfl, fun w'' us' h => sli_zero _ _, h6⟩
                    case rest =>
                      obtain ⟨Ac, Cc, rfl, rfl, FC, hF⟩ := hcut
                      clear h6 c5
                      have K := Wait_uni1 hF (by omega) n la HLA.out
                      go_wp2_with fail
                      refine K.mono ?_
                      rintro e w7 ⟨A7, C7, rfl, h7, s7⟩
                      clear K hF
                      go_wp2_with fail
                      refine (Ints_same A7 Aa la.length C7 Ca la w7 s7.out (FA.out _ _ h7)).mono ?_
                      rintro e w8 ⟨rfl, u8'⟩
                      have h8 := h7.below u8'
                      clear h7 s7 u8'
                      have K := Wait_uni2 h8 (by omega) n lb HLB.out
                      go_wp2_with fail
                      refine K.mono ?_
                      rintro e w9 ⟨A9, C9, rfl, h9, s9⟩
                      clear K h8
                      go_wp2_with fail
                      refine (Ints_same A9 Ab lb.length C9 Cb lb w9 s9.out (h9.sli (by simp) HIB.out)).mono ?_
                      rintro e w10 ⟨rfl, u10'⟩
                      have h10 := h9.below u10'
                      clear h9 s9 u10'
                      have K := Wait_uni3 h10 (by omega) n lc HLC.out
                      go_wp2_with fail
                      refine K.mono ?_
                      rintro e w11 ⟨A11, C11, rfl, h11, s11⟩
                      clear K h10
                      go_wp2_with fail
                      refine (Ints_same A11 Ac lc.length C11 Cc lc w11 s11.out (FC.out _ _ h11)).mono ?_
                      rintro e w12 ⟨rfl, u12'⟩
                      have h12 := h11.below u12'
                      clear h11 s11 u12'
                      have K := Count_uni h12 n
                      rw [HCN.out] at K
                      have v1 : (cn != cn) = false := by simp
                      have v2 : decide (cn ≠ cn) = false := by simp
                      have v3 : (cn == cn) = true := by simp
                      have v4 : decide (cn = cn) = true := by simp
                      go_wp2_with fail
                      refine K.mono ?_
                      rintro e w' ⟨rfl, hw'⟩
                      subst w'
                      have h13 : Gt w w12 b S 80 (Dk.mdl bm V S) := h12.drop
                      have hBB := h13.to_both
                      clear K h12 h13
                      go_wp2_with fail
                      go_roundw
                      case rel => exact ⟨n + 1, by omega, by go_num, hBB⟩
                      case measure => simp [intOf]; omega
          · have y0 : decide ((n : Int) < 5) = false := decide_eq_false (by omega)
            obtain ⟨S, V, hP⟩ := Gt.of_both hT
            have HU0 : Hid _ := hP.out
            clear hT hP
            go_wp2_with fail
            refine (awake_any wr).mono ?_
            rintro e w2 ⟨rfl, u2'⟩
            have HU : Hid _ := Dk.up_call HU0.out u2'
            clear u2' HU0
            go_wp2_with fail
            go_ret
            exact ⟨rfl, HU.out⟩
end Go.Proofs.Ytjkdaankjondjaa
