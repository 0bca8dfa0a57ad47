/- The walk of the statement on whoever is first. -/
import Derived.Test.YtihikekhfbpnaaaFi
namespace Go.Proofs.Ytihikekhfbpnaaa
set_option linter.unusedSimpArgs false
set_option linter.unusedVariables false
set_option linter.unnecessarySimpa false
open Go.RowKit Go.Lib

theorem threes (k j : Nat) (h : j < k) : (List.replicate k (3 : Int)).getD j 0 = 3 := by simp [List.getD, h]

set_option maxRecDepth 100000 in
set_option maxHeartbeats 1000000 in
theorem ShareTurns_any (procs : Nat) (hpr : procs < 256) (A1 : Option Addr) (n1 C1 : Nat) (ds : List Int) (turn other : Int) (htu : Dk.i64 turn) (hot : Dk.i64 other) (w : World)
    (hd : Dk.Row 1 0 (Dk.IsInt .i8) w.heap.size w A1 n1 C1 ds) :
    Calls Try.prog 5 #[.int .u8 (procs : Nat), .slice A1 n1 C1, .int .i64 turn, .int .i64 other] w fun e w' => e = .returned (.bool true) ∧ Below w.heap.size w w' := by
  have hd1 := hd.cap
  have hd2 := hd.max
  unfold maxLen at hd2
  obtain ⟨W1, e1⟩ : ∃ W1, W1 = w.alloc (.cells #[] 3) := ⟨_, rfl⟩
  obtain ⟨W2, e2⟩ : ∃ W2, W2 = W1.alloc (.cells #[] 3) := ⟨_, rfl⟩
  have s1 := Dk.Sep.empty (e := 3) (s := 1) (Dk.Sep.begin (Below.refl w.heap.size w)) e1
  have s2 := Dk.Sep.empty (e := 3) (s := 1) s1 e2
  have z1 : W1.heap.size = w.heap.size + 1 := by rw [e1]; simp
  rw [z1] at s2
  have HE1 : Hid _ := e1.symm
  have HE2 : Hid _ := e2.symm
  have HZ1 : Hid _ := z1
  have HD : Hid _ := hd
  have HDL : Hid _ := hd.len
  clear e1 e2 s1 z1 hd
  go_enter Try.func5, Try.ntmps5
  go_wp2_with (first | (rw [HE1.out]; clear HE1) | (rw [HE2.out]; clear HE2))
  go_loopw [9, 10, 11] (fun vd vp i w' => ∃ k : Nat, k ≤ n1 ∧ k ≤ 8 ∧ i = .int .i64 k ∧ Dk.Sep w w' [Dk.rowOf 3 1 vd k (Dk.is (ds.take k)), Dk.rowOf 3 1 vp k (Dk.is (List.replicate k 3))]) (fun vd vp i w' => 8 - (intOf i).toNat)
  case atStart => exact ⟨0, Nat.zero_le _, Nat.zero_le _, rfl, by rw [HZ1.out]; exact s2.perm (List.Perm.swap _ _ _)⟩
  case round =>
    clear s2
    obtain ⟨k, hk1, hk8, rfl, hS⟩ := hrel
    by_cases hc : k < n1 ∧ k < 8
    · obtain ⟨c1, c3⟩ := hc
      obtain ⟨b1, o1, rfl, hb1, hx⟩ := Dk.i8_cell HD.out (by omega)
      obtain ⟨x, ex⟩ : ∃ x, ds.getD k 0 = x := ⟨_, rfl⟩
      have CX : wr.cell? ⟨b1, o1 + k, none⟩ = some (.int .i8 x) := by rw [hS.out.cell (by show b1 < w.heap.size; exact hb1), ← ex]; exact (hx k c1).1
      have hx8 := (hx k c1).2
      rw [ex] at hx8
      obtain ⟨hx1, hx2⟩ := hx8
      have HTd : Hid (ds.take (k + 1) = ds.take k ++ [x]) := by
        have h := Dk.take_more ds k (by rw [HDL.out]; exact c1) 0
        rw [ex] at h
        exact h
      clear hx ex
      have hwx : IntKind.i64.wrap x = x := by go_bits; trivial
      obtain ⟨v1, V1, r1, h1, n1'⟩ := Dk.Sep.append (us1 := []) (x := .int .i64 x) K22 hS rfl (by omega)
      obtain ⟨v2, V2, r2, h2, n2'⟩ := Dk.Sep.append (us1 := [_]) (x := .int .i64 3) K22 h1 rfl (by omega)
      have hs3 : Dk.Sep w V2 [Dk.rowOf 3 1 v1 (k + 1) (Dk.is (ds.take (k + 1))), Dk.rowOf 3 1 v2 (k + 1) (Dk.is (List.replicate (k + 1) 3))] := by
        rw [HTd.out, List.replicate_succ']
        simpa [Dk.is] using h2
      clear h1 h2 hS
      go_wp2_with (at_builtin; first | (refine Lib.wpList_append_run _ rfl _ _ _ _ rfl _ _ rfl rfl _ _ r1 ?_; clear CX r1) | (refine Lib.wpList_append_run _ rfl _ _ _ _ rfl _ _ rfl rfl _ _ r2 ?_))
      go_roundw
      case rel => exact ⟨k + 1, by omega, by omega, by go_num, hs3⟩
      case measure => simp [intOf]; omega
    · go_upto_region 3 with fail
      go_cut [28] from 21 to 41 (fun v w' => v = .bool false ∧ w' = wr)
      case first =>
        by_cases c1 : k < n1
        · have y1 : decide ((k : Int) < (n1 : Int)) = true := decide_eq_true (by omega)
          have y3 : decide ((k : Int) < 8) = false := decide_eq_false (by omega)
          go_wp2_with fail
          go_meet
          exact ⟨rfl, rfl⟩
        · have y1 : decide ((k : Int) < (n1 : Int)) = false := decide_eq_false (by omega)
          go_wp2_with fail
          go_meet
          exact ⟨rfl, rfl⟩
      case rest =>
        obtain ⟨rfl, hw⟩ := hcut
        subst wc
        obtain ⟨D, eD⟩ : ∃ D, ds.take k = D := ⟨_, rfl⟩
        obtain ⟨P, eP⟩ : ∃ P, List.replicate k (3 : Int) = P := ⟨_, rfl⟩
        rw [eD, eP] at hS
        have hDl : D.length = k := by rw [← eD, List.length_take, HDL.out]; omega
        have hPl : P.length = k := by rw [← eP, List.length_replicate]
        have hDx : ∀ x ∈ D, Dk.i64 x := fun x hx => by
          rw [← eD] at hx
          obtain ⟨j, hj, rfl⟩ := List.getElem_of_mem (List.mem_of_mem_take hx)
          have hl := HDL.out
          obtain ⟨b, o, _, _, hc⟩ := Dk.i8_cell HD.out (by omega)
          have := (hc j (by omega)).2
          simp [List.getD, hj] at this
          unfold Dk.i64; omega
        have HPX : Hid (∀ j, j < k → 0 ≤ P.getD j 0 ∧ P.getD j 0 ≤ 7) := fun j hj => by rw [← eP, threes k j hj]; omega
        have r1 := hS.row (e := 3) (s := 1) (v := u9) (n := k) (xs := Dk.is D) (by simp)
        have r2 := hS.row (e := 3) (s := 1) (v := u10) (n := k) (xs := Dk.is P) (by simp)
        rw [← hDl] at r1
        rw [← hPl] at r2
        obtain ⟨Ad, Cd, ed, sD⟩ := Dk.owns_ints r1 hDx
        obtain ⟨Ap, Cp, ep, sP⟩ := Dk.owns_ints r2 (fun x hx => by rw [← eP] at hx; rw [List.eq_of_mem_replicate hx]; unfold Dk.i64; omega)
        rw [hDl] at ed sD
        rw [hPl] at ep sP
        have uS := hS.out
        obtain ⟨m, em⟩ : ∃ m, procs % 64 = m := ⟨_, rfl⟩
        have hm : m < 64 := by omega
        have hm7 : ((procs : Int) % 64) = (m : Int) := by omega
        have hm6 : ((procs : Int).tmod 64) = (m : Int) := by rw [Int.tmod_eq_emod_of_nonneg (by omega)]; exact hm7
        subst ed
        subst ep
        have K := fun (pr tu : Int) (htu : Dk.i64 tu) (h1 : 0 ≤ pr) (h2 : pr ≤ 64) w' (u : Below wr.heap.size wr w') => Fair_yes pr tu htu Ad Ap k Cd k Cp D P w' (Dk.sli_up sD u) (Dk.sli_up sP u) ⟨hPl, hk8, h1, h2, fun j hj => HPX.out j hj⟩
        have HUS : Hid _ := uS
        have HDl : Hid _ := hDl
        have hcd := sD.cap
        have hcd2 := sD.max
        have hcp := sP.cap
        have hcp2 := sP.max
        unfold maxLen at hcd2 hcp2
        clear eD eP hS hDl hPl hDx r1 r2 sD sP uS em hc
        clear HD HDL HZ1
        have K1 := K (m : Int) turn htu (by omega) (by omega) wr (Below.refl _ _)
        have HK : Hid (∀ (pr tu : Int) (htu : Dk.i64 tu) (h1 : 0 ≤ pr) (h2 : pr ≤ 64) w' (u : Below wr.heap.size wr w'), Calls Try.prog 7 #[.int .i64 pr, .slice Ad k Cd, .slice Ap k Cp, .int .i64 tu] w' fun e w'' => ∃ A C has, e = .returned (.slice A k C) ∧ Dk.Good pr D P has (Dk.turnOf tu k) ∧ Dk.SlI w''.heap.size w'' A k C has ∧ Below w'.heap.size w' w'') := K
        clear K
        go_wp2_with fail
        refine K1.mono ?_
        rintro e w3 ⟨Aa, Ca, La, rfl, gA, sA, u3⟩
        have HGA : Hid _ := gA
        have HSA : Hid _ := sA
        have HU3 : Hid _ := u3
        have ca1 := sA.cap
        have ca2 := sA.max
        unfold maxLen at ca2
        have K2 := HK.out (m : Int) other hot (by omega) (by omega) w3 u3
        clear gA sA u3 K1
        go_wp2_with fail
        refine K2.mono ?_
        rintro e w4 ⟨Ab, Cb, Lb, rfl, gB, sB, u4⟩
        have HGB : Hid _ := gB
        have HSB : Hid _ := sB
        have HU4 : Hid _ := Dk.up_call HU3.out u4
        have HSA4 : Hid _ := Dk.sli_up HSA.out u4
        have cb1 := sB.cap
        have cb2 := sB.max
        unfold maxLen at cb2
        have K3 := HK.out ((m : Int) + 1) turn htu (by omega) (by omega) w4 HU4.out
        clear gB sB u4 K2 HSA
        go_wp2_with fail
        refine K3.mono ?_
        rintro e w5 ⟨Ac, Cc, Lc, rfl, gC, sC, u5⟩
        have HGC : Hid _ := gC
        have HSC : Hid (Dk.SlI w5.heap.size w5 Ac k Cc Lc) := sC
        have HU5 : Hid (Below w.heap.size w w5) := Dk.up_call HUS.out (Dk.up_call HU4.out u5)
        have HSA5 : Hid (Dk.SlI w5.heap.size w5 Aa k Ca La) := Dk.sli_up HSA4.out u5
        have HSB5 : Hid (Dk.SlI w5.heap.size w5 Ab k Cb Lb) := Dk.sli_up HSB.out u5
        have cc1 := sC.cap
        have cc2 := sC.max
        unfold maxLen at cc2
        clear gC sC u5 K3 HSA4 HSB HK HU3 HU4 HUS
        have y0 : ((k : Int) != (k : Int)) = false := by simp
        have HLa : Hid (La.length = k) := HSA5.out.len
        have HLb : Hid (Lb.length = k) := HSB5.out.len
        have HLowA : Hid (∀ j, j < k → 0 ≤ La.getD j 0) := fun j hj => HGA.out.down.low j (by rw [HDl.out]; exact hj)
        have HLowB : Hid (∀ j, j < k → 0 ≤ Lb.getD j 0) := fun j hj => HGB.out.down.low j (by rw [HDl.out]; exact hj)
        have HSumA : Hid (∀ j, 0 ≤ (La.take j).sum ∧ (La.take j).sum ≤ 64) := fun j => by
          have h1 := Dk.sum_take_pos La j (fun q hq => HLowA.out q (by rw [← HLa.out]; exact hq))
          have h2 := HGA.out.sum
          omega
        have HSumB : Hid (∀ j, 0 ≤ (Lb.take j).sum ∧ (Lb.take j).sum ≤ 64) := fun j => by
          have h1 := Dk.sum_take_pos Lb j (fun q hq => HLowB.out q (by rw [← HLb.out]; exact hq))
          have h2 := HGB.out.sum
          omega
        have HMore : Hid (∀ j, j < k → La.getD j 0 ≤ Lc.getD j 0) := fun j hj => HGA.out.more HGC.out (by omega) j (by rw [HDl.out]; exact hj)
        have HSame : Hid (La.sum = Lb.sum) := Int.le_antisymm (HGA.out.sum_le HGB.out) (HGB.out.sum_le HGA.out)
        go_wp2
        go_loopw [16, 17, 18] (fun s t i w' => ∃ j : Nat, j ≤ k ∧ s = .int .i64 (La.take j).sum ∧ t = .int .i64 (Lb.take j).sum ∧ i = .int .i64 j ∧ Hid (Below w5.heap.size w5 w')) (fun s t i w' => k - (intOf i).toNat)
        case atStart => exact ⟨0, Nat.zero_le _, rfl, rfl, rfl, Below.refl _ _⟩
        case round =>
          obtain ⟨j, hj, rfl, rfl, rfl, HB⟩ := hrel
          by_cases hjk : j < k
          · obtain ⟨b1, o1, rfl, r1⟩ := Dk.sli_read HSA5.out j hjk
            obtain ⟨b2, o2, rfl, r2⟩ := Dk.sli_read HSB5.out j hjk
            obtain ⟨b3, o3, rfl, r3⟩ := Dk.sli_read HSC.out j hjk
            have r1' := r1 (wr.drewN 0) (Dk.up_drewN HB.out 0)
            obtain ⟨x, ex⟩ : ∃ x, La.getD j 0 = x := ⟨_, rfl⟩
            obtain ⟨y, ey⟩ : ∃ x, Lb.getD j 0 = x := ⟨_, rfl⟩
            obtain ⟨z, ez⟩ : ∃ x, Lc.getD j 0 = x := ⟨_, rfl⟩
            have r1 := r1 wr HB.out
            have r2 := r2 wr HB.out
            have r3 := r3 wr HB.out
            rw [ex] at r1
            rw [ey] at r2
            rw [ez] at r3
            have hnx := (HSumA.out (j + 1)).2
            have hpx := (HSumA.out j)
            have hny := (HSumB.out (j + 1)).2
            have hpy := (HSumB.out j)
            have hx0 := HLowA.out j hjk
            have hy0 := HLowB.out j hjk
            have hmo := HMore.out j hjk
            rw [ex, ez] at hmo
            rw [ex] at hx0
            rw [ey] at hy0
            have HNx : Hid ((La.take (j + 1)).sum = (La.take j).sum + x) := by
              have h := Dk.sum_take_more La j (by rw [HLa.out]; exact hjk)
              rw [ex] at h
              exact h
            have HNy : Hid ((Lb.take (j + 1)).sum = (Lb.take j).sum + y) := by
              have h := Dk.sum_take_more Lb j (by rw [HLb.out]; exact hjk)
              rw [ey] at h
              exact h
            rw [HNx.out] at hnx
            rw [HNy.out] at hny
            obtain ⟨S, eS⟩ : ∃ S, (La.take j).sum = S := ⟨_, rfl⟩
            obtain ⟨T, eT⟩ : ∃ S, (Lb.take j).sum = S := ⟨_, rfl⟩
            rw [eS] at hnx hpx HNx ⊢
            rw [eT] at hny hpy HNy ⊢
            obtain ⟨hp1', hp2'⟩ := hpx
            obtain ⟨hq1', hq2'⟩ := hpy
            have z1 : decide (z < x) = false := decide_eq_false (by omega)
            clear ex ey ez eS eT r1'
            go_wp2
            go_quiet (fail)
            go_wp2
            go_quiet (fail)
            go_wp2
            go_roundw
            case rel => exact ⟨j + 1, by omega, by rw [HNx.out], by rw [HNy.out], by go_num, Dk.up_drewN HB.out _⟩
            case measure => simp [intOf]; omega
          · have ejk : j = k := by omega
            have eTa : (La.take j).sum = La.sum := by rw [ejk, ← HLa.out, List.take_length]
            have eTb : (Lb.take j).sum = La.sum := by rw [ejk, ← HLb.out, List.take_length]; exact HSame.out.symm
            rw [eTa, eTb]
            generalize La.sum = S
            have z1 : (S == S) = true := by simp
            clear eTa eTb ejk
            go_wp2_with fail
            refine (awake_any _).mono ?_
            rintro e w6 ⟨rfl, u6⟩
            go_wp2
            go_ret
            exact ⟨rfl, Dk.up_call (Dk.up_call HU5.out HB.out) u6⟩
end Go.Proofs.Ytihikekhfbpnaaa
