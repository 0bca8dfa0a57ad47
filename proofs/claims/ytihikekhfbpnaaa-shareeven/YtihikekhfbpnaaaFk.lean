/- The walk of the statement on what is even. -/
import Derived.Test.YtihikekhfbpnaaaFi
namespace Go.Proofs.Ytihikekhfbpnaaa
set_option linter.unusedSimpArgs false
set_option linter.unusedVariables false
set_option linter.unnecessarySimpa false
open Go.RowKit Go.Lib

set_option maxRecDepth 100000 in
set_option maxHeartbeats 1000000 in
theorem ShareEven_any (procs : Nat) (hpr : procs < 256) (A1 : Option Addr) (n1 C1 : Nat) (ds : List Int) (A2 : Option Addr) (n2 C2 : Nat) (ps : List Nat) (turn : Int) (htu : Dk.i64 turn) (w : World)
    (hd : Dk.Row 1 0 (Dk.IsInt .i8) w.heap.size w A1 n1 C1 ds) (hp : Dk.Row 1 0 Dk.IsByte w.heap.size w A2 n2 C2 ps) :
    Calls Try.prog 4 #[.int .u8 (procs : Nat), .slice A1 n1 C1, .slice A2 n2 C2, .int .i64 turn] w fun e w' => e = .returned (.bool true) ∧ Below w.heap.size w w' := by
  have hd1 := hd.cap
  have hd2 := hd.max
  have hp1 := hp.cap
  have hp2 := hp.max
  unfold maxLen at hd2 hp2
  obtain ⟨W1, e1⟩ : ∃ W1, W1 = w.alloc (.cells #[] 3) := ⟨_, rfl⟩
  obtain ⟨W2, e2⟩ : ∃ W2, W2 = W1.alloc (.cells #[] 3) := ⟨_, rfl⟩
  have s1 := Dk.Sep.empty (e := 3) (s := 1) (Dk.Sep.begin (Below.refl w.heap.size w)) e1
  have s2 := Dk.Sep.empty (e := 3) (s := 1) s1 e2
  have z1 : W1.heap.size = w.heap.size + 1 := by rw [e1]; simp
  rw [z1] at s2
  have HE1 : Hid _ := e1.symm
  have HE2 : Hid _ := e2.symm
  have HZ1 : Hid _ := z1
  have HD : Hid _ := hd
  have HP : Hid _ := hp
  have HDL : Hid _ := hd.len
  have HPL : Hid _ := hp.len
  clear e1 e2 s1 z1 hd hp
  go_enter Try.func4, Try.ntmps4
  go_wp2_with (first | (rw [HE1.out]; clear HE1) | (rw [HE2.out]; clear HE2))
  go_loopw [9, 10, 11] (fun vd vp i w' => ∃ k : Nat, k ≤ n1 ∧ k ≤ n2 ∧ k ≤ 8 ∧ i = .int .i64 k ∧ Dk.Sep w w' [Dk.rowOf 3 1 vd k (Dk.is (ds.take k)), Dk.rowOf 3 1 vp k (Dk.is ((ps.take k).map fun x => ((x % 8 : Nat) : Int)))]) (fun vd vp i w' => 8 - (intOf i).toNat)
  case atStart => exact ⟨0, Nat.zero_le _, Nat.zero_le _, Nat.zero_le _, rfl, by rw [HZ1.out]; exact s2.perm (List.Perm.swap _ _ _)⟩
  case round =>
    clear s2
    obtain ⟨k, hk1, hk2, hk8, rfl, hS⟩ := hrel
    by_cases hc : k < n1 ∧ k < n2 ∧ k < 8
    · obtain ⟨c1, c2, c3⟩ := hc
      obtain ⟨b1, o1, rfl, hb1, hx⟩ := Dk.i8_cell HD.out (by omega)
      obtain ⟨b2, o2, rfl, hb2, hy⟩ := Dk.u8_cell HP.out (by omega)
      obtain ⟨x, ex⟩ : ∃ x, ds.getD k 0 = x := ⟨_, rfl⟩
      obtain ⟨y, ey⟩ : ∃ y, ps.getD k 0 = y := ⟨_, rfl⟩
      have CX : ∀ w', Below w.heap.size w w' → w'.cell? ⟨b1, o1 + k, none⟩ = some (.int .i8 x) := fun w' u => by rw [u.cell (by show b1 < w.heap.size; exact hb1), ← ex]; exact (hx k c1).1
      have CY : ∀ w', Below w.heap.size w w' → w'.cell? ⟨b2, o2 + k, none⟩ = some (.int .u8 (y : Nat)) := fun w' u => by rw [u.cell (by show b2 < w.heap.size; exact hb2), ← ey]; exact (hy k c2).1
      have hx8 := (hx k c1).2
      have hy8 := (hy k c2).2
      rw [ex] at hx8
      rw [ey] at hy8
      obtain ⟨hx1, hx2⟩ := hx8
      have HTd : Hid (ds.take (k + 1) = ds.take k ++ [x]) := by
        have h := Dk.take_more ds k (by rw [HDL.out]; exact c1) 0
        rw [ex] at h
        exact h
      have HTp : Hid ((ps.take (k + 1)).map (fun x => ((x % 8 : Nat) : Int)) = (ps.take k).map (fun x => ((x % 8 : Nat) : Int)) ++ [((y % 8 : Nat) : Int)]) := by
        have h := Dk.take_more ps k (by rw [HPL.out]; exact c2) 0
        rw [ey] at h
        rw [h, List.map_append]
        rfl
      clear hx hy ex ey
      obtain ⟨z, ez⟩ : ∃ z, y % 8 = z := ⟨_, rfl⟩
      rw [ez] at HTp
      have hz8 : z < 8 := by omega
      have hy7 : ((y : Int) % 8) = (z : Int) := by omega
      have hy6 : ((y : Int).tmod 8) = (z : Int) := by rw [Int.tmod_eq_emod_of_nonneg (by omega)]; exact hy7
      clear ez
      have hS' := hS.below (w' := wr.drew) (Dk.up_drew (Below.refl _ _))
      go_wp2
      refine Dk.wp_region_tree (S := Below w.heap.size w) [] [0, 1, 2, 3, 4, 5, 8, 9, 10, 11, 12, 13, 14] [] 6 (by kernel_rfl) (by kernel_rfl) (by kernel_rfl) (by kernel_rfl) rfl hS'.out _ ?_ (fun a' h => h)
      refine Dk.held_step (v := u9) rfl rfl (fun w' hw' => by go_simp) ?_
      simp only [Act.put, List.setIfInBounds_toArray, List.set_cons_succ, List.set_cons_zero]
      refine Dk.held_step (v := .slice (some ⟨b1, o1, none⟩) n1 C1) rfl rfl (fun w' hw' => by go_simp) ?_
      simp only [Act.put, List.setIfInBounds_toArray, List.set_cons_succ, List.set_cons_zero]
      refine Dk.held_step (v := .int .i64 (k : Int)) rfl rfl (fun w' hw' => by go_simp) ?_
      simp only [Act.put, List.setIfInBounds_toArray, List.set_cons_succ, List.set_cons_zero]
      refine Dk.held_step (v := .pointer (some ⟨b1, o1 + k, none⟩)) rfl rfl (fun w' hw' => by go_simp) ?_
      simp only [Act.put, List.setIfInBounds_toArray, List.set_cons_succ, List.set_cons_zero]
      refine Dk.held_step (v := .int .i8 x) rfl rfl (fun w' hw' => by have c := CX _ hw'; go_simp) ?_
      simp only [Act.put, List.setIfInBounds_toArray, List.set_cons_succ, List.set_cons_zero]
      refine Dk.held_step (v := .int .i64 x) rfl rfl (fun w' hw' => by go_simp; go_bits; trivial) ?_
      simp only [Act.put, List.setIfInBounds_toArray, List.set_cons_succ, List.set_cons_zero]
      refine Dk.held_step (v := u10) rfl rfl (fun w' hw' => by go_simp) ?_
      simp only [Act.put, List.setIfInBounds_toArray, List.set_cons_succ, List.set_cons_zero]
      refine Dk.held_step (v := .slice (some ⟨b2, o2, none⟩) n2 C2) rfl rfl (fun w' hw' => by go_simp) ?_
      simp only [Act.put, List.setIfInBounds_toArray, List.set_cons_succ, List.set_cons_zero]
      refine Dk.held_step (v := .int .i64 (k : Int)) rfl rfl (fun w' hw' => by go_simp) ?_
      simp only [Act.put, List.setIfInBounds_toArray, List.set_cons_succ, List.set_cons_zero]
      refine Dk.held_step (v := .pointer (some ⟨b2, o2 + k, none⟩)) rfl rfl (fun w' hw' => by go_simp) ?_
      simp only [Act.put, List.setIfInBounds_toArray, List.set_cons_succ, List.set_cons_zero]
      refine Dk.held_step (v := .int .u8 (y : Nat)) rfl rfl (fun w' hw' => by have c := CY _ hw'; go_simp) ?_
      simp only [Act.put, List.setIfInBounds_toArray, List.set_cons_succ, List.set_cons_zero]
      refine Dk.held_step (v := .int .u8 (z : Int)) rfl rfl (fun w' hw' => by go_simp) ?_
      simp only [Act.put, List.setIfInBounds_toArray, List.set_cons_succ, List.set_cons_zero]
      refine Dk.held_step (v := .int .i64 (z : Int)) rfl rfl (fun w' hw' => by go_simp; go_bits; trivial) ?_
      simp only [Act.put, List.setIfInBounds_toArray, List.set_cons_succ, List.set_cons_zero]
      refine Dk.nameY (fun a0 hA => ?_)
      have hsz : a0.tmps.size = 194 := by rw [← hA]; rfl
      have e36 : a0.eval (.tmp 36) = u9 := by rw [← hA]; rfl
      have e44 : a0.eval (.tmp 44) = u10 := by rw [← hA]; rfl
      have e41 : a0.eval (.tmp 41) = .int .i64 x := by rw [← hA]; rfl
      have e50 : a0.eval (.tmp 50) = .int .i64 (z : Int) := by rw [← hA]; rfl
      have HA : Hid (_ = a0) := hA
      clear hA
      refine Dk.chains K22 [⟨6, 7, 42, 43, u9, k, Dk.is (ds.take k), .int .i64 x⟩, ⟨15, 16, 51, 52, u10, k, Dk.is ((ps.take k).map fun x => ((x % 8 : Nat) : Int)), .int .i64 (z : Int)⟩] a0 _ [42, 51, 43, 52] rfl (by decide) (fun d hd => by simp at hd; omega) ?_ (by kernel_rfl) (fun w' u => u) (js := [17, 18]) (by kernel_rfl) (by kernel_rfl) ?_ wr.drew hS'
      · intro c hc
        simp only [List.mem_cons, List.not_mem_nil, or_false] at hc
        rcases hc with rfl | rfl
        · exact ⟨⟨_, rfl, rfl, rfl, fun a w hs => by have e := (hs.eval 41 (by decide)).trans e41; generalize a.eval = ρ at e ⊢; simp [execOp, e, go_sem]⟩, ⟨_, rfl, rfl, rfl, fun a w w' y v' hs hy hr => by have e := (hs.eval 36 (by decide)).trans e36; have hy' : a.eval (.tmp 42) = y := hy; generalize a.eval = ρ at e hy' ⊢; simp [execOp, resolve, invoke, builtin, e, hy', hr, Result.andThen]⟩, rfl, by show k ≤ 10000; omega⟩
        · exact ⟨⟨_, rfl, rfl, rfl, fun a w hs => by have e := (hs.eval 50 (by decide)).trans e50; generalize a.eval = ρ at e ⊢; simp [execOp, e, go_sem]⟩, ⟨_, rfl, rfl, rfl, fun a w w' y v' hs hy hr => by have e := (hs.eval 44 (by decide)).trans e44; have hy' : a.eval (.tmp 51) = y := hy; generalize a.eval = ρ at e hy' ⊢; simp [execOp, resolve, invoke, builtin, e, hy', hr, Result.andThen]⟩, rfl, by show k ≤ 10000; omega⟩
      · rintro a V ⟨hsame, tss, htl, hone, hsep⟩
        obtain ⟨t1, t2, rfl⟩ : ∃ t1 t2, tss = [t1, t2] := by
          match tss, htl with
          | [t1, t2], _ => exact ⟨t1, t2, rfl⟩
        obtain ⟨v1, f1, g1, rfl⟩ : ∃ v, a.eval (.tmp 43) = v ∧ v ≠ .slice none 0 0 ∧ t1 = [Dk.rowOf 3 1 v (k + 1) (Dk.is (ds.take k) ++ [.int .i64 x])] := by
          rcases hone 0 (by simp) (by simp) with ⟨h, _⟩ | ⟨h, _⟩ | ⟨_, h⟩
          · exact absurd h (by simp)
          · exact absurd h (by simp)
          · exact h
        obtain ⟨v2, f2, g2, rfl⟩ : ∃ v, a.eval (.tmp 52) = v ∧ v ≠ .slice none 0 0 ∧ t2 = [Dk.rowOf 3 1 v (k + 1) (Dk.is ((ps.take k).map fun x => ((x % 8 : Nat) : Int)) ++ [.int .i64 (z : Int)])] := by
          rcases hone 1 (by simp) (by simp) with ⟨h, _⟩ | ⟨h, _⟩ | ⟨_, h⟩
          · exact absurd h (by simp)
          · exact absurd h (by simp)
          · exact h
        have hs3 : Dk.Sep w V [Dk.rowOf 3 1 v1 (k + 1) (Dk.is (ds.take (k + 1))), Dk.rowOf 3 1 v2 (k + 1) (Dk.is ((ps.take (k + 1)).map fun x => ((x % 8 : Nat) : Int)))] := by
          rw [HTd.out, HTp.out]
          simpa [Dk.is] using hsep
        refine Dk.lineY_step (v := v1) (w' := V) (some 9) rfl rfl rfl (by generalize a.eval = ρ at f1 ⊢; simp [execOp, f1, go_sem]) (fun _ => hs3.out) ?_
        have f3 : (a.put (some 9) v1).eval (.tmp 52) = v2 := by
          rw [Dk.eval_put _ _ _ _ (by rw [hsame.size, hsz]; decide), if_neg (by decide)]
          exact f2
        refine Dk.lineY_step (v := v2) (w' := V) (some 10) rfl rfl rfl (by generalize (a.put (some 9) v1).eval = ρ at f3 ⊢; simp [execOp, f3, go_sem]) (fun _ => hs3.out) ?_
        clear f3
        have ea := hsame.fold (fun d hd => by simp at hd; omega)
        simp only [List.foldl_cons, List.foldl_nil, f1, f2] at ea
        generalize a.eval (.tmp 42) = y1 at ea
        generalize a.eval (.tmp 51) = y2 at ea
        subst ea
        rw [← HA.out]
        clear HA hsame hone f1 f2 hsep e36 e44 e41 e50 hsz g1 g2 htl
        show NoPanic _ Exit.normal _ _
        refine NoPanic.normal ?_
        simp only [Act.put, List.setIfInBounds_toArray, List.set_cons_succ, List.set_cons_zero]
        go_wp2
        go_roundw
        case rel => exact ⟨k + 1, by omega, by omega, by omega, by go_num, hs3⟩
        case measure => simp [intOf]; omega
    · go_upto_region 3 with fail
      go_cut [33] from 20 to 52 (fun v w' => v = .bool false ∧ w' = wr)
      case first =>
        by_cases c1 : k < n1
        · have y1 : decide ((k : Int) < (n1 : Int)) = true := decide_eq_true (by omega)
          by_cases c2 : k < n2
          · have y2 : decide ((k : Int) < (n2 : Int)) = true := decide_eq_true (by omega)
            have y3 : decide ((k : Int) < 8) = false := decide_eq_false (by omega)
            go_wp2_with fail
            go_meet
            exact ⟨rfl, rfl⟩
          · have y2 : decide ((k : Int) < (n2 : Int)) = false := decide_eq_false (by omega)
            go_wp2_with fail
            go_meet
            exact ⟨rfl, rfl⟩
        · have y1 : decide ((k : Int) < (n1 : Int)) = false := decide_eq_false (by omega)
          go_wp2_with fail
          go_meet
          exact ⟨rfl, rfl⟩
      case rest =>
        obtain ⟨rfl, hw⟩ := hcut
        subst wc
        obtain ⟨D, eD⟩ : ∃ D, ds.take k = D := ⟨_, rfl⟩
        obtain ⟨P, eP⟩ : ∃ P, (ps.take k).map (fun x => ((x % 8 : Nat) : Int)) = P := ⟨_, rfl⟩
        rw [eD, eP] at hS
        have hDl : D.length = k := by rw [← eD, List.length_take, HDL.out]; omega
        have hPl : P.length = k := by rw [← eP, List.length_map, List.length_take, HPL.out]; omega
        have hDx : ∀ x ∈ D, Dk.i64 x := fun x hx => by
          rw [← eD] at hx
          obtain ⟨j, hj, rfl⟩ := List.getElem_of_mem (List.mem_of_mem_take hx)
          have hl := HDL.out
          obtain ⟨b, o, _, _, hc⟩ := Dk.i8_cell HD.out (by omega)
          have := (hc j (by omega)).2
          simp [List.getD, hj] at this
          unfold Dk.i64; omega
        have hPx : ∀ x ∈ P, 0 ≤ x ∧ x ≤ 7 := fun x hx => by
          rw [← eP] at hx
          obtain ⟨y, _, rfl⟩ := List.mem_map.1 hx
          omega
        have HPX : Hid (∀ j, j < k → 0 ≤ P.getD j 0 ∧ P.getD j 0 ≤ 7) := fun j hj => hPx _ (Dk.getD_mem (by omega))
        have r1 := hS.row (e := 3) (s := 1) (v := u9) (n := k) (xs := Dk.is D) (by simp)
        have r2 := hS.row (e := 3) (s := 1) (v := u10) (n := k) (xs := Dk.is P) (by simp)
        rw [← hDl] at r1
        rw [← hPl] at r2
        obtain ⟨Ad, Cd, ed, sD⟩ := Dk.owns_ints r1 hDx
        obtain ⟨Ap, Cp, ep, sP⟩ := Dk.owns_ints r2 (fun x hx => by have := hPx x hx; unfold Dk.i64; omega)
        rw [hDl] at ed sD
        rw [hPl] at ep sP
        have uS := hS.out
        obtain ⟨m, em⟩ : ∃ m, procs % 65 = m := ⟨_, rfl⟩
        have hm : m ≤ 64 := by omega
        have hm7 : ((procs : Int) % 65) = (m : Int) := by omega
        have hm6 : ((procs : Int).tmod 65) = (m : Int) := by rw [Int.tmod_eq_emod_of_nonneg (by omega)]; exact hm7
        subst ed
        subst ep
        have K := Fair_yes (m : Int) turn htu Ad Ap k Cd k Cp D P wr sD sP ⟨hPl, hk8, by omega, by omega, fun j hj => HPX.out j hj⟩
        have HSD : Hid _ := sD
        have HSP : Hid _ := sP
        have HUS : Hid _ := uS
        have HDl : Hid _ := hDl
        have HPl : Hid _ := hPl
        have hcd := sD.cap
        have hcd2 := sD.max
        have hcp := sP.cap
        have hcp2 := sP.max
        unfold maxLen at hcd2 hcp2
        clear eD eP hS hDl hPl hDx hPx r1 r2 sD sP uS em hc
        clear HD HP HDL HPL HZ1
        go_wp2_with fail
        refine K.mono ?_
        rintro e w3 ⟨A, C, L, rfl, hG, sL, u3⟩
        have HG : Hid _ := hG
        have HSL : Hid _ := sL
        have HSD3 : Hid (Dk.SlI w3.heap.size w3 Ad k Cd D) := Dk.sli_up HSD.out u3
        have HSP3 : Hid (Dk.SlI w3.heap.size w3 Ap k Cp P) := Dk.sli_up HSP.out u3
        have HU3 : Hid (Below w.heap.size w w3) := Dk.up_call HUS.out u3
        have hcl := sL.cap
        have hcl2 := sL.max
        unfold maxLen at hcl2
        clear hG sL u3 K HSD HSP HUS
        have y0 : ((k : Int) != (k : Int)) = false := by simp
        have HLl : Hid (L.length = k) := HSL.out.len
        have HLow : Hid (∀ j, j < k → 0 ≤ L.getD j 0) := fun j hj => HG.out.down.low j (by rw [HDl.out]; exact hj)
        have HSum : Hid (∀ j, 0 ≤ (L.take j).sum ∧ (L.take j).sum ≤ 64) := fun j => by
          have h1 := Dk.sum_take_pos L j (fun q hq => HLow.out q (by rw [← HLl.out]; exact hq))
          have h2 := HG.out.sum
          omega
        go_wp2
        go_loopw [14, 15] (fun s i w' => ∃ j : Nat, j ≤ k ∧ s = .int .i64 (L.take j).sum ∧ i = .int .i64 j ∧ Hid (Below w3.heap.size w3 w')) (fun s i w' => k - (intOf i).toNat)
        case atStart => exact ⟨0, Nat.zero_le _, rfl, rfl, Below.refl _ _⟩
        case round =>
          obtain ⟨j, hj, rfl, rfl, HB⟩ := hrel
          by_cases hjk : j < k
          · obtain ⟨b1, o1, rfl, r1⟩ := Dk.sli_read HSL.out j hjk
            obtain ⟨b2, o2, rfl, r2⟩ := Dk.sli_read HSD3.out j hjk
            obtain ⟨x, ex⟩ : ∃ x, L.getD j 0 = x := ⟨_, rfl⟩
            obtain ⟨d, ed⟩ : ∃ d, D.getD j 0 = d := ⟨_, rfl⟩
            have r1 := r1 wr HB.out
            have r2 := r2 wr HB.out
            rw [ex] at r1
            rw [ed] at r2
            have hx0 := HLow.out j hjk
            rw [ex] at hx0
            have hnx := (HSum.out (j + 1)).2
            have hpx := (HSum.out j)
            rw [Dk.sum_take_more L j (by rw [HLl.out]; exact hjk), ex] at hnx
            have HN : Hid ((L.take (j + 1)).sum = (L.take j).sum + x) := by
              have h := Dk.sum_take_more L j (by rw [HLl.out]; exact hjk)
              rw [ex] at h
              exact h
            obtain ⟨S, eS⟩ : ∃ S, (L.take j).sum = S := ⟨_, rfl⟩
            rw [eS] at hnx hpx HN ⊢
            obtain ⟨hp1', hp2'⟩ := hpx
            have hxd : 0 < x → x ≤ d := fun h => by
              have := HG.out.down.top j (by rw [HDl.out]; exact hjk)
              rw [ex, ed] at this
              exact this h
            have z1 : decide (x < 0) = false := decide_eq_false (by omega)
            clear ex ed eS
            by_cases h0 : 0 < x
            · have z2 : decide (0 < x) = true := decide_eq_true h0
              have z3 : decide (d < x) = false := decide_eq_false (by have := hxd h0; omega)
              clear hxd
              go_wp2
              go_quiet (fail)
              go_wp2
              go_roundw
              case rel => exact ⟨j + 1, by omega, by rw [HN.out], by go_num, Dk.up_drewN HB.out nq⟩
              case measure => simp [intOf]; omega
            · have z2 : decide (0 < x) = false := decide_eq_false h0
              clear hxd
              go_wp2
              go_quiet (fail)
              go_wp2
              go_roundw
              case rel => exact ⟨j + 1, by omega, by rw [HN.out], by go_num, Dk.up_drewN HB.out nq⟩
              case measure => simp [intOf]; omega
          · have ejk : j = k := by omega
            have eT : (L.take j).sum = L.sum := by rw [ejk, ← HLl.out, List.take_length]
            rw [eT]
            have hs0 := HSum.out k
            rw [← ejk, eT] at hs0
            have hsm := HG.out.sum
            have HFull : Hid (∀ j, j < k → L.getD j 0 < D.getD j 0 → L.sum = (m : Int)) := fun j hj h => HG.out.full j (by rw [HDl.out]; exact hj) h
            obtain ⟨S, eS⟩ : ∃ S, L.sum = S := ⟨_, rfl⟩
            rw [eS] at hs0 hsm HFull ⊢
            obtain ⟨hs1, hs2⟩ := hs0
            clear eT eS ejk
            go_wp2
            generalize ew : wr = wa at *
            clear ew
            go_loopw [16] (fun i w' => ∃ q : Nat, q ≤ k ∧ i = .int .i64 q ∧ Hid (Below w3.heap.size w3 w')) (fun i w' => k - (intOf i).toNat)
            case atStart => exact ⟨0, Nat.zero_le _, rfl, HB.out⟩
            case round =>
              obtain ⟨q, hq, rfl, HBq⟩ := hrel
              by_cases hqk : q < k
              · obtain ⟨bl, ol, rfl, rl⟩ := Dk.sli_read HSL.out q hqk
                obtain ⟨bd, od, rfl, rd⟩ := Dk.sli_read HSD3.out q hqk
                obtain ⟨bp, op, rfl, rp⟩ := Dk.sli_read HSP3.out q hqk
                obtain ⟨li, eli⟩ : ∃ x, L.getD q 0 = x := ⟨_, rfl⟩
                obtain ⟨di, edi⟩ : ∃ x, D.getD q 0 = x := ⟨_, rfl⟩
                obtain ⟨pi, epi⟩ : ∃ x, P.getD q 0 = x := ⟨_, rfl⟩
                rw [eli] at rl
                rw [edi] at rd
                rw [epi] at rp
                have hli0 := HLow.out q hqk
                rw [eli] at hli0
                have hS1 : li < di → S = (m : Int) := fun h => HFull.out q hqk (by rw [eli, edi]; exact h)
                have hli64 : li ≤ 64 := by
                  have h1 := (HSum.out (q + 1)).2
                  have h2 := (HSum.out q).1
                  rw [Dk.sum_take_more L q (by rw [HLl.out]; exact hqk), eli] at h1
                  omega
                have HLI : Hid (L.getD q 0 = li) := eli
                have HDI : Hid (D.getD q 0 = di) := edi
                have HPI : Hid (P.getD q 0 = pi) := epi
                have HRl : Hid (∀ (w' : World), Below w3.heap.size w3 w' → w'.cell? ⟨bl, ol + q, none⟩ = some (Value.int IntKind.i64 li)) := rl
                have HRd : Hid (∀ (w' : World), Below w3.heap.size w3 w' → w'.cell? ⟨bd, od + q, none⟩ = some (Value.int IntKind.i64 di)) := rd
                have HRp : Hid (∀ (w' : World), Below w3.heap.size w3 w' → w'.cell? ⟨bp, op + q, none⟩ = some (Value.int IntKind.i64 pi)) := rp
                have q1 := rl wr HBq.out
                have q2 := rd wr HBq.out
                clear rl rd rp eli edi epi
                by_cases hlt : li < di
                · have z1 : decide (li < di) = true := decide_eq_true hlt
                  have z2 : decide (S < (m : Int)) = false := decide_eq_false (by have := hS1 hlt; omega)
                  clear hS1
                  go_wp2
                  go_quiet (fail)
                  go_wp2
                  generalize ewb : wr.drewN nq = wb at *
                  have HBb : Hid (Below w3.heap.size w3 wb) := ewb ▸ Dk.up_drewN HBq.out nq
                  clear ewb q1 q2
                  go_loopw [17] (fun i w' => ∃ g : Nat, g ≤ k ∧ i = .int .i64 g ∧ Hid (Below w3.heap.size w3 w')) (fun i w' => k - (intOf i).toNat)
                  case atStart => exact ⟨0, Nat.zero_le _, rfl, HBb.out⟩
                  case round =>
                    obtain ⟨g, hg, rfl, HBg⟩ := hrel
                    by_cases hgk : g < k
                    · obtain ⟨bl', ol', el, rlg⟩ := Dk.sli_read HSL.out g hgk
                      injection Option.some.inj el with el1 el2 _
                      subst el1
                      subst el2
                      obtain ⟨bp', op', ep, rpg⟩ := Dk.sli_read HSP3.out g hgk
                      injection Option.some.inj ep with ep1 ep2 _
                      subst ep1
                      subst ep2
                      have q1 := HRl.out wr HBg.out
                      have q2 := HRd.out wr HBg.out
                      have q3 := HRp.out wr HBg.out
                      have q4 := rlg wr HBg.out
                      have q5 := rpg wr HBg.out
                      obtain ⟨lk, elk⟩ : ∃ x, L.getD g 0 = x := ⟨_, rfl⟩
                      obtain ⟨pk, epk⟩ : ∃ x, P.getD g 0 = x := ⟨_, rfl⟩
                      rw [elk] at q4
                      rw [epk] at q5
                      have hkey : 0 < lk → Dk.ahead P (Dk.turnOf turn k) D.length g (lk - 1) q li := fun h => by
                        have := HG.out.down.key g q (by rw [HDl.out]; exact hgk) (by rw [HDl.out]; exact hqk) (by rw [elk]; exact h) (by rw [HLI.out, HDI.out]; exact hlt)
                        rw [elk, HLI.out] at this
                        exact this
                      unfold Dk.ahead at hkey
                      rw [epk, HPI.out] at hkey
                      clear rlg rpg elk epk el ep
                      by_cases hpe : pi = pk
                      · have z3 : (pi == pk) = true := by simp; exact hpe
                        have z5 : decide (pk < pi) = false := decide_eq_false (by omega)
                        have z4 : decide (li + 1 < lk) = false := decide_eq_false (fun h => by have := hkey (by omega); omega)
                        clear hkey hpe
                        go_wp2
                        go_quiet (fail)
                        go_wp2
                        go_roundw
                        case rel => exact ⟨g + 1, by omega, by go_num, Dk.up_drewN HBg.out _⟩
                        case measure => simp [intOf]; omega
                      · have z3 : (pi == pk) = false := by simp; exact hpe
                        by_cases hpp : pk < pi
                        · have z5 : decide (pk < pi) = true := decide_eq_true hpp
                          have z6 : decide (0 < lk) = false := decide_eq_false (fun h => by have := hkey h; omega)
                          clear hkey
                          go_wp2
                          go_quiet (fail)
                          go_wp2
                          go_roundw
                          case rel => exact ⟨g + 1, by omega, by go_num, Dk.up_drewN HBg.out _⟩
                          case measure => simp [intOf]; omega
                        · have z5 : decide (pk < pi) = false := decide_eq_false hpp
                          clear hkey
                          go_wp2
                          go_quiet (fail)
                          go_wp2
                          go_roundw
                          case rel => exact ⟨g + 1, by omega, by go_num, Dk.up_drewN HBg.out _⟩
                          case measure => simp [intOf]; omega
                    · go_wp2
                      go_roundw
                      case rel => exact ⟨q + 1, by omega, by go_num, HBg.out⟩
                      case measure => simp [intOf]; omega
                · have z1 : decide (li < di) = false := decide_eq_false hlt
                  clear hS1
                  go_wp2
                  go_quiet (fail)
                  go_wp2
                  generalize ewb : wr.drewN nq = wb at *
                  have HBb : Hid (Below w3.heap.size w3 wb) := ewb ▸ Dk.up_drewN HBq.out nq
                  clear ewb q1 q2
                  go_loopw [17] (fun i w' => ∃ g : Nat, g ≤ k ∧ i = .int .i64 g ∧ Hid (Below w3.heap.size w3 w')) (fun i w' => k - (intOf i).toNat)
                  case atStart => exact ⟨0, Nat.zero_le _, rfl, HBb.out⟩
                  case round =>
                    obtain ⟨g, hg, rfl, HBg⟩ := hrel
                    by_cases hgk : g < k
                    · obtain ⟨bl', ol', el, rlg⟩ := Dk.sli_read HSL.out g hgk
                      injection Option.some.inj el with el1 el2 _
                      subst el1
                      subst el2
                      obtain ⟨bp', op', ep, rpg⟩ := Dk.sli_read HSP3.out g hgk
                      injection Option.some.inj ep with ep1 ep2 _
                      subst ep1
                      subst ep2
                      have q1 := HRl.out wr HBg.out
                      have q2 := HRd.out wr HBg.out
                      have q3 := HRp.out wr HBg.out
                      have q4 := rlg wr HBg.out
                      have q5 := rpg wr HBg.out
                      obtain ⟨lk, elk⟩ : ∃ x, L.getD g 0 = x := ⟨_, rfl⟩
                      obtain ⟨pk, epk⟩ : ∃ x, P.getD g 0 = x := ⟨_, rfl⟩
                      rw [elk] at q4
                      rw [epk] at q5
                      clear rlg rpg elk epk el ep
                      by_cases hpe : pi = pk
                      · have z3 : (pi == pk) = true := by simp; exact hpe
                        have z5 : decide (pk < pi) = false := decide_eq_false (by omega)
                        clear hpe
                        go_wp2
                        go_quiet (fail)
                        go_wp2
                        go_roundw
                        case rel => exact ⟨g + 1, by omega, by go_num, Dk.up_drewN HBg.out _⟩
                        case measure => simp [intOf]; omega
                      · have z3 : (pi == pk) = false := by simp; exact hpe
                        by_cases hpp : pk < pi
                        · have z5 : decide (pk < pi) = true := decide_eq_true hpp
                          go_wp2
                          go_quiet (fail)
                          go_wp2
                          go_roundw
                          case rel => exact ⟨g + 1, by omega, by go_num, Dk.up_drewN HBg.out _⟩
                          case measure => simp [intOf]; omega
                        · have z5 : decide (pk < pi) = false := decide_eq_false hpp
                          go_wp2
                          go_quiet (fail)
                          go_wp2
                          go_roundw
                          case rel => exact ⟨g + 1, by omega, by go_num, Dk.up_drewN HBg.out _⟩
                          case measure => simp [intOf]; omega
                    · go_wp2
                      go_roundw
                      case rel => exact ⟨q + 1, by omega, by go_num, HBg.out⟩
                      case measure => simp [intOf]; omega
              · clear HLow
                go_wp2_with fail
                refine (awake_any _).mono ?_
                rintro e w4 ⟨rfl, u4⟩
                have z1 : decide (S ≤ (m : Int)) = true := decide_eq_true (by omega)
                go_wp2
                go_ret
                exact ⟨rfl, Dk.up_call (Dk.up_call HU3.out HBq.out) u4⟩
end Go.Proofs.Ytihikekhfbpnaaa
