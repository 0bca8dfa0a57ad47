/- The walk of the statement on who wants more. -/
import Derived.Test.YtihikekhfbpnaaaFi
namespace Dk
set_option linter.unusedSimpArgs false
set_option linter.unusedVariables false
set_option linter.unnecessarySimpa false
open Go Go.RowKit
/-- An element of a row is written. -/
theorem Sep.setAt {W w : World} {e : TypeId} {n j : Nat} {v : Value} {xs : List Value} {us1 us2 : List Thing} (h : Sep W w (us1 ++ rowOf e 1 v n xs :: us2)) (hj : j < n) :
    ∃ g C, v = .slice (some ⟨g, 0, none⟩) n C ∧ n ≤ C ∧ C ≤ maxLen ∧ w.frozen? ⟨g, j, none⟩ = false ∧ (∀ u, xs[j]? = some u → w.cell? ⟨g, j, none⟩ = some u) ∧ ∀ u, Sep W (w.setCell ⟨g, j, none⟩ u) (us1 ++ rowOf e 1 v n (xs.set j u) :: us2) := by
  have hr := h.get (t := rowOf e 1 v n xs) (by simp)
  obtain ⟨hl, ⟨_, h0⟩ | ⟨g, cap, cur, rfl, hb, hg, hn, hm, hs, ht⟩⟩ := id hr
  · omega
  have hbx : Box w g cur e := ⟨hg⟩
  refine ⟨g, cap, rfl, hn, hm, hbx.frozen j, fun u hu => ?_, fun u => ?_⟩
  · rw [hbx.cell, ← Array.getElem?_toList]
    have h1 : (cur.toList.take (n * 1))[j]? = cur.toList[j]? := by rw [List.getElem?_take, if_pos (by omega)]
    rw [← h1, ht]
    exact hu
  · refine h.turn ((Away.refl (rowOf e 1 (.slice (some ⟨g, 0, none⟩) n cap) n xs).own w).set (.inl rfl) _ _) ?_ (fun k hk => .inl hk)
    refine ⟨by simpa using hl, .inr ⟨g, cap, cur.setIfInBounds j u, rfl, hb, (hbx.set j u).heap, hn, hm, by simpa using hs, ?_⟩⟩
    rw [Array.toList_setIfInBounds, List.take_set, ht]
end Dk
namespace Go.Proofs.Ytihikekhfbpnaaa
set_option linter.unusedSimpArgs false
set_option linter.unusedVariables false
set_option linter.unnecessarySimpa false
open Go.RowKit Go.Lib

set_option maxRecDepth 100000 in
set_option maxHeartbeats 2000000 in
theorem ShareMore_any (procs : Nat) (hpr : procs < 256) (A1 : Option Addr) (n1 C1 : Nat) (ds : List Int) (A2 : Option Addr) (n2 C2 : Nat) (ps : List Nat) (turn : Int) (htu : Dk.i64 turn) (who more : Nat) (hwh : who < 256) (hmo : more < 256) (w : World)
    (hd : Dk.Row 1 0 (Dk.IsInt .i8) w.heap.size w A1 n1 C1 ds) (hp : Dk.Row 1 0 Dk.IsByte w.heap.size w A2 n2 C2 ps) :
    Calls Try.prog 6 #[.int .u8 (procs : Nat), .slice A1 n1 C1, .slice A2 n2 C2, .int .i64 turn, .int .u8 (who : Nat), .int .u8 (more : Nat)] w fun e w' => e = .returned (.bool true) ∧ Below w.heap.size w w' := by
  have hd1 := hd.cap
  have hd2 := hd.max
  have hp1 := hp.cap
  have hp2 := hp.max
  unfold maxLen at hd2 hp2
  obtain ⟨W1, e1⟩ : ∃ W1, W1 = w.alloc (.cells #[] 3) := ⟨_, rfl⟩
  obtain ⟨W2, e2⟩ : ∃ W2, W2 = W1.alloc (.cells #[] 3) := ⟨_, rfl⟩
  obtain ⟨W3, e3⟩ : ∃ W3, W3 = W2.alloc (.cells #[] 3) := ⟨_, rfl⟩
  have s1 := Dk.Sep.empty (e := 3) (s := 1) (Dk.Sep.begin (Below.refl w.heap.size w)) e1
  have s2 := Dk.Sep.empty (e := 3) (s := 1) s1 e2
  have s3 := Dk.Sep.empty (e := 3) (s := 1) s2 e3
  have z1 : W1.heap.size = w.heap.size + 1 := by rw [e1]; simp
  have z2 : W2.heap.size = w.heap.size + 1 + 1 := by rw [e2, World.size_alloc, z1]
  have s3 := s3.perm (List.reverse_perm _).symm
  have HE1 : Hid _ := e1.symm
  have HE2 : Hid _ := e2.symm
  have HE3 : Hid _ := e3.symm
  have HZ1 : Hid _ := z1
  have HZ2 : Hid _ := z2
  have HD : Hid _ := hd
  have HP : Hid _ := hp
  have HDL : Hid _ := hd.len
  have HPL : Hid _ := hp.len
  clear e1 e2 e3 s1 s2 z1 z2 hd hp
  go_enter Try.func6, Try.ntmps6
  go_wp2_with (first | (rw [HE1.out]; clear HE1) | (rw [HE2.out]; clear HE2) | (rw [HE3.out]; clear HE3))
  go_loopw [13, 14, 15, 16] (fun vd ve vp i w' => ∃ k : Nat, k ≤ n1 ∧ k ≤ n2 ∧ k ≤ 8 ∧ i = .int .i64 k ∧ Dk.Sep w w' [Dk.rowOf 3 1 vd k (Dk.is (ds.take k)), Dk.rowOf 3 1 ve k (Dk.is (ds.take k)), Dk.rowOf 3 1 vp k (Dk.is ((ps.take k).map fun x => ((x % 8 : Nat) : Int)))]) (fun vd ve vp i w' => 8 - (intOf i).toNat)
  case atStart => exact ⟨0, Nat.zero_le _, Nat.zero_le _, Nat.zero_le _, rfl, s3⟩
  case round =>
    clear s3
    obtain ⟨k, hk1, hk2, hk8, rfl, hS⟩ := hrel
    by_cases hc : k < n1 ∧ k < n2 ∧ k < 8
    · obtain ⟨c1, c2, c3⟩ := hc
      obtain ⟨b1, o1, rfl, hb1, hx⟩ := Dk.i8_cell HD.out (by omega)
      obtain ⟨b2, o2, rfl, hb2, hy⟩ := Dk.u8_cell HP.out (by omega)
      obtain ⟨x, ex⟩ : ∃ x, ds.getD k 0 = x := ⟨_, rfl⟩
      obtain ⟨y, ey⟩ : ∃ y, ps.getD k 0 = y := ⟨_, rfl⟩
      have CX : ∀ w', Below w.heap.size w w' → w'.cell? ⟨b1, o1 + k, none⟩ = some (.int .i8 x) := fun w' u => by rw [u.cell (by show b1 < w.heap.size; exact hb1), ← ex]; exact (hx k c1).1
      have CY : ∀ w', Below w.heap.size w w' → w'.cell? ⟨b2, o2 + k, none⟩ = some (.int .u8 (y : Nat)) := fun w' u => by rw [u.cell (by show b2 < w.heap.size; exact hb2), ← ey]; exact (hy k c2).1
      have hx8 := (hx k c1).2
      have hy8 := (hy k c2).2
      rw [ex] at hx8
      rw [ey] at hy8
      obtain ⟨hx1, hx2⟩ := hx8
      have HTd : Hid (ds.take (k + 1) = ds.take k ++ [x]) := by
        have h := Dk.take_more ds k (by rw [HDL.out]; exact c1) 0
        rw [ex] at h
        exact h
      have HTp : Hid ((ps.take (k + 1)).map (fun x => ((x % 8 : Nat) : Int)) = (ps.take k).map (fun x => ((x % 8 : Nat) : Int)) ++ [((y % 8 : Nat) : Int)]) := by
        have h := Dk.take_more ps k (by rw [HPL.out]; exact c2) 0
        rw [ey] at h
        rw [h, List.map_append]
        rfl
      clear hx hy ex ey
      obtain ⟨z, ez⟩ : ∃ z, y % 8 = z := ⟨_, rfl⟩
      rw [ez] at HTp
      have hz8 : z < 8 := by omega
      have hy7 : ((y : Int) % 8) = (z : Int) := by omega
      have hy6 : ((y : Int).tmod 8) = (z : Int) := by rw [Int.tmod_eq_emod_of_nonneg (by omega)]; exact hy7
      clear ez
      have hS' := hS.below (w' := wr.drew) (Dk.up_drew (Below.refl _ _))
      go_wp2
      refine Dk.wp_region_tree (S := Below w.heap.size w) [] [0, 1, 2, 3, 4, 5, 8, 9, 10, 11, 12, 13, 16, 17, 18, 19, 20, 21, 22] [] 9 (by kernel_rfl) (by kernel_rfl) (by kernel_rfl) (by kernel_rfl) rfl hS'.out _ ?_ (fun a' h => h)
      refine Dk.held_step (v := u13) rfl rfl (fun w' hw' => by go_simp) ?_
      simp only [Act.put, List.setIfInBounds_toArray, List.set_cons_succ, List.set_cons_zero]
      refine Dk.held_step (v := .slice (some ⟨b1, o1, none⟩) n1 C1) rfl rfl (fun w' hw' => by go_simp) ?_
      simp only [Act.put, List.setIfInBounds_toArray, List.set_cons_succ, List.set_cons_zero]
      refine Dk.held_step (v := .int .i64 (k : Int)) rfl rfl (fun w' hw' => by go_simp) ?_
      simp only [Act.put, List.setIfInBounds_toArray, List.set_cons_succ, List.set_cons_zero]
      refine Dk.held_step (v := .pointer (some ⟨b1, o1 + k, none⟩)) rfl rfl (fun w' hw' => by go_simp) ?_
      simp only [Act.put, List.setIfInBounds_toArray, List.set_cons_succ, List.set_cons_zero]
      refine Dk.held_step (v := .int .i8 x) rfl rfl (fun w' hw' => by have c := CX _ hw'; go_simp) ?_
      simp only [Act.put, List.setIfInBounds_toArray, List.set_cons_succ, List.set_cons_zero]
      refine Dk.held_step (v := .int .i64 x) rfl rfl (fun w' hw' => by go_simp; go_bits; trivial) ?_
      simp only [Act.put, List.setIfInBounds_toArray, List.set_cons_succ, List.set_cons_zero]
      refine Dk.held_step (v := u14) rfl rfl (fun w' hw' => by go_simp) ?_
      simp only [Act.put, List.setIfInBounds_toArray, List.set_cons_succ, List.set_cons_zero]
      refine Dk.held_step (v := .slice (some ⟨b1, o1, none⟩) n1 C1) rfl rfl (fun w' hw' => by go_simp) ?_
      simp only [Act.put, List.setIfInBounds_toArray, List.set_cons_succ, List.set_cons_zero]
      refine Dk.held_step (v := .int .i64 (k : Int)) rfl rfl (fun w' hw' => by go_simp) ?_
      simp only [Act.put, List.setIfInBounds_toArray, List.set_cons_succ, List.set_cons_zero]
      refine Dk.held_step (v := .pointer (some ⟨b1, o1 + k, none⟩)) rfl rfl (fun w' hw' => by go_simp) ?_
      simp only [Act.put, List.setIfInBounds_toArray, List.set_cons_succ, List.set_cons_zero]
      refine Dk.held_step (v := .int .i8 x) rfl rfl (fun w' hw' => by have c := CX _ hw'; go_simp) ?_
      simp only [Act.put, List.setIfInBounds_toArray, List.set_cons_succ, List.set_cons_zero]
      refine Dk.held_step (v := .int .i64 x) rfl rfl (fun w' hw' => by go_simp; go_bits; trivial) ?_
      simp only [Act.put, List.setIfInBounds_toArray, List.set_cons_succ, List.set_cons_zero]
      refine Dk.held_step (v := u15) rfl rfl (fun w' hw' => by go_simp) ?_
      simp only [Act.put, List.setIfInBounds_toArray, List.set_cons_succ, List.set_cons_zero]
      refine Dk.held_step (v := .slice (some ⟨b2, o2, none⟩) n2 C2) rfl rfl (fun w' hw' => by go_simp) ?_
      simp only [Act.put, List.setIfInBounds_toArray, List.set_cons_succ, List.set_cons_zero]
      refine Dk.held_step (v := .int .i64 (k : Int)) rfl rfl (fun w' hw' => by go_simp) ?_
      simp only [Act.put, List.setIfInBounds_toArray, List.set_cons_succ, List.set_cons_zero]
      refine Dk.held_step (v := .pointer (some ⟨b2, o2 + k, none⟩)) rfl rfl (fun w' hw' => by go_simp) ?_
      simp only [Act.put, List.setIfInBounds_toArray, List.set_cons_succ, List.set_cons_zero]
      refine Dk.held_step (v := .int .u8 (y : Nat)) rfl rfl (fun w' hw' => by have c := CY _ hw'; go_simp) ?_
      simp only [Act.put, List.setIfInBounds_toArray, List.set_cons_succ, List.set_cons_zero]
      refine Dk.held_step (v := .int .u8 (z : Int)) rfl rfl (fun w' hw' => by go_simp) ?_
      simp only [Act.put, List.setIfInBounds_toArray, List.set_cons_succ, List.set_cons_zero]
      refine Dk.held_step (v := .int .i64 (z : Int)) rfl rfl (fun w' hw' => by go_simp; go_bits; trivial) ?_
      simp only [Act.put, List.setIfInBounds_toArray, List.set_cons_succ, List.set_cons_zero]
      refine Dk.nameY (fun a0 hA => ?_)
      have hsz : a0.tmps.size = 145 := by rw [← hA]; rfl
      have e40 : a0.eval (.tmp 40) = u13 := by rw [← hA]; rfl
      have e48 : a0.eval (.tmp 48) = u14 := by rw [← hA]; rfl
      have e56 : a0.eval (.tmp 56) = u15 := by rw [← hA]; rfl
      have e45 : a0.eval (.tmp 45) = .int .i64 x := by rw [← hA]; rfl
      have e53 : a0.eval (.tmp 53) = .int .i64 x := by rw [← hA]; rfl
      have e62 : a0.eval (.tmp 62) = .int .i64 (z : Int) := by rw [← hA]; rfl
      have HA : Hid (_ = a0) := hA
      clear hA
      refine Dk.chains K22 [⟨6, 7, 46, 47, u13, k, Dk.is (ds.take k), .int .i64 x⟩, ⟨14, 15, 54, 55, u14, k, Dk.is (ds.take k), .int .i64 x⟩, ⟨23, 24, 63, 64, u15, k, Dk.is ((ps.take k).map fun x => ((x % 8 : Nat) : Int)), .int .i64 (z : Int)⟩] a0 _ [46, 54, 63, 47, 55, 64] rfl (by decide) (fun d hd => by simp at hd; omega) ?_ (by kernel_rfl) (fun w' u => u) (js := [25, 26, 27]) (by kernel_rfl) (by kernel_rfl) ?_ wr.drew hS'
      · intro c hc
        simp only [List.mem_cons, List.not_mem_nil, or_false] at hc
        rcases hc with rfl | rfl | rfl
        · exact ⟨⟨_, rfl, rfl, rfl, fun a w hs => by have e := (hs.eval 45 (by decide)).trans e45; generalize a.eval = ρ at e ⊢; simp [execOp, e, go_sem]⟩, ⟨_, rfl, rfl, rfl, fun a w w' y v' hs hy hr => by have e := (hs.eval 40 (by decide)).trans e40; have hy' : a.eval (.tmp 46) = y := hy; generalize a.eval = ρ at e hy' ⊢; simp [execOp, resolve, invoke, builtin, e, hy', hr, Result.andThen]⟩, rfl, by show k ≤ 10000; omega⟩
        · exact ⟨⟨_, rfl, rfl, rfl, fun a w hs => by have e := (hs.eval 53 (by decide)).trans e53; generalize a.eval = ρ at e ⊢; simp [execOp, e, go_sem]⟩, ⟨_, rfl, rfl, rfl, fun a w w' y v' hs hy hr => by have e := (hs.eval 48 (by decide)).trans e48; have hy' : a.eval (.tmp 54) = y := hy; generalize a.eval = ρ at e hy' ⊢; simp [execOp, resolve, invoke, builtin, e, hy', hr, Result.andThen]⟩, rfl, by show k ≤ 10000; omega⟩
        · exact ⟨⟨_, rfl, rfl, rfl, fun a w hs => by have e := (hs.eval 62 (by decide)).trans e62; generalize a.eval = ρ at e ⊢; simp [execOp, e, go_sem]⟩, ⟨_, rfl, rfl, rfl, fun a w w' y v' hs hy hr => by have e := (hs.eval 56 (by decide)).trans e56; have hy' : a.eval (.tmp 63) = y := hy; generalize a.eval = ρ at e hy' ⊢; simp [execOp, resolve, invoke, builtin, e, hy', hr, Result.andThen]⟩, rfl, by show k ≤ 10000; omega⟩
      · rintro a V ⟨hsame, tss, htl, hone, hsep⟩
        obtain ⟨t1, t2, t3, rfl⟩ : ∃ t1 t2 t3, tss = [t1, t2, t3] := by
          match tss, htl with
          | [t1, t2, t3], _ => exact ⟨t1, t2, t3, rfl⟩
        obtain ⟨v1, f1, g1, rfl⟩ : ∃ v, a.eval (.tmp 47) = v ∧ v ≠ .slice none 0 0 ∧ t1 = [Dk.rowOf 3 1 v (k + 1) (Dk.is (ds.take k) ++ [.int .i64 x])] := by
          rcases hone 0 (by simp) (by simp) with ⟨h, _⟩ | ⟨h, _⟩ | ⟨_, h⟩
          · exact absurd h (by simp)
          · exact absurd h (by simp)
          · exact h
        obtain ⟨v2, f2, g2, rfl⟩ : ∃ v, a.eval (.tmp 55) = v ∧ v ≠ .slice none 0 0 ∧ t2 = [Dk.rowOf 3 1 v (k + 1) (Dk.is (ds.take k) ++ [.int .i64 x])] := by
          rcases hone 1 (by simp) (by simp) with ⟨h, _⟩ | ⟨h, _⟩ | ⟨_, h⟩
          · exact absurd h (by simp)
          · exact absurd h (by simp)
          · exact h
        obtain ⟨v3, f3, g3, rfl⟩ : ∃ v, a.eval (.tmp 64) = v ∧ v ≠ .slice none 0 0 ∧ t3 = [Dk.rowOf 3 1 v (k + 1) (Dk.is ((ps.take k).map fun x => ((x % 8 : Nat) : Int)) ++ [.int .i64 (z : Int)])] := by
          rcases hone 2 (by simp) (by simp) with ⟨h, _⟩ | ⟨h, _⟩ | ⟨_, h⟩
          · exact absurd h (by simp)
          · exact absurd h (by simp)
          · exact h
        have hs3 : Dk.Sep w V [Dk.rowOf 3 1 v1 (k + 1) (Dk.is (ds.take (k + 1))), Dk.rowOf 3 1 v2 (k + 1) (Dk.is (ds.take (k + 1))), Dk.rowOf 3 1 v3 (k + 1) (Dk.is ((ps.take (k + 1)).map fun x => ((x % 8 : Nat) : Int)))] := by
          rw [HTd.out, HTp.out]
          simpa [Dk.is] using hsep
        refine Dk.lineY_step (v := v1) (w' := V) (some 13) rfl rfl rfl (by generalize a.eval = ρ at f1 ⊢; simp [execOp, f1, go_sem]) (fun _ => hs3.out) ?_
        have f4 : (a.put (some 13) v1).eval (.tmp 55) = v2 := by
          rw [Dk.eval_put _ _ _ _ (by rw [hsame.size, hsz]; decide), if_neg (by decide)]
          exact f2
        refine Dk.lineY_step (v := v2) (w' := V) (some 14) rfl rfl rfl (by generalize (a.put (some 13) v1).eval = ρ at f4 ⊢; simp [execOp, f4, go_sem]) (fun _ => hs3.out) ?_
        have f5 : ((a.put (some 13) v1).put (some 14) v2).eval (.tmp 64) = v3 := by
          rw [Dk.eval_put _ _ _ _ (by rw [Dk.size_put, hsame.size, hsz]; decide), if_neg (by decide), Dk.eval_put _ _ _ _ (by rw [hsame.size, hsz]; decide), if_neg (by decide)]
          exact f3
        refine Dk.lineY_step (v := v3) (w' := V) (some 15) rfl rfl rfl (by generalize ((a.put (some 13) v1).put (some 14) v2).eval = ρ at f5 ⊢; simp [execOp, f5, go_sem]) (fun _ => hs3.out) ?_
        clear f4 f5
        have ea := hsame.fold (fun d hd => by simp at hd; omega)
        simp only [List.foldl_cons, List.foldl_nil, f1, f2, f3] at ea
        generalize a.eval (.tmp 46) = y1 at ea
        generalize a.eval (.tmp 54) = y2 at ea
        generalize a.eval (.tmp 63) = y3 at ea
        subst ea
        rw [← HA.out]
        clear HA hsame hone f1 f2 f3 hsep e40 e48 e56 e45 e53 e62 hsz g1 g2 g3 htl
        show NoPanic _ Exit.normal _ _
        refine NoPanic.normal ?_
        simp only [Act.put, List.setIfInBounds_toArray, List.set_cons_succ, List.set_cons_zero]
        go_wp2
        go_roundw
        case rel => exact ⟨k + 1, by omega, by omega, by omega, by go_num, hs3⟩
        case measure => simp [intOf]; omega
    · go_upto_region 3 with fail
      go_cut [37] from 24 to 64 (fun v w' => v = .bool false ∧ w' = wr)
      case first =>
        by_cases c1 : k < n1
        · have y1 : decide ((k : Int) < (n1 : Int)) = true := decide_eq_true (by omega)
          by_cases c2 : k < n2
          · have y2 : decide ((k : Int) < (n2 : Int)) = true := decide_eq_true (by omega)
            have y3 : decide ((k : Int) < 8) = false := decide_eq_false (by omega)
            go_wp2_with fail
            go_meet
            exact ⟨rfl, rfl⟩
          · have y2 : decide ((k : Int) < (n2 : Int)) = false := decide_eq_false (by omega)
            go_wp2_with fail
            go_meet
            exact ⟨rfl, rfl⟩
        · have y1 : decide ((k : Int) < (n1 : Int)) = false := decide_eq_false (by omega)
          go_wp2_with fail
          go_meet
          exact ⟨rfl, rfl⟩
      case rest =>
        obtain ⟨rfl, hw⟩ := hcut
        subst wc
        obtain ⟨D, eD⟩ : ∃ D, ds.take k = D := ⟨_, rfl⟩
        obtain ⟨P, eP⟩ : ∃ P, (ps.take k).map (fun x => ((x % 8 : Nat) : Int)) = P := ⟨_, rfl⟩
        rw [eD, eP] at hS
        have hDl : D.length = k := by rw [← eD, List.length_take, HDL.out]; omega
        have hPl : P.length = k := by rw [← eP, List.length_map, List.length_take, HPL.out]; omega
        have hDx : ∀ x ∈ D, -128 ≤ x ∧ x ≤ 127 := fun x hx => by
          rw [← eD] at hx
          obtain ⟨j, hj, rfl⟩ := List.getElem_of_mem (List.mem_of_mem_take hx)
          have hl := HDL.out
          obtain ⟨b, o, _, _, hc⟩ := Dk.i8_cell HD.out (by omega)
          have := (hc j (by omega)).2
          simpa [List.getD, hj] using this
        have hPx : ∀ x ∈ P, 0 ≤ x ∧ x ≤ 7 := fun x hx => by
          rw [← eP] at hx
          obtain ⟨y, _, rfl⟩ := List.mem_map.1 hx
          omega
        have HPX : Hid (∀ j, j < k → 0 ≤ P.getD j 0 ∧ P.getD j 0 ≤ 7) := fun j hj => hPx _ (Dk.getD_mem (by omega))
        clear eD eP hc HD HP HDL HPL HZ1 HZ2
        by_cases hk0 : k = 0
        · subst hk0
          have u0 := hS.out
          have r1 := hS.row (e := 3) (s := 1) (v := u13) (n := 0) (xs := Dk.is D) (by simp)
          obtain ⟨A0, C0, e0, q1, q2⟩ := Dk.owns_slice r1
          subst e0
          unfold maxLen at q2
          clear hS r1 hDx hPx
          go_wp2_with fail
          refine (awake_any _).mono ?_
          rintro e w6 ⟨rfl, u6⟩
          go_wp2
          go_ret
          exact ⟨rfl, Dk.up_call u0 u6⟩
        · have hkp : 0 < k := by omega
          have hq := Nat.mod_lt who hkp
          have hq7 : ((who : Int) % (k : Int)) = ((who % k : Nat) : Int) := by rw [Int.natCast_emod]
          obtain ⟨q, eq⟩ : ∃ q, who % k = q := ⟨_, rfl⟩
          rw [eq] at hq hq7
          have hq6 : ((who : Int).tmod (k : Int)) = (q : Int) := by rw [Int.tmod_eq_emod_of_nonneg (by omega)]; exact hq7
          have hnn : (k : Int) ≠ 0 := by omega
          have y9 : ((k : Int) == 0) = false := by simp; omega
          have y8 : (k == 0) = false := by simp; omega
          have y7 : decide ((k : Int) = 0) = false := by simp; omega
          obtain ⟨d, ed⟩ : ∃ d, D.getD q 0 = d := ⟨_, rfl⟩
          have hdq := hDx _ (Dk.getD_mem (xs := D) (k := q) (by omega))
          rw [ed] at hdq
          obtain ⟨hdq1, hdq2⟩ := hdq
          obtain ⟨g, C, eve, hgC, hCm, fz, cl, hset⟩ := Dk.Sep.setAt (us1 := [_]) (j := q) hS hq
          have cl := cl (.int .i64 d) (by rw [← ed]; simp [Dk.is, List.getD, hDl, hq])
          have hset := hset (.int .i64 (d + (more : Int)))
          obtain ⟨w4, e4⟩ : ∃ w4, wr.setCell ⟨g, q, none⟩ (.int .i64 (d + (more : Int))) = w4 := ⟨_, rfl⟩
          rw [e4] at hset
          have eset : (Dk.is D).set q (.int .i64 (d + (more : Int))) = Dk.is (D.set q (d + (more : Int))) := by simp [Dk.is, List.map_set]
          rw [eset] at hset
          have hEl : (D.set q (d + (more : Int))).length = k := by rw [List.length_set]; exact hDl
          have HEq : Hid (D.getD q 0 ≤ (D.set q (d + (more : Int))).getD q 0) := by
            have h := Dk.getD_set (l := D) (i := q) (by omega) (d + (more : Int)) q
            rw [if_pos rfl] at h
            rw [h, ed]
            show d ≤ d + (more : Int)
            omega
          have HEo : Hid (∀ i, i ≠ q → (D.set q (d + (more : Int))).getD i 0 = D.getD i 0) := fun i hi => by
            rw [Dk.getD_set (by omega), if_neg hi]
          obtain ⟨E, eE⟩ : ∃ E, D.set q (d + (more : Int)) = E := ⟨_, rfl⟩
          have hEx : ∀ x ∈ E, Dk.i64 x := fun x hx => by
            rw [← eE] at hx
            rcases List.mem_or_eq_of_mem_set hx with h | h
            · have := hDx x h; unfold Dk.i64; omega
            · rw [h]; unfold Dk.i64; omega
          rw [eE] at hset hEl HEq HEo
          have r1 := hset.row (e := 3) (s := 1) (v := u13) (n := k) (xs := Dk.is D) (by simp)
          have r2 := hset.row (e := 3) (s := 1) (v := u14) (n := k) (xs := Dk.is E) (by simp)
          have r3 := hset.row (e := 3) (s := 1) (v := u15) (n := k) (xs := Dk.is P) (by simp)
          rw [← hDl] at r1
          rw [← hEl] at r2
          rw [← hPl] at r3
          obtain ⟨Ad, Cd, evd, sD⟩ := Dk.owns_ints r1 (fun x hx => by have := hDx x hx; unfold Dk.i64; omega)
          obtain ⟨Ae, Ce, eve', sE⟩ := Dk.owns_ints r2 hEx
          obtain ⟨Ap, Cp, evp, sP⟩ := Dk.owns_ints r3 (fun x hx => by have := hPx x hx; unfold Dk.i64; omega)
          rw [hDl] at evd sD
          rw [hEl] at eve' sE
          rw [hPl] at evp sP
          have uS := hset.out
          subst evd
          subst evp
          subst eve
          injection eve' with eA _ eC
          subst eA
          subst eC
          obtain ⟨m, em⟩ : ∃ m, procs % 65 = m := ⟨_, rfl⟩
          have hm : m ≤ 64 := by omega
          have hm7 : ((procs : Int) % 65) = (m : Int) := by omega
          have hm6 : ((procs : Int).tmod 65) = (m : Int) := by rw [Int.tmod_eq_emod_of_nonneg (by omega)]; exact hm7
          have HAsk : Hid (Dk.Ask (m : Int) k P) := ⟨hPl, hk8, by omega, by omega, fun j hj => HPX.out j hj⟩
          have K1 := Fair_yes (m : Int) turn htu Ad Ap k Cd k Cp D P w4 sD sP HAsk.out
          have HSE : Hid (Dk.SlI w4.heap.size w4 (some ⟨g, 0, none⟩) k C E) := sE
          have HSP : Hid (Dk.SlI w4.heap.size w4 Ap k Cp P) := sP
          have HUS : Hid (Below w.heap.size w w4) := uS
          have HDl : Hid (D.length = k) := hDl
          have HEl : Hid (E.length = k) := hEl
          have hcd := sD.cap
          have hcd2 := sD.max
          have hcp := sP.cap
          have hcp2 := sP.max
          unfold maxLen at hcd2 hcp2 hCm
          have HE4 : Hid _ := e4
          clear hS hset hDl hEl hPl hDx hPx hEx r1 r2 r3 sD sE sP uS em e4 ed eset eE eq hk0
          go_wp2_with fail
          rw [HE4.out]
          refine K1.mono ?_
          rintro e w5 ⟨Aa, Ca, La, rfl, gA, sA, u5⟩
          have HGA : Hid _ := gA
          have HSA : Hid _ := sA
          have HU5 : Hid _ := Dk.up_call HUS.out u5
          have ca1 := sA.cap
          have ca2 := sA.max
          unfold maxLen at ca2
          have K2 := Fair_yes (m : Int) turn htu (some ⟨g, 0, none⟩) Ap k C k Cp E P w5 (Dk.sli_up HSE.out u5) (Dk.sli_up HSP.out u5) HAsk.out
          clear gA sA u5 K1 HE4 cl fz
          go_wp2_with fail
          refine K2.mono ?_
          rintro e w6 ⟨Ab, Cb, Lb, rfl, gB, sB, u6⟩
          have HGB : Hid _ := gB
          have HSB : Hid (Dk.SlI w6.heap.size w6 Ab k Cb Lb) := sB
          have HU6 : Hid (Below w.heap.size w w6) := Dk.up_call HU5.out u6
          have HSA6 : Hid (Dk.SlI w6.heap.size w6 Aa k Ca La) := Dk.sli_up HSA.out u6
          have cb1 := sB.cap
          have cb2 := sB.max
          unfold maxLen at cb2
          have HW : Hid (∀ j, j < k → (j = q → La.getD j 0 ≤ Lb.getD j 0) ∧ (j ≠ q → Lb.getD j 0 ≤ La.getD j 0)) := fun j hj => HGA.out.wants HGB.out (by rw [HEl.out, HDl.out]) HEq.out HEo.out j (by rw [HDl.out]; exact hj)
          clear gB sB u6 K2 HSA HSE HSP HUS HU5 HGA HGB HEq HEo
          have y0 : ((k : Int) != (k : Int)) = false := by simp
          go_wp2
          go_loopw [20] (fun i w' => ∃ j : Nat, j ≤ k ∧ i = .int .i64 j ∧ Hid (Below w6.heap.size w6 w')) (fun i w' => k - (intOf i).toNat)
          case atStart => exact ⟨0, Nat.zero_le _, rfl, Below.refl _ _⟩
          case round =>
            obtain ⟨j, hj, rfl, HB⟩ := hrel
            by_cases hjk : j < k
            · obtain ⟨b1, o1, rfl, r1⟩ := Dk.sli_read HSA6.out j hjk
              obtain ⟨b2, o2, rfl, r2⟩ := Dk.sli_read HSB.out j hjk
              have hwj := HW.out j hjk
              have r1 := r1 wr HB.out
              have r2 := r2 wr HB.out
              obtain ⟨x, ex⟩ : ∃ x, La.getD j 0 = x := ⟨_, rfl⟩
              obtain ⟨y, ey⟩ : ∃ x, Lb.getD j 0 = x := ⟨_, rfl⟩
              rw [ex] at r1 hwj
              rw [ey] at r2 hwj
              clear ex ey
              by_cases hjq : j = q
              · have z1 : ((j : Int) == (q : Int)) = true := by simp; omega
                have z2 : ((j : Int) != (q : Int)) = false := by simp; omega
                have z3 : (j == q) = true := by simp; exact hjq
                have z4 : (j != q) = false := by simp; exact hjq
                have z5 : decide (y < x) = false := decide_eq_false (by have := hwj.1 hjq; omega)
                clear hjq hwj
                go_wp2
                go_quiet (fail)
                go_wp2
                go_roundw
                case rel => exact ⟨j + 1, by omega, by go_num, Dk.up_drewN HB.out _⟩
                case measure => simp [intOf]; omega
              · have z1 : ((j : Int) == (q : Int)) = false := by simp; omega
                have z2 : ((j : Int) != (q : Int)) = true := by simp; omega
                have z3 : (j == q) = false := by simp; exact hjq
                have z4 : (j != q) = true := by simp; exact hjq
                have z5 : decide (x < y) = false := decide_eq_false (by have := hwj.2 hjq; omega)
                clear hjq hwj
                go_wp2
                go_quiet (fail)
                go_wp2
                go_roundw
                case rel => exact ⟨j + 1, by omega, by go_num, Dk.up_drewN HB.out _⟩
                case measure => simp [intOf]; omega
            · go_wp2_with fail
              refine (awake_any _).mono ?_
              rintro e w7 ⟨rfl, u7⟩
              go_wp2
              go_ret
              exact ⟨rfl, Dk.up_call (Dk.up_call HU6.out HB.out) u7⟩
end Go.Proofs.Ytihikekhfbpnaaa
