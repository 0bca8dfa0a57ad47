/- Layer 15: the document's answer to what is left of a vessel. -/
import Derived.Test.YthpphicgkkhbfaaZa
import Derived.Deep.CutRange
namespace Go.Proofs.Ythpphicgkkhbfaa
set_option linter.unusedSimpArgs false
set_option linter.unusedVariables false
set_option linter.unnecessarySimpa false
open Go.RowKit Go.Lib
set_option maxRecDepth 100000 in
set_option maxHeartbeats 8000000 in
theorem refStrip_any (m t : Int) {A : Option Addr} {L C : Nat} {es : List Dk.Ev} {w : World} (hE : Dk.SlE w.heap.size w A L C es) (hL : L + 1 ≤ 5864062014805) :
    Calls Try.prog 10 #[Dk.vv m t A L C] w fun e w' => ∃ B D, e = .returned (.slice B (Dk.stripV m t es).length D) ∧ Dk.Sep w w' [Dk.rowOf 36 3 (.slice B (Dk.stripV m t es).length D) (Dk.stripV m t es).length (Dk.evs (Dk.stripV m t es))] := by
  have hcap := hE.cap
  have hmax := hE.max
  unfold maxLen at hmax
  have HH : Hid (Dk.SlE w.heap.size w A L C es) := hE
  have HL : Hid (es.length = L) := hE.len
  unfold Dk.stripV Dk.takenV
  obtain ⟨W1, e1⟩ : ∃ W, W = w.alloc (.cells #[.int .i64 m, .int .i64 t, .slice A L C] 29) := ⟨_, rfl⟩
  have s1 := (Dk.Sep.begin (Below.refl w.heap.size w)).newBox e1
  obtain ⟨W2, e2⟩ : ∃ W, W = W1.alloc (.cells #[] 36) := ⟨_, rfl⟩
  have s2 := s1.empty (s := 3) e2
  have b2 := s2.box (b := w.heap.size) (cs := #[.int .i64 m, .int .i64 t, .slice A L C]) (t := 29) (by simp)
  have hwW : w.heap.size < W2.heap.size := b2.lt
  have c0 : W2.cell? ⟨w.heap.size, 0, none⟩ = some (.int .i64 m) := b2.cell 0
  have c1 : W2.cell? ⟨w.heap.size, 1, none⟩ = some (.int .i64 t) := b2.cell 1
  have c2 : W2.cell? ⟨w.heap.size, 2, none⟩ = some (.slice A L C) := b2.cell 2
  have H1 : Hid (w.alloc (.cells #[.int .i64 m, .int .i64 t, .slice A L C] 29) = W1) := e1.symm
  have H2 : Hid (W1.alloc (.cells #[] 36) = W2) := e2.symm
  clear hE e1 e2 s1 b2
  obtain ⟨r, hr⟩ : ∃ r, Dk.runsV m t = r := ⟨_, rfl⟩
  obtain ⟨h, hh⟩ : ∃ h, Dk.holdsV m = h := ⟨_, rfl⟩
  rw [hr, hh]
  obtain ⟨l0, hl0⟩ : ∃ l, Dk.ownV h r m t = l := ⟨_, rfl⟩
  rw [hl0]
  have HOwn : Hid (Dk.ownV h r m t = l0) := hl0
  clear hl0
  have HR : Hid _ := hr
  have HHo : Hid _ := hh
  clear hr hh
  go_enter Try.func10, Try.ntmps10
  go_upto_region 2 with (first | (rw [H1.out]; clear H1) | (rw [H2.out]; clear H2))
  go_cut [4] from 11 to 23 (fun v4 w' => v4 = .bool h ∧ w' = W2)
  case first =>
    clear s2 HL
    rcases Dk.modes m with rfl | rfl | rfl | rfl | rfl | ⟨h2, h4, h5, h6, h7⟩
    all_goals (
      go_wp2_with fail
      go_meet
      refine ⟨?_, rfl⟩
      refine Eq.trans ?_ (congrArg Value.bool HHo.out)
      first | rfl | simp [Dk.holdsV, h2, h4, h5, h6, h7])
  case rest =>
    obtain ⟨rfl, hw⟩ := hcut
    subst wc
    go_upto_region 3 with fail
    go_cut [5] from 24 to 41 (fun v5 w' => v5 = .bool r ∧ w' = W2)
    case first =>
     clear s2 HL
     by_cases ht : 0 ≤ t
     all_goals rcases Dk.modes m with rfl | rfl | rfl | rfl | rfl | ⟨h2, h4, h5, h6, h7⟩
     all_goals (
      go_wp2_with fail
      go_meet
      refine ⟨?_, rfl⟩
      refine Eq.trans ?_ (congrArg Value.bool HR.out)
      first | rfl | (simp [Dk.runsV, ht]; done) | (simp [Dk.runsV, h5, h6, h7]; done))
    case rest =>
    obtain ⟨rfl, hw⟩ := hcut
    subst wc
    cases r with
    | false =>
      cases h with
      | false =>
        have hl0 : ([] : List Dk.Ev) = l0 := HOwn.out
        have Hl0 : Hid (l0.length ≤ 1) := by rw [← hl0]; exact Nat.zero_le _
        have SA : Dk.Sep w W2 [Dk.rowOf 36 3 (.slice (some ⟨W1.heap.size, 0, none⟩) 0 0) l0.length (Dk.evs l0), Dk.boxOf w.heap.size #[.int .i64 m, .int .i64 t, .slice A L C] 29] := by rw [← hl0]; exact s2
        clear hl0 s2
        go_wp2_with fail
        clear c0 c1 c2
        go_loopw [3, 7] (fun v i w' => ∃ k : Nat, k ≤ L ∧ i = .int .i64 k ∧ Dk.Sep w w' [Dk.rowOf 36 3 v (l0 ++ Dk.keepL (es.take k)).length (Dk.evs (l0 ++ Dk.keepL (es.take k))), Dk.boxOf w.heap.size #[.int .i64 m, .int .i64 t, .slice A L C] 29]) (fun v i w' => L - (intOf i).toNat)
        case atStart => exact ⟨0, Nat.zero_le _, rfl, by simpa [Dk.keepL] using SA⟩
        case round =>
          clear SA
          obtain ⟨k, hk, rfl, hS⟩ := hrel
          have hb := hS.out
          have bV := hS.box (b := w.heap.size) (cs := #[.int .i64 m, .int .i64 t, .slice A L C]) (t := 29) (by simp)
          have hwr : w.heap.size < wr.heap.size := bV.lt
          have c2 : wr.cell? ⟨w.heap.size, 2, none⟩ = some (.slice A L C) := bV.cell 2
          by_cases hlt : k < L
          · obtain ⟨b, o, rfl, hbb, _, k0, k1, k2⟩ := HH.out.at hlt
            have hkl : k < es.length := by rw [HL.out]; exact hlt
            have hn : (l0 ++ Dk.keepL (es.take k)).length ≤ k + 1 := by
              rw [List.length_append]
              have h1 := Hl0.out
              have h2 := Dk.keepL_len (es.take k)
              rw [List.length_take] at h2
              omega
            have HY : Hid ((es.getD k Dk.Ev.zero).kept = true → l0 ++ Dk.keepL (es.take (k + 1)) = l0 ++ Dk.keepL (es.take k) ++ [es.getD k Dk.Ev.zero]) := fun h => by rw [Dk.keepL_yes hkl h, List.append_assoc]
            have HN : Hid ((es.getD k Dk.Ev.zero).kept = false → l0 ++ Dk.keepL (es.take (k + 1)) = l0 ++ Dk.keepL (es.take k)) := fun h => by rw [Dk.keepL_no hkl h]
            generalize l0 ++ Dk.keepL (es.take k) = l1 at *
            generalize es.getD k Dk.Ev.zero = x at k0 k1 k2 HY HN
            have KR := fun w => refRuns_any x w
            have hkept : x.kept = (x.runs || x.within) := rfl
            have hwith : x.within = decide (0 < x.m) := rfl
            generalize (if x.runs then x.t else 0) = tv at KR
            generalize x.runs = xr at KR hkept
            generalize x.within = xs at hwith hkept
            obtain ⟨xk, xt, xm⟩ := x
            have f0 : wr.cell? ⟨b, o + k * 3, none⟩ = some (.int .i64 xk) := by rw [hb.cell (by exact hbb)]; exact k0
            have f1 : wr.cell? ⟨b, o + k * 3 + 1, none⟩ = some (.int .i64 xt) := by rw [hb.cell (by exact hbb)]; exact k1
            have f2 : wr.cell? ⟨b, o + k * 3 + 2, none⟩ = some (.int .i64 xm) := by rw [hb.cell (by exact hbb)]; exact k2
            have FC : Hid (∀ w', Below wr.heap.size wr w' → w'.cell? ⟨w.heap.size, 2, none⟩ = some (.slice (some ⟨b, o, none⟩) L C) ∧ w'.cell? ⟨b, o + k * 3, none⟩ = some (.int .i64 xk) ∧ w'.cell? ⟨b, o + k * 3 + 1, none⟩ = some (.int .i64 xt) ∧ w'.cell? ⟨b, o + k * 3 + 2, none⟩ = some (.int .i64 xm)) := fun w' u =>
              ⟨(bV.up u).cell 2, (u.cell (by show b < wr.heap.size; omega)).trans f0, (u.cell (by show b < wr.heap.size; omega)).trans f1, (u.cell (by show b < wr.heap.size; omega)).trans f2⟩
            clear hb k0 k1 k2 bV
            have KR := KR wr
            cases xr with
            | true =>
              have HQ : Hid _ := HY.out hkept
              clear HY HN hkept hwith
              go_wp2_with fail
              refine KR.mono ?_
              rintro e w2 ⟨rfl, v2⟩
              have S2 := hS.below v2
              obtain ⟨g0, g1, g2, g3⟩ := FC.out _ v2
              obtain ⟨v', w3, hrun, S3⟩ := Dk.Sep.appendE (us1 := []) (x := ⟨xk, xt, xm⟩) KE S2 (by unfold maxLen; omega) (by omega)
              clear KR f0 f1 f2 c2 hS S2 v2 FC
              go_wp2_with (at_builtin; refine Lib.wpList_append_run _ rfl _ _ _ _ rfl _ _ rfl rfl _ _ hrun ?_)
              go_roundw
              case rel => exact ⟨k + 1, by omega, by go_num, by rw [HQ.out, List.length_append]; exact S3⟩
              case measure => simp [intOf]; omega
            | false =>
              cases xs with
              | true =>
                have HQ : Hid _ := HY.out hkept
                have hm0 : (0 : Int) < xm := of_decide_eq_true hwith.symm
                clear HY HN hkept hwith
                go_wp2_with fail
                refine KR.mono ?_
                rintro e w2 ⟨rfl, v2⟩
                have S2 := hS.below v2
                obtain ⟨g0, g1, g2, g3⟩ := FC.out _ v2
                obtain ⟨v', w3, hrun, S3⟩ := Dk.Sep.appendE (us1 := []) (x := ⟨xk, xt, xm⟩) KE S2 (by unfold maxLen; omega) (by omega)
                clear KR f0 f1 f2 c2 hS S2 v2 FC
                go_wp2_with (at_builtin; refine Lib.wpList_append_run _ rfl _ _ _ _ rfl _ _ rfl rfl _ _ hrun ?_)
                go_roundw
                case rel => exact ⟨k + 1, by omega, by go_num, by rw [HQ.out, List.length_append]; exact S3⟩
                case measure => simp [intOf]; omega
              | false =>
                have HQ : Hid _ := HN.out hkept
                have hm0 : ¬ (0 : Int) < xm := of_decide_eq_false hwith.symm
                clear HY HN hkept hwith
                go_wp2_with fail
                refine KR.mono ?_
                rintro e w2 ⟨rfl, v2⟩
                have S2 := hS.below v2
                obtain ⟨g0, g1, g2, g3⟩ := FC.out _ v2
                clear KR f0 f1 f2 c2 hS v2 FC
                go_wp2_with fail
                go_roundw
                case rel => exact ⟨k + 1, by omega, by go_num, by rw [HQ.out]; exact S2⟩
                case measure => simp [intOf]; omega
          · obtain rfl : k = L := by omega
            rw [List.take_of_length_le (by rw [HL.out]; omega)] at hS
            obtain ⟨B, D, ev, _, _⟩ := Dk.owns_slice (hS.row (e := 36) (s := 3) (v := u3) (n := (l0 ++ Dk.keepL es).length) (xs := Dk.evs (l0 ++ Dk.keepL es)) (by simp))
            subst ev
            have HS : Hid _ := hS.sub (us := [_]) ((List.nil_sublist _).cons_cons _)
            clear hS hb bV
            go_wp2
            go_ret
            exact ⟨_, _, rfl, HS.out⟩
      | true =>
        have hl0 : ([⟨4, -1, m⟩] : List Dk.Ev) = l0 := HOwn.out
        obtain ⟨W4, e4⟩ : ∃ W, W = W2.alloc (.cells #[.int .i64 4, .int .i64 (-1), .int .i64 0] 36) := ⟨_, rfl⟩
        have s4 := s2.newBox e4
        have q4 : w.heap.size ≠ W2.heap.size := by omega
        have H4 : Hid (W2.alloc (.cells #[.int .i64 4, .int .i64 (-1), .int .i64 0] 36) = W4) := e4.symm
        have b4 := s4.box (List.mem_cons_self ..)
        have fz4 : W4.frozen? ⟨W2.heap.size, 2, none⟩ = false := b4.frozen 2
        have fc4 : W4.cell? ⟨W2.heap.size, 2, none⟩ = some (.int .i64 0) := b4.cell 2
        have g4 : W4.cell? ⟨w.heap.size, 0, none⟩ = some (.int .i64 m) := (s4.box (b := w.heap.size) (cs := #[.int .i64 m, .int .i64 t, .slice A L C]) (t := 29) (by simp)).cell 0
        have s5 := Dk.Sep.setBox (us1 := []) (o := 2) s4 (.int .i64 m)
        have s5 : Dk.Sep w (W4.setCell ⟨W2.heap.size, 2, none⟩ (.int .i64 m)) [Dk.boxOf W2.heap.size #[.int .i64 4, .int .i64 (-1), .int .i64 m] 36, Dk.rowOf 36 3 (.slice (some ⟨W1.heap.size, 0, none⟩) 0 0) 0 [], Dk.boxOf w.heap.size #[.int .i64 m, .int .i64 t, .slice A L C] 29] := s5
        obtain ⟨W5, e5⟩ : ∃ W, W = W4.setCell ⟨W2.heap.size, 2, none⟩ (.int .i64 m) := ⟨_, rfl⟩
        rw [← e5] at s5
        have H5 : Hid (W4.setCell ⟨W2.heap.size, 2, none⟩ (.int .i64 m) = W5) := e5.symm
        have b5 := s5.box (List.mem_cons_self ..)
        have k0 : W5.cell? ⟨W2.heap.size, 0, none⟩ = some (.int .i64 4) := b5.cell 0
        have k1 : W5.cell? ⟨W2.heap.size, 1, none⟩ = some (.int .i64 (-1)) := b5.cell 1
        have k2 : W5.cell? ⟨W2.heap.size, 2, none⟩ = some (.int .i64 m) := b5.cell 2
        obtain ⟨v', w3, hrun, S3⟩ := Dk.Sep.appendE (us1 := [_]) (xs := []) (x := ⟨4, -1, m⟩) KE s5 (by unfold maxLen; omega) (by omega)
        have Hl0 : Hid (l0.length ≤ 1) := by rw [← hl0]; exact Nat.le_refl _
        have SA : Dk.Sep w w3 [Dk.rowOf 36 3 v' l0.length (Dk.evs l0), Dk.boxOf w.heap.size #[.int .i64 m, .int .i64 t, .slice A L C] 29] := by rw [← hl0]; exact S3.sub (List.sublist_cons_self _ _)
        clear s2 S3 hl0 HOwn HR HHo s4 e4 s5 e5 b4 b5
        go_wp2_with (first | (rw [H4.out]; clear H4) | (rw [H5.out]; clear H5) | (at_builtin; refine Lib.wpList_append_run _ rfl _ _ _ _ rfl _ _ rfl rfl _ _ hrun ?_; clear hrun))
        clear c0 c1 c2
        go_loopw [3, 7] (fun v i w' => ∃ k : Nat, k ≤ L ∧ i = .int .i64 k ∧ Dk.Sep w w' [Dk.rowOf 36 3 v (l0 ++ Dk.keepL (es.take k)).length (Dk.evs (l0 ++ Dk.keepL (es.take k))), Dk.boxOf w.heap.size #[.int .i64 m, .int .i64 t, .slice A L C] 29]) (fun v i w' => L - (intOf i).toNat)
        case atStart => exact ⟨0, Nat.zero_le _, rfl, by simpa [Dk.keepL] using SA⟩
        case round =>
          clear SA
          obtain ⟨k, hk, rfl, hS⟩ := hrel
          have hb := hS.out
          have bV := hS.box (b := w.heap.size) (cs := #[.int .i64 m, .int .i64 t, .slice A L C]) (t := 29) (by simp)
          have hwr : w.heap.size < wr.heap.size := bV.lt
          have c2 : wr.cell? ⟨w.heap.size, 2, none⟩ = some (.slice A L C) := bV.cell 2
          by_cases hlt : k < L
          · obtain ⟨b, o, rfl, hbb, _, k0, k1, k2⟩ := HH.out.at hlt
            have hkl : k < es.length := by rw [HL.out]; exact hlt
            have hn : (l0 ++ Dk.keepL (es.take k)).length ≤ k + 1 := by
              rw [List.length_append]
              have h1 := Hl0.out
              have h2 := Dk.keepL_len (es.take k)
              rw [List.length_take] at h2
              omega
            have HY : Hid ((es.getD k Dk.Ev.zero).kept = true → l0 ++ Dk.keepL (es.take (k + 1)) = l0 ++ Dk.keepL (es.take k) ++ [es.getD k Dk.Ev.zero]) := fun h => by rw [Dk.keepL_yes hkl h, List.append_assoc]
            have HN : Hid ((es.getD k Dk.Ev.zero).kept = false → l0 ++ Dk.keepL (es.take (k + 1)) = l0 ++ Dk.keepL (es.take k)) := fun h => by rw [Dk.keepL_no hkl h]
            generalize l0 ++ Dk.keepL (es.take k) = l1 at *
            generalize es.getD k Dk.Ev.zero = x at k0 k1 k2 HY HN
            have KR := fun w => refRuns_any x w
            have hkept : x.kept = (x.runs || x.within) := rfl
            have hwith : x.within = decide (0 < x.m) := rfl
            generalize (if x.runs then x.t else 0) = tv at KR
            generalize x.runs = xr at KR hkept
            generalize x.within = xs at hwith hkept
            obtain ⟨xk, xt, xm⟩ := x
            have f0 : wr.cell? ⟨b, o + k * 3, none⟩ = some (.int .i64 xk) := by rw [hb.cell (by exact hbb)]; exact k0
            have f1 : wr.cell? ⟨b, o + k * 3 + 1, none⟩ = some (.int .i64 xt) := by rw [hb.cell (by exact hbb)]; exact k1
            have f2 : wr.cell? ⟨b, o + k * 3 + 2, none⟩ = some (.int .i64 xm) := by rw [hb.cell (by exact hbb)]; exact k2
            have FC : Hid (∀ w', Below wr.heap.size wr w' → w'.cell? ⟨w.heap.size, 2, none⟩ = some (.slice (some ⟨b, o, none⟩) L C) ∧ w'.cell? ⟨b, o + k * 3, none⟩ = some (.int .i64 xk) ∧ w'.cell? ⟨b, o + k * 3 + 1, none⟩ = some (.int .i64 xt) ∧ w'.cell? ⟨b, o + k * 3 + 2, none⟩ = some (.int .i64 xm)) := fun w' u =>
              ⟨(bV.up u).cell 2, (u.cell (by show b < wr.heap.size; omega)).trans f0, (u.cell (by show b < wr.heap.size; omega)).trans f1, (u.cell (by show b < wr.heap.size; omega)).trans f2⟩
            clear hb k0 k1 k2 bV
            have KR := KR wr
            cases xr with
            | true =>
              have HQ : Hid _ := HY.out hkept
              clear HY HN hkept hwith
              go_wp2_with fail
              refine KR.mono ?_
              rintro e w2 ⟨rfl, v2⟩
              have S2 := hS.below v2
              obtain ⟨g0, g1, g2, g3⟩ := FC.out _ v2
              obtain ⟨v', w3, hrun, S3⟩ := Dk.Sep.appendE (us1 := []) (x := ⟨xk, xt, xm⟩) KE S2 (by unfold maxLen; omega) (by omega)
              clear KR f0 f1 f2 c2 hS S2 v2 FC
              go_wp2_with (at_builtin; refine Lib.wpList_append_run _ rfl _ _ _ _ rfl _ _ rfl rfl _ _ hrun ?_)
              go_roundw
              case rel => exact ⟨k + 1, by omega, by go_num, by rw [HQ.out, List.length_append]; exact S3⟩
              case measure => simp [intOf]; omega
            | false =>
              cases xs with
              | true =>
                have HQ : Hid _ := HY.out hkept
                have hm0 : (0 : Int) < xm := of_decide_eq_true hwith.symm
                clear HY HN hkept hwith
                go_wp2_with fail
                refine KR.mono ?_
                rintro e w2 ⟨rfl, v2⟩
                have S2 := hS.below v2
                obtain ⟨g0, g1, g2, g3⟩ := FC.out _ v2
                obtain ⟨v', w3, hrun, S3⟩ := Dk.Sep.appendE (us1 := []) (x := ⟨xk, xt, xm⟩) KE S2 (by unfold maxLen; omega) (by omega)
                clear KR f0 f1 f2 c2 hS S2 v2 FC
                go_wp2_with (at_builtin; refine Lib.wpList_append_run _ rfl _ _ _ _ rfl _ _ rfl rfl _ _ hrun ?_)
                go_roundw
                case rel => exact ⟨k + 1, by omega, by go_num, by rw [HQ.out, List.length_append]; exact S3⟩
                case measure => simp [intOf]; omega
              | false =>
                have HQ : Hid _ := HN.out hkept
                have hm0 : ¬ (0 : Int) < xm := of_decide_eq_false hwith.symm
                clear HY HN hkept hwith
                go_wp2_with fail
                refine KR.mono ?_
                rintro e w2 ⟨rfl, v2⟩
                have S2 := hS.below v2
                obtain ⟨g0, g1, g2, g3⟩ := FC.out _ v2
                clear KR f0 f1 f2 c2 hS v2 FC
                go_wp2_with fail
                go_roundw
                case rel => exact ⟨k + 1, by omega, by go_num, by rw [HQ.out]; exact S2⟩
                case measure => simp [intOf]; omega
          · obtain rfl : k = L := by omega
            rw [List.take_of_length_le (by rw [HL.out]; omega)] at hS
            obtain ⟨B, D, ev, _, _⟩ := Dk.owns_slice (hS.row (e := 36) (s := 3) (v := u3) (n := (l0 ++ Dk.keepL es).length) (xs := Dk.evs (l0 ++ Dk.keepL es)) (by simp))
            subst ev
            have HS : Hid _ := hS.sub (us := [_]) ((List.nil_sublist _).cons_cons _)
            clear hS hb bV
            go_wp2
            go_ret
            exact ⟨_, _, rfl, HS.out⟩
    | true =>
      cases h with
      | false =>
        have hl0 : ([⟨4, t, 0⟩] : List Dk.Ev) = l0 := HOwn.out
        obtain ⟨W4, e4⟩ : ∃ W, W = W2.alloc (.cells #[.int .i64 4, .int .i64 (-1), .int .i64 0] 36) := ⟨_, rfl⟩
        have s4 := s2.newBox e4
        have q4 : w.heap.size ≠ W2.heap.size := by omega
        have H4 : Hid (W2.alloc (.cells #[.int .i64 4, .int .i64 (-1), .int .i64 0] 36) = W4) := e4.symm
        have b4 := s4.box (List.mem_cons_self ..)
        have fz4 : W4.frozen? ⟨W2.heap.size, 1, none⟩ = false := b4.frozen 1
        have fc4 : W4.cell? ⟨W2.heap.size, 1, none⟩ = some (.int .i64 (-1)) := b4.cell 1
        have g4 : W4.cell? ⟨w.heap.size, 1, none⟩ = some (.int .i64 t) := (s4.box (b := w.heap.size) (cs := #[.int .i64 m, .int .i64 t, .slice A L C]) (t := 29) (by simp)).cell 1
        have s5 := Dk.Sep.setBox (us1 := []) (o := 1) s4 (.int .i64 t)
        have s5 : Dk.Sep w (W4.setCell ⟨W2.heap.size, 1, none⟩ (.int .i64 t)) [Dk.boxOf W2.heap.size #[.int .i64 4, .int .i64 t, .int .i64 0] 36, Dk.rowOf 36 3 (.slice (some ⟨W1.heap.size, 0, none⟩) 0 0) 0 [], Dk.boxOf w.heap.size #[.int .i64 m, .int .i64 t, .slice A L C] 29] := s5
        obtain ⟨W5, e5⟩ : ∃ W, W = W4.setCell ⟨W2.heap.size, 1, none⟩ (.int .i64 t) := ⟨_, rfl⟩
        rw [← e5] at s5
        have H5 : Hid (W4.setCell ⟨W2.heap.size, 1, none⟩ (.int .i64 t) = W5) := e5.symm
        have b5 := s5.box (List.mem_cons_self ..)
        have k0 : W5.cell? ⟨W2.heap.size, 0, none⟩ = some (.int .i64 4) := b5.cell 0
        have k1 : W5.cell? ⟨W2.heap.size, 1, none⟩ = some (.int .i64 t) := b5.cell 1
        have k2 : W5.cell? ⟨W2.heap.size, 2, none⟩ = some (.int .i64 0) := b5.cell 2
        obtain ⟨v', w3, hrun, S3⟩ := Dk.Sep.appendE (us1 := [_]) (xs := []) (x := ⟨4, t, 0⟩) KE s5 (by unfold maxLen; omega) (by omega)
        have Hl0 : Hid (l0.length ≤ 1) := by rw [← hl0]; exact Nat.le_refl _
        have SA : Dk.Sep w w3 [Dk.rowOf 36 3 v' l0.length (Dk.evs l0), Dk.boxOf w.heap.size #[.int .i64 m, .int .i64 t, .slice A L C] 29] := by rw [← hl0]; exact S3.sub (List.sublist_cons_self _ _)
        clear s2 S3 hl0 HOwn HR HHo s4 e4 s5 e5 b4 b5
        go_wp2_with (first | (rw [H4.out]; clear H4) | (rw [H5.out]; clear H5) | (at_builtin; refine Lib.wpList_append_run _ rfl _ _ _ _ rfl _ _ rfl rfl _ _ hrun ?_; clear hrun))
        clear c0 c1 c2
        go_loopw [3, 7] (fun v i w' => ∃ k : Nat, k ≤ L ∧ i = .int .i64 k ∧ Dk.Sep w w' [Dk.rowOf 36 3 v (l0 ++ Dk.keepL (es.take k)).length (Dk.evs (l0 ++ Dk.keepL (es.take k))), Dk.boxOf w.heap.size #[.int .i64 m, .int .i64 t, .slice A L C] 29]) (fun v i w' => L - (intOf i).toNat)
        case atStart => exact ⟨0, Nat.zero_le _, rfl, by simpa [Dk.keepL] using SA⟩
        case round =>
          clear SA
          obtain ⟨k, hk, rfl, hS⟩ := hrel
          have hb := hS.out
          have bV := hS.box (b := w.heap.size) (cs := #[.int .i64 m, .int .i64 t, .slice A L C]) (t := 29) (by simp)
          have hwr : w.heap.size < wr.heap.size := bV.lt
          have c2 : wr.cell? ⟨w.heap.size, 2, none⟩ = some (.slice A L C) := bV.cell 2
          by_cases hlt : k < L
          · obtain ⟨b, o, rfl, hbb, _, k0, k1, k2⟩ := HH.out.at hlt
            have hkl : k < es.length := by rw [HL.out]; exact hlt
            have hn : (l0 ++ Dk.keepL (es.take k)).length ≤ k + 1 := by
              rw [List.length_append]
              have h1 := Hl0.out
              have h2 := Dk.keepL_len (es.take k)
              rw [List.length_take] at h2
              omega
            have HY : Hid ((es.getD k Dk.Ev.zero).kept = true → l0 ++ Dk.keepL (es.take (k + 1)) = l0 ++ Dk.keepL (es.take k) ++ [es.getD k Dk.Ev.zero]) := fun h => by rw [Dk.keepL_yes hkl h, List.append_assoc]
            have HN : Hid ((es.getD k Dk.Ev.zero).kept = false → l0 ++ Dk.keepL (es.take (k + 1)) = l0 ++ Dk.keepL (es.take k)) := fun h => by rw [Dk.keepL_no hkl h]
            generalize l0 ++ Dk.keepL (es.take k) = l1 at *
            generalize es.getD k Dk.Ev.zero = x at k0 k1 k2 HY HN
            have KR := fun w => refRuns_any x w
            have hkept : x.kept = (x.runs || x.within) := rfl
            have hwith : x.within = decide (0 < x.m) := rfl
            generalize (if x.runs then x.t else 0) = tv at KR
            generalize x.runs = xr at KR hkept
            generalize x.within = xs at hwith hkept
            obtain ⟨xk, xt, xm⟩ := x
            have f0 : wr.cell? ⟨b, o + k * 3, none⟩ = some (.int .i64 xk) := by rw [hb.cell (by exact hbb)]; exact k0
            have f1 : wr.cell? ⟨b, o + k * 3 + 1, none⟩ = some (.int .i64 xt) := by rw [hb.cell (by exact hbb)]; exact k1
            have f2 : wr.cell? ⟨b, o + k * 3 + 2, none⟩ = some (.int .i64 xm) := by rw [hb.cell (by exact hbb)]; exact k2
            have FC : Hid (∀ w', Below wr.heap.size wr w' → w'.cell? ⟨w.heap.size, 2, none⟩ = some (.slice (some ⟨b, o, none⟩) L C) ∧ w'.cell? ⟨b, o + k * 3, none⟩ = some (.int .i64 xk) ∧ w'.cell? ⟨b, o + k * 3 + 1, none⟩ = some (.int .i64 xt) ∧ w'.cell? ⟨b, o + k * 3 + 2, none⟩ = some (.int .i64 xm)) := fun w' u =>
              ⟨(bV.up u).cell 2, (u.cell (by show b < wr.heap.size; omega)).trans f0, (u.cell (by show b < wr.heap.size; omega)).trans f1, (u.cell (by show b < wr.heap.size; omega)).trans f2⟩
            clear hb k0 k1 k2 bV
            have KR := KR wr
            cases xr with
            | true =>
              have HQ : Hid _ := HY.out hkept
              clear HY HN hkept hwith
              go_wp2_with fail
              refine KR.mono ?_
              rintro e w2 ⟨rfl, v2⟩
              have S2 := hS.below v2
              obtain ⟨g0, g1, g2, g3⟩ := FC.out _ v2
              obtain ⟨v', w3, hrun, S3⟩ := Dk.Sep.appendE (us1 := []) (x := ⟨xk, xt, xm⟩) KE S2 (by unfold maxLen; omega) (by omega)
              clear KR f0 f1 f2 c2 hS S2 v2 FC
              go_wp2_with (at_builtin; refine Lib.wpList_append_run _ rfl _ _ _ _ rfl _ _ rfl rfl _ _ hrun ?_)
              go_roundw
              case rel => exact ⟨k + 1, by omega, by go_num, by rw [HQ.out, List.length_append]; exact S3⟩
              case measure => simp [intOf]; omega
            | false =>
              cases xs with
              | true =>
                have HQ : Hid _ := HY.out hkept
                have hm0 : (0 : Int) < xm := of_decide_eq_true hwith.symm
                clear HY HN hkept hwith
                go_wp2_with fail
                refine KR.mono ?_
                rintro e w2 ⟨rfl, v2⟩
                have S2 := hS.below v2
                obtain ⟨g0, g1, g2, g3⟩ := FC.out _ v2
                obtain ⟨v', w3, hrun, S3⟩ := Dk.Sep.appendE (us1 := []) (x := ⟨xk, xt, xm⟩) KE S2 (by unfold maxLen; omega) (by omega)
                clear KR f0 f1 f2 c2 hS S2 v2 FC
                go_wp2_with (at_builtin; refine Lib.wpList_append_run _ rfl _ _ _ _ rfl _ _ rfl rfl _ _ hrun ?_)
                go_roundw
                case rel => exact ⟨k + 1, by omega, by go_num, by rw [HQ.out, List.length_append]; exact S3⟩
                case measure => simp [intOf]; omega
              | false =>
                have HQ : Hid _ := HN.out hkept
                have hm0 : ¬ (0 : Int) < xm := of_decide_eq_false hwith.symm
                clear HY HN hkept hwith
                go_wp2_with fail
                refine KR.mono ?_
                rintro e w2 ⟨rfl, v2⟩
                have S2 := hS.below v2
                obtain ⟨g0, g1, g2, g3⟩ := FC.out _ v2
                clear KR f0 f1 f2 c2 hS v2 FC
                go_wp2_with fail
                go_roundw
                case rel => exact ⟨k + 1, by omega, by go_num, by rw [HQ.out]; exact S2⟩
                case measure => simp [intOf]; omega
          · obtain rfl : k = L := by omega
            rw [List.take_of_length_le (by rw [HL.out]; omega)] at hS
            obtain ⟨B, D, ev, _, _⟩ := Dk.owns_slice (hS.row (e := 36) (s := 3) (v := u3) (n := (l0 ++ Dk.keepL es).length) (xs := Dk.evs (l0 ++ Dk.keepL es)) (by simp))
            subst ev
            have HS : Hid _ := hS.sub (us := [_]) ((List.nil_sublist _).cons_cons _)
            clear hS hb bV
            go_wp2
            go_ret
            exact ⟨_, _, rfl, HS.out⟩
      | true =>
        have hl0 : ([⟨4, t, m⟩] : List Dk.Ev) = l0 := HOwn.out
        obtain ⟨W4, e4⟩ : ∃ W, W = W2.alloc (.cells #[.int .i64 4, .int .i64 (-1), .int .i64 0] 36) := ⟨_, rfl⟩
        have s4 := s2.newBox e4
        have q4 : w.heap.size ≠ W2.heap.size := by omega
        have H4 : Hid (W2.alloc (.cells #[.int .i64 4, .int .i64 (-1), .int .i64 0] 36) = W4) := e4.symm
        have b4 := s4.box (List.mem_cons_self ..)
        have fz4 : W4.frozen? ⟨W2.heap.size, 1, none⟩ = false := b4.frozen 1
        have fc4 : W4.cell? ⟨W2.heap.size, 1, none⟩ = some (.int .i64 (-1)) := b4.cell 1
        have g4 : W4.cell? ⟨w.heap.size, 1, none⟩ = some (.int .i64 t) := (s4.box (b := w.heap.size) (cs := #[.int .i64 m, .int .i64 t, .slice A L C]) (t := 29) (by simp)).cell 1
        have s5 := Dk.Sep.setBox (us1 := []) (o := 1) s4 (.int .i64 t)
        have s5 : Dk.Sep w (W4.setCell ⟨W2.heap.size, 1, none⟩ (.int .i64 t)) [Dk.boxOf W2.heap.size #[.int .i64 4, .int .i64 t, .int .i64 0] 36, Dk.rowOf 36 3 (.slice (some ⟨W1.heap.size, 0, none⟩) 0 0) 0 [], Dk.boxOf w.heap.size #[.int .i64 m, .int .i64 t, .slice A L C] 29] := s5
        obtain ⟨W5, e5⟩ : ∃ W, W = W4.setCell ⟨W2.heap.size, 1, none⟩ (.int .i64 t) := ⟨_, rfl⟩
        rw [← e5] at s5
        have H5 : Hid (W4.setCell ⟨W2.heap.size, 1, none⟩ (.int .i64 t) = W5) := e5.symm
        have b5 := s5.box (List.mem_cons_self ..)
        have fz5 : W5.frozen? ⟨W2.heap.size, 2, none⟩ = false := b5.frozen 2
        have fc5 : W5.cell? ⟨W2.heap.size, 2, none⟩ = some (.int .i64 0) := b5.cell 2
        have g5 : W5.cell? ⟨w.heap.size, 0, none⟩ = some (.int .i64 m) := (s5.box (b := w.heap.size) (cs := #[.int .i64 m, .int .i64 t, .slice A L C]) (t := 29) (by simp)).cell 0
        have s6 := Dk.Sep.setBox (us1 := []) (o := 2) s5 (.int .i64 m)
        have s6 : Dk.Sep w (W5.setCell ⟨W2.heap.size, 2, none⟩ (.int .i64 m)) [Dk.boxOf W2.heap.size #[.int .i64 4, .int .i64 t, .int .i64 m] 36, Dk.rowOf 36 3 (.slice (some ⟨W1.heap.size, 0, none⟩) 0 0) 0 [], Dk.boxOf w.heap.size #[.int .i64 m, .int .i64 t, .slice A L C] 29] := s6
        obtain ⟨W6, e6⟩ : ∃ W, W = W5.setCell ⟨W2.heap.size, 2, none⟩ (.int .i64 m) := ⟨_, rfl⟩
        rw [← e6] at s6
        have H6 : Hid (W5.setCell ⟨W2.heap.size, 2, none⟩ (.int .i64 m) = W6) := e6.symm
        have b6 := s6.box (List.mem_cons_self ..)
        have k0 : W6.cell? ⟨W2.heap.size, 0, none⟩ = some (.int .i64 4) := b6.cell 0
        have k1 : W6.cell? ⟨W2.heap.size, 1, none⟩ = some (.int .i64 t) := b6.cell 1
        have k2 : W6.cell? ⟨W2.heap.size, 2, none⟩ = some (.int .i64 m) := b6.cell 2
        obtain ⟨v', w3, hrun, S3⟩ := Dk.Sep.appendE (us1 := [_]) (xs := []) (x := ⟨4, t, m⟩) KE s6 (by unfold maxLen; omega) (by omega)
        have Hl0 : Hid (l0.length ≤ 1) := by rw [← hl0]; exact Nat.le_refl _
        have SA : Dk.Sep w w3 [Dk.rowOf 36 3 v' l0.length (Dk.evs l0), Dk.boxOf w.heap.size #[.int .i64 m, .int .i64 t, .slice A L C] 29] := by rw [← hl0]; exact S3.sub (List.sublist_cons_self _ _)
        clear s2 S3 hl0 HOwn HR HHo s4 e4 s5 e5 s6 e6 b4 b5 b6
        go_wp2_with (first | (rw [H4.out]; clear H4) | (rw [H5.out]; clear H5) | (rw [H6.out]; clear H6) | (at_builtin; refine Lib.wpList_append_run _ rfl _ _ _ _ rfl _ _ rfl rfl _ _ hrun ?_; clear hrun))
        clear c0 c1 c2
        go_loopw [3, 7] (fun v i w' => ∃ k : Nat, k ≤ L ∧ i = .int .i64 k ∧ Dk.Sep w w' [Dk.rowOf 36 3 v (l0 ++ Dk.keepL (es.take k)).length (Dk.evs (l0 ++ Dk.keepL (es.take k))), Dk.boxOf w.heap.size #[.int .i64 m, .int .i64 t, .slice A L C] 29]) (fun v i w' => L - (intOf i).toNat)
        case atStart => exact ⟨0, Nat.zero_le _, rfl, by simpa [Dk.keepL] using SA⟩
        case round =>
          clear SA
          obtain ⟨k, hk, rfl, hS⟩ := hrel
          have hb := hS.out
          have bV := hS.box (b := w.heap.size) (cs := #[.int .i64 m, .int .i64 t, .slice A L C]) (t := 29) (by simp)
          have hwr : w.heap.size < wr.heap.size := bV.lt
          have c2 : wr.cell? ⟨w.heap.size, 2, none⟩ = some (.slice A L C) := bV.cell 2
          by_cases hlt : k < L
          · obtain ⟨b, o, rfl, hbb, _, k0, k1, k2⟩ := HH.out.at hlt
            have hkl : k < es.length := by rw [HL.out]; exact hlt
            have hn : (l0 ++ Dk.keepL (es.take k)).length ≤ k + 1 := by
              rw [List.length_append]
              have h1 := Hl0.out
              have h2 := Dk.keepL_len (es.take k)
              rw [List.length_take] at h2
              omega
            have HY : Hid ((es.getD k Dk.Ev.zero).kept = true → l0 ++ Dk.keepL (es.take (k + 1)) = l0 ++ Dk.keepL (es.take k) ++ [es.getD k Dk.Ev.zero]) := fun h => by rw [Dk.keepL_yes hkl h, List.append_assoc]
            have HN : Hid ((es.getD k Dk.Ev.zero).kept = false → l0 ++ Dk.keepL (es.take (k + 1)) = l0 ++ Dk.keepL (es.take k)) := fun h => by rw [Dk.keepL_no hkl h]
            generalize l0 ++ Dk.keepL (es.take k) = l1 at *
            generalize es.getD k Dk.Ev.zero = x at k0 k1 k2 HY HN
            have KR := fun w => refRuns_any x w
            have hkept : x.kept = (x.runs || x.within) := rfl
            have hwith : x.within = decide (0 < x.m) := rfl
            generalize (if x.runs then x.t else 0) = tv at KR
            generalize x.runs = xr at KR hkept
            generalize x.within = xs at hwith hkept
            obtain ⟨xk, xt, xm⟩ := x
            have f0 : wr.cell? ⟨b, o + k * 3, none⟩ = some (.int .i64 xk) := by rw [hb.cell (by exact hbb)]; exact k0
            have f1 : wr.cell? ⟨b, o + k * 3 + 1, none⟩ = some (.int .i64 xt) := by rw [hb.cell (by exact hbb)]; exact k1
            have f2 : wr.cell? ⟨b, o + k * 3 + 2, none⟩ = some (.int .i64 xm) := by rw [hb.cell (by exact hbb)]; exact k2
            have FC : Hid (∀ w', Below wr.heap.size wr w' → w'.cell? ⟨w.heap.size, 2, none⟩ = some (.slice (some ⟨b, o, none⟩) L C) ∧ w'.cell? ⟨b, o + k * 3, none⟩ = some (.int .i64 xk) ∧ w'.cell? ⟨b, o + k * 3 + 1, none⟩ = some (.int .i64 xt) ∧ w'.cell? ⟨b, o + k * 3 + 2, none⟩ = some (.int .i64 xm)) := fun w' u =>
              ⟨(bV.up u).cell 2, (u.cell (by show b < wr.heap.size; omega)).trans f0, (u.cell (by show b < wr.heap.size; omega)).trans f1, (u.cell (by show b < wr.heap.size; omega)).trans f2⟩
            clear hb k0 k1 k2 bV
            have KR := KR wr
            cases xr with
            | true =>
              have HQ : Hid _ := HY.out hkept
              clear HY HN hkept hwith
              go_wp2_with fail
              refine KR.mono ?_
              rintro e w2 ⟨rfl, v2⟩
              have S2 := hS.below v2
              obtain ⟨g0, g1, g2, g3⟩ := FC.out _ v2
              obtain ⟨v', w3, hrun, S3⟩ := Dk.Sep.appendE (us1 := []) (x := ⟨xk, xt, xm⟩) KE S2 (by unfold maxLen; omega) (by omega)
              clear KR f0 f1 f2 c2 hS S2 v2 FC
              go_wp2_with (at_builtin; refine Lib.wpList_append_run _ rfl _ _ _ _ rfl _ _ rfl rfl _ _ hrun ?_)
              go_roundw
              case rel => exact ⟨k + 1, by omega, by go_num, by rw [HQ.out, List.length_append]; exact S3⟩
              case measure => simp [intOf]; omega
            | false =>
              cases xs with
              | true =>
                have HQ : Hid _ := HY.out hkept
                have hm0 : (0 : Int) < xm := of_decide_eq_true hwith.symm
                clear HY HN hkept hwith
                go_wp2_with fail
                refine KR.mono ?_
                rintro e w2 ⟨rfl, v2⟩
                have S2 := hS.below v2
                obtain ⟨g0, g1, g2, g3⟩ := FC.out _ v2
                obtain ⟨v', w3, hrun, S3⟩ := Dk.Sep.appendE (us1 := []) (x := ⟨xk, xt, xm⟩) KE S2 (by unfold maxLen; omega) (by omega)
                clear KR f0 f1 f2 c2 hS S2 v2 FC
                go_wp2_with (at_builtin; refine Lib.wpList_append_run _ rfl _ _ _ _ rfl _ _ rfl rfl _ _ hrun ?_)
                go_roundw
                case rel => exact ⟨k + 1, by omega, by go_num, by rw [HQ.out, List.length_append]; exact S3⟩
                case measure => simp [intOf]; omega
              | false =>
                have HQ : Hid _ := HN.out hkept
                have hm0 : ¬ (0 : Int) < xm := of_decide_eq_false hwith.symm
                clear HY HN hkept hwith
                go_wp2_with fail
                refine KR.mono ?_
                rintro e w2 ⟨rfl, v2⟩
                have S2 := hS.below v2
                obtain ⟨g0, g1, g2, g3⟩ := FC.out _ v2
                clear KR f0 f1 f2 c2 hS v2 FC
                go_wp2_with fail
                go_roundw
                case rel => exact ⟨k + 1, by omega, by go_num, by rw [HQ.out]; exact S2⟩
                case measure => simp [intOf]; omega
          · obtain rfl : k = L := by omega
            rw [List.take_of_length_le (by rw [HL.out]; omega)] at hS
            obtain ⟨B, D, ev, _, _⟩ := Dk.owns_slice (hS.row (e := 36) (s := 3) (v := u3) (n := (l0 ++ Dk.keepL es).length) (xs := Dk.evs (l0 ++ Dk.keepL es)) (by simp))
            subst ev
            have HS : Hid _ := hS.sub (us := [_]) ((List.nil_sublist _).cons_cons _)
            clear hS hb bV
            go_wp2
            go_ret
            exact ⟨_, _, rfl, HS.out⟩
end Go.Proofs.Ythpphicgkkhbfaa
