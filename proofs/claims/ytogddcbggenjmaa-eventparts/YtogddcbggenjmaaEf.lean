/- Layer 14: whose threads any events are, which may run by them, which count again. -/
import Derived.Test.YtogddcbggenjmaaEe
namespace Go.Proofs.Ytogddcbggenjmaa
set_option linter.unusedSimpArgs false
set_option linter.unusedVariables false
set_option linter.unnecessarySimpa false
open Go.RowKit Go.Lib
set_option maxRecDepth 100000 in
set_option maxHeartbeats 4000000 in
theorem EventParts_any {A : Option Addr} {L C : Nat} {es : List Dk.Ev} {w : World} (hE : Dk.SlE w.heap.size w A L C es) (hL : L ≤ 5864062014805) :
    Calls Try.prog 3 #[.slice A L C] w fun e w' => e = .returned (.bool true) ∧ Below w.heap.size w w' := by
  have hlen := hE.len
  have hcap := hE.cap
  have hmax := hE.max
  unfold maxLen at hmax
  have HH : Hid (Dk.SlE w.heap.size w A L C es) := hE
  have HL : Hid (es.length = L) := hlen
  obtain ⟨W1, e1⟩ : ∃ W, W = w.alloc (.cells #[] 3) := ⟨_, rfl⟩
  have s1 := (Dk.Sep.begin (Below.refl w.heap.size w)).empty (s := 1) e1
  obtain ⟨W2, e2⟩ : ∃ W, W = W1.alloc (.cells #[] 3) := ⟨_, rfl⟩
  have s2 := s1.empty (s := 1) e2
  obtain ⟨W3, e3⟩ : ∃ W, W = W2.alloc (.cells #[] 25) := ⟨_, rfl⟩
  have s3 := s2.empty (s := 3) e3
  have s4 := s3.perm (us := [_, _, _]) ((List.Perm.swap _ _ _).trans (((List.Perm.swap _ _ _).cons _).trans (List.Perm.swap _ _ _)))
  have H1 : Hid (w.alloc (.cells #[] 3) = W1) := e1.symm
  have H2 : Hid (W1.alloc (.cells #[] 3) = W2) := e2.symm
  have H3 : Hid (W2.alloc (.cells #[] 25) = W3) := e3.symm
  clear hE hlen s1 s2 s3 e1 e2 e3
  go_enter Try.func3, Try.ntmps3
  go_wp2_with (first | (rw [H1.out]; clear H1) | (rw [H2.out]; clear H2) | (rw [H3.out]; clear H3))
  go_loopw [3, 4, 5, 6] (fun v3 v4 v5 i w' => ∃ k : Nat, k ≤ L ∧ i = .int .i64 k ∧ Dk.Sep w w' [Dk.rowOf 3 1 v3 (Dk.tellL Dk.Ev.has (es.take k)).length (Dk.is (Dk.tellL Dk.Ev.has (es.take k))), Dk.rowOf 3 1 v4 (Dk.tellL Dk.Ev.runs (es.take k)).length (Dk.is (Dk.tellL Dk.Ev.runs (es.take k))), Dk.rowOf 25 3 v5 (Dk.keepL (es.take k)).length (Dk.evs (Dk.keepL (es.take k)))]) (fun v3 v4 v5 i w' => L - (intOf i).toNat)
  case atStart => exact ⟨0, Nat.zero_le _, rfl, s4⟩
  case round =>
    clear s4
    obtain ⟨k, hk, rfl, hS⟩ := hrel
    have hb := hS.out
    by_cases hlt : k < L
    · obtain ⟨b, o, rfl, hbb, _, k0, k1, k2⟩ := HH.out.at hlt
      have hkl : k < es.length := by rw [HL.out]; exact hlt
      have hn1 : (Dk.tellL Dk.Ev.has (es.take k)).length ≤ k := Nat.le_trans (Dk.tellL_len _ _) (by rw [List.length_take]; omega)
      have hn2 : (Dk.tellL Dk.Ev.runs (es.take k)).length ≤ k := Nat.le_trans (Dk.tellL_len _ _) (by rw [List.length_take]; omega)
      have hn3 : (Dk.keepL (es.take k)).length ≤ k := Nat.le_trans (Dk.keepL_len _) (by rw [List.length_take]; omega)
      have HY1 : Hid ((es.getD k Dk.Ev.zero).has = true → Dk.tellL Dk.Ev.has (es.take (k + 1)) = Dk.tellL Dk.Ev.has (es.take k) ++ [(es.getD k Dk.Ev.zero).t]) := Dk.tellL_yes hkl
      have HN1 : Hid ((es.getD k Dk.Ev.zero).has = false → Dk.tellL Dk.Ev.has (es.take (k + 1)) = Dk.tellL Dk.Ev.has (es.take k)) := Dk.tellL_no hkl
      have HY2 : Hid ((es.getD k Dk.Ev.zero).runs = true → Dk.tellL Dk.Ev.runs (es.take (k + 1)) = Dk.tellL Dk.Ev.runs (es.take k) ++ [(es.getD k Dk.Ev.zero).t]) := Dk.tellL_yes hkl
      have HN2 : Hid ((es.getD k Dk.Ev.zero).runs = false → Dk.tellL Dk.Ev.runs (es.take (k + 1)) = Dk.tellL Dk.Ev.runs (es.take k)) := Dk.tellL_no hkl
      have HY3 : Hid ((es.getD k Dk.Ev.zero).kept = true → Dk.keepL (es.take (k + 1)) = Dk.keepL (es.take k) ++ [es.getD k Dk.Ev.zero]) := Dk.keepL_yes hkl
      have HN3 : Hid ((es.getD k Dk.Ev.zero).kept = false → Dk.keepL (es.take (k + 1)) = Dk.keepL (es.take k)) := Dk.keepL_no hkl
      generalize es.getD k Dk.Ev.zero = x at k0 k1 k2 HY1 HY2 HY3 HN1 HN2 HN3
      have KA := fun w => refRuns_any x w
      have KB := fun w => Runs_any x w
      have c0 : wr.cell? ⟨b, o + k * 3, none⟩ = some (.int .i64 x.k) := by rw [hb.cell (by exact hbb)]; exact k0
      have c1 : wr.cell? ⟨b, o + k * 3 + 1, none⟩ = some (.int .i64 x.t) := by rw [hb.cell (by exact hbb)]; exact k1
      have c2 : wr.cell? ⟨b, o + k * 3 + 2, none⟩ = some (.int .i64 x.m) := by rw [hb.cell (by exact hbb)]; exact k2
      obtain ⟨W1, e1⟩ : ∃ W1, W1 = wr.alloc (.cells #[.int .i64 x.k, .int .i64 x.t, .int .i64 x.m] 25) := ⟨_, rfl⟩
      have S1 := hS.newBox e1
      have HE : Hid (wr.alloc (.cells #[.int .i64 x.k, .int .i64 x.t, .int .i64 x.m] 25) = W1) := e1.symm
      have FB : Hid (∀ w2 ts, Dk.Sep w w2 (Dk.boxOf wr.heap.size #[.int .i64 x.k, .int .i64 x.t, .int .i64 x.m] 25 :: ts) → w2.cell? ⟨wr.heap.size, 0, none⟩ = some (.int .i64 x.k) ∧ w2.cell? ⟨wr.heap.size, 1, none⟩ = some (.int .i64 x.t) ∧ w2.cell? ⟨wr.heap.size, 2, none⟩ = some (.int .i64 x.m)) := fun w2 ts h => ⟨(h.box (List.mem_cons_self ..)).cell 0, (h.box (List.mem_cons_self ..)).cell 1, (h.box (List.mem_cons_self ..)).cell 2⟩
      obtain ⟨d0, d1, d2⟩ := FB.out _ _ S1
      clear e1 hb hS k0 k1 k2 hkl
      obtain ⟨hh, ehh⟩ : ∃ h, x.has = h := ⟨_, rfl⟩
      obtain ⟨hr, ehr⟩ : ∃ h, x.runs = h := ⟨_, rfl⟩
      obtain ⟨hw, ehw⟩ : ∃ h, x.within = h := ⟨_, rfl⟩
      obtain ⟨xk, xt, xm⟩ := x
      have hhas := ehh
      have hruns := ehr
      have hwith := ehw
      clear ehh ehr ehw
      match hh, hr, hw, hhas, hruns, hwith with
      | true, true, true, hhas, hruns, hwith =>
        have Q1 : Hid (Dk.tellL Dk.Ev.has (es.take (k + 1)) = Dk.tellL Dk.Ev.has (es.take k) ++ [xt]) := (HY1).out hhas
        have Q2 : Hid (Dk.tellL Dk.Ev.runs (es.take (k + 1)) = Dk.tellL Dk.Ev.runs (es.take k) ++ [xt]) := (HY2).out hruns
        have Q3 : Hid (Dk.keepL (es.take (k + 1)) = Dk.keepL (es.take k) ++ [⟨xk, xt, xm⟩]) := (HY3).out (by unfold Dk.Ev.kept; rw [hruns, hwith]; rfl)
        have y1 : decide (0 ≤ xt) = true := hhas
        rw [hruns] at KA KB
        have KA : ∀ w, Calls Try.prog 7 #[.agg #[.int .i64 xk, .int .i64 xt, .int .i64 xm]] w fun x w' => x = .returned (.tuple #[.int .i64 xt, .bool true]) ∧ Below w.heap.size w w' := KA
        have KB : ∀ w, Calls Try.prog 8 #[.agg #[.int .i64 xk, .int .i64 xt, .int .i64 xm]] w fun x w' => x = .returned (.tuple #[.int .i64 xt, .bool true]) ∧ Below w.heap.size w w' := KB
        have y3 : (xt != xt) = false := by simp
        clear HY1 HY2 HY3 HN1 HN2 HN3 hhas hruns hwith
        obtain ⟨v1, w1, r1, S2⟩ := Dk.Sep.appendI (us1 := [_]) (x := xt) KI S1 (by unfold maxLen; omega) (by omega)
        obtain ⟨f0, f1, f2⟩ := FB.out _ _ S2
        clear S1
        go_wp2_with (first | (rw [HE.out]; clear HE) | (at_builtin; refine Lib.wpList_append_run _ rfl _ _ _ _ rfl _ _ rfl rfl _ _ r1 ?_; clear d0 d1 d2 r1))
        refine (KA _).mono ?_
        rintro e w2 ⟨rfl, v2⟩
        have S3 := S2.below v2
        obtain ⟨g0, g1, g2⟩ := FB.out _ _ S3
        clear S2 v2 KA f0 f1 f2
        go_wp2_with fail
        refine (KB _).mono ?_
        rintro e w3 ⟨rfl, v3⟩
        have S4 := S3.below v3
        obtain ⟨h0, h1, h2⟩ := FB.out _ _ S4
        clear S3 v3 KB g0 g1 g2
        obtain ⟨v5, w5, r5, S5⟩ := Dk.Sep.appendI (us1 := [_, _]) (x := xt) KI S4 (by unfold maxLen; omega) (by omega)
        obtain ⟨i0, i1, i2⟩ := FB.out _ _ S5
        obtain ⟨v6, w6, r6, S6⟩ := Dk.Sep.appendE (us1 := [_, _, _]) (x := ⟨xk, xt, xm⟩) KE S5 (by unfold maxLen; omega) (by omega)
        have SL := S6.sub (List.sublist_cons_self _ _)
        clear FB S4 S5 S6
        go_wp2_with (at_builtin; first | (refine Lib.wpList_append_run _ rfl _ _ _ _ rfl _ _ rfl rfl _ _ r5 ?_; clear r5 h0 h1 h2) | (refine Lib.wpList_append_run _ rfl _ _ _ _ rfl _ _ rfl rfl _ _ r6 ?_))
        go_roundw
        case rel => exact ⟨k + 1, by omega, by go_num, by rw [Q1.out, Q2.out, Q3.out]; simpa [List.length_append] using SL⟩
        case measure => simp [intOf]; omega
      | true, true, false, hhas, hruns, hwith =>
        have Q1 : Hid (Dk.tellL Dk.Ev.has (es.take (k + 1)) = Dk.tellL Dk.Ev.has (es.take k) ++ [xt]) := (HY1).out hhas
        have Q2 : Hid (Dk.tellL Dk.Ev.runs (es.take (k + 1)) = Dk.tellL Dk.Ev.runs (es.take k) ++ [xt]) := (HY2).out hruns
        have Q3 : Hid (Dk.keepL (es.take (k + 1)) = Dk.keepL (es.take k) ++ [⟨xk, xt, xm⟩]) := (HY3).out (by unfold Dk.Ev.kept; rw [hruns, hwith]; rfl)
        have y1 : decide (0 ≤ xt) = true := hhas
        rw [hruns] at KA KB
        have KA : ∀ w, Calls Try.prog 7 #[.agg #[.int .i64 xk, .int .i64 xt, .int .i64 xm]] w fun x w' => x = .returned (.tuple #[.int .i64 xt, .bool true]) ∧ Below w.heap.size w w' := KA
        have KB : ∀ w, Calls Try.prog 8 #[.agg #[.int .i64 xk, .int .i64 xt, .int .i64 xm]] w fun x w' => x = .returned (.tuple #[.int .i64 xt, .bool true]) ∧ Below w.heap.size w w' := KB
        have y3 : (xt != xt) = false := by simp
        clear HY1 HY2 HY3 HN1 HN2 HN3 hhas hruns hwith
        obtain ⟨v1, w1, r1, S2⟩ := Dk.Sep.appendI (us1 := [_]) (x := xt) KI S1 (by unfold maxLen; omega) (by omega)
        obtain ⟨f0, f1, f2⟩ := FB.out _ _ S2
        clear S1
        go_wp2_with (first | (rw [HE.out]; clear HE) | (at_builtin; refine Lib.wpList_append_run _ rfl _ _ _ _ rfl _ _ rfl rfl _ _ r1 ?_; clear d0 d1 d2 r1))
        refine (KA _).mono ?_
        rintro e w2 ⟨rfl, v2⟩
        have S3 := S2.below v2
        obtain ⟨g0, g1, g2⟩ := FB.out _ _ S3
        clear S2 v2 KA f0 f1 f2
        go_wp2_with fail
        refine (KB _).mono ?_
        rintro e w3 ⟨rfl, v3⟩
        have S4 := S3.below v3
        obtain ⟨h0, h1, h2⟩ := FB.out _ _ S4
        clear S3 v3 KB g0 g1 g2
        obtain ⟨v5, w5, r5, S5⟩ := Dk.Sep.appendI (us1 := [_, _]) (x := xt) KI S4 (by unfold maxLen; omega) (by omega)
        obtain ⟨i0, i1, i2⟩ := FB.out _ _ S5
        obtain ⟨v6, w6, r6, S6⟩ := Dk.Sep.appendE (us1 := [_, _, _]) (x := ⟨xk, xt, xm⟩) KE S5 (by unfold maxLen; omega) (by omega)
        have SL := S6.sub (List.sublist_cons_self _ _)
        clear FB S4 S5 S6
        go_wp2_with (at_builtin; first | (refine Lib.wpList_append_run _ rfl _ _ _ _ rfl _ _ rfl rfl _ _ r5 ?_; clear r5 h0 h1 h2) | (refine Lib.wpList_append_run _ rfl _ _ _ _ rfl _ _ rfl rfl _ _ r6 ?_))
        go_roundw
        case rel => exact ⟨k + 1, by omega, by go_num, by rw [Q1.out, Q2.out, Q3.out]; simpa [List.length_append] using SL⟩
        case measure => simp [intOf]; omega
      | true, false, true, hhas, hruns, hwith =>
        have Q1 : Hid (Dk.tellL Dk.Ev.has (es.take (k + 1)) = Dk.tellL Dk.Ev.has (es.take k) ++ [xt]) := (HY1).out hhas
        have Q2 : Hid (Dk.tellL Dk.Ev.runs (es.take (k + 1)) = Dk.tellL Dk.Ev.runs (es.take k)) := (HN2).out hruns
        have Q3 : Hid (Dk.keepL (es.take (k + 1)) = Dk.keepL (es.take k) ++ [⟨xk, xt, xm⟩]) := (HY3).out (by unfold Dk.Ev.kept; rw [hruns, hwith]; rfl)
        have y1 : decide (0 ≤ xt) = true := hhas
        have y2 : decide (0 < xm) = true := hwith
        rw [hruns] at KA KB
        have KA : ∀ w, Calls Try.prog 7 #[.agg #[.int .i64 xk, .int .i64 xt, .int .i64 xm]] w fun x w' => x = .returned (.tuple #[.int .i64 0, .bool false]) ∧ Below w.heap.size w w' := KA
        have KB : ∀ w, Calls Try.prog 8 #[.agg #[.int .i64 xk, .int .i64 xt, .int .i64 xm]] w fun x w' => x = .returned (.tuple #[.int .i64 0, .bool false]) ∧ Below w.heap.size w w' := KB
        clear HY1 HY2 HY3 HN1 HN2 HN3 hhas hruns hwith
        obtain ⟨v1, w1, r1, S2⟩ := Dk.Sep.appendI (us1 := [_]) (x := xt) KI S1 (by unfold maxLen; omega) (by omega)
        obtain ⟨f0, f1, f2⟩ := FB.out _ _ S2
        clear S1
        go_wp2_with (first | (rw [HE.out]; clear HE) | (at_builtin; refine Lib.wpList_append_run _ rfl _ _ _ _ rfl _ _ rfl rfl _ _ r1 ?_; clear d0 d1 d2 r1))
        refine (KA _).mono ?_
        rintro e w2 ⟨rfl, v2⟩
        have S3 := S2.below v2
        obtain ⟨g0, g1, g2⟩ := FB.out _ _ S3
        clear S2 v2 KA f0 f1 f2
        go_wp2_with fail
        refine (KB _).mono ?_
        rintro e w3 ⟨rfl, v3⟩
        have S4 := S3.below v3
        obtain ⟨h0, h1, h2⟩ := FB.out _ _ S4
        clear S3 v3 KB g0 g1 g2
        obtain ⟨v6, w6, r6, S6⟩ := Dk.Sep.appendE (us1 := [_, _, _]) (x := ⟨xk, xt, xm⟩) KE S4 (by unfold maxLen; omega) (by omega)
        have SL := S6.sub (List.sublist_cons_self _ _)
        clear FB S4 S6
        go_wp2_with (at_builtin; refine Lib.wpList_append_run _ rfl _ _ _ _ rfl _ _ rfl rfl _ _ r6 ?_)
        go_roundw
        case rel => exact ⟨k + 1, by omega, by go_num, by rw [Q1.out, Q2.out, Q3.out]; simpa [List.length_append] using SL⟩
        case measure => simp [intOf]; omega
      | true, false, false, hhas, hruns, hwith =>
        have Q1 : Hid (Dk.tellL Dk.Ev.has (es.take (k + 1)) = Dk.tellL Dk.Ev.has (es.take k) ++ [xt]) := (HY1).out hhas
        have Q2 : Hid (Dk.tellL Dk.Ev.runs (es.take (k + 1)) = Dk.tellL Dk.Ev.runs (es.take k)) := (HN2).out hruns
        have Q3 : Hid (Dk.keepL (es.take (k + 1)) = Dk.keepL (es.take k)) := (HN3).out (by unfold Dk.Ev.kept; rw [hruns, hwith]; rfl)
        have y1 : decide (0 ≤ xt) = true := hhas
        have y2 : decide (0 < xm) = false := hwith
        rw [hruns] at KA KB
        have KA : ∀ w, Calls Try.prog 7 #[.agg #[.int .i64 xk, .int .i64 xt, .int .i64 xm]] w fun x w' => x = .returned (.tuple #[.int .i64 0, .bool false]) ∧ Below w.heap.size w w' := KA
        have KB : ∀ w, Calls Try.prog 8 #[.agg #[.int .i64 xk, .int .i64 xt, .int .i64 xm]] w fun x w' => x = .returned (.tuple #[.int .i64 0, .bool false]) ∧ Below w.heap.size w w' := KB
        clear HY1 HY2 HY3 HN1 HN2 HN3 hhas hruns hwith
        obtain ⟨v1, w1, r1, S2⟩ := Dk.Sep.appendI (us1 := [_]) (x := xt) KI S1 (by unfold maxLen; omega) (by omega)
        obtain ⟨f0, f1, f2⟩ := FB.out _ _ S2
        clear S1
        go_wp2_with (first | (rw [HE.out]; clear HE) | (at_builtin; refine Lib.wpList_append_run _ rfl _ _ _ _ rfl _ _ rfl rfl _ _ r1 ?_; clear d0 d1 d2 r1))
        refine (KA _).mono ?_
        rintro e w2 ⟨rfl, v2⟩
        have S3 := S2.below v2
        obtain ⟨g0, g1, g2⟩ := FB.out _ _ S3
        clear S2 v2 KA f0 f1 f2
        go_wp2_with fail
        refine (KB _).mono ?_
        rintro e w3 ⟨rfl, v3⟩
        have S4 := S3.below v3
        obtain ⟨h0, h1, h2⟩ := FB.out _ _ S4
        clear S3 v3 KB g0 g1 g2
        have SL := S4.sub (List.sublist_cons_self _ _)
        clear FB S4
        go_wp2_with fail
        go_roundw
        case rel => exact ⟨k + 1, by omega, by go_num, by rw [Q1.out, Q2.out, Q3.out]; simpa [List.length_append] using SL⟩
        case measure => simp [intOf]; omega
      | false, false, true, hhas, hruns, hwith =>
        have Q1 : Hid (Dk.tellL Dk.Ev.has (es.take (k + 1)) = Dk.tellL Dk.Ev.has (es.take k)) := (HN1).out hhas
        have Q2 : Hid (Dk.tellL Dk.Ev.runs (es.take (k + 1)) = Dk.tellL Dk.Ev.runs (es.take k)) := (HN2).out hruns
        have Q3 : Hid (Dk.keepL (es.take (k + 1)) = Dk.keepL (es.take k) ++ [⟨xk, xt, xm⟩]) := (HY3).out (by unfold Dk.Ev.kept; rw [hruns, hwith]; rfl)
        have y1 : decide (0 ≤ xt) = false := hhas
        have y2 : decide (0 < xm) = true := hwith
        rw [hruns] at KA KB
        have KA : ∀ w, Calls Try.prog 7 #[.agg #[.int .i64 xk, .int .i64 xt, .int .i64 xm]] w fun x w' => x = .returned (.tuple #[.int .i64 0, .bool false]) ∧ Below w.heap.size w w' := KA
        have KB : ∀ w, Calls Try.prog 8 #[.agg #[.int .i64 xk, .int .i64 xt, .int .i64 xm]] w fun x w' => x = .returned (.tuple #[.int .i64 0, .bool false]) ∧ Below w.heap.size w w' := KB
        clear HY1 HY2 HY3 HN1 HN2 HN3 hhas hruns hwith
        go_wp2_with (rw [HE.out]; clear HE)
        refine (KA _).mono ?_
        rintro e w2 ⟨rfl, v2⟩
        have S3 := S1.below v2
        obtain ⟨g0, g1, g2⟩ := FB.out _ _ S3
        clear S1 v2 KA d0 d1 d2
        go_wp2_with fail
        refine (KB _).mono ?_
        rintro e w3 ⟨rfl, v3⟩
        have S4 := S3.below v3
        obtain ⟨h0, h1, h2⟩ := FB.out _ _ S4
        clear S3 v3 KB g0 g1 g2
        obtain ⟨v6, w6, r6, S6⟩ := Dk.Sep.appendE (us1 := [_, _, _]) (x := ⟨xk, xt, xm⟩) KE S4 (by unfold maxLen; omega) (by omega)
        have SL := S6.sub (List.sublist_cons_self _ _)
        clear FB S4 S6
        go_wp2_with (at_builtin; refine Lib.wpList_append_run _ rfl _ _ _ _ rfl _ _ rfl rfl _ _ r6 ?_)
        go_roundw
        case rel => exact ⟨k + 1, by omega, by go_num, by rw [Q1.out, Q2.out, Q3.out]; simpa [List.length_append] using SL⟩
        case measure => simp [intOf]; omega
      | false, false, false, hhas, hruns, hwith =>
        have Q1 : Hid (Dk.tellL Dk.Ev.has (es.take (k + 1)) = Dk.tellL Dk.Ev.has (es.take k)) := (HN1).out hhas
        have Q2 : Hid (Dk.tellL Dk.Ev.runs (es.take (k + 1)) = Dk.tellL Dk.Ev.runs (es.take k)) := (HN2).out hruns
        have Q3 : Hid (Dk.keepL (es.take (k + 1)) = Dk.keepL (es.take k)) := (HN3).out (by unfold Dk.Ev.kept; rw [hruns, hwith]; rfl)
        have y1 : decide (0 ≤ xt) = false := hhas
        have y2 : decide (0 < xm) = false := hwith
        rw [hruns] at KA KB
        have KA : ∀ w, Calls Try.prog 7 #[.agg #[.int .i64 xk, .int .i64 xt, .int .i64 xm]] w fun x w' => x = .returned (.tuple #[.int .i64 0, .bool false]) ∧ Below w.heap.size w w' := KA
        have KB : ∀ w, Calls Try.prog 8 #[.agg #[.int .i64 xk, .int .i64 xt, .int .i64 xm]] w fun x w' => x = .returned (.tuple #[.int .i64 0, .bool false]) ∧ Below w.heap.size w w' := KB
        clear HY1 HY2 HY3 HN1 HN2 HN3 hhas hruns hwith
        go_wp2_with (rw [HE.out]; clear HE)
        refine (KA _).mono ?_
        rintro e w2 ⟨rfl, v2⟩
        have S3 := S1.below v2
        obtain ⟨g0, g1, g2⟩ := FB.out _ _ S3
        clear S1 v2 KA d0 d1 d2
        go_wp2_with fail
        refine (KB _).mono ?_
        rintro e w3 ⟨rfl, v3⟩
        have S4 := S3.below v3
        obtain ⟨h0, h1, h2⟩ := FB.out _ _ S4
        clear S3 v3 KB g0 g1 g2
        have SL := S4.sub (List.sublist_cons_self _ _)
        clear FB S4
        go_wp2_with fail
        go_roundw
        case rel => exact ⟨k + 1, by omega, by go_num, by rw [Q1.out, Q2.out, Q3.out]; simpa [List.length_append] using SL⟩
        case measure => simp [intOf]; omega
      | false, true, _, hhas, hruns, _ => exact absurd hhas (by simp [Dk.Ev.runs, Dk.Ev.has] at *; omega)
    · obtain rfl : k = L := by omega
      rw [List.take_of_length_le (by rw [HL.out]; omega)] at hS
      have hok := HH.out.wf
      have E0 : Hid _ := HH.out.up hb
      obtain ⟨A3, C3, rfl, q3⟩ := hS.asInts (e := 3) (v := u3) (xs := Dk.tellL Dk.Ev.has es) (by simp) rfl (Dk.tellL_ok hok)
      obtain ⟨A4, C4, rfl, q4⟩ := hS.asInts (e := 3) (v := u4) (xs := Dk.tellL Dk.Ev.runs es) (by simp) rfl (Dk.tellL_ok hok)
      obtain ⟨A5, C5, rfl, q5⟩ := hS.asEvs (e := 25) (v := u5) (xs := Dk.keepL es) (by simp) rfl (Dk.keepL_ok hok)
      have Q3 : Hid _ := q3
      have Q4 : Hid _ := q4
      have Q5 : Hid _ := q5
      have U0 : Hid _ := hb
      have HO1 : Hid _ := Dk.tellL_ok (p := Dk.Ev.has) hok
      have HO2 : Hid _ := Dk.tellL_ok (p := Dk.Ev.runs) hok
      have HO3 : Hid _ := Dk.keepL_ok hok
      clear hS q3 q4 q5 hb hok
      go_wp2_with fail
      refine (awake_any _).mono ?_
      rintro e w1 ⟨rfl, v1⟩
      have U1 : Hid _ := Dk.up_call U0.out v1
      have E1 : Hid _ := E0.out.up v1
      have Q3 : Hid _ := Dk.sli_up Q3.out v1
      have Q4 : Hid _ := Dk.sli_up Q4.out v1
      have Q5 : Hid _ := Q5.out.up v1
      clear v1 U0 E0
      have K1 := Threads_any E1.out hL
      have K2 := fun (w : World) h => Ready_any (w := w) (A := A) (L := k) (C := C) (es := es) h hL
      have K3 := fun (w : World) h => Keep_any (w := w) (A := A) (L := k) (C := C) (es := es) h hL
      generalize Dk.tellL Dk.Ev.has es = l1 at *
      generalize Dk.tellL Dk.Ev.runs es = l2 at *
      generalize Dk.keepL es = l3 at *
      go_wp2_with fail
      refine K1.mono ?_
      rintro e w2 ⟨v, rfl, s2⟩
      obtain ⟨A', C', rfl, q⟩ := s2.asInts (List.mem_cons_self ..) rfl HO1.out
      have KI := Ints_same _ _ _ _ _ l1 w2 q (Dk.sli_up Q3.out s2.out)
      have v2 := s2.out
      clear K1 s2 q
      go_wp2_with fail
      refine KI.mono ?_
      rintro e w3 ⟨rfl, v3⟩
      have v4 := Dk.up_call v2 v3
      have U4 : Hid _ := Dk.up_call U1.out v4
      have E4 : Hid _ := E1.out.up v4
      have Q4 : Hid _ := Dk.sli_up Q4.out v4
      have Q5 : Hid _ := Q5.out.up v4
      have K2 := K2 _ E4.out
      clear KI v2 v3 v4 U1 E1
      go_wp2_with fail
      refine K2.mono ?_
      rintro e w5 ⟨v, rfl, s2⟩
      obtain ⟨A'', C'', rfl, q⟩ := s2.asInts (List.mem_cons_self ..) rfl HO2.out
      have KI := Ints_same _ _ _ _ _ l2 w5 q (Dk.sli_up Q4.out s2.out)
      have v2 := s2.out
      clear K2 s2 q
      go_wp2_with fail
      refine KI.mono ?_
      rintro e w6 ⟨rfl, v3⟩
      have v4 := Dk.up_call v2 v3
      have U6 : Hid _ := Dk.up_call U4.out v4
      have E6 : Hid _ := E4.out.up v4
      have Q5 : Hid _ := Q5.out.up v4
      have K3 := K3 _ E6.out
      clear KI v2 v3 v4 U4 E4
      go_wp2_with fail
      refine K3.mono ?_
      rintro e w7 ⟨v, rfl, s2⟩
      obtain ⟨A8, C8, rfl, q⟩ := s2.asEvs (List.mem_cons_self ..) rfl HO3.out
      have KI := Events_same _ _ _ _ _ l3 w7 q (Q5.out.up s2.out)
      have v2 := s2.out
      clear K3 s2 q
      go_wp2_with fail
      refine KI.mono ?_
      rintro e w8 ⟨rfl, v3⟩
      have v4 := Dk.up_call v2 v3
      go_wp2
      go_ret
      exact ⟨rfl, Dk.up_call U6.out v4⟩
end Go.Proofs.Ytogddcbggenjmaa
