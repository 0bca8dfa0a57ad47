/- Layer 15: what is left of any vessel; whether it is within a section, and which thread it runs. -/
import Derived.Test.YthpphicgkkhbfaaZd
import Derived.Test.YthpphicgkkhbfaaZe
namespace Go.Proofs.Ythpphicgkkhbfaa
set_option linter.unusedSimpArgs false
set_option linter.unusedVariables false
set_option linter.unnecessarySimpa false
open Go.RowKit Go.Lib
set_option maxRecDepth 100000 in
set_option maxHeartbeats 4000000 in
theorem VesselStrips_any {m t : Int} {A : Option Addr} {L C : Nat} {es : List Dk.Ev} {w : World} (hm : Dk.i64 m) (ht : Dk.i64 t) (hE : Dk.SlE w.heap.size w A L C es) (hL : L + 1 ≤ 5864062014805) :
    Calls Try.prog 3 #[Dk.vv m t A L C] w fun e w' => e = .returned (.bool true) ∧ Below w.heap.size w w' := by
  have HO : Hid _ := Dk.stripV_ok hm ht hE.wf
  obtain ⟨W1, e1⟩ : ∃ W, W = w.alloc (.cells #[.int .i64 m, .int .i64 t, .slice A L C] 24) := ⟨_, rfl⟩
  have s1 := (Dk.Sep.begin (Below.refl w.heap.size w)).newBox e1
  have HE : Hid _ := hE.up s1.out
  have HU : Hid _ := s1.out
  have b1 := s1.box (List.mem_cons_self ..)
  have FC : Hid (∀ w', Below W1.heap.size W1 w' → w'.cell? ⟨w.heap.size, 0, none⟩ = some (.int .i64 m) ∧ w'.cell? ⟨w.heap.size, 1, none⟩ = some (.int .i64 t) ∧ w'.cell? ⟨w.heap.size, 2, none⟩ = some (.slice A L C)) := fun w' u =>
    ⟨(b1.up u).cell 0, (b1.up u).cell 1, (b1.up u).cell 2⟩
  have H1 : Hid (w.alloc (.cells #[.int .i64 m, .int .i64 t, .slice A L C] 24) = W1) := e1.symm
  clear hE e1 b1 s1
  go_enter Try.func3, Try.ntmps3
  go_wp2_with (rw [H1.out]; clear H1)
  refine Dk.wp_region_mix (S := fun w' => Below W1.heap.size W1 w') [(false, 0), (true, 1), (true, 2), (true, 4), (true, 5), (true, 6), (true, 7), (true, 8), (true, 9), (true, 10), (false, 3), (false, 11), (false, 12), (true, 13), (true, 14)] (by kernel_rfl) (by kernel_rfl) (by kernel_rfl) rfl (Dk.up_drew (Below.refl W1.heap.size W1)) ?_
  refine Dk.mix_call (f := 7) (args := #[]) rfl rfl (by go_simp) ?_
  refine (awake_any _).mono ?_
  rintro e w2 ⟨rfl, v2⟩
  have u2 := Dk.up_call (Dk.up_drew (Below.refl W1.heap.size W1)) v2
  refine ⟨_, rfl, u2, ?_⟩
  simp only [Act.put, List.setIfInBounds_toArray, List.set_cons_succ, List.set_cons_zero]
  refine Dk.mix_held rfl rfl (fun w' hw' => by go_simp; rfl) ?_
  simp only [Act.put, List.setIfInBounds_toArray, List.set_cons_succ, List.set_cons_zero]
  refine Dk.mix_held (v := .agg #[.int .i64 m, .int .i64 t, .slice A L C]) rfl rfl (fun w' hw' => by obtain ⟨q0, q1, q2⟩ := FC.out w' hw'; go_simp) ?_
  simp only [Act.put, List.setIfInBounds_toArray, List.set_cons_succ, List.set_cons_zero]
  refine Dk.mix_held rfl rfl (fun w' hw' => by go_simp; rfl) ?_
  simp only [Act.put, List.setIfInBounds_toArray, List.set_cons_succ, List.set_cons_zero]
  refine Dk.mix_held (v := .int .i64 m) rfl rfl (fun w' hw' => by obtain ⟨q0, q1, q2⟩ := FC.out w' hw'; go_simp) ?_
  simp only [Act.put, List.setIfInBounds_toArray, List.set_cons_succ, List.set_cons_zero]
  refine Dk.mix_held rfl rfl (fun w' hw' => by go_simp; rfl) ?_
  simp only [Act.put, List.setIfInBounds_toArray, List.set_cons_succ, List.set_cons_zero]
  refine Dk.mix_held (v := .int .i64 t) rfl rfl (fun w' hw' => by obtain ⟨q0, q1, q2⟩ := FC.out w' hw'; go_simp) ?_
  simp only [Act.put, List.setIfInBounds_toArray, List.set_cons_succ, List.set_cons_zero]
  refine Dk.mix_held rfl rfl (fun w' hw' => by go_simp; rfl) ?_
  simp only [Act.put, List.setIfInBounds_toArray, List.set_cons_succ, List.set_cons_zero]
  refine Dk.mix_held (v := .slice A L C) rfl rfl (fun w' hw' => by obtain ⟨q0, q1, q2⟩ := FC.out w' hw'; go_simp) ?_
  simp only [Act.put, List.setIfInBounds_toArray, List.set_cons_succ, List.set_cons_zero]
  refine Dk.mix_held (v := .agg #[.int .i64 m, .int .i64 t, .slice A L C]) rfl rfl (fun w' hw' => by go_simp) ?_
  simp only [Act.put, List.setIfInBounds_toArray, List.set_cons_succ, List.set_cons_zero]
  have K3 := Strip_any hm ht (HE.out.up u2) hL
  refine Dk.mix_call (f := 9) (args := #[Dk.vv m t A L C]) rfl rfl (by go_simp) ?_
  refine K3.mono ?_
  rintro e w3 ⟨B3, D3, rfl, s3⟩
  have u3 := Dk.up_call u2 s3.out
  refine ⟨_, rfl, u3, ?_⟩
  simp only [Act.put, List.setIfInBounds_toArray, List.set_cons_succ, List.set_cons_zero]
  have K4 := refStrip_any m t (HE.out.up u3) hL
  refine Dk.mix_call (f := 10) (args := #[Dk.vv m t A L C]) rfl rfl (by go_simp) ?_
  refine K4.mono ?_
  rintro e w4 ⟨B4, D4, rfl, s4⟩
  have u4 := Dk.up_call u3 s4.out
  refine ⟨_, rfl, u4, ?_⟩
  simp only [Act.put, List.setIfInBounds_toArray, List.set_cons_succ, List.set_cons_zero]
  obtain ⟨_, _, ev, q3⟩ := (s3.below s4.out).asEvs (e := 36) (List.mem_cons_self ..) rfl HO.out
  cases ev
  obtain ⟨_, _, ev, q4⟩ := s4.asEvs (e := 36) (List.mem_cons_self ..) rfl HO.out
  cases ev
  have K5 := Events_same _ _ _ _ _ _ w4 q3 q4
  refine Dk.mix_call (f := 8) (args := #[.slice B3 (Dk.stripV m t es).length D3, .slice B4 (Dk.stripV m t es).length D4]) rfl rfl (by go_simp) ?_
  refine K5.mono ?_
  rintro e w5 ⟨rfl, v5⟩
  have u5 := Dk.up_call u4 v5
  refine ⟨_, rfl, u5, ?_⟩
  simp only [Act.put, List.setIfInBounds_toArray, List.set_cons_succ, List.set_cons_zero]
  iterate 2 (refine Dk.mix_held rfl rfl (fun w' hw' => by go_simp; rfl) ?_; simp only [Act.put, List.setIfInBounds_toArray, List.set_cons_succ, List.set_cons_zero])
  show NoPanic _ Exit.normal _ _
  refine NoPanic.normal ?_
  have U : Hid _ := Dk.up_call HU.out u5
  clear K3 K4 K5 q3 q4 s3 s4 u2 u3 u4 u5 v2 v5
  go_wp2
  go_ret
  exact ⟨rfl, U.out⟩
set_option maxRecDepth 100000 in
set_option maxHeartbeats 8000000 in
theorem VesselRuns_any (m t : Int) (A : Option Addr) (L C : Nat) (w : World) :
    Calls Try.prog 4 #[Dk.vv m t A L C] w fun e w' => e = .returned (.bool true) ∧ Below w.heap.size w w' := by
  obtain ⟨W1, e1⟩ : ∃ W, W = w.alloc (.cells #[.int .i64 m, .int .i64 t, .slice A L C] 24) := ⟨_, rfl⟩
  have s1 := (Dk.Sep.begin (Below.refl w.heap.size w)).newBox e1
  have HU : Hid _ := s1.out
  have b1 := s1.box (List.mem_cons_self ..)
  have FC : Hid (∀ w', Below W1.heap.size W1 w' → w'.cell? ⟨w.heap.size, 0, none⟩ = some (.int .i64 m) ∧ w'.cell? ⟨w.heap.size, 1, none⟩ = some (.int .i64 t) ∧ w'.cell? ⟨w.heap.size, 2, none⟩ = some (.slice A L C)) := fun w' u =>
    ⟨(b1.up u).cell 0, (b1.up u).cell 1, (b1.up u).cell 2⟩
  obtain ⟨c0, c1, c2⟩ := FC.out _ (Below.refl _ _)
  have H1 : Hid (w.alloc (.cells #[.int .i64 m, .int .i64 t, .slice A L C] 24) = W1) := e1.symm
  have KR := VRuns_any m t A L C W1
  have KH := fun w => VHolds_any m t A L C w
  obtain ⟨r, hr⟩ : ∃ r, Dk.runsV m t = r := ⟨_, rfl⟩
  obtain ⟨h, hh⟩ : ∃ h, Dk.holdsV m = h := ⟨_, rfl⟩
  rw [hr] at KR
  rw [hh] at KH
  have HR : Hid _ := hr
  have HH : Hid _ := hh
  clear e1 b1 s1 hr hh
  obtain ⟨x, hx⟩ : ∃ x, (if r = true then t else 0) = x := ⟨_, rfl⟩
  rw [hx] at KR
  have HX : Hid _ := hx
  clear hx
  go_enter Try.func4, Try.ntmps4
  go_wp2_with (rw [H1.out]; clear H1)
  refine KR.mono ?_
  rintro e w2 ⟨rfl, v2⟩
  clear KR c0 c1 c2
  obtain ⟨c0, c1, c2⟩ := FC.out _ v2
  go_upto_region 2 with fail
  go_cut [5] from 11 to 28 (fun v5 w' => v5 = .bool r ∧ w' = w2)
  case first =>
    clear HH HX KH
    by_cases ht : 0 ≤ t
    all_goals rcases Dk.modes m with rfl | rfl | rfl | rfl | rfl | ⟨h2, h4, h5, h6, h7⟩
    all_goals (
      go_wp2_with fail
      go_meet
      refine ⟨?_, rfl⟩
      refine Eq.trans ?_ (congrArg Value.bool HR.out)
      first | rfl | (simp [Dk.runsV, ht]; done) | (simp [Dk.runsV, h5, h6, h7]; done))
  case rest =>
    obtain ⟨rfl, hw⟩ := hcut
    subst wc
    have t0 : ∀ y : Dk.Up w2, y.wd.cell? ⟨w.heap.size, 0, none⟩ = some (.int .i64 m) := fun y => (FC.out _ (Dk.up_call v2 y.property)).1
    have t1 : ∀ y : Dk.Up w2, y.wd.cell? ⟨w.heap.size, 1, none⟩ = some (.int .i64 t) := fun y => (FC.out _ (Dk.up_call v2 y.property)).2.1
    have t2 : ∀ y : Dk.Up w2, y.wd.cell? ⟨w.heap.size, 2, none⟩ = some (.slice A L C) := fun y => (FC.out _ (Dk.up_call v2 y.property)).2.2
    have hne : Nonempty (Dk.Up w2) := ⟨⟨w2, Below.refl _ _⟩⟩
    have hU2 : Hid _ := Dk.up_call HU.out v2
    have htt : (t != t) = false := by simp
    have hbb : (h == h) = true := by simp
    clear HR FC v2 HU
    have hmode : (m = 2 ∧ h = true) ∨ (m = 4 ∧ h = true) ∨ (m = 7 ∧ h = true) ∨ ((m == 2) = false ∧ (m == 4) = false ∧ (m == 7) = false ∧ h = false) := by
      have := HH.out
      rcases Dk.modes m with rfl | rfl | rfl | rfl | rfl | ⟨h2, h4, h5, h6, h7⟩ <;> simp_all [Dk.holdsV]
    clear HH
    cases r
    all_goals (
      have hx := HX.out
      simp only [if_true, Bool.false_eq_true, if_false] at hx
      subst hx
      clear HX
      rcases hmode with ⟨rfl, rfl⟩ | ⟨rfl, rfl⟩ | ⟨rfl, rfl⟩ | ⟨h2, h4, h7, rfl⟩
      all_goals (
        go_wp2_with fail
        refine Dk.wp_region_up_lit (by kernel_rfl) (by kernel_rfl) ?_
        repeat (go_big_quiet_step ((first | (go_at_call 7; exact Dk.calls_up _ (awake_any _)) | (go_at_call 12; exact Dk.calls_up _ (KH _)))))
        refine wpQuiet_nil ?_
        intro _ hw'
        obtain ⟨y, hw''⟩ := hw'
        subst hw''
        have U : Hid _ := Dk.up_call hU2.out y.property
        clear t0 t1 t2 hne KH c0 c1 c2
        go_wp2_with fail
        go_ret
        exact ⟨rfl, U.out⟩))
end Go.Proofs.Ythpphicgkkhbfaa
