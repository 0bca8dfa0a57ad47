/- The walk of the statement on a processor's own row. -/
import Derived.Test.YtoilkojegnfmfaaYg
import Derived.Test.YtoilkojegnfmfaaYc
import Derived.Deep.CutRange
namespace Go.Proofs.Ytoilkojegnfmfaa
set_option linter.unusedSimpArgs false
set_option linter.unusedVariables false
set_option linter.unnecessarySimpa false
open Go.RowKit Go.Lib
variable {R0 : Nat → List (List Int) → List Dk.Thing → Prop}

set_option maxRecDepth 100000 in
set_option maxHeartbeats 1000000 in
theorem ReadyOwn_any (I : RowsI R0) (procs : Nat) (hpr : procs < 256) (A1 : Option Addr) (n1 C1 : Nat) (rows : List Nat) (proc : Nat) (hpc : proc < 256) (w : World)
    (hr : Dk.Row 1 0 Dk.IsByte w.heap.size w A1 n1 C1 rows) :
    Calls Try.prog 5 #[.int .u8 (procs : Nat), .slice A1 n1 C1, .int .u8 (proc : Nat)] w fun e w' => e = .returned (.bool true) ∧ Below w.heap.size w w' := by
  have hr1 := hr.cap
  have hr2 := hr.max
  unfold maxLen at hr2
  obtain ⟨z, ez⟩ : ∃ z, procs % 6 = z := ⟨_, rfl⟩
  have hz8 : z < 6 := by omega
  have hz7 : ((procs : Int) % 6) = (z : Int) := by omega
  have hz6 : ((procs : Int).tmod 6) = (z : Int) := by rw [Int.tmod_eq_emod_of_nonneg (by omega)]; exact hz7
  clear ez
  obtain ⟨n, en⟩ : ∃ n, z + 1 = n := ⟨_, rfl⟩
  have hzn : (z : Int) + 1 = (n : Int) := by omega
  have hn8 : n ≤ 6 := by omega
  have hn0 : 0 < n := by omega
  have hnn : (n : Int) ≠ 0 := by omega
  have hn00 : ¬ n = 0 := by omega
  obtain ⟨p, ep⟩ : ∃ p, proc % n = p := ⟨_, rfl⟩
  have hpn : p < n := by rw [← ep]; exact Nat.mod_lt _ hn0
  have hpp : ((proc : Int).tmod (n : Int)) = (p : Int) := by rw [Int.tmod_eq_emod_of_nonneg (by omega), ← ep]; omega
  have KN := I.new (us := []) (Dk.Sep.begin (Below.refl w.heap.size w)) (n : Int) (by unfold Dk.i64; omega)
  rw [show Dk.nRows (n : Int) = n from by unfold Dk.nRows; omega] at KN
  have HR : Hid _ := hr
  clear hr ep en
  go_enter Try.func5, Try.ntmps5
  go_wp2_with fail
  refine KN.mono ?_
  rintro e w1 ⟨b, ts1, rfl, hR1, s1⟩
  clear KN
  have HF1 : Hid (Dk.Full n 0 (List.replicate n [])) := Dk.Full.blank n (by omega)
  go_wp2
  go_loopw [10] (fun i w' => ∃ (k : Nat) (rs : List (List Int)) (ts : List Dk.Thing), k ≤ n1 ∧ k ≤ 40 ∧ i = .int .i64 k ∧ Hid (Dk.Full n k rs) ∧ R0 b rs ts ∧ Dk.Sep w w' ([] ++ ts)) (fun i w' => n1 - (RowKit.intOf i).toNat)
  case atStart => exact ⟨0, _, _, Nat.zero_le _, Nat.zero_le _, rfl, HF1, hR1, s1⟩
  case round =>
    clear hR1 s1 HF1
    obtain ⟨k, rs, ts, hk, hk40, rfl, HF, hR, hS⟩ := hrel
    by_cases hkm : k < n1 ∧ k < 40
    · obtain ⟨hkm, hkm40⟩ := hkm
      have y0 : decide ((k : Int) < (n1 : Int)) = true := decide_eq_true (by omega)
      have y00 : decide ((k : Int) < 40) = true := decide_eq_true (by omega)
      obtain ⟨b1, o1, rfl, hb1, hc⟩ := Dk.u8_cell HR.out (by omega)
      obtain ⟨y, ey⟩ : ∃ y, rows.getD k 0 = y := ⟨_, rfl⟩
      have hc := hc k (by omega)
      rw [ey] at hc
      have c1 : wr.cell? ⟨b1, o1 + k, none⟩ = some (.int .u8 (y : Nat)) := by rw [hS.out.cell (by show b1 < w.heap.size; exact hb1)]; exact hc.1
      have hy := hc.2
      obtain ⟨q, eq⟩ : ∃ q, y % n = q := ⟨_, rfl⟩
      have hq : q < n := by rw [← eq]; exact Nat.mod_lt _ hn0
      have hyq : ((y : Int).tmod (n : Int)) = (q : Int) := by rw [Int.tmod_eq_emod_of_nonneg (by omega), ← eq]; omega
      obtain ⟨g1, g2⟩ := HF.out.add (p := (q : Int)) (by omega) (by omega) (by omega)
      have K := I.add hR hS HF.out.few (by omega) (q : Int) (k : Int) (by unfold Dk.i64; omega) (by unfold Dk.i64; omega)
      rw [g1] at K
      have HG2 : Hid _ := g2
      clear hc ey eq g1 g2 HF hR
      go_wp2_with fail
      refine K.mono ?_
      rintro e w2 ⟨rfl, ts2, hR2, s2⟩
      clear K
      go_wp2
      go_roundw
      case rel => exact ⟨k + 1, _, ts2, by omega, by omega, by go_num, HG2, hR2, s2⟩
      case measure => simp [RowKit.intOf]; omega
    · go_upto_region 5 with fail
      go_cut [35] from 28 to 47 (fun v w' => v = .bool false ∧ w' = wr)
      case first =>
        by_cases c1 : k < n1
        · have y1 : decide ((k : Int) < (n1 : Int)) = true := decide_eq_true (by omega)
          have y2 : decide ((k : Int) < 40) = false := decide_eq_false (by omega)
          go_wp2_with fail
          go_meet
          exact ⟨rfl, rfl⟩
        · have y1 : decide ((k : Int) < (n1 : Int)) = false := decide_eq_false (by omega)
          go_wp2_with fail
          go_meet
          exact ⟨rfl, rfl⟩
      case rest =>
        obtain ⟨rfl, hw⟩ := hcut
        subst wc
        have hkz : k = 0 → n1 = 0 := by omega
        clear hkm
        have hmk := make_nest n (by omega) wr
        have s2 := Dk.Sep.nestNew (eh := 30) (e := 3) hS n (by omega) (made_nest n)
        obtain ⟨w2, e2⟩ : ∃ w2, w2 = wr.alloc (.cells (madeCells #[.slice none 0 0] n) 30) := ⟨_, rfl⟩
        rw [← e2] at hmk s2
        generalize wr.heap.size = g at hmk s2
        clear e2 hS
        go_wp2
        clear hmk
        go_loopw [12] (fun i w' => ∃ (j : Nat) (ts : List Dk.Thing) (vs : List Value) (xss : List (List Int)), j ≤ n ∧ i = .int .i64 j ∧ Hid (xss.length = n ∧ ∀ q, q < j → xss.getD q [] = rs.getD q []) ∧ R0 b rs ts ∧ Dk.Sep w w' ([Dk.nestOf 30 3 1 Dk.is (.slice (some ⟨g, 0, none⟩) n n) vs xss] ++ ts)) (fun i w' => n - (RowKit.intOf i).toNat)
        case atStart => exact ⟨0, ts, _, _, Nat.zero_le _, rfl, ⟨by simp, fun q hq => absurd hq (by omega)⟩, hR, s2⟩
        case round =>
          clear s2 hR
          obtain ⟨j, ts, vs, xss, hj, rfl, HX, hR, hS⟩ := hrel
          by_cases hjn : j < n
          · have K := I.row hR hS HF.out.few (by omega) (j : Int) (by unfold Dk.i64; omega)
            rw [Dk.rowL_at (by rw [HF.out.len]; exact hjn)] at K
            clear hR hS
            go_wp2_with fail
            refine K.mono ?_
            rintro e w3 ⟨A, C, rfl, ts3, hR3, s3⟩
            clear K
            have hxl := HX.out.1
            obtain ⟨f1, ⟨u, f2⟩, s4⟩ := Dk.Sep.nestInto (us1 := []) (i := j) s3 rfl (by rw [hxl]; exact hjn) (g := g) (C := n) (by rw [hxl])
            have HX2 : Hid ((xss.set j (rs.getD j [])).length = n ∧ ∀ q, q < j + 1 → (xss.set j (rs.getD j [])).getD q [] = rs.getD q []) := by
              refine ⟨by rw [List.length_set]; exact hxl, fun q hq => ?_⟩
              by_cases e : q = j
              · subst e
                exact Dk.getD_set_eqL (by rw [hxl]; exact hjn)
              · rw [Dk.getD_set_neL (by omega)]
                exact HX.out.2 q (by omega)
            clear s3 HX hxl
            go_wp2
            go_roundw
            case rel => exact ⟨j + 1, ts3, _, _, by omega, by go_num, HX2, hR3, s4⟩
            case measure => simp [RowKit.intOf]; omega
          · have ej : n = j := by omega
            subst ej
            have exs : rs = xss := by
              refine Dk.ext_getD (by rw [HF.out.len]; exact HX.out.1.symm) fun q hq => ?_
              exact (HX.out.2 q (by rw [HF.out.len] at hq; exact hq)).symm
            subst exs
            have hlen : rs.length = n := HF.out.len
            have HW := HF.out.few.row p
            have K := I.pick (us := [_]) hR hS HF.out.few (by omega) (p : Int) (by unfold Dk.i64; omega)
            clear HX hR hS hj hjn
            cases hrow : rs.getD p [] with
            | nil =>
              have hB : Dk.pickB rs p = true ∨ n1 = 0 := by
                by_cases h0 : k = 0
                · exact .inr (hkz h0)
                · refine .inl (Dk.pick_yes (Dk.inRows_iff.2 ⟨by omega, by omega⟩) fun e => ?_)
                  have := HF.out.all
                  rw [e] at this
                  simp at this
                  omega
              obtain ⟨B, eB⟩ : ∃ B, Dk.pickB rs p = B := ⟨_, rfl⟩
              obtain ⟨T, eT⟩ : ∃ T, Dk.pickT rs p = T := ⟨_, rfl⟩
              rw [eB, eT] at K
              rw [eB] at hB
              clear eB eT
              go_wp2_with fail
              refine K.mono ?_
              rintro e w4 ⟨rfl, ts4, hR4, s4⟩
              clear K
              obtain ⟨g', C', A, D, ev, _, _, hc, _, _⟩ := s4.innerInts (i := p) (List.mem_cons_self ..) (by omega) (by rw [hrow]; simp)
              injection ev with ev1 ev2 ev3
              clear ev2 ev3
              injection ev1 with ev1
              injection ev1 with ev1
              subst ev1
              rw [hrow] at hc
              have hc : w4.cell? ⟨g, p, none⟩ = some (.slice A 0 D) := hc
              cases B with
              | true =>
                clear hB
                go_wp2_with fail
                refine (awake_any I _).mono ?_
                rintro e w5 ⟨rfl, v5⟩
                go_wp2
                go_ret
                exact ⟨rfl, (s4.below v5).out⟩
              | false =>
                have e0 : n1 = 0 := hB.resolve_left (by simp)
                subst e0
                go_wp2_with fail
                refine (awake_any I _).mono ?_
                rintro e w5 ⟨rfl, v5⟩
                go_wp2
                go_ret
                exact ⟨rfl, (s4.below v5).out⟩
            | cons x l =>
              obtain ⟨q1, q2, q3⟩ := Dk.pick_own (by omega) hrow
              have hgone := Dk.pick_gone HF.out.few q1
              have HF2 : Hid (Dk.Few k (rs.set p l)) := by rw [← q3]; exact HF.out.few.pick p
              rw [q2, q3] at hgone
              have HGone : Hid _ := hgone
              rw [q1, q2, q3] at K
              have HRow : Hid _ := hrow
              have HWx : Hid _ := HW
              have hx64 : Dk.i64 x := HW.1 x (by rw [hrow]; simp)
              clear q1 q2 q3 hgone hrow HW
              go_wp2_with fail
              refine K.mono ?_
              rintro e w4 ⟨rfl, ts4, hR4, s4⟩
              clear K
              obtain ⟨L, eL⟩ : ∃ L, l.length + 1 = L := ⟨_, rfl⟩
              have HLl : Hid (l.length + 1 = L) := eL
              obtain ⟨A, D, Hvs, HC⟩ : ∃ A D, Hid (vs[p]? = some (.slice A L D)) ∧ Hid (∀ (w' : World) (ts : List Dk.Thing), Dk.Sep w w' ([Dk.nestOf 30 3 1 Dk.is (.slice (some ⟨g, 0, none⟩) n n) vs rs] ++ ts) → w'.cell? ⟨g, p, none⟩ = some (.slice A L D) ∧ Dk.SlI w'.heap.size w' A L D (x :: l)) := by
                obtain ⟨g', C', A, D, ev, _, _, hc, hv, hq⟩ := s4.innerInts (i := p) (List.mem_cons_self ..) (by omega) HWx.out.1
                rw [HRow.out, List.length_cons, eL] at hv
                refine ⟨A, D, hv, fun w' ts hS' => ?_⟩
                obtain ⟨g', C', A', D', ev, _, _, hc, hv', hq⟩ := hS'.innerInts (i := p) (List.mem_cons_self ..) (by omega) HWx.out.1
                injection ev with ev1 _ _
                injection ev1 with ev1
                injection ev1 with ev1
                subst ev1
                rw [HRow.out, List.length_cons, eL] at hc hv' hq
                rw [hv] at hv'
                injection hv' with hv'
                rw [← hv'] at hc
                injection hv' with hv1 _ hv2
                subst hv1
                subst hv2
                exact ⟨hc, hq⟩
              clear eL
              have y0 : ((L : Int) == 0) = false := by have := HLl.out; simp; omega
              have hc := (HC.out w4 ts4 s4).1
              go_wp2
              clear hc
              go_loopw [15] (fun v w' => ∃ (j : Nat) (ts : List Dk.Thing), j ≤ n ∧ v = .int .i64 j ∧ R0 b (rs.set p l) ts ∧ Dk.Sep w w' ([Dk.nestOf 30 3 1 Dk.is (.slice (some ⟨g, 0, none⟩) n n) vs rs] ++ ts)) (fun v w' => n - (RowKit.intOf v).toNat)
              case atStart => exact ⟨0, ts4, Nat.zero_le _, rfl, hR4, s4⟩
              case round =>
                clear hR4 s4
                obtain ⟨j, ts, hj, rfl, hR, hS⟩ := hrel
                by_cases hjn : j < n
                · by_cases hjp : j = p
                  · have y1 : ((j : Int) != (p : Int)) = false := by rw [hjp]; simp
                    clear hjp
                    go_wp2
                    go_quiet (fail)
                    go_wp2
                    go_roundw
                    case rel => exact ⟨j + 1, ts, by omega, by go_num, hR, hS.below (Dk.up_drewN (Below.refl _ _) nq)⟩
                    case measure => simp [RowKit.intOf]; omega
                  · have y1 : ((j : Int) != (p : Int)) = true := by simp; omega
                    have HWj := HF.out.few.row j
                    have HWj' := HWj.1
                    obtain ⟨M, eM⟩ : ∃ M, (rs.getD j []).length = M := ⟨_, rfl⟩
                    obtain ⟨A2, D2, HCj⟩ : ∃ A2 D2, Hid (∀ (w' : World) (ts : List Dk.Thing), Dk.Sep w w' ([Dk.nestOf 30 3 1 Dk.is (.slice (some ⟨g, 0, none⟩) n n) vs rs] ++ ts) → w'.cell? ⟨g, j, none⟩ = some (.slice A2 M D2) ∧ Dk.SlI w'.heap.size w' A2 M D2 (rs.getD j [])) := by
                      obtain ⟨g', C', A', D', ev, _, _, hc, hv, hq⟩ := hS.innerInts (i := j) (List.mem_cons_self ..) (by omega) HWj'
                      rw [eM] at hv
                      refine ⟨A', D', fun w' ts hS' => ?_⟩
                      obtain ⟨g', C', A', D', ev, _, _, hc, hv', hq⟩ := hS'.innerInts (i := j) (List.mem_cons_self ..) (by omega) HWj'
                      injection ev with ev1 _ _
                      injection ev1 with ev1
                      injection ev1 with ev1
                      subst ev1
                      rw [eM] at hc hv' hq
                      rw [hv] at hv'
                      injection hv' with hv'
                      rw [← hv'] at hc
                      injection hv' with hv1 _ hv2
                      subst hv1
                      subst hv2
                      exact ⟨hc, hq⟩
                    have hrow2 : Dk.rowL (rs.set p l) (j : Int) = rs.getD j [] := by
                      rw [Dk.rowL_at (by rw [List.length_set]; omega), Dk.getD_set_neL (fun e => hjp e.symm)]
                    have HEM : Hid _ := eM
                    have HRow2 : Hid _ := hrow2
                    have HWj2 : Hid _ := HWj'
                    clear hrow2 HWj HWj' eM hjp
                    go_wp2
                    have hS' := hS.below (w' := wr.drew) (Dk.up_drew (Below.refl _ _))
                    refine Dk.wp_region_mix (S := fun w' => ∃ ts', R0 b (rs.set p l) ts' ∧ Dk.Sep w w' ([Dk.nestOf 30 3 1 Dk.is (.slice (some ⟨g, 0, none⟩) n n) vs rs] ++ ts')) [(true, 0), (true, 1), (true, 2), (true, 3), (true, 4), (true, 5), (true, 7), (true, 8), (true, 9), (true, 10), (false, 6), (false, 11), (false, 12), (false, 13)] (by kernel_rfl) (by kernel_rfl) (by kernel_rfl) rfl ⟨ts, hR, hS'⟩ ?_
                    iterate 9 (refine Dk.mix_held rfl rfl (fun w' hw' => by go_simp; rfl) ?_; simp only [Act.put, List.setIfInBounds_toArray, List.set_cons_succ, List.set_cons_zero])
                    iterate 1 (refine Dk.mix_held rfl rfl (fun w' hw' => by have c := (HCj.out _ _ hw'.choose_spec.2).1; go_simp; rfl) ?_; simp only [Act.put, List.setIfInBounds_toArray, List.set_cons_succ, List.set_cons_zero])
                    refine Dk.mix_call (f := 12) (args := #[.pointer (some ⟨b, 0, none⟩), .int .i64 (j : Int)]) rfl rfl (by go_simp) ?_
                    refine (I.row hR hS' HF2.out (by omega) (j : Int) (by unfold Dk.i64; omega)).mono ?_
                    rintro e w5 ⟨A5, C5, rfl, ts5, hR5, s5⟩
                    rw [HRow2.out, HEM.out] at s5 ⊢
                    have s6 := s5.sub (List.sublist_cons_self _ _)
                    have q5 := s5.ints (xs := rs.getD j []) (List.mem_cons_self ..) HEM.out HWj2.out
                    have q6 := (HCj.out _ _ s6).2
                    refine ⟨_, rfl, ⟨ts5, hR5, s6⟩, ?_⟩
                    simp only [Act.put, List.setIfInBounds_toArray, List.set_cons_succ, List.set_cons_zero]
                    refine Dk.mix_call (f := 11) (args := #[.slice A5 M C5, .slice A2 M D2]) rfl rfl (by go_simp) ?_
                    refine (Ints_same A5 A2 M C5 D2 (rs.getD j []) w5 q5 q6).mono ?_
                    rintro e w7 ⟨rfl, v7⟩
                    have s7 := s6.below v7
                    clear q5 q6 s5 s6 hS' hS hR
                    refine ⟨_, rfl, ⟨ts5, hR5, s7⟩, ?_⟩
                    simp only [Act.put, List.setIfInBounds_toArray, List.set_cons_succ, List.set_cons_zero]
                    iterate 2 (refine Dk.mix_val rfl rfl (by go_simp; rfl) ⟨ts5, hR5, s7⟩ ?_; simp only [Act.put, List.setIfInBounds_toArray, List.set_cons_succ, List.set_cons_zero])
                    show NoPanic _ Exit.normal _ _
                    refine NoPanic.normal ?_
                    go_wp2
                    go_roundw
                    case rel => exact ⟨j + 1, ts5, by omega, by go_num, hR5, s7⟩
                    case measure => simp [RowKit.intOf]; omega
                · have ejn : n = j := by omega
                  subst ejn
                  have K := I.where_ (us := [_]) hR hS HF2.out (by omega) x hx64
                  rw [show decide (Dk.whereK (rs.set p l) x < (rs.set p l).length) = false from decide_eq_false HGone.out] at K
                  clear hR hS
                  go_wp2_with fail
                  refine K.mono ?_
                  rintro e w5 ⟨kk, rfl, _, _, ts5, hR5, s5⟩
                  clear K
                  go_wp2
                  obtain ⟨bp, op, rfl, HX0⟩ : ∃ bp op, A = some ⟨bp, op, none⟩ ∧ Hid (∀ (w' : World) (ts : List Dk.Thing), Dk.Sep w w' ([Dk.nestOf 30 3 1 Dk.is (.slice (some ⟨g, 0, none⟩) n n) vs rs] ++ ts) → w'.cell? ⟨bp, op, none⟩ = some (.int .i64 x)) := by
                    obtain ⟨b', o', e, _, _⟩ := (HC.out _ _ s5).2.cells (by have := HLl.out; omega)
                    refine ⟨b', o', e, fun w' ts hS' => ?_⟩
                    obtain ⟨b2, o2, e2, _, hc⟩ := (HC.out _ _ hS').2.cells (by have := HLl.out; omega)
                    rw [e] at e2
                    cases e2
                    exact hc 0 (by have := HLl.out; omega)
                  have hL1 : 1 ≤ L := by have := HLl.out; omega
                  have hL0 : 0 < L := hL1
                  have hL1i : (1 : Int) ≤ (L : Int) := by omega
                  obtain ⟨TA, eTA⟩ : ∃ TA : Option Addr, (if D = 1 then some ⟨bp, op, none⟩ else some ⟨bp, op + 1, none⟩) = TA := ⟨_, rfl⟩
                  have HTA : Hid (∀ (w' : World) (ts : List Dk.Thing), Dk.Sep w w' ([Dk.nestOf 30 3 1 Dk.is (.slice (some ⟨g, 0, none⟩) n n) vs rs] ++ ts) → Dk.SlI w'.heap.size w' TA (L - 1) (D - 1) l) := fun w' ts hS' => by
                    rw [← eTA]
                    exact Dk.sli_tail (HC.out _ _ hS').2
                  have hLD : L ≤ D := (HC.out _ _ s5).2.cap
                  have hDm := (HC.out _ _ s5).2.max
                  unfold maxLen at hDm
                  have s6 := s5.below (w' := w5.drew) (Dk.up_drew (Below.refl _ _))
                  refine Dk.wp_region_mix (S := fun w' => ∃ ts', R0 b (rs.set p l) ts' ∧ Dk.Sep w w' ([Dk.nestOf 30 3 1 Dk.is (.slice (some ⟨g, 0, none⟩) n n) vs rs] ++ ts')) [(false, 0), (true, 1), (true, 2), (true, 3), (true, 4), (true, 5), (true, 6), (true, 7), (true, 8), (true, 9), (true, 10), (true, 11), (true, 12), (true, 13), (true, 14), (true, 15), (true, 16), (true, 17), (true, 18), (true, 19), (true, 20), (true, 22), (true, 23), (true, 24), (true, 25), (true, 26), (false, 21), (false, 27), (false, 28), (false, 29)] (by kernel_rfl) (by kernel_rfl) (by kernel_rfl) rfl ⟨ts5, hR5, s6⟩ ?_
                  refine Dk.mix_call (f := 14) (args := #[]) rfl rfl (by go_simp) ?_
                  refine (awake_any I _).mono ?_
                  rintro e w7 ⟨rfl, v7⟩
                  have s7 := s6.below v7
                  clear s5 s6 v7
                  refine ⟨_, rfl, ⟨ts5, hR5, s7⟩, ?_⟩
                  simp only [Act.put, List.setIfInBounds_toArray, List.set_cons_succ, List.set_cons_zero]
                  iterate 8 (refine Dk.mix_held rfl rfl (fun w' hw' => by go_simp; rfl) ?_; simp only [Act.put, List.setIfInBounds_toArray, List.set_cons_succ, List.set_cons_zero])
                  iterate 1 (refine Dk.mix_held rfl rfl (fun w' hw' => by have c := (HC.out _ _ hw'.choose_spec.2).1; go_simp; rfl) ?_; simp only [Act.put, List.setIfInBounds_toArray, List.set_cons_succ, List.set_cons_zero])
                  iterate 1 (refine Dk.mix_held rfl rfl (fun w' hw' => by go_simp; rfl) ?_; simp only [Act.put, List.setIfInBounds_toArray, List.set_cons_succ, List.set_cons_zero])
                  iterate 1 (refine Dk.mix_held rfl rfl (fun w' hw' => by have c := HX0.out _ _ hw'.choose_spec.2; go_simp; rfl) ?_; simp only [Act.put, List.setIfInBounds_toArray, List.set_cons_succ, List.set_cons_zero])
                  iterate 12 (refine Dk.mix_held rfl rfl (fun w' hw' => by go_simp; rfl) ?_; simp only [Act.put, List.setIfInBounds_toArray, List.set_cons_succ, List.set_cons_zero])
                  iterate 1 (refine Dk.mix_held rfl rfl (fun w' hw' => by have c := (HC.out _ _ hw'.choose_spec.2).1; go_simp; rfl) ?_; simp only [Act.put, List.setIfInBounds_toArray, List.set_cons_succ, List.set_cons_zero])
                  refine Dk.mix_held (v := .slice TA (L - 1) (D - 1)) rfl rfl (fun w' hw' => by go_simp) ?_
                  simp only [Act.put, List.setIfInBounds_toArray, List.set_cons_succ, List.set_cons_zero]
                  have hrowp : Dk.rowL (rs.set p l) (p : Int) = l := by
                    rw [Dk.rowL_at (by rw [List.length_set]; omega), Dk.getD_set_eqL (by omega)]
                  have hll : l.length = L - 1 := by have := HLl.out; omega
                  refine Dk.mix_call (f := 12) (args := #[.pointer (some ⟨b, 0, none⟩), .int .i64 (p : Int)]) rfl rfl (by go_simp) ?_
                  refine (I.row hR5 s7 HF2.out (by omega) (p : Int) (by unfold Dk.i64; omega)).mono ?_
                  rintro e w8 ⟨A8, C8, rfl, ts8, hR8, s8⟩
                  rw [hrowp, hll] at s8 ⊢
                  have s9 := s8.sub (List.sublist_cons_self _ _)
                  have q5 := s8.ints (xs := l) (List.mem_cons_self ..) hll (fun y hy => HWx.out.1 y (by rw [HRow.out]; exact List.mem_cons_of_mem _ hy))
                  have q6 := HTA.out _ _ s9
                  refine ⟨_, rfl, ⟨ts8, hR8, s9⟩, ?_⟩
                  simp only [Act.put, List.setIfInBounds_toArray, List.set_cons_succ, List.set_cons_zero]
                  refine Dk.mix_call (f := 11) (args := #[.slice A8 (L - 1) C8, .slice TA (L - 1) (D - 1)]) rfl rfl (by go_simp) ?_
                  refine (Ints_same A8 TA (L - 1) C8 (D - 1) l w8 q5 q6).mono ?_
                  rintro e wa ⟨rfl, va⟩
                  have sa := s9.below va
                  clear q5 q6 s8 s9 s7 hR5
                  refine ⟨_, rfl, ⟨ts8, hR8, sa⟩, ?_⟩
                  simp only [Act.put, List.setIfInBounds_toArray, List.set_cons_succ, List.set_cons_zero]
                  iterate 2 (refine Dk.mix_val rfl rfl (by go_simp; rfl) ⟨ts8, hR8, sa⟩ ?_; simp only [Act.put, List.setIfInBounds_toArray, List.set_cons_succ, List.set_cons_zero])
                  show NoPanic _ Exit.normal _ _
                  refine NoPanic.normal ?_
                  go_wp2
                  go_ret
                  exact ⟨rfl, sa.out⟩
end Go.Proofs.Ytoilkojegnfmfaa
