/- The walk of the statement on whoever picks. -/
import Derived.Test.YtoilkojegnfmfaaYi
import Derived.Test.YtoilkojegnfmfaaYc
import Derived.Deep.CutRange
namespace Go.Proofs.Ytoilkojegnfmfaa
set_option linter.unusedSimpArgs false
set_option linter.unusedVariables false
set_option linter.unnecessarySimpa false
open Go.RowKit Go.Lib
variable {R0 : Nat → List (List Int) → List Dk.Thing → Prop}

set_option maxRecDepth 100000 in
set_option maxHeartbeats 1000000 in
theorem ReadyPlays_any (I : RowsI R0) (procs : Int) (hpr : Dk.i64 procs) (A1 : Option Addr) (n1 C1 : Nat) (acts : List Dk.RAct) (w : World)
    (hr : Dk.Row 3 Dk.RAct.zero Dk.IsRAct w.heap.size w A1 n1 C1 acts) :
    Calls Try.prog 3 #[.int .i64 procs, .slice A1 n1 C1] w fun e w' => e = .returned (.bool true) ∧ Below w.heap.size w w' := by
  have hr1 := hr.cap
  have hr2 := hr.max
  unfold maxLen at hr2
  have KN := I.new (us := []) (Dk.Sep.begin (Below.refl w.heap.size w)) procs hpr
  obtain ⟨m, em⟩ : ∃ m, max procs 0 = m := ⟨_, rfl⟩
  obtain ⟨n, en⟩ : ∃ n, Dk.nRows procs = n := ⟨_, rfl⟩
  have hm1 : procs < 0 → m = 0 := by omega
  have hm2 : ¬ procs < 0 → procs = m := by omega
  have hn1 : 64 < m → (n : Int) = 64 := by unfold Dk.nRows at en; omega
  have hn2 : ¬ 64 < m → m = (n : Int) := by unfold Dk.nRows at en; omega
  have hn64 : n ≤ 64 := by unfold Dk.nRows at en; omega
  rw [en] at KN
  have HR : Hid _ := hr
  have HM : Hid _ := And.intro hm1 hm2
  have HN : Hid _ := And.intro hn1 hn2
  clear hr em en hm1 hm2 hn1 hn2
  obtain ⟨hp1, hp2⟩ := hpr
  go_enter Try.func3, Try.ntmps3
  go_wp2_with fail
  refine KN.mono ?_
  rintro e w1 ⟨b, ts1, rfl, hR1, s1⟩
  clear KN
  go_upto_if 28 with fail
  go_cut [6] from 26 to 28 (fun v w' => v = .int .i64 m ∧ w' = w1)
  case first =>
    by_cases c : procs < 0
    · have y : decide (procs < 0) = true := decide_eq_true c
      go_wp2_with fail
      go_meet
      exact ⟨by rw [HM.out.1 (by omega)], rfl⟩
    · have y : decide (procs < 0) = false := decide_eq_false c
      go_wp2_with fail
      go_meet
      exact ⟨by rw [← HM.out.2 (by omega)], rfl⟩
  case rest =>
    obtain ⟨rfl, hw⟩ := hcut
    subst wc
    go_upto_if 30 with fail
    go_cut [6] from 29 to 30 (fun v w' => v = .int .i64 (n : Int) ∧ w' = w1)
    case first =>
      by_cases c : 64 < m
      · have y : decide (64 < m) = true := decide_eq_true c
        go_wp2_with fail
        go_meet
        exact ⟨by rw [HN.out.1 (by omega)], rfl⟩
      · have y : decide (64 < m) = false := decide_eq_false c
        go_wp2_with fail
        go_meet
        exact ⟨by rw [← HN.out.2 (by omega)], rfl⟩
    case rest =>
      obtain ⟨rfl, hw⟩ := hcut
      subst wc
      clear HM HN
      have hmk := make_nest n (by omega) w1
      have s2 := Dk.Sep.nestNew (eh := 30) (e := 3) s1 n (by omega) (made_nest n)
      obtain ⟨w2, e2⟩ : ∃ w2, w2 = w1.alloc (.cells (madeCells #[.slice none 0 0] n) 30) := ⟨_, rfl⟩
      rw [← e2] at hmk s2
      generalize w1.heap.size = g at hmk s2
      clear e2 s1
      go_wp2
      clear hmk
      go_loopw [8] (fun i w' => ∃ (k : Nat) (rs : List (List Int)) (ts : List Dk.Thing) (vs : List Value), k ≤ n1 ∧ k ≤ 100 ∧ i = .int .i64 k ∧ Hid (Dk.Few k rs ∧ rs.length = n) ∧ R0 b rs ts ∧ Dk.Sep w w' ([Dk.nestOf 30 3 1 Dk.is (.slice (some ⟨g, 0, none⟩) n n) vs rs] ++ ts)) (fun i w' => n1 - (RowKit.intOf i).toNat)
      case atStart => exact ⟨0, _, ts1, _, Nat.zero_le _, Nat.zero_le _, rfl, ⟨Dk.Few.blank n hn64, by simp⟩, hR1, s2⟩
      case round =>
        clear hR1 s2
        obtain ⟨k, rs, ts, vs, hk, hk100, rfl, HF, hR, hS⟩ := hrel
        by_cases hkm : k < n1 ∧ k < 100
        · obtain ⟨hkm, hkm100⟩ := hkm
          have y0 : decide ((k : Int) < (n1 : Int)) = true := decide_eq_true (by omega)
          have y00 : decide ((k : Int) < 100) = true := decide_eq_true (by omega)
          obtain ⟨b1, o1, rfl, hb1, hc⟩ := Dk.ract_cell HR.out (by omega)
          obtain ⟨⟨pk, p, t⟩, hc1, hc2, hc3, hp64, ht64⟩ := hc k hkm
          have HA : Hid (∀ w', Below w.heap.size w w' → w'.cell? ⟨b1, o1 + k * 3, none⟩ = some (.bool pk) ∧ w'.cell? ⟨b1, o1 + k * 3 + 1, none⟩ = some (.int .i64 p) ∧ w'.cell? ⟨b1, o1 + k * 3 + 2, none⟩ = some (.int .i64 t)) := fun w' u => by
            rw [u.cell (by show b1 < w.heap.size; exact hb1), u.cell (by show b1 < w.heap.size; exact hb1), u.cell (by show b1 < w.heap.size; exact hb1)]
            exact ⟨hc1, hc2, hc3⟩
          clear hc hc1 hc2 hc3
          obtain ⟨c1, c2, c3⟩ := HA.out wr hS.out
          obtain ⟨B, eB⟩ : ∃ B, Dk.inRows rs p = B := ⟨_, rfl⟩
          have HB : Hid (Dk.inRows rs p = B) := eB
          have hBt : B = true → 0 ≤ p ∧ p < n := fun h => by
            have := Dk.inRows_iff.1 (eB.trans h)
            rw [HF.out.2] at this
            exact this
          have hBf : B = false → ¬ (0 ≤ p ∧ p < n) := fun h h' => by
            have : Dk.inRows rs p = true := Dk.inRows_iff.2 ⟨h'.1, by rw [HF.out.2]; exact h'.2⟩
            rw [eB, h] at this
            cases this
          have hlen : rs.length = n := HF.out.2
          have HBt : Hid _ := hBt
          have HBf : Hid _ := hBf
          have HLen : Hid _ := hlen
          clear eB hBt hBf hlen
          go_upto_region 12 with fail
          go_cut [10] from 48 to 54 (fun v w' => v = .bool B ∧ w' = wr)
          case first =>
            cases B with
            | true =>
              obtain ⟨q1, q2⟩ := HBt.out rfl
              have y1 : decide (0 ≤ p) = true := decide_eq_true q1
              have y2 : decide (p < (n : Int)) = true := decide_eq_true q2
              go_wp2_with fail
              go_meet
              exact ⟨rfl, rfl⟩
            | false =>
              by_cases q1 : 0 ≤ p
              · have y1 : decide (0 ≤ p) = true := decide_eq_true q1
                have y2 : decide (p < (n : Int)) = false := decide_eq_false (fun q2 => HBf.out rfl ⟨q1, q2⟩)
                go_wp2_with fail
                go_meet
                exact ⟨rfl, rfl⟩
              · have y1 : decide (0 ≤ p) = false := decide_eq_false q1
                go_wp2_with fail
                go_meet
                exact ⟨rfl, rfl⟩
          case rest =>
            obtain ⟨rfl, hw⟩ := hcut
            subst wc
            cases pk with
            | true =>
              have K := I.pick (us := [_]) hR hS HF.out.1 (by omega) p hp64
              obtain ⟨Bp, eBp⟩ : ∃ Bp, Dk.pickB rs p = Bp := ⟨_, rfl⟩
              obtain ⟨T, eT⟩ : ∃ T, Dk.pickT rs p = T := ⟨_, rfl⟩
              rw [eBp, eT] at K
              have HBp : Hid _ := eBp
              have HT : Hid _ := eT
              clear hR hS eBp eT
              go_wp2_with fail
              refine K.mono ?_
              rintro e w3 ⟨rfl, ts3, hR3, s3⟩
              clear K c1 c2 c3
              go_upto_region 16 with fail
              -- the rows of the nest, in whatever world
              have HI : Hid _ := Dk.nestRows s3 HF.out.1 HLen.out
              go_cut [74] from 66 to 74 (fun v w' => (∃ c : Bool, v = .bool c ∧ Hid (c = (B && !(rs.getD p.toNat []).isEmpty))) ∧ w' = w3)
              case first =>
                cases B with
                | false =>
                  go_wp2_with fail
                  go_meet
                  exact ⟨⟨false, rfl, rfl⟩, rfl⟩
                | true =>
                  obtain ⟨q1, q2⟩ := HBt.out rfl
                  obtain ⟨q, rfl⟩ : ∃ q : Nat, p = q := ⟨p.toNat, by omega⟩
                  have hqn : q < n := by omega
                  obtain ⟨A, M, D, eM, _, _, _, hall⟩ := HI.out q hqn
                  have hc := (hall _ _ s3).1
                  have hE := Dk.full_len eM
                  clear hall eM
                  by_cases h0 : 0 < M
                  · have y1 : decide (0 < (M : Int)) = true := decide_eq_true (by omega)
                    rw [decide_eq_true h0] at hE
                    have HE : Hid _ := hE
                    clear hE
                    go_wp2_with fail
                    go_meet
                    exact ⟨⟨true, rfl, by rw [Int.toNat_natCast, HE.out]; rfl⟩, rfl⟩
                  · have y1 : decide (0 < (M : Int)) = false := decide_eq_false (by omega)
                    rw [decide_eq_false h0] at hE
                    have HE : Hid _ := hE
                    clear hE
                    go_wp2_with fail
                    go_meet
                    exact ⟨⟨false, rfl, by rw [Int.toNat_natCast, HE.out]; rfl⟩, rfl⟩
              case rest =>
                obtain ⟨⟨c, rfl, HC⟩, hw⟩ := hcut
                subst wc
                go_upto_if 74 with fail
                go_cut [13] from 75 to 75 (fun v w' => (∃ F : Int, v = .int .i64 F ∧ Hid (Dk.Look rs p 0 F 0)) ∧ w' = w3)
                case first =>
                  cases c with
                  | true =>
                    go_wp2_with fail
                    go_meet
                    refine ⟨⟨p, rfl, ?_⟩, rfl⟩
                    have h := HC.out
                    rw [← HB.out] at h
                    have h' : (Dk.inRows rs p && !(rs.getD p.toNat []).isEmpty) = true := h.symm
                    rw [Bool.and_eq_true, Bool.not_eq_true'] at h'
                    exact Dk.Look.own h'.1 h'.2
                  | false =>
                    go_wp2_with fail
                    go_meet
                    refine ⟨⟨-1, rfl, ?_⟩, rfl⟩
                    have h := HC.out
                    rw [← HB.out] at h
                    have h' : (Dk.inRows rs p && !(rs.getD p.toNat []).isEmpty) = false := h.symm
                    refine Dk.Look.start fun hi => ?_
                    rw [hi, Bool.true_and, Bool.not_eq_false'] at h'
                    exact h'
                case rest =>
                  obtain ⟨⟨F0, rfl, HL0⟩, hw⟩ := hcut
                  subst wc
                  clear HC
                  go_wp2
                  go_loopw [13, 14, 15] (fun vf va vk w' => ∃ (F A : Int) (j : Nat), j ≤ n ∧ vf = .int .i64 F ∧ va = .int .i64 A ∧ vk = .int .i64 j ∧ Hid (Dk.Look rs p j F A) ∧ Dk.Sep w w' ([Dk.nestOf 30 3 1 Dk.is (.slice (some ⟨g, 0, none⟩) n n) vs rs] ++ ts3)) (fun vf va vk w' => n - (RowKit.intOf vk).toNat)
                  case atStart => exact ⟨F0, 0, 0, Nat.zero_le _, rfl, rfl, rfl, HL0, s3⟩
                  case round =>
                    clear s3 HL0
                    obtain ⟨F, Aa, j, hj, rfl, rfl, rfl, HL, hS⟩ := hrel
                    by_cases hgo : j < n ∧ B = true ∧ F < 0
                    · obtain ⟨hjn, hBB, hF0⟩ := hgo
                      subst hBB
                      have y1 : decide ((j : Int) < (n : Int)) = true := decide_eq_true (by omega)
                      have y2 : decide (F < 0) = true := decide_eq_true hF0
                      obtain ⟨A, M, D, eM, hMD, hD, _, hall⟩ := HI.out j hjn
                      have hc := (hall _ _ hS).1
                      have HE : Hid _ := Dk.empty_len eM
                      have HEM : Hid _ := eM
                      clear hall eM
                      by_cases h0 : 0 < M
                      · have y3 : decide (0 < (M : Int)) = true := decide_eq_true (by omega)
                        go_wp2
                        go_quiet (fail)
                        go_wp2
                        go_roundw
                        case rel =>
                          refine ⟨(j : Int), (M : Int) - 1, j + 1, by omega, by go_num, by go_num, by go_num, ?_, hS.below (Dk.up_drewN (Below.refl _ _) nq)⟩
                          have h := HL.out.hit hF0 HB.out (by rw [HLen.out]; exact hjn) (by rw [HE.out]; simp; omega)
                          rw [HEM.out] at h
                          exact h
                        case measure => simp [RowKit.intOf]; omega
                      · have y3 : decide (0 < (M : Int)) = false := decide_eq_false (by omega)
                        go_wp2
                        go_roundw
                        case rel => exact ⟨F, Aa, j + 1, by omega, rfl, rfl, by go_num, HL.out.skip (by rw [HE.out]; simp; omega), hS⟩
                        case measure => simp [RowKit.intOf]; omega
                    · go_upto_region 19 with fail
                      go_cut [85] from 76 to 100 (fun v w' => v = .bool false ∧ w' = wr)
                      case first =>
                        by_cases d1 : j < n
                        · have y1 : decide ((j : Int) < (n : Int)) = true := decide_eq_true (by omega)
                          cases B with
                          | false =>
                            go_wp2_with fail
                            go_meet
                            exact ⟨rfl, rfl⟩
                          | true =>
                            have y2 : decide (F < 0) = false := decide_eq_false (fun h => hgo ⟨d1, rfl, h⟩)
                            go_wp2_with fail
                            go_meet
                            exact ⟨rfl, rfl⟩
                        · have y1 : decide ((j : Int) < (n : Int)) = false := decide_eq_false (by omega)
                          go_wp2_with fail
                          go_meet
                          exact ⟨rfl, rfl⟩
                      case rest =>
                        obtain ⟨rfl, hw⟩ := hcut
                        subst wc
                        obtain ⟨e1, e2⟩ := HL.out.done (fun h1 h2 => by
                          rw [HLen.out]
                          rw [HB.out] at h2
                          exact Nat.le_of_not_lt fun h3 => hgo ⟨h3, h2, h1⟩)
                        clear hgo HL
                        subst e1
                        subst e2
                        cases Bp with
                        | false =>
                          obtain ⟨f1, f2, f3⟩ := Dk.from_no HBp.out
                          rw [HT.out] at f2
                          subst f2
                          rw [f1]
                          rw [f3] at hR3
                          clear f1 f3
                          go_wp2_with fail
                          go_roundw
                          case rel => exact ⟨k + 1, rs, ts3, vs, by omega, by omega, by go_num, ⟨HF.out.1.mono (by omega), HF.out.2⟩, hR3, hS⟩
                          case measure => simp [RowKit.intOf]; omega
                        | true =>
                          obtain ⟨f, a, f1, f2, f3, f4, f5, f6⟩ := Dk.from_yes HBp.out
                          rw [HT.out] at f5
                          subst f5
                          rw [f1, f2]
                          have HF' : Hid (Dk.Few k (rs.set f ((rs.getD f []).eraseIdx a)) ∧ (rs.set f ((rs.getD f []).eraseIdx a)).length = n) := ⟨by rw [← f6]; exact HF.out.1.pick p, by rw [List.length_set]; exact HF.out.2⟩
                          rw [f6] at hR3
                          have hfn : f < n := by rw [HLen.out] at f3; exact f3
                          obtain ⟨A, M, D, eM, hMD, hD, hvf, hall⟩ := HI.out f hfn
                          obtain ⟨hc, hsl⟩ := hall _ _ hS
                          have ham : a < M := by rw [← eM]; exact f4
                          obtain ⟨bb, oo, rfl, _, hcc0⟩ := hsl.cells (by omega)
                          have hcc := hcc0 a ham
                          clear hcc0
                          obtain ⟨g', C', u, xs, ev, _, _, hu, hxs, _, _, ho, _⟩ := hS.inner (i := f) (List.mem_cons_self ..) f3
                          rw [hvf] at hu
                          injection hu with hu
                          have exs : rs.getD f [] = xs := by simp [List.getD, hxs]
                          rw [← hu, ← exs] at ho
                          have KW := Without_any _ (.slice (some ⟨bb, oo, none⟩) M D) (rs.getD f []) a wr ho f4 (by have := (HF.out.1.row f).2; omega)
                          have hlt : f < rs.length := f3
                          obtain ⟨x, ex⟩ : ∃ x, (rs.getD f []).getD a 0 = x := ⟨_, rfl⟩
                          rw [ex] at hcc
                          rw [ex]
                          have HLt : Hid _ := hlt
                          clear ev hu hxs ho exs hsl f1 f2 f3 f4 f6 hall hvf ex hlt eM
                          have y1 : decide (0 ≤ (f : Int)) = true := decide_eq_true (by omega)
                          go_wp2_with fail
                          refine KW.mono ?_
                          rintro e w4 ⟨v', rfl, ho4, _, v4⟩
                          obtain ⟨A4, C4, ev4, _, _⟩ := Dk.owns_slice ho4
                          subst ev4
                          have s4 := hS.add v4 (t := Dk.rowOf 3 1 (.slice A4 ((rs.getD f []).eraseIdx a).length C4) ((rs.getD f []).eraseIdx a).length (Dk.is ((rs.getD f []).eraseIdx a))) (Dk.owns_base ho4 (Nat.zero_le _)) (fun q hq => (ho4.lt q hq).1)
                          obtain ⟨z1, ⟨zu, z2⟩, s5⟩ := Dk.Sep.nestInto (us1 := []) (i := f) s4 rfl HLt.out (g := g) (C := n) (by rw [HLen.out])
                          clear KW s4 ho4 v4 hc hcc
                          go_wp2
                          go_roundw
                          case rel => exact ⟨k + 1, _, ts3, _, by omega, by omega, by go_num, ⟨HF'.out.1.mono (by omega), HF'.out.2⟩, hR3, s5⟩
                          case measure => simp [RowKit.intOf]; omega
            | false =>
              have HI : Hid _ := Dk.nestRows hS HF.out.1 HLen.out
              go_wp2
              clear c1 c2 c3
              go_loopw [16, 17] (fun v kk w' => ∃ (j : Nat), j ≤ n ∧ v = .bool (Dk.inFirst rs j t) ∧ kk = .int .i64 j ∧ Dk.Sep w w' ([Dk.nestOf 30 3 1 Dk.is (.slice (some ⟨g, 0, none⟩) n n) vs rs] ++ ts)) (fun v kk w' => n - (RowKit.intOf kk).toNat)
              case atStart => exact ⟨0, Nat.zero_le _, by rw [Dk.inFirst_zero], rfl, hS⟩
              case round =>
                clear hS
                obtain ⟨j, hj, rfl, rfl, hS⟩ := hrel
                by_cases hjn : j < n
                · obtain ⟨A, M, D, eM, hMD, hD, _, hall⟩ := HI.out j hjn
                  have hmore := Dk.inFirst_more (rs := rs) (k := j) (by rw [HLen.out]; exact hjn) t
                  obtain ⟨V, eV⟩ : ∃ V, Dk.inFirst rs j t = V := ⟨_, rfl⟩
                  obtain ⟨Z, eZ⟩ : ∃ Z, (rs.getD j []).contains t = Z := ⟨_, rfl⟩
                  rw [eZ] at hmore
                  rw [eV] at hmore ⊢
                  have HZ : Hid _ := eZ
                  have HMore : Hid _ := hmore
                  have HAll : Hid _ := hall
                  clear hmore hall eV eM eZ
                  cases V with
                  | true =>
                    go_wp2
                    go_quiet (fail)
                    go_wp2
                    go_roundw
                    case rel => exact ⟨j + 1, by omega, by rw [HMore.out]; rfl, by go_num, hS.below (Dk.up_drewN (Below.refl _ _) nq)⟩
                    case measure => simp [RowKit.intOf]; omega
                  | false =>
                    go_wp2
                    have hS' := hS.below (w' := wr.drew) (Dk.up_drew (Below.refl _ _))
                    refine Dk.wp_region_mix (S := fun w' => Dk.Sep w w' ([Dk.nestOf 30 3 1 Dk.is (.slice (some ⟨g, 0, none⟩) n n) vs rs] ++ ts)) [(true, 0), (true, 1), (true, 2), (true, 3), (true, 4), (true, 5), (true, 6), (true, 7), (true, 8), (true, 9), (true, 10), (false, 11), (false, 12), (false, 13)] (by kernel_rfl) (by kernel_rfl) (by kernel_rfl) rfl hS' ?_
                    iterate 5 (refine Dk.mix_held rfl rfl (fun w' hw' => by go_simp; rfl) ?_; simp only [Act.put, List.setIfInBounds_toArray, List.set_cons_succ, List.set_cons_zero])
                    iterate 1 (refine Dk.mix_held rfl rfl (fun w' hw' => by have c := (HAll.out _ _ hw').1; go_simp; rfl) ?_; simp only [Act.put, List.setIfInBounds_toArray, List.set_cons_succ, List.set_cons_zero])
                    iterate 4 (refine Dk.mix_held rfl rfl (fun w' hw' => by go_simp; rfl) ?_; simp only [Act.put, List.setIfInBounds_toArray, List.set_cons_succ, List.set_cons_zero])
                    iterate 1 (refine Dk.mix_held rfl rfl (fun w' hw' => by have c := (HA.out _ hw'.out).2.2; go_simp; rfl) ?_; simp only [Act.put, List.setIfInBounds_toArray, List.set_cons_succ, List.set_cons_zero])
                    refine Dk.mix_call (f := 9) (args := #[.slice A M D, .int .i64 t]) rfl rfl (by go_simp) ?_
                    have KI := In_any A M D (rs.getD j []) t _ (HAll.out _ _ hS').2
                    rw [HZ.out] at KI
                    refine KI.mono ?_
                    rintro e w4 ⟨rfl, rfl⟩
                    refine ⟨_, rfl, hS', ?_⟩
                    simp only [Act.put, List.setIfInBounds_toArray, List.set_cons_succ, List.set_cons_zero]
                    iterate 2 (refine Dk.mix_val rfl rfl (by go_simp; rfl) hS' ?_; simp only [Act.put, List.setIfInBounds_toArray, List.set_cons_succ, List.set_cons_zero])
                    show NoPanic _ Exit.normal _ _
                    refine NoPanic.normal ?_
                    go_wp2
                    go_roundw
                    case rel => exact ⟨j + 1, by omega, by rw [HMore.out]; rfl, by go_num, hS'⟩
                    case measure => simp [RowKit.intOf]; omega
                · have ejn : n = j := by omega
                  subst ejn
                  have hca := Dk.canAdd_eq rs p t
                  rw [HB.out, HLen.out] at hca
                  obtain ⟨V, eV⟩ : ∃ V, Dk.inFirst rs n t = V := ⟨_, rfl⟩
                  rw [eV] at hca ⊢
                  have K := I.add (us := [_]) hR hS HF.out.1 (by omega) p t hp64 ht64
                  obtain ⟨c1, c2, c3⟩ := HA.out wr hS.out
                  clear eV hjn hj hS hR
                  by_cases hyes : Dk.canAdd rs p t = true
                  · have hBV : B = true ∧ V = false := by
                      rw [hyes] at hca
                      have h := hca.symm
                      rw [Bool.and_eq_true, Bool.not_eq_true'] at h
                      exact h
                    obtain ⟨rfl, rfl⟩ := hBV
                    obtain ⟨q1, q2⟩ := HBt.out rfl
                    obtain ⟨q, rfl⟩ : ∃ q : Nat, p = q := ⟨p.toNat, by omega⟩
                    have hqn : q < n := by omega
                    obtain ⟨A, M, D, eM, hMD, hD, hvq, hall⟩ := HI.out q hqn
                    have hadd : Dk.addTo rs q t = rs.set q (rs.getD q [] ++ [t]) := by unfold Dk.addTo; rw [if_pos hyes, Int.toNat_natCast]
                    have HF' : Hid (Dk.Few (k + 1) (rs.set q (rs.getD q [] ++ [t])) ∧ (rs.set q (rs.getD q [] ++ [t])).length = n) := ⟨by rw [← hadd]; exact HF.out.1.add ht64, by rw [List.length_set]; exact HF.out.2⟩
                    have hMk : M ≤ 1000 := by have := (HF.out.1.row q).2; omega
                    rw [hyes, hadd] at K
                    clear hca hadd hyes q1 q2
                    go_wp2_with fail
                    refine K.mono ?_
                    rintro e w4 ⟨rfl, ts4, hR4, s4⟩
                    clear K c1 c2 c3
                    obtain ⟨W5, e5⟩ : ∃ W5, W5 = w4.drew := ⟨_, rfl⟩
                    have s5 := s4.below (w' := W5) (by rw [e5]; exact Dk.up_drew (Below.refl _ _))
                    obtain ⟨W6, e6⟩ : ∃ W6, W6 = W5.alloc (.cells #[.int .i64 t] 3) := ⟨_, rfl⟩
                    have u6' : Below W5.heap.size W5 W6 := by rw [e6]; exact Dk.up_alloc (Below.refl _ _) _
                    have s6 := s5.below u6'
                    have hb6 : Dk.Box W6 W5.heap.size #[.int .i64 t] 3 := by rw [e6]; exact Dk.Box.new _ _ _
                    obtain ⟨g', C', u, xs, ev, _, _, hu, hxs, _, _, ho, _⟩ := s6.inner (i := q) (List.mem_cons_self ..) (by rw [HLen.out]; exact hqn)
                    rw [hvq] at hu
                    injection hu with hu
                    have exs : rs.getD q [] = xs := by simp [List.getD, hxs]
                    rw [← hu, ← exs, eM] at ho
                    obtain ⟨v', w7, hrun, ho7, hg7, hf7, _⟩ := K22.append w.heap.size 30 (.slice A M D) (Dk.is (rs.getD q [])) M W6 ho ⟨W5.heap.size, 0, none⟩ 1 1 [.int .i64 t] rfl (fun j u hj => by
                      rw [Addr.add_lit, Nat.zero_add, hb6.cell]
                      match j, hj with
                      | 0, hj => simpa using hj) (fun u hu => by simp at hu; rw [hu]; rfl) (by omega) s6.out.size
                    have u7 := s6.out.grown hg7 s6.out.size (fun j hj => (ho.lt j hj).1)
                    have ho8 : w7.ownsRow 0 3 1 v' (rs.getD q [] ++ [t]).length (Dk.is (rs.getD q [] ++ [t])) := by
                      have e : Dk.is (rs.getD q [] ++ [t]) = Dk.is (rs.getD q []) ++ [.int .i64 t] := by simp [Dk.is]
                      rw [e, List.length_append, eM]
                      exact Dk.owns_base ho7 (Nat.zero_le _)
                    obtain ⟨z1, z2, s8⟩ := Dk.Sep.nestPut (us1 := []) s6 (i := q) (g := g) (C := n) (by rw [HLen.out]; exact hqn) (by rw [HLen.out]) hvq (Dk.Away.of_grown hg7 (fun k hk => .inl hk)) ho8 hf7
                    obtain ⟨A7, C7, ev7, _, _⟩ := Dk.owns_slice ho8
                    obtain ⟨L7, eL7⟩ : ∃ L7, (rs.getD q [] ++ [t]).length = L7 := ⟨_, rfl⟩
                    rw [eL7] at ev7
                    subst ev7
                    have x5 := And.intro (hall _ _ s5).1 (HA.out _ s5.out).2.2
                    have x6 := And.intro (hall _ _ s6).1 (HA.out _ s6.out).2.2
                    have x7 := And.intro z1 (HA.out _ u7).2.2
                    have x8 : ∀ (w' : World), (w'.cell? ⟨g, q, none⟩ = some (.slice A M D) ∧ w'.cell? ⟨b1, o1 + k * 3 + 2, none⟩ = some (.int .i64 t)) → True := fun _ _ => trivial
                    have HE6 : Hid (W5.alloc (.cells #[.int .i64 t] 3) = W6) := e6.symm
                    have HRun : Hid _ := hrun
                    have HS8 : Hid _ := s8
                    have HX5 : Hid _ := x5
                    have HX6 : Hid _ := x6
                    have HX7 : Hid _ := x7
                    have HZ2 : Hid _ := z2
                    have HE5 : Hid (w4.drew = W5) := e5.symm
                    clear e5 e6 u6' hb6 ev hu hxs ho exs hrun ho7 hg7 hf7 u7 ho8 z1 z2 s8 eL7 x5 x6 x7 x8 s4 s5 s6 hall hvq eM
                    go_wp2
                    refine Dk.wp_region_lineZ (z := 14) (S := fun w' => w'.cell? ⟨g, q, none⟩ = some (.slice A M D) ∧ w'.cell? ⟨b1, o1 + k * 3 + 2, none⟩ = some (.int .i64 t)) [0, 1, 2, 3, 4, 5, 6, 7, 8, 9, 10] [11, 12, 13, 14] (by kernel_rfl) (by kernel_rfl) (by kernel_rfl) (by rw [HE5.out]; exact HX5.out) ?_
                    rw [HE5.out]
                    iterate 5 (refine Dk.held_step rfl rfl (fun w' hw' => by go_simp; rfl) ?_; simp only [Act.put, List.setIfInBounds_toArray, List.set_cons_succ, List.set_cons_zero])
                    iterate 1 (refine Dk.held_step rfl rfl (fun w' hw' => by have c := hw'.1; go_simp; rfl) ?_; simp only [Act.put, List.setIfInBounds_toArray, List.set_cons_succ, List.set_cons_zero])
                    iterate 4 (refine Dk.held_step rfl rfl (fun w' hw' => by go_simp; rfl) ?_; simp only [Act.put, List.setIfInBounds_toArray, List.set_cons_succ, List.set_cons_zero])
                    iterate 1 (refine Dk.held_step rfl rfl (fun w' hw' => by have c := hw'.2; go_simp; rfl) ?_; simp only [Act.put, List.setIfInBounds_toArray, List.set_cons_succ, List.set_cons_zero])
                    refine Dk.lineZ_step (v := .slice (some ⟨W5.heap.size, 0, none⟩) 1 1) (w' := W6) rfl rfl (by rw [← HE6.out]; go_simp) (fun _ => HX6.out) ?_
                    simp only [Act.put, List.setIfInBounds_toArray, List.set_cons_succ, List.set_cons_zero]
                    refine Dk.lineZ_step (v := .slice A7 L7 C7) (w' := w7) rfl rfl (by simp only [execOp, resolve, invoke, builtin]; simp [Act.eval, HRun.out]) (fun _ => HX7.out) ?_
                    simp only [Act.put, List.setIfInBounds_toArray, List.set_cons_succ, List.set_cons_zero]
                    refine Dk.lineZ_step (v := .pointer (some ⟨g, q, none⟩)) (w' := w7) rfl rfl (by go_simp) (fun _ => HX7.out) ?_
                    simp only [Act.put, List.setIfInBounds_toArray, List.set_cons_succ, List.set_cons_zero]
                    refine Dk.lineZ_skip (w' := w7.setCell ⟨g, q, none⟩ (.slice A7 L7 C7)) rfl rfl (by have q1 := HX7.out.1; have q2 := HZ2.out; go_simp) (fun h => absurd rfl h) ?_
                    show NoPanic _ Exit.normal _ _
                    refine NoPanic.normal ?_
                    go_wp2
                    go_roundw
                    case rel => exact ⟨k + 1, _, ts4, _, by omega, by omega, by go_num, HF'.out, hR4, HS8.out⟩
                    case measure => simp [RowKit.intOf]; omega
                  · have hno : Dk.canAdd rs p t = false := by simpa using hyes
                    have hadd : Dk.addTo rs p t = rs := by unfold Dk.addTo; rw [if_neg hyes]
                    rw [hno, hadd] at K
                    rw [hno] at hca
                    clear hno hadd hyes
                    cases B with
                    | false =>
                      clear hca
                      go_wp2_with fail
                      refine K.mono ?_
                      rintro e w4 ⟨rfl, ts4, hR4, s4⟩
                      clear K
                      go_wp2
                      go_roundw
                      case rel => exact ⟨k + 1, rs, ts4, vs, by omega, by omega, by go_num, ⟨HF.out.1.mono (by omega), HF.out.2⟩, hR4, s4⟩
                      case measure => simp [RowKit.intOf]; omega
                    | true =>
                      have hV : V = true := by cases V <;> simp at hca ⊢
                      subst hV
                      clear hca
                      go_wp2_with fail
                      refine K.mono ?_
                      rintro e w4 ⟨rfl, ts4, hR4, s4⟩
                      clear K
                      go_wp2
                      go_roundw
                      case rel => exact ⟨k + 1, rs, ts4, vs, by omega, by omega, by go_num, ⟨HF.out.1.mono (by omega), HF.out.2⟩, hR4, s4⟩
                      case measure => simp [RowKit.intOf]; omega
        · go_upto_region 9 with fail
          go_cut [40] from 33 to 183 (fun v w' => v = .bool false ∧ w' = wr)
          case first =>
            by_cases d1 : k < n1
            · have y1 : decide ((k : Int) < (n1 : Int)) = true := decide_eq_true (by omega)
              have y2 : decide ((k : Int) < 100) = false := decide_eq_false (by omega)
              go_wp2_with fail
              go_meet
              exact ⟨rfl, rfl⟩
            · have y1 : decide ((k : Int) < (n1 : Int)) = false := decide_eq_false (by omega)
              go_wp2_with fail
              go_meet
              exact ⟨rfl, rfl⟩
          case rest =>
            obtain ⟨rfl, hw⟩ := hcut
            subst wc
            clear hkm
            have HI : Hid _ := Dk.nestRows hS HF.out.1 HF.out.2
            have HLen : Hid (rs.length = n) := HF.out.2
            go_wp2
            go_loopw [18, 19] (fun ve vk w' => ∃ (E : Bool) (j : Nat) (ts : List Dk.Thing), j ≤ n + 2 ∧ ve = .bool E ∧ vk = .int .i64 ((j : Int) - 1) ∧ Hid (E = ((rs.take (j - 1)).all fun r => r.isEmpty)) ∧ R0 b rs ts ∧ Dk.Sep w w' ([Dk.nestOf 30 3 1 Dk.is (.slice (some ⟨g, 0, none⟩) n n) vs rs] ++ ts)) (fun ve vk w' => n + 2 - ((RowKit.intOf vk) + 1).toNat)
            case atStart => exact ⟨true, 0, ts, by omega, rfl, rfl, rfl, hR, hS⟩
            case round =>
              clear hS hR
              obtain ⟨E, j, ts, hj, rfl, rfl, HE, hR, hS⟩ := hrel
              have hmore := Dk.all_more rs j
              obtain ⟨kk, ekk⟩ : ∃ kk : Int, (j : Int) - 1 = kk := ⟨_, rfl⟩
              rw [ekk] at hmore ⊢
              rw [← HE.out] at hmore
              have hk1 : -1 ≤ kk := by omega
              have hk2 : kk ≤ (n : Int) + 1 := by omega
              by_cases hjn : kk ≤ (n : Int)
              · have y0 : decide (kk ≤ (n : Int)) = true := decide_eq_true hjn
                have HEkk : Hid _ := ekk
                have HMore : Hid _ := hmore
                clear ekk hmore HE
                obtain ⟨W1, e1⟩ : ∃ W1, W1 = wr.alloc (.cells #[] 3) := ⟨_, rfl⟩
                have s1' := hS.below (w' := W1) (by rw [e1]; exact Dk.up_alloc (Below.refl _ _) _)
                have H1 : Hid _ := e1.symm
                clear e1 hS
                obtain ⟨B, eB⟩ : ∃ B, Dk.inRows rs kk = B := ⟨_, rfl⟩
                have HB : Hid (Dk.inRows rs kk = B) := eB
                have hBt : B = true → 0 ≤ kk ∧ kk < n := fun h => by
                  have := Dk.inRows_iff.1 (eB.trans h)
                  rw [HLen.out] at this
                  exact this
                have hBf : B = false → ¬ (0 ≤ kk ∧ kk < n) := fun h h' => by
                  have : Dk.inRows rs kk = true := Dk.inRows_iff.2 ⟨h'.1, by rw [HLen.out]; exact h'.2⟩
                  rw [eB, h] at this
                  cases this
                have HBt : Hid _ := hBt
                have HBf : Hid _ := hBf
                clear eB hBt hBf
                go_upto_region 43 with (rw [H1.out]; clear H1)
                go_cut [196] from 190 to 196 (fun v w' => v = .bool B ∧ w' = W1)
                case first =>
                  cases B with
                  | true =>
                    obtain ⟨q1, q2⟩ := HBt.out rfl
                    have y1 : decide (0 ≤ kk) = true := decide_eq_true q1
                    have y2 : decide (kk < (n : Int)) = true := decide_eq_true q2
                    go_wp2_with fail
                    go_meet
                    exact ⟨rfl, rfl⟩
                  | false =>
                    by_cases q1 : 0 ≤ kk
                    · have y1 : decide (0 ≤ kk) = true := decide_eq_true q1
                      have y2 : decide (kk < (n : Int)) = false := decide_eq_false (fun q2 => HBf.out rfl ⟨q1, q2⟩)
                      go_wp2_with fail
                      go_meet
                      exact ⟨rfl, rfl⟩
                    · have y1 : decide (0 ≤ kk) = false := decide_eq_false q1
                      go_wp2_with fail
                      go_meet
                      exact ⟨rfl, rfl⟩
                case rest =>
                  obtain ⟨rfl, hw⟩ := hcut
                  subst wc
                  go_upto_if 196 with fail
                  go_cut [20] from 197 to 200 (fun v w' => (∃ A M D, v = .slice A M D ∧ Hid ((Dk.rowL rs kk).length = M ∧ M ≤ D ∧ D ≤ 9223372036854775807 ∧ ∀ (w' : World) (ts : List Dk.Thing), Dk.Sep w w' ([Dk.nestOf 30 3 1 Dk.is (.slice (some ⟨g, 0, none⟩) n n) vs rs] ++ ts) → Dk.SlI w'.heap.size w' A M D (Dk.rowL rs kk))) ∧ w' = W1)
                  case first =>
                    cases B with
                    | true =>
                      obtain ⟨q1, q2⟩ := HBt.out rfl
                      obtain ⟨q, rfl⟩ : ∃ q : Nat, kk = q := ⟨kk.toNat, by omega⟩
                      have hqn : q < n := by omega
                      obtain ⟨A, M, D, eM, hMD, hD, _, hall⟩ := HI.out q hqn
                      have hc := (hall _ _ s1').1
                      have HZ : Hid ((Dk.rowL rs (q : Int)).length = M ∧ M ≤ D ∧ D ≤ 9223372036854775807 ∧ ∀ (w' : World) (ts : List Dk.Thing), Dk.Sep w w' ([Dk.nestOf 30 3 1 Dk.is (.slice (some ⟨g, 0, none⟩) n n) vs rs] ++ ts) → Dk.SlI w'.heap.size w' A M D (Dk.rowL rs (q : Int))) := by
                        rw [Dk.rowL_at (by rw [HLen.out]; exact hqn)]
                        exact ⟨eM, hMD, hD, fun w' ts h => (hall w' ts h).2⟩
                      clear hall eM
                      go_wp2_with fail
                      go_meet
                      exact ⟨⟨A, M, D, rfl, HZ⟩, rfl⟩
                    | false =>
                      go_wp2_with fail
                      go_meet
                      refine ⟨⟨_, 0, 0, rfl, ?_⟩, rfl⟩
                      rw [Dk.rowL_out HB.out]
                      exact ⟨rfl, Nat.le_refl _, by omega, fun w' ts h => ⟨rfl, Nat.le_refl _, by unfold maxLen; omega, by simp, fun h => absurd h (by omega)⟩⟩
                  case rest =>
                    obtain ⟨⟨A, M, D, rfl, HW⟩, hw⟩ := hcut
                    subst wc
                    have hMD := HW.out.2.1
                    have hD := HW.out.2.2.1
                    obtain ⟨E', eE'⟩ : ∃ E', (E && decide (M = 0)) = E' := ⟨_, rfl⟩
                    have HE' : Hid (E' = ((rs.take j).all fun r => r.isEmpty)) := by
                      rw [HMore.out, ← eE', Dk.empty_len HW.out.1]
                      exact rfl
                    go_upto_region 45 with fail
                    go_cut [18] from 201 to 206 (fun v w' => v = .bool E' ∧ w' = W1)
                    case first =>
                      cases E with
                      | false =>
                        have e : E' = false := by rw [← eE']; rfl
                        clear eE'
                        subst e
                        go_wp2_with fail
                        go_meet
                        exact ⟨rfl, rfl⟩
                      | true =>
                        by_cases h0 : M = 0
                        · have e : E' = true := by rw [← eE', h0]; rfl
                          have y3 : ((M : Int) == 0) = true := by rw [h0]; rfl
                          clear eE' h0
                          subst e
                          go_wp2_with fail
                          go_meet
                          exact ⟨rfl, rfl⟩
                        · have e : E' = false := by rw [← eE']; simp [h0]
                          have y3 : ((M : Int) == 0) = false := by simp; exact h0
                          clear eE' h0
                          subst e
                          go_wp2_with fail
                          go_meet
                          exact ⟨rfl, rfl⟩
                    case rest =>
                      obtain ⟨rfl, hw⟩ := hcut
                      subst wc
                      clear eE'
                      have hx64 := Dk.rowL_wf HF.out.1 kk
                      have K := I.row (us := [_]) hR s1' HF.out.1 (by omega) kk (by unfold Dk.i64; omega)
                      have HX64 : Hid _ := hx64
                      clear hR s1' hx64
                      go_wp2_with fail
                      refine K.mono ?_
                      rintro e w3 ⟨A3, C3, rfl, ts3, hR3, s3⟩
                      clear K
                      rw [HW.out.1] at s3 ⊢
                      have s4 := s3.sub (List.sublist_cons_self _ _)
                      have q5 := s3.ints (xs := Dk.rowL rs kk) (List.mem_cons_self ..) HW.out.1 HX64.out
                      have q6 := HW.out.2.2.2 _ _ s4
                      have K := Ints_same A3 A M C3 D (Dk.rowL rs kk) w3 q5 q6
                      clear q5 q6 s3
                      go_wp2_with fail
                      refine K.mono ?_
                      rintro e w4 ⟨rfl, v4⟩
                      have s5 := s4.below v4
                      clear K s4 v4
                      go_wp2
                      go_loopw [21] (fun v w' => ∃ (q : Nat) (ts : List Dk.Thing), q ≤ M ∧ v = .int .i64 q ∧ R0 b rs ts ∧ Dk.Sep w w' ([Dk.nestOf 30 3 1 Dk.is (.slice (some ⟨g, 0, none⟩) n n) vs rs] ++ ts)) (fun v w' => M - (RowKit.intOf v).toNat)
                      case atStart => exact ⟨0, ts3, Nat.zero_le _, rfl, hR3, s5⟩
                      case round =>
                        clear hR3 s5
                        obtain ⟨q, ts5, hq, rfl, hR5, s5⟩ := hrel
                        by_cases hqM : q < M
                        · have hBB : B = true := by
                            cases B with
                            | true => rfl
                            | false =>
                              have h := HW.out.1
                              rw [Dk.rowL_out HB.out] at h
                              simp at h
                              omega
                          obtain ⟨z1, z2⟩ := HBt.out hBB
                          obtain ⟨u, eu⟩ : ∃ u : Nat, kk = u := ⟨kk.toNat, by omega⟩
                          have hun : u < rs.length := by rw [HLen.out]; omega
                          obtain ⟨bb, oo, eA, _, hc0⟩ := (HW.out.2.2.2 _ _ s5).cells (by omega)
                          have hc := hc0 q hqM
                          have hw1 : Dk.whereK rs ((Dk.rowL rs kk).getD q 0) = u := by
                            have h := HW.out.1
                            rw [eu, Dk.rowL_at hun] at h ⊢
                            exact Dk.where_at HF.out.1 hun (by rw [h]; exact hqM)
                          have hxq : Dk.i64 ((Dk.rowL rs kk).getD q 0) := HX64.out _ (by
                            have h := HW.out.1
                            generalize Dk.rowL rs kk = l at h ⊢
                            rw [show l.getD q 0 = l[q]'(by omega) from by simp [List.getD, (by omega : q < l.length)]]
                            exact List.getElem_mem _)
                          obtain ⟨x, ex⟩ : ∃ x, (Dk.rowL rs kk).getD q 0 = x := ⟨_, rfl⟩
                          rw [ex] at hc hw1 hxq
                          have K := I.where_ (us := [_]) hR5 s5 HF.out.1 (by omega) x hxq
                          rw [hw1, show decide (u < rs.length) = true from decide_eq_true hun] at K
                          have HUn : Hid _ := hun
                          have HEu : Hid _ := eu
                          subst eA
                          clear hc0 hw1 ex hR5 s5 eu hun z1 z2 hBB
                          go_wp2_with fail
                          refine K.mono ?_
                          rintro e w6 ⟨k0, rfl, hk0, _, ts6, hR6, s6⟩
                          have ek0 : k0 = kk := by rw [hk0 HUn.out, HEu.out]
                          clear K hc hk0
                          subst ek0
                          go_wp2
                          go_roundw
                          case rel => exact ⟨q + 1, ts6, by omega, by go_num, hR6, s6⟩
                          case measure => simp [RowKit.intOf]; omega
                        · go_wp2
                          go_roundw
                          case rel => exact ⟨E', j + 1, ts5, by have := HEkk.out; omega, rfl, by rw [← HEkk.out]; go_num, HE'.out, hR5, s5⟩
                          case measure => have := HEkk.out; simp [RowKit.intOf]; omega
              · have ej : j = n + 2 := by omega
                have hem : Dk.emptyR rs = E := by
                  rw [HE.out, ej]
                  show _ = (rs.take (n + 1)).all _
                  rw [List.take_of_length_le (by rw [HLen.out]; omega)]
                  rfl
                have y0 : decide (kk ≤ (n : Int)) = false := decide_eq_false hjn
                have HEm : Hid _ := hem
                clear hem ej hmore HE ekk
                go_wp2_with fail
                refine (awake_any I _).mono ?_
                rintro e w3 ⟨rfl, v3⟩
                have s3 := hS.below v3
                have K := I.empty (us := [_]) hR s3 HF.out.1 (by omega)
                rw [HEm.out] at K
                clear hS v3 hR
                go_wp2_with fail
                refine K.mono ?_
                rintro e w4 ⟨rfl, ts4, _, s4⟩
                clear K
                cases E with
                | true =>
                  go_wp2
                  go_ret
                  exact ⟨rfl, s4.out⟩
                | false =>
                  go_wp2
                  go_ret
                  exact ⟨rfl, s4.out⟩
end Go.Proofs.Ytoilkojegnfmfaa
