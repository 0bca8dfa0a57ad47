/- The walk of the statement on all who came in. -/
import Derived.Test.YtoilkojegnfmfaaYd
import Derived.Test.YtoilkojegnfmfaaYc
import Derived.Deep.CutRange
namespace Go.Proofs.Ytoilkojegnfmfaa
set_option linter.unusedSimpArgs false
set_option linter.unusedVariables false
set_option linter.unnecessarySimpa false
open Go.RowKit Go.Lib
variable {R0 : Nat → List (List Int) → List Dk.Thing → Prop}

set_option maxRecDepth 100000 in
set_option maxHeartbeats 1000000 in
theorem ReadyAll_any (I : RowsI R0) (procs : Nat) (hpr : procs < 256) (A1 : Option Addr) (n1 C1 : Nat) (rows : List Nat) (A2 : Option Addr) (n2 C2 : Nat) (picks : List Nat) (w : World)
    (hr : Dk.Row 1 0 Dk.IsByte w.heap.size w A1 n1 C1 rows) (hp : Dk.Row 1 0 Dk.IsByte w.heap.size w A2 n2 C2 picks) :
    Calls Try.prog 4 #[.int .u8 (procs : Nat), .slice A1 n1 C1, .slice A2 n2 C2] w fun e w' => e = .returned (.bool true) ∧ Below w.heap.size w w' := by
  have hr1 := hr.cap
  have hr2 := hr.max
  have hp1 := hp.cap
  have hp2 := hp.max
  unfold maxLen at hr2 hp2
  obtain ⟨z, ez⟩ : ∃ z, procs % 8 = z := ⟨_, rfl⟩
  have hz8 : z < 8 := by omega
  have hz7 : ((procs : Int) % 8) = (z : Int) := by omega
  have hz6 : ((procs : Int).tmod 8) = (z : Int) := by rw [Int.tmod_eq_emod_of_nonneg (by omega)]; exact hz7
  clear ez
  have KN := I.new (us := []) (Dk.Sep.begin (Below.refl w.heap.size w)) ((z : Int) + 1) (by unfold Dk.i64; omega)
  rw [show Dk.nRows ((z : Int) + 1) = z + 1 from by unfold Dk.nRows; omega] at KN
  have HR : Hid _ := hr
  have HP : Hid _ := hp
  clear hr hp
  go_enter Try.func4, Try.ntmps4
  go_wp2_with fail
  refine KN.mono ?_
  rintro e w1 ⟨b, ts1, rfl, hR1, s1⟩
  clear KN
  obtain ⟨n, en⟩ : ∃ n, z + 1 = n := ⟨_, rfl⟩
  have hzn : (z : Int) + 1 = (n : Int) := by omega
  have hn8 : n ≤ 8 := by omega
  have hn0 : 0 < n := by omega
  rw [en] at hR1
  have HF1 : Hid (Dk.Full n 0 (List.replicate n [])) := Dk.Full.blank n (by omega)
  obtain ⟨m, em⟩ : ∃ m, min n1 40 = m := ⟨_, rfl⟩
  have hm1 : m ≤ n1 := by omega
  have hm2 : m ≤ 40 := by omega
  have hm3 : ¬ 40 < n1 → n1 = m := by omega
  have hm4 : 40 < n1 → m = 40 := by omega
  clear em en
  go_upto_if 30 with fail
  go_cut [9] from 27 to 30 (fun v w' => v = .int .i64 (m : Int) ∧ w' = w1)
  case first =>
    by_cases c : 40 < n1
    · have y : decide ((40 : Int) < (n1 : Int)) = true := decide_eq_true (by omega)
      have e := hm4 c
      subst e
      clear hm3 hm4
      go_wp2_with fail
      go_meet
      exact ⟨rfl, rfl⟩
    · have y : decide ((40 : Int) < (n1 : Int)) = false := decide_eq_false (by omega)
      have e := hm3 c
      subst e
      clear hm3 hm4
      go_wp2_with fail
      go_meet
      exact ⟨rfl, rfl⟩
  case rest =>
    obtain ⟨rfl, hw⟩ := hcut
    subst wc
    clear hm3 hm4
    go_wp2
    go_loopw [10] (fun i w' => ∃ (k : Nat) (rs : List (List Int)) (ts : List Dk.Thing), k ≤ m ∧ i = .int .i64 k ∧ Hid (Dk.Full n k rs) ∧ R0 b rs ts ∧ Dk.Sep w w' ([] ++ ts)) (fun i w' => m - (RowKit.intOf i).toNat)
    case atStart => exact ⟨0, _, _, Nat.zero_le _, rfl, HF1, hR1, s1⟩
    case round =>
      clear hR1 s1 HF1
      obtain ⟨k, rs, ts, hk, rfl, HF, hR, hS⟩ := hrel
      by_cases hkm : k < m
      · obtain ⟨b1, o1, rfl, hb1, hc⟩ := Dk.u8_cell HR.out (by omega)
        obtain ⟨y, ey⟩ : ∃ y, rows.getD k 0 = y := ⟨_, rfl⟩
        have hc := hc k (by omega)
        rw [ey] at hc
        have c1 : wr.cell? ⟨b1, o1 + k, none⟩ = some (.int .u8 (y : Nat)) := by rw [hS.out.cell (by show b1 < w.heap.size; exact hb1)]; exact hc.1
        have hy := hc.2
        obtain ⟨q, eq⟩ : ∃ q, y % n = q := ⟨_, rfl⟩
        have hq : q < n := by rw [← eq]; exact Nat.mod_lt _ hn0
        have hyq : ((y : Int).tmod (n : Int)) = (q : Int) := by rw [Int.tmod_eq_emod_of_nonneg (by omega), ← eq]; omega
        have hnn : (n : Int) ≠ 0 := by omega
        have hn00 : ¬ n = 0 := by omega
        obtain ⟨g1, g2⟩ := HF.out.add (p := (q : Int)) (by omega) (by omega) (by omega)
        have K := I.add hR hS HF.out.few (by omega) (q : Int) (k : Int) (by unfold Dk.i64; omega) (by unfold Dk.i64; omega)
        rw [g1] at K
        have HG2 : Hid _ := g2
        clear hc ey eq g1 g2 HF hR
        go_wp2_with fail
        refine K.mono ?_
        rintro e w2 ⟨rfl, ts2, hR2, s2⟩
        clear K
        go_wp2
        go_roundw
        case rel => exact ⟨k + 1, _, ts2, by omega, by go_num, HG2, hR2, s2⟩
        case measure => simp [RowKit.intOf]; omega
      · have ek : k = m := by omega
        subst ek
        obtain ⟨w3, hmk, s3⟩ := Sep.madeYn hS k (by omega)
        have HL0 : Hid (Dk.Left n k 0 rs (List.replicate k false)) := HF.out.left
        clear HF hS HR hm1 hk hkm
        generalize wr.heap.size = g at hmk s3
        go_wp2
        clear hmk
        go_loopw [12] (fun v w' => ∃ (i : Nat) (rs : List (List Int)) (ts : List Dk.Thing) (out : List Bool), i ≤ k ∧ v = .int .i64 i ∧ Hid (Dk.Left n k i rs out) ∧ R0 b rs ts ∧ Dk.Sep w w' (Dk.rowOf 4 1 (.slice (some ⟨g, 0, none⟩) k k) k (Dk.yn out) :: ts)) (fun v w' => k - (RowKit.intOf v).toNat)
        case atStart => exact ⟨0, rs, ts, _, Nat.zero_le _, rfl, HL0, hR, s3⟩
        case round =>
          clear hR s3 HL0
          obtain ⟨i, rs, ts, out, hi, rfl, HL, hR, hS⟩ := hrel
          by_cases hik : i < k
          · go_upto_if 56 with fail
            go_cut [13] from 54 to 66 (fun v w' => (∃ q : Nat, q < n ∧ v = .int .i64 q) ∧ w' = wr)
            case first =>
              by_cases c : 0 < n2
              · have y : decide ((0 : Int) < (n2 : Int)) = true := decide_eq_true (by omega)
                obtain ⟨b2, o2, rfl, hb2, hc⟩ := Dk.u8_cell HP.out c
                obtain ⟨j, ej⟩ : ∃ j, i % n2 = j := ⟨_, rfl⟩
                have hj : j < n2 := by rw [← ej]; exact Nat.mod_lt _ c
                have hjj : ((i : Int).tmod (n2 : Int)) = (j : Int) := by rw [Int.tmod_eq_emod_of_nonneg (by omega), ← ej]; omega
                obtain ⟨y, ey⟩ : ∃ y, picks.getD j 0 = y := ⟨_, rfl⟩
                have hc := hc j hj
                rw [ey] at hc
                have c1 : wr.cell? ⟨b2, o2 + j, none⟩ = some (.int .u8 (y : Nat)) := by rw [hS.out.cell (by show b2 < w.heap.size; exact hb2)]; exact hc.1
                have hy := hc.2
                obtain ⟨q, eq⟩ : ∃ q, y % n = q := ⟨_, rfl⟩
                have hq : q < n := by rw [← eq]; exact Nat.mod_lt _ hn0
                have hyq : ((y : Int).tmod (n : Int)) = (q : Int) := by rw [Int.tmod_eq_emod_of_nonneg (by omega), ← eq]; omega
                have hnn : (n : Int) ≠ 0 := by omega
                have hn00 : ¬ n = 0 := by omega
                have hn2 : (n2 : Int) ≠ 0 := by omega
                have hn20 : ¬ n2 = 0 := by omega
                clear hc ey eq ej
                go_wp2_with fail
                go_meet
                exact ⟨⟨q, hq, rfl⟩, rfl⟩
              · have y : decide ((0 : Int) < (n2 : Int)) = false := decide_eq_false (by omega)
                go_wp2_with fail
                go_meet
                exact ⟨⟨0, hn0, rfl⟩, rfl⟩
            case rest =>
              obtain ⟨⟨q, hq, rfl⟩, hw⟩ := hcut
              subst wc
              obtain ⟨g1, g2, g3, g4, g5⟩ := HL.out.step (p := (q : Int)) hik (by omega) (by omega)
              have K := I.pick (us := [_]) hR hS HL.out.few (by omega) (q : Int) (by unfold Dk.i64; omega)
              rw [g1] at K
              obtain ⟨t, et⟩ : ∃ t : Nat, Dk.pickT rs q = t := ⟨_, (Int.toNat_of_nonneg g2).symm⟩
              rw [et] at K g3 g4 g5
              rw [Int.toNat_natCast] at g4 g5
              have htk : t < k := by omega
              have HG5 : Hid _ := g5
              have HG4 : Hid _ := g4
              have HM : Hid (out.length = k) := HL.out.marks
              clear g1 g2 g3 g4 g5 et HL hR hS
              go_wp2_with fail
              refine K.mono ?_
              rintro e w4 ⟨rfl, ts4, hR4, s4⟩
              clear K
              obtain ⟨g', C', x, ev, _, _, hx, hcell, hfr, hset⟩ := Dk.Sep.cell (us1 := []) s4 htk
              injection ev with ev1 _ ev2
              injection ev1 with ev1
              injection ev1 with ev1
              subst ev1
              subst ev2
              rw [Dk.yn_at (by rw [HM.out]; exact htk) true, HG4.out] at hx
              injection hx with hx
              subst hx
              have hset := hset (.bool true)
              rw [Dk.yn_set] at hset
              have y1 : decide ((t : Int) < 0) = false := decide_eq_false (by omega)
              have y2 : decide ((k : Int) ≤ (t : Int)) = false := decide_eq_false (by omega)
              go_wp2
              go_roundw
              case rel => exact ⟨i + 1, _, ts4, _, by omega, by go_num, HG5, hR4, hset⟩
              case measure => simp [RowKit.intOf]; omega
          · have eik : i = k := by omega
            subst eik
            have he := HL.out.empty
            have hS1 := hS.sub (List.sublist_cons_self _ _)
            have HF : Hid _ := HL.out.few
            clear HL hS
            go_wp2_with fail
            refine (I.pick_nil _ 0).mono ?_
            rintro e w4 ⟨rfl, u4⟩
            have s4 := hS1.below u4
            clear hS1 u4
            go_wp2_with fail
            refine (I.where_nil _ 0).mono ?_
            rintro e w5 ⟨⟨k5, rfl⟩, u5⟩
            have s5 := s4.below u5
            clear s4 u5
            go_wp2_with fail
            refine (awake_any I _).mono ?_
            rintro e w6 ⟨rfl, u6⟩
            have s6 := s5.below u6
            have K := I.empty (us := []) hR s6 HF.out (by omega)
            rw [he] at K
            clear s5 u6 hR s6
            go_wp2_with fail
            refine K.mono ?_
            rintro e w7 ⟨rfl, ts7, _, s7⟩
            clear K
            go_wp2_with fail
            refine (I.empty_nil _).mono ?_
            rintro e w8 ⟨rfl, u8⟩
            have s8 := s7.below u8
            clear s7 u8
            go_wp2_with fail
            refine (I.add_nil _ 0 1).mono ?_
            rintro e w9 ⟨rfl, u9⟩
            have s9 := s8.below u9
            clear s8 u9
            go_wp2_with fail
            refine (I.row_nil _ 0).mono ?_
            rintro e wa ⟨⟨Aa, Ca, rfl⟩, ua⟩
            have sa := s9.below ua
            clear s9 ua
            go_wp2
            go_ret
            exact ⟨rfl, sa.out⟩
end Go.Proofs.Ytoilkojegnfmfaa
