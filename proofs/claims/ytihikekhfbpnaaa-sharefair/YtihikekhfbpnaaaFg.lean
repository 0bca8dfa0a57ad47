/- What the document's answer on shares is. -/
import Derived.Test.YtihikekhfbpnaaaFf
namespace Dk
theorem Scan.up {d p out : List Int} {f k i : Nat} (h : Scan d p out f k (i : Nat)) : out.getD i 0 < d.getD i 0 := by
  rcases h with ⟨h1, _⟩ | ⟨j, h1, _, _, h4, _⟩
  · omega
  · have e : i = j := by omega
    subst e
    exact h4
end Dk
namespace Go.Proofs.Ytihikekhfbpnaaa
set_option linter.unusedSimpArgs false
set_option linter.unusedVariables false
set_option linter.unnecessarySimpa false
open Go.RowKit

theorem RFair_1 (procs turn : Int) (hp : Dk.i64 procs) (A A' : Option Addr) (n C m C' : Nat) (hm : m ≠ n) (w : World) :
    Calls Try.prog 8 #[.int .i64 procs, .slice A n C, .slice A' m C', .int .i64 turn] w fun e w' => e = .returned (.tuple #[.slice none 0 0, .bool false]) ∧ w' = w := by
  have y1 : ((m : Int) != (n : Int)) = true := by simp; omega
  go_enter Try.func8, Try.ntmps8
  go_wp2
  go_ret2
  exact ⟨rfl, rfl⟩
theorem RFair_2 (procs turn : Int) (hp : Dk.i64 procs) (A A' : Option Addr) (n C C' : Nat) (h8 : 8 < n) (w : World) :
    Calls Try.prog 8 #[.int .i64 procs, .slice A n C, .slice A' n C', .int .i64 turn] w fun e w' => e = .returned (.tuple #[.slice none 0 0, .bool false]) ∧ w' = w := by
  have y1 : ((n : Int) != (n : Int)) = false := by simp
  go_enter Try.func8, Try.ntmps8
  go_wp2
  go_ret2
  exact ⟨rfl, rfl⟩
theorem RFair_3 (procs turn : Int) (hp : Dk.i64 procs) (A A' : Option Addr) (n C C' : Nat) (h8 : n ≤ 8) (h0 : procs < 0) (w : World) :
    Calls Try.prog 8 #[.int .i64 procs, .slice A n C, .slice A' n C', .int .i64 turn] w fun e w' => e = .returned (.tuple #[.slice none 0 0, .bool false]) ∧ w' = w := by
  have y1 : ((n : Int) != (n : Int)) = false := by simp
  go_enter Try.func8, Try.ntmps8
  go_wp2
  go_ret2
  exact ⟨rfl, rfl⟩
theorem RFair_4 (procs turn : Int) (hp : Dk.i64 procs) (A A' : Option Addr) (n C C' : Nat) (h8 : n ≤ 8) (h0 : 0 ≤ procs) (h64 : 64 < procs) (w : World) :
    Calls Try.prog 8 #[.int .i64 procs, .slice A n C, .slice A' n C', .int .i64 turn] w fun e w' => e = .returned (.tuple #[.slice none 0 0, .bool false]) ∧ w' = w := by
  have y1 : ((n : Int) != (n : Int)) = false := by simp
  go_enter Try.func8, Try.ntmps8
  go_wp2
  go_ret2
  exact ⟨rfl, rfl⟩

/-- What the document's answer is. -/
def Told (procs turn : Int) (n : Nat) (d p : List Int) (e : Ending) (w' : World) : Prop :=
  (∃ A C, e = .returned (.tuple #[.slice A n C, .bool true]) ∧ ∃ has, Dk.Good procs d p has (Dk.turnOf turn n) ∧ Dk.SlI w'.heap.size w' A n C has ∧ Dk.Ask procs n p) ∨ (e = .returned (.tuple #[.slice none 0 0, .bool false]) ∧ ¬ Dk.Ask procs n p)

set_option maxRecDepth 100000 in
set_option maxHeartbeats 4000000 in
theorem RFair_5 (procs turn : Int) (htu : Dk.i64 turn) (A1 A2 : Option Addr) (m C1 C2 : Nat) (d p : List Int) (w : World) (hd : Dk.SlI w.heap.size w A1 m C1 d) (hp : Dk.SlI w.heap.size w A2 m C2 p) (h8 : m ≤ 8) (h0 : 0 ≤ procs) (h64 : procs ≤ 64) (f : Nat) (ef : f = Dk.turnOf turn m) :
    Calls Try.prog 8 #[.int .i64 procs, .slice A1 m C1, .slice A2 m C2, .int .i64 turn] w fun e w' => ((∃ A C, e = .returned (.tuple #[.slice A m C, .bool true]) ∧ ∃ has, Dk.Good procs d p has f ∧ Dk.SlI w'.heap.size w' A m C has ∧ Dk.Ask procs m p) ∨ (e = .returned (.tuple #[.slice none 0 0, .bool false]) ∧ ¬ Dk.Ask procs m p)) ∧ Below w.heap.size w w' := by
  have hpl := hp.len
  have hdl := hd.len
  have hdx := fun k (hk : k < m) => Dk.sli_at hd k hk
  have HDX : Hid (∀ k, k < d.length → Dk.i64 (d.getD k 0)) := by rw [hdl]; exact hdx
  have hd1 := hd.cap
  have hd2 := hd.max
  have hp1 := hp.cap
  have hp2 := hp.max
  unfold maxLen at hd2 hp2
  have HD : Hid _ := hd
  have HP : Hid _ := hp
  have y1 : ((m : Int) != (m : Int)) = false := by simp
  clear hd hp hdx
  obtain ⟨ht1, ht2⟩ := htu
  go_enter Try.func8, Try.ntmps8
  go_wp2
  go_loopw [11] (fun i w' => ∃ k : Nat, k ≤ m ∧ i = .int .i64 k ∧ Hid (∀ j, j < k → 0 ≤ p.getD j 0 ∧ p.getD j 0 ≤ 7) ∧ Hid (Below w.heap.size w w')) (fun i w' => m - (intOf i).toNat)
  case atStart => exact ⟨0, Nat.zero_le _, rfl, fun j hj => absurd hj (by omega), Below.refl _ _⟩
  case round =>
    obtain ⟨k, hk, rfl, HK, HB⟩ := hrel
    by_cases hlt : k < m
    · obtain ⟨b, o, rfl, hb, hc⟩ := HP.out.cells (by omega)
      have c1 : wr.cell? ⟨b, o + k, none⟩ = some (.int .i64 (p.getD k 0)) := by rw [HB.out.cell (by show b < w.heap.size; exact hb)]; exact hc k hlt
      have hv := Dk.sli_at HP.out k hlt
      obtain ⟨v, ev⟩ : ∃ v, p.getD k 0 = v := ⟨_, rfl⟩
      rw [ev] at c1 hv
      have HV : Hid _ := ev
      obtain ⟨hv1, hv2⟩ := hv
      clear hc ev
      by_cases hv0 : v < 0
      · go_wp2
        go_ret2
        exact ⟨.inr ⟨rfl, fun hA => by have := hA.2.2.2.2 k hlt; have := HV.out; omega⟩, HB.out⟩
      · by_cases hv7 : 7 < v
        · go_wp2
          go_ret2
          exact ⟨.inr ⟨rfl, fun hA => by have := hA.2.2.2.2 k hlt; have := HV.out; omega⟩, HB.out⟩
        · go_wp2
          go_roundw
          case rel => exact ⟨k + 1, by omega, by go_num, fun j hj => if e : j = k then by rw [e, HV.out]; omega else HK.out j (by omega), HB.out⟩
          case measure => simp [intOf]; omega
    · have HA : Hid (∀ j, j < m → 0 ≤ p.getD j 0 ∧ p.getD j 0 ≤ 7) := fun j hj => HK.out j (by omega)
      have u1 := HB.out
      clear HK
      generalize ew : wr = w1 at *
      clear ew
      obtain ⟨w2, e2⟩ : ∃ w2, w1.alloc (.cells (Dk.cells (List.replicate m 0)) 3) = w2 := ⟨_, rfl⟩
      have hmk := make_ints m (by omega) w1
      rw [e2] at hmk
      have HB2 : Hid (Dk.Box w2 w1.heap.size (Dk.cells (List.replicate m 0)) 3) := e2 ▸ Dk.Box.new _ _ _
      have HU2 : Hid (Below w.heap.size w w2) := e2 ▸ Dk.up_alloc u1 _
      have hz2 : w2.heap.size = w1.heap.size + 1 := by rw [← e2]; simp
      have HD2 : Hid (Dk.SlI w1.heap.size w2 A1 m C1 d) := e2 ▸ (((HD.out.below u1 (Nat.le_refl _)).more u1.size).below (Dk.up_alloc (Below.refl _ _) _) (Nat.le_refl _))
      have HP2 : Hid (Dk.SlI w1.heap.size w2 A2 m C2 p) := e2 ▸ (((HP.out.below u1 (Nat.le_refl _)).more u1.size).below (Dk.up_alloc (Below.refl _ _) _) (Nat.le_refl _))
      have hz1 := u1.size
      have HZ2 : Hid _ := hz2
      clear e2 u1 hz2 HB
      generalize w1.heap.size = bh at *
      by_cases hm0 : m = 0
      · have y2 : ((m : Int) == 0) = true := by simp; omega
        have y3 : (m == 0) = true := by simp; omega
        have y4 : decide (m = 0) = true := by simp; omega
        have y5 : decide ((m : Int) = 0) = true := by simp; omega
        have HGo : Hid (Dk.Good procs d p (List.replicate m 0) f) := by
          have := Dk.Down.zero d p f
          rw [hdl] at this
          exact ⟨this, by rw [Dk.zeros_sum]; exact h0, fun i hi => absurd hi (by omega)⟩
        have HM0 : Hid _ := hm0
        clear hm0
        go_wp2
        go_ret2
        exact ⟨.inl ⟨_, _, rfl, List.replicate m 0, HGo.out, Dk.sli_box HB2.out (by simp) (by omega) (fun k hk => absurd hk (by have := HM0.out; omega)), hpl, h8, h0, h64, HA.out⟩, HU2.out⟩
      · have y2 : ((m : Int) == 0) = false := by simp; omega
        have y3 : (m == 0) = false := by simp; omega
        have y4 : decide (m = 0) = false := by simp; omega
        have y5 : decide ((m : Int) = 0) = false := by simp; omega
        have hnn : (m : Int) ≠ 0 := by omega
        have q1 := Dk.tmod_le turn (n := m) (by omega)
        have q3 := Dk.turn_neg turn (n := m) (by omega)
        have q4 := Dk.turn_pos turn (n := m) (by omega)
        have hfm := Dk.turnOf_lt (turn := turn) (n := m) (by omega)
        rw [← ef] at q3 q4 hfm
        obtain ⟨q, eq⟩ : ∃ q, turn.tmod (m : Int) = q := ⟨_, rfl⟩
        rw [eq] at q1 q3 q4
        obtain ⟨q5, q6⟩ := q1
        clear ef
        by_cases hq : q < 0
        · have q7 : q + (m : Int) = (f : Int) := q3 hq
          clear q3 q4
          go_wp2
          go_loopw [14] (fun l w' => ∃ (left : Int) (out : List Int), l = .int .i64 left ∧ 0 ≤ left ∧ left ≤ 64 ∧ Hid (Dk.Box w' bh (Dk.cells out) 3) ∧ Hid (Dk.Some procs d p out f left) ∧ Hid (w2.grownBy w' (some bh))) (fun l w' => (intOf l).toNat)
          case atStart =>
            refine ⟨procs, List.replicate m 0, rfl, by omega, by omega, HB2.out, ?_, Dk.far_refl _ _⟩
            show Dk.Some _ _ _ _ _ _
            have := Dk.Some.begin (procs := procs) (d := d) (p := p) (f := f) h0
            rw [hdl] at this
            exact this
          case round =>
            obtain ⟨left, out, rfl, hl0, hl64, HB, HS, HG⟩ := hrel
            by_cases hlt : 0 < left
            · have y0 : decide ((0 : Int) < left) = true := by simp; omega
              go_wp2
              generalize ew : wr = wa at *
              clear ew
              go_loopw [15, 16] (fun b k w' => ∃ (b0 : Int) (k0 : Nat), b = .int .i64 b0 ∧ k = .int .i64 k0 ∧ k0 ≤ m ∧ Hid (Dk.Scan d p out f k0 b0) ∧ Hid (Dk.Box w' bh (Dk.cells out) 3) ∧ Hid (w2.grownBy w' (some bh))) (fun b k w' => m - (intOf k).toNat)
              case atStart => exact ⟨-1, 0, rfl, rfl, Nat.zero_le _, Dk.Scan.begin _ _ _ _, HB.out, HG.out⟩
              case round =>
                obtain ⟨b0, k, rfl, rfl, hk, HSc, HB', HG'⟩ := hrel
                by_cases hkm : k < m
                · have hx := Dk.nth_lt (f := f) (n := m) k (by omega)
                  have e1 : ((f : Int) + (k : Int)) % (m : Int) = ((Dk.nth f m k : Nat) : Int) := by unfold Dk.nth; rw [Int.natCast_emod, Int.natCast_add]
                  obtain ⟨x, ex⟩ : ∃ x, Dk.nth f m k = x := ⟨_, rfl⟩
                  rw [ex] at e1 hx
                  have ol : out.length = m := by rw [HS.out.down.len, hdl]
                  obtain ⟨bd, od, ed, c1, nb1⟩ := Dk.sli_far HD2.out (by rw [HZ2.out]; omega) HG'.out x hx
                  obtain ⟨bp, op, ep, c2, nb2⟩ := Dk.sli_far HP2.out (by rw [HZ2.out]; omega) HG'.out x hx
                  subst ed
                  subst ep
                  have c3 : wr.cell? ⟨bh, x, none⟩ = some (.int .i64 (out.getD x 0)) := by rw [HB'.out.cell]; exact Dk.cells_at (by omega)
                  obtain ⟨o1, eo1⟩ : ∃ o, out.getD x 0 = o := ⟨_, rfl⟩
                  obtain ⟨d1, ed1⟩ : ∃ o, d.getD x 0 = o := ⟨_, rfl⟩
                  obtain ⟨p1, ep1⟩ : ∃ o, p.getD x 0 = o := ⟨_, rfl⟩
                  rw [eo1] at c3
                  rw [ed1] at c1
                  rw [ep1] at c2
                  have HEx : Hid (Dk.nth f d.length k = x) := by rw [hdl]; exact ex
                  have HO1 : Hid (out.getD x 0 = o1) := eo1
                  have HD1 : Hid (d.getD x 0 = d1) := ed1
                  have HP1 : Hid (p.getD x 0 = p1) := ep1
                  have HOL : Hid _ := ol
                  clear ex eo1 ed1 ep1 ol
                  by_cases hfull : d1 ≤ o1
                  · have y1 : decide (d1 ≤ o1) = true := by simp; omega
                    have HSn : Hid (Dk.Scan d p out f (k + 1) b0) := HSc.out.skip (by rw [HEx.out, HD1.out, HO1.out]; exact hfull)
                    clear c2
                    go_wp2
                    go_quiet (fail)
                    go_wp2
                    go_roundw
                    case rel => exact ⟨b0, k + 1, rfl, by go_num, by omega, HSn.out, HB'.out.drewN nq, Dk.far_up HG'.out (Dk.up_drewN (Below.refl _ _) nq)⟩
                    case measure => simp [intOf]; omega
                  · have y1 : decide (d1 ≤ o1) = false := by simp; omega
                    have HW : Hid (out.getD (Dk.nth f d.length k) 0 < d.getD (Dk.nth f d.length k) 0) := by rw [HEx.out, HD1.out, HO1.out]; show o1 < d1; omega
                    rcases HSc.out.cases with eb | ⟨j, eb, hj⟩
                    · subst eb
                      have HSn : Hid (Dk.Scan d p out f (k + 1) (x : Nat)) := by
                        have := HSc.out.first (by omega) (by omega) HW.out
                        rw [HEx.out] at this
                        exact this
                      go_wp2
                      go_quiet (fail)
                      go_wp2
                      go_quiet (fail)
                      go_wp2
                      go_roundw
                      case rel => exact ⟨x, k + 1, rfl, by go_num, by omega, HSn.out, HB'.out.drewN _, Dk.far_up HG'.out (Dk.up_drewN (Below.refl _ _) _)⟩
                      case measure => simp [intOf]; omega
                    · subst eb
                      have hjm : j < m := by omega
                      have y5 : decide ((j : Int) < 0) = false := by simp
                      have y6 : ¬ (j : Int) < 0 := by omega
                      have y7 : (0 : Int) ≤ (j : Int) := by omega
                      have y8 : (j : Int) < (m : Int) := by omega
                      have y9 : (x : Int) < (m : Int) := by omega
                      obtain ⟨bp', op', ep', c4, _⟩ := Dk.sli_far HP2.out (by rw [HZ2.out]; omega) HG'.out j hjm
                      injection Option.some.inj ep' with q1 q2
                      subst q1
                      subst q2
                      have c5 : wr.cell? ⟨bh, j, none⟩ = some (.int .i64 (out.getD j 0)) := by rw [HB'.out.cell]; exact Dk.cells_at (by rw [HOL.out]; omega)
                      obtain ⟨o2, eo2⟩ : ∃ o, out.getD j 0 = o := ⟨_, rfl⟩
                      obtain ⟨p2, ep2⟩ : ∃ o, p.getD j 0 = o := ⟨_, rfl⟩
                      rw [eo2] at c5
                      rw [ep2] at c4
                      have HO2 : Hid (out.getD j 0 = o2) := eo2
                      have HP2' : Hid (p.getD j 0 = p2) := ep2
                      clear eo2 ep2 ep'
                      by_cases hp : p2 < p1
                      · have y2 : decide (p2 < p1) = true := by simp; omega
                        have HSn : Hid (Dk.Scan d p out f (k + 1) (x : Nat)) := by
                          have := HSc.out.better (by omega) (by omega) HW.out (by rw [HEx.out, HP1.out, HP2'.out, HO1.out, HO2.out]; omega)
                          rw [HEx.out] at this
                          exact this
                        go_wp2
                        go_quiet (fail)
                        go_wp2
                        go_quiet (fail)
                        go_wp2
                        go_roundw
                        case rel => exact ⟨x, k + 1, rfl, by go_num, by omega, HSn.out, HB'.out.drewN _, Dk.far_up HG'.out (Dk.up_drewN (Below.refl _ _) _)⟩
                        case measure => simp [intOf]; omega
                      · have y2 : decide (p2 < p1) = false := by simp; omega
                        by_cases hpe : p1 = p2
                        · have y3 : (p1 == p2) = true := by simp; omega
                          by_cases ho : o1 < o2
                          · have y4 : decide (o1 < o2) = true := by simp; omega
                            have HSn : Hid (Dk.Scan d p out f (k + 1) (x : Nat)) := by
                              have := HSc.out.better (by omega) (by omega) HW.out (by rw [HEx.out, HP1.out, HP2'.out, HO1.out, HO2.out]; omega)
                              rw [HEx.out] at this
                              exact this
                            clear hpe
                            go_wp2
                            go_quiet (fail)
                            go_wp2
                            go_quiet (fail)
                            go_wp2
                            go_roundw
                            case rel => exact ⟨x, k + 1, rfl, by go_num, by omega, HSn.out, HB'.out.drewN _, Dk.far_up HG'.out (Dk.up_drewN (Below.refl _ _) _)⟩
                            case measure => simp [intOf]; omega
                          · have y4 : decide (o1 < o2) = false := by simp; omega
                            have HSn : Hid (Dk.Scan d p out f (k + 1) (j : Nat)) := HSc.out.worse (by omega) (by omega) (by rw [HEx.out, HP1.out, HP2'.out, HO1.out, HO2.out]; omega)
                            clear hpe
                            go_wp2
                            go_quiet (fail)
                            go_wp2
                            go_quiet (fail)
                            go_wp2
                            go_roundw
                            case rel => exact ⟨j, k + 1, rfl, by go_num, by omega, HSn.out, HB'.out.drewN _, Dk.far_up HG'.out (Dk.up_drewN (Below.refl _ _) _)⟩
                            case measure => simp [intOf]; omega
                        · have y3 : (p1 == p2) = false := by simp; omega
                          have HSn : Hid (Dk.Scan d p out f (k + 1) (j : Nat)) := HSc.out.worse (by omega) (by omega) (by rw [HEx.out, HP1.out, HP2'.out, HO1.out, HO2.out]; omega)
                          go_wp2
                          go_quiet (fail)
                          go_wp2
                          go_quiet (fail)
                          go_wp2
                          go_roundw
                          case rel => exact ⟨j, k + 1, rfl, by go_num, by omega, HSn.out, HB'.out.drewN _, Dk.far_up HG'.out (Dk.up_drewN (Below.refl _ _) _)⟩
                          case measure => simp [intOf]; omega
                · have ekm : k = m := by omega
                  have HSm : Hid (Dk.Scan d p out f d.length b0) := by rw [hdl, ← ekm]; exact HSc.out
                  have ol : out.length = m := by rw [HS.out.down.len, hdl]
                  rcases HSc.out.cases with eb | ⟨j, eb, hj⟩
                  · subst eb
                    have HGo : Hid (Dk.Good procs d p out f) := HS.out.none (by omega) HSm.out
                    go_wp2
                    go_ret2
                    exact ⟨.inl ⟨_, _, rfl, out, HGo.out, Dk.sli_box HB'.out (by rw [HGo.out.down.len]; exact hdl) (by omega) (fun k hk => Dk.good_i64 HGo.out HDX.out k (by omega)), hpl, h8, h0, h64, HA.out⟩, Dk.up_far HU2.out HG'.out (by omega)⟩
                  · subst eb
                    have hjm : j < m := by omega
                    have c5 : wr.cell? ⟨bh, j, none⟩ = some (.int .i64 (out.getD j 0)) := by rw [HB'.out.cell]; exact Dk.cells_at (by omega)
                    have c6 : wr.frozen? ⟨bh, j, none⟩ = false := HB'.out.frozen _
                    have hlow := HS.out.down.low j (by omega)
                    have hup := HSm.out.up
                    have hdj := HDX.out j (by omega)
                    have HSn : Hid (Dk.Some procs d p (out.set j (out.getD j 0 + 1)) f (left - 1)) := HS.out.give (by omega) hlt HSm.out
                    obtain ⟨o2, eo2⟩ : ∃ o, out.getD j 0 = o := ⟨_, rfl⟩
                    rw [eo2] at c5 hup hlow HSn
                    obtain ⟨hdj1, hdj2⟩ := hdj
                    have ho2 : o2 + 1 ≤ 9223372036854775807 := by omega
                    clear hup hdj1 hdj2 eo2
                    go_wp2
                    go_roundw
                    case rel =>
                      refine ⟨left - 1, out.set j (o2 + 1), by go_num, by omega, by omega, ?_, HSn.out, Dk.far_set HG'.out _ _⟩
                      show Dk.Box _ _ _ _
                      rw [← Dk.cells_set]
                      exact HB'.out.set j _
                    case measure => simp [intOf]; omega
            · have y0 : decide ((0 : Int) < left) = false := by simp; omega
              have e0 : left = 0 := by omega
              have HGo : Hid (Dk.Good procs d p out f) := by
                have := HS.out
                rw [e0] at this
                exact this.over
              go_wp2
              go_ret2
              exact ⟨.inl ⟨_, _, rfl, out, HGo.out, Dk.sli_box HB.out (by rw [HGo.out.down.len]; exact hdl) (by omega) (fun k hk => Dk.good_i64 HGo.out HDX.out k (by omega)), hpl, h8, h0, h64, HA.out⟩, Dk.up_far HU2.out HG.out (by omega)⟩
        · have q7 : q = (f : Int) := q4 hq
          clear q3 q4
          subst q7
          go_wp2
          go_loopw [14] (fun l w' => ∃ (left : Int) (out : List Int), l = .int .i64 left ∧ 0 ≤ left ∧ left ≤ 64 ∧ Hid (Dk.Box w' bh (Dk.cells out) 3) ∧ Hid (Dk.Some procs d p out f left) ∧ Hid (w2.grownBy w' (some bh))) (fun l w' => (intOf l).toNat)
          case atStart =>
            refine ⟨procs, List.replicate m 0, rfl, by omega, by omega, HB2.out, ?_, Dk.far_refl _ _⟩
            show Dk.Some _ _ _ _ _ _
            have := Dk.Some.begin (procs := procs) (d := d) (p := p) (f := f) h0
            rw [hdl] at this
            exact this
          case round =>
            obtain ⟨left, out, rfl, hl0, hl64, HB, HS, HG⟩ := hrel
            by_cases hlt : 0 < left
            · have y0 : decide ((0 : Int) < left) = true := by simp; omega
              go_wp2
              generalize ew : wr = wa at *
              clear ew
              go_loopw [15, 16] (fun b k w' => ∃ (b0 : Int) (k0 : Nat), b = .int .i64 b0 ∧ k = .int .i64 k0 ∧ k0 ≤ m ∧ Hid (Dk.Scan d p out f k0 b0) ∧ Hid (Dk.Box w' bh (Dk.cells out) 3) ∧ Hid (w2.grownBy w' (some bh))) (fun b k w' => m - (intOf k).toNat)
              case atStart => exact ⟨-1, 0, rfl, rfl, Nat.zero_le _, Dk.Scan.begin _ _ _ _, HB.out, HG.out⟩
              case round =>
                obtain ⟨b0, k, rfl, rfl, hk, HSc, HB', HG'⟩ := hrel
                by_cases hkm : k < m
                · have hx := Dk.nth_lt (f := f) (n := m) k (by omega)
                  have e1 : ((f : Int) + (k : Int)) % (m : Int) = ((Dk.nth f m k : Nat) : Int) := by unfold Dk.nth; rw [Int.natCast_emod, Int.natCast_add]
                  obtain ⟨x, ex⟩ : ∃ x, Dk.nth f m k = x := ⟨_, rfl⟩
                  rw [ex] at e1 hx
                  have ol : out.length = m := by rw [HS.out.down.len, hdl]
                  obtain ⟨bd, od, ed, c1, nb1⟩ := Dk.sli_far HD2.out (by rw [HZ2.out]; omega) HG'.out x hx
                  obtain ⟨bp, op, ep, c2, nb2⟩ := Dk.sli_far HP2.out (by rw [HZ2.out]; omega) HG'.out x hx
                  subst ed
                  subst ep
                  have c3 : wr.cell? ⟨bh, x, none⟩ = some (.int .i64 (out.getD x 0)) := by rw [HB'.out.cell]; exact Dk.cells_at (by omega)
                  obtain ⟨o1, eo1⟩ : ∃ o, out.getD x 0 = o := ⟨_, rfl⟩
                  obtain ⟨d1, ed1⟩ : ∃ o, d.getD x 0 = o := ⟨_, rfl⟩
                  obtain ⟨p1, ep1⟩ : ∃ o, p.getD x 0 = o := ⟨_, rfl⟩
                  rw [eo1] at c3
                  rw [ed1] at c1
                  rw [ep1] at c2
                  have HEx : Hid (Dk.nth f d.length k = x) := by rw [hdl]; exact ex
                  have HO1 : Hid (out.getD x 0 = o1) := eo1
                  have HD1 : Hid (d.getD x 0 = d1) := ed1
                  have HP1 : Hid (p.getD x 0 = p1) := ep1
                  have HOL : Hid _ := ol
                  clear ex eo1 ed1 ep1 ol
                  by_cases hfull : d1 ≤ o1
                  · have y1 : decide (d1 ≤ o1) = true := by simp; omega
                    have HSn : Hid (Dk.Scan d p out f (k + 1) b0) := HSc.out.skip (by rw [HEx.out, HD1.out, HO1.out]; exact hfull)
                    clear c2
                    go_wp2
                    go_quiet (fail)
                    go_wp2
                    go_roundw
                    case rel => exact ⟨b0, k + 1, rfl, by go_num, by omega, HSn.out, HB'.out.drewN nq, Dk.far_up HG'.out (Dk.up_drewN (Below.refl _ _) nq)⟩
                    case measure => simp [intOf]; omega
                  · have y1 : decide (d1 ≤ o1) = false := by simp; omega
                    have HW : Hid (out.getD (Dk.nth f d.length k) 0 < d.getD (Dk.nth f d.length k) 0) := by rw [HEx.out, HD1.out, HO1.out]; show o1 < d1; omega
                    rcases HSc.out.cases with eb | ⟨j, eb, hj⟩
                    · subst eb
                      have HSn : Hid (Dk.Scan d p out f (k + 1) (x : Nat)) := by
                        have := HSc.out.first (by omega) (by omega) HW.out
                        rw [HEx.out] at this
                        exact this
                      go_wp2
                      go_quiet (fail)
                      go_wp2
                      go_quiet (fail)
                      go_wp2
                      go_roundw
                      case rel => exact ⟨x, k + 1, rfl, by go_num, by omega, HSn.out, HB'.out.drewN _, Dk.far_up HG'.out (Dk.up_drewN (Below.refl _ _) _)⟩
                      case measure => simp [intOf]; omega
                    · subst eb
                      have hjm : j < m := by omega
                      have y5 : decide ((j : Int) < 0) = false := by simp
                      have y6 : ¬ (j : Int) < 0 := by omega
                      have y7 : (0 : Int) ≤ (j : Int) := by omega
                      have y8 : (j : Int) < (m : Int) := by omega
                      have y9 : (x : Int) < (m : Int) := by omega
                      obtain ⟨bp', op', ep', c4, _⟩ := Dk.sli_far HP2.out (by rw [HZ2.out]; omega) HG'.out j hjm
                      injection Option.some.inj ep' with q1 q2
                      subst q1
                      subst q2
                      have c5 : wr.cell? ⟨bh, j, none⟩ = some (.int .i64 (out.getD j 0)) := by rw [HB'.out.cell]; exact Dk.cells_at (by rw [HOL.out]; omega)
                      obtain ⟨o2, eo2⟩ : ∃ o, out.getD j 0 = o := ⟨_, rfl⟩
                      obtain ⟨p2, ep2⟩ : ∃ o, p.getD j 0 = o := ⟨_, rfl⟩
                      rw [eo2] at c5
                      rw [ep2] at c4
                      have HO2 : Hid (out.getD j 0 = o2) := eo2
                      have HP2' : Hid (p.getD j 0 = p2) := ep2
                      clear eo2 ep2 ep'
                      by_cases hp : p2 < p1
                      · have y2 : decide (p2 < p1) = true := by simp; omega
                        have HSn : Hid (Dk.Scan d p out f (k + 1) (x : Nat)) := by
                          have := HSc.out.better (by omega) (by omega) HW.out (by rw [HEx.out, HP1.out, HP2'.out, HO1.out, HO2.out]; omega)
                          rw [HEx.out] at this
                          exact this
                        go_wp2
                        go_quiet (fail)
                        go_wp2
                        go_quiet (fail)
                        go_wp2
                        go_roundw
                        case rel => exact ⟨x, k + 1, rfl, by go_num, by omega, HSn.out, HB'.out.drewN _, Dk.far_up HG'.out (Dk.up_drewN (Below.refl _ _) _)⟩
                        case measure => simp [intOf]; omega
                      · have y2 : decide (p2 < p1) = false := by simp; omega
                        by_cases hpe : p1 = p2
                        · have y3 : (p1 == p2) = true := by simp; omega
                          by_cases ho : o1 < o2
                          · have y4 : decide (o1 < o2) = true := by simp; omega
                            have HSn : Hid (Dk.Scan d p out f (k + 1) (x : Nat)) := by
                              have := HSc.out.better (by omega) (by omega) HW.out (by rw [HEx.out, HP1.out, HP2'.out, HO1.out, HO2.out]; omega)
                              rw [HEx.out] at this
                              exact this
                            clear hpe
                            go_wp2
                            go_quiet (fail)
                            go_wp2
                            go_quiet (fail)
                            go_wp2
                            go_roundw
                            case rel => exact ⟨x, k + 1, rfl, by go_num, by omega, HSn.out, HB'.out.drewN _, Dk.far_up HG'.out (Dk.up_drewN (Below.refl _ _) _)⟩
                            case measure => simp [intOf]; omega
                          · have y4 : decide (o1 < o2) = false := by simp; omega
                            have HSn : Hid (Dk.Scan d p out f (k + 1) (j : Nat)) := HSc.out.worse (by omega) (by omega) (by rw [HEx.out, HP1.out, HP2'.out, HO1.out, HO2.out]; omega)
                            clear hpe
                            go_wp2
                            go_quiet (fail)
                            go_wp2
                            go_quiet (fail)
                            go_wp2
                            go_roundw
                            case rel => exact ⟨j, k + 1, rfl, by go_num, by omega, HSn.out, HB'.out.drewN _, Dk.far_up HG'.out (Dk.up_drewN (Below.refl _ _) _)⟩
                            case measure => simp [intOf]; omega
                        · have y3 : (p1 == p2) = false := by simp; omega
                          have HSn : Hid (Dk.Scan d p out f (k + 1) (j : Nat)) := HSc.out.worse (by omega) (by omega) (by rw [HEx.out, HP1.out, HP2'.out, HO1.out, HO2.out]; omega)
                          go_wp2
                          go_quiet (fail)
                          go_wp2
                          go_quiet (fail)
                          go_wp2
                          go_roundw
                          case rel => exact ⟨j, k + 1, rfl, by go_num, by omega, HSn.out, HB'.out.drewN _, Dk.far_up HG'.out (Dk.up_drewN (Below.refl _ _) _)⟩
                          case measure => simp [intOf]; omega
                · have ekm : k = m := by omega
                  have HSm : Hid (Dk.Scan d p out f d.length b0) := by rw [hdl, ← ekm]; exact HSc.out
                  have ol : out.length = m := by rw [HS.out.down.len, hdl]
                  rcases HSc.out.cases with eb | ⟨j, eb, hj⟩
                  · subst eb
                    have HGo : Hid (Dk.Good procs d p out f) := HS.out.none (by omega) HSm.out
                    go_wp2
                    go_ret2
                    exact ⟨.inl ⟨_, _, rfl, out, HGo.out, Dk.sli_box HB'.out (by rw [HGo.out.down.len]; exact hdl) (by omega) (fun k hk => Dk.good_i64 HGo.out HDX.out k (by omega)), hpl, h8, h0, h64, HA.out⟩, Dk.up_far HU2.out HG'.out (by omega)⟩
                  · subst eb
                    have hjm : j < m := by omega
                    have c5 : wr.cell? ⟨bh, j, none⟩ = some (.int .i64 (out.getD j 0)) := by rw [HB'.out.cell]; exact Dk.cells_at (by omega)
                    have c6 : wr.frozen? ⟨bh, j, none⟩ = false := HB'.out.frozen _
                    have hlow := HS.out.down.low j (by omega)
                    have hup := HSm.out.up
                    have hdj := HDX.out j (by omega)
                    have HSn : Hid (Dk.Some procs d p (out.set j (out.getD j 0 + 1)) f (left - 1)) := HS.out.give (by omega) hlt HSm.out
                    obtain ⟨o2, eo2⟩ : ∃ o, out.getD j 0 = o := ⟨_, rfl⟩
                    rw [eo2] at c5 hup hlow HSn
                    obtain ⟨hdj1, hdj2⟩ := hdj
                    have ho2 : o2 + 1 ≤ 9223372036854775807 := by omega
                    clear hup hdj1 hdj2 eo2
                    go_wp2
                    go_roundw
                    case rel =>
                      refine ⟨left - 1, out.set j (o2 + 1), by go_num, by omega, by omega, ?_, HSn.out, Dk.far_set HG'.out _ _⟩
                      show Dk.Box _ _ _ _
                      rw [← Dk.cells_set]
                      exact HB'.out.set j _
                    case measure => simp [intOf]; omega
            · have y0 : decide ((0 : Int) < left) = false := by simp; omega
              have e0 : left = 0 := by omega
              have HGo : Hid (Dk.Good procs d p out f) := by
                have := HS.out
                rw [e0] at this
                exact this.over
              go_wp2
              go_ret2
              exact ⟨.inl ⟨_, _, rfl, out, HGo.out, Dk.sli_box HB.out (by rw [HGo.out.down.len]; exact hdl) (by omega) (fun k hk => Dk.good_i64 HGo.out HDX.out k (by omega)), hpl, h8, h0, h64, HA.out⟩, Dk.up_far HU2.out HG.out (by omega)⟩

/-- What the document's answer is. -/
theorem RFair_any (procs turn : Int) (hpr : Dk.i64 procs) (htu : Dk.i64 turn) (A1 A2 : Option Addr) (n C1 m C2 : Nat) (d p : List Int) (w : World) (hd : Dk.SlI w.heap.size w A1 n C1 d) (hp : Dk.SlI w.heap.size w A2 m C2 p) :
    Calls Try.prog 8 #[.int .i64 procs, .slice A1 n C1, .slice A2 m C2, .int .i64 turn] w fun e w' => Told procs turn n d p e w' ∧ Below w.heap.size w w' := by
  have no : ∀ {e : Ending} {w' : World}, (e = .returned (.tuple #[.slice none 0 0, .bool false]) ∧ w' = w) → ¬ Dk.Ask procs n p → Told procs turn n d p e w' ∧ Below w.heap.size w w' := by
    rintro e w' ⟨h1, rfl⟩ h2
    exact ⟨.inr ⟨h1, h2⟩, Below.refl _ _⟩
  by_cases e1 : m = n
  · obtain rfl := e1
    by_cases e2 : 8 < m
    · exact (RFair_2 procs turn hpr A1 A2 m C1 C2 e2 w).mono fun e w' g => no g fun hA => by have := hA.2.1; omega
    · by_cases e3 : procs < 0
      · exact (RFair_3 procs turn hpr A1 A2 m C1 C2 (by omega) e3 w).mono fun e w' g => no g fun hA => by have := hA.2.2.1; omega
      · by_cases e4 : 64 < procs
        · exact (RFair_4 procs turn hpr A1 A2 m C1 C2 (by omega) (by omega) e4 w).mono fun e w' g => no g fun hA => by have := hA.2.2.2.1; omega
        · exact RFair_5 procs turn htu A1 A2 m C1 C2 d p w hd hp (by omega) (by omega) (by omega) _ rfl
  · exact (RFair_1 procs turn hpr A1 A2 n C1 m C2 e1 w).mono fun e w' g => no g fun hA => e1 (by rw [← hp.len]; exact hA.1)
end Go.Proofs.Ytihikekhfbpnaaa
