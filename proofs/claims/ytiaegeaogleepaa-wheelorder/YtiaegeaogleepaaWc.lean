/- The walk of the statement on many who sleep. -/
import Derived.Test.YtiaegeaogleepaaWq
namespace Go.Proofs.Ytiaegeaogleepaa
set_option linter.unusedSimpArgs false
set_option linter.unusedVariables false
set_option linter.unnecessarySimpa false
open Go.RowKit Go.Maps

set_option maxRecDepth 100000 in
set_option maxHeartbeats 20000000 in
theorem WheelOrder_any (A : Option Addr) (L C : Nat) (xs : List Nat) (w : World) (hr : Dk.Row 1 0 Dk.IsByte w.heap.size w A L C xs) :
    Calls Try.prog 5 #[.slice A L C] w fun e w' => e = .returned (.bool true) ∧ Below w.heap.size w w' := by
  have hcap := hr.cap
  have hmax := hr.max
  unfold maxLen at hmax
  obtain ⟨e, ee⟩ : ∃ e : Nat → Nat, e = fun i => xs.getD i 0 + 1 := ⟨_, rfl⟩
  have he1 : ∀ i, 1 ≤ e i := fun i => by rw [ee]; show 1 ≤ xs.getD i 0 + 1; omega
  have cells : ∀ i, i < L → ∃ b o, A = some ⟨b, o, none⟩ ∧ ∃ f : Nat, e i = f + 1 ∧ f < 256 ∧ ∀ w', Below w.heap.size w w' → w'.cell? ⟨b, o + i, none⟩ = some (.int .u8 (f : Nat)) := fun i hi => by
    obtain ⟨b, o, e1, hb, hc⟩ := byte_cell hr (by omega)
    exact ⟨b, o, e1, xs.getD i 0, by rw [ee], (hc i hi).2, fun w' hB => by rw [hB.cell (by show b < w.heap.size; exact hb)]; exact (hc i hi).1⟩
  have HCE : Hid _ := cells
  have HE1 : Hid _ := he1
  clear cells hr ee he1
  go_enter Try.func5, Try.ntmps5
  go_wp2_with fail
  refine (New_any w).mono ?_
  rintro _ w1 ⟨rfl, h1, u1⟩
  obtain ⟨bd, ebd⟩ : ∃ bd, w.heap.size + 1 = bd := ⟨_, rfl⟩
  rw [ebd] at h1 ⊢
  have p1 := Pk.begin h1 u1
  clear h1 u1 ebd
  by_cases hL : 30 < L
  · have y0 : decide ((L : Int) > 30) = true := by simp; omega
    go_wp2_with fail
    go_loopw [5] (fun i w' => ∃ i0 : Nat, i0 ≤ 30 ∧ i = .int .i64 i0 ∧ Pk w i0 bd w' 0 (Dk.orderOf e i0) [] []) (fun i w' => 30 - (intOf i).toNat)
    case atStart => exact ⟨0, Nat.zero_le _, rfl, p1⟩
    case round =>
      clear p1
      obtain ⟨i, hi, rfl, hP⟩ := hrel
      by_cases hlt : i < 30
      · obtain ⟨b, o, rfl, f, hf, hf8, hcf⟩ := HCE.out i (by omega)
        have c1 := hcf wr hP.out
        have K : Calls Try.prog 11 #[.pointer (some ⟨bd, 0, none⟩), .int .i64 (i : Int), .int .i64 ((f : Int) + 1)] wr fun e' w' => e' = .returned (.int .i64 0) ∧ Pk w (i + 1) bd w' 0 (Dk.orderOf e (i + 1)) [] [] := by
          have := Sleep_pk hP (x := (i : Int)) (n := (f : Int) + 1) (by unfold Dk.i64; omega) (by omega) (by omega) Dk.order_key (by omega)
          rw [show min (0 + ((f : Int) + 1)) 1099511627776 = ((e i : Nat) : Int) by rw [hf]; omega, ← Dk.order_succ] at this
          exact this
        clear hcf hf hP
        go_wp2_with fail
        refine K.mono ?_
        rintro _ w2 ⟨rfl, p2⟩
        clear K c1
        go_wp2_with fail
        go_roundw
        case rel => exact ⟨i + 1, by omega, by go_num, p2⟩
        case measure => simp [intOf]; omega
      · rw [show i = 30 by omega] at hP
        obtain ⟨w3, hmk0, p3⟩ := hP.made 30 (by omega)
        have hmk : (Instr.makeSlice 25 (.int .i64 30) (.int .i64 30)).run Try.prog wr = .ok (.slice (some ⟨wr.heap.size, 0, none⟩) 30 30) w3 := hmk0
        clear hmk0
        rw [← Dk.told_zero HE1.out] at p3
        obtain ⟨g, eg⟩ : ∃ g, wr.heap.size = g := ⟨_, rfl⟩
        rw [eg] at hmk p3
        clear hP eg
        go_wp2_with fail
        clear hmk
        go_loopw [7] (fun t w' => ∃ t0 : Nat, 1 ≤ t0 ∧ t0 ≤ 258 ∧ t = .int .i64 t0 ∧ Pk w 30 bd w' ((t0 : Int) - 1) (Dk.leftOf ((t0 : Int) - 1) (Dk.orderOf e 30)) [(.slice (some ⟨g, 0, none⟩) 30 30, Dk.told e 30 t0 [])] []) (fun t w' => 258 - (intOf t).toNat)
        case atStart =>
          refine ⟨1, by omega, by omega, rfl, ?_⟩
          have : Dk.leftOf (((1 : Nat) : Int) - 1) (Dk.orderOf e 30) = Dk.orderOf e 30 := List.filter_eq_self.2 fun p hp => by
            obtain ⟨i, hi, rfl⟩ := List.mem_map.1 hp
            have := HE1.out i
            simp
            omega
          rw [this]
          exact p3
        case round =>
          clear p3
          obtain ⟨t, ht1, ht8, rfl, hP⟩ := hrel
          by_cases htl : t ≤ 257
          · have y1 : decide ((t : Int) ≤ 257) = true := by simp; omega
            obtain ⟨ys, eys⟩ : ∃ ys, ys = Dk.ints (Dk.whoAt e 30 t) := ⟨_, rfl⟩
            have K := Tick_to hP (by omega) (t : Int) (Dk.leftOf (t : Int) (Dk.orderOf e 30)) ys (by omega) (Dk.left_left _ (by omega)) (by rw [eys]; exact Dk.who_rising) (by rw [eys, Dk.due_order ht1])
            have HY : Hid _ := eys
            have HYL : Hid (ys.length = (Dk.whoAt e 30 t).length) := by rw [eys, Dk.ints_length]; exact rfl
            clear hP eys
            go_wp2_with fail
            refine K.mono ?_
            rintro _ w4 ⟨A4, C4, rfl, p4⟩
            clear K
            go_wp2_with fail
            go_loopw [9] (fun k w' => ∃ k0 : Nat, k0 ≤ ys.length ∧ k = .int .i64 k0 ∧ Pk w 30 bd w' (t : Int) (Dk.leftOf (t : Int) (Dk.orderOf e 30)) [(.slice A4 ys.length C4, ys), (.slice (some ⟨g, 0, none⟩) 30 30, Dk.told e 30 t ((Dk.whoAt e 30 t).take k0))] []) (fun k w' => ys.length - (intOf k).toNat)
            case atStart => exact ⟨0, Nat.zero_le _, rfl, p4⟩
            case round =>
              clear p4
              obtain ⟨k, hk, rfl, hP⟩ := hrel
              have s1 : Dk.SlI wr.heap.size wr A4 ys.length C4 ys := hP.slice (by simp)
              have hC4 := s1.cap
              have hM4 := s1.max
              unfold maxLen at hM4
              by_cases hkl : k < ys.length
              · obtain ⟨b1, o1, rfl, hb1, hc1⟩ := s1.cells (by omega)
                have hyl := HYL.out
                obtain ⟨j, ej⟩ : ∃ j, (Dk.whoAt e 30 t).getD k 0 = j := ⟨_, rfl⟩
                have hj := Dk.who_get (e := e) (n := 30) (t := t) (k := k) (by omega)
                have hnew := Dk.who_new (e := e) (n := 30) (t := t) (k := k) (by omega)
                have htake := Dk.who_take (e := e) (n := 30) (t := t) (k := k) (by omega)
                rw [ej] at hj hnew htake
                have gj : ys.getD k 0 = (j : Int) := by rw [HY.out, Dk.ints_get (by omega), ej]
                have cl : ∀ q, (wr.drewN q).cell? ⟨b1, o1 + k, none⟩ = some (.int .i64 (j : Int)) := fun q => by rw [← gj]; exact hc1 k hkl
                obtain ⟨cd, fd, hset⟩ := Pk.held (us1 := [(.slice (some ⟨b1, o1, none⟩) ys.length C4, ys)]) (us2 := []) (hP) Dk.told_length hj.1
                rw [Dk.told_get hj.1, if_neg (by omega), if_neg hnew] at cd
                have cdq : ∀ q, (wr.drewN q).cell? ⟨g, j, none⟩ = some (.int .i64 0) := fun q => cd
                have hP2 : ∀ q, Pk w 30 bd ((wr.drewN q).setCell ⟨g, j, none⟩ (.int .i64 (t : Int))) (t : Int) (Dk.leftOf (t : Int) (Dk.orderOf e 30)) [(.slice (some ⟨b1, o1, none⟩) ys.length C4, ys), (.slice (some ⟨g, 0, none⟩) 30 30, Dk.told e 30 t ((Dk.whoAt e 30 t).take (k + 1)))] [] := fun q => by
                  have hq := hP.below (Dk.up_drewN (Below.refl _ _) q)
                  obtain ⟨_, _, hset⟩ := Pk.held (us1 := [(.slice (some ⟨b1, o1, none⟩) ys.length C4, ys)]) (us2 := []) hq Dk.told_length hj.1
                  rw [htake, ← Dk.told_set hj.1 hj.2]
                  exact hset (t : Int) (by unfold Dk.i64; omega)
                have fdq : ∀ q, (wr.drewN q).frozen? ⟨g, j, none⟩ = false := fun q => fd
                have hj1 := hj.1
                have z1 : decide ((j : Int) < 0) = false := by simp
                have z2 : decide ((j : Int) ≥ 30) = false := by simp; omega
                have z2b : decide (30 ≤ j) = false := by simp; omega
                have z2c : ¬ 30 ≤ j := by omega
                have HP2 : Hid _ := hP2
                have hjn := hj.1
                have hjI : (j : Int) < 30 := by omega
                have hj0 : (0 : Int) ≤ (j : Int) := by omega
                by_cases hk0 : k = 0
                · have z4 : decide ((k : Int) > 0) = false := by simp; omega
                  have z7 : decide ((0 : Int) < (k : Int)) = false := by simp; omega
                  have z8 : decide (0 < k) = false := by simp; omega
                  have z9 : ¬ 0 < k := by omega
                  clear hset hP2 hP hc1 s1 gj hnew htake hj ej cd fd hb1 hyl hk0
                  go_wp2_with fail
                  go_quiet (fail)
                  have cq := cl nq
                  have cq2 := cdq nq
                  have fq := fdq nq
                  have HPQ : Hid _ := HP2.out nq
                  clear cl cdq fdq HP2
                  go_wp2_with fail
                  go_roundw
                  case rel => exact ⟨k + 1, by omega, by go_num, HPQ.out⟩
                  case measure => simp [intOf]; omega
                · obtain ⟨k, rfl⟩ : ∃ k', k = k' + 1 := ⟨k - 1, by omega⟩
                  obtain ⟨i, ei⟩ : ∃ i, (Dk.whoAt e 30 t).getD k 0 = i := ⟨_, rfl⟩
                  have hij := Dk.who_lt (e := e) (n := 30) (t := t) (k := k) (by omega)
                  rw [ej, ei] at hij
                  have gi : ys.getD k 0 = (i : Int) := by rw [HY.out, Dk.ints_get (by omega), ei]
                  have cl2 : ∀ q, (wr.drewN q).cell? ⟨b1, o1 + k, none⟩ = some (.int .i64 (i : Int)) := fun q => by rw [← gi]; exact hc1 k (by omega)
                  have z3 : decide ((i : Int) ≥ (j : Int)) = false := by simp; omega
                  have z5 : decide (j ≤ i) = false := by simp; omega
                  have z6 : ¬ j ≤ i := by omega
                  have z7 : (k : Int) + 1 < (ys.length : Int) := by omega
                  have z8 : (0 : Int) ≤ (k : Int) + 1 := by omega
                  have z9 : ((k + 1 : Nat) : Int) < (ys.length : Int) := by omega
                  have z4 : decide (((k + 1 : Nat) : Int) > 0) = true := by simp
                  clear hset hP2 hP hc1 s1 gj gi hnew htake hj ej cd fd hb1 ei hij hyl hk0
                  go_wp2_with fail
                  go_quiet (fail)
                  have cq := cl nq
                  have cq2 := cdq nq
                  have fq := fdq nq
                  have HPQ : Hid _ := HP2.out nq
                  clear cl cl2 cdq fdq HP2
                  go_wp2_with fail
                  go_roundw
                  case rel => exact ⟨k + 1 + 1, by omega, by go_num, HPQ.out⟩
                  case measure => simp [intOf]; omega
              · obtain rfl : k = ys.length := by omega
                rw [List.take_of_length_le (by have := HYL.out; omega), Dk.told_next] at hP
                clear s1
                go_wp2_with fail
                go_roundw
                case rel => exact ⟨t + 1, by omega, by omega, by go_num, (show ((t + 1 : Nat) : Int) - 1 = (t : Int) by omega) ▸ hP.sub (List.sublist_cons_self _ _) (List.nil_sublist _)⟩
                case measure => simp [intOf]; omega
          · obtain rfl : t = 258 := by omega
            have y1 : decide (((258 : Nat) : Int) ≤ 257) = false := by decide
            clear htl ht1 ht8
            go_wp2_with fail
            go_loopw [10] (fun i w' => ∃ i0 : Nat, i0 ≤ 30 ∧ i = .int .i64 i0 ∧ Pk w 30 bd w' (((258 : Nat) : Int) - 1) (Dk.leftOf (((258 : Nat) : Int) - 1) (Dk.orderOf e 30)) [(.slice (some ⟨g, 0, none⟩) 30 30, Dk.told e 30 258 [])] []) (fun i w' => 30 - (intOf i).toNat)
            case atStart => exact ⟨0, Nat.zero_le _, rfl, hP⟩
            case round =>
              clear hP
              obtain ⟨i, hi, rfl, hP⟩ := hrel
              by_cases hil : i < 30
              · obtain ⟨b, o, rfl, f, hf, hf8, hcf⟩ := HCE.out i (by omega)
                obtain ⟨cd, _, _⟩ := Pk.held (us1 := []) (us2 := []) hP Dk.told_length hil
                rw [Dk.told_get hil, if_pos (by omega), hf] at cd
                have c1 : ∀ q, (wr.drewN q).cell? ⟨b, o + i, none⟩ = some (.int .u8 (f : Nat)) := fun q => hcf _ (Dk.up_drewN hP.out q)
                have c2 : ∀ q, (wr.drewN q).cell? ⟨g, i, none⟩ = some (.int .i64 ((f : Int) + 1)) := fun q => by rw [show ((f : Int) + 1) = ((f + 1 : Nat) : Int) by omega]; exact cd
                have HP : Hid _ := fun q => hP.below (Dk.up_drewN (Below.refl _ _) q)
                clear cd hP hcf hf
                go_wp2_with fail
                go_quiet (fail)
                go_wp2_with fail
                go_roundw
                case rel => exact ⟨i + 1, by omega, by go_num, HP.out nq⟩
                case measure => simp [intOf]; omega
              · go_wp2_with fail
                refine (awake_any _).mono ?_
                rintro _ w9 ⟨rfl, u9⟩
                go_wp2_with fail
                go_ret
                exact ⟨rfl, Dk.up_call hP.out u9⟩
  · have y0 : decide ((L : Int) > 30) = false := by simp; omega
    go_wp2_with fail
    go_loopw [5] (fun i w' => ∃ i0 : Nat, i0 ≤ L ∧ i = .int .i64 i0 ∧ Pk w i0 bd w' 0 (Dk.orderOf e i0) [] []) (fun i w' => L - (intOf i).toNat)
    case atStart => exact ⟨0, Nat.zero_le _, rfl, p1⟩
    case round =>
      clear p1
      obtain ⟨i, hi, rfl, hP⟩ := hrel
      by_cases hlt : i < L
      · obtain ⟨b, o, rfl, f, hf, hf8, hcf⟩ := HCE.out i (by omega)
        have c1 := hcf wr hP.out
        have K : Calls Try.prog 11 #[.pointer (some ⟨bd, 0, none⟩), .int .i64 (i : Int), .int .i64 ((f : Int) + 1)] wr fun e' w' => e' = .returned (.int .i64 0) ∧ Pk w (i + 1) bd w' 0 (Dk.orderOf e (i + 1)) [] [] := by
          have := Sleep_pk hP (x := (i : Int)) (n := (f : Int) + 1) (by unfold Dk.i64; omega) (by omega) (by omega) Dk.order_key (by omega)
          rw [show min (0 + ((f : Int) + 1)) 1099511627776 = ((e i : Nat) : Int) by rw [hf]; omega, ← Dk.order_succ] at this
          exact this
        clear hcf hf hP
        go_wp2_with fail
        refine K.mono ?_
        rintro _ w2 ⟨rfl, p2⟩
        clear K c1
        go_wp2_with fail
        go_roundw
        case rel => exact ⟨i + 1, by omega, by go_num, p2⟩
        case measure => simp [intOf]; omega
      · rw [show i = L by omega] at hP
        obtain ⟨w3, hmk0, p3⟩ := hP.made L (by omega)
        have hmk : (Instr.makeSlice 25 (.int .i64 (L : Int)) (.int .i64 (L : Int))).run Try.prog wr = .ok (.slice (some ⟨wr.heap.size, 0, none⟩) L L) w3 := hmk0
        clear hmk0
        rw [← Dk.told_zero HE1.out] at p3
        obtain ⟨g, eg⟩ : ∃ g, wr.heap.size = g := ⟨_, rfl⟩
        rw [eg] at hmk p3
        clear hP eg
        go_wp2_with fail
        clear hmk
        go_loopw [7] (fun t w' => ∃ t0 : Nat, 1 ≤ t0 ∧ t0 ≤ 258 ∧ t = .int .i64 t0 ∧ Pk w L bd w' ((t0 : Int) - 1) (Dk.leftOf ((t0 : Int) - 1) (Dk.orderOf e L)) [(.slice (some ⟨g, 0, none⟩) L L, Dk.told e L t0 [])] []) (fun t w' => 258 - (intOf t).toNat)
        case atStart =>
          refine ⟨1, by omega, by omega, rfl, ?_⟩
          have : Dk.leftOf (((1 : Nat) : Int) - 1) (Dk.orderOf e L) = Dk.orderOf e L := List.filter_eq_self.2 fun p hp => by
            obtain ⟨i, hi, rfl⟩ := List.mem_map.1 hp
            have := HE1.out i
            simp
            omega
          rw [this]
          exact p3
        case round =>
          clear p3
          obtain ⟨t, ht1, ht8, rfl, hP⟩ := hrel
          by_cases htl : t ≤ 257
          · have y1 : decide ((t : Int) ≤ 257) = true := by simp; omega
            obtain ⟨ys, eys⟩ : ∃ ys, ys = Dk.ints (Dk.whoAt e L t) := ⟨_, rfl⟩
            have K := Tick_to hP (by omega) (t : Int) (Dk.leftOf (t : Int) (Dk.orderOf e L)) ys (by omega) (Dk.left_left _ (by omega)) (by rw [eys]; exact Dk.who_rising) (by rw [eys, Dk.due_order ht1])
            have HY : Hid _ := eys
            have HYL : Hid (ys.length = (Dk.whoAt e L t).length) := by rw [eys, Dk.ints_length]; exact rfl
            clear hP eys
            go_wp2_with fail
            refine K.mono ?_
            rintro _ w4 ⟨A4, C4, rfl, p4⟩
            clear K
            go_wp2_with fail
            go_loopw [9] (fun k w' => ∃ k0 : Nat, k0 ≤ ys.length ∧ k = .int .i64 k0 ∧ Pk w L bd w' (t : Int) (Dk.leftOf (t : Int) (Dk.orderOf e L)) [(.slice A4 ys.length C4, ys), (.slice (some ⟨g, 0, none⟩) L L, Dk.told e L t ((Dk.whoAt e L t).take k0))] []) (fun k w' => ys.length - (intOf k).toNat)
            case atStart => exact ⟨0, Nat.zero_le _, rfl, p4⟩
            case round =>
              clear p4
              obtain ⟨k, hk, rfl, hP⟩ := hrel
              have s1 : Dk.SlI wr.heap.size wr A4 ys.length C4 ys := hP.slice (by simp)
              have hC4 := s1.cap
              have hM4 := s1.max
              unfold maxLen at hM4
              by_cases hkl : k < ys.length
              · obtain ⟨b1, o1, rfl, hb1, hc1⟩ := s1.cells (by omega)
                have hyl := HYL.out
                obtain ⟨j, ej⟩ : ∃ j, (Dk.whoAt e L t).getD k 0 = j := ⟨_, rfl⟩
                have hj := Dk.who_get (e := e) (n := L) (t := t) (k := k) (by omega)
                have hnew := Dk.who_new (e := e) (n := L) (t := t) (k := k) (by omega)
                have htake := Dk.who_take (e := e) (n := L) (t := t) (k := k) (by omega)
                rw [ej] at hj hnew htake
                have gj : ys.getD k 0 = (j : Int) := by rw [HY.out, Dk.ints_get (by omega), ej]
                have cl : ∀ q, (wr.drewN q).cell? ⟨b1, o1 + k, none⟩ = some (.int .i64 (j : Int)) := fun q => by rw [← gj]; exact hc1 k hkl
                obtain ⟨cd, fd, hset⟩ := Pk.held (us1 := [(.slice (some ⟨b1, o1, none⟩) ys.length C4, ys)]) (us2 := []) (hP) Dk.told_length hj.1
                rw [Dk.told_get hj.1, if_neg (by omega), if_neg hnew] at cd
                have cdq : ∀ q, (wr.drewN q).cell? ⟨g, j, none⟩ = some (.int .i64 0) := fun q => cd
                have hP2 : ∀ q, Pk w L bd ((wr.drewN q).setCell ⟨g, j, none⟩ (.int .i64 (t : Int))) (t : Int) (Dk.leftOf (t : Int) (Dk.orderOf e L)) [(.slice (some ⟨b1, o1, none⟩) ys.length C4, ys), (.slice (some ⟨g, 0, none⟩) L L, Dk.told e L t ((Dk.whoAt e L t).take (k + 1)))] [] := fun q => by
                  have hq := hP.below (Dk.up_drewN (Below.refl _ _) q)
                  obtain ⟨_, _, hset⟩ := Pk.held (us1 := [(.slice (some ⟨b1, o1, none⟩) ys.length C4, ys)]) (us2 := []) hq Dk.told_length hj.1
                  rw [htake, ← Dk.told_set hj.1 hj.2]
                  exact hset (t : Int) (by unfold Dk.i64; omega)
                have fdq : ∀ q, (wr.drewN q).frozen? ⟨g, j, none⟩ = false := fun q => fd
                have hj1 := hj.1
                have z1 : decide ((j : Int) < 0) = false := by simp
                have z2 : decide ((j : Int) ≥ (L : Int)) = false := by simp; omega
                have z2b : decide (L ≤ j) = false := by simp; omega
                have z2c : ¬ L ≤ j := by omega
                have HP2 : Hid _ := hP2
                have hjn := hj.1
                have hjI : (j : Int) < (L : Int) := by omega
                have hj0 : (0 : Int) ≤ (j : Int) := by omega
                by_cases hk0 : k = 0
                · have z4 : decide ((k : Int) > 0) = false := by simp; omega
                  have z7 : decide ((0 : Int) < (k : Int)) = false := by simp; omega
                  have z8 : decide (0 < k) = false := by simp; omega
                  have z9 : ¬ 0 < k := by omega
                  clear hset hP2 hP hc1 s1 gj hnew htake hj ej cd fd hb1 hyl hk0
                  go_wp2_with fail
                  go_quiet (fail)
                  have cq := cl nq
                  have cq2 := cdq nq
                  have fq := fdq nq
                  have HPQ : Hid _ := HP2.out nq
                  clear cl cdq fdq HP2
                  go_wp2_with fail
                  go_roundw
                  case rel => exact ⟨k + 1, by omega, by go_num, HPQ.out⟩
                  case measure => simp [intOf]; omega
                · obtain ⟨k, rfl⟩ : ∃ k', k = k' + 1 := ⟨k - 1, by omega⟩
                  obtain ⟨i, ei⟩ : ∃ i, (Dk.whoAt e L t).getD k 0 = i := ⟨_, rfl⟩
                  have hij := Dk.who_lt (e := e) (n := L) (t := t) (k := k) (by omega)
                  rw [ej, ei] at hij
                  have gi : ys.getD k 0 = (i : Int) := by rw [HY.out, Dk.ints_get (by omega), ei]
                  have cl2 : ∀ q, (wr.drewN q).cell? ⟨b1, o1 + k, none⟩ = some (.int .i64 (i : Int)) := fun q => by rw [← gi]; exact hc1 k (by omega)
                  have z3 : decide ((i : Int) ≥ (j : Int)) = false := by simp; omega
                  have z5 : decide (j ≤ i) = false := by simp; omega
                  have z6 : ¬ j ≤ i := by omega
                  have z7 : (k : Int) + 1 < (ys.length : Int) := by omega
                  have z8 : (0 : Int) ≤ (k : Int) + 1 := by omega
                  have z9 : ((k + 1 : Nat) : Int) < (ys.length : Int) := by omega
                  have z4 : decide (((k + 1 : Nat) : Int) > 0) = true := by simp
                  clear hset hP2 hP hc1 s1 gj gi hnew htake hj ej cd fd hb1 ei hij hyl hk0
                  go_wp2_with fail
                  go_quiet (fail)
                  have cq := cl nq
                  have cq2 := cdq nq
                  have fq := fdq nq
                  have HPQ : Hid _ := HP2.out nq
                  clear cl cl2 cdq fdq HP2
                  go_wp2_with fail
                  go_roundw
                  case rel => exact ⟨k + 1 + 1, by omega, by go_num, HPQ.out⟩
                  case measure => simp [intOf]; omega
              · obtain rfl : k = ys.length := by omega
                rw [List.take_of_length_le (by have := HYL.out; omega), Dk.told_next] at hP
                clear s1
                go_wp2_with fail
                go_roundw
                case rel => exact ⟨t + 1, by omega, by omega, by go_num, (show ((t + 1 : Nat) : Int) - 1 = (t : Int) by omega) ▸ hP.sub (List.sublist_cons_self _ _) (List.nil_sublist _)⟩
                case measure => simp [intOf]; omega
          · obtain rfl : t = 258 := by omega
            have y1 : decide (((258 : Nat) : Int) ≤ 257) = false := by decide
            clear htl ht1 ht8
            go_wp2_with fail
            go_loopw [10] (fun i w' => ∃ i0 : Nat, i0 ≤ L ∧ i = .int .i64 i0 ∧ Pk w L bd w' (((258 : Nat) : Int) - 1) (Dk.leftOf (((258 : Nat) : Int) - 1) (Dk.orderOf e L)) [(.slice (some ⟨g, 0, none⟩) L L, Dk.told e L 258 [])] []) (fun i w' => L - (intOf i).toNat)
            case atStart => exact ⟨0, Nat.zero_le _, rfl, hP⟩
            case round =>
              clear hP
              obtain ⟨i, hi, rfl, hP⟩ := hrel
              by_cases hil : i < L
              · obtain ⟨b, o, rfl, f, hf, hf8, hcf⟩ := HCE.out i (by omega)
                obtain ⟨cd, _, _⟩ := Pk.held (us1 := []) (us2 := []) hP Dk.told_length hil
                rw [Dk.told_get hil, if_pos (by omega), hf] at cd
                have c1 : ∀ q, (wr.drewN q).cell? ⟨b, o + i, none⟩ = some (.int .u8 (f : Nat)) := fun q => hcf _ (Dk.up_drewN hP.out q)
                have c2 : ∀ q, (wr.drewN q).cell? ⟨g, i, none⟩ = some (.int .i64 ((f : Int) + 1)) := fun q => by rw [show ((f : Int) + 1) = ((f + 1 : Nat) : Int) by omega]; exact cd
                have HP : Hid _ := fun q => hP.below (Dk.up_drewN (Below.refl _ _) q)
                clear cd hP hcf hf
                go_wp2_with fail
                go_quiet (fail)
                go_wp2_with fail
                go_roundw
                case rel => exact ⟨i + 1, by omega, by go_num, HP.out nq⟩
                case measure => simp [intOf]; omega
              · go_wp2_with fail
                refine (awake_any _).mono ?_
                rintro _ w9 ⟨rfl, u9⟩
                go_wp2_with fail
                go_ret
                exact ⟨rfl, Dk.up_call hP.out u9⟩

end Go.Proofs.Ytiaegeaogleepaa
