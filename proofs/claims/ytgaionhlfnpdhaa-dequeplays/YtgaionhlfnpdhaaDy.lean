/- The walk of the statement on plays. -/
import Derived.Test.YtgaionhlfnpdhaaDp
namespace Go.Proofs.Ytgaionhlfnpdhaa
set_option linter.unusedSimpArgs false
set_option linter.unusedVariables false
set_option linter.unnecessarySimpa false
open Go.RowKit

set_option maxRecDepth 100000 in
set_option maxHeartbeats 8000000 in
theorem DequePlays_any (A : Option Addr) (L C : Nat) (ac : List (List Int)) (w : World) (h : Dk.Row 2 [] Dk.IsInts w.heap.size w A L C ac) :
    Calls Try.prog 3 #[.slice A L C] w fun e w' => e = .returned (.bool true) ∧ Below w.heap.size w w' := by
  have hcap := h.cap
  have hmax := h.max
  unfold maxLen at hmax
  have HH : Hid _ := h
  clear h
  go_enter Try.func3, Try.ntmps3
  go_wp2_with fail
  refine (New_any w).mono ?_
  rintro e w1 ⟨rfl, h1, u1, z1⟩
  have t1 := (Two.begin h1 u1).empty
  obtain ⟨bd, ebd⟩ : ∃ bd, w.heap.size = bd := ⟨_, rfl⟩
  rw [ebd] at t1 ⊢
  have HEB : Hid _ := ebd
  clear h1 u1 z1 ebd
  go_wp2_with fail
  go_loopw [4, 5] (fun u i w' => ∃ (i0 : Nat) (zs : List Int) (g : Nat) (C1 : Nat), i0 ≤ L ∧ i0 ≤ 100 ∧ i = .int .i64 i0 ∧ u = .slice (some ⟨g, 0, none⟩) zs.length C1 ∧ Two w bd w' zs (.slice (some ⟨g, 0, none⟩) zs.length C1) zs ∧ zs.length ≤ i0 ∧ Hid zs.Nodup) (fun u i w' => L - (intOf i).toNat)
  case atStart => exact ⟨0, [], _, _, Nat.zero_le _, Nat.zero_le _, rfl, rfl, t1, Nat.le_refl _, List.nodup_nil⟩
  case round =>
    obtain ⟨i, zs, g, C1, hi, hi6, rfl, rfl, HT, hz, HN⟩ := hrel
    clear t1
    by_cases hc : i < L ∧ i < 100
    · obtain ⟨hlt, hl6⟩ := hc
      obtain ⟨b, o, rfl, hb, hc⟩ := Dk.act2_cell HH.out (by omega)
      obtain ⟨q, y, hq, hy, cq, cy⟩ := hc i hlt
      have cf : ∀ w', Below w.heap.size w w' → w'.cell? ⟨b, o + i * 2, none⟩ = some (.int .i64 q) := fun w' hB => by rw [hB.cell (by show b < w.heap.size; exact hb)]; exact cq
      have HC : Hid _ := cf
      have HY : Hid _ := hy
      have c1 : wr.cell? ⟨b, o + i * 2 + 1, none⟩ = some (.int .i64 y) := by rw [HT.out.cell (by show b < w.heap.size; exact hb)]; exact cy
      have y6 : decide ((i : Int) < 100) = true := by simp; omega
      clear hc hy cq cy cf hq
      generalize wr = wa at *
      go_wp2_with fail
      go_loopw [7, 8] (fun a k w' => ∃ k0 : Nat, k0 ≤ zs.length ∧ k = .int .i64 k0 ∧ a = .int .i64 (Dk.atOf zs y k0) ∧ Hid (w' = wa)) (fun a k w' => zs.length - (intOf k).toNat)
      case atStart => exact ⟨0, Nat.zero_le _, rfl, rfl, rfl⟩
      case round =>
        obtain ⟨k, hk, rfl, rfl, HW⟩ := hrel
        have ew := HW.out
        subst ew
        clear HW
        by_cases hkl : k < zs.length
        · obtain ⟨A3, C3, e3, s2⟩ := HT.sli
          obtain ⟨rfl, rfl⟩ : some ⟨g, 0, none⟩ = A3 ∧ C1 = C3 := by simpa using e3
          have hC1 := s2.cap
          have hM1 := s2.max
          unfold maxLen at hM1
          obtain ⟨b1, o1, e1, hb1, hc1⟩ := s2.cells (by omega)
          obtain ⟨rfl, rfl⟩ : g = b1 ∧ 0 = o1 := by simpa using e1
          obtain ⟨x, ex⟩ : ∃ x, zs.getD k 0 = x := ⟨_, rfl⟩
          have cu : wr.cell? ⟨g, k, none⟩ = some (.int .i64 x) := by
            have := hc1 k hkl
            rw [Nat.zero_add, ex] at this
            exact this
          have ea : Dk.atOf zs y (k + 1) = if x = y then (k : Int) else Dk.atOf zs y k := by rw [Dk.atOf, ex]
          have HA : Hid _ := ea
          clear s2 e3 e1 hc1 ex ea c1
          by_cases hxy : x = y
          · have y1 : (x == y) = true := by simp [hxy]
            have HA2 : Hid (Dk.atOf zs y (k + 1) = (k : Int)) := HA.out.trans (if_pos hxy)
            clear HA hxy
            generalize Dk.atOf zs y k = a0
            go_wp2_with fail
            go_roundw
            case rel => exact ⟨k + 1, by omega, by go_num, by rw [HA2.out], True.intro⟩
            case measure => simp [intOf]; omega
          · have y1 : (x == y) = false := by simp [hxy]
            have HA2 : Hid (Dk.atOf zs y (k + 1) = Dk.atOf zs y k) := HA.out.trans (if_neg hxy)
            clear HA hxy
            go_wp2_with fail
            go_roundw
            case rel => exact ⟨k + 1, by omega, by go_num, by rw [HA2.out], True.intro⟩
            case measure => simp [intOf]; omega
        · obtain rfl : k = zs.length := by omega
          have c0 := HC.out wr HT.out
          clear hkl hk c1
          by_cases q2 : q = 2
          · generalize Dk.atOf zs y zs.length = a0
            subst q2
            by_cases hne : zs.length = 0
            · obtain rfl : zs = [] := List.eq_nil_of_length_eq_zero (by omega)
              have K := Pop_two_no HT
              go_wp2_with (go_at_call 10; refine K.mono ?_; rintro e w' ⟨rfl, hw'⟩; subst w')
              go_roundw
              case rel => exact ⟨i + 1, [], g, C1, by omega, by omega, by go_num, rfl, HT, by simp, HN⟩
              case measure => simp [intOf]; omega
            · have h0 : 0 < zs.length := by omega
              obtain ⟨x, ex⟩ : ∃ x, zs.getD 0 0 = x := ⟨_, rfl⟩
              have K : Calls Try.prog 10 #[.pointer (some ⟨bd, 0, none⟩)] wr fun e w' => e = .returned (.tuple #[.int .i64 x, .bool true]) ∧ Two w bd w' (zs.eraseIdx 0) (.slice (some ⟨g, 0, none⟩) zs.length C1) zs := by
                have := Pop_at HT h0 (by omega)
                rw [ex] at this
                exact this
              have cg : ∀ w2, Two w bd w2 (zs.eraseIdx 0) (.slice (some ⟨g, 0, none⟩) zs.length C1) zs → w2.cell? ⟨g, 0, none⟩ = some (.int .i64 x) := fun w2 t2 => by
                obtain ⟨A3, C3, e3, s2⟩ := t2.sli
                obtain ⟨rfl, rfl⟩ : some ⟨g, 0, none⟩ = A3 ∧ C1 = C3 := by simpa using e3
                obtain ⟨b1, o1, e1, hb1, hc1⟩ := s2.cells h0
                obtain ⟨rfl, rfl⟩ : g = b1 ∧ 0 = o1 := by simpa using e1
                have := hc1 0 (by omega)
                rw [Nat.zero_add, ex] at this
                exact this
              have HG : Hid _ := cg
              have hC1 : zs.length ≤ C1 ∧ C1 ≤ 9223372036854775807 := by
                obtain ⟨A3, C3, e3, s2⟩ := HT.sli
                obtain ⟨rfl, rfl⟩ : some ⟨g, 0, none⟩ = A3 ∧ C1 = C3 := by simpa using e3
                have h2 := s2.max
                unfold maxLen at h2
                exact ⟨s2.cap, by omega⟩
              have ypos : decide ((0 : Int) < (zs.length : Int)) = true := by simp; omega
              have HL : Hid ((zs.eraseIdx 0).length ≤ zs.length) := List.length_eraseIdx_le zs 0
              have HND : Hid _ := Dk.nodup_erase HN.out 0
              clear cg ex 
              go_wp2_with fail
              refine K.mono ?_
              rintro e w2 ⟨rfl, t2⟩
              have cu := HG.out w2 t2
              have K12 := Without_two t2 0 (by omega) (by omega)
              clear K t2 c0 HT HG
              go_wp2_with fail
              refine K12.mono ?_
              rintro e w3 ⟨g4, C4, rfl, t4⟩
              clear K12 cu
              go_wp2_with fail
              go_roundw
              case rel => exact ⟨i + 1, zs.eraseIdx 0, g4, C4, by omega, by omega, by go_num, by first | rfl | rw [List.length_eraseIdx, if_pos h0], t4, Nat.le_trans HL.out (by omega), HND⟩
              case measure => simp [intOf]; omega
          · by_cases q3 : q = 3
            · generalize Dk.atOf zs y zs.length = a0
              subst q3
              by_cases hne : zs.length = 0
              · obtain rfl : zs = [] := List.eq_nil_of_length_eq_zero (by omega)
                have K := PopBack_two_no HT
                go_wp2_with (go_at_call 11; refine K.mono ?_; rintro e w' ⟨rfl, hw'⟩; subst w')
                go_roundw
                case rel => exact ⟨i + 1, [], g, C1, by omega, by omega, by go_num, rfl, HT, by simp, HN⟩
                case measure => simp [intOf]; omega
              · have h0 : 0 < zs.length := by omega
                obtain ⟨m, em⟩ : ∃ m, zs.length - 1 = m := ⟨_, rfl⟩
                have hm : m < zs.length := by omega
                have qm : ((zs.length : Int) - 1) = (m : Int) := by omega
                obtain ⟨x, ex⟩ : ∃ x, zs.getD m 0 = x := ⟨_, rfl⟩
                have K : Calls Try.prog 11 #[.pointer (some ⟨bd, 0, none⟩)] wr fun e w' => e = .returned (.tuple #[.int .i64 x, .bool true]) ∧ Two w bd w' (zs.eraseIdx m) (.slice (some ⟨g, 0, none⟩) zs.length C1) zs := by
                  have := PopBack_at HT h0 (by omega)
                  rw [em, ex] at this
                  exact this
                have cg : ∀ w2, Two w bd w2 (zs.eraseIdx m) (.slice (some ⟨g, 0, none⟩) zs.length C1) zs → w2.cell? ⟨g, m, none⟩ = some (.int .i64 x) := fun w2 t2 => by
                  obtain ⟨A3, C3, e3, s2⟩ := t2.sli
                  obtain ⟨rfl, rfl⟩ : some ⟨g, 0, none⟩ = A3 ∧ C1 = C3 := by simpa using e3
                  obtain ⟨b1, o1, e1, hb1, hc1⟩ := s2.cells h0
                  obtain ⟨rfl, rfl⟩ : g = b1 ∧ 0 = o1 := by simpa using e1
                  have := hc1 m (by omega)
                  rw [Nat.zero_add, ex] at this
                  exact this
                have HG : Hid _ := cg
                have hC1 : zs.length ≤ C1 ∧ C1 ≤ 9223372036854775807 := by
                  obtain ⟨A3, C3, e3, s2⟩ := HT.sli
                  obtain ⟨rfl, rfl⟩ : some ⟨g, 0, none⟩ = A3 ∧ C1 = C3 := by simpa using e3
                  have h2 := s2.max
                  unfold maxLen at h2
                  exact ⟨s2.cap, by omega⟩
                have ypos : decide ((0 : Int) < (zs.length : Int)) = true := by simp; omega
                have HL : Hid ((zs.eraseIdx m).length ≤ zs.length) := List.length_eraseIdx_le zs m
                have HND : Hid _ := Dk.nodup_erase HN.out m
                clear cg ex em
                go_wp2_with fail
                refine K.mono ?_
                rintro e w2 ⟨rfl, t2⟩
                have cu := HG.out w2 t2
                have K12 := Without_two t2 m (by omega) (by omega)
                clear K t2 c0 HT HG
                go_wp2_with fail
                refine K12.mono ?_
                rintro e w3 ⟨g4, C4, rfl, t4⟩
                clear K12 cu
                go_wp2_with fail
                go_roundw
                case rel => exact ⟨i + 1, zs.eraseIdx m, g4, C4, by omega, by omega, by go_num, by first | rfl | rw [List.length_eraseIdx, if_pos h0], t4, Nat.le_trans HL.out (by omega), HND⟩
                case measure => simp [intOf]; omega
            · cases hcz : zs.contains y
              · have hno := Dk.has_no hcz
                have eat := Dk.atOf_no zs y zs.length hno
                rw [eat]
                clear eat
                by_cases q0 : q = 0
                · subst q0
                  have K := Push_two HT y hcz HY.out (by omega)
                  have HND : Hid _ := Dk.nodup_behind HN.out hcz
                  clear hcz hno
                  go_wp2_with fail
                  refine K.mono ?_
                  rintro e w2 ⟨rfl, t2⟩
                  have c2 := HC.out w2 t2.out
                  obtain ⟨g4, C4, w4, r4, t4⟩ := Append_some t2 y HY.out (by omega)
                  clear K t2 c0 HT
                  go_wp2_with (at_builtin; refine Lib.wpList_append_run _ rfl _ _ _ _ rfl _ _ rfl rfl _ _ r4 ?_)
                  go_roundw
                  case rel => exact ⟨i + 1, zs ++ [y], g4, C4, by omega, by omega, by go_num, by rw [List.length_append]; rfl, by rw [List.length_append]; exact t4, by simp; omega, HND⟩
                  case measure => simp [intOf]; omega
                · by_cases q1 : q = 1
                  · subst q1
                    have K := PushFront_two HT y hcz HY.out (by omega)
                    have HND : Hid _ := Dk.nodup_ahead HN.out hcz
                    clear hcz hno q0
                    go_wp2_with fail
                    refine K.mono ?_
                    rintro e w2 ⟨rfl, t2⟩
                    have c2 := HC.out w2 t2.out
                    obtain ⟨g4, C4, w4, r4, t4⟩ := Ahead_some t2 y HY.out (by omega)
                    clear K t2 c0 HT
                    go_wp2_with (at_builtin; refine Lib.wpList_append_run _ rfl _ _ _ _ rfl _ _ rfl rfl _ _ r4 ?_)
                    go_roundw
                    case rel => exact ⟨i + 1, y :: zs, g4, C4, by omega, by omega, by go_num, by rw [List.length_cons, Nat.add_comm zs.length 1], by rw [List.length_cons, Nat.add_comm zs.length 1]; exact t4, by simp; omega, HND⟩
                    case measure => simp [intOf]; omega
                  · have K := Drop_two_no HT y hno
                    have y0 : (q == 0) = false := by simp [q0]
                    have y1 : (q == 1) = false := by simp [q1]
                    have y2 : (q == 2) = false := by simp [q2]
                    have y3 : (q == 3) = false := by simp [q3]
                    clear hno hcz q0 q1 q2 q3
                    go_wp2_with (go_at_call 13; refine K.mono ?_; rintro e w' ⟨rfl, hw'⟩; subst w')
                    go_roundw
                    case rel => exact ⟨i + 1, zs, g, C1, by omega, by omega, by go_num, rfl, HT, by omega, HN⟩
                    case measure => simp [intOf]; omega
              · obtain ⟨p, hp, hpy, hpn⟩ := Dk.has_yes HN.out hcz
                have eat := Dk.atOf_yes zs y p hpy zs.length hp (fun j h1 h2 => hpn j h2 (by omega))
                rw [eat]
                clear eat
                have yp : decide ((p : Int) < 0) = false := by simp
                have yp2 : decide ((0 : Int) ≤ (p : Int)) = true := by simp
                by_cases q0 : q = 0
                · subst q0
                  have K := Push_two_no HT y hcz
                  clear hcz hpn hpy
                  go_wp2_with (go_at_call 8; refine K.mono ?_; rintro e w' ⟨rfl, hw'⟩; subst w')
                  go_roundw
                  case rel => exact ⟨i + 1, zs, g, C1, by omega, by omega, by go_num, rfl, HT, by omega, HN⟩
                  case measure => simp [intOf]; omega
                · by_cases q1 : q = 1
                  · subst q1
                    have K := PushFront_two_no HT y hcz
                    clear hcz hpn hpy
                    go_wp2_with (go_at_call 9; refine K.mono ?_; rintro e w' ⟨rfl, hw'⟩; subst w')
                    go_roundw
                    case rel => exact ⟨i + 1, zs, g, C1, by omega, by omega, by go_num, rfl, HT, by omega, HN⟩
                    case measure => simp [intOf]; omega
                  · have K := Drop_two HT y p (by omega) hp hpy (fun j hj => hpn j (by omega) (by omega))
                    have y0 : (q == 0) = false := by simp [q0]
                    have y1 : (q == 1) = false := by simp [q1]
                    have y2 : (q == 2) = false := by simp [q2]
                    have y3 : (q == 3) = false := by simp [q3]
                    have HL : Hid ((zs.eraseIdx p).length ≤ zs.length) := List.length_eraseIdx_le zs p
                    have HND : Hid _ := Dk.nodup_erase HN.out p
                    clear hpn hpy hcz q0 q1 q2 q3
                    go_wp2_with fail
                    refine K.mono ?_
                    rintro e w2 ⟨rfl, t2⟩
                    have K12 := Without_two t2 p hp (by omega)
                    clear K t2 c0 HT
                    go_wp2_with fail
                    refine K12.mono ?_
                    rintro e w3 ⟨g4, C4, rfl, t4⟩
                    clear K12
                    go_wp2_with fail
                    go_roundw
                    case rel => exact ⟨i + 1, zs.eraseIdx p, g4, C4, by omega, by omega, by go_num, rfl, t4, Nat.le_trans HL.out (by omega), HND⟩
                    case measure => simp [intOf]; omega
    · by_cases hlt : i < L
      · have y6 : decide ((i : Int) < 100) = false := by simp; omega
        go_wp2_with fail
        refine (awake_any _).mono ?_
        rintro e w5 ⟨rfl, u5⟩
        have K16 := All_two (HT.below u5) (by omega)
        clear HT u5
        go_wp2_with fail
        refine K16.mono ?_
        rintro e w6 ⟨A6, C6, rfl, t6, s6⟩
        have K15 := Ints_two t6 s6.out
        clear K16 s6 t6
        go_wp2_with fail
        refine K15.mono ?_
        rintro e w7 ⟨rfl, u7⟩
        go_wp2_with fail
        go_ret
        exact ⟨rfl, u7.out⟩
      · have hc' : True := trivial
        go_wp2_with fail
        refine (awake_any _).mono ?_
        rintro e w5 ⟨rfl, u5⟩
        have K16 := All_two (HT.below u5) (by omega)
        clear HT u5
        go_wp2_with fail
        refine K16.mono ?_
        rintro e w6 ⟨A6, C6, rfl, t6, s6⟩
        have K15 := Ints_two t6 s6.out
        clear K16 s6 t6
        go_wp2_with fail
        refine K15.mono ?_
        rintro e w7 ⟨rfl, u7⟩
        go_wp2_with fail
        go_ret
        exact ⟨rfl, u7.out⟩

end Go.Proofs.Ytgaionhlfnpdhaa
