/- The walk of the statement on a row's ends. -/
import Derived.Test.YtgaionhlfnpdhaaDt
namespace Go.Proofs.Ytgaionhlfnpdhaa
set_option linter.unusedSimpArgs false
set_option linter.unusedVariables false
set_option linter.unnecessarySimpa false
open Go.RowKit

set_option maxRecDepth 100000 in
set_option maxHeartbeats 2000000 in
theorem DequeEnds_any (A : Option Addr) (L C : Nat) (xs : List Int) (x : Int) (f : Bool) (w : World) (h : Dk.SlI w.heap.size w A L C xs) (hx : Dk.i64 x) :
    Calls Try.prog 6 #[.slice A L C, .int .i64 x, .bool f] w fun e w' => e = .returned (.bool true) ∧ Below w.heap.size w w' := by
  have hcap := h.cap
  have hmax := h.max
  unfold maxLen at hmax
  have HH : Hid _ := h
  have HX : Hid _ := hx
  clear h hx
  go_enter Try.func6, Try.ntmps6
  go_wp2_with fail
  refine (New_any w).mono ?_
  rintro e w1 ⟨rfl, h1, u1, z1⟩
  have t1 := Two.begin h1 u1
  obtain ⟨bd, ebd⟩ : ∃ bd, w.heap.size = bd := ⟨_, rfl⟩
  rw [ebd] at t1 ⊢
  have HEB : Hid _ := ebd
  clear h1 u1 z1 ebd
  go_wp2_with fail
  go_loopw [8] (fun i w' => ∃ (i0 : Nat) (zs : List Int), i0 ≤ L ∧ i0 ≤ 60 ∧ i = .int .i64 i0 ∧ Two w bd w' zs (.slice none 0 0) [] ∧ zs.length ≤ i0) (fun i w' => L - (intOf i).toNat)
  case atStart => exact ⟨0, [], Nat.zero_le _, Nat.zero_le _, rfl, t1, Nat.le_refl _⟩
  case round =>
    obtain ⟨i, zs, hi, hi6, rfl, HT, hz⟩ := hrel
    by_cases hc : i < L ∧ i < 60
    · obtain ⟨hlt, hl6⟩ := hc
      obtain ⟨b, o, rfl, hb, hc⟩ := HH.out.cells (by omega)
      obtain ⟨y, ey⟩ : ∃ y, xs.getD i 0 = y := ⟨_, rfl⟩
      have hy : Dk.i64 y := by
        have hlen := HH.out.len
        rw [← ey]
        exact HH.out.wf _ (by simp [List.getD, show i < xs.length by omega])
      have c1 : wr.cell? ⟨b, o + i, none⟩ = some (.int .i64 y) := by rw [HT.out.cell (by show b < w.heap.size; exact hb), ← ey]; exact hc i hlt
      have y6 : decide ((i : Int) < 60) = true := by simp; omega
      cases hcz : zs.contains y
      · have K := Push_two HT y hcz hy (by omega)
        clear hc ey hy hcz
        go_wp2_with fail
        refine K.mono ?_
        rintro e w2 ⟨rfl, t2⟩
        clear K
        go_wp2_with fail
        go_roundw
        case rel => exact ⟨i + 1, zs ++ [y], by omega, by omega, by go_num, t2, by simp; omega⟩
        case measure => simp [intOf]; omega
      · have K := Push_two_no HT y hcz
        clear hc ey hy hcz
        go_wp2_with (go_at_call 8; refine K.mono ?_; rintro e w' ⟨rfl, hw'⟩; subst w')
        go_roundw
        case rel => exact ⟨i + 1, zs, by omega, by omega, by go_num, HT, by omega⟩
        case measure => simp [intOf]; omega
    · by_cases hlt : i < L
      · have y6 : decide ((i : Int) < 60) = false := by simp; omega
        go_wp2_with fail
        refine (All_new HT (by omega)).mono ?_
        rintro e w2 ⟨A2, C2, rfl, t2⟩
        have K17 : Calls Try.prog 17 #[.slice A2 zs.length C2, .int .i64 x] w2 fun e w' => e = .returned (.bool (zs.contains x)) ∧ w' = w2 := by
          obtain ⟨A3, C3, e3, s2⟩ := t2.sli
          obtain ⟨rfl, rfl⟩ : A2 = A3 ∧ C2 = C3 := by simpa using e3
          exact In_any A2 zs.length C2 zs x w2 s2
        cases hcz : zs.contains x
        · rw [hcz] at K17
          cases f
          · have K8 := Push_two t2 x hcz HX.out (by omega)
            clear hcz HT t2
            go_wp2_with (go_at_call 17; refine K17.mono ?_; rintro e w' ⟨rfl, hw'⟩; subst w')
            refine K8.mono ?_
            rintro e w3 ⟨rfl, t3⟩
            have K11 := PopBack_two t3 (by omega)
            clear K8 K17 t3
            go_wp2_with fail
            refine K11.mono ?_
            rintro e w4 ⟨rfl, t4⟩
            clear K11
            go_wp2_with fail
            refine (awake_any _).mono ?_
            rintro e w5 ⟨rfl, u5⟩
            have K16 := All_two (t4.below u5) (by omega)
            clear t4 u5
            go_wp2_with fail
            refine K16.mono ?_
            rintro e w6 ⟨A6, C6, rfl, t6, s6⟩
            have K15 := Ints_two t6 s6.out
            clear K16 s6 t6
            go_wp2_with fail
            refine K15.mono ?_
            rintro e w7 ⟨rfl, u7⟩
            go_wp2_with fail
            go_ret
            exact ⟨rfl, u7.out⟩

          · have K8 := PushFront_two t2 x hcz HX.out (by omega)
            clear hcz HT t2
            go_wp2_with (go_at_call 17; refine K17.mono ?_; rintro e w' ⟨rfl, hw'⟩; subst w')
            refine K8.mono ?_
            rintro e w3 ⟨rfl, t3⟩
            have K11 := Pop_two t3 (by omega)
            clear K8 K17 t3
            go_wp2_with fail
            refine K11.mono ?_
            rintro e w4 ⟨rfl, t4⟩
            clear K11
            go_wp2_with fail
            refine (awake_any _).mono ?_
            rintro e w5 ⟨rfl, u5⟩
            have K16 := All_two (t4.below u5) (by omega)
            clear t4 u5
            go_wp2_with fail
            refine K16.mono ?_
            rintro e w6 ⟨A6, C6, rfl, t6, s6⟩
            have K15 := Ints_two t6 s6.out
            clear K16 s6 t6
            go_wp2_with fail
            refine K15.mono ?_
            rintro e w7 ⟨rfl, u7⟩
            go_wp2_with fail
            go_ret
            exact ⟨rfl, u7.out⟩

        · rw [hcz] at K17
          go_wp2_with (go_at_call 17; refine K17.mono ?_; rintro e w' ⟨rfl, hw'⟩; subst w')
          refine (awake_any _).mono ?_
          rintro e w5 ⟨rfl, u5⟩
          have t5 := t2.below u5
          have K8 := Push_two_no t5 x hcz
          have K9 := PushFront_two_no t5 x hcz
          have K16 := All_two t5 (by omega)
          clear hcz HT t2 u5 t5 K17
          go_wp2_with (first | (go_at_call 8; refine K8.mono ?_; rintro e w' ⟨rfl, hw'⟩; subst w') | (go_at_call 9; refine K9.mono ?_; rintro e w' ⟨rfl, hw'⟩; subst w'))
          refine K16.mono ?_
          rintro e w6 ⟨A6, C6, rfl, t6, s6⟩
          have K15 := Ints_two t6 s6.out
          clear K16 s6 t6 K8 K9
          go_wp2_with fail
          refine K15.mono ?_
          rintro e w7 ⟨rfl, u7⟩
          go_wp2_with fail
          go_ret
          exact ⟨rfl, u7.out⟩
      · have hc' : True := trivial
        go_wp2_with fail
        refine (All_new HT (by omega)).mono ?_
        rintro e w2 ⟨A2, C2, rfl, t2⟩
        have K17 : Calls Try.prog 17 #[.slice A2 zs.length C2, .int .i64 x] w2 fun e w' => e = .returned (.bool (zs.contains x)) ∧ w' = w2 := by
          obtain ⟨A3, C3, e3, s2⟩ := t2.sli
          obtain ⟨rfl, rfl⟩ : A2 = A3 ∧ C2 = C3 := by simpa using e3
          exact In_any A2 zs.length C2 zs x w2 s2
        cases hcz : zs.contains x
        · rw [hcz] at K17
          cases f
          · have K8 := Push_two t2 x hcz HX.out (by omega)
            clear hcz HT t2
            go_wp2_with (go_at_call 17; refine K17.mono ?_; rintro e w' ⟨rfl, hw'⟩; subst w')
            refine K8.mono ?_
            rintro e w3 ⟨rfl, t3⟩
            have K11 := PopBack_two t3 (by omega)
            clear K8 K17 t3
            go_wp2_with fail
            refine K11.mono ?_
            rintro e w4 ⟨rfl, t4⟩
            clear K11
            go_wp2_with fail
            refine (awake_any _).mono ?_
            rintro e w5 ⟨rfl, u5⟩
            have K16 := All_two (t4.below u5) (by omega)
            clear t4 u5
            go_wp2_with fail
            refine K16.mono ?_
            rintro e w6 ⟨A6, C6, rfl, t6, s6⟩
            have K15 := Ints_two t6 s6.out
            clear K16 s6 t6
            go_wp2_with fail
            refine K15.mono ?_
            rintro e w7 ⟨rfl, u7⟩
            go_wp2_with fail
            go_ret
            exact ⟨rfl, u7.out⟩

          · have K8 := PushFront_two t2 x hcz HX.out (by omega)
            clear hcz HT t2
            go_wp2_with (go_at_call 17; refine K17.mono ?_; rintro e w' ⟨rfl, hw'⟩; subst w')
            refine K8.mono ?_
            rintro e w3 ⟨rfl, t3⟩
            have K11 := Pop_two t3 (by omega)
            clear K8 K17 t3
            go_wp2_with fail
            refine K11.mono ?_
            rintro e w4 ⟨rfl, t4⟩
            clear K11
            go_wp2_with fail
            refine (awake_any _).mono ?_
            rintro e w5 ⟨rfl, u5⟩
            have K16 := All_two (t4.below u5) (by omega)
            clear t4 u5
            go_wp2_with fail
            refine K16.mono ?_
            rintro e w6 ⟨A6, C6, rfl, t6, s6⟩
            have K15 := Ints_two t6 s6.out
            clear K16 s6 t6
            go_wp2_with fail
            refine K15.mono ?_
            rintro e w7 ⟨rfl, u7⟩
            go_wp2_with fail
            go_ret
            exact ⟨rfl, u7.out⟩

        · rw [hcz] at K17
          go_wp2_with (go_at_call 17; refine K17.mono ?_; rintro e w' ⟨rfl, hw'⟩; subst w')
          refine (awake_any _).mono ?_
          rintro e w5 ⟨rfl, u5⟩
          have t5 := t2.below u5
          have K8 := Push_two_no t5 x hcz
          have K9 := PushFront_two_no t5 x hcz
          have K16 := All_two t5 (by omega)
          clear hcz HT t2 u5 t5 K17
          go_wp2_with (first | (go_at_call 8; refine K8.mono ?_; rintro e w' ⟨rfl, hw'⟩; subst w') | (go_at_call 9; refine K9.mono ?_; rintro e w' ⟨rfl, hw'⟩; subst w'))
          refine K16.mono ?_
          rintro e w6 ⟨A6, C6, rfl, t6, s6⟩
          have K15 := Ints_two t6 s6.out
          clear K16 s6 t6 K8 K9
          go_wp2_with fail
          refine K15.mono ?_
          rintro e w7 ⟨rfl, u7⟩
          go_wp2_with fail
          go_ret
          exact ⟨rfl, u7.out⟩

end Go.Proofs.Ytgaionhlfnpdhaa
