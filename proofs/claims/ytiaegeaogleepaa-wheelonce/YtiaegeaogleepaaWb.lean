/- The walk of the statement on one who sleeps. -/
import Derived.Test.YtiaegeaogleepaaWa
namespace Go.Proofs.Ytiaegeaogleepaa
set_option linter.unusedSimpArgs false
set_option linter.unusedVariables false
set_option linter.unnecessarySimpa false
open Go.RowKit Go.Maps

theorem left_one_keep {t k who : Int} (h : t < k) : Dk.leftOf t [(who, k)] = [(who, k)] := by simp [Dk.leftOf, h]
theorem left_one_go {t k who : Int} (h : k ≤ t) : Dk.leftOf t [(who, k)] = [] := by simp [Dk.leftOf]; omega
theorem due_one_none {t k who : Int} (h : t < k) : Dk.dueOf t [(who, k)] = [] := by
  have hd : decide (k ≤ t) = false := by simp; omega
  simp [Dk.dueOf, Dk.keysOf, hd]
theorem due_one_some {t k who : Int} (h : k ≤ t) : Dk.dueOf t [(who, k)] = [who] := by simp [Dk.dueOf, Dk.keysOf, h]

set_option maxRecDepth 100000 in
set_option maxHeartbeats 1000000 in
theorem WheelOnce_any (n : Nat) (who : Int) (w : World) (hn : n ≤ 255) (hw : Dk.i64 who) :
    Calls Try.prog 4 #[.int .u8 (n : Int), .int .i64 who] w fun e w' => e = .returned (.bool true) ∧ Below w.heap.size w w' := by
  have HI : Hid _ := hw
  clear hw
  go_enter Try.func4, Try.ntmps4
  go_wp2_with fail
  refine (New_any w).mono ?_
  rintro e w1 ⟨rfl, h1, u1⟩
  obtain ⟨bd, ebd⟩ : ∃ bd, w.heap.size + 1 = bd := ⟨_, rfl⟩
  rw [ebd] at h1 ⊢
  have p1 := Pk.begin h1 u1
  have K1 : Calls Try.prog 11 #[.pointer (some ⟨bd, 0, none⟩), .int .i64 who, .int .i64 ((n : Int) + 1)] w1 fun e w' => e = .returned (.int .i64 0) ∧ Pk w 1 bd w' 0 [(who, (n : Int) + 1)] [] [] := by
    have := Sleep_pk p1 (x := who) (n := (n : Int) + 1) HI.out (by omega) (by omega) (by simp [Dk.keysOf]) (by omega)
    rw [show min (0 + ((n : Int) + 1)) 1099511627776 = (n : Int) + 1 by omega] at this
    exact this
  clear h1 u1 p1 ebd
  go_wp2_with fail
  refine K1.mono ?_
  rintro e w2 ⟨rfl, p2⟩
  clear K1
  go_wp2_with fail
  go_loopw [7] (fun i w' => ∃ (i0 : Nat), 1 ≤ i0 ∧ i0 ≤ n + 4 ∧ i = .int .i64 i0 ∧ Pk w 1 bd w' ((i0 : Int) - 1) (if i0 ≤ n + 1 then [(who, (n : Int) + 1)] else []) [] []) (fun i w' => n + 4 - (intOf i).toNat)
  case atStart => exact ⟨1, Nat.le_refl _, by omega, rfl, by rw [if_pos (by omega)]; exact p2⟩
  case round =>
    clear p2
    obtain ⟨i, hi1, hi4, rfl, hP⟩ := hrel
    by_cases hlt : i ≤ n + 3
    · have y1 : decide ((i : Int) ≤ (n : Int) + 1 + 2) = true := by simp; omega
      have ht : min ((i : Int) - 1 + 1) 1099511627776 = (i : Int) := by omega
      by_cases h3 : i = n + 1
      · rw [if_pos (by omega)] at hP
        have K : Calls Try.prog 8 #[.pointer (some ⟨bd, 0, none⟩)] wr fun e w' => ∃ A C, e = .returned (.slice A 1 C) ∧ Pk w 1 bd w' (i : Int) [] [(.slice A 1 C, [who])] [] :=
          Tick_to hP (by omega) i [] [who] ht (left_one_go (by omega)) (List.pairwise_singleton _ _) (by rw [due_one_some (by omega)])
        have y2 : ((i : Int) == (n : Int) + 1) = true := by simp; omega
        clear hP ht
        go_wp2_with fail
        refine K.mono ?_
        rintro e w3 ⟨A, C, rfl, p3⟩
        obtain ⟨w4, e4⟩ : ∃ w4, w4 = w3.alloc (.cells #[.int .i64 who] 3) := ⟨_, rfl⟩
        have K4 := Ints_lit p3 (A := A) (C := C) (x := who) (by simp) HI.out e4
        have HE4 : Hid _ := e4
        clear K p3 e4
        go_wp2_with fail
        rw [← HE4.out]
        refine K4.mono ?_
        rintro e w5 ⟨rfl, p5⟩
        clear K4 HE4
        go_wp2_with fail
        go_roundw
        case rel => exact ⟨i + 1, by omega, by omega, by go_num, by rw [if_neg (by omega)]; exact (show ((i + 1 : Nat) : Int) - 1 = (i : Int) by omega) ▸ p5.sub (List.nil_sublist _) (List.nil_sublist _)⟩
        case measure => simp [intOf]; omega
      · obtain ⟨L, eL, hK⟩ : ∃ L, (if i ≤ n + 1 then [(who, (n : Int) + 1)] else []) = L ∧ Dk.leftOf i L = (if i + 1 ≤ n + 1 then [(who, (n : Int) + 1)] else []) ∧ Dk.dueOf i L = [] := by
          by_cases h4 : i ≤ n + 1
          · rw [if_pos h4, if_pos (by omega)]
            exact ⟨_, rfl, left_one_keep (by omega), due_one_none (by omega)⟩
          · rw [if_neg h4, if_neg (by omega)]
            exact ⟨_, rfl, rfl, rfl⟩
        rw [eL] at hP
        have K : Calls Try.prog 8 #[.pointer (some ⟨bd, 0, none⟩)] wr fun e w' => ∃ A C, e = .returned (.slice A 0 C) ∧ Pk w 1 bd w' (i : Int) (if i + 1 ≤ n + 1 then [(who, (n : Int) + 1)] else []) [(.slice A 0 C, [])] [] :=
          Tick_to hP (by omega) i _ [] ht hK.1 List.Pairwise.nil (by rw [hK.2])
        have y2 : ((i : Int) == (n : Int) + 1) = false := by simp; omega
        clear hP ht eL hK
        go_wp2_with fail
        refine K.mono ?_
        rintro e w3 ⟨A, C, rfl, p3⟩
        have p4 := p3.below (Dk.up_alloc (Below.refl _ _) (.cells #[.int .i64 who] 3))
        have K4 := Ints_short A (some ⟨w3.heap.size, 0, none⟩) 0 1 C 1 (w3.alloc (.cells #[.int .i64 who] 3)) (by omega)
        clear K p3
        go_wp2_with (go_at_call 7; refine K4.mono ?_; rintro e w' ⟨rfl, hw'⟩; subst w')
        go_roundw
        case rel => exact ⟨i + 1, by omega, by omega, by go_num, (show ((i + 1 : Nat) : Int) - 1 = (i : Int) by omega) ▸ p4.sub (List.nil_sublist _) (List.nil_sublist _)⟩
        case measure => simp [intOf]; omega
    · have y1 : decide ((i : Int) ≤ (n : Int) + 1 + 2) = false := by simp; omega
      rw [if_neg (by omega)] at hP
      have K := Waiting_pk_no hP (x := who) HI.out (by simp [Dk.keysOf])
      have HP : Hid (Below w.heap.size w wr) := hP.out
      clear hP
      go_wp2_with (go_at_call 12; refine K.mono ?_; rintro e w' ⟨rfl, hw'⟩; subst w')
      refine (awake_any _).mono ?_
      rintro e w3 ⟨rfl, u3⟩
      have HU : Hid (Below w.heap.size w w3) := Dk.up_call HP.out u3
      clear u3 HP K
      go_wp2_with (first | (go_at_call 11; refine (Sleep_nil _ _ _).mono ?_; rintro e w' ⟨rfl, hw'⟩; subst w') | (go_at_call 8; refine (Tick_nil _).mono ?_; rintro e w' ⟨rfl, hw'⟩; subst w') | (go_at_call 9; refine (Now_nil _).mono ?_; rintro e w' ⟨rfl, hw'⟩; subst w'))
      go_ret
      exact ⟨rfl, HU.out⟩

end Go.Proofs.Ytiaegeaogleepaa
