/- The walk of the document's own answer for a whole number as a word. -/
import Derived.Test.YtmkeniobnjpohaaNRef
namespace Go.Proofs.Ytmkeniobnjpohaa
open Go.RowKit

theorem div_zero {m k : Nat} (h0 : m ≠ 0) (h : m.log2 < k) : ((m : Int) / 2 ^ k == 0) = true := by
  have : m / 2 ^ k = 0 := Nat.div_eq_of_lt ((Nat.log2_lt h0).1 h)
  have e : (m : Int) / 2 ^ k = ((m / 2 ^ k : Nat) : Int) := by simp
  rw [e, this]; rfl
theorem div_some {m k : Nat} (h0 : m ≠ 0) (h : m.log2 = k) : ((m : Int) / 2 ^ k == 0) = false := by
  have b := (Dk.digits h0).1
  rw [h] at b
  have : 0 < m / 2 ^ k := Nat.div_pos b (Nat.two_pow_pos _)
  have e : (m : Int) / 2 ^ k = ((m / 2 ^ k : Nat) : Int) := by simp
  rw [e, beq_eq_false_iff_ne]; omega

theorem or_plain (X : Nat) (h : X < 18446744073709551616) : bits .or .u64 0 (X : Int) = (X : Int) := by
  have := u64_or_nat 0 X (by decide) h
  rw [show ((0 : Nat) : Int) = 0 from rfl, Nat.zero_or] at this
  exact this
theorem or_sign (X : Nat) (h : X < 9223372036854775808) : bits .or .u64 9223372036854775808 (X : Int) = ((9223372036854775808 + X : Nat) : Int) := by
  have := u64_or_nat 9223372036854775808 X (by decide) (by omega)
  rw [show ((9223372036854775808 : Nat) : Int) = 9223372036854775808 from rfl] at this
  rw [this, nat_join 63 _ _ (by decide) (by omega)]
theorem or_fields (x y : Nat) (hx : x % 4503599627370496 = 0) (hxl : x < 18446744073709551616) (hy : y < 4503599627370496) : bits .or .u64 (x : Int) (y : Int) = ((x + y : Nat) : Int) := by
  rw [u64_or_nat x y hxl (by omega), nat_join 52 x y hx (by omega)]
theorem and_frac (x : Nat) (h : x < 18446744073709551616) : bits .and .u64 (x : Int) 4503599627370495 = ((x % 4503599627370496 : Nat) : Int) := by
  have e1 := u64_and_nat x 4503599627370495 h (by decide)
  rw [show ((4503599627370495 : Nat) : Int) = 4503599627370495 from rfl] at e1
  have e2 := Nat.and_two_pow_sub_one_eq_mod x 52
  rw [show 2 ^ 52 - 1 = 4503599627370495 by decide, show 2 ^ 52 = 4503599627370496 by decide] at e2
  rw [e1, e2]
theorem and_rest (m j : Nat) (hm : m < 18446744073709551616) (hj : j ≤ 11) : bits .and .u64 (m : Int) (IntKind.u64.wrap (IntKind.u64.wrap (2 ^ j) - 1)) = ((m % 2 ^ j : Nat) : Int) := by
  have p : 2 ^ j ≤ 2048 := Nat.pow_le_pow_right (j := 11) (n := 2) (by omega) hj
  have q : 0 < 2 ^ j := Nat.two_pow_pos _
  have e : IntKind.u64.wrap (IntKind.u64.wrap (2 ^ j) - 1) = ((2 ^ j - 1 : Nat) : Int) := by
    rw [IntKind.wrap_u64, IntKind.wrap_u64, show (2 : Int) ^ j = ((2 ^ j : Nat) : Int) by simp]
    omega
  rw [e, u64_and_nat m _ hm (by omega), Nat.and_two_pow_sub_one_eq_mod]
theorem wrap_half (j : Nat) (hj : j ≤ 11) : IntKind.u64.wrap (2 ^ j) = ((2 ^ j : Nat) : Int) := by
  have p : 2 ^ j ≤ 2048 := Nat.pow_le_pow_right (j := 11) (n := 2) (by omega) hj
  have q : 0 < 2 ^ j := Nat.two_pow_pos _
  rw [IntKind.wrap_u64, show (2 : Int) ^ j = ((2 ^ j : Nat) : Int) by simp]
  generalize 2 ^ j = x at *
  omega
theorem and_odd (Q : Nat) (h : Q < 18446744073709551616) : bits .and .u64 (Q : Int) 1 = ((Q % 2 : Nat) : Int) := by
  have e1 := u64_and_nat Q 1 h (by decide)
  rw [show ((1 : Nat) : Int) = 1 from rfl] at e1
  rw [e1, nat_mask1]

theorem low_word (m k : Nat) (h0 : m ≠ 0) (hk : m.log2 = k) (h : k ≤ 52) :
    bits .and .u64 (IntKind.u64.wrap ((m : Int) * 2 ^ (52 - k))) 4503599627370495 = ((m * 2 ^ (52 - k) - 4503599627370496 : Nat) : Int) ∧ m * 2 ^ (52 - k) - 4503599627370496 < 4503599627370496 ∧ 4503599627370496 ≤ m * 2 ^ (52 - k) := by
  have b := Dk.low_bounds h0 (by omega)
  rw [hk] at b
  have e : IntKind.u64.wrap ((m : Int) * 2 ^ (52 - k)) = ((m * 2 ^ (52 - k) : Nat) : Int) := by
    rw [IntKind.wrap_u64, show (m : Int) * 2 ^ (52 - k) = ((m * 2 ^ (52 - k) : Nat) : Int) by simp]
    omega
  rw [e, and_frac _ (by omega)]
  generalize m * 2 ^ (52 - k) = x at *
  refine ⟨?_, by omega, by omega⟩
  have : x % 4503599627370496 = x - 4503599627370496 := by omega
  rw [this]

set_option maxRecDepth 100000 in
set_option maxHeartbeats 1000000 in
theorem rToFloat_pos (a : Nat) (w : World) (h0 : a ≠ 0) (h1 : a < 9223372036854775808) :
    Calls Try.prog 32 #[.int .u64 a] w fun e w' => e = .returned (.int .u64 (Dk.tF a)) ∧ w' = w := by
  have t0 : ((a : Int) / 9223372036854775808 == 1) = false := by rw [beq_eq_false_iff_ne]; omega
  have hm : a < 18446744073709551616 := by omega
  have HT : Hid (Dk.tF a = Ieee.double.word false (Dk.up a)) := by
    show Dk.tF a = Ieee.double.word false (Dk.up a)
    unfold Dk.tF; rw [if_neg h0, if_neg (by omega)]
  have t1 : ((a : Int) == 0) = false := by rw [beq_eq_false_iff_ne]; omega
  have hl : a.log2 ≤ 63 := Dk.log2_lt64 h0 (by omega)
  clear h1
  go_enter Try.func32, Try.ntmps32
  go_wp2
  go_loop [4] (fun t => ∃ k : Nat, k ≤ 63 ∧ a.log2 ≤ k ∧ t = .int .i64 k) (fun t => (intOf t).toNat)
  case atStart => exact ⟨63, by omega, hl, rfl⟩
  case round =>
    obtain ⟨k, hk1, hk2, rfl⟩ := hrel
    by_cases c : a.log2 < k
    · have d := div_zero h0 c
      go_wp2
      go_round
      case rel => exact ⟨k - 1, by omega, by omega, by go_num⟩
      case measure => simp [intOf]; omega
    · have c' : a.log2 = k := by omega
      have d := div_some h0 c'
      by_cases q : (k : Int) ≤ 52
      · have T : Hid (bits .or .u64 (bits .or .u64 0 (((k : Int) + 1023) * 4503599627370496)) (bits .and .u64 (IntKind.u64.wrap ((a : Int) * 2 ^ (52 - k))) 4503599627370495) = (Dk.tF a : Int)) := by
          obtain ⟨e1, e2, e3⟩ := low_word a k h0 c' (by omega)
          show bits .or .u64 (bits .or .u64 0 (((k : Int) + 1023) * 4503599627370496)) (bits .and .u64 (IntKind.u64.wrap ((a : Int) * 2 ^ (52 - k))) 4503599627370495) = (Dk.tF a : Int)
          rw [e1, show (((k : Int) + 1023) * 4503599627370496) = (((k + 1023) * 4503599627370496 : Nat) : Int) by simp, or_plain _ (by omega), or_fields _ _ (by omega) (by omega) e2, HT.out, Dk.word_eq, Dk.up_low c' (by omega)]
          simp only [Bool.false_eq_true, if_false]
          omega
        clear c c' hk2 hl
        go_wp2
        go_ret
        exact ⟨nret_int T.out, rfl⟩
      · obtain ⟨Q, hQ⟩ : ∃ Q : Nat, Q = a / 2 ^ (k - 52) := ⟨_, rfl⟩
        obtain ⟨R, hR⟩ : ∃ R : Nat, R = a % 2 ^ (k - 52) := ⟨_, rfl⟩
        obtain ⟨H, hH⟩ : ∃ H : Nat, H = 2 ^ (k - 52 - 1) := ⟨_, rfl⟩
        have f1 : (a : Int) / 2 ^ (k - 52) = (Q : Int) := by rw [hQ]; simp
        have f2 := and_rest a (k - 52) hm (by omega)
        rw [← hR] at f2
        have f3 := wrap_half (k - 52 - 1) (by omega)
        rw [← hH] at f3
        have bQ := Dk.high_bounds h0 (by omega)
        rw [c', ← hQ] at bQ
        have f4 := and_odd Q (by omega)
        have hQ0 : (0 : Int) ≤ Q := by omega
        have hQ1 : (Q : Int) ≤ 9007199254740991 := by omega
        have U : Hid (∀ o : Nat, (o = if H < R ∨ (R = H ∧ Q % 2 = 1) then 1 else 0) → bits .or .u64 0 (((k : Int) + 1023) * 4503599627370496 + ((Q + o : Nat) : Int) - 4503599627370496) = (Dk.tF a : Int)) := by
          show ∀ o : Nat, (o = if H < R ∨ (R = H ∧ Q % 2 = 1) then 1 else 0) → bits .or .u64 0 (((k : Int) + 1023) * 4503599627370496 + ((Q + o : Nat) : Int) - 4503599627370496) = (Dk.tF a : Int)
          intro o ho
          have ho1 : o ≤ 1 := by rw [ho]; split <;> omega
          rw [show ((k : Int) + 1023) * 4503599627370496 + ((Q + o : Nat) : Int) - 4503599627370496 = (((k + 1022) * 4503599627370496 + (Q + o) : Nat) : Int) by omega, or_plain _ (by omega), HT.out, Dk.word_eq, Dk.up_high c' (by omega) hQ hR hH, ← ho]
          rfl
        clear hQ hR hH bQ c c' hk2 hl
        by_cases x1 : (H : Int) < R
        · have V : Hid (bits .or .u64 0 (((k : Int) + 1023) * 4503599627370496 + ((Q : Int) + 1) - 4503599627370496) = (Dk.tF a : Int)) := U.out 1 (by rw [if_pos (.inl (by omega))])
          clear U
          go_wp2
          go_ret
          exact ⟨nret_int V.out, rfl⟩
        · by_cases x2 : R = H
          · have x2' : ((R : Int) == H) = true := by rw [beq_iff_eq]; omega
            by_cases x3 : Q % 2 = 1
            · have x3' : (((Q % 2 : Nat) : Int) == 1) = true := by rw [beq_iff_eq]; omega
              have V : Hid (bits .or .u64 0 (((k : Int) + 1023) * 4503599627370496 + ((Q : Int) + 1) - 4503599627370496) = (Dk.tF a : Int)) := U.out 1 (by rw [if_pos (.inr ⟨x2, x3⟩)])
              clear U x2 x3
              go_wp2
              go_ret
              exact ⟨nret_int V.out, rfl⟩
            · have x3' : (((Q % 2 : Nat) : Int) == 1) = false := by rw [beq_eq_false_iff_ne]; omega
              have V : Hid (bits .or .u64 0 (((k : Int) + 1023) * 4503599627370496 + (Q : Int) - 4503599627370496) = (Dk.tF a : Int)) := U.out 0 (by rw [if_neg (by omega)])
              clear U x2 x3
              go_wp2
              go_ret
              exact ⟨nret_int V.out, rfl⟩
          · have x2' : ((R : Int) == H) = false := by rw [beq_eq_false_iff_ne]; omega
            have V : Hid (bits .or .u64 0 (((k : Int) + 1023) * 4503599627370496 + (Q : Int) - 4503599627370496) = (Dk.tF a : Int)) := U.out 0 (by rw [if_neg (by omega)])
            clear U x2
            go_wp2
            go_ret
            exact ⟨nret_int V.out, rfl⟩

set_option maxRecDepth 100000 in
set_option maxHeartbeats 1000000 in
theorem rToFloat_neg (a : Nat) (w : World) (ha : a < 18446744073709551616) (h1 : 9223372036854775808 ≤ a) :
    Calls Try.prog 32 #[.int .u64 a] w fun e w' => e = .returned (.int .u64 (Dk.tF a)) ∧ w' = w := by
  have t0 : ((a : Int) / 9223372036854775808 == 1) = true := by rw [beq_iff_eq]; omega
  obtain ⟨m, e⟩ : ∃ m : Nat, m = 18446744073709551616 - a := ⟨_, rfl⟩
  have h0 : m ≠ 0 := by omega
  have hm : m < 18446744073709551616 := by omega
  have HT : Hid (Dk.tF a = Ieee.double.word true (Dk.up m)) := by
    show Dk.tF a = Ieee.double.word true (Dk.up m)
    unfold Dk.tF; rw [if_neg (by omega), if_pos h1, ← e]
  have hneg : IntKind.u64.wrap (-(a : Int)) = (m : Int) := by rw [IntKind.wrap_u64]; omega
  clear e ha
  have t1 : ((m : Int) == 0) = false := by rw [beq_eq_false_iff_ne]; omega
  have hl : m.log2 ≤ 63 := Dk.log2_lt64 h0 (by omega)
  clear h1
  go_enter Try.func32, Try.ntmps32
  go_wp2
  go_loop [4] (fun t => ∃ k : Nat, k ≤ 63 ∧ m.log2 ≤ k ∧ t = .int .i64 k) (fun t => (intOf t).toNat)
  case atStart => exact ⟨63, by omega, hl, rfl⟩
  case round =>
    obtain ⟨k, hk1, hk2, rfl⟩ := hrel
    by_cases c : m.log2 < k
    · have d := div_zero h0 c
      go_wp2
      go_round
      case rel => exact ⟨k - 1, by omega, by omega, by go_num⟩
      case measure => simp [intOf]; omega
    · have c' : m.log2 = k := by omega
      have d := div_some h0 c'
      by_cases q : (k : Int) ≤ 52
      · have T : Hid (bits .or .u64 (bits .or .u64 9223372036854775808 (((k : Int) + 1023) * 4503599627370496)) (bits .and .u64 (IntKind.u64.wrap ((m : Int) * 2 ^ (52 - k))) 4503599627370495) = (Dk.tF a : Int)) := by
          obtain ⟨e1, e2, e3⟩ := low_word m k h0 c' (by omega)
          show bits .or .u64 (bits .or .u64 9223372036854775808 (((k : Int) + 1023) * 4503599627370496)) (bits .and .u64 (IntKind.u64.wrap ((m : Int) * 2 ^ (52 - k))) 4503599627370495) = (Dk.tF a : Int)
          rw [e1, show (((k : Int) + 1023) * 4503599627370496) = (((k + 1023) * 4503599627370496 : Nat) : Int) by simp, or_sign _ (by omega), or_fields _ _ (by omega) (by omega) e2, HT.out, Dk.word_eq, Dk.up_low c' (by omega)]
          simp only [if_true]
          omega
        clear c c' hk2 hl
        go_wp2
        go_ret
        exact ⟨nret_int T.out, rfl⟩
      · obtain ⟨Q, hQ⟩ : ∃ Q : Nat, Q = m / 2 ^ (k - 52) := ⟨_, rfl⟩
        obtain ⟨R, hR⟩ : ∃ R : Nat, R = m % 2 ^ (k - 52) := ⟨_, rfl⟩
        obtain ⟨H, hH⟩ : ∃ H : Nat, H = 2 ^ (k - 52 - 1) := ⟨_, rfl⟩
        have f1 : (m : Int) / 2 ^ (k - 52) = (Q : Int) := by rw [hQ]; simp
        have f2 := and_rest m (k - 52) hm (by omega)
        rw [← hR] at f2
        have f3 := wrap_half (k - 52 - 1) (by omega)
        rw [← hH] at f3
        have bQ := Dk.high_bounds h0 (by omega)
        rw [c', ← hQ] at bQ
        have f4 := and_odd Q (by omega)
        have hQ0 : (0 : Int) ≤ Q := by omega
        have hQ1 : (Q : Int) ≤ 9007199254740991 := by omega
        have U : Hid (∀ o : Nat, (o = if H < R ∨ (R = H ∧ Q % 2 = 1) then 1 else 0) → bits .or .u64 9223372036854775808 (((k : Int) + 1023) * 4503599627370496 + ((Q + o : Nat) : Int) - 4503599627370496) = (Dk.tF a : Int)) := by
          show ∀ o : Nat, (o = if H < R ∨ (R = H ∧ Q % 2 = 1) then 1 else 0) → bits .or .u64 9223372036854775808 (((k : Int) + 1023) * 4503599627370496 + ((Q + o : Nat) : Int) - 4503599627370496) = (Dk.tF a : Int)
          intro o ho
          have ho1 : o ≤ 1 := by rw [ho]; split <;> omega
          rw [show ((k : Int) + 1023) * 4503599627370496 + ((Q + o : Nat) : Int) - 4503599627370496 = (((k + 1022) * 4503599627370496 + (Q + o) : Nat) : Int) by omega, or_sign _ (by omega), HT.out, Dk.word_eq, Dk.up_high c' (by omega) hQ hR hH, ← ho]
          rfl
        clear hQ hR hH bQ c c' hk2 hl
        by_cases x1 : (H : Int) < R
        · have V : Hid (bits .or .u64 9223372036854775808 (((k : Int) + 1023) * 4503599627370496 + ((Q : Int) + 1) - 4503599627370496) = (Dk.tF a : Int)) := U.out 1 (by rw [if_pos (.inl (by omega))])
          clear U
          go_wp2
          go_ret
          exact ⟨nret_int V.out, rfl⟩
        · by_cases x2 : R = H
          · have x2' : ((R : Int) == H) = true := by rw [beq_iff_eq]; omega
            by_cases x3 : Q % 2 = 1
            · have x3' : (((Q % 2 : Nat) : Int) == 1) = true := by rw [beq_iff_eq]; omega
              have V : Hid (bits .or .u64 9223372036854775808 (((k : Int) + 1023) * 4503599627370496 + ((Q : Int) + 1) - 4503599627370496) = (Dk.tF a : Int)) := U.out 1 (by rw [if_pos (.inr ⟨x2, x3⟩)])
              clear U x2 x3
              go_wp2
              go_ret
              exact ⟨nret_int V.out, rfl⟩
            · have x3' : (((Q % 2 : Nat) : Int) == 1) = false := by rw [beq_eq_false_iff_ne]; omega
              have V : Hid (bits .or .u64 9223372036854775808 (((k : Int) + 1023) * 4503599627370496 + (Q : Int) - 4503599627370496) = (Dk.tF a : Int)) := U.out 0 (by rw [if_neg (by omega)])
              clear U x2 x3
              go_wp2
              go_ret
              exact ⟨nret_int V.out, rfl⟩
          · have x2' : ((R : Int) == H) = false := by rw [beq_eq_false_iff_ne]; omega
            have V : Hid (bits .or .u64 9223372036854775808 (((k : Int) + 1023) * 4503599627370496 + (Q : Int) - 4503599627370496) = (Dk.tF a : Int)) := U.out 0 (by rw [if_neg (by omega)])
            clear U x2
            go_wp2
            go_ret
            exact ⟨nret_int V.out, rfl⟩

theorem rToFloat_any (a : Nat) (w : World) (h : a < 18446744073709551616) :
    Calls Try.prog 32 #[.int .u64 a] w fun e w' => e = .returned (.int .u64 (Dk.tF a)) ∧ w' = w := by
  by_cases h0 : a = 0
  · subst h0
    have e : Dk.tF 0 = 0 := by unfold Dk.tF; rw [if_pos rfl]
    rw [e]
    go_enter Try.func32, Try.ntmps32
    go_wp2
    go_ret
    exact ⟨rfl, rfl⟩
  · by_cases h1 : a < 9223372036854775808
    · exact rToFloat_pos a w h0 h1
    · exact rToFloat_neg a w h (by omega)

end Go.Proofs.Ytmkeniobnjpohaa
