/- What the lesser and the greater word, a word's kind, a word as a whole number, and a whole number as a word come to. -/
import Derived.Test.YtmkeniobnjpohaaNum
import Derived.Laws.FloatArith
namespace Dk
open Ieee

theorem split_word {a : Nat} (h : a < 18446744073709551616) : (sg a = false ∧ rg a = a ∧ a < 9223372036854775808) ∨ (sg a = true ∧ rg a = a - 9223372036854775808 ∧ 9223372036854775808 ≤ a) := by
  unfold sg rg
  by_cases h1 : a < 9223372036854775808
  · left
    have : a / 9223372036854775808 = 0 := by omega
    rw [this]; exact ⟨rfl, by omega, h1⟩
  · right
    have : a / 9223372036854775808 = 1 := by omega
    rw [this]; exact ⟨rfl, by omega, by omega⟩

/-- which word is ahead, -0 ahead of 0 -/
def bef (a b : Nat) : Bool := if eq a b then decide (b < a) else lt a b
/-- a word's rank -/
def rk (a : Nat) : Int := if sg a then -(rg a : Int) - 1 else rg a

theorem bef_rk {a b : Nat} (ha : a < 18446744073709551616) (hb : b < 18446744073709551616) (na : nn a = false) (nb : nn b = false) : bef a b = decide (rk a < rk b) := by
  unfold bef eq lt
  simp only [na, nb, Bool.not_false, Bool.true_and]
  unfold key rk
  rcases split_word ha with ⟨s, r, l⟩ | ⟨s, r, l⟩ <;> rcases split_word hb with ⟨s2, r2, l2⟩ | ⟨s2, r2, l2⟩ <;> rw [s, s2, r, r2] <;> simp only [Bool.false_eq_true, if_false, if_true, decide_eq_true_eq]
  all_goals split <;> first | (rw [decide_eq_decide]; omega) | rw [decide_eq_decide]

theorem rk_inj {a b : Nat} (ha : a < 18446744073709551616) (hb : b < 18446744073709551616) (h : rk a = rk b) : a = b := by
  unfold rk at h
  rcases split_word ha with ⟨s, r, l⟩ | ⟨s, r, l⟩ <;> rcases split_word hb with ⟨s2, r2, l2⟩ | ⟨s2, r2, l2⟩ <;> rw [s, s2, r, r2] at h <;> simp only [Bool.false_eq_true, if_false, if_true] at h <;> omega

theorem rk_bounds {a : Nat} (ha : a < 18446744073709551616) : -9223372036854775808 ≤ rk a ∧ rk a ≤ 9223372036854775807 := by
  unfold rk
  rcases split_word ha with ⟨s, r, l⟩ | ⟨s, r, l⟩ <;> rw [s, r] <;> simp only [Bool.false_eq_true, if_false, if_true] <;> omega

/-- the lesser one -/
def nMin (a b : Nat) : Nat := if nn a || nn b then 9221120237041090560 else if bef a b then a else b
/-- the greater one -/
def nMax (a b : Nat) : Nat := if nn a || nn b then 9221120237041090560 else if bef a b then b else a

theorem nMax_rk {a b : Nat} (ha : a < 18446744073709551616) (hb : b < 18446744073709551616) (na : nn a = false) (nb : nn b = false) : nMax a b = if rk b < rk a then a else b := by
  unfold nMax
  rw [na, nb, bef_rk ha hb na nb]
  simp only [Bool.or_self, Bool.false_eq_true, if_false, decide_eq_true_eq]
  by_cases h1 : rk a < rk b
  · rw [if_pos h1, if_neg (by omega)]
  · rw [if_neg h1]
    by_cases h2 : rk b < rk a
    · rw [if_pos h2]
    · rw [if_neg h2]; exact rk_inj ha hb (by omega)
theorem nMin_rk {a b : Nat} (ha : a < 18446744073709551616) (hb : b < 18446744073709551616) (na : nn a = false) (nb : nn b = false) : nMin a b = if rk a < rk b then a else b := by
  unfold nMin
  rw [na, nb, bef_rk ha hb na nb]
  simp only [Bool.or_self, Bool.false_eq_true, if_false, decide_eq_true_eq]

/-- less, by ranks -/
theorem lt_rk {a b : Nat} (ha : a < 18446744073709551616) (hb : b < 18446744073709551616) (na : nn a = false) (nb : nn b = false) : lt a b = (!(decide (rg a = 0) && decide (rg b = 0)) && decide (rk a < rk b)) := by
  unfold lt
  simp only [na, nb, Bool.not_false, Bool.true_and]
  unfold key rk
  rw [Bool.eq_iff_iff]
  simp only [Bool.and_eq_true, Bool.not_eq_true', Bool.and_eq_false_iff, decide_eq_true_eq, decide_eq_false_iff_not]
  rcases split_word ha with ⟨s, r, l⟩ | ⟨s, r, l⟩ <;> rcases split_word hb with ⟨s2, r2, l2⟩ | ⟨s2, r2, l2⟩ <;> rw [s, s2, r, r2] <;> simp only [Bool.false_eq_true, if_false, if_true] <;> omega

/- kinds -/
theorem eq_zero {a : Nat} (na : nn a = false) : eq a 0 = decide (rg a = 0) := by
  unfold eq
  rw [na, show nn 0 = false by decide, show key 0 = 0 by decide]
  unfold key
  rw [Bool.eq_iff_iff]
  simp only [Bool.not_false, Bool.true_and, decide_eq_true_eq]
  split <;> omega
theorem gt_most {a : Nat} (na : nn a = false) : lt 9218868437227405311 (rg a) = decide (rg a = 9218868437227405312) := by
  unfold nn at na
  have h : rg a ≤ 9218868437227405312 := by simpa using na
  have e : rg (rg a) = rg a := by unfold rg; omega
  have s : sg (rg a) = false := by
    unfold sg; have : rg a / 9223372036854775808 = 0 := by unfold rg; omega
    rw [this]; rfl
  have n : nn (rg a) = false := by unfold nn; rw [e]; exact na
  unfold lt key
  rw [n, e, s, show nn 9218868437227405311 = false by decide, show sg 9218868437227405311 = false by decide, show rg 9218868437227405311 = 9218868437227405311 by decide]
  rw [Bool.eq_iff_iff]
  simp only [Bool.not_false, Bool.true_and, decide_eq_true_eq, Bool.false_eq_true, if_false]
  omega

/- whole numbers -/
theorem cut_zero (n k : Nat) (way : Bool) : Toward.zero.cut way n k = n / 2 ^ k := by
  unfold Toward.cut
  simp only [Nat.one_shiftLeft, Bool.toNat_false, Nat.add_zero]
  by_cases h : k ≤ n.log2 + 2
  · rw [Nat.min_eq_left h]
  · rw [Nat.min_eq_right (by omega)]
    have a : n < 2 ^ (n.log2 + 2) := by
      by_cases h0 : n = 0
      · subst h0; decide
      · exact (Nat.log2_lt h0).1 (by omega)
    have b : n < 2 ^ k := Nat.lt_of_lt_of_le a (Nat.pow_le_pow_right (by omega) (by omega))
    rw [Nat.div_eq_of_lt a, Nat.div_eq_of_lt b]

/-- a rung's number, cut towards 0 -/
def tr (r : Nat) : Nat := mg r * 2 ^ (ex r - 1074) / 2 ^ (1074 - ex r)
theorem toInt_num {a : Nat} (h : rg a < 9218868437227405312) : (double.read a).toInt .zero = some (if sg a then -(tr (rg a) : Int) else tr (rg a)) := by
  rw [read_num h]
  unfold Datum.toInt Datum.integral
  simp only [Option.some.injEq]
  unfold signed
  have e1 : (-1074 + (ex (rg a) : Int)).toNat = ex (rg a) - 1074 := by omega
  have e2 : (-(-1074 + (ex (rg a) : Int))).toNat = 1074 - ex (rg a) := by omega
  rw [e1, e2, cut_zero, Nat.shiftLeft_zero, Nat.shiftLeft_eq]
  rfl

theorem tr_small {r : Nat} (h : r < 4607182418800017408) : tr r = 0 := by
  unfold tr
  have he : ex r ≤ 1021 := by unfold ex; omega
  have : ex r - 1074 = 0 := by omega
  rw [this, Nat.pow_zero, Nat.mul_one]
  refine Nat.div_eq_of_lt (Nat.lt_of_lt_of_le (mg_lt r) ?_)
  exact Nat.pow_le_pow_right (i := 53) (n := 2) (by omega) (by omega)
theorem tr_big {r : Nat} (h : r < 4890909195324358656) : tr r < 9223372036854775808 := by
  unfold tr
  have he : ex r ≤ 1084 := by unfold ex; omega
  refine Nat.lt_of_le_of_lt (Nat.div_le_self _ _) ?_
  have p : 2 ^ (ex r - 1074) ≤ 1024 := Nat.pow_le_pow_right (j := 10) (n := 2) (by omega) (by omega)
  have m := mg_lt r
  have : mg r * 2 ^ (ex r - 1074) ≤ mg r * 1024 := Nat.mul_le_mul_left _ p
  omega

/-- a word as a whole number -/
def tI (a : Nat) : Nat :=
  if nn a || decide (rg a < 4607182418800017408) then 0
  else if 4890909195324358656 ≤ rg a then (if sg a then 9223372036854775808 else 9223372036854775807)
  else if sg a then (18446744073709551616 - tr (rg a)) % 18446744073709551616 else tr (rg a)

theorem tI_lt (a : Nat) : tI a < 18446744073709551616 := by
  unfold tI
  split
  · omega
  · split
    · split <;> omega
    · rename_i h; have := tr_big (r := rg a) (by omega); split <;> omega

/- a whole number as a word -/
theorem cut_even (n k : Nat) (way : Bool) (h : k ≤ n.log2 + 2) : Toward.even.cut way n k = n / 2 ^ k + (decide (2 ^ k < 2 * (n % 2 ^ k)) || (2 ^ k == 2 * (n % 2 ^ k) && n / 2 ^ k % 2 == 1)).toNat := by
  unfold Toward.cut
  simp only [Nat.one_shiftLeft, Nat.min_eq_left h]

/-- the rung of a whole number that is not 0 -/
def up (m : Nat) : Nat :=
  if m.log2 ≤ 52 then (m.log2 + 1022) * 4503599627370496 + m * 2 ^ (52 - m.log2)
  else (m.log2 + 1022) * 4503599627370496 + (m / 2 ^ (m.log2 - 52) + (decide (2 ^ (m.log2 - 52) < 2 * (m % 2 ^ (m.log2 - 52))) || (2 ^ (m.log2 - 52) == 2 * (m % 2 ^ (m.log2 - 52)) && m / 2 ^ (m.log2 - 52) % 2 == 1)).toNat)

theorem digits {m : Nat} (h0 : m ≠ 0) : 2 ^ m.log2 ≤ m ∧ m < 2 ^ (m.log2 + 1) := (Nat.log2_eq_iff h0).1 rfl

theorem low_bounds {m : Nat} (h0 : m ≠ 0) (h : m.log2 ≤ 52) : 4503599627370496 ≤ m * 2 ^ (52 - m.log2) ∧ m * 2 ^ (52 - m.log2) < 9007199254740992 := by
  obtain ⟨a, b⟩ := digits h0
  constructor
  · have : 2 ^ m.log2 * 2 ^ (52 - m.log2) ≤ m * 2 ^ (52 - m.log2) := Nat.mul_le_mul_right _ a
    rw [← Nat.pow_add, show m.log2 + (52 - m.log2) = 52 by omega] at this
    exact this
  · have : m * 2 ^ (52 - m.log2) < 2 ^ (m.log2 + 1) * 2 ^ (52 - m.log2) := Nat.mul_lt_mul_of_pos_right b (Nat.two_pow_pos _)
    rw [← Nat.pow_add, show m.log2 + 1 + (52 - m.log2) = 53 by omega] at this
    exact this
theorem high_bounds {m : Nat} (h0 : m ≠ 0) (h : ¬ m.log2 ≤ 52) : 4503599627370496 ≤ m / 2 ^ (m.log2 - 52) ∧ m / 2 ^ (m.log2 - 52) < 9007199254740992 := by
  obtain ⟨a, b⟩ := digits h0
  have hp : 0 < 2 ^ (m.log2 - 52) := Nat.two_pow_pos _
  constructor
  · rw [Nat.le_div_iff_mul_le hp, show (4503599627370496 : Nat) = 2 ^ 52 by decide, ← Nat.pow_add, show 52 + (m.log2 - 52) = m.log2 by omega]
    exact a
  · rw [Nat.div_lt_iff_lt_mul hp, show (9007199254740992 : Nat) = 2 ^ 53 by decide, ← Nat.pow_add, show 53 + (m.log2 - 52) = m.log2 + 1 by omega]
    exact b

theorem log2_lt64 {m : Nat} (h0 : m ≠ 0) (h : m < 18446744073709551616) : m.log2 ≤ 63 := by
  have := (Nat.log2_lt (k := 64) h0).2 h
  omega

theorem toNat_le (b : Bool) : b.toNat ≤ 1 := by cases b <;> decide

theorem up_lt {m : Nat} (h0 : m ≠ 0) (h : m < 18446744073709551616) : up m < 9218868437227405312 := by
  have hl := log2_lt64 h0 h
  unfold up
  split
  · rename_i h1
    have := low_bounds h0 h1
    omega
  · rename_i h1
    have := high_bounds h0 h1
    have t := toNat_le (decide (2 ^ (m.log2 - 52) < 2 * (m % 2 ^ (m.log2 - 52))) || (2 ^ (m.log2 - 52) == 2 * (m % 2 ^ (m.log2 - 52)) && m / 2 ^ (m.log2 - 52) % 2 == 1))
    omega

theorem nearest_int (s : Bool) {m : Nat} (h0 : m ≠ 0) (h : m < 18446744073709551616) : double.nearest s m 0 = double.word s (up m) := by
  have hl := log2_lt64 h0 h
  have hu := up_lt h0 h
  unfold Format.nearest
  rw [if_neg h0]
  simp only [lp, fb, bi, inf]
  have e0 : max ((0 : Int) + (m.log2 : Int) - (52 : Nat)) (-1074) = (m.log2 : Int) - 52 := by omega
  rw [e0]
  have e3 : ((m.log2 : Int) - 52 - (-1074)).toNat = m.log2 + 1022 := by omega
  rw [e3]
  unfold up at hu ⊢
  by_cases h1 : m.log2 ≤ 52
  · rw [if_pos h1] at hu ⊢
    have e1 : ((0 : Int) - ((m.log2 : Int) - 52)).toNat = 52 - m.log2 := by omega
    have e2 : ((m.log2 : Int) - 52 - 0).toNat = 0 := by omega
    rw [e1, e2, Nat.shiftLeft_eq]
    have c := cut_whole (m * 2 ^ (52 - m.log2)) 0 s
    rw [Nat.pow_zero, Nat.mul_one] at c
    rw [c, Nat.min_eq_left (by omega)]
  · rw [if_neg h1] at hu ⊢
    have e1 : ((0 : Int) - ((m.log2 : Int) - 52)).toNat = 0 := by omega
    have e2 : ((m.log2 : Int) - 52 - 0).toNat = m.log2 - 52 := by omega
    rw [e1, e2, Nat.shiftLeft_zero, cut_even m _ s (by omega), Nat.min_eq_left (by omega)]

/-- small whole numbers come back -/
theorem back_small (s : Bool) {m : Nat} (h0 : m ≠ 0) (h : m ≤ 2147483648) : tI (double.word s (up m)) = if s then 18446744073709551616 - m else m := by
  have hl : m.log2 ≤ 31 := by
    have := (Nat.log2_lt (k := 32) h0).2 (by omega)
    omega
  obtain ⟨b1, b2⟩ := low_bounds h0 (by omega)
  have hu : up m = (m.log2 + 1022) * 4503599627370496 + m * 2 ^ (52 - m.log2) := by unfold up; rw [if_pos (by omega)]
  have hul : up m < 9223372036854775808 := by rw [hu]; omega
  have hex : ex (up m) = m.log2 + 1022 := by unfold ex; rw [hu]; omega
  have hmg : mg (up m) = m * 2 ^ (52 - m.log2) := by unfold mg; rw [hu]; rw [if_neg (by omega)]; omega
  have htr : tr (up m) = m := by
    unfold tr
    rw [hex, hmg, show m.log2 + 1022 - 1074 = 0 by omega, show 1074 - (m.log2 + 1022) = 52 - m.log2 by omega, Nat.pow_zero, Nat.mul_one]
    exact Nat.mul_div_cancel _ (Nat.two_pow_pos _)
  unfold tI nn
  rw [rg_word s hul, sg_word s hul, htr]
  rw [if_neg (by simp only [Bool.or_eq_true, decide_eq_true_eq]; omega), if_neg (by omega)]
  cases s
  · rfl
  · simp only [if_true]; omega

/-- a whole number with a sign (as a word of 64 bits) as a word -/
def tF (a : Nat) : Nat :=
  if a = 0 then 0 else if 9223372036854775808 ≤ a then double.word true (up (18446744073709551616 - a)) else double.word false (up a)

theorem tF_nearest {a : Nat} (h : a < 18446744073709551616) (n : Int) (hn : n = if 9223372036854775808 ≤ a then (a : Int) - 18446744073709551616 else a) : double.nearest (decide (n < 0)) n.natAbs 0 = tF a := by
  unfold tF
  by_cases h0 : a = 0
  · subst h0; rw [if_pos rfl]; subst hn; decide
  · rw [if_neg h0]
    by_cases h1 : 9223372036854775808 ≤ a
    · rw [if_pos h1] at hn ⊢
      have e1 : decide (n < 0) = true := by rw [decide_eq_true_iff]; omega
      have e2 : n.natAbs = 18446744073709551616 - a := by omega
      rw [e1, e2, nearest_int true (by omega) (by omega)]
    · rw [if_neg h1] at hn ⊢
      have e1 : decide (n < 0) = false := by rw [decide_eq_false_iff_not]; omega
      have e2 : n.natAbs = a := by omega
      rw [e1, e2, nearest_int false (by omega) (by omega)]
theorem nn_tF {a : Nat} (h : a < 18446744073709551616) : nn (tF a) = false ∧ tF a < 18446744073709551616 := by
  rw [← tF_nearest h _ rfl]
  exact nn_nearest _ _ _

/- a word as a whole number, by the machine's own -/
theorem far_ge {a : Nat} (na : nn a = false) : (lt 4890909195324358656 a || eq a 4890909195324358656) = decide (4890909195324358656 ≤ key a) := by
  unfold lt eq
  rw [na, show nn 4890909195324358656 = false by decide, show key 4890909195324358656 = 4890909195324358656 by decide]
  rw [Bool.eq_iff_iff]
  simp only [Bool.not_false, Bool.true_and, Bool.or_eq_true, decide_eq_true_eq]
  omega
theorem near_lt {a : Nat} (na : nn a = false) : lt a 14114281232179134464 = decide (key a < -4890909195324358656) := by
  unfold lt
  rw [na, show nn 14114281232179134464 = false by decide, show key 14114281232179134464 = -4890909195324358656 by decide]
  rfl
theorem tI_far {a : Nat} (na : nn a = false) (h : 4890909195324358656 ≤ key a) : tI a = 9223372036854775807 := by
  unfold key at h
  unfold tI
  cases hs : sg a <;> rw [hs] at h <;> simp only [Bool.false_eq_true, if_false, if_true] at h
  · rw [na, if_neg (by simp only [Bool.false_or, decide_eq_true_eq]; omega), if_pos (by omega)]; rfl
  · omega
theorem tI_near {a : Nat} (na : nn a = false) (h : key a < -4890909195324358656) : tI a = 9223372036854775808 := by
  unfold key at h
  unfold tI
  cases hs : sg a <;> rw [hs] at h <;> simp only [Bool.false_eq_true, if_false, if_true] at h
  · omega
  · rw [na, if_neg (by simp only [Bool.false_or, decide_eq_true_eq]; omega), if_pos (by omega)]; rfl
theorem tI_nan {a : Nat} (na : nn a = true) : tI a = 0 := by unfold tI; rw [na]; rfl
theorem tr_edge : tr 4890909195324358656 = 9223372036854775808 := by decide

theorem tI_small {a : Nat} (na : nn a = false) (h : rg a < 4607182418800017408) : tI a = 0 := by unfold tI; rw [na, if_pos (by simpa using h)]
theorem tI_mid {a : Nat} (na : nn a = false) (h : ¬ rg a < 4607182418800017408) (hb : rg a < 4890909195324358656) : tI a = if sg a then (18446744073709551616 - tr (rg a)) % 18446744073709551616 else tr (rg a) := by
  unfold tI; rw [na, if_neg (by simpa using h), if_neg (by omega)]
theorem tI_top {a : Nat} (na : nn a = false) (hs : sg a = true) (hb : ¬ rg a < 4890909195324358656) : tI a = 9223372036854775808 := by
  unfold tI; rw [na, if_neg (by simp only [Bool.false_or, decide_eq_true_eq]; omega), if_pos (by omega), hs]; rfl

theorem toInt_val {a : Nat} (na : nn a = false) (h1 : ¬ 4890909195324358656 ≤ key a) (h2 : ¬ key a < -4890909195324358656) :
    ∃ n : Int, Go.floatToIntVal .f64 a .i64 = some n ∧ n % 18446744073709551616 = (tI a : Int) := by
  have hr : rg a < 9218868437227405312 := by
    unfold key at h1 h2
    cases hs : sg a <;> rw [hs] at h1 h2 <;> simp only [Bool.false_eq_true, if_false, if_true] at h1 h2 <;> omega
  refine ⟨if sg a then -(tr (rg a) : Int) else tr (rg a), ?_, ?_⟩
  · unfold Go.floatToIntVal
    rw [show (Go.FloatKind.f64.decode a).toInt .zero = some (if sg a then -(tr (rg a) : Int) else tr (rg a)) from toInt_num hr]
    simp only
    rw [if_pos]
    rw [show Go.IntKind.i64.min = -9223372036854775808 by decide, show Go.IntKind.i64.max = 9223372036854775807 by decide]
    by_cases hb : rg a < 4890909195324358656
    · have := tr_big hb
      split <;> omega
    · unfold key at h1 h2
      cases hs : sg a <;> rw [hs] at h1 h2 <;> simp only [Bool.false_eq_true, if_false, if_true] at h1 h2 ⊢
      · omega
      · have : rg a = 4890909195324358656 := by omega
        rw [this, tr_edge]; omega
  · by_cases h3 : rg a < 4607182418800017408
    · rw [tr_small h3, tI_small na h3]; cases sg a <;> rfl
    · by_cases hb : rg a < 4890909195324358656
      · have := tr_big hb
        rw [tI_mid na h3 hb]
        cases sg a <;> simp only [Bool.false_eq_true, if_false, if_true] <;> omega
      · unfold key at h1 h2
        cases hs : sg a <;> rw [hs] at h1 h2 <;> simp only [Bool.false_eq_true, if_false, if_true] at h1 h2 ⊢
        · omega
        · rw [tI_top na hs hb]
          have : rg a = 4890909195324358656 := by omega
          rw [this, tr_edge]; decide

/- the same by fields -/
theorem tr_left {r P W : Nat} (hP : P = r / 4503599627370496) (hW : W = 4503599627370496 + r % 4503599627370496) (h : 1075 < P) : W * 2 ^ (P - 1023 - 52) = tr r := by
  unfold tr
  have e1 : ex r - 1074 = P - 1023 - 52 := by unfold ex; omega
  have e2 : 1074 - ex r = 0 := by unfold ex; omega
  have e3 : mg r = W := by unfold mg; rw [if_neg (by omega)]; omega
  rw [e1, e2, e3, Nat.pow_zero, Nat.div_one]
theorem tr_right {r P W : Nat} (hP : P = r / 4503599627370496) (hW : W = 4503599627370496 + r % 4503599627370496) (h : 1023 ≤ P) (h2 : P ≤ 1075) : W / 2 ^ (52 - (P - 1023)) = tr r := by
  unfold tr
  have e1 : ex r - 1074 = 0 := by unfold ex; omega
  have e2 : 1074 - ex r = 52 - (P - 1023) := by unfold ex; omega
  have e3 : mg r = W := by unfold mg; rw [if_neg (by omega)]; omega
  rw [e1, e2, e3, Nat.pow_zero, Nat.mul_one]

theorem up_low {m k : Nat} (hk : m.log2 = k) (h : k ≤ 52) : up m = (k + 1022) * 4503599627370496 + m * 2 ^ (52 - k) := by
  unfold up; rw [hk, if_pos h]
theorem up_high {m k Q R H : Nat} (hk : m.log2 = k) (h : 52 < k) (hQ : Q = m / 2 ^ (k - 52)) (hR : R = m % 2 ^ (k - 52)) (hH : H = 2 ^ (k - 52 - 1)) :
    up m = (k + 1022) * 4503599627370496 + (Q + if H < R ∨ (R = H ∧ Q % 2 = 1) then 1 else 0) := by
  unfold up
  rw [hk, if_neg (by omega), ← hQ, ← hR]
  have e : 2 ^ (k - 52) = 2 * H := by rw [hH, ← Nat.pow_succ']; congr 1; omega
  rw [e]
  congr 2
  by_cases c1 : H < R
  · rw [if_pos (.inl c1), decide_eq_true (show 2 * H < 2 * R by omega)]; rfl
  · rw [decide_eq_false (show ¬ 2 * H < 2 * R by omega), Bool.false_or]
    by_cases c2 : R = H
    · by_cases c3 : Q % 2 = 1
      · rw [if_pos (.inr ⟨c2, c3⟩), c2, c3]; simp
      · rw [if_neg (by omega), c2]; have : (Q % 2 == 1) = false := by rw [beq_eq_false_iff_ne]; exact c3
        rw [this]; simp
    · rw [if_neg (by omega)]; have : (2 * H == 2 * R) = false := by rw [beq_eq_false_iff_ne]; omega
      rw [this]; rfl

theorem nMin_comm {a b : Nat} (ha : a < 18446744073709551616) (hb : b < 18446744073709551616) : nMin a b = nMin b a := by
  cases na : nn a
  · cases nb : nn b
    · rw [nMin_rk ha hb na nb, nMin_rk hb ha nb na]
      by_cases h1 : rk a < rk b
      · rw [if_pos h1, if_neg (by omega)]
      · rw [if_neg h1]
        by_cases h2 : rk b < rk a
        · rw [if_pos h2]
        · rw [if_neg h2]; exact (rk_inj ha hb (by omega)).symm
    · unfold nMin; rw [na, nb]; rfl
  · unfold nMin; rw [na, Bool.true_or, Bool.or_true]; rfl
theorem nMax_comm {a b : Nat} (ha : a < 18446744073709551616) (hb : b < 18446744073709551616) : nMax a b = nMax b a := by
  cases na : nn a
  · cases nb : nn b
    · rw [nMax_rk ha hb na nb, nMax_rk hb ha nb na]
      by_cases h1 : rk a < rk b
      · rw [if_pos h1, if_neg (by omega)]
      · rw [if_neg h1]
        by_cases h2 : rk b < rk a
        · rw [if_pos h2]
        · rw [if_neg h2]; exact (rk_inj ha hb (by omega)).symm
    · unfold nMax; rw [na, nb]; rfl
  · unfold nMax; rw [na, Bool.true_or, Bool.or_true]; rfl

/- edges -/
theorem lt_none {a b : Nat} (h : nn a = true ∨ nn b = true) : lt a b = false := by
  unfold lt
  rcases h with h | h <;> rw [h]
  · rfl
  · rw [Bool.not_true, Bool.and_false]; rfl
theorem lt_self (a : Nat) : lt a a = false := by unfold lt; simp
theorem nMin_none {a b : Nat} (h : nn b = true) : nMin a b = 9221120237041090560 := by unfold nMin; rw [h, Bool.or_true]; rfl
theorem kd_lt {a : Nat} : kd a < 2 ↔ rg a < 9218868437227405312 := by
  unfold kd
  by_cases h1 : rg a = 0
  · rw [if_pos h1]; omega
  · rw [if_neg h1]; by_cases h2 : rg a = 9218868437227405312
    · rw [if_pos h2]; omega
    · rw [if_neg h2]; by_cases h3 : 9218868437227405312 < rg a
      · rw [if_pos h3]; omega
      · rw [if_neg h3]; omega
theorem nn_of_lt {a : Nat} (h : rg a < 9218868437227405312) : nn a = false := by unfold nn; rw [decide_eq_false_iff_not]; omega
theorem lt_far {a : Nat} (h : rg a < 9218868437227405312) : lt a 9218868437227405312 = true := by
  unfold lt
  rw [nn_of_lt h, show nn 9218868437227405312 = false by decide, show key 9218868437227405312 = 9218868437227405312 by decide]
  unfold key; simp only [Bool.not_false, Bool.true_and, decide_eq_true_eq]; split <;> omega
theorem lt_near {a : Nat} (h : rg a < 9218868437227405312) : lt 18442240474082181120 a = true := by
  unfold lt
  rw [nn_of_lt h, show nn 18442240474082181120 = false by decide, show key 18442240474082181120 = -9218868437227405312 by decide]
  unfold key; simp only [Bool.not_false, Bool.true_and, decide_eq_true_eq]; split <;> omega
theorem eq_of_lt {a b : Nat} (h : lt a b = true) : eq a b = false := by
  unfold lt at h; unfold eq
  simp only [Bool.and_eq_true, decide_eq_true_eq] at h
  rw [h.1.1, h.1.2]; simp only [Bool.true_and, decide_eq_false_iff_not]; omega
theorem bef_of_lt {a b : Nat} (h : lt a b = true) : bef a b = true := by unfold bef; rw [eq_of_lt h, h]; rfl
theorem nMax_of_lt {a b : Nat} (h : lt a b = true) : nMax a b = b := by
  have h' := h
  unfold lt at h'
  simp only [Bool.and_eq_true, Bool.not_eq_true', decide_eq_true_eq] at h'
  unfold nMax; rw [h'.1.1, h'.1.2, bef_of_lt h]; rfl
theorem nMin_of_lt {a b : Nat} (h : lt a b = true) : nMin a b = a := by
  have h' := h
  unfold lt at h'
  simp only [Bool.and_eq_true, Bool.not_eq_true', decide_eq_true_eq] at h'
  unfold nMin; rw [h'.1.1, h'.1.2, bef_of_lt h]; rfl

/-- small whole numbers come back -/
theorem back_any {u : Nat} (n : Int) (h1 : -2147483648 ≤ n) (h2 : n ≤ 2147483647) (hu : (u : Int) = n % 18446744073709551616) : tI (tF u) = u := by
  unfold tF
  by_cases h0 : u = 0
  · subst h0; rw [if_pos rfl]; decide
  · rw [if_neg h0]
    by_cases h3 : 9223372036854775808 ≤ u
    · rw [if_pos h3, back_small true (by omega) (by omega)]; simp only [if_true]; omega
    · rw [if_neg h3, back_small false (by omega) (by omega)]; rfl

/- order -/
theorem lt_trans {a b c : Nat} (h1 : lt a b = true) (h2 : lt b c = true) : lt a c = true := by
  unfold lt at *
  simp only [Bool.and_eq_true, decide_eq_true_eq] at *
  exact ⟨⟨h1.1.1, h2.1.2⟩, by omega⟩
theorem lt_asymm {a b : Nat} (h : lt a b = true) : lt b a = false := by
  unfold lt at *
  simp only [Bool.and_eq_true, decide_eq_true_eq] at h
  rw [h.1.1, h.1.2]; simp only [Bool.true_and, decide_eq_false_iff_not]; omega
theorem alike_of {a b : Nat} (ha : a < 18446744073709551616) (hb : b < 18446744073709551616) (na : nn a = false) (nb : nn b = false) (h1 : lt a b = false) (h2 : lt b a = false) : a = b ∨ (rg a = 0 ∧ rg b = 0) := by
  unfold lt key at h1 h2
  rw [na, nb] at h1 h2
  simp only [Bool.not_false, Bool.true_and, decide_eq_false_iff_not] at h1 h2
  rcases split_word ha with ⟨s, r, l⟩ | ⟨s, r, l⟩ <;> rcases split_word hb with ⟨s2, r2, l2⟩ | ⟨s2, r2, l2⟩ <;> rw [s, s2, r, r2] at h1 h2 <;> rw [r, r2] <;> simp only [Bool.false_eq_true, if_false, if_true] at h1 h2 <;> omega
theorem not_both {a b : Nat} (h : lt a b = true) : ¬ (rg a = 0 ∧ rg b = 0) := by
  unfold lt key at h
  simp only [Bool.and_eq_true, decide_eq_true_eq] at h
  intro ⟨x, y⟩
  rw [x, y] at h
  have := h.2
  split at this <;> split at this <;> omega
theorem ne_of_lt {a b : Nat} (h : lt a b = true) : a ≠ b := by intro e; subst e; rw [lt_self] at h; cases h

end Dk
