/- Facts on words of 64 bits with a point, as the model's Ieee reads and writes them: how two words stand to each other by their bits, and which words come back as they are. -/
import Ieee.Arith
import Derived.Laws.FloatBits
namespace Dk
open Ieee

theorem sw : Ieee.double.signWeight = 9223372036854775808 := by decide
theorem bi : Ieee.double.binade = 4503599627370496 := by decide
theorem inf : Ieee.double.infRung = 9218868437227405312 := by decide
theorem lp : Ieee.double.leastPlace = -1074 := by decide
theorem fb : Ieee.double.fractionBits = 52 := rfl

/-- the sign of a word -/
def sg (a : Nat) : Bool := a / 9223372036854775808 % 2 == 1
/-- the rung of a word -/
def rg (a : Nat) : Nat := a % 9223372036854775808
/-- how many places up a rung's digits stand -/
def ex (r : Nat) : Nat := r / 4503599627370496 - 1
/-- a rung's digits -/
def mg (r : Nat) : Nat := if r < 4503599627370496 then r else 4503599627370496 + r % 4503599627370496
/-- a rung's number, in units of the least one -/
def vl (r : Nat) : Nat := mg r * 2 ^ ex r
/-- no number -/
def nn (a : Nat) : Bool := decide (9218868437227405312 < rg a)
/-- a word's place among all numbers, both noughts being one -/
def key (a : Nat) : Int := if sg a then -(rg a : Int) else rg a

theorem read_num {a : Nat} (h : rg a < 9218868437227405312) : double.read a = .number (sg a) (mg (rg a)) (-1074 + (ex (rg a) : Int)) := by
  unfold Format.read
  simp only [sw, bi, inf, lp]
  unfold sg mg ex
  unfold rg at *
  by_cases h1 : a % 9223372036854775808 < 4503599627370496
  · rw [if_pos h1, if_pos h1]
    have : a % 9223372036854775808 / 4503599627370496 - 1 = 0 := by omega
    rw [this]; rfl
  · rw [if_neg h1, if_neg h1, if_pos h]

theorem read_inf {a : Nat} (h : rg a = 9218868437227405312) : double.read a = .infinity (sg a) := by
  unfold Format.read
  simp only [sw, bi, inf, lp]
  unfold sg
  unfold rg at *
  rw [if_neg (by omega), if_neg (by omega), if_pos h]

theorem read_nan {a : Nat} (h : 9218868437227405312 < rg a) : double.read a = .nan (sg a) (rg a - 9218868437227405312) := by
  unfold Format.read
  simp only [sw, bi, inf, lp]
  unfold sg
  unfold rg at *
  rw [if_neg (by omega), if_neg (by omega), if_neg (by omega)]

theorem mg_lt (r : Nat) : mg r < 9007199254740992 := by unfold mg; split <;> omega
theorem mg_ge {r : Nat} (h : 4503599627370496 ≤ r) : 4503599627370496 ≤ mg r := by unfold mg; rw [if_neg (by omega)]; omega

theorem vl_mono {r s : Nat} (h : r < s) : vl r < vl s := by
  unfold vl
  have he : ex r ≤ ex s := by unfold ex; omega
  by_cases h2 : ex r = ex s
  · rw [h2]
    refine Nat.mul_lt_mul_of_pos_right ?_ (Nat.two_pow_pos _)
    unfold ex at h2
    unfold mg
    split <;> split <;> omega
  · have h3 : ex r < ex s := by omega
    obtain ⟨k, hk⟩ : ∃ k, ex s = ex r + (k + 1) := ⟨ex s - ex r - 1, by omega⟩
    have hs : 4503599627370496 ≤ mg s := mg_ge (by unfold ex at h3; omega)
    have hr := mg_lt r
    rw [hk, Nat.pow_add, Nat.pow_succ]
    have p1 : 0 < 2 ^ ex r := Nat.two_pow_pos _
    have p2 : 0 < 2 ^ k := Nat.two_pow_pos _
    have q : 9007199254740992 ≤ mg s * (2 ^ k * 2) := by
      have : 4503599627370496 * 2 ≤ mg s * (2 ^ k * 2) := Nat.mul_le_mul hs (by omega)
      omega
    have e : mg s * (2 ^ ex r * (2 ^ k * 2)) = (mg s * (2 ^ k * 2)) * 2 ^ ex r := by
      rw [Nat.mul_comm (2 ^ ex r), ← Nat.mul_assoc]
    rw [e]
    exact Nat.mul_lt_mul_of_pos_right (by omega) p1

theorem vl_lt_iff (r s : Nat) : vl r < vl s ↔ r < s := by
  constructor
  · intro h
    by_cases h1 : r < s
    · exact h1
    · by_cases h2 : r = s
      · subst h2; omega
      · have := vl_mono (show s < r by omega); omega
  · exact vl_mono

theorem vl_zero : vl 0 = 0 := by decide
theorem vl_eq_iff (r s : Nat) : vl r = vl s ↔ r = s := by
  constructor
  · intro h
    have a := vl_lt_iff r s
    have b := vl_lt_iff s r
    omega
  · intro h; rw [h]

/-- two rungs' digits, brought to one place, stand to each other as the rungs do -/
theorem scaled (r s : Nat) : ∃ X Y : Nat, mg r <<< (ex r - min (ex r) (ex s)) = X ∧ mg s <<< (ex s - min (ex r) (ex s)) = Y ∧ (X < Y ↔ r < s) ∧ (X = Y ↔ r = s) ∧ (X = 0 ↔ r = 0) ∧ (Y = 0 ↔ s = 0) := by
  refine ⟨_, _, rfl, rfl, ?_⟩
  rw [Nat.shiftLeft_eq, Nat.shiftLeft_eq]
  generalize hb : min (ex r) (ex s) = b
  have hP : 0 < 2 ^ b := Nat.two_pow_pos _
  have e1 : mg r * 2 ^ (ex r - b) * 2 ^ b = vl r := by
    unfold vl; rw [Nat.mul_assoc, ← Nat.pow_add]; congr 2; omega
  have e2 : mg s * 2 ^ (ex s - b) * 2 ^ b = vl s := by
    unfold vl; rw [Nat.mul_assoc, ← Nat.pow_add]; congr 2; omega
  generalize mg r * 2 ^ (ex r - b) = X at *
  generalize mg s * 2 ^ (ex s - b) = Y at *
  have l1 : X < Y ↔ vl r < vl s := by
    rw [← e1, ← e2]; exact (Nat.mul_lt_mul_right hP).symm
  have l2 : X = Y ↔ vl r = vl s := by
    rw [← e1, ← e2]; constructor
    · intro h; rw [h]
    · intro h; exact Nat.eq_of_mul_eq_mul_right hP h
  have l3 : X = 0 ↔ vl r = vl 0 := by
    rw [vl_zero, ← e1]; constructor
    · intro h; rw [h, Nat.zero_mul]
    · intro h; rcases Nat.mul_eq_zero.1 h with h | h
      · exact h
      · omega
  have l4 : Y = 0 ↔ vl s = vl 0 := by
    rw [vl_zero, ← e2]; constructor
    · intro h; rw [h, Nat.zero_mul]
    · intro h; rcases Nat.mul_eq_zero.1 h with h | h
      · exact h
      · omega
  rw [vl_lt_iff] at l1
  rw [vl_eq_iff] at l2 l3 l4
  exact ⟨l1, l2, l3, l4⟩

/-- how words of numbers stand to each other -/
theorem order_cmp {a b : Nat} (ha : nn a = false) (hb : nn b = false) : double.order a b = some (compare (key a) (key b)) := by
  unfold nn at ha hb
  have ha' : rg a ≤ 9218868437227405312 := by simpa using ha
  have hb' : rg b ≤ 9218868437227405312 := by simpa using hb
  have cmp : ∀ x y u v : Int, (x < y ↔ u < v) → (x = y ↔ u = v) → compare x y = compare u v := by
    intro x y u v h1 h2
    simp only [compare, compareOfLessAndEq, h1, h2]
  unfold Format.order key
  by_cases h1 : rg a < 9218868437227405312
  · by_cases h2 : rg b < 9218868437227405312
    · rw [read_num h1, read_num h2]
      unfold Datum.order
      simp only [Option.some.injEq]
      obtain ⟨X, Y, hX, hY, l1, l2, l3, l4⟩ := scaled (rg a) (rg b)
      have e1 : ((-1074 + (ex (rg a) : Int)) - min (-1074 + (ex (rg a) : Int)) (-1074 + (ex (rg b) : Int))).toNat = ex (rg a) - min (ex (rg a)) (ex (rg b)) := by omega
      have e2 : ((-1074 + (ex (rg b) : Int)) - min (-1074 + (ex (rg a) : Int)) (-1074 + (ex (rg b) : Int))).toNat = ex (rg b) - min (ex (rg a)) (ex (rg b)) := by omega
      rw [e1, e2]
      unfold signed
      rw [hX, hY]
      apply cmp <;> split <;> split <;> omega
    · have h2' : rg b = 9218868437227405312 := by omega
      rw [read_num h1, read_inf h2']
      unfold Datum.order
      cases hs : sg b
      · simp only [Bool.false_eq_true, if_false, Option.some.injEq]
        symm; rw [compare, instOrdInt]; simp only [compareOfLessAndEq]
        rw [if_pos (by split <;> omega)]
      · simp only [if_true, Option.some.injEq]
        symm; rw [compare, instOrdInt]; simp only [compareOfLessAndEq]
        rw [if_neg (by split <;> omega), if_neg (by split <;> omega)]
  · have h1' : rg a = 9218868437227405312 := by omega
    by_cases h2 : rg b < 9218868437227405312
    · rw [read_inf h1', read_num h2]
      unfold Datum.order
      cases hs : sg a
      · simp only [Bool.false_eq_true, if_false, Option.some.injEq]
        symm; rw [compare, instOrdInt]; simp only [compareOfLessAndEq]
        rw [if_neg (by split <;> omega), if_neg (by split <;> omega)]
      · simp only [if_true, Option.some.injEq]
        symm; rw [compare, instOrdInt]; simp only [compareOfLessAndEq]
        rw [if_pos (by split <;> omega)]
    · have h2' : rg b = 9218868437227405312 := by omega
      rw [read_inf h1', read_inf h2', h1', h2']
      unfold Datum.order
      cases sg a <;> cases sg b <;> decide

theorem order_none {a b : Nat} (h : nn a = true ∨ nn b = true) : double.order a b = none := by
  unfold nn at h
  unfold Format.order
  by_cases ha : 9218868437227405312 < rg a
  · rw [read_nan ha]; rfl
  · have hb : 9218868437227405312 < rg b := by
      rcases h with h | h
      · exact absurd (of_decide_eq_true h) ha
      · exact of_decide_eq_true h
    rw [read_nan hb]
    cases double.read a <;> rfl


/- what is written -/
theorem word_eq (s : Bool) (r : Nat) : double.word s r = if s then 9223372036854775808 + r else r := by unfold Format.word; rw [sw]

theorem word_back {a : Nat} (h : a < 18446744073709551616) : double.word (sg a) (rg a) = a := by
  rw [word_eq]; unfold sg rg
  by_cases h1 : a / 9223372036854775808 % 2 = 1
  · simp only [h1, BEq.rfl, if_true]; omega
  · have : (a / 9223372036854775808 % 2 == 1) = false := by simpa using h1
    rw [this]; simp only [Bool.false_eq_true, if_false]; omega

theorem sg_word (s : Bool) {r : Nat} (h : r < 9223372036854775808) : sg (double.word s r) = s := by
  rw [word_eq]; unfold sg
  cases s
  · simp only [Bool.false_eq_true, if_false]; have : r / 9223372036854775808 = 0 := by omega
    rw [this]; rfl
  · simp only [if_true]; have : (9223372036854775808 + r) / 9223372036854775808 = 1 := by omega
    rw [this]; rfl

theorem rg_word (s : Bool) {r : Nat} (h : r < 9223372036854775808) : rg (double.word s r) = r := by
  rw [word_eq]; unfold rg
  cases s
  · simp only [Bool.false_eq_true, if_false]; omega
  · simp only [if_true]; omega

theorem log2_up {n : Nat} (k : Nat) (h : n ≠ 0) : (n * 2 ^ k).log2 = n.log2 + k := by
  have hp : 0 < 2 ^ k := Nat.two_pow_pos _
  have hne : n * 2 ^ k ≠ 0 := by
    intro h1; rcases Nat.mul_eq_zero.1 h1 with h1 | h1 <;> omega
  rw [Nat.log2_eq_iff hne]
  have a := (Nat.log2_eq_iff (k := n.log2) h).1 rfl
  constructor
  · rw [Nat.pow_add]; exact Nat.mul_le_mul_right _ a.1
  · have e : 2 ^ (n.log2 + k + 1) = 2 ^ (n.log2 + 1) * 2 ^ k := by rw [← Nat.pow_add]; congr 1; omega
    rw [e]; exact Nat.mul_lt_mul_of_pos_right a.2 hp

theorem cut_whole (n k : Nat) (way : Bool) : Toward.even.cut way (n * 2 ^ k) k = n := by
  unfold Toward.cut
  by_cases h0 : n = 0
  · subst h0; simp
  · have hl : (n * 2 ^ k).log2 = n.log2 + k := by
      rw [log2_up k h0]
    have hm : min k ((n * 2 ^ k).log2 + 2) = k := by rw [hl]; omega
    simp only [hm, Nat.one_shiftLeft]
    have hp : 0 < 2 ^ k := Nat.two_pow_pos _
    have h1 : n * 2 ^ k / 2 ^ k = n := Nat.mul_div_cancel _ hp
    have h2 : n * 2 ^ k % 2 ^ k = 0 := Nat.mul_mod_left _ _
    rw [h1, h2]
    have : ¬ 2 ^ k < 2 * 0 := by omega
    have h3 : (2 ^ k == 2 * 0) = false := by rw [beq_eq_false_iff_ne]; omega
    simp only [this, h3, decide_false, Bool.false_and, Bool.or_self, Bool.toNat_false, Nat.add_zero]

theorem rung_back (r : Nat) : ex r * 4503599627370496 + mg r = r := by
  unfold ex mg; split <;> omega

/-- a word's number, written with more digits, is that word again -/
theorem nearest_back (s : Bool) (r k : Nat) (hr : r < 9218868437227405312) : double.nearest s (mg r * 2 ^ k) (-1074 + (ex r : Int) - k) = double.word s r := by
  unfold Format.nearest
  by_cases h0 : mg r = 0
  · have : r = 0 := by unfold mg at h0; split at h0 <;> omega
    subst this
    rw [h0, Nat.zero_mul]; rfl
  · have hp : 0 < 2 ^ k := Nat.two_pow_pos _
    have hne : mg r * 2 ^ k ≠ 0 := by
      intro h1; rcases Nat.mul_eq_zero.1 h1 with h1 | h1 <;> omega
    rw [if_neg hne]
    simp only [log2_up k h0, lp, fb, bi, inf]
    have hl : max (-1074 + (ex r : Int) - k + ((mg r).log2 + k : Nat) - (52 : Nat)) (-1074) = -1074 + (ex r : Int) := by
      by_cases h1 : r < 4503599627370496
      · have he : ex r = 0 := by unfold ex; omega
        have : (mg r).log2 < 52 := by
          rw [Nat.log2_lt h0]; unfold mg; rw [if_pos h1]; omega
        rw [he]; omega
      · have : (mg r).log2 = 52 := by
          rw [Nat.log2_eq_iff h0]
          exact ⟨mg_ge (by omega), mg_lt r⟩
        omega
    rw [hl]
    have e1 : (-1074 + (ex r : Int) - k - (-1074 + (ex r : Int))).toNat = 0 := by omega
    have e2 : (-1074 + (ex r : Int) - (-1074 + (ex r : Int) - k)).toNat = k := by omega
    have e3 : (-1074 + (ex r : Int) - (-1074)).toNat = ex r := by omega
    rw [e1, e2, e3, Nat.shiftLeft_zero, cut_whole, rung_back]
    rw [Nat.min_eq_left (by omega)]

/-- the datum of a word is written as that word -/
theorem write_read {a : Nat} (h : a < 18446744073709551616) (hn : nn a = false) : double.write (double.read a) = a := by
  unfold nn at hn
  have hn' : rg a ≤ 9218868437227405312 := by simpa using hn
  by_cases h1 : rg a < 9218868437227405312
  · rw [read_num h1]
    have := nearest_back (sg a) (rg a) 0 h1
    simp only [Nat.pow_zero, Nat.mul_one] at this
    unfold Format.write
    have e : (-1074 + (ex (rg a) : Int)) = -1074 + (ex (rg a) : Int) - (0 : Nat) := by omega
    simp only
    rw [e, this, word_back h]
  · have h1' : rg a = 9218868437227405312 := by omega
    rw [read_inf h1']
    unfold Format.write
    simp only [inf]
    rw [← h1', word_back h]

/-- a word with the other sign -/
def flip (a : Nat) : Nat := if sg a then a - 9223372036854775808 else a + 9223372036854775808
theorem flip_lt {a : Nat} (h : a < 18446744073709551616) : flip a < 18446744073709551616 := by
  unfold flip sg; split
  · omega
  · rename_i h1; have : ¬ a / 9223372036854775808 % 2 = 1 := by simpa using h1
    omega
theorem rg_flip {a : Nat} (h : a < 18446744073709551616) : rg (flip a) = rg a := by
  unfold flip rg sg; split
  · rename_i h1; have : a / 9223372036854775808 % 2 = 1 := by simpa using h1
    omega
  · omega
theorem sg_flip {a : Nat} (h : a < 18446744073709551616) : sg (flip a) = !sg a := by
  unfold flip
  cases hs : sg a
  · unfold sg at *
    have h1 : ¬ a / 9223372036854775808 % 2 = 1 := by simpa using hs
    have e : (a + 9223372036854775808) / 9223372036854775808 % 2 = 1 := by omega
    simp only [Bool.false_eq_true, if_false]; rw [e]; rfl
  · unfold sg at *
    have h1 : a / 9223372036854775808 % 2 = 1 := by simpa using hs
    have e : (a - 9223372036854775808) / 9223372036854775808 % 2 = 0 := by omega
    simp only [if_true]; rw [e]; rfl
theorem nn_flip {a : Nat} (h : a < 18446744073709551616) : nn (flip a) = nn a := by unfold nn; rw [rg_flip h]
theorem word_flip {a : Nat} (h : a < 18446744073709551616) : double.word (!sg a) (rg a) = flip a := by
  have := word_back (flip_lt h)
  rw [rg_flip h, sg_flip h] at this
  exact this

theorem read_flip {a : Nat} (h : a < 18446744073709551616) (hn : nn a = false) : double.read (flip a) = (double.read a).opposite := by
  unfold nn at hn
  have hn' : rg a ≤ 9218868437227405312 := by simpa using hn
  by_cases h1 : rg a < 9218868437227405312
  · rw [read_num h1, read_num (by rw [rg_flip h]; exact h1), rg_flip h, sg_flip h]; rfl
  · have h1' : rg a = 9218868437227405312 := by omega
    rw [read_inf h1', read_inf (by rw [rg_flip h]; exact h1'), sg_flip h]; rfl

end Dk
