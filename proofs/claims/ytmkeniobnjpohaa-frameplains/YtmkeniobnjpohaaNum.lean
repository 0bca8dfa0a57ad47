/- What sums, products, quotients and conversions of words come to, by the model's Ieee, and the laws that hold of them. -/
import Derived.Test.YtmkeniobnjpohaaFloat
namespace Dk
open Ieee

theorem nn_nearest (s : Bool) (m : Nat) (p : Int) : nn (double.nearest s m p) = false ∧ double.nearest s m p < 18446744073709551616 := by
  refine ⟨?_, Ieee.Format.nearest_lt double s m p⟩
  have key : ∀ r, r ≤ 9218868437227405312 → nn (double.word s r) = false := by
    intro r hr; unfold nn; rw [rg_word s (by omega)]; simpa using hr
  unfold Format.nearest
  split
  · exact key 0 (by omega)
  · simp only [inf]; exact key _ (Nat.min_le_right ..)

theorem nn_write {d : Datum} (h : d.isNaN = false) : nn (double.write d) = false := by
  cases d with
  | number s m p => exact (nn_nearest s m p).1
  | infinity s =>
    show nn (double.word s double.infRung) = false
    rw [inf]; unfold nn; rw [rg_word s (by omega)]; decide
  | nan s f => cases h

theorem isNaN_sum {d e r : Datum} (h : d.sum e = some r) : r.isNaN = false := by
  cases d <;> cases e <;> simp [Datum.sum] at h <;> first | (subst h; rfl) | (obtain ⟨_, h⟩ := h; subst h; rfl)
theorem isNaN_product {d e r : Datum} (h : d.product e = some r) : r.isNaN = false := by
  cases d <;> cases e <;> simp [Datum.product] at h <;> first | (subst h; rfl) | (obtain ⟨_, h⟩ := h; subst h; rfl)
theorem isNaN_quotient {k : Nat} {d e r : Datum} (h : d.quotient k e = some r) : r.isNaN = false := by
  cases d with
  | number s m i => cases e with
    | number t n j =>
      simp only [Datum.quotient] at h
      split at h
      · split at h
        · cases h
        · cases h; rfl
      · cases h; rfl
    | infinity t => simp [Datum.quotient] at h; subst h; rfl
    | nan t f => simp [Datum.quotient] at h
  | infinity s => cases e <;> simp [Datum.quotient] at h; subst h; rfl
  | nan s f => cases e <;> simp [Datum.quotient] at h

theorem nn_add {a b r : Nat} (h : double.add a b = some r) : nn r = false := by
  unfold Format.add at h
  rw [Option.map_eq_some_iff] at h
  obtain ⟨d, h1, rfl⟩ := h
  exact nn_write (isNaN_sum h1)
theorem nn_sub {a b r : Nat} (h : double.sub a b = some r) : nn r = false := by
  unfold Format.sub at h
  rw [Option.map_eq_some_iff] at h
  obtain ⟨d, h1, rfl⟩ := h
  exact nn_write (isNaN_sum h1)
theorem nn_mul {a b r : Nat} (h : double.mul a b = some r) : nn r = false := by
  unfold Format.mul at h
  rw [Option.map_eq_some_iff] at h
  obtain ⟨d, h1, rfl⟩ := h
  exact nn_write (isNaN_product h1)
theorem nn_div {a b r : Nat} (h : double.div a b = some r) : nn r = false := by
  unfold Format.div at h
  rw [Option.map_eq_some_iff] at h
  obtain ⟨d, h1, rfl⟩ := h
  exact nn_write (isNaN_quotient h1)

/-- the answer: the one word for all that is no number -/
def out (o : Option Nat) : Nat := o.getD 9221120237041090560
def nAdd (a b : Nat) : Nat := out (double.add a b)
def nSub (a b : Nat) : Nat := out (double.sub a b)
def nMul (a b : Nat) : Nat := out (double.mul a b)
def nDiv (a b : Nat) : Nat := out (double.div a b)
theorem nAdd_lt (a b : Nat) : nAdd a b < 18446744073709551616 := by
  unfold nAdd out; cases h : double.add a b with
  | none => decide
  | some r => exact Ieee.Format.add_lt double h
theorem nSub_lt (a b : Nat) : nSub a b < 18446744073709551616 := by
  unfold nSub out; cases h : double.sub a b with
  | none => decide
  | some r => exact Ieee.Format.sub_lt double h
theorem nMul_lt (a b : Nat) : nMul a b < 18446744073709551616 := by
  unfold nMul out; cases h : double.mul a b with
  | none => decide
  | some r => exact Ieee.Format.mul_lt double h
theorem nDiv_lt (a b : Nat) : nDiv a b < 18446744073709551616 := by
  unfold nDiv out; cases h : double.div a b with
  | none => decide
  | some r => exact Ieee.Format.div_lt double h

theorem sum_comm (d e : Datum) : d.sum e = e.sum d := by
  cases d <;> cases e <;> try rfl
  · rename_i s m i t n j
    simp only [Datum.sum, Option.some.injEq]
    rw [Int.min_comm i j, Int.add_comm, Bool.and_comm]
  · rename_i s t
    simp only [Datum.sum]
    by_cases h : s = t
    · subst h; rfl
    · rw [if_neg h, if_neg (fun e => h e.symm)]
theorem product_comm (d e : Datum) : d.product e = e.product d := by
  cases d <;> cases e <;> try rfl
  · rename_i s m i t n j
    simp only [Datum.product, Option.some.injEq]
    rw [Bool.xor_comm, Nat.mul_comm, Int.add_comm]
  · rename_i s t
    simp only [Datum.product, Option.some.injEq]
    rw [Bool.xor_comm]
theorem nAdd_comm (a b : Nat) : nAdd a b = nAdd b a := by unfold nAdd Format.add; rw [sum_comm]
theorem nMul_comm (a b : Nat) : nMul a b = nMul b a := by unfold nMul Format.mul; rw [product_comm]

theorem read_nn {a : Nat} (h : nn a = true) : ∃ s f, double.read a = .nan s f := ⟨_, _, read_nan (of_decide_eq_true h)⟩

theorem nSub_eq (a : Nat) {b : Nat} (hb : b < 18446744073709551616) : nSub a b = nAdd a (flip b) := by
  unfold nSub nAdd Format.sub Format.add
  cases hn : nn b
  · rw [read_flip hb hn]
  · obtain ⟨s, f, e⟩ := read_nn hn
    obtain ⟨s', f', e'⟩ := read_nn (a := flip b) (by rw [nn_flip hb]; exact hn)
    rw [e, e']
    cases double.read a <;> rfl

theorem nAdd_none {a b : Nat} (h : nn b = true) : nAdd a b = 9221120237041090560 := by
  unfold nAdd Format.add
  obtain ⟨s, f, e⟩ := read_nn h
  rw [e]; cases double.read a <;> rfl
theorem nMul_none {a b : Nat} (h : nn b = true) : nMul a b = 9221120237041090560 := by
  unfold nMul Format.mul
  obtain ⟨s, f, e⟩ := read_nn h
  rw [e]; cases double.read a <;> rfl

theorem read_cases {a : Nat} (h : nn a = false) : (rg a < 9218868437227405312 ∧ double.read a = .number (sg a) (mg (rg a)) (-1074 + (ex (rg a) : Int))) ∨ (rg a = 9218868437227405312 ∧ double.read a = .infinity (sg a)) := by
  unfold nn at h
  have h' : rg a ≤ 9218868437227405312 := by simpa using h
  by_cases h1 : rg a < 9218868437227405312
  · exact .inl ⟨h1, read_num h1⟩
  · have h2 : rg a = 9218868437227405312 := by omega
    exact .inr ⟨h2, read_inf h2⟩

theorem read_one : double.read 4607182418800017408 = .number false 4503599627370496 (-52) := by decide
theorem read_mone : double.read 13830554455654793216 = .number true 4503599627370496 (-52) := by decide
theorem read_zero : double.read 0 = .number false 0 (-1074) := by decide
theorem read_far : double.read 9218868437227405312 = .infinity false := by decide

/-- what has no end, and a number -/
theorem nAdd_far {a : Nat} (h : rg a < 9218868437227405312) : nAdd a 9218868437227405312 = 9218868437227405312 := by
  unfold nAdd Format.add
  rw [read_num h, read_far]
  simp only [Datum.sum, Option.map_some, Format.write, out, Option.getD_some, inf]
  decide
theorem nDiv_far (a : Nat) : nDiv a 9218868437227405312 ≠ 9218868437227405312 := by
  unfold nDiv Format.div
  rw [read_far]
  cases hn : nn a
  · rcases read_cases hn with ⟨_, e⟩ | ⟨_, e⟩
    · rw [e]
      simp only [Datum.quotient, Option.map_some, Format.write, out, Option.getD_some, Bool.xor_false]
      cases sg a <;> decide
    · rw [e]
      simp only [Datum.quotient, Option.map_none, out, Option.getD_none]
      decide
  · obtain ⟨s, f, e⟩ := read_nn hn
    rw [e]
    simp only [Datum.quotient, Option.map_none, out, Option.getD_none]
    decide

theorem nearest_up (s : Bool) (r : Nat) (h : r < 9218868437227405312) : double.nearest s (mg r * 4503599627370496) (-1074 + (ex r : Int) + -52) = double.word s r := by
  have b := nearest_back s r 52 h
  have e : (2 : Nat) ^ 52 = 4503599627370496 := by decide
  rw [e] at b
  have e2 : (-1074 + (ex r : Int) + -52) = -1074 + (ex r : Int) - (52 : Nat) := by omega
  rw [e2]; exact b

theorem product_num (s : Bool) (m : Nat) (i : Int) (t : Bool) (n : Nat) (j : Int) : (Datum.number s m i).product (.number t n j) = some (.number (s ^^ t) (m * n) (i + j)) := rfl
theorem product_inf (s : Bool) (t : Bool) (n : Nat) (j : Int) (h : n ≠ 0) : (Datum.infinity s).product (.number t n j) = some (.infinity (s ^^ t)) := if_neg h
theorem out_num (s : Bool) (m : Nat) (i : Int) : out ((some (Datum.number s m i)).map double.write) = double.nearest s m i := rfl
theorem out_inf (s : Bool) : out ((some (Datum.infinity s)).map double.write) = double.word s 9218868437227405312 := by rw [← inf]; rfl

theorem nMul_one {a : Nat} (h : a < 18446744073709551616) (hn : nn a = false) : nMul a 4607182418800017408 = a := by
  unfold nMul Format.mul
  rw [read_one]
  rcases read_cases hn with ⟨h1, e⟩ | ⟨h1, e⟩
  · rw [e, product_num, out_num, Bool.xor_false, nearest_up _ _ h1, word_back h]
  · rw [e, product_inf _ _ _ _ (by decide), out_inf, Bool.xor_false, ← h1, word_back h]

theorem nMul_mone {a : Nat} (h : a < 18446744073709551616) (hn : nn a = false) : nMul a 13830554455654793216 = flip a := by
  unfold nMul Format.mul
  rw [read_mone]
  rcases read_cases hn with ⟨h1, e⟩ | ⟨h1, e⟩
  · rw [e, product_num, out_num, Bool.xor_true, nearest_up _ _ h1, word_flip h]
  · rw [e, product_inf _ _ _ _ (by decide), out_inf, Bool.xor_true, ← h1, word_flip h]

theorem nDiv_one {a : Nat} (h : a < 18446744073709551616) (hn : nn a = false) : nDiv a 4607182418800017408 = a := by
  unfold nDiv Format.div
  rw [read_one]
  rcases read_cases hn with ⟨h1, e⟩ | ⟨h1, e⟩
  · rw [e]
    have hl : (4503599627370496 : Nat).log2 = 52 := by decide
    have hm : (mg (rg a)).log2 ≤ 52 := by
      by_cases h0 : mg (rg a) = 0
      · rw [h0]; decide
      · have := (Nat.log2_lt (k := 53) h0).2 (mg_lt _); omega
    simp only [Datum.quotient, fb, hl]
    rw [if_neg (by decide)]
    obtain ⟨k, hk⟩ : ∃ k, 52 + 2 + 52 - (mg (rg a)).log2 = k + 52 := ⟨54 - (mg (rg a)).log2, by omega⟩
    rw [hk]
    have hdiv : mg (rg a) <<< (k + 52) / 4503599627370496 = mg (rg a) * 2 ^ k := by
      rw [Nat.shiftLeft_eq, Nat.pow_add, ← Nat.mul_assoc]
      exact Nat.mul_div_cancel _ (by decide)
    have hmod : mg (rg a) <<< (k + 52) % 4503599627370496 = 0 := by
      rw [Nat.shiftLeft_eq, Nat.pow_add, ← Nat.mul_assoc]
      exact Nat.mul_mod_left _ _
    simp only [hdiv, hmod, Option.map_some, Format.write, out, Option.getD_some, Bool.xor_false]
    have := nearest_back (sg a) (rg a) (k + 1) h1
    rw [show (-1074 + (ex (rg a) : Int) - -52 - ((k + 52 : Nat) : Int) - 1) = -1074 + (ex (rg a) : Int) - ((k + 1 : Nat) : Int) by omega]
    rw [show 2 * (mg (rg a) * 2 ^ k) + ((0 : Nat) != 0).toNat = mg (rg a) * 2 ^ (k + 1) by
      rw [Nat.pow_succ]; simp only [bne_self_eq_false, Bool.toNat_false, Nat.add_zero]; rw [Nat.mul_comm 2, Nat.mul_assoc]]
    rw [this, word_back h]
  · rw [e]
    simp only [Datum.quotient, Option.map_some, Format.write, out, Option.getD_some, Bool.xor_false]
    rw [inf, ← h1, word_back h]

theorem nSub_zero {a : Nat} (h : a < 18446744073709551616) (hn : nn a = false) : nSub a 0 = a := by
  unfold nSub Format.sub
  rw [read_zero]
  rcases read_cases hn with ⟨h1, e⟩ | ⟨h1, e⟩
  · rw [e]
    simp only [Datum.opposite, Datum.sum, Option.map_some, Format.write, out, Option.getD_some, Bool.not_false]
    have e1 : (-1074 + (ex (rg a) : Int) - min (-1074 + (ex (rg a) : Int)) (-1074)).toNat = ex (rg a) := by omega
    have e2 : min (-1074 + (ex (rg a) : Int)) (-1074) = -1074 + (ex (rg a) : Int) - (ex (rg a) : Nat) := by omega
    have e3 : signed true 0 ((-1074) - min (-1074 + (ex (rg a) : Int)) (-1074)).toNat = 0 := by
      unfold signed; simp
    rw [e1, e3, e2, Int.add_zero]
    have b := nearest_back (sg a) (rg a) (ex (rg a)) h1
    have en : (signed (sg a) (mg (rg a)) (ex (rg a))).natAbs = mg (rg a) * 2 ^ ex (rg a) := by
      unfold signed; rw [Nat.shiftLeft_eq]; split <;> omega
    rw [en]
    by_cases h0 : mg (rg a) = 0
    · have : signed (sg a) (mg (rg a)) (ex (rg a)) = 0 := by unfold signed; rw [h0]; simp
      rw [if_pos this, Bool.and_true, b, word_back h]
    · have hp : 0 < 2 ^ ex (rg a) := Nat.two_pow_pos _
      have hpos : 0 < mg (rg a) * 2 ^ ex (rg a) := Nat.mul_pos (by omega) hp
      have : ¬ signed (sg a) (mg (rg a)) (ex (rg a)) = 0 := by
        unfold signed; rw [Nat.shiftLeft_eq]; split <;> omega
      rw [if_neg this]
      have hd : decide (signed (sg a) (mg (rg a)) (ex (rg a)) < 0) = sg a := by
        unfold signed; rw [Nat.shiftLeft_eq]
        cases sg a
        · simp only [Bool.false_eq_true, if_false]; rw [decide_eq_false_iff_not]; omega
        · simp only [if_true]; rw [decide_eq_true_iff]; omega
      rw [hd, b, word_back h]
  · rw [e]
    simp only [Datum.opposite, Datum.sum, Option.map_some, Format.write, out, Option.getD_some]
    rw [inf, ← h1, word_back h]

/- how words stand to each other -/
theorem cmp_lt (x y : Int) : (compare x y == Ordering.lt) = decide (x < y) := by
  simp only [compare, compareOfLessAndEq]
  by_cases h : x < y
  · rw [if_pos h]; simp [h]
  · rw [if_neg h]; by_cases h2 : x = y
    · rw [if_pos h2]; simp [h]
    · rw [if_neg h2]; simp [h]
theorem cmp_eq (x y : Int) : (compare x y == Ordering.eq) = decide (x = y) := by
  simp only [compare, compareOfLessAndEq]
  by_cases h : x < y
  · rw [if_pos h]; have : ¬ x = y := by omega
    simp [this]
  · rw [if_neg h]; by_cases h2 : x = y
    · rw [if_pos h2]; simp [h2]
    · rw [if_neg h2]; simp [h2]
theorem cmp_gt (x y : Int) : (compare x y == Ordering.gt) = decide (y < x) := by
  simp only [compare, compareOfLessAndEq]
  by_cases h : x < y
  · rw [if_pos h]; have : ¬ y < x := by omega
    simp [this]
  · rw [if_neg h]; by_cases h2 : x = y
    · rw [if_pos h2]; have : ¬ y < x := by omega
      simp [this]
    · rw [if_neg h2]; have : y < x := by omega
      simp [this]

/-- which word is less -/
def lt (a b : Nat) : Bool := !nn a && !nn b && decide (key a < key b)
/-- which words are alike -/
def eq (a b : Nat) : Bool := !nn a && !nn b && decide (key a = key b)
theorem order_lt (a b : Nat) : (double.order a b == some Ordering.lt) = lt a b := by
  unfold lt
  cases ha : nn a
  · cases hb : nn b
    · rw [order_cmp ha hb, ← cmp_lt]; rfl
    · rw [order_none (.inr hb)]; rfl
  · rw [order_none (.inl ha)]; rfl
theorem order_eq (a b : Nat) : (double.order a b == some Ordering.eq) = eq a b := by
  unfold eq
  cases ha : nn a
  · cases hb : nn b
    · rw [order_cmp ha hb, ← cmp_eq]; rfl
    · rw [order_none (.inr hb)]; rfl
  · rw [order_none (.inl ha)]; rfl
theorem order_gt (a b : Nat) : (double.order a b == some Ordering.gt) = lt b a := by
  unfold lt
  cases ha : nn a
  · cases hb : nn b
    · rw [order_cmp ha hb, Bool.not_false, Bool.true_and, ← cmp_gt]; rfl
    · rw [order_none (.inr hb)]; rfl
  · rw [order_none (.inl ha)]; cases nn b <;> rfl
theorem order_self (a : Nat) : (double.order a a != some Ordering.eq) = nn a := by
  unfold bne; rw [order_eq]; unfold eq; cases nn a <;> simp

/-- a word's kind -/
def kd (a : Nat) : Int := if rg a = 0 then 1 else if rg a = 9218868437227405312 then 2 else if 9218868437227405312 < rg a then 3 else 0
theorem kd_three (a : Nat) : (kd a == 3) = nn a := by
  unfold kd nn
  by_cases h1 : rg a = 0
  · rw [if_pos h1, h1]; decide
  · rw [if_neg h1]; by_cases h2 : rg a = 9218868437227405312
    · rw [if_pos h2, h2]; decide
    · rw [if_neg h2]; by_cases h3 : 9218868437227405312 < rg a
      · rw [if_pos h3]; simp [h3]
      · rw [if_neg h3]; simp [h3]
theorem kd_one (a : Nat) : (kd a == 1) = decide (rg a = 0) := by
  unfold kd
  by_cases h1 : rg a = 0
  · rw [if_pos h1]; simp [h1]
  · rw [if_neg h1]; by_cases h2 : rg a = 9218868437227405312
    · rw [if_pos h2]; simp [h1]
    · rw [if_neg h2]; by_cases h3 : 9218868437227405312 < rg a
      · rw [if_pos h3]; simp [h1]
      · rw [if_neg h3]; simp [h1]
end Dk
