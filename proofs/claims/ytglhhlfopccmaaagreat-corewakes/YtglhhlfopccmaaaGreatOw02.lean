import Derived.Test.YtglhhlfopccmaaaGreatOw01
import Derived.Laws.FloatArith
set_option linter.unusedSimpArgs false
set_option linter.unusedVariables false
set_option linter.unnecessarySimpa false
set_option maxHeartbeats 8000000
set_option maxRecDepth 100000
namespace Dk
open Ieee
def bef (a b:Nat):Bool:=if eq a b then decide (b < a) else lt a b
def nMin (a b:Nat):Nat:=if nn a || nn b then 9221120237041090560 else if bef a b then a else b
def nMax (a b:Nat):Nat:=if nn a || nn b then 9221120237041090560 else if bef a b then b else a
theorem cut_zero (n k:Nat) (way:Bool):Toward.zero.cut way n k=n / 2 ^ k:=by
 unfold Toward.cut
 simp only [Nat.one_shiftLeft,Bool.toNat_false,Nat.add_zero]
 by_cases h:k≤n.log2+2
 ·rw [Nat.min_eq_left h]
 ·rw [Nat.min_eq_right (by omega)]
  have a:n < 2 ^ (n.log2+2):=by
   by_cases h0:n=0
   ·subst h0;decide
   ·exact (Nat.log2_lt h0).1 (by omega)
  have b:n < 2 ^ k:=Nat.lt_of_lt_of_le a (Nat.pow_le_pow_right (by omega) (by omega))
  rw [Nat.div_eq_of_lt a,Nat.div_eq_of_lt b]
def tr (r:Nat):Nat:=mg r*2 ^ (ex r - 1074) / 2 ^ (1074 - ex r)
theorem zp9 {a:Nat} (h:rg a < 9218868437227405312):(double.read a).toInt .zero=some (if sg a then -(tr (rg a):Int) else tr (rg a)):=by
 rw [zdj h]
 unfold Datum.toInt Datum.integral
 simp only [Option.some.injEq]
 unfold signed
 have e1:(-1074+(ex (rg a):Int)).toNat=ex (rg a) - 1074:=by omega
 have e2:(-(-1074+(ex (rg a):Int))).toNat=1074 - ex (rg a):=by omega
 rw [e1,e2,cut_zero,Nat.shiftLeft_zero,Nat.shiftLeft_eq]
 rfl
theorem tr_small {r:Nat} (h:r < 4607182418800017408):tr r=0:=by
 unfold tr
 have he:ex r≤1021:=by unfold ex;omega
 have:ex r - 1074=0:=by omega
 rw [this,Nat.pow_zero,Nat.mul_one]
 refine Nat.div_eq_of_lt (Nat.lt_of_lt_of_le (mg_lt r) ?_)
 exact Nat.pow_le_pow_right (i:=53) (n:=2) (by omega) (by omega)
theorem zqb {r:Nat} (h:r < 4890909195324358656):tr r < 9223372036854775808:=by
 unfold tr
 have he:ex r≤1084:=by unfold ex;omega
 refine Nat.lt_of_le_of_lt (Nat.div_le_self _ _) ?_
 have p:2 ^ (ex r - 1074)≤1024:=Nat.pow_le_pow_right (j:=10) (n:=2) (by omega) (by omega)
 have m:=mg_lt r
 have:mg r*2 ^ (ex r - 1074)≤mg r*1024:=Nat.mul_le_mul_left _ p
 omega
def tI (a:Nat):Nat:=
 if nn a || decide (rg a < 4607182418800017408) then 0
 else if 4890909195324358656≤rg a then (if sg a then 9223372036854775808 else 9223372036854775807)
 else if sg a then (18446744073709551616 - tr (rg a)) % 18446744073709551616 else tr (rg a)
theorem tI_lt (a:Nat):tI a < 18446744073709551616:=by
 unfold tI
 split
 ·omega
 ·split
  ·split <;> omega
  ·rename_i h;have:=zqb (r:=rg a) (by omega);split <;> omega
theorem cut_even (n k:Nat) (way:Bool) (h:k≤n.log2+2):Toward.even.cut way n k=n / 2 ^ k+(decide (2 ^ k < 2*(n % 2 ^ k)) || (2 ^ k == 2*(n % 2 ^ k) && n / 2 ^ k % 2 == 1)).toNat:=by
 unfold Toward.cut
 simp only [Nat.one_shiftLeft,Nat.min_eq_left h]
def up (m:Nat):Nat:=
 if m.log2≤52 then (m.log2+1022)*4503599627370496+m*2 ^ (52 - m.log2)
 else (m.log2+1022)*4503599627370496+(m / 2 ^ (m.log2 - 52)+(decide (2 ^ (m.log2 - 52) < 2*(m % 2 ^ (m.log2 - 52))) || (2 ^ (m.log2 - 52) == 2*(m % 2 ^ (m.log2 - 52)) && m / 2 ^ (m.log2 - 52) % 2 == 1)).toNat)
theorem digits {m:Nat} (h0:m≠0):2 ^ m.log2≤m∧m < 2 ^ (m.log2+1):=(Nat.log2_eq_iff h0).1 rfl
theorem zmd {m:Nat} (h0:m≠0) (h:m.log2≤52):4503599627370496≤m*2 ^ (52 - m.log2)∧m*2 ^ (52 - m.log2) < 9007199254740992:=by
 obtain ⟨a,b⟩:=digits h0
 constructor
 ·have:2 ^ m.log2*2 ^ (52 - m.log2)≤m*2 ^ (52 - m.log2):=Nat.mul_le_mul_right _ a
  rw [← Nat.pow_add,show m.log2+(52 - m.log2)=52 by omega] at this
  exact this
 ·have:m*2 ^ (52 - m.log2) < 2 ^ (m.log2+1)*2 ^ (52 - m.log2):=Nat.mul_lt_mul_of_pos_right b (Nat.two_pow_pos _)
  rw [← Nat.pow_add,show m.log2+1+(52 - m.log2)=53 by omega] at this
  exact this
theorem zjo {m:Nat} (h0:m≠0) (h:¬ m.log2≤52):4503599627370496≤m / 2 ^ (m.log2 - 52)∧m / 2 ^ (m.log2 - 52) < 9007199254740992:=by
 obtain ⟨a,b⟩:=digits h0
 have hp:0 < 2 ^ (m.log2 - 52):=Nat.two_pow_pos _
 constructor
 ·rw [Nat.le_div_iff_mul_le hp,show (4503599627370496:Nat)=2 ^ 52 by decide,← Nat.pow_add,show 52+(m.log2 - 52)=m.log2 by omega]
  exact a
 ·rw [Nat.div_lt_iff_lt_mul hp,show (9007199254740992:Nat)=2 ^ 53 by decide,← Nat.pow_add,show 53+(m.log2 - 52)=m.log2+1 by omega]
  exact b
theorem zio {m:Nat} (h0:m≠0) (h:m < 18446744073709551616):m.log2≤63:=by
 have:=(Nat.log2_lt (k:=64) h0).2 h
 omega
theorem toNat_le (b:Bool):b.toNat≤1:=by cases b <;> decide
theorem up_lt {m:Nat} (h0:m≠0) (h:m < 18446744073709551616):up m < 9218868437227405312:=by
 have hl:=zio h0 h
 unfold up
 split
 ·rename_i h1
  have:=zmd h0 h1
  omega
 ·rename_i h1
  have:=zjo h0 h1
  have t:=toNat_le (decide (2 ^ (m.log2 - 52) < 2*(m % 2 ^ (m.log2 - 52))) || (2 ^ (m.log2 - 52) == 2*(m % 2 ^ (m.log2 - 52)) && m / 2 ^ (m.log2 - 52) % 2 == 1))
  omega
theorem ze6 (s:Bool) {m:Nat} (h0:m≠0) (h:m < 18446744073709551616):double.nearest s m 0=double.word s (up m):=by
 have hl:=zio h0 h
 have hu:=up_lt h0 h
 unfold Format.nearest
 rw [if_neg h0]
 simp only [lp,fb,bi,inf]
 have e0:max ((0:Int)+(m.log2:Int) - (52:Nat)) (-1074)=(m.log2:Int) - 52:=by omega
 rw [e0]
 have e3:((m.log2:Int) - 52 - (-1074)).toNat=m.log2+1022:=by omega
 rw [e3]
 unfold up at hu ⊢
 by_cases h1:m.log2≤52
 ·rw [if_pos h1] at hu ⊢
  have e1:((0:Int) - ((m.log2:Int) - 52)).toNat=52 - m.log2:=by omega
  have e2:((m.log2:Int) - 52 - 0).toNat=0:=by omega
  rw [e1,e2,Nat.shiftLeft_eq]
  have c:=zn7 (m*2 ^ (52 - m.log2)) 0 s
  rw [Nat.pow_zero,Nat.mul_one] at c
  rw [c,Nat.min_eq_left (by omega)]
 ·rw [if_neg h1] at hu ⊢
  have e1:((0:Int) - ((m.log2:Int) - 52)).toNat=0:=by omega
  have e2:((m.log2:Int) - 52 - 0).toNat=m.log2 - 52:=by omega
  rw [e1,e2,Nat.shiftLeft_zero,cut_even m _ s (by omega),Nat.min_eq_left (by omega)]
def tF (a:Nat):Nat:=
 if a=0 then 0 else if 9223372036854775808≤a then double.word true (up (18446744073709551616 - a)) else double.word false (up a)
theorem zgl {a:Nat} (h:a < 18446744073709551616) (n:Int) (hn:n=if 9223372036854775808≤a then (a:Int) - 18446744073709551616 else a):double.nearest (decide (n < 0)) n.natAbs 0=tF a:=by
 unfold tF
 by_cases h0:a=0
 ·subst h0;rw [if_pos rfl];subst hn;decide
 ·rw [if_neg h0]
  by_cases h1:9223372036854775808≤a
  ·rw [if_pos h1] at hn ⊢
   have e1:decide (n < 0)=true:=by rw [decide_eq_true_iff];omega
   have e2:n.natAbs=18446744073709551616 - a:=by omega
   rw [e1,e2,ze6 true (by omega) (by omega)]
  ·rw [if_neg h1] at hn ⊢
   have e1:decide (n < 0)=false:=by rw [decide_eq_false_iff_not];omega
   have e2:n.natAbs=a:=by omega
   rw [e1,e2,ze6 false (by omega) (by omega)]
theorem nn_tF {a:Nat} (h:a < 18446744073709551616):nn (tF a)=false∧tF a < 18446744073709551616:=by
 rw [← zgl h _ rfl]
 exact zgb _ _ _
theorem far_ge {a:Nat} (na:nn a=false):(lt 4890909195324358656 a || eq a 4890909195324358656)=decide (4890909195324358656≤key a):=by
 unfold lt eq
 rw [na,show nn 4890909195324358656=false by decide,show key 4890909195324358656=4890909195324358656 by decide]
 rw [Bool.eq_iff_iff]
 simp only [Bool.not_false,Bool.true_and,Bool.or_eq_true,decide_eq_true_eq]
 omega
theorem near_lt {a:Nat} (na:nn a=false):lt a 14114281232179134464=decide (key a < -4890909195324358656):=by
 unfold lt
 rw [na,show nn 14114281232179134464=false by decide,show key 14114281232179134464=-4890909195324358656 by decide]
 rfl
theorem tI_far {a:Nat} (na:nn a=false) (h:4890909195324358656≤key a):tI a=9223372036854775807:=by
 unfold key at h
 unfold tI
 cases hs:sg a <;> rw [hs] at h <;> simp only [Bool.false_eq_true,if_false,if_true] at h
 ·rw [na,if_neg (by simp only [Bool.false_or,decide_eq_true_eq];omega),if_pos (by omega)];rfl
 ·omega
theorem tI_near {a:Nat} (na:nn a=false) (h:key a < -4890909195324358656):tI a=9223372036854775808:=by
 unfold key at h
 unfold tI
 cases hs:sg a <;> rw [hs] at h <;> simp only [Bool.false_eq_true,if_false,if_true] at h
 ·omega
 ·rw [na,if_neg (by simp only [Bool.false_or,decide_eq_true_eq];omega),if_pos (by omega)];rfl
theorem tI_nan {a:Nat} (na:nn a=true):tI a=0:=by unfold tI;rw [na];rfl
theorem zqc:tr 4890909195324358656=9223372036854775808:=by decide
theorem tI_small {a:Nat} (na:nn a=false) (h:rg a < 4607182418800017408):tI a=0:=by unfold tI;rw [na,if_pos (by simpa using h)]
theorem tI_mid {a:Nat} (na:nn a=false) (h:¬ rg a < 4607182418800017408) (hb:rg a < 4890909195324358656):tI a=if sg a then (18446744073709551616 - tr (rg a)) % 18446744073709551616 else tr (rg a):=by
 unfold tI;rw [na,if_neg (by simpa using h),if_neg (by omega)]
theorem tI_top {a:Nat} (na:nn a=false) (hs:sg a=true) (hb:¬ rg a < 4890909195324358656):tI a=9223372036854775808:=by
 unfold tI;rw [na,if_neg (by simp only [Bool.false_or,decide_eq_true_eq];omega),if_pos (by omega),hs];rfl
theorem zqa {a:Nat} (na:nn a=false) (h1:¬ 4890909195324358656≤key a) (h2:¬ key a < -4890909195324358656) :
  ∃ n:Int,Go.floatToIntVal .f64 a .i64=some n∧n % 18446744073709551616=(tI a:Int):=by
 have hr:rg a < 9218868437227405312:=by
  unfold key at h1 h2
  cases hs:sg a <;> rw [hs] at h1 h2 <;> simp only [Bool.false_eq_true,if_false,if_true] at h1 h2 <;> omega
 refine ⟨if sg a then -(tr (rg a):Int) else tr (rg a),?_,?_⟩
 ·unfold Go.floatToIntVal
  rw [show (Go.FloatKind.f64.decode a).toInt .zero=some (if sg a then -(tr (rg a):Int) else tr (rg a)) from zp9 hr]
  simp only
  rw [if_pos]
  rw [show Go.IntKind.i64.min=-9223372036854775808 by decide,show Go.IntKind.i64.max=9223372036854775807 by decide]
  by_cases hb:rg a < 4890909195324358656
  ·have:=zqb hb
   split <;> omega
  ·unfold key at h1 h2
   cases hs:sg a <;> rw [hs] at h1 h2 <;> simp only [Bool.false_eq_true,if_false,if_true] at h1 h2 ⊢
   ·omega
   ·have:rg a=4890909195324358656:=by omega
    rw [this,zqc];omega
 ·by_cases h3:rg a < 4607182418800017408
  ·rw [tr_small h3,tI_small na h3];cases sg a <;> rfl
  ·by_cases hb:rg a < 4890909195324358656
   ·have:=zqb hb
    rw [tI_mid na h3 hb]
    cases sg a <;> simp only [Bool.false_eq_true,if_false,if_true] <;> omega
   ·unfold key at h1 h2
    cases hs:sg a <;> rw [hs] at h1 h2 <;> simp only [Bool.false_eq_true,if_false,if_true] at h1 h2 ⊢
    ·omega
    ·rw [tI_top na hs hb]
     have:rg a=4890909195324358656:=by omega
     rw [this,zqc];decide
end Dk
