import Derived.Test.YtglhhlfopccmaaaGreatChecked
import Derived.Test.YtglhhlfopccmaaaGreatRows
import Ieee.Arith
import Derived.Laws.FloatBits
set_option linter.unusedSimpArgs false
set_option linter.unusedVariables false
set_option linter.unnecessarySimpa false
set_option maxHeartbeats 8000000
set_option maxRecDepth 100000
theorem zA {α : Type _} {l : List α} {i : Nat} {a : α} : l.toArray.setIfInBounds i a = (l.set i a).toArray := by rw [List.setIfInBounds_toArray]
theorem zB {α : Type _} {x a : α} {xs : List α} {n : Nat} : (x :: xs).set (n + 1) a = x :: xs.set n a := by rw [List.set_cons_succ]
theorem zC {α : Type _} {x a : α} {xs : List α} : (x :: xs).set 0 a = a :: xs := by rw [List.set_cons_zero]
theorem zD : (∀ (a : Go.Act) (d : Go.Tmp) (v : Go.Value), a.put (some d) v = { a with tmps := a.tmps.setIfInBounds d v }) ∧ (∀ (a : Go.Act) (v : Go.Value), a.put none v = a) ∧ (∀ (l : List Go.Value) (i : Nat) (a : Go.Value), l.toArray.setIfInBounds i a = (l.set i a).toArray) ∧ (∀ (x a : Go.Value) (xs : List Go.Value) (n : Nat), (x :: xs).set (n + 1) a = x :: xs.set n a) ∧ (∀ (x a : Go.Value) (xs : List Go.Value), (x :: xs).set 0 a = a :: xs) := ⟨fun _ _ _ => rfl, fun _ _ => rfl, fun l i a => by rw [List.setIfInBounds_toArray], fun _ _ _ _ => by rw [List.set_cons_succ], fun _ _ _ => by rw [List.set_cons_zero]⟩
namespace Dk
open Ieee
theorem sw:Ieee.double.signWeight=9223372036854775808:=by decide
theorem bi:Ieee.double.binade=4503599627370496:=by decide
theorem inf:Ieee.double.infRung=9218868437227405312:=by decide
theorem lp:Ieee.double.leastPlace=-1074:=by decide
theorem fb:Ieee.double.fractionBits=52:=rfl
def sg (a:Nat):Bool:=a / 9223372036854775808 % 2 == 1
def rg (a:Nat):Nat:=a % 9223372036854775808
def ex (r:Nat):Nat:=r / 4503599627370496 - 1
def mg (r:Nat):Nat:=if r < 4503599627370496 then r else 4503599627370496+r % 4503599627370496
def vl (r:Nat):Nat:=mg r*2 ^ ex r
def nn (a:Nat):Bool:=decide (9218868437227405312 < rg a)
def key (a:Nat):Int:=if sg a then -(rg a:Int) else rg a
theorem zdj {a:Nat} (h:rg a < 9218868437227405312):double.read a=.number (sg a) (mg (rg a)) (-1074+(ex (rg a):Int)):=by
 unfold Format.read
 simp only [sw,bi,inf,lp]
 unfold sg mg ex
 unfold rg at *
 by_cases h1:a % 9223372036854775808 < 4503599627370496
 ·rw [if_pos h1,if_pos h1]
  have:a % 9223372036854775808 / 4503599627370496 - 1=0:=by omega
  rw [this];rfl
 ·rw [if_neg h1,if_neg h1,if_pos h]
theorem zek {a:Nat} (h:rg a=9218868437227405312):double.read a=.infinity (sg a):=by
 unfold Format.read
 simp only [sw,bi,inf,lp]
 unfold sg
 unfold rg at *
 rw [if_neg (by omega),if_neg (by omega),if_pos h]
theorem zk8 {a:Nat} (h:9218868437227405312 < rg a):double.read a=.nan (sg a) (rg a - 9218868437227405312):=by
 unfold Format.read
 simp only [sw,bi,inf,lp]
 unfold sg
 unfold rg at *
 rw [if_neg (by omega),if_neg (by omega),if_neg (by omega)]
theorem mg_lt (r:Nat):mg r < 9007199254740992:=by unfold mg;split <;> omega
theorem mg_ge {r:Nat} (h:4503599627370496≤r):4503599627370496≤mg r:=by unfold mg;rw [if_neg (by omega)];omega
theorem zqj {r s:Nat} (h:r < s):vl r < vl s:=by
 unfold vl
 have he:ex r≤ex s:=by unfold ex;omega
 by_cases h2:ex r=ex s
 ·rw [h2]
  refine Nat.mul_lt_mul_of_pos_right ?_ (Nat.two_pow_pos _)
  unfold ex at h2
  unfold mg
  split <;> split <;> omega
 ·have h3:ex r < ex s:=by omega
  obtain ⟨k,hk⟩:∃ k,ex s=ex r+(k+1):=⟨ex s - ex r - 1,by omega⟩
  have hs:4503599627370496≤mg s:=mg_ge (by unfold ex at h3;omega)
  have hr:=mg_lt r
  rw [hk,Nat.pow_add,Nat.pow_succ]
  have p1:0 < 2 ^ ex r:=Nat.two_pow_pos _
  have p2:0 < 2 ^ k:=Nat.two_pow_pos _
  have q:9007199254740992≤mg s*(2 ^ k*2):=by
   have:4503599627370496*2≤mg s*(2 ^ k*2):=Nat.mul_le_mul hs (by omega)
   omega
  have e:mg s*(2 ^ ex r*(2 ^ k*2))=(mg s*(2 ^ k*2))*2 ^ ex r:=by
   rw [Nat.mul_comm (2 ^ ex r),← Nat.mul_assoc]
  rw [e]
  exact Nat.mul_lt_mul_of_pos_right (by omega) p1
theorem zfn (r s:Nat):vl r < vl s ↔ r < s:=by
 constructor
 ·intro h
  by_cases h1:r < s
  ·exact h1
  ·by_cases h2:r=s
   ·subst h2;omega
   ·have:=zqj (show s < r by omega);omega
 ·exact zqj
theorem zqk:vl 0=0:=by decide
theorem zqi (r s:Nat):vl r=vl s ↔ r=s:=by
 constructor
 ·intro h
  have a:=zfn r s
  have b:=zfn s r
  omega
 ·intro h;rw [h]
theorem scaled (r s:Nat):∃ X Y:Nat,mg r <<< (ex r - min (ex r) (ex s))=X∧mg s <<< (ex s - min (ex r) (ex s))=Y∧(X < Y ↔ r < s)∧(X=Y ↔ r=s)∧(X=0 ↔ r=0)∧(Y=0 ↔ s=0):=by
 refine ⟨_,_,rfl,rfl,?_⟩
 rw [Nat.shiftLeft_eq,Nat.shiftLeft_eq]
 generalize hb:min (ex r) (ex s)=b
 have hP:0 < 2 ^ b:=Nat.two_pow_pos _
 have e1:mg r*2 ^ (ex r - b)*2 ^ b=vl r:=by
  unfold vl;rw [Nat.mul_assoc,← Nat.pow_add];congr 2;omega
 have e2:mg s*2 ^ (ex s - b)*2 ^ b=vl s:=by
  unfold vl;rw [Nat.mul_assoc,← Nat.pow_add];congr 2;omega
 generalize mg r*2 ^ (ex r - b)=X at *
 generalize mg s*2 ^ (ex s - b)=Y at *
 have l1:X < Y ↔ vl r < vl s:=by
  rw [← e1,← e2];exact (Nat.mul_lt_mul_right hP).symm
 have l2:X=Y ↔ vl r=vl s:=by
  rw [← e1,← e2];constructor
  ·intro h;rw [h]
  ·intro h;exact Nat.eq_of_mul_eq_mul_right hP h
 have l3:X=0 ↔ vl r=vl 0:=by
  rw [zqk,← e1];constructor
  ·intro h;rw [h,Nat.zero_mul]
  ·intro h;rcases Nat.mul_eq_zero.1 h with h | h
   ·exact h
   ·omega
 have l4:Y=0 ↔ vl s=vl 0:=by
  rw [zqk,← e2];constructor
  ·intro h;rw [h,Nat.zero_mul]
  ·intro h;rcases Nat.mul_eq_zero.1 h with h | h
   ·exact h
   ·omega
 rw [zfn] at l1
 rw [zqi] at l2 l3 l4
 exact ⟨l1,l2,l3,l4⟩
theorem ze7 {a b:Nat} (ha:nn a=false) (hb:nn b=false):double.order a b=some (compare (key a) (key b)):=by
 unfold nn at ha hb
 have ha':rg a≤9218868437227405312:=by simpa using ha
 have hb':rg b≤9218868437227405312:=by simpa using hb
 have cmp:∀ x y u v:Int,(x < y ↔ u < v)→(x=y ↔ u=v)→compare x y=compare u v:=by
  intro x y u v h1 h2
  simp only [compare,compareOfLessAndEq,h1,h2]
 unfold Format.order key
 by_cases h1:rg a < 9218868437227405312
 ·by_cases h2:rg b < 9218868437227405312
  ·rw [zdj h1,zdj h2]
   unfold Datum.order
   simp only [Option.some.injEq]
   obtain ⟨X,Y,hX,hY,l1,l2,l3,l4⟩:=scaled (rg a) (rg b)
   have e1:((-1074+(ex (rg a):Int)) - min (-1074+(ex (rg a):Int)) (-1074+(ex (rg b):Int))).toNat=ex (rg a) - min (ex (rg a)) (ex (rg b)):=by omega
   have e2:((-1074+(ex (rg b):Int)) - min (-1074+(ex (rg a):Int)) (-1074+(ex (rg b):Int))).toNat=ex (rg b) - min (ex (rg a)) (ex (rg b)):=by omega
   rw [e1,e2]
   unfold signed
   rw [hX,hY]
   apply cmp <;> split <;> split <;> omega
  ·have h2':rg b=9218868437227405312:=by omega
   rw [zdj h1,zek h2']
   unfold Datum.order
   cases hs:sg b
   ·simp only [Bool.false_eq_true,if_false,Option.some.injEq]
    symm;rw [compare,instOrdInt];simp only [compareOfLessAndEq]
    rw [if_pos (by split <;> omega)]
   ·simp only [if_true,Option.some.injEq]
    symm;rw [compare,instOrdInt];simp only [compareOfLessAndEq]
    rw [if_neg (by split <;> omega),if_neg (by split <;> omega)]
 ·have h1':rg a=9218868437227405312:=by omega
  by_cases h2:rg b < 9218868437227405312
  ·rw [zek h1',zdj h2]
   unfold Datum.order
   cases hs:sg a
   ·simp only [Bool.false_eq_true,if_false,Option.some.injEq]
    symm;rw [compare,instOrdInt];simp only [compareOfLessAndEq]
    rw [if_neg (by split <;> omega),if_neg (by split <;> omega)]
   ·simp only [if_true,Option.some.injEq]
    symm;rw [compare,instOrdInt];simp only [compareOfLessAndEq]
    rw [if_pos (by split <;> omega)]
  ·have h2':rg b=9218868437227405312:=by omega
   rw [zek h1',zek h2',h1',h2']
   unfold Datum.order
   cases sg a <;> cases sg b <;> decide
theorem zbk {a b:Nat} (h:nn a=true∨nn b=true):double.order a b=none:=by
 unfold nn at h
 unfold Format.order
 by_cases ha:9218868437227405312 < rg a
 ·rw [zk8 ha];rfl
 ·have hb:9218868437227405312 < rg b:=by
   rcases h with h | h
   ·exact absurd (of_decide_eq_true h) ha
   ·exact of_decide_eq_true h
  rw [zk8 hb]
  cases double.read a <;> rfl
theorem zqr (s:Bool) (r:Nat):double.word s r=if s then 9223372036854775808+r else r:=by unfold Format.word;rw [sw]
theorem zpq (s:Bool) {r:Nat} (h:r < 9223372036854775808):rg (double.word s r)=r:=by
 rw [zqr];unfold rg
 cases s
 ·simp only [Bool.false_eq_true,if_false];omega
 ·simp only [if_true];omega
theorem log2_up {n:Nat} (k:Nat) (h:n≠0):(n*2 ^ k).log2=n.log2+k:=by
 have hp:0 < 2 ^ k:=Nat.two_pow_pos _
 have hne:n*2 ^ k≠0:=by
  intro h1;rcases Nat.mul_eq_zero.1 h1 with h1 | h1 <;> omega
 rw [Nat.log2_eq_iff hne]
 have a:=(Nat.log2_eq_iff (k:=n.log2) h).1 rfl
 constructor
 ·rw [Nat.pow_add];exact Nat.mul_le_mul_right _ a.1
 ·have e:2 ^ (n.log2+k+1)=2 ^ (n.log2+1)*2 ^ k:=by rw [← Nat.pow_add];congr 1;omega
  rw [e];exact Nat.mul_lt_mul_of_pos_right a.2 hp
theorem zn7 (n k:Nat) (way:Bool):Toward.even.cut way (n*2 ^ k) k=n:=by
 unfold Toward.cut
 by_cases h0:n=0
 ·subst h0;simp
 ·have hl:(n*2 ^ k).log2=n.log2+k:=by
   rw [log2_up k h0]
  have hm:min k ((n*2 ^ k).log2+2)=k:=by rw [hl];omega
  simp only [hm,Nat.one_shiftLeft]
  have hp:0 < 2 ^ k:=Nat.two_pow_pos _
  have h1:n*2 ^ k / 2 ^ k=n:=Nat.mul_div_cancel _ hp
  have h2:n*2 ^ k % 2 ^ k=0:=Nat.mul_mod_left _ _
  rw [h1,h2]
  have:¬ 2 ^ k < 2*0:=by omega
  have h3:(2 ^ k == 2*0)=false:=by rw [beq_eq_false_iff_ne];omega
  simp only [this,h3,decide_false,Bool.false_and,Bool.or_self,Bool.toNat_false,Nat.add_zero]
theorem zgb (s:Bool) (m:Nat) (p:Int):nn (double.nearest s m p)=false∧double.nearest s m p < 18446744073709551616:=by
 refine ⟨?_,Ieee.Format.nearest_lt double s m p⟩
 have key:∀ r,r≤9218868437227405312→nn (double.word s r)=false:=by
  intro r hr;unfold nn;rw [zpq s (by omega)];simpa using hr
 unfold Format.nearest
 split
 ·exact key 0 (by omega)
 ·simp only [inf];exact key _ (Nat.min_le_right ..)
theorem zej {d:Datum} (h:d.isNaN=false):nn (double.write d)=false:=by
 cases d with
 | number s m p=>exact (zgb s m p).1
 | infinity s=>
  show nn (double.word s double.infRung)=false
  rw [inf];unfold nn;rw [zpq s (by omega)];decide
 | nan s f=>cases h
theorem zij {d e r:Datum} (h:d.sum e=some r):r.isNaN=false:=by
 cases d <;> cases e <;> simp [Datum.sum] at h <;> first | (subst h;rfl) | (obtain ⟨_,h⟩:=h;subst h;rfl)
theorem zg8 {d e r:Datum} (h:d.product e=some r):r.isNaN=false:=by
 cases d <;> cases e <;> simp [Datum.product] at h <;> first | (subst h;rfl) | (obtain ⟨_,h⟩:=h;subst h;rfl)
theorem zfr {k:Nat} {d e r:Datum} (h:d.quotient k e=some r):r.isNaN=false:=by
 cases d with
 | number s m i=>cases e with
  | number t n j=>
   simp only [Datum.quotient] at h
   split at h
   ·split at h
    ·cases h
    ·cases h;rfl
   ·cases h;rfl
  | infinity t=>simp [Datum.quotient] at h;subst h;rfl
  | nan t f=>simp [Datum.quotient] at h
 | infinity s=>cases e <;> simp [Datum.quotient] at h;subst h;rfl
 | nan s f=>cases e <;> simp [Datum.quotient] at h
theorem nn_add {a b r:Nat} (h:double.add a b=some r):nn r=false:=by
 unfold Format.add at h
 rw [Option.map_eq_some_iff] at h
 obtain ⟨d,h1,rfl⟩:=h
 exact zej (zij h1)
theorem nn_sub {a b r:Nat} (h:double.sub a b=some r):nn r=false:=by
 unfold Format.sub at h
 rw [Option.map_eq_some_iff] at h
 obtain ⟨d,h1,rfl⟩:=h
 exact zej (zij h1)
theorem nn_mul {a b r:Nat} (h:double.mul a b=some r):nn r=false:=by
 unfold Format.mul at h
 rw [Option.map_eq_some_iff] at h
 obtain ⟨d,h1,rfl⟩:=h
 exact zej (zg8 h1)
theorem nn_div {a b r:Nat} (h:double.div a b=some r):nn r=false:=by
 unfold Format.div at h
 rw [Option.map_eq_some_iff] at h
 obtain ⟨d,h1,rfl⟩:=h
 exact zej (zfr h1)
def out (o:Option Nat):Nat:=o.getD 9221120237041090560
def nAdd (a b:Nat):Nat:=out (double.add a b)
def nSub (a b:Nat):Nat:=out (double.sub a b)
def nMul (a b:Nat):Nat:=out (double.mul a b)
def nDiv (a b:Nat):Nat:=out (double.div a b)
theorem nAdd_lt (a b:Nat):nAdd a b < 18446744073709551616:=by
 unfold nAdd out;cases h:double.add a b with
 | none=>decide
 | some r=>exact Ieee.Format.add_lt double h
theorem nSub_lt (a b:Nat):nSub a b < 18446744073709551616:=by
 unfold nSub out;cases h:double.sub a b with
 | none=>decide
 | some r=>exact Ieee.Format.sub_lt double h
theorem nMul_lt (a b:Nat):nMul a b < 18446744073709551616:=by
 unfold nMul out;cases h:double.mul a b with
 | none=>decide
 | some r=>exact Ieee.Format.mul_lt double h
theorem nDiv_lt (a b:Nat):nDiv a b < 18446744073709551616:=by
 unfold nDiv out;cases h:double.div a b with
 | none=>decide
 | some r=>exact Ieee.Format.div_lt double h
theorem cmp_lt (x y:Int):(compare x y == Ordering.lt)=decide (x < y):=by
 simp only [compare,compareOfLessAndEq]
 by_cases h:x < y
 ·rw [if_pos h];simp [h]
 ·rw [if_neg h];by_cases h2:x=y
  ·rw [if_pos h2];simp [h]
  ·rw [if_neg h2];simp [h]
theorem cmp_eq (x y:Int):(compare x y == Ordering.eq)=decide (x=y):=by
 simp only [compare,compareOfLessAndEq]
 by_cases h:x < y
 ·rw [if_pos h];have:¬ x=y:=by omega
  simp [this]
 ·rw [if_neg h];by_cases h2:x=y
  ·rw [if_pos h2];simp [h2]
  ·rw [if_neg h2];simp [h2]
theorem cmp_gt (x y:Int):(compare x y == Ordering.gt)=decide (y < x):=by
 simp only [compare,compareOfLessAndEq]
 by_cases h:x < y
 ·rw [if_pos h];have:¬ y < x:=by omega
  simp [this]
 ·rw [if_neg h];by_cases h2:x=y
  ·rw [if_pos h2];have:¬ y < x:=by omega
   simp [this]
  ·rw [if_neg h2];have:y < x:=by omega
   simp [this]
def lt (a b:Nat):Bool:=!nn a && !nn b && decide (key a < key b)
def eq (a b:Nat):Bool:=!nn a && !nn b && decide (key a=key b)
theorem zk5 (a b:Nat):(double.order a b == some Ordering.lt)=lt a b:=by
 unfold lt
 cases ha:nn a
 ·cases hb:nn b
  ·rw [ze7 ha hb,← cmp_lt];rfl
  ·rw [zbk (.inr hb)];rfl
 ·rw [zbk (.inl ha)];rfl
theorem zhd (a b:Nat):(double.order a b == some Ordering.eq)=eq a b:=by
 unfold eq
 cases ha:nn a
 ·cases hb:nn b
  ·rw [ze7 ha hb,← cmp_eq];rfl
  ·rw [zbk (.inr hb)];rfl
 ·rw [zbk (.inl ha)];rfl
theorem order_gt (a b:Nat):(double.order a b == some Ordering.gt)=lt b a:=by
 unfold lt
 cases ha:nn a
 ·cases hb:nn b
  ·rw [ze7 ha hb,Bool.not_false,Bool.true_and,← cmp_gt];rfl
  ·rw [zbk (.inr hb)];rfl
 ·rw [zbk (.inl ha)];cases nn b <;> rfl
theorem zmj (a:Nat):(double.order a a != some Ordering.eq)=nn a:=by
 unfold bne;rw [zhd];unfold eq;cases nn a <;> simp
end Dk
