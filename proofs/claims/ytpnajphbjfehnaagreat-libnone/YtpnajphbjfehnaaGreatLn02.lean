import Derived.Test.YtpnajphbjfehnaaGreatLn01
import Derived.Laws.FloatArith
set_option linter.unusedSimpArgs false
set_option linter.unusedVariables false
set_option linter.unnecessarySimpa false
set_option maxHeartbeats 8000000
set_option maxRecDepth 100000
namespace Dk
open Ieee
def bef (a b:Nat):Bool:=if eq a b then decide (b < a) else lt a b
def nMin (a b:Nat):Nat:=if nn a || nn b then 9221120237041090560 else if bef a b then a else b
def nMax (a b:Nat):Nat:=if nn a || nn b then 9221120237041090560 else if bef a b then b else a
def tr (r:Nat):Nat:=mg r*2 ^ (ex r - 1074) / 2 ^ (1074 - ex r)
theorem tr_big {r:Nat} (h:r < 4890909195324358656):tr r < 9223372036854775808:=by
 unfold tr
 have he:ex r≤1084:=by unfold ex;omega
 refine Nat.lt_of_le_of_lt (Nat.div_le_self _ _) ?_
 have p:2 ^ (ex r - 1074)≤1024:=Nat.pow_le_pow_right (j:=10) (n:=2) (by omega) (by omega)
 have m:=mg_lt r
 have:mg r*2 ^ (ex r - 1074)≤mg r*1024:=Nat.mul_le_mul_left _ p
 omega
def tI (a:Nat):Nat:=
 if nn a || decide (rg a < 4607182418800017408) then 0
 else if 4890909195324358656≤rg a then (if sg a then 9223372036854775808 else 9223372036854775807)
 else if sg a then (18446744073709551616 - tr (rg a)) % 18446744073709551616 else tr (rg a)
theorem tI_lt (a:Nat):tI a < 18446744073709551616:=by
 unfold tI
 split
 ·omega
 ·split
  ·split <;> omega
  ·rename_i h;have:=tr_big (r:=rg a) (by omega);split <;> omega
def up (m:Nat):Nat:=
 if m.log2≤52 then (m.log2+1022)*4503599627370496+m*2 ^ (52 - m.log2)
 else (m.log2+1022)*4503599627370496+(m / 2 ^ (m.log2 - 52)+(decide (2 ^ (m.log2 - 52) < 2*(m % 2 ^ (m.log2 - 52))) || (2 ^ (m.log2 - 52) == 2*(m % 2 ^ (m.log2 - 52)) && m / 2 ^ (m.log2 - 52) % 2 == 1)).toNat)
theorem digits {m:Nat} (h0:m≠0):2 ^ m.log2≤m∧m < 2 ^ (m.log2+1):=(Nat.log2_eq_iff h0).1 rfl
theorem zhz {m:Nat} (h0:m≠0) (h:m.log2≤52):4503599627370496≤m*2 ^ (52 - m.log2)∧m*2 ^ (52 - m.log2) < 9007199254740992:=by
 obtain ⟨a,b⟩:=digits h0
 constructor
 ·have:2 ^ m.log2*2 ^ (52 - m.log2)≤m*2 ^ (52 - m.log2):=Nat.mul_le_mul_right _ a
  rw [← Nat.pow_add,show m.log2+(52 - m.log2)=52 by omega] at this
  exact this
 ·have:m*2 ^ (52 - m.log2) < 2 ^ (m.log2+1)*2 ^ (52 - m.log2):=Nat.mul_lt_mul_of_pos_right b (Nat.two_pow_pos _)
  rw [← Nat.pow_add,show m.log2+1+(52 - m.log2)=53 by omega] at this
  exact this
theorem zf4 {m:Nat} (h0:m≠0) (h:¬ m.log2≤52):4503599627370496≤m / 2 ^ (m.log2 - 52)∧m / 2 ^ (m.log2 - 52) < 9007199254740992:=by
 obtain ⟨a,b⟩:=digits h0
 have hp:0 < 2 ^ (m.log2 - 52):=Nat.two_pow_pos _
 constructor
 ·rw [Nat.le_div_iff_mul_le hp,show (4503599627370496:Nat)=2 ^ 52 by decide,← Nat.pow_add,show 52+(m.log2 - 52)=m.log2 by omega]
  exact a
 ·rw [Nat.div_lt_iff_lt_mul hp,show (9007199254740992:Nat)=2 ^ 53 by decide,← Nat.pow_add,show 53+(m.log2 - 52)=m.log2+1 by omega]
  exact b
theorem zjx {m:Nat} (h0:m≠0) (h:m < 18446744073709551616):m.log2≤63:=by
 have:=(Nat.log2_lt (k:=64) h0).2 h
 omega
theorem toNat_le (b:Bool):b.toNat≤1:=by cases b <;> decide
theorem up_lt {m:Nat} (h0:m≠0) (h:m < 18446744073709551616):up m < 9218868437227405312:=by
 have hl:=zjx h0 h
 unfold up
 split
 ·rename_i h1
  have:=zhz h0 h1
  omega
 ·rename_i h1
  have:=zf4 h0 h1
  have t:=toNat_le (decide (2 ^ (m.log2 - 52) < 2*(m % 2 ^ (m.log2 - 52))) || (2 ^ (m.log2 - 52) == 2*(m % 2 ^ (m.log2 - 52)) && m / 2 ^ (m.log2 - 52) % 2 == 1))
  omega
def tF (a:Nat):Nat:=
 if a=0 then 0 else if 9223372036854775808≤a then double.word true (up (18446744073709551616 - a)) else double.word false (up a)
structure Ins where
 op:Int
 a:Int
 b:Int
 c:Int
 n:Nat
structure Prg where
 funcs:List (List Ins)
 words:Int
 mutexes:Int
 conds:Int
 sems:List Int
 pipes:List Int
 blocks:Int
 prio:Int
def i64 (x:Int):Prop:=-9223372036854775808≤x∧x≤9223372036854775807
structure Ins.ok (i:Ins):Prop where
 op:i64 i.op
 a:i64 i.a
 b:i64 i.b
 c:i64 i.c
 n:i.n < 18446744073709551616
def u64 (x:Int):Int:=x % 18446744073709551616
def choices (p:Prg) (x:Int):Int:=
 if x=0 then 1 else if x=1 then 8 else if x=3 then 257 else if x=4 then p.funcs.length else if x=5 then p.mutexes
 else if x=6 then p.conds else if x=7 then p.sems.length else if x=8 then p.pipes.length else 0
def mayB (p:Prg) (x v:Int):Bool:=(x == 2) || decide (v < max 0 (choices p x))
def form (op:Int):(Int × Int × Int × Int) × Bool:=
 if op=1 then ((1,0,0,2),true)
 else if op=2∨op=14∨op=15∨op=18∨op=19∨op=21∨op=33∨op=34 then ((1,1,0,0),true)
 else if 3≤op∧op≤13 then ((1,1,1,0),true)
 else if op=16 then ((0,0,0,3),true)
 else if op=17 then ((1,0,0,3),true)
 else if op=20 then ((1,1,0,4),true)
 else if op=22∨op=23∨op=32∨op=37∨op=38 then ((1,0,0,0),true)
 else if op=24 then ((0,0,0,0),true)
 else if op=25∨op=26 then ((0,0,0,5),true)
 else if op=27 then ((0,0,5,6),true)
 else if op=28∨op=29 then ((0,0,0,6),true)
 else if op=30∨op=31 then ((0,0,0,7),true)
 else if op=35∨op=36 then ((1,0,0,8),true)
 else ((0,0,0,0),false)
def soundB (p:Prg) (i:Ins):Bool:=
 (form i.op).2 && mayB p (form i.op).1.1 (u64 i.a) && mayB p (form i.op).1.2.1 (u64 i.b) && mayB p (form i.op).1.2.2.1 (u64 i.c) && mayB p (form i.op).1.2.2.2 i.n
def withinB (n l m:Int):Bool:=decide (l≤n) && decide (n≤m)
def allWithinB (xs:List Int) (l m:Int):Bool:=xs.all fun n=>withinB n l m
def codeFitsB (fs:List (List Ins)):Bool:=withinB fs.length 1 8 && fs.all fun c=>decide (c.length≤256)
def objectsFitB (p:Prg):Bool:=
 withinB p.words 0 64 && withinB p.mutexes 0 4 && withinB p.conds 0 4 && decide (p.sems.length≤4) && allWithinB p.sems 0 1048576 &&
 decide (p.pipes.length≤4) && allWithinB p.pipes 1 8 && withinB p.blocks 0 64 && withinB p.prio 0 7
def allSoundB (p:Prg):Bool:=p.funcs.all fun c=>c.all fun i=>soundB p i
def check (p:Prg):Int:=if (codeFitsB p.funcs && objectsFitB p)=false then 9 else if allSoundB p=false then 8 else 0
def classOf (op:Int):Int:=if withinB op 1 19 then 1 else if withinB op 20 32 then 2 else if withinB op 33 38 then 3 else 0
def seenB (op:Int):Bool:=withinB op 18 38
def most (p:Prg) (c:UInt8):Int:=
 if c=99 then 257 else if c=102 then p.funcs.length else if c=109 then p.mutexes else if c=107 then p.conds
 else if c=115 then p.sems.length else if c=112 then p.pipes.length else 0
theorem zjz (p:Prg) (v:Int):mayB p 2 v=true:=by unfold mayB;rfl
structure Prg.ok (p:Prg):Prop where
 mutexes:i64 p.mutexes
 conds:i64 p.conds
 funcsL:(p.funcs.length:Int)≤9223372036854775807
 semsL:(p.sems.length:Int)≤9223372036854775807
 pipesL:(p.pipes.length:Int)≤9223372036854775807
abbrev StS:=List (Nat × Bool)
def tk (st:StS) (k:Nat):Nat:=(st.getD k (0,false)).1
def us (st:StS) (k:Nat):Bool:=(st.getD k (0,false)).2
def hd (st:StS) (k:Nat):Nat:=tk st k*65536+k+1
def least (st:StS):Nat:=st.findIdx fun x=>!x.2
def put (st:StS) (k t:Nat) (b:Bool):StS:=st.set k (t,b)
def taken (st:StS):StS:=put st (least st) (tk st (least st)+1) true
def find (st:StS) (h:Nat):Option Nat:=if h % 65536=0 then none else if us st (h % 65536 - 1) && hd st (h % 65536 - 1) == h then some (h % 65536 - 1) else none
def freed (st:StS) (h:Nat):StS:=match find st h with
 | none=>st
 | some k=>put st k (tk st k) false
def blank (n:Nat):StS:=List.replicate n (0,false)
def clamp (n:Int):Nat:=if n < 0 then 0 else if 1024 < n then 1024 else n.toNat
def Small (M:Nat) (st:StS):Prop:=st.length≤1024∧∀ k,tk st k≤M
theorem zcm {st:StS} {k:Nat} (h:us st k=true):k < st.length:=by
 by_cases hk:k < st.length
 ·exact hk
 ·unfold us at h
  rw [List.getD_eq_getElem?_getD,List.getElem?_eq_none (by omega)] at h
  simp at h
theorem zc5 (st:StS) (k t:Nat) (b:Bool):(put st k t b).length=st.length:=by simp [put]
theorem zha (st:StS) (k t:Nat) (b:Bool) (j:Nat) (hk:k < st.length):us (put st k t b) j=if j=k then b else us st j:=by
 unfold us put
 simp only [List.getD_eq_getElem?_getD,List.getElem?_set]
 by_cases h:k=j
 ·subst h;simp [hk]
 ·simp [h,Ne.symm h]
theorem zkp (st:StS) (k t:Nat) (b:Bool) (j:Nat) (hk:k < st.length):tk (put st k t b) j=if j=k then t else tk st j:=by
 unfold tk put
 simp only [List.getD_eq_getElem?_getD,List.getElem?_set]
 by_cases h:k=j
 ·subst h;simp [hk]
 ·simp [h,Ne.symm h]
theorem zgz (st:StS):least st≤st.length:=List.findIdx_le_length
theorem least_us {st:StS} {k:Nat} (h:k < least st):us st k=true:=by
 have hl:=zgz st
 have:=List.not_of_lt_findIdx h
 unfold us
 rw [List.getD_eq_getElem?_getD,List.getElem?_eq_getElem (by omega)]
 simpa using this
theorem zbh {st:StS} (h:least st < st.length):us st (least st)=false:=by
 have h2:=List.findIdx_getElem (p:=fun x:Nat × Bool=>!x.2) (w:=h)
 unfold us
 rw [List.getD_eq_getElem?_getD,List.getElem?_eq_getElem h]
 cases hx:st[least st].2 with
 | false=>simpa using hx
 | true=>
  have h3:(!st[least st].2)=true:=h2
  rw [hx] at h3
  cases h3
theorem least_eq {st:StS} {k:Nat} (h:∀ j,j < k→us st j=true) (hk:us st k=false) (hl:k < st.length):least st=k:=by
 rcases Nat.lt_trichotomy (least st) k with h1 | h1 | h1
 ·have:=zbh (st:=st) (by omega)
  rw [h _ h1] at this
  cases this
 ·exact h1
 ·have:=least_us h1
  rw [hk] at this
  cases this
theorem zjv {st:StS} (h:∀ j,j < st.length→us st j=true):least st=st.length:=by
 have:=zgz st
 by_cases h1:least st < st.length
 ·have h2:=zbh h1
  rw [h _ h1] at h2
  cases h2
 ·omega
theorem Small.put {M:Nat} {st:StS} {k t:Nat} {b:Bool} (h:Small M st) (hk:k < st.length) (ht:t≤M):Small M (put st k t b):=by
 refine ⟨by rw [zc5];exact h.1,fun j=>?_⟩
 rw [zkp _ _ _ _ _ hk]
 split
 ·exact ht
 ·exact h.2 j
theorem Small.mono {M M':Nat} {st:StS} (h:Small M st) (hM:M≤M'):Small M' st:=⟨h.1,fun k=>Nat.le_trans (h.2 k) hM⟩
theorem Small.blank {n:Nat} (h:n≤1024):Small 0 (blank n):=by
 refine ⟨by simp [Dk.blank,h],fun k=>?_⟩
 unfold tk Dk.blank
 simp only [List.getD_eq_getElem?_getD,List.getElem?_replicate]
 split <;> simp
theorem us_blank (n k:Nat):us (blank n) k=false:=by
 unfold us Dk.blank
 simp only [List.getD_eq_getElem?_getD,List.getElem?_replicate]
 split <;> simp
theorem tk_blank (n k:Nat):tk (blank n) k=0:=by
 unfold tk Dk.blank
 simp only [List.getD_eq_getElem?_getD,List.getElem?_replicate]
 split <;> simp
theorem hd_mod {st:StS} {k:Nat} (hk:k < 1024):hd st k % 65536=k+1:=by unfold hd;omega
theorem hd_lt {M:Nat} {st:StS} {k:Nat} (h:Small M st) (hM:M≤100000) (hk:k < 1024):hd st k < 18446744073709551616:=by
 have:=h.2 k
 unfold hd
 omega
theorem zay {st:StS} {h k:Nat} (e:find st h=some k):us st k=true∧hd st k=h∧k < st.length∧h % 65536=k+1:=by
 unfold find at e
 split at e
 ·cases e
 ·split at e
  ·rename_i h1 h2
   obtain rfl:=Option.some.inj e
   simp only [Bool.and_eq_true,beq_iff_eq] at h2
   exact ⟨h2.1,h2.2,zcm h2.1,by omega⟩
  ·cases e
theorem zjm (st:StS) (h:Nat):(freed st h).length=st.length:=by
 unfold freed
 split
 ·rfl
 ·exact zc5 _ _ _ _
theorem freed_tk (st:StS) (h k:Nat):tk (freed st h) k=tk st k:=by
 unfold freed
 split
 ·rfl
 ·rename_i j e
  rw [zkp _ _ _ _ _ (zay e).2.2.1]
  split
  ·rename_i e2;rw [e2]
  ·rfl
end Dk
