import Derived.Test.YtglhhlfopccmaaaGreatOw02
import Derived.WalkKit
import Derived.WalkSpells
import Derived.WalkLawsBesides
import Derived.Deep.Draws
set_option linter.unusedSimpArgs false
set_option linter.unusedVariables false
set_option linter.unnecessarySimpa false
set_option maxHeartbeats 8000000
set_option maxRecDepth 100000
namespace Go.Proofs.YtglhhlfopccmaaaGreat
open Go.RowKit
theorem call30 (a:Nat) (w:World):(callFunc 177 #[.int .u64 a]).run Tryz.prog w=.ok (.value (.float .f64 a)) w:=by
 rw [run_callFunc_extern Tryz.func177 (by kernel_rfl) (by kernel_rfl) (by kernel_rfl) (e:=Extern.MathFloatBits.float64frombits) (by kernel_rfl)];rfl
theorem call32 (a:Nat) (w:World):(callFunc 179 #[.float .f64 a]).run Tryz.prog w=.ok (.value (.int .u64 a)) w:=by
 rw [run_callFunc_extern Tryz.func179 (by kernel_rfl) (by kernel_rfl) (by kernel_rfl) (e:=Extern.MathFloatBits.float64bits) (by kernel_rfl)];rfl
theorem zap (a:Nat) (w:World) :
  Calls Tryz.prog 219 #[.int .u64 a] w fun e w'=>e=.returned (.float .f64 a)∧w'=w:=by
 have hc:=call30
 go_enter Tryz.func219,Tryz.ntmps219
 go_wp2
 go_ret
 exact ⟨rfl,rfl⟩
theorem zbc (a:Nat) (w:World) :
  Calls Tryz.prog 223 #[.float .f64 a] w fun e w'=>e=.returned (.bool (Dk.nn a))∧w'=w:=by
 go_enter Tryz.func223,Tryz.ntmps223
 go_wp2
 go_ret
 exact ⟨by rw [← Dk.zmj];rfl,rfl⟩
theorem zc9 (a:Nat) (w:World) (h:Dk.nn a=false) :
  Calls Tryz.prog 220 #[.float .f64 a] w fun e w'=>e=.returned (.int .u64 a)∧w'=w:=by
 have hc:=call32
 go_enter Tryz.func220,Tryz.ntmps220
 go_wp2_with (go_at_call 223;refine (zbc _ _).mono ?_;rintro e w' ⟨rfl,rfl⟩)
 go_ret
 exact ⟨rfl,rfl⟩
theorem zea (a:Nat) (w:World) (h:Dk.nn a=true) :
  Calls Tryz.prog 220 #[.float .f64 a] w fun e w'=>e=.returned (.int .u64 9221120237041090560)∧w'=w:=by
 go_enter Tryz.func220,Tryz.ntmps220
 go_wp2_with (go_at_call 223;refine (zbc _ _).mono ?_;rintro e w' ⟨rfl,rfl⟩)
 go_ret
 exact ⟨rfl,rfl⟩
theorem zhk (op:BinOp) (t:TypeId) (x y:Nat) (w:World) (ho:op=.add∨op=.sub∨op=.mul∨op=.quo) (h:floatBits op .f64 x y=none) :
  ∃ r,Dk.nn r=true∧r < 18446744073709551616∧(binOp op t (.float .f64 x) (.float .f64 y)).run Tryz.prog w=.ok (.float .f64 r) w.drew:=by
 refine ⟨(Question.nanBits .f64 x y).cut (w.tape w.drawn (.nanBits .f64 x y)),?_,?_,?_⟩
 ·simp only [Question.cut]
  generalize w.tape w.drawn (.nanBits .f64 x y)=t
  unfold Dk.nn Dk.rg
  rw [decide_eq_true_iff]
  have h2:t % 2=0∨t % 2=1:=by omega
  rcases h2 with h2 | h2 <;> rw [h2] <;> omega
 ·simp only [Question.cut]
  generalize w.tape w.drawn (.nanBits .f64 x y)=t
  have h2:t % 2=0∨t % 2=1:=by omega
  rcases h2 with h2 | h2 <;> rw [h2] <;> omega
 ·unfold floatBits at h
  rcases ho with rfl | rfl | rfl | rfl <;> simp only at h <;> simp [binOp,Op.floatArith,h,Question.forced]
theorem Add_any (a b:Nat) (w:World) :
  Calls Tryz.prog 184 #[.int .u64 a,.int .u64 b] w fun e w'=>e=.returned (.int .u64 (Dk.nAdd a b))∧∃ n,w'=w.drewN n:=by
 cases h:Ieee.double.add a b with
 | some r=>
  have hrun:=fun w=>run_float_arith (P:=Tryz.prog) w .add 310 .f64 a b r h
  have hn:Dk.nn r=false:=Dk.nn_add h
  have e:Dk.nAdd a b=r:=by unfold Dk.nAdd Dk.out;rw [h];rfl
  rw [e]
  clear e h
  go_enter Tryz.func184,Tryz.ntmps184
  go_wp2_with (first | (go_at_call 219;refine (zap _ _).mono ?_;rintro e w' ⟨rfl,rfl⟩) | (go_at_call 220;refine (zc9 _ _ hn).mono ?_;rintro e w' ⟨rfl,rfl⟩))
  go_ret
  exact ⟨rfl,0,rfl⟩
 | none=>
  obtain ⟨r,hr,_,hrun⟩:=zhk .add 310 a b w (by simp) h
  have e:Dk.nAdd a b=9221120237041090560:=by unfold Dk.nAdd Dk.out;rw [h];rfl
  rw [e]
  clear e h
  go_enter Tryz.func184,Tryz.ntmps184
  go_wp2_with (first | (go_at_call 219;refine (zap _ _).mono ?_;rintro e w' ⟨rfl,rfl⟩) | (go_at_call 220;refine (zea _ _ hr).mono ?_;rintro e w' ⟨rfl,rfl⟩))
  go_ret
  exact ⟨rfl,1,rfl⟩
theorem Sub_any (a b:Nat) (w:World) :
  Calls Tryz.prog 185 #[.int .u64 a,.int .u64 b] w fun e w'=>e=.returned (.int .u64 (Dk.nSub a b))∧∃ n,w'=w.drewN n:=by
 cases h:Ieee.double.sub a b with
 | some r=>
  have hrun:=fun w=>run_float_arith (P:=Tryz.prog) w .sub 310 .f64 a b r h
  have hn:Dk.nn r=false:=Dk.nn_sub h
  have e:Dk.nSub a b=r:=by unfold Dk.nSub Dk.out;rw [h];rfl
  rw [e]
  clear e h
  go_enter Tryz.func185,Tryz.ntmps185
  go_wp2_with (first | (go_at_call 219;refine (zap _ _).mono ?_;rintro e w' ⟨rfl,rfl⟩) | (go_at_call 220;refine (zc9 _ _ hn).mono ?_;rintro e w' ⟨rfl,rfl⟩))
  go_ret
  exact ⟨rfl,0,rfl⟩
 | none=>
  obtain ⟨r,hr,_,hrun⟩:=zhk .sub 310 a b w (by simp) h
  have e:Dk.nSub a b=9221120237041090560:=by unfold Dk.nSub Dk.out;rw [h];rfl
  rw [e]
  clear e h
  go_enter Tryz.func185,Tryz.ntmps185
  go_wp2_with (first | (go_at_call 219;refine (zap _ _).mono ?_;rintro e w' ⟨rfl,rfl⟩) | (go_at_call 220;refine (zea _ _ hr).mono ?_;rintro e w' ⟨rfl,rfl⟩))
  go_ret
  exact ⟨rfl,1,rfl⟩
theorem Mul_any (a b:Nat) (w:World) :
  Calls Tryz.prog 186 #[.int .u64 a,.int .u64 b] w fun e w'=>e=.returned (.int .u64 (Dk.nMul a b))∧∃ n,w'=w.drewN n:=by
 cases h:Ieee.double.mul a b with
 | some r=>
  have hrun:=fun w=>run_float_arith (P:=Tryz.prog) w .mul 310 .f64 a b r h
  have hn:Dk.nn r=false:=Dk.nn_mul h
  have e:Dk.nMul a b=r:=by unfold Dk.nMul Dk.out;rw [h];rfl
  rw [e]
  clear e h
  go_enter Tryz.func186,Tryz.ntmps186
  go_wp2_with (first | (go_at_call 219;refine (zap _ _).mono ?_;rintro e w' ⟨rfl,rfl⟩) | (go_at_call 220;refine (zc9 _ _ hn).mono ?_;rintro e w' ⟨rfl,rfl⟩))
  go_ret
  exact ⟨rfl,0,rfl⟩
 | none=>
  obtain ⟨r,hr,_,hrun⟩:=zhk .mul 310 a b w (by simp) h
  have e:Dk.nMul a b=9221120237041090560:=by unfold Dk.nMul Dk.out;rw [h];rfl
  rw [e]
  clear e h
  go_enter Tryz.func186,Tryz.ntmps186
  go_wp2_with (first | (go_at_call 219;refine (zap _ _).mono ?_;rintro e w' ⟨rfl,rfl⟩) | (go_at_call 220;refine (zea _ _ hr).mono ?_;rintro e w' ⟨rfl,rfl⟩))
  go_ret
  exact ⟨rfl,1,rfl⟩
theorem Div_any (a b:Nat) (w:World) :
  Calls Tryz.prog 187 #[.int .u64 a,.int .u64 b] w fun e w'=>e=.returned (.int .u64 (Dk.nDiv a b))∧∃ n,w'=w.drewN n:=by
 cases h:Ieee.double.div a b with
 | some r=>
  have hrun:=fun w=>run_float_arith (P:=Tryz.prog) w .quo 310 .f64 a b r h
  have hn:Dk.nn r=false:=Dk.nn_div h
  have e:Dk.nDiv a b=r:=by unfold Dk.nDiv Dk.out;rw [h];rfl
  rw [e]
  clear e h
  go_enter Tryz.func187,Tryz.ntmps187
  go_wp2_with (first | (go_at_call 219;refine (zap _ _).mono ?_;rintro e w' ⟨rfl,rfl⟩) | (go_at_call 220;refine (zc9 _ _ hn).mono ?_;rintro e w' ⟨rfl,rfl⟩))
  go_ret
  exact ⟨rfl,0,rfl⟩
 | none=>
  obtain ⟨r,hr,_,hrun⟩:=zhk .quo 310 a b w (by simp) h
  have e:Dk.nDiv a b=9221120237041090560:=by unfold Dk.nDiv Dk.out;rw [h];rfl
  rw [e]
  clear e h
  go_enter Tryz.func187,Tryz.ntmps187
  go_wp2_with (first | (go_at_call 219;refine (zap _ _).mono ?_;rintro e w' ⟨rfl,rfl⟩) | (go_at_call 220;refine (zea _ _ hr).mono ?_;rintro e w' ⟨rfl,rfl⟩))
  go_ret
  exact ⟨rfl,1,rfl⟩
theorem zkh (a b:Nat) (w:World) :
  Calls Tryz.prog 190 #[.int .u64 a,.int .u64 b] w fun e w'=>e=.returned (.bool (Dk.lt a b))∧w'=w:=by
 go_enter Tryz.func190,Tryz.ntmps190
 go_wp2_with (go_at_call 219;refine (zap _ _).mono ?_;rintro e w' ⟨rfl,rfl⟩)
 go_ret
 exact ⟨by rw [← Dk.zk5];rfl,rfl⟩
theorem zcw (a b:Nat) (w:World) :
  Calls Tryz.prog 221 #[.int .u64 a,.int .u64 b] w fun e w'=>e=.returned (.bool (Dk.nn a || Dk.nn b))∧w'=w:=by
 cases h:Dk.nn a
 all_goals
  go_enter Tryz.func221,Tryz.ntmps221
  go_wp2_with (first | (go_at_call 219;refine (zap _ _).mono ?_;rintro e w' ⟨rfl,rfl⟩) | (go_at_call 223;refine (zbc _ _).mono ?_;rintro e w' ⟨rfl,rfl⟩))
  go_ret
  exact ⟨by simp,rfl⟩
theorem zfz (a b:Nat) (w:World) :
  Calls Tryz.prog 222 #[.int .u64 a,.int .u64 b] w fun e w'=>e=.returned (.bool (Dk.bef a b))∧w'=w:=by
 have ho:(FloatKind.f64.format.order a b == some Ordering.eq)=Dk.eq a b:=Dk.zhd a b
 unfold Dk.bef
 cases h:Dk.eq a b
 all_goals
  go_enter Tryz.func222,Tryz.ntmps222
  go_wp2_with (first | (go_at_call 219;refine (zap _ _).mono ?_;rintro e w' ⟨rfl,rfl⟩) | (go_at_call 190;refine (zkh _ _ _).mono ?_;rintro e w' ⟨rfl,rfl⟩))
  go_ret
  exact ⟨by simp,rfl⟩
theorem Min_any (a b:Nat) (w:World) :
  Calls Tryz.prog 188 #[.int .u64 a,.int .u64 b] w fun e w'=>e=.returned (.int .u64 (Dk.nMin a b))∧w'=w:=by
 unfold Dk.nMin
 cases h:(Dk.nn a || Dk.nn b) <;> cases h2:Dk.bef a b
 all_goals
  go_enter Tryz.func188,Tryz.ntmps188
  go_wp2_with (first | (go_at_call 221;refine (zcw _ _ _).mono ?_;rintro e w' ⟨rfl,rfl⟩) | (go_at_call 222;refine (zfz _ _ _).mono ?_;rintro e w' ⟨rfl,rfl⟩))
  go_ret
  exact ⟨by simp,rfl⟩
theorem Max_any (a b:Nat) (w:World) :
  Calls Tryz.prog 189 #[.int .u64 a,.int .u64 b] w fun e w'=>e=.returned (.int .u64 (Dk.nMax a b))∧w'=w:=by
 unfold Dk.nMax
 cases h:(Dk.nn a || Dk.nn b) <;> cases h2:Dk.bef a b
 all_goals
  go_enter Tryz.func189,Tryz.ntmps189
  go_wp2_with (first | (go_at_call 221;refine (zcw _ _ _).mono ?_;rintro e w' ⟨rfl,rfl⟩) | (go_at_call 222;refine (zfz _ _ _).mono ?_;rintro e w' ⟨rfl,rfl⟩))
  go_ret
  exact ⟨by simp,rfl⟩
theorem zi9 (a:Nat) (w:World) (h:a < 18446744073709551616) :
  Calls Tryz.prog 192 #[.int .u64 a] w fun e w'=>e=.returned (.int .u64 (Dk.tF a))∧w'=w:=by
 have hf:floatOfInt .f64 (wrap64 a)=Dk.tF a:=by
  refine Dk.zgl h (wrap64 a) ?_
  unfold wrap64
  split <;> omega
 have hn:=(Dk.nn_tF h).1
 clear h
 go_enter Tryz.func192,Tryz.ntmps192
 go_wp2_with (go_at_call 220;refine (zc9 _ _ hn).mono ?_;rintro e w' ⟨rfl,rfl⟩)
 go_ret
 exact ⟨rfl,rfl⟩
theorem znk (a:Nat) (w:World) :
  Calls Tryz.prog 191 #[.int .u64 a] w fun e w'=>e=.returned (.int .u64 (Dk.tI a))∧w'=w:=by
 cases n:Dk.nn a
 ·have g:(FloatKind.f64.format.order a 4890909195324358656 == some Ordering.gt || FloatKind.f64.format.order a 4890909195324358656 == some Ordering.eq)=decide (4890909195324358656≤Dk.key a):=by
   rw [← Dk.far_ge n,← Dk.order_gt,← Dk.zhd];rfl
  have l:(FloatKind.f64.format.order a 14114281232179134464 == some Ordering.lt)=decide (Dk.key a < -4890909195324358656):=by
   rw [← Dk.near_lt n,← Dk.zk5];rfl
  by_cases h1:4890909195324358656≤Dk.key a
  ·rw [Dk.tI_far n h1]
   rw [decide_eq_true h1] at g
   clear l h1
   go_enter Tryz.func191,Tryz.ntmps191
   go_wp2_with (first | (go_at_call 219;refine (zap _ _).mono ?_;rintro e w' ⟨rfl,rfl⟩) | (go_at_call 223;refine (zbc _ _).mono ?_;rintro e w' ⟨rfl,rfl⟩))
   go_ret
   exact ⟨rfl,rfl⟩
  ·rw [decide_eq_false h1] at g
   by_cases h2:Dk.key a < -4890909195324358656
   ·rw [Dk.tI_near n h2]
    rw [decide_eq_true h2] at l
    clear h1 h2
    go_enter Tryz.func191,Tryz.ntmps191
    go_wp2_with (first | (go_at_call 219;refine (zap _ _).mono ?_;rintro e w' ⟨rfl,rfl⟩) | (go_at_call 223;refine (zbc _ _).mono ?_;rintro e w' ⟨rfl,rfl⟩))
    go_ret
    exact ⟨rfl,rfl⟩
   ·rw [decide_eq_false h2] at l
    obtain ⟨v,hv,hw⟩:=Dk.zqa n h1 h2
    have hc:=fun w=>run_convert_float_int (P:=Tryz.prog) w 310 2 .f64 .i64 a v (by kernel_rfl) (by kernel_rfl) hv
    have HW:Hid (v % 18446744073709551616=(Dk.tI a:Int)):=hw
    clear h1 h2 hv hw
    go_enter Tryz.func191,Tryz.ntmps191
    go_wp2_with (first | (go_at_call 219;refine (zap _ _).mono ?_;rintro e w' ⟨rfl,rfl⟩) | (go_at_call 223;refine (zbc _ _).mono ?_;rintro e w' ⟨rfl,rfl⟩))
    go_ret
    exact ⟨by rw [← HW.out,← IntKind.wrap_u64];rfl,rfl⟩
 ·rw [Dk.tI_nan n]
  go_enter Tryz.func191,Tryz.ntmps191
  go_wp2_with (first | (go_at_call 219;refine (zap _ _).mono ?_;rintro e w' ⟨rfl,rfl⟩) | (go_at_call 223;refine (zbc _ _).mono ?_;rintro e w' ⟨rfl,rfl⟩))
  go_ret
  exact ⟨rfl,rfl⟩
end Go.Proofs.YtglhhlfopccmaaaGreat
namespace Dk
structure Ins where
 op:Int
 a:Int
 b:Int
 c:Int
 n:Nat
structure Prg where
 funcs:List (List Ins)
 words:Int
 mutexes:Int
 conds:Int
 sems:List Int
 pipes:List Int
 blocks:Int
 prio:Int
def i64 (x:Int):Prop:=-9223372036854775808≤x∧x≤9223372036854775807
structure Ins.ok (i:Ins):Prop where
 op:i64 i.op
 a:i64 i.a
 b:i64 i.b
 c:i64 i.c
 n:i.n < 18446744073709551616
def u64 (x:Int):Int:=x % 18446744073709551616
def choices (p:Prg) (x:Int):Int:=
 if x=0 then 1 else if x=1 then 8 else if x=3 then 257 else if x=4 then p.funcs.length else if x=5 then p.mutexes
 else if x=6 then p.conds else if x=7 then p.sems.length else if x=8 then p.pipes.length else 0
def mayB (p:Prg) (x v:Int):Bool:=(x == 2) || decide (v < max 0 (choices p x))
def form (op:Int):(Int × Int × Int × Int) × Bool:=
 if op=1 then ((1,0,0,2),true)
 else if op=2∨op=14∨op=15∨op=18∨op=19∨op=21∨op=33∨op=34 then ((1,1,0,0),true)
 else if 3≤op∧op≤13 then ((1,1,1,0),true)
 else if op=16 then ((0,0,0,3),true)
 else if op=17 then ((1,0,0,3),true)
 else if op=20 then ((1,1,0,4),true)
 else if op=22∨op=23∨op=32∨op=37∨op=38 then ((1,0,0,0),true)
 else if op=24 then ((0,0,0,0),true)
 else if op=25∨op=26 then ((0,0,0,5),true)
 else if op=27 then ((0,0,5,6),true)
 else if op=28∨op=29 then ((0,0,0,6),true)
 else if op=30∨op=31 then ((0,0,0,7),true)
 else if op=35∨op=36 then ((1,0,0,8),true)
 else ((0,0,0,0),false)
def soundB (p:Prg) (i:Ins):Bool:=
 (form i.op).2 && mayB p (form i.op).1.1 (u64 i.a) && mayB p (form i.op).1.2.1 (u64 i.b) && mayB p (form i.op).1.2.2.1 (u64 i.c) && mayB p (form i.op).1.2.2.2 i.n
def withinB (n l m:Int):Bool:=decide (l≤n) && decide (n≤m)
def allWithinB (xs:List Int) (l m:Int):Bool:=xs.all fun n=>withinB n l m
def codeFitsB (fs:List (List Ins)):Bool:=withinB fs.length 1 8 && fs.all fun c=>decide (c.length≤256)
def objectsFitB (p:Prg):Bool:=
 withinB p.words 0 64 && withinB p.mutexes 0 4 && withinB p.conds 0 4 && decide (p.sems.length≤4) && allWithinB p.sems 0 1048576 &&
 decide (p.pipes.length≤4) && allWithinB p.pipes 1 8 && withinB p.blocks 0 64 && withinB p.prio 0 7
def allSoundB (p:Prg):Bool:=p.funcs.all fun c=>c.all fun i=>soundB p i
def check (p:Prg):Int:=if (codeFitsB p.funcs && objectsFitB p)=false then 9 else if allSoundB p=false then 8 else 0
def classOf (op:Int):Int:=if withinB op 1 19 then 1 else if withinB op 20 32 then 2 else if withinB op 33 38 then 3 else 0
def seenB (op:Int):Bool:=withinB op 18 38
def most (p:Prg) (c:UInt8):Int:=
 if c=99 then 257 else if c=102 then p.funcs.length else if c=109 then p.mutexes else if c=107 then p.conds
 else if c=115 then p.sems.length else if c=112 then p.pipes.length else 0
theorem zo2 (p:Prg) (v:Int):mayB p 2 v=true:=by unfold mayB;rfl
structure Prg.ok (p:Prg):Prop where
 mutexes:i64 p.mutexes
 conds:i64 p.conds
 funcsL:(p.funcs.length:Int)≤9223372036854775807
 semsL:(p.sems.length:Int)≤9223372036854775807
 pipesL:(p.pipes.length:Int)≤9223372036854775807
abbrev StS:=List (Nat × Bool)
def tk (st:StS) (k:Nat):Nat:=(st.getD k (0,false)).1
def us (st:StS) (k:Nat):Bool:=(st.getD k (0,false)).2
def hd (st:StS) (k:Nat):Nat:=tk st k*65536+k+1
def least (st:StS):Nat:=st.findIdx fun x=>!x.2
def put (st:StS) (k t:Nat) (b:Bool):StS:=st.set k (t,b)
def taken (st:StS):StS:=put st (least st) (tk st (least st)+1) true
def find (st:StS) (h:Nat):Option Nat:=if h % 65536=0 then none else if us st (h % 65536 - 1) && hd st (h % 65536 - 1) == h then some (h % 65536 - 1) else none
def freed (st:StS) (h:Nat):StS:=match find st h with
 | none=>st
 | some k=>put st k (tk st k) false
def blank (n:Nat):StS:=List.replicate n (0,false)
def clamp (n:Int):Nat:=if n < 0 then 0 else if 1024 < n then 1024 else n.toNat
def Small (M:Nat) (st:StS):Prop:=st.length≤1024∧∀ k,tk st k≤M
theorem zd8 {st:StS} {k:Nat} (h:us st k=true):k < st.length:=by
 by_cases hk:k < st.length
 ·exact hk
 ·unfold us at h
  rw [List.getD_eq_getElem?_getD,List.getElem?_eq_none (by omega)] at h
  simp at h
theorem ze8 (st:StS) (k t:Nat) (b:Bool):(put st k t b).length=st.length:=by simp [put]
theorem zqh (st:StS) (k t:Nat) (b:Bool) (j:Nat) (hk:k < st.length):us (put st k t b) j=if j=k then b else us st j:=by
 unfold us put
 simp only [List.getD_eq_getElem?_getD,List.getElem?_set]
 by_cases h:k=j
 ·subst h;simp [hk]
 ·simp [h,Ne.symm h]
theorem tk_put (st:StS) (k t:Nat) (b:Bool) (j:Nat) (hk:k < st.length):tk (put st k t b) j=if j=k then t else tk st j:=by
 unfold tk put
 simp only [List.getD_eq_getElem?_getD,List.getElem?_set]
 by_cases h:k=j
 ·subst h;simp [hk]
 ·simp [h,Ne.symm h]
theorem zk0 (st:StS):least st≤st.length:=List.findIdx_le_length
theorem least_us {st:StS} {k:Nat} (h:k < least st):us st k=true:=by
 have hl:=zk0 st
 have:=List.not_of_lt_findIdx h
 unfold us
 rw [List.getD_eq_getElem?_getD,List.getElem?_eq_getElem (by omega)]
 simpa using this
theorem zcq {st:StS} (h:least st < st.length):us st (least st)=false:=by
 have h2:=List.findIdx_getElem (p:=fun x:Nat × Bool=>!x.2) (w:=h)
 unfold us
 rw [List.getD_eq_getElem?_getD,List.getElem?_eq_getElem h]
 cases hx:st[least st].2 with
 | false=>simpa using hx
 | true=>
  have h3:(!st[least st].2)=true:=h2
  rw [hx] at h3
  cases h3
theorem least_eq {st:StS} {k:Nat} (h:∀ j,j < k→us st j=true) (hk:us st k=false) (hl:k < st.length):least st=k:=by
 rcases Nat.lt_trichotomy (least st) k with h1 | h1 | h1
 ·have:=zcq (st:=st) (by omega)
  rw [h _ h1] at this
  cases this
 ·exact h1
 ·have:=least_us h1
  rw [hk] at this
  cases this
theorem zoz {st:StS} (h:∀ j,j < st.length→us st j=true):least st=st.length:=by
 have:=zk0 st
 by_cases h1:least st < st.length
 ·have h2:=zcq h1
  rw [h _ h1] at h2
  cases h2
 ·omega
theorem Small.put {M:Nat} {st:StS} {k t:Nat} {b:Bool} (h:Small M st) (hk:k < st.length) (ht:t≤M):Small M (put st k t b):=by
 refine ⟨by rw [ze8];exact h.1,fun j=>?_⟩
 rw [tk_put _ _ _ _ _ hk]
 split
 ·exact ht
 ·exact h.2 j
theorem Small.mono {M M':Nat} {st:StS} (h:Small M st) (hM:M≤M'):Small M' st:=⟨h.1,fun k=>Nat.le_trans (h.2 k) hM⟩
theorem Small.blank {n:Nat} (h:n≤1024):Small 0 (blank n):=by
 refine ⟨by simp [Dk.blank,h],fun k=>?_⟩
 unfold tk Dk.blank
 simp only [List.getD_eq_getElem?_getD,List.getElem?_replicate]
 split <;> simp
theorem us_blank (n k:Nat):us (blank n) k=false:=by
 unfold us Dk.blank
 simp only [List.getD_eq_getElem?_getD,List.getElem?_replicate]
 split <;> simp
theorem tk_blank (n k:Nat):tk (blank n) k=0:=by
 unfold tk Dk.blank
 simp only [List.getD_eq_getElem?_getD,List.getElem?_replicate]
 split <;> simp
theorem hd_mod {st:StS} {k:Nat} (hk:k < 1024):hd st k % 65536=k+1:=by unfold hd;omega
theorem hd_lt {M:Nat} {st:StS} {k:Nat} (h:Small M st) (hM:M≤100000) (hk:k < 1024):hd st k < 18446744073709551616:=by
 have:=h.2 k
 unfold hd
 omega
theorem zbo {st:StS} {h k:Nat} (e:find st h=some k):us st k=true∧hd st k=h∧k < st.length∧h % 65536=k+1:=by
 unfold find at e
 split at e
 ·cases e
 ·split at e
  ·rename_i h1 h2
   obtain rfl:=Option.some.inj e
   simp only [Bool.and_eq_true,beq_iff_eq] at h2
   exact ⟨h2.1,h2.2,zd8 h2.1,by omega⟩
  ·cases e
theorem zot (st:StS) (h:Nat):(freed st h).length=st.length:=by
 unfold freed
 split
 ·rfl
 ·exact ze8 _ _ _ _
theorem freed_tk (st:StS) (h k:Nat):tk (freed st h) k=tk st k:=by
 unfold freed
 split
 ·rfl
 ·rename_i j e
  rw [tk_put _ _ _ _ _ (zbo e).2.2.1]
  split
  ·rename_i e2;rw [e2]
  ·rfl
end Dk
