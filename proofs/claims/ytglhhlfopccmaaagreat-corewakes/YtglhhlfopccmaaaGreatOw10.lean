import Derived.Test.YtglhhlfopccmaaaGreatOw09
import Derived.Defers
import Derived.Recover
set_option linter.unusedSimpArgs false
set_option linter.unusedVariables false
set_option linter.unnecessarySimpa false
set_option maxHeartbeats 8000000
set_option maxRecDepth 100000
namespace Go.Proofs.YtglhhlfopccmaaaGreat
open Go.RowKit
theorem zls (w:World) (v:Value):(Instr.typeAssert (.iface 252 v) 20 252 true).run Tryz.prog w=.ok (.tuple #[v,.bool true]) w:=by kernel_rfl
theorem zif (v:Value) (w:World) :
  Calls Tryz.prog 121 #[.iface 252 v] w fun e w'=>e=.returned (.int .i64 6)∧w'=w:=by
 have h1:=zls w v
 go_enter Tryz.func121,Tryz.ntmps121
 go_wp2
 go_ret
 exact ⟨rfl,rfl⟩
theorem zlu (p q r:Addr) (w:World) :
  CallsD Tryz.prog 120 #[.pointer (some p),.pointer (some q),.pointer (some r)] .returning w fun e u' w'=>e=.returned (.tuple #[])∧u'=.returning∧w'=w:=by
 refine callsD_of_wpS Tryz.func120 rfl fun c₀ cs hu=>?_
 apply wpS_seq
 apply wpS_region
 simp [wpOpsS,go_sem,recoverD,hu,Tryz.ntmps120,Exit.thenS]
 refine wpS_of_wp ?_
 change Code.wp _ _ _ ⟨#[.pointer (some p),.pointer (some q),.pointer (some r),.nilIface,.nilIface,undef,undef,undef,undef,undef],[]⟩ w
 go_wp2
 cases c₀
 simp_all [bodyPostS,results,Tryz.results120]
def CatchSaid (t:TypeId) (v:Value) (b:Nat) (k:Int) (w:World):Prop:=
  CallsD Tryz.prog 120 #[.pointer (some ⟨b,0,none⟩),.pointer (some ⟨b+1,0,none⟩),.pointer (some ⟨b+1+1,0,none⟩)] (.panicking [{ v:=.iface t v,recovered:=false }]) w fun e u' w'=>
   e=.returned (.tuple #[])∧u'=.panicking [{ v:=.iface t v,recovered:=true }]∧Dk.Box w' b (Dk.fc Dk.Frm.zero) 110∧Dk.Box w' (b+1) #[.slice none 0 0] 55∧Dk.Box w' (b+1+1) #[.int .i64 k] 28∧Below b w w'
theorem zn1 (t:TypeId) (v:Value) (b:Nat) (k:Int) (w:World) (c6:Array Value) (x7 x8:Value) (b6:Dk.Box w b c6 110) (b7:Dk.Box w (b+1) #[x7] 55) (b8:Dk.Box w (b+1+1) #[x8] 28) (h6:c6.size=10)
  (hE:∀ w,Calls Tryz.prog 121 #[.iface t v] w fun e w'=>e=.returned (.int .i64 k)∧w'=w):CatchSaid t v b k w:=by
 unfold CatchSaid
 refine callsD_of_wpS Tryz.func120 rfl fun c₀ cs hu=>?_
 apply wpS_seq
 apply wpS_region
 simp [wpOpsS,go_sem,recoverD,hu,Tryz.ntmps120,Exit.thenS]
 refine wpS_of_wp ?_
 change Code.wp _ _ _ ⟨#[.pointer (some ⟨b,0,none⟩),.pointer (some ⟨b+1,0,none⟩),.pointer (some ⟨b+1+1,0,none⟩),.iface t v,.iface t v,undef,undef,undef,undef,undef],[]⟩ w
 obtain ⟨W1,e1⟩:∃ W1,w.setRow b (Dk.fc Dk.Frm.zero)=W1:=⟨_,rfl⟩
 have k6:Dk.Box W1 b (Dk.fc Dk.Frm.zero) 110:=e1 ▸ b6.row
 have k7:Dk.Box W1 (b+1) #[x7] 55:=e1 ▸ b7.zas (by omega)
 have k8:Dk.Box W1 (b+1+1) #[x8] 28:=e1 ▸ b8.zas (by omega)
 have u1:Below b w W1:=e1 ▸ below_setRow (Below.refl _ _) (Nat.le_refl _) _
 have c7:W1.cell? ⟨b+1,0,none⟩=some x7:=k7.cell 0
 have c8:W1.cell? ⟨b+1+1,0,none⟩=some x8:=k8.cell 0
 have f7:=k7.frozen 0
 have f8:=k8.frozen 0
 have HB:Hid _:=b6
 have HE:Hid _:=e1
 have HC:Hid _:=hE
 have K6:Hid _:=k6
 have K7:Hid _:=k7
 have K8:Hid _:=k8
 have U1:Hid _:=u1
 clear b6 b7 b8 e1 hE k6 k7 k8 u1
 go_wp2_with (first | (go_at_call 121;refine (HC.out _).mono ?_;rintro e w' ⟨rfl,rfl⟩) | (refine wpList_store_row rfl 110 _ _ rfl b (Dk.fc Dk.Frm.zero) rfl rfl 110 _ HB.out.heap zai h6 (Dk.zah _) ?_;rw [HE.out]))
 have z6:=(K6.out.zn (b':=b+1) (by omega) 0 (.slice none 0 0)).zn (b':=b+1+1) (by omega) 0 (.int .i64 k)
 have z7:=(K7.out.set 0 (.slice none 0 0)).zn (b':=b+1+1) (by omega) 0 (.int .i64 k)
 have z8:=(K8.out.zn (b':=b+1) (by omega) 0 (.slice none 0 0)).set 0 (.int .i64 k)
 have zu:=(U1.out.setCell (p:=⟨b+1,0,none⟩) (by show b≤b+1;omega) (.slice none 0 0)).setCell (p:=⟨b+1+1,0,none⟩) (by show b≤b+1+1;omega) (.int .i64 k)
 refine ⟨rfl,_,rfl,.tuple #[],by simp [results,Tryz.results120,go_sem],rfl,rfl,z6,z7,z8,zu⟩
end Go.Proofs.YtglhhlfopccmaaaGreat
namespace Dk
theorem code_op {i:Ins} (h:codeB i=true):1≤i.op∧i.op≤19:=by
 unfold codeB withinB at h
 simp only [Bool.and_eq_true,decide_eq_true_eq] at h
 exact h.1
theorem zia {i:Ins} (h:codeB i=true):(1≤regN i.op→0≤i.a∧i.a < 8)∧(2≤regN i.op→0≤i.b∧i.b < 8)∧(3≤regN i.op→0≤i.c∧i.c < 8):=by
 unfold codeB regs at h
 simp only [Bool.and_eq_true] at h
 have h2:=h.2
 rw [List.all_eq_true] at h2
 have key:∀ r,r ∈ [i.a,i.b,i.c].take (regN i.op)→0≤r∧r < 8:=fun r hr=>zc0.1 (h2 r hr)
 generalize regN i.op=k at key
 refine ⟨fun hk=>key _ ?_,fun hk=>key _ ?_,fun hk=>key _ ?_⟩
 ·obtain ⟨j,rfl⟩:∃ j,k=j+1:=⟨k - 1,by omega⟩
  simp
 ·obtain ⟨j,rfl⟩:∃ j,k=j+2:=⟨k - 2,by omega⟩
  simp
 ·obtain ⟨j,rfl⟩:∃ j,k=j+3:=⟨k - 3,by omega⟩
  simp
theorem zmn {op:Int} (h:op≠16∧op≠17∧op≠1∧op≠18∧op≠19∧op≠2∧op≠14∧op≠15):regN op=3:=by
 unfold regN
 rw [if_neg (by omega),if_neg (by omega),if_neg (by omega)]
end Dk
namespace Go.Proofs.YtglhhlfopccmaaaGreat
open Go.RowKit
theorem za9 {e e':Ending} {w w':World} {wb:Nat} {m:List Nat} (he:e=e') (hm:Dk.Box w wb (Dk.wc m) 38) (hb:Below w.heap.size w w'):e=e'∧Below wb w w'∧Dk.Box w' wb (Dk.wc m) 38:=
 ⟨he,hb.mono (Nat.le_of_lt hm.lt),hm.up hb⟩
theorem do_ok (f:Dk.Frm) (i:Dk.Ins) (m:List Nat) (L C:Nat) (w:World) (wb:Nat) (hf:f.ok) (hc:Dk.codeB i=true) (hx:Dk.faultB f i L=false) (hm:Dk.Box w wb (Dk.wc m) 38) (hL:m.length=L) (hmax:L≤maxLen) :
  Calls Tryz.prog 123 #[Dk.fv f,Dk.iv i,.slice (some ⟨wb,0,none⟩) L C] w fun e w'=>e=.returned (Dk.fv (Dk.doneF f i m))∧Below wb w w'∧Dk.Box w' wb (Dk.wc (Dk.doneM f i m)) 38:=by
 obtain ⟨ra,rb,rc⟩:=Dk.zia hc
 have ho:=Dk.code_op hc
 clear hc
 obtain ⟨op,a,b,c,n⟩:=i
 simp only at ra rb rc ho
 by_cases h16:op=16
 ·subst h16
  exact (do_jump f a b c n _ L C w).mono fun e w' ⟨he,hb⟩=>za9 he hm hb
 by_cases h17:op=17
 ·subst h17
  obtain ⟨a0,a8⟩:=ra (by decide)
  have eM:Dk.doneM f ⟨17,a,b,c,n⟩ m=m:=rfl
  rw [eM]
  by_cases hz:f.r a.toNat=0
  ·have eF:Dk.doneF f ⟨17,a,b,c,n⟩ m=f.to (wrap64 n):=by unfold Dk.doneF;simp [hz]
   rw [eF]
   exact (zji f a b c n _ L C w a0 a8 (by simp [hz])).mono fun e w' ⟨he,hb⟩=>za9 he hm hb
  ·have eF:Dk.doneF f ⟨17,a,b,c,n⟩ m=f.to (wrap64 (f.pc+1)):=by unfold Dk.doneF;simp [hz]
   rw [eF]
   exact (zl2 f a b c n _ L C w a0 a8 (by simp;omega)).mono fun e w' ⟨he,hb⟩=>za9 he hm hb
 by_cases h1:op=1
 ·subst h1
  obtain ⟨a0,a8⟩:=ra (by decide)
  exact (do_set f a b c n _ L C w a0 a8).mono fun e w' ⟨he,hb⟩=>za9 he hm hb
 by_cases h18:op=18
 ·subst h18
  obtain ⟨a0,a8⟩:=ra (by decide)
  obtain ⟨b0,b8⟩:=rb (by decide)
  have hx':f.r b.toNat < L:=by simpa [Dk.faultB] using hx
  exact (do_load f a b c n L C w hf wb m hm hL hx' hmax a0 a8 b0 b8).mono fun e w' ⟨he,hb⟩=>za9 he hm hb
 by_cases h19:op=19
 ·subst h19
  obtain ⟨a0,a8⟩:=ra (by decide)
  obtain ⟨b0,b8⟩:=rb (by decide)
  have hx':f.r a.toNat < L:=by simpa [Dk.faultB] using hx
  refine (do_store f a b c n L C w wb m hm hL hx' hmax a0 a8 b0 b8).mono fun e w' ⟨he,hb⟩=>⟨he,?_,?_⟩
  ·exact ((Below.refl _ _).setCell (p:=⟨wb,f.r a.toNat,none⟩) (Nat.le_refl _) _).trans (hb.mono (Nat.le_of_lt hm.lt))
  ·exact (hm.setWord _ _).below hb hm.lt
 by_cases h2:op=2∨op=14∨op=15
 ·rcases h2 with rfl | rfl | rfl
  all_goals
   obtain ⟨a0,a8⟩:=ra (by decide)
   obtain ⟨b0,b8⟩:=rb (by decide)
  ·exact (do_move2 f a b c n _ L C w hf a0 a8 b0 b8).mono fun e w' ⟨he,hb⟩=>za9 he hm hb
  ·exact (zod f a b c n _ L C w hf a0 a8 b0 b8).mono fun e w' ⟨he,hb⟩=>za9 he hm hb
  ·exact (zoe f a b c n _ L C w hf a0 a8 b0 b8).mono fun e w' ⟨he,hb⟩=>za9 he hm hb
 ·have h3:op≠16∧op≠17∧op≠1∧op≠18∧op≠19∧op≠2∧op≠14∧op≠15:=by omega
  have er:=Dk.zmn h3
  obtain ⟨a0,a8⟩:=ra (by omega)
  obtain ⟨b0,b8⟩:=rb (by omega)
  obtain ⟨c0,c8⟩:=rc (by omega)
  have eM:Dk.doneM f ⟨op,a,b,c,n⟩ m=m:=by unfold Dk.doneM;rw [if_neg (by simpa using h19)]
  have eF:Dk.doneF f ⟨op,a,b,c,n⟩ m=(f.to (wrap64 (f.pc+1))).set a.toNat (Dk.ariW op (f.r b.toNat) (f.r c.toNat)):=by
   unfold Dk.doneF
   simp only [h16,h17,h1,h18,h19,h2,if_false]
  rw [eM,eF]
  exact (do_three f op a b c n _ L C w hf h3 a0 a8 b0 b8 c0 c8).mono fun e w' ⟨he,hb⟩=>za9 he hm hb
theorem do_bad (f:Dk.Frm) (i:Dk.Ins) (A:Option Addr) (L C:Nat) (hc:Dk.codeB i=true) (hx:Dk.faultB f i L=true) (hmax:L≤maxLen) :
  ∃ x:Nat,∀ w,Calls Tryz.prog 123 #[Dk.fv f,Dk.iv i,.slice A L C] w fun e w'=>e=.panicked [{ v:=.iface 252 (.int .u64 (x:Nat)),recovered:=false }]∧Below w.heap.size w w':=by
 obtain ⟨ra,rb,rc⟩:=Dk.zia hc
 clear hc
 obtain ⟨op,a,b,c,n⟩:=i
 simp only at ra rb rc
 unfold Dk.faultB at hx
 simp only [Bool.or_eq_true,Bool.and_eq_true,decide_eq_true_eq] at hx
 rcases hx with ⟨rfl,hx⟩ | ⟨rfl,hx⟩
 ·obtain ⟨a0,a8⟩:=ra (by decide)
  obtain ⟨b0,b8⟩:=rb (by decide)
  exact ⟨_,fun w=>zjh f a b c n A L C w hx hmax a0 a8 b0 b8⟩
 ·obtain ⟨a0,a8⟩:=ra (by decide)
  obtain ⟨b0,b8⟩:=rb (by decide)
  exact ⟨_,fun w=>zic f a b c n A L C w hx hmax a0 a8 b0 b8⟩
theorem askCode_bad (i:Dk.Ins) (w:World) (hi:i.ok) (hc:Dk.codeB i=false):Calls Tryz.prog 122 #[Dk.iv i] w fun e w'=>Thrown 253 255 e∧Below w.heap.size w w':=by
 cases h:Dk.withinB i.op 1 19
 ·exact zgv i w h
 ·refine (zeq i w hi h).mono fun e w' ⟨he,hb⟩=>⟨he.2 ?_,hb⟩
  unfold Dk.codeB at hc
  rw [h] at hc
  exact hc
theorem zd7 (i:Dk.Ins) (w:World) (hi:i.ok) (hc:Dk.codeB i=true):Calls Tryz.prog 122 #[Dk.iv i] w fun e w'=>e=.returned (.tuple #[])∧Below w.heap.size w w':=by
 unfold Dk.codeB at hc
 rw [Bool.and_eq_true] at hc
 exact (zeq i w hi hc.1).mono fun e w' ⟨he,hb⟩=>⟨he.1 hc.2,hb⟩
theorem five (f:Dk.Frm) (i:Dk.Ins) (w X:World) (e:((((w.alloc (.cells #[.int .i64 f.fn,.int .i64 f.pc,.int .u64 (f.r 0:Nat),.int .u64 (f.r 1:Nat),.int .u64 (f.r 2:Nat),.int .u64 (f.r 3:Nat),.int .u64 (f.r 4:Nat),.int .u64 (f.r 5:Nat),.int .u64 (f.r 6:Nat),.int .u64 (f.r 7:Nat)] 110)).alloc (.cells #[.int .i64 i.op,.int .i64 i.a,.int .i64 i.b,.int .i64 i.c,.int .u64 (i.n:Nat)] 112)).alloc (.cells #[.int .i64 0,.int .i64 0,.int .u64 0,.int .u64 0,.int .u64 0,.int .u64 0,.int .u64 0,.int .u64 0,.int .u64 0,.int .u64 0] 110)).alloc (.cells #[.slice none 0 0] 55)).alloc (.cells #[.int .i64 0] 28)=X) :
  Dk.Box X w.heap.size (Dk.fc f) 110∧Dk.Box X (w.heap.size+1) (Dk.ic i) 112∧Dk.Box X (w.heap.size+1+1) (Dk.fc Dk.Frm.zero) 110∧Dk.Box X (w.heap.size+1+1+1) #[.slice none 0 0] 55∧Dk.Box X (w.heap.size+1+1+1+1) #[.int .i64 0] 28∧
   Below w.heap.size w X∧X.heap.size=w.heap.size+1+1+1+1+1:=by
 obtain ⟨Y,eY⟩:∃ Y,((w.alloc (.cells #[.int .i64 f.fn,.int .i64 f.pc,.int .u64 (f.r 0:Nat),.int .u64 (f.r 1:Nat),.int .u64 (f.r 2:Nat),.int .u64 (f.r 3:Nat),.int .u64 (f.r 4:Nat),.int .u64 (f.r 5:Nat),.int .u64 (f.r 6:Nat),.int .u64 (f.r 7:Nat)] 110)).alloc (.cells #[.int .i64 i.op,.int .i64 i.a,.int .i64 i.b,.int .i64 i.c,.int .u64 (i.n:Nat)] 112)).alloc (.cells #[.int .i64 0,.int .i64 0,.int .u64 0,.int .u64 0,.int .u64 0,.int .u64 0,.int .u64 0,.int .u64 0,.int .u64 0,.int .u64 0] 110)=Y:=⟨_,rfl⟩
 obtain ⟨b1,b2,b3,u,z⟩:=Dk.three _ _ _ _ _ _ _ _ eY
 rw [eY] at e
 subst e
 refine ⟨(b1.old _).old _,(b2.old _).old _,(b3.old _).old _,?_,?_,Dk.zb (Dk.zb u _) _,by simp [z]⟩
 ·have:=(Dk.Box.new Y #[.slice none 0 0] 55).old (.cells #[.int .i64 0] 28)
  rw [z] at this
  exact this
 ·have:=Dk.Box.new (Y.alloc (.cells #[.slice none 0 0] 55)) #[.int .i64 0] 28
  simp only [World.size_alloc,z] at this
  exact this
theorem zf7 (L:Nat) (hL:L≤1000) (w:World):(Instr.makeSlice 55 (.int .i64 (L:Int)) (.int .i64 (L:Int))).run Tryz.prog w=.ok (.slice (some ⟨w.heap.size,0,none⟩) L L) (w.alloc (.cells (madeCells #[.int .u64 0] L) 38)):=
 run_make_row' 55 38 (.int .u64 0) 8 Tryz.underlying55 (by kernel_rfl) rfl .i64 .i64 L (by omega) (by omega) w
theorem zi3:(Tryz.prog.info? 38).map (·.size)=some 1:=by kernel_rfl
theorem zgi {α:Type} (L cs:List α) (h:cs.length=L.length):splice L 0 cs=cs:=by
 unfold splice
 rw [Nat.zero_add,List.drop_of_length_le (by omega)]
 simp
theorem copied (f:Dk.Frm) (i:Dk.Ins) (w X w1 X2:World) (A:Option Addr) (L C:Nat) (m:List Nat) (hr:Dk.Row 1 0 Dk.IsWord w.heap.size w A L C m) (hL:L≤1000)
  (b1:Dk.Box X w.heap.size (Dk.fc f) 110) (b2:Dk.Box X (w.heap.size+1) (Dk.ic i) 112) (b3:Dk.Box X (w.heap.size+1+1) (Dk.fc Dk.Frm.zero) 110) (b4:Dk.Box X (w.heap.size+1+1+1) #[.slice none 0 0] 55) (b5:Dk.Box X (w.heap.size+1+1+1+1) #[.int .i64 0] 28)
  (u0:Below w.heap.size w X) (hb:Below X.heap.size X w1) (e2:(w1.alloc (.cells (madeCells #[.int .u64 0] L) 38)).setCell ⟨w.heap.size+1+1+1,0,none⟩ (.slice (some ⟨w1.heap.size,0,none⟩) L L)=X2) :
  Dk.Box X2 w.heap.size (Dk.fc f) 110∧Dk.Box X2 (w.heap.size+1) (Dk.ic i) 112∧Dk.Box X2 (w.heap.size+1+1) (Dk.fc Dk.Frm.zero) 110∧Dk.Box X2 (w.heap.size+1+1+1) #[.slice (some ⟨w1.heap.size,0,none⟩) L L] 55∧Dk.Box X2 (w.heap.size+1+1+1+1) #[.int .i64 0] 28∧
   Dk.Box X2 w1.heap.size (madeCells #[.int .u64 0] L) 38∧Below w.heap.size w X2∧w.heap.size+1+1+1+1 < w1.heap.size:=by
 have hlt:=(b5.up hb).lt
 subst e2
 refine ⟨(((b1.up hb).old _).zn (by omega) _ _),(((b2.up hb).old _).zn (by omega) _ _),(((b3.up hb).old _).zn (by omega) _ _),?_,(((b5.up hb).old _).zn (by omega) _ _),((Dk.Box.new w1 _ _).zn (by omega) _ _),?_,hlt⟩
 ·exact ((b4.up hb).old (.cells (madeCells #[.int .u64 0] L) 38)).set 0 (.slice (some ⟨w1.heap.size,0,none⟩) L L)
 ·exact Dk.up_set (Dk.zb (Dk.zi u0 hb) _) (by omega) _
theorem zps {w X2:World} {A:Option Addr} {L C:Nat} {m:List Nat} (hr:Dk.Row 1 0 Dk.IsWord w.heap.size w A L C m) (u:Below w.heap.size w X2) :
  0 < (Dk.wc m).toList.length→∃ ad,A=some ad∧∀ j v,(Dk.wc m).toList[j]? = some v→X2.cell? (ad.add j)=some v:=by
 intro h0
 have hl:=hr.len
 have hpos:0 < L:=by simp [Dk.wc] at h0;omega
 obtain ⟨b,o,rfl,hb,hc⟩:=hr.cells hpos
 refine ⟨_,rfl,fun j v hj=>?_⟩
 have hjL:j < L:=by
  have:=(List.getElem?_eq_some_iff.1 hj).1
  simp [Dk.wc] at this
  omega
 obtain ⟨vs,hv1,⟨rfl,_⟩,hv3⟩:=hc j hjL
 have:=hv3 0 (by omega)
 rw [Nat.mul_one,Nat.add_zero] at this
 have e:(⟨b,o,none⟩:Addr).add j=⟨b,o+j,none⟩:=by simp [Addr.add]
 rw [e,u.cell (by show b < w.heap.size;exact hb),this]
 have hjm:j < m.length:=by omega
 simp [Dk.wc,hjm] at hj
 simp [List.getD,hjm,hj]
theorem upcell {X:World} {b:Nat} {cs:Array Value} {t:TypeId} (h:Dk.Box X b cs t):∀ (x:Dk.Up X) o,x.wd.cell? ⟨b,o,none⟩=cs[o]?:=fun x o=>(h.up x.property).cell o
theorem zi7 (f:Dk.Frm) (i:Dk.Ins) (A:Option Addr) (L C:Nat) (m:List Nat) (w:World) (hi:i.ok) (hc:Dk.codeB i=true) (hx:Dk.faultB f i L=true) (hr:Dk.Row 1 0 Dk.IsWord w.heap.size w A L C m) (hL:L≤1000) :
  Calls Tryz.prog 94 #[Dk.fv f,Dk.iv i,.slice A L C] w fun e w'=>e=.returned (.tuple #[Dk.fv Dk.Frm.zero,.slice none 0 0,.int .i64 6])∧Below w.heap.size w w':=by
 have hmf:∀ (fn:Fn) (first cap:Array Value) (w:World),(Instr.makeFunc fn first cap).run Tryz.prog w=.ok (.func fn first cap) w:=fun _ _ _ _=>rfl
 obtain ⟨X,e0⟩:∃ X,((((w.alloc (.cells #[.int .i64 f.fn,.int .i64 f.pc,.int .u64 (f.r 0:Nat),.int .u64 (f.r 1:Nat),.int .u64 (f.r 2:Nat),.int .u64 (f.r 3:Nat),.int .u64 (f.r 4:Nat),.int .u64 (f.r 5:Nat),.int .u64 (f.r 6:Nat),.int .u64 (f.r 7:Nat)] 110)).alloc (.cells #[.int .i64 i.op,.int .i64 i.a,.int .i64 i.b,.int .i64 i.c,.int .u64 (i.n:Nat)] 112)).alloc (.cells #[.int .i64 0,.int .i64 0,.int .u64 0,.int .u64 0,.int .u64 0,.int .u64 0,.int .u64 0,.int .u64 0,.int .u64 0,.int .u64 0] 110)).alloc (.cells #[.slice none 0 0] 55)).alloc (.cells #[.int .i64 0] 28)=X:=⟨_,rfl⟩
 obtain ⟨b1,b2,b3,b4,b5,u0,z0⟩:=five f i w X e0
 have c2:=b2.cell
 have hmk:=zf7 L hL
 have hlen:=hr.len
 go_enter_defers Tryz.func94,Tryz.ntmps94
 go_wp2_with fail
 try rw [e0]
 clear e0 c2
 refine (zd7 i _ hi hc).mono ?_
 rintro e w1 ⟨rfl,hb⟩
 obtain ⟨X2,e2⟩:∃ X2,(w1.alloc (.cells (madeCells #[.int .u64 0] L) 38)).setCell ⟨w.heap.size+1+1+1,0,none⟩ (.slice (some ⟨w1.heap.size,0,none⟩) L L)=X2:=⟨_,rfl⟩
 obtain ⟨d1,d2,d3,d4,d5,dw,u2,hlt⟩:=copied f i w X w1 X2 A L C m hr hL b1 b2 b3 b4 b5 u0 hb e2
 have q1:(w1.alloc (.cells (madeCells #[.int .u64 0] L) 38)).cell? ⟨w.heap.size+1+1+1,0,none⟩=some (.slice none 0 0):=((b4.up hb).old _).cell 0
 have q2:=((b4.up hb).old (.cells (madeCells #[.int .u64 0] L) 38)).frozen 0
 have q4:X2.cell? ⟨w.heap.size+1+1+1,0,none⟩=some (.slice (some ⟨w1.heap.size,0,none⟩) L L):=d4.cell 0
 have hsrc:=zps hr u2
 have hcs:(Dk.wc m).toList.length=L:=by simp [Dk.wc,hlen]
 have hcur:(madeCells #[.int .u64 0] L).toList.length=L:=by simp [size_madeCells]
 have hone:∀ v ∈ (Dk.wc m).toList,v.oneCell'=true:=by simp [Dk.wc,Value.oneCell']
 obtain ⟨cs,ecs⟩:∃ cs,cs=(Dk.wc m).toList:=⟨_,rfl⟩
 obtain ⟨cur,ecur⟩:∃ cur,cur=(madeCells #[.int .u64 0] L).toList:=⟨_,rfl⟩
 rw [← ecs] at hsrc hcs hone
 rw [← ecur] at hcur
 have hdw:X2.heap[w1.heap.size]? = some (.cells cur.toArray 38 (0,0)):=by rw [ecur];simpa using dw.heap
 have ECS:Hid _:=ecs
 have ECU:Hid _:=ecur
 have HDW:Hid _:=hdw
 have HSR:Hid _:=hsrc
 have HCS:Hid _:=hcs
 have HCU:Hid _:=hcur
 have HON:Hid _:=hone
 have HLT:Hid _:=hlt
 clear ecs ecur hdw hsrc hcs hcur hone dw b1 b2 b3 b4 b5 hlen z0 hlt
 go_wp2_with (first | (rw [e2];clear e2) | (refine wpList_copy_splice rfl _ _ 55 55 rfl 38 Tryz.underlying55 zi3 _ _ _ _ _ _ rfl rfl w1.heap.size 0 cur 38 HDW.out cs (by rw [HCS.out];exact (Nat.min_self L).symm) (fun h=>⟨rfl,HSR.out h⟩) (by rw [HCS.out,HCU.out];omega) HON.out w1.heap.size X2 (Below.refl _ _) (Nat.le_refl _) ?_;intro X3 HG hb3))
 simp only [zD]
 have g1:=d1.below hb3 (by have:=HLT.out;omega)
 have g2:=d2.below hb3 (by have:=HLT.out;omega)
 have g3:=d3.below hb3 (by have:=HLT.out;omega)
 have g4:=d4.below hb3 (by have:=HLT.out;omega)
 have g5:=d5.below hb3 (by have:=HLT.out;omega)
 have gw:Dk.Box X3 w1.heap.size (Dk.wc m) 38:=⟨by
  have:=HG.out
  rw [zgi _ _ (by rw [HCS.out,HCU.out])] at this
  rw [this,ECS.out]⟩
 have u3:Below w.heap.size w X3:=u2.trans (hb3.mono (by have:=HLT.out;omega))
 obtain ⟨y,hdo⟩:=do_bad f i (some ⟨w1.heap.size,0,none⟩) L L hc hx (by unfold maxLen;omega)
 have hdo':Hid _:=hdo
 refine Dk.zbh (C:=fun w'=>∃ x:Dk.Up X3,w'=x.wd) (E:=fun w'=>∃ x:Dk.Up X3,w'=x.wd) [0,1,2,4] [6,7,8] 3 [{ v:=.iface 252 (.int .u64 (y:Nat)),recovered:=false }] (by kernel_rfl) (by kernel_rfl) ⟨⟨_,Dk.zh (Below.refl _ _)⟩,rfl⟩ ?_ ?_
 ·rintro a' w' ⟨hd,hk⟩ ⟨x,rfl⟩
  have k6:=hk 6 (by simp)
  have k7:=hk 7 (by simp)
  have k8:=hk 8 (by simp)
  simp only [List.getElem?_toArray,List.getElem?_cons_succ,List.getElem?_cons_zero] at k6 k7 k8
  show Leaves _ _ _ _ _ _ _
  rw [hd]
  refine leaves_cons (f:=120) (args:=#[.pointer (some ⟨w.heap.size+1+1,0,none⟩),.pointer (some ⟨w.heap.size+1+1+1,0,none⟩),.pointer (some ⟨w.heap.size+1+1+1+1,0,none⟩)]) (by simp) (by simp [go_sem]) ?_
  have ux:Below X3.heap.size X3 x.wd:=x.property
  refine (zn1 252 _ (w.heap.size+1+1) 6 x.wd _ _ _ (g3.up ux) (g4.up ux) (g5.up ux) rfl (fun w=>zif _ w)).mono ?_
  rintro e u' w2 ⟨rfl,rfl,z6,z7,z8,zu⟩
  have c6:=z6.cell
  have c7:w2.cell? ⟨w.heap.size+1+1+1,0,none⟩=some (.slice none 0 0):=z7.cell 0
  have c8:w2.cell? ⟨w.heap.size+1+1+1+1,0,none⟩=some (.int .i64 6):=z8.cell 0
  simp [Leaves,settle,results,Tryz.results94,go_sem,c6,c7,c8,k6,k7,k8]
  exact (Dk.zi u3 ux).trans (zu.mono (by omega))
 dsimp only [List.filterMap,List.getElem?_cons_zero,List.getElem?_cons_succ]
 have p1:=upcell g1
 have p2:=upcell g2
 have p4:∀ (x:Dk.Up X3),x.wd.cell? ⟨w.heap.size+1+1+1,0,none⟩=some (.slice (some ⟨w1.heap.size,0,none⟩) L L):=fun x=>upcell g4 x 0
 have hne:Nonempty (Dk.Up X3):=⟨⟨X3,Below.refl _ _⟩⟩
 repeat (go_big_quiet_step (fail))
 refine wpQuiet_nil ?_
 refine ⟨_,rfl,rfl,?_,rfl,fun k hk=>?_⟩
 ·rintro _ ⟨x,rfl⟩
  refine ⟨123,#[Dk.fv f,Dk.iv i,.slice (some ⟨w1.heap.size,0,none⟩) L L],?_,(hdo'.out _).mono fun e w' ⟨he,hb⟩=>⟨he,⟨_,Dk.zi x.property hb⟩,rfl⟩⟩
  go_simp
 ·simp only [List.mem_cons,List.not_mem_nil,or_false] at hk
  rcases hk with rfl | rfl | rfl <;> rfl
theorem zm1 {P:Go.Program} {o:Oper} {a:Act} {w:World} {K:Act→World→Prop} {Q:Exit→Act→World→Prop} {f:FuncId} {args:Array Value} {v:Value} {R:World→Prop} (h:(execOp a.eval o).run P w=.ok (.enter f args) w)
  (hc:Calls P f args w fun e w'=>e=.returned v∧R w') (hK:∀ w',R w'→K (a.put o.dst v) w'):o.wp P a w K Q:=by
 unfold Oper.wp
 rw [h]
 exact hc.mono fun e w' ⟨he,hR⟩=>by subst he;exact hK w' hR
theorem zag {P:Go.Program} {o:Oper} {a:Act} {w w':World} {K:Act→World→Prop} {Q:Exit→Act→World→Prop} (h:(execOp a.eval o).run P w=.ok .skip w') (hK:K (a.put o.dst undef) w'):o.wp P a w K Q:=by
 unfold Oper.wp
 rw [h]
 exact hK
def PlainSaid (f:Dk.Frm) (i:Dk.Ins) (m:List Nat) (L:Nat) (e:Ending) (w w':World):Prop:=
 ∃ wb,e=.returned (.tuple #[Dk.fv (Dk.doneF f i m),.slice (some ⟨wb,0,none⟩) L L,.int .i64 0])∧Dk.Box w' wb (Dk.wc (Dk.doneM f i m)) 38∧Below w.heap.size w w'∧w.heap.size≤wb
theorem Plain_ok (f:Dk.Frm) (i:Dk.Ins) (A:Option Addr) (L C:Nat) (m:List Nat) (w:World) (hf:f.ok) (hi:i.ok) (hc:Dk.codeB i=true) (hx:Dk.faultB f i L=false) (hr:Dk.Row 1 0 Dk.IsWord w.heap.size w A L C m) (hL:L≤1000) :
  Calls Tryz.prog 94 #[Dk.fv f,Dk.iv i,.slice A L C] w fun e w'=>PlainSaid f i m L e w w':=by
 have hmf:∀ (fn:Fn) (first cap:Array Value) (w:World),(Instr.makeFunc fn first cap).run Tryz.prog w=.ok (.func fn first cap) w:=fun _ _ _ _=>rfl
 obtain ⟨X,e0⟩:∃ X,((((w.alloc (.cells #[.int .i64 f.fn,.int .i64 f.pc,.int .u64 (f.r 0:Nat),.int .u64 (f.r 1:Nat),.int .u64 (f.r 2:Nat),.int .u64 (f.r 3:Nat),.int .u64 (f.r 4:Nat),.int .u64 (f.r 5:Nat),.int .u64 (f.r 6:Nat),.int .u64 (f.r 7:Nat)] 110)).alloc (.cells #[.int .i64 i.op,.int .i64 i.a,.int .i64 i.b,.int .i64 i.c,.int .u64 (i.n:Nat)] 112)).alloc (.cells #[.int .i64 0,.int .i64 0,.int .u64 0,.int .u64 0,.int .u64 0,.int .u64 0,.int .u64 0,.int .u64 0,.int .u64 0,.int .u64 0] 110)).alloc (.cells #[.slice none 0 0] 55)).alloc (.cells #[.int .i64 0] 28)=X:=⟨_,rfl⟩
 obtain ⟨b1,b2,b3,b4,b5,u0,z0⟩:=five f i w X e0
 have c2:=b2.cell
 have hmk:=zf7 L hL
 have hlen:=hr.len
 go_enter_defers Tryz.func94,Tryz.ntmps94
 go_wp2_with fail
 try rw [e0]
 clear e0 c2
 refine (zd7 i _ hi hc).mono ?_
 rintro e w1 ⟨rfl,hb⟩
 obtain ⟨X2,e2⟩:∃ X2,(w1.alloc (.cells (madeCells #[.int .u64 0] L) 38)).setCell ⟨w.heap.size+1+1+1,0,none⟩ (.slice (some ⟨w1.heap.size,0,none⟩) L L)=X2:=⟨_,rfl⟩
 obtain ⟨d1,d2,d3,d4,d5,dw,u2,hlt⟩:=copied f i w X w1 X2 A L C m hr hL b1 b2 b3 b4 b5 u0 hb e2
 have q1:(w1.alloc (.cells (madeCells #[.int .u64 0] L) 38)).cell? ⟨w.heap.size+1+1+1,0,none⟩=some (.slice none 0 0):=((b4.up hb).old _).cell 0
 have q2:=((b4.up hb).old (.cells (madeCells #[.int .u64 0] L) 38)).frozen 0
 have q4:X2.cell? ⟨w.heap.size+1+1+1,0,none⟩=some (.slice (some ⟨w1.heap.size,0,none⟩) L L):=d4.cell 0
 have hsrc:=zps hr u2
 have hcs:(Dk.wc m).toList.length=L:=by simp [Dk.wc,hlen]
 have hcur:(madeCells #[.int .u64 0] L).toList.length=L:=by simp [size_madeCells]
 have hone:∀ v ∈ (Dk.wc m).toList,v.oneCell'=true:=by simp [Dk.wc,Value.oneCell']
 obtain ⟨cs,ecs⟩:∃ cs,cs=(Dk.wc m).toList:=⟨_,rfl⟩
 obtain ⟨cur,ecur⟩:∃ cur,cur=(madeCells #[.int .u64 0] L).toList:=⟨_,rfl⟩
 rw [← ecs] at hsrc hcs hone
 rw [← ecur] at hcur
 have hdw:X2.heap[w1.heap.size]? = some (.cells cur.toArray 38 (0,0)):=by rw [ecur];simpa using dw.heap
 have ECS:Hid _:=ecs
 have ECU:Hid _:=ecur
 have HDW:Hid _:=hdw
 have HSR:Hid _:=hsrc
 have HCS:Hid _:=hcs
 have HCU:Hid _:=hcur
 have HON:Hid _:=hone
 have HLT:Hid _:=hlt
 clear ecs ecur hdw hsrc hcs hcur hone dw b1 b2 b3 b4 b5 hlen z0 hlt
 go_wp2_with (first | (rw [e2];clear e2) | (refine wpList_copy_splice rfl _ _ 55 55 rfl 38 Tryz.underlying55 zi3 _ _ _ _ _ _ rfl rfl w1.heap.size 0 cur 38 HDW.out cs (by rw [HCS.out];exact (Nat.min_self L).symm) (fun h=>⟨rfl,HSR.out h⟩) (by rw [HCS.out,HCU.out];omega) HON.out w1.heap.size X2 (Below.refl _ _) (Nat.le_refl _) ?_;intro X3 HG hb3))
 simp only [zD]
 have g1:=d1.below hb3 (by have:=HLT.out;omega)
 have g2:=d2.below hb3 (by have:=HLT.out;omega)
 have g3:=d3.below hb3 (by have:=HLT.out;omega)
 have g4:=d4.below hb3 (by have:=HLT.out;omega)
 have g5:=d5.below hb3 (by have:=HLT.out;omega)
 have gw:Dk.Box X3 w1.heap.size (Dk.wc m) 38:=⟨by
  have:=HG.out
  rw [zgi _ _ (by rw [HCS.out,HCU.out])] at this
  rw [this,ECS.out]⟩
 have u3:Below w.heap.size w X3:=u2.trans (hb3.mono (by have:=HLT.out;omega))
 have hN:=HLT.out
 have hdo:=do_ok f i m L L X3.drew w1.heap.size hf hc hx gw.drew hr.len (by unfold maxLen;omega)
 obtain ⟨fz,efz⟩:∃ fz,Dk.doneF f i m=fz:=⟨_,rfl⟩
 obtain ⟨mz,emz⟩:∃ mz,Dk.doneM f i m=mz:=⟨_,rfl⟩
 rw [efz,emz] at hdo
 have HDO:Hid _:=hdo
 have EFZ:Hid _:=efz
 have EMZ:Hid _:=emz
 clear hdo efz emz
 refine Dk.zf (S:=fun w'=>Dk.Box w' w.heap.size (Dk.fc f) 110∧Dk.Box w' (w.heap.size+1) (Dk.ic i) 112∧Dk.Box w' (w.heap.size+1+1+1) #[.slice (some ⟨w1.heap.size,0,none⟩) L L] 55) [0,1,2,4] [3,5,6,7] (by kernel_rfl) (by kernel_rfl) ⟨g1.drew,g2.drew,g4.drew⟩ ?_
 refine Dk.za (v:=Dk.fv f) rfl rfl (fun w' hw=>?_) ?_
 ·have c:=hw.1.cell
  go_simp
 simp only [zD]
 refine Dk.za (v:=Dk.iv i) rfl rfl (fun w' hw=>?_) ?_
 ·have c:=hw.2.1.cell
  go_simp
 simp only [zD]
 refine Dk.za (v:=.slice (some ⟨w1.heap.size,0,none⟩) L L) rfl rfl (fun w' hw=>?_) ?_
 ·have c:=hw.2.2.cell 0
  go_simp
 simp only [zD]
 refine Dk.za (v:=.slice (some ⟨w1.heap.size,0,none⟩) L L) rfl rfl (fun w' hw=>?_) ?_
 ·have c:=hw.2.2.cell 0
  go_simp
 simp only [zD]
 refine Dk.zk rfl rfl ?_
 refine zm1 (f:=123) (args:=#[Dk.fv f,Dk.iv i,.slice (some ⟨w1.heap.size,0,none⟩) L L]) (R:=fun w'=>Below w1.heap.size X3.drew w'∧Dk.Box w' w1.heap.size (Dk.wc mz) 38) ?_ HDO.out ?_
 ·go_simp
 rintro w2 ⟨v2,vw⟩
 have y1:=g1.drew.below v2 (by omega)
 have y2:=g2.drew.below v2 (by omega)
 have y3:=g3.drew.below v2 (by omega)
 have y4:=g4.drew.below v2 (by omega)
 have y5:=g5.drew.below v2 (by omega)
 have uu:Below w.heap.size w w2:=(Dk.zh u3).trans (v2.mono (by omega))
 refine ⟨⟨y1,y2,y4⟩,?_⟩
 simp only [zD]
 refine Dk.zk rfl rfl ?_
 refine wp_store_row 110 _ _ rfl (w.heap.size+1+1) (Dk.fc fz) rfl rfl 110 _ y3.heap zai rfl (Dk.zah _) ?_
 have t1:=y1.zas (b':=w.heap.size+1+1) (cs':=Dk.fc fz) (by omega)
 have t2:=y2.zas (b':=w.heap.size+1+1) (cs':=Dk.fc fz) (by omega)
 have t3:=y3.row (cs':=Dk.fc fz)
 have t4:=y4.zas (b':=w.heap.size+1+1) (cs':=Dk.fc fz) (by omega)
 have t5:=y5.zas (b':=w.heap.size+1+1) (cs':=Dk.fc fz) (by omega)
 have tw:=vw.zas (b':=w.heap.size+1+1) (cs':=Dk.fc fz) (by omega)
 have tu:=below_setRow (g:=w.heap.size+1+1) uu (by omega) (Dk.fc fz)
 generalize w2.setRow (w.heap.size+1+1) (Dk.fc fz)=w3 at *
 refine ⟨⟨t1,t2,t4⟩,?_⟩
 simp only [zD]
 refine Dk.zk rfl rfl ?_
 have s4:=t4.cell 0
 have f4:=t4.frozen 0
 refine zag (w':=w3.setCell ⟨w.heap.size+1+1+1,0,none⟩ (.slice (some ⟨w1.heap.size,0,none⟩) L L)) ?_ ?_
 ·go_simp
 have r1:=t1.zn (b':=w.heap.size+1+1+1) (by omega) 0 (.slice (some ⟨w1.heap.size,0,none⟩) L L)
 have r2:=t2.zn (b':=w.heap.size+1+1+1) (by omega) 0 (.slice (some ⟨w1.heap.size,0,none⟩) L L)
 have r3:=t3.zn (b':=w.heap.size+1+1+1) (by omega) 0 (.slice (some ⟨w1.heap.size,0,none⟩) L L)
 have r4:Dk.Box _ _ #[.slice (some ⟨w1.heap.size,0,none⟩) L L] 55:=t4.set 0 (.slice (some ⟨w1.heap.size,0,none⟩) L L)
 have r5:=t5.zn (b':=w.heap.size+1+1+1) (by omega) 0 (.slice (some ⟨w1.heap.size,0,none⟩) L L)
 have rw':=tw.zn (b':=w.heap.size+1+1+1) (by omega) 0 (.slice (some ⟨w1.heap.size,0,none⟩) L L)
 have ru:=tu.setCell (p:=⟨w.heap.size+1+1+1,0,none⟩) (by show w.heap.size≤w.heap.size+1+1+1;omega) (.slice (some ⟨w1.heap.size,0,none⟩) L L)
 clear s4 f4
 generalize w3.setCell ⟨w.heap.size+1+1+1,0,none⟩ (.slice (some ⟨w1.heap.size,0,none⟩) L L)=w4 at *
 refine ⟨⟨r1,r2,r4⟩,?_⟩
 refine Dk.zk rfl rfl ?_
 have s5:=r5.cell 0
 have f5:=r5.frozen 0
 refine zag (w':=w4.setCell ⟨w.heap.size+1+1+1+1,0,none⟩ (.int .i64 0)) ?_ ?_
 ·go_simp
 have x1:=r1.zn (b':=w.heap.size+1+1+1+1) (by omega) 0 (.int .i64 0)
 have x2:=r2.zn (b':=w.heap.size+1+1+1+1) (by omega) 0 (.int .i64 0)
 have x3:=r3.zn (b':=w.heap.size+1+1+1+1) (by omega) 0 (.int .i64 0)
 have x4:=r4.zn (b':=w.heap.size+1+1+1+1) (by omega) 0 (.int .i64 0)
 have x5:Dk.Box _ _ #[.int .i64 0] 28:=r5.set 0 (.int .i64 0)
 have xw:=rw'.zn (b':=w.heap.size+1+1+1+1) (by omega) 0 (.int .i64 0)
 have xu:=ru.setCell (p:=⟨w.heap.size+1+1+1+1,0,none⟩) (by show w.heap.size≤w.heap.size+1+1+1+1;omega) (.int .i64 0)
 clear s5 f5
 generalize w4.setCell ⟨w.heap.size+1+1+1+1,0,none⟩ (.int .i64 0)=w5 at *
 refine ⟨⟨x1,x2,x4⟩,?_⟩
 show NoPanic _ Exit.normal _ _
 refine NoPanic.normal ?_
 simp only [Act.put]
 go_wp2
 refine leaves_cons (f:=120) (args:=#[.pointer (some ⟨w.heap.size+1+1,0,none⟩),.pointer (some ⟨w.heap.size+1+1+1,0,none⟩),.pointer (some ⟨w.heap.size+1+1+1+1,0,none⟩)]) (by simp) (by simp [go_sem]) ?_
 refine (zlu _ _ _ _).mono ?_
 rintro e u' w6 ⟨rfl,rfl,rfl⟩
 have c6:=x3.cell
 have c7:w6.cell? ⟨w.heap.size+1+1+1,0,none⟩=some (.slice (some ⟨w1.heap.size,0,none⟩) L L):=x4.cell 0
 have c8:w6.cell? ⟨w.heap.size+1+1+1+1,0,none⟩=some (.int .i64 0):=x5.cell 0
 simp [Leaves,settle,results,Tryz.results94,go_sem,c6,c7,c8]
 exact ⟨_,by rw [EFZ.out],by rw [EMZ.out];exact xw,xu,by have:=HLT.out;omega⟩
end Go.Proofs.YtglhhlfopccmaaaGreat
namespace Dk
def nextB (p:Prg) (f:Frm):Bool:=plB f.fn p.funcs.length && plB f.pc (p.funcs.getD f.fn.toNat []).length
def nextI (p:Prg) (f:Frm):Ins:=if nextB p f then (p.funcs.getD f.fn.toNat []).getD f.pc.toNat Ins.zero else Ins.zero
end Dk
namespace Go.Proofs.YtglhhlfopccmaaaGreat
open Go.RowKit
theorem zg7:(Tryz.prog.info? 112).map (·.size)=some 5:=by kernel_rfl
theorem zg3 (i:Dk.Ins):(Dk.ic i).all (·.oneCell')=true:=by simp [Value.oneCell']
theorem znc (fA sA pA:Option Addr) (fL fC sL sC pL pC:Nat) (p:Dk.Prg) (f:Dk.Frm) (w:World) (h1:Dk.plB f.fn (fL:Int)=false) :
  Calls Tryz.prog 60 #[Dk.pv ⟨fA,fL,fC,sA,sL,sC,pA,pL,pC⟩ p,Dk.fv f] w fun e w'=>e=.returned (.tuple #[Dk.iv Dk.Ins.zero,.bool false])∧Below w.heap.size w w':=by
 obtain ⟨W,e3⟩:∃ W,((w.alloc (.cells #[.slice fA fL fC,.int .i64 p.words,.int .i64 p.mutexes,.int .i64 p.conds,.slice sA sL sC,.slice pA pL pC,.int .i64 p.blocks,.int .i64 p.prio] 25)).alloc (.cells #[.int .i64 f.fn,.int .i64 f.pc,.int .u64 (f.r 0:Nat),.int .u64 (f.r 1:Nat),.int .u64 (f.r 2:Nat),.int .u64 (f.r 3:Nat),.int .u64 (f.r 4:Nat),.int .u64 (f.r 5:Nat),.int .u64 (f.r 6:Nat),.int .u64 (f.r 7:Nat)] 110)).alloc (.cells #[.int .i64 0,.int .i64 0,.int .i64 0,.int .i64 0,.int .u64 0] 112)=W:=⟨_,rfl⟩
 obtain ⟨b1,b2,b3,u3,z3⟩:=Dk.three _ _ _ _ _ _ _ _ e3
 have c1:=b1.cell
 have c2:=b2.cell
 have HB3:Hid _:=b3
 have HU:Hid _:=u3
 clear b1 b2 b3 u3 z3
 go_enter Tryz.func60,Tryz.ntmps60
 go_wp2_with (first | (rw [e3];clear e3) | fail)
 try rw [e3]
 try clear e3
 go_quiet ((go_at_call 90;exact Calls.quiet_of_same (zbp _ _ _)))
 go_wp2_with (refine wpList_store_row rfl 112 _ _ rfl (w.heap.size+1+1) (Dk.ic Dk.Ins.zero) rfl rfl 112 _ (HB3.out.drewN nq).heap zg7 rfl (zg3 _) ?_)
 have c6:=(HB3.out.drewN nq).row (cs':=Dk.ic Dk.Ins.zero) |>.cell
 exact bodyPost_ret (v:=.tuple #[Dk.iv Dk.Ins.zero,.bool false]) (by simp [results,Tryz.results60,go_sem,c6]) rfl ⟨rfl,below_setRow (Dk.zx HU.out nq) (by omega) _⟩
theorem Next_off (fA sA pA:Option Addr) (fL fC sL sC pL pC:Nat) (p:Dk.Prg) (f:Dk.Frm) (w:World) (fb fo:Nat) (A':Option Addr) (L' C':Nat) (h1:Dk.plB f.fn (fL:Int)=true) (h2:Dk.plB f.pc (L':Int)=false) (hfA:fA=some ⟨fb,fo,none⟩) (hfb:fb < w.heap.size) (hc:w.cell? ⟨fb,fo+f.fn.toNat,none⟩=some (.slice A' L' C')) :
  Calls Tryz.prog 60 #[Dk.pv ⟨fA,fL,fC,sA,sL,sC,pA,pL,pC⟩ p,Dk.fv f] w fun e w'=>e=.returned (.tuple #[Dk.iv Dk.Ins.zero,.bool false])∧Below w.heap.size w w':=by
 subst hfA
 obtain ⟨x0,x1⟩:=Dk.zc0.1 h1
 obtain ⟨W,e3⟩:∃ W,((w.alloc (.cells #[.slice (some ⟨fb,fo,none⟩) fL fC,.int .i64 p.words,.int .i64 p.mutexes,.int .i64 p.conds,.slice sA sL sC,.slice pA pL pC,.int .i64 p.blocks,.int .i64 p.prio] 25)).alloc (.cells #[.int .i64 f.fn,.int .i64 f.pc,.int .u64 (f.r 0:Nat),.int .u64 (f.r 1:Nat),.int .u64 (f.r 2:Nat),.int .u64 (f.r 3:Nat),.int .u64 (f.r 4:Nat),.int .u64 (f.r 5:Nat),.int .u64 (f.r 6:Nat),.int .u64 (f.r 7:Nat)] 110)).alloc (.cells #[.int .i64 0,.int .i64 0,.int .i64 0,.int .i64 0,.int .u64 0] 112)=W:=⟨_,rfl⟩
 obtain ⟨b1,b2,b3,u3,z3⟩:=Dk.three _ _ _ _ _ _ _ _ e3
 have hw:W.cell? ⟨fb,fo+f.fn.toNat,none⟩=some (.slice A' L' C'):=by rw [u3.cell (by show fb < w.heap.size;exact hfb)];exact hc
 clear hc
 have c1:=b1.cell
 have c2:=b2.cell
 have HB3:Hid _:=b3
 have HU:Hid _:=u3
 clear b1 b2 b3 u3 z3
 go_enter Tryz.func60,Tryz.ntmps60
 go_wp2_with (first | (rw [e3];clear e3) | fail)
 try rw [e3]
 try clear e3
 go_quiet ((go_at_call 90;exact Calls.quiet_of_same (zbp _ _ _)))
 go_wp2_with (refine wpList_store_row rfl 112 _ _ rfl (w.heap.size+1+1) (Dk.ic Dk.Ins.zero) rfl rfl 112 _ (HB3.out.drewN nq).heap zg7 rfl (zg3 _) ?_)
 have c6:=(HB3.out.drewN nq).row (cs':=Dk.ic Dk.Ins.zero) |>.cell
 exact bodyPost_ret (v:=.tuple #[Dk.iv Dk.Ins.zero,.bool false]) (by simp [results,Tryz.results60,go_sem,c6]) rfl ⟨rfl,below_setRow (Dk.zx HU.out nq) (by omega) _⟩
theorem zkg {P:Go.Program} {o:Oper} {a:Act} {w:World} {K:Act→World→Prop} {Q:Exit→Act→World→Prop} {v:Value} (h:(execOp a.eval o).run P w=.ok (.value v) w) (hK:K (a.put o.dst v) w):o.wp P a w K Q:=by
 unfold Oper.wp
 rw [h]
 exact hK
theorem znd (fA sA pA:Option Addr) (fL fC sL sC pL pC:Nat) (p:Dk.Prg) (f:Dk.Frm) (w:World) (fb fo:Nat) (ib io:Nat) (L' C':Nat) (i:Dk.Ins) (h1:Dk.plB f.fn (fL:Int)=true) (h2:Dk.plB f.pc (L':Int)=true) (hfA:fA=some ⟨fb,fo,none⟩) (hfb:fb < w.heap.size) (hib:ib < w.heap.size) (hc:w.cell? ⟨fb,fo+f.fn.toNat,none⟩=some (.slice (some ⟨ib,io,none⟩) L' C'))
  (hi:w.cell? ⟨ib,io+f.pc.toNat*5,none⟩=some (.int .i64 i.op)∧w.cell? ⟨ib,io+f.pc.toNat*5+1,none⟩=some (.int .i64 i.a)∧w.cell? ⟨ib,io+f.pc.toNat*5+2,none⟩=some (.int .i64 i.b)∧w.cell? ⟨ib,io+f.pc.toNat*5+3,none⟩=some (.int .i64 i.c)∧w.cell? ⟨ib,io+f.pc.toNat*5+4,none⟩=some (.int .u64 (i.n:Nat))) :
  Calls Tryz.prog 60 #[Dk.pv ⟨fA,fL,fC,sA,sL,sC,pA,pL,pC⟩ p,Dk.fv f] w fun e w'=>e=.returned (.tuple #[Dk.iv i,.bool true])∧Below w.heap.size w w':=by
 subst hfA
 obtain ⟨x0,x1⟩:=Dk.zc0.1 h1
 obtain ⟨y0,y1⟩:=Dk.zc0.1 h2
 obtain ⟨W,e3⟩:∃ W,((w.alloc (.cells #[.slice (some ⟨fb,fo,none⟩) fL fC,.int .i64 p.words,.int .i64 p.mutexes,.int .i64 p.conds,.slice sA sL sC,.slice pA pL pC,.int .i64 p.blocks,.int .i64 p.prio] 25)).alloc (.cells #[.int .i64 f.fn,.int .i64 f.pc,.int .u64 (f.r 0:Nat),.int .u64 (f.r 1:Nat),.int .u64 (f.r 2:Nat),.int .u64 (f.r 3:Nat),.int .u64 (f.r 4:Nat),.int .u64 (f.r 5:Nat),.int .u64 (f.r 6:Nat),.int .u64 (f.r 7:Nat)] 110)).alloc (.cells #[.int .i64 0,.int .i64 0,.int .i64 0,.int .i64 0,.int .u64 0] 112)=W:=⟨_,rfl⟩
 obtain ⟨b1,b2,b3,u3,z3⟩:=Dk.three _ _ _ _ _ _ _ _ e3
 have hw:W.cell? ⟨fb,fo+f.fn.toNat,none⟩=some (.slice (some ⟨ib,io,none⟩) L' C'):=by rw [u3.cell (by show fb < w.heap.size;exact hfb)];exact hc
 have hall:∀ o,W.cell? ⟨ib,o,none⟩=w.cell? ⟨ib,o,none⟩:=fun o=>u3.cell (by show ib < w.heap.size;exact hib)
 rw [← hall,← hall,← hall,← hall,← hall] at hi
 clear hc hall
 have c1:=b1.cell
 have c2:=b2.cell
 have HB1:Hid _:=b1
 have HB2:Hid _:=b2
 have HB3:Hid _:=b3
 have HU:Hid _:=u3
 have HI:Hid _:=hi
 clear b1 b2 b3 u3 z3 hi
 go_enter Tryz.func60,Tryz.ntmps60
 go_wp2_with (first | (rw [e3];clear e3) | fail)
 try rw [e3]
 try clear e3
 go_quiet ((go_at_call 90;exact Calls.quiet_of_same (zbp _ _ _)))
 go_wp2
 refine Dk.zf (S:=fun w'=>Dk.Box w' w.heap.size #[.slice (some ⟨fb,fo,none⟩) fL fC,.int .i64 p.words,.int .i64 p.mutexes,.int .i64 p.conds,.slice sA sL sC,.slice pA pL pC,.int .i64 p.blocks,.int .i64 p.prio] 25∧Dk.Box w' (w.heap.size+1) (Dk.fc f) 110∧w'.cell? ⟨fb,fo+f.fn.toNat,none⟩=some (.slice (some ⟨ib,io,none⟩) L' C')∧
  w'.cell? ⟨ib,io+f.pc.toNat*5,none⟩=some (.int .i64 i.op)∧w'.cell? ⟨ib,io+f.pc.toNat*5+1,none⟩=some (.int .i64 i.a)∧w'.cell? ⟨ib,io+f.pc.toNat*5+2,none⟩=some (.int .i64 i.b)∧w'.cell? ⟨ib,io+f.pc.toNat*5+3,none⟩=some (.int .i64 i.c)∧w'.cell? ⟨ib,io+f.pc.toNat*5+4,none⟩=some (.int .u64 (i.n:Nat))) [0,1,2,3,4,5,6,7,8,9] [10,11] (by kernel_rfl) (by kernel_rfl) ⟨(HB1.out.drewN nq).drew,(HB2.out.drewN nq).drew,hw,HI.out⟩ ?_
 refine Dk.za (v:=.pointer (some ⟨w.heap.size,0,none⟩)) rfl rfl (fun w' hw=>?_) ?_
 ·go_simp
 simp only [zD]
 refine Dk.za (v:=.slice (some ⟨fb,fo,none⟩) fL fC) rfl rfl (fun w' hw=>?_) ?_
 ·have k1:=hw.1.cell
  go_simp
 simp only [zD]
 refine Dk.za (v:=.pointer (some ⟨w.heap.size+1,0,none⟩)) rfl rfl (fun w' hw=>?_) ?_
 ·go_simp
 simp only [zD]
 refine Dk.za (v:=.int .i64 f.fn) rfl rfl (fun w' hw=>?_) ?_
 ·have k1:=hw.2.1.cell
  go_simp
 simp only [zD]
 refine Dk.za (v:=.pointer (some ⟨fb,fo+f.fn.toNat,none⟩)) rfl rfl (fun w' hw=>?_) ?_
 ·go_simp
 simp only [zD]
 refine Dk.za (v:=.slice (some ⟨ib,io,none⟩) L' C') rfl rfl (fun w' hw=>?_) ?_
 ·have k1:=hw.2.2.1
  go_simp
 simp only [zD]
 refine Dk.za (v:=.pointer (some ⟨w.heap.size+1,1,none⟩)) rfl rfl (fun w' hw=>?_) ?_
 ·go_simp
 simp only [zD]
 refine Dk.za (v:=.int .i64 f.pc) rfl rfl (fun w' hw=>?_) ?_
 ·have k1:=hw.2.1.cell
  go_simp
 simp only [zD]
 refine Dk.za (v:=.pointer (some ⟨ib,io+f.pc.toNat*5,none⟩)) rfl rfl (fun w' hw=>?_) ?_
 ·go_simp
 simp only [zD]
 refine Dk.za (v:=Dk.iv i) rfl rfl (fun w' hw=>?_) ?_
 ·obtain ⟨_,_,_,k1,k2,k3,k4,k5⟩:=hw
  go_simp
 simp only [zD]
 refine Dk.zk rfl rfl ?_
 refine wp_store_row 112 _ _ rfl (w.heap.size+1+1) (Dk.ic i) rfl rfl 112 _ (HB3.out.drewN nq).drew.heap zg7 rfl (zg3 _) ?_
 have t1:=(HB1.out.drewN nq).drew.zas (b':=w.heap.size+1+1) (cs':=Dk.ic i) (by omega)
 have t2:=(HB2.out.drewN nq).drew.zas (b':=w.heap.size+1+1) (cs':=Dk.ic i) (by omega)
 have t3:=(HB3.out.drewN nq).drew.row (cs':=Dk.ic i)
 have tu:Below w.heap.size w _:=below_setRow (g:=w.heap.size+1+1) (Dk.zh (Dk.zx HU.out nq)) (by omega) (Dk.ic i)
 have tk:∀ b o,b < w.heap.size→((W.drewN nq).drew.setRow (w.heap.size+1+1) (Dk.ic i)).cell? ⟨b,o,none⟩=W.cell? ⟨b,o,none⟩:=fun b o hb=>(tu.cell (p:=⟨b,o,none⟩) hb).trans (HU.out.cell (p:=⟨b,o,none⟩) hb).symm
 generalize (W.drewN nq).drew.setRow (w.heap.size+1+1) (Dk.ic i)=w3 at *
 have s1:=(tk fb (fo+f.fn.toNat) hfb).trans hw
 have s2:=HI.out
 rw [← tk ib _ hib,← tk ib _ hib,← tk ib _ hib,← tk ib _ hib,← tk ib _ hib] at s2
 refine ⟨⟨t1,t2,s1,s2⟩,?_⟩
 refine Dk.zk rfl rfl ?_
 refine zkg (v:=.bool true) ?_ ?_
 ·go_simp
 refine ⟨⟨t1,t2,s1,s2⟩,?_⟩
 show NoPanic _ Exit.normal _ _
 refine NoPanic.normal ?_
 simp only [zD]
 go_wp2
 have c6:=t3.cell
 exact bodyPost_ret (v:=.tuple #[Dk.iv i,.bool true]) (by simp [results,Tryz.results60,go_sem,c6]) rfl ⟨rfl,tu⟩
theorem Next_any (s:Dk.Sh) (p:Dk.Prg) (f:Dk.Frm) (w:World) (h:Dk.PrgAt w.heap.size w s p) :
  Calls Tryz.prog 60 #[Dk.pv s p,Dk.fv f] w fun e w'=>e=.returned (.tuple #[Dk.iv (Dk.nextI p f),.bool (Dk.nextB p f)])∧Below w.heap.size w w':=by
 obtain ⟨fA,fL,fC,sA,sL,sC,pA,pL,pC⟩:=s
 have hfn:=h.funcs
 have hlen:p.funcs.length=fL:=hfn.len
 cases h1:Dk.plB f.fn (fL:Int)
 ·have e1:Dk.nextB p f=false:=by unfold Dk.nextB;rw [hlen,h1];rfl
  have e2:Dk.nextI p f=Dk.Ins.zero:=by unfold Dk.nextI;rw [e1];rfl
  rw [e1,e2]
  exact znc fA sA pA fL fC sL sC pL pC p f w h1
 ·obtain ⟨x0,x1⟩:=Dk.zc0.1 h1
  obtain ⟨fb,fo,e,hfb,hc⟩:=hfn.cells (by show 0 < fL;omega)
  obtain ⟨A',L',C',hc1,hN⟩:=hc f.fn.toNat (by show f.fn.toNat < fL;omega)
  have hl':(p.funcs.getD f.fn.toNat []).length=L':=hN.len
  cases h2:Dk.plB f.pc (L':Int)
  ·have e1:Dk.nextB p f=false:=by unfold Dk.nextB;rw [hl',h2,Bool.and_false]
   have e2:Dk.nextI p f=Dk.Ins.zero:=by unfold Dk.nextI;rw [e1];rfl
   rw [e1,e2]
   exact Next_off fA sA pA fL fC sL sC pL pC p f w fb fo A' L' C' h1 h2 e hfb hc1
  ·obtain ⟨y0,y1⟩:=Dk.zc0.1 h2
   have e1:Dk.nextB p f=true:=by unfold Dk.nextB;rw [hlen,h1,hl',h2];rfl
   have e2:Dk.nextI p f=(p.funcs.getD f.fn.toNat []).getD f.pc.toNat Dk.Ins.zero:=by unfold Dk.nextI;rw [e1];rfl
   rw [e1,e2]
   obtain ⟨ib,io,rfl,hib,hi⟩:=hN.cells (by omega)
   exact znd fA sA pA fL fC sL sC pL pC p f w fb fo ib io L' C' _ h1 h2 e hfb hib hc1 (hi f.pc.toNat (by omega))
theorem zbi {α:Type} (xs:List α) (f:α→Bool) (d:α) (k:Nat) (h:k < xs.length):(xs.take (k+1)).all f=((xs.take k).all f && f (xs.getD k d)):=by
 rw [List.take_succ_eq_append_getElem h,List.all_append]
 simp [List.getD,h]
theorem zkk {α:Type} (xs:List α) (f:α→Bool) (d:α) (k:Nat) (h:k < xs.length) (hf:f (xs.getD k d)=false):xs.all f=false:=by
 rw [List.all_eq_false]
 refine ⟨xs.getD k d,?_,by rw [hf];simp⟩
 rw [List.getD_eq_getElem?_getD,List.getElem?_eq_getElem h]
 exact List.getElem_mem h
theorem zab (B:Nat) (A:Option Addr) (L C:Nat) (xs:List Int) (l m:Int) (w:World) (h:Dk.SlI B w A L C xs) :
  Calls Tryz.prog 105 #[.slice A L C,.int .i64 l,.int .i64 m] w fun e w'=>e=.returned (.bool (Dk.allWithinB xs l m))∧w'=w:=by
 obtain ⟨hlen,hcap,hmax,_,hcells⟩:=h
 unfold maxLen at hmax
 have HL:Hid (xs.length=L):=hlen
 have HC:=hcells
 clear hlen hcells
 have HC':Hid _:=HC
 clear HC
 go_enter Tryz.func105,Tryz.ntmps105
 go_wp2
 go_loop [11] (fun i=>∃ k:Nat,k≤L∧i=.int .i64 k∧Hid ((xs.take k).all (fun n=>Dk.withinB n l m)=true)) (fun i=>L - (intOf i).toNat)
 case atStart=>exact ⟨0,Nat.zero_le _,rfl,by show (xs.take 0).all _=true;simp⟩
 case round=>
  obtain ⟨k,hk,rfl,HA⟩:=hrel
  by_cases hlt:k < L
  ·obtain ⟨b,o,rfl,_,hc⟩:=HC'.out (by omega)
   have hcell:=hc k hlt
   clear hc HC'
   obtain ⟨v,hv⟩:∃ v,v=xs.getD k 0:=⟨_,rfl⟩
   rw [← hv] at hcell
   have HV:Hid (v=xs.getD k 0):=hv
   clear hv
   cases hw:Dk.withinB v l m
   ·have HW:=hw
    go_wp2_with (go_at_call 91;refine (zg _ _ _ _).mono ?_;rintro e w' ⟨rfl,rfl⟩)
    go_ret
    exact ⟨zaa (zkk xs _ 0 k (by rw [HL.out];exact hlt) (by rw [← HV.out];exact HW)).symm,rfl⟩
   ·have HW:=hw
    go_wp2_with (go_at_call 91;refine (zg _ _ _ _).mono ?_;rintro e w' ⟨rfl,rfl⟩)
    go_round
    case rel=>
     refine ⟨k+1,by omega,by go_num,?_⟩
     show (xs.take (k+1)).all _=true
     rw [zbi xs _ 0 k (by rw [HL.out];exact hlt),HA.out,← HV.out,HW]
     rfl
    case measure=>simp [intOf];omega
  ·go_wp2
   go_ret
   refine ⟨zaa ?_,rfl⟩
   have:=HA.out
   rw [List.take_of_length_le (by rw [HL.out];omega)] at this
   exact this.symm
theorem zbt (B:Nat) (A:Option Addr) (L C:Nat) (fs:List (List Dk.Ins)) (w:World) (h:Dk.SlF B w A L C fs) :
  Calls Tryz.prog 73 #[.slice A L C] w fun e w'=>e=.returned (.bool (Dk.codeFitsB fs))∧w'=w:=by
 obtain ⟨hlen,hcap,hmax,hcells⟩:=h
 unfold maxLen at hmax
 have HL:Hid (fs.length=L):=hlen
 have HC:=hcells
 clear hlen hcells
 have HC':Hid _:=HC
 clear HC
 have HR:Hid (Dk.codeFitsB fs=(Dk.withinB L 1 8 && fs.all fun c=>decide (c.length≤256))):=by show Dk.codeFitsB fs=_;unfold Dk.codeFitsB;rw [HL.out]
 cases hw:Dk.withinB L 1 8
 ·have HW:=hw
  go_enter Tryz.func73,Tryz.ntmps73
  go_wp2_with (go_at_call 91;refine (zg _ _ _ _).mono ?_;rintro e w' ⟨rfl,rfl⟩)
  go_ret
  exact ⟨zaa (by rw [HR.out,HW];rfl),rfl⟩
 ·have HW:=hw
  go_enter Tryz.func73,Tryz.ntmps73
  go_wp2_with (go_at_call 91;refine (zg _ _ _ _).mono ?_;rintro e w' ⟨rfl,rfl⟩)
  go_loop [11] (fun i=>∃ k:Nat,k≤L∧i=.int .i64 k∧Hid ((fs.take k).all (fun c=>decide (c.length≤256))=true)) (fun i=>L - (intOf i).toNat)
  case atStart=>exact ⟨0,Nat.zero_le _,rfl,by show (fs.take 0).all _=true;simp⟩
  case round=>
   obtain ⟨k,hk,rfl,HA⟩:=hrel
   by_cases hlt:k < L
   ·obtain ⟨b,o,rfl,_,hc⟩:=HC'.out (by omega)
    obtain ⟨A',L',C',hcell,hn⟩:=hc k hlt
    have HN:Hid ((fs.getD k []).length=L'):=hn.len
    have hmax':=hn.max
    have hcap':=hn.cap
    unfold maxLen at hmax'
    clear hc hn HC'
    by_cases hl:L'≤256
    ·have hl2:¬ 256 < L':=by omega
     go_wp2
     go_round
     case rel=>
      refine ⟨k+1,by omega,by go_num,?_⟩
      show (fs.take (k+1)).all _=true
      rw [zbi fs _ [] k (by rw [HL.out];exact hlt),HA.out,HN.out]
      simp [hl]
     case measure=>simp [intOf];omega
    ·have hl2:256 < L':=by omega
     go_wp2
     go_ret
     exact ⟨zaa (by rw [HR.out,zkk fs _ [] k (by rw [HL.out];exact hlt) (by rw [HN.out];simp [hl]),Bool.and_false]),rfl⟩
   ·go_wp2
    go_ret
    refine ⟨zaa ?_,rfl⟩
    have:=HA.out
    rw [List.take_of_length_le (by rw [HL.out];omega)] at this
    rw [HR.out,HW,this]
    rfl
theorem form_out {op:Int} (h:op < 1∨38 < op):Dk.form op=((0,0,0,0),false):=by
 unfold Dk.form
 repeat rw [if_neg (by omega)]
theorem zbj (op:Int) (w:World) :
    Calls Tryz.prog 135 #[.int .i64 op] w fun e w'=>e=.returned (.tuple #[.agg #[.int .i64 (Dk.form op).1.1,.int .i64 (Dk.form op).1.2.1,.int .i64 (Dk.form op).1.2.2.1,.int .i64 (Dk.form op).1.2.2.2],.bool (Dk.form op).2])∧Below w.heap.size w w':=by
  go_enter Tryz.func135,Tryz.ntmps135
  go_wp2
  all_goals
    first
      | (have e:=eq_of_beq ‹(op == _)=true›
         subst e
         exact bodyPost_ret (v:=.tuple #[.agg #[.int .i64 _,.int .i64 _,.int .i64 _,.int .i64 _],.bool _]) (by simp [results,Tryz.results135,go_sem];exact ⟨⟨rfl,rfl,rfl,rfl⟩,rfl⟩) rfl ⟨rfl,(Below.refl _ _).alloc (Nat.le_refl _) _⟩)
      | skip
  have ho:op < 1∨38 < op:=by
    have h1:=ne_of_beq_false ‹(op == 1)=false›
    have h2:=ne_of_beq_false ‹(op == 2)=false›
    have h3:=ne_of_beq_false ‹(op == 3)=false›
    have h4:=ne_of_beq_false ‹(op == 4)=false›
    have h5:=ne_of_beq_false ‹(op == 5)=false›
    have h6:=ne_of_beq_false ‹(op == 6)=false›
    have h7:=ne_of_beq_false ‹(op == 7)=false›
    have h8:=ne_of_beq_false ‹(op == 8)=false›
    have h9:=ne_of_beq_false ‹(op == 9)=false›
    have h10:=ne_of_beq_false ‹(op == 10)=false›
    have h11:=ne_of_beq_false ‹(op == 11)=false›
    have h12:=ne_of_beq_false ‹(op == 12)=false›
    have h13:=ne_of_beq_false ‹(op == 13)=false›
    have h14:=ne_of_beq_false ‹(op == 14)=false›
    have h15:=ne_of_beq_false ‹(op == 15)=false›
    have h16:=ne_of_beq_false ‹(op == 16)=false›
    have h17:=ne_of_beq_false ‹(op == 17)=false›
    have h18:=ne_of_beq_false ‹(op == 18)=false›
    have h19:=ne_of_beq_false ‹(op == 19)=false›
    have h20:=ne_of_beq_false ‹(op == 20)=false›
    have h21:=ne_of_beq_false ‹(op == 21)=false›
    have h22:=ne_of_beq_false ‹(op == 22)=false›
    have h23:=ne_of_beq_false ‹(op == 23)=false›
    have h24:=ne_of_beq_false ‹(op == 24)=false›
    have h25:=ne_of_beq_false ‹(op == 25)=false›
    have h26:=ne_of_beq_false ‹(op == 26)=false›
    have h27:=ne_of_beq_false ‹(op == 27)=false›
    have h28:=ne_of_beq_false ‹(op == 28)=false›
    have h29:=ne_of_beq_false ‹(op == 29)=false›
    have h30:=ne_of_beq_false ‹(op == 30)=false›
    have h31:=ne_of_beq_false ‹(op == 31)=false›
    have h32:=ne_of_beq_false ‹(op == 32)=false›
    have h33:=ne_of_beq_false ‹(op == 33)=false›
    have h34:=ne_of_beq_false ‹(op == 34)=false›
    have h35:=ne_of_beq_false ‹(op == 35)=false›
    have h36:=ne_of_beq_false ‹(op == 36)=false›
    have h37:=ne_of_beq_false ‹(op == 37)=false›
    have h38:=ne_of_beq_false ‹(op == 38)=false›
    omega
  exact bodyPost_ret (v:=.tuple #[.agg #[.int .i64 0,.int .i64 0,.int .i64 0,.int .i64 0],.bool false]) (by simp [results,Tryz.results135,go_sem]) rfl ⟨by rw [form_out ho],(Below.refl _ _).alloc (Nat.le_refl _) _⟩
end Go.Proofs.YtglhhlfopccmaaaGreat
