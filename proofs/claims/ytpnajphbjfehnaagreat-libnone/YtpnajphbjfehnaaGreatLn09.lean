import Derived.Test.YtpnajphbjfehnaaGreatLn08
import Derived.Defers
import Derived.Recover
set_option linter.unusedSimpArgs false
set_option linter.unusedVariables false
set_option linter.unnecessarySimpa false
set_option maxHeartbeats 8000000
set_option maxRecDepth 100000
namespace Go.Proofs.YtpnajphbjfehnaaGreat
open Go.RowKit
theorem zhj (p q r:Addr) (w:World) :
  CallsD Tryz.prog 215 #[.pointer (some p),.pointer (some q),.pointer (some r)] .returning w fun e u' w'=>e=.returned (.tuple #[])∧u'=.returning∧w'=w:=by
 refine callsD_of_wpS Tryz.func215 rfl fun c₀ cs hu=>?_
 apply wpS_seq
 apply wpS_region
 simp [wpOpsS,go_sem,recoverD,hu,Tryz.ntmps215,Exit.thenS]
 refine wpS_of_wp ?_
 change Code.wp _ _ _ ⟨#[.pointer (some p),.pointer (some q),.pointer (some r),.nilIface,.nilIface,undef,undef,undef,undef,undef],[]⟩ w
 go_wp2
 cases c₀
 simp_all [bodyPostS,results,Tryz.results215]
end Go.Proofs.YtpnajphbjfehnaaGreat
namespace Dk
theorem zje {i:Ins} (h:codeB i=true):(1≤regN i.op→0≤i.a∧i.a < 8)∧(2≤regN i.op→0≤i.b∧i.b < 8)∧(3≤regN i.op→0≤i.c∧i.c < 8):=by
 unfold codeB regs at h
 simp only [Bool.and_eq_true] at h
 have h2:=h.2
 rw [List.all_eq_true] at h2
 have key:∀ r,r ∈ [i.a,i.b,i.c].take (regN i.op)→0≤r∧r < 8:=fun r hr=>zb9.1 (h2 r hr)
 generalize regN i.op=k at key
 refine ⟨fun hk=>key _ ?_,fun hk=>key _ ?_,fun hk=>key _ ?_⟩
 ·obtain ⟨j,rfl⟩:∃ j,k=j+1:=⟨k - 1,by omega⟩
  simp
 ·obtain ⟨j,rfl⟩:∃ j,k=j+2:=⟨k - 2,by omega⟩
  simp
 ·obtain ⟨j,rfl⟩:∃ j,k=j+3:=⟨k - 3,by omega⟩
  simp
end Dk
namespace Go.Proofs.YtpnajphbjfehnaaGreat
open Go.RowKit
theorem zki {e e':Ending} {w w':World} {wb:Nat} {m:List Nat} (he:e=e') (hm:Dk.Box w wb (Dk.wc m) 73) (hb:Below w.heap.size w w'):e=e'∧Below wb w w'∧Dk.Box w' wb (Dk.wc m) 73:=
 ⟨he,hb.mono (Nat.le_of_lt hm.lt),hm.up hb⟩
theorem askCode_bad (i:Dk.Ins) (w:World) (hi:i.ok) (hc:Dk.codeB i=false):Calls Tryz.prog 217 #[Dk.iv i] w fun e w'=>Thrown 314 316 e∧Below w.heap.size w w':=by
 cases h:Dk.withinB i.op 1 19
 ·exact zd0 i w h
 ·refine (zcv i w hi h).mono fun e w' ⟨he,hb⟩=>⟨he.2 ?_,hb⟩
  unfold Dk.codeB at hc
  rw [h] at hc
  exact hc
theorem zeu (i:Dk.Ins) (w:World) (hi:i.ok) (hc:Dk.codeB i=true):Calls Tryz.prog 217 #[Dk.iv i] w fun e w'=>e=.returned (.tuple #[])∧Below w.heap.size w w':=by
 unfold Dk.codeB at hc
 rw [Bool.and_eq_true] at hc
 exact (zcv i w hi hc.1).mono fun e w' ⟨he,hb⟩=>⟨he.1 hc.2,hb⟩
theorem five (f:Dk.Frm) (i:Dk.Ins) (w X:World) (e:((((w.alloc (.cells #[.int .i64 f.fn,.int .i64 f.pc,.int .u64 (f.r 0:Nat),.int .u64 (f.r 1:Nat),.int .u64 (f.r 2:Nat),.int .u64 (f.r 3:Nat),.int .u64 (f.r 4:Nat),.int .u64 (f.r 5:Nat),.int .u64 (f.r 6:Nat),.int .u64 (f.r 7:Nat)] 89)).alloc (.cells #[.int .i64 i.op,.int .i64 i.a,.int .i64 i.b,.int .i64 i.c,.int .u64 (i.n:Nat)] 75)).alloc (.cells #[.int .i64 0,.int .i64 0,.int .u64 0,.int .u64 0,.int .u64 0,.int .u64 0,.int .u64 0,.int .u64 0,.int .u64 0,.int .u64 0] 89)).alloc (.cells #[.slice none 0 0] 78)).alloc (.cells #[.int .i64 0] 27)=X) :
  Dk.Box X w.heap.size (Dk.fc f) 89∧Dk.Box X (w.heap.size+1) (Dk.ic i) 75∧Dk.Box X (w.heap.size+1+1) (Dk.fc Dk.Frm.zero) 89∧Dk.Box X (w.heap.size+1+1+1) #[.slice none 0 0] 78∧Dk.Box X (w.heap.size+1+1+1+1) #[.int .i64 0] 27∧
   Below w.heap.size w X∧X.heap.size=w.heap.size+1+1+1+1+1:=by
 obtain ⟨Y,eY⟩:∃ Y,((w.alloc (.cells #[.int .i64 f.fn,.int .i64 f.pc,.int .u64 (f.r 0:Nat),.int .u64 (f.r 1:Nat),.int .u64 (f.r 2:Nat),.int .u64 (f.r 3:Nat),.int .u64 (f.r 4:Nat),.int .u64 (f.r 5:Nat),.int .u64 (f.r 6:Nat),.int .u64 (f.r 7:Nat)] 89)).alloc (.cells #[.int .i64 i.op,.int .i64 i.a,.int .i64 i.b,.int .i64 i.c,.int .u64 (i.n:Nat)] 75)).alloc (.cells #[.int .i64 0,.int .i64 0,.int .u64 0,.int .u64 0,.int .u64 0,.int .u64 0,.int .u64 0,.int .u64 0,.int .u64 0,.int .u64 0] 89)=Y:=⟨_,rfl⟩
 obtain ⟨b1,b2,b3,u,z⟩:=Dk.three _ _ _ _ _ _ _ _ eY
 rw [eY] at e
 subst e
 refine ⟨(b1.old _).old _,(b2.old _).old _,(b3.old _).old _,?_,?_,Dk.zb (Dk.zb u _) _,by simp [z]⟩
 ·have:=(Dk.Box.new Y #[.slice none 0 0] 78).old (.cells #[.int .i64 0] 27)
  rw [z] at this
  exact this
 ·have:=Dk.Box.new (Y.alloc (.cells #[.slice none 0 0] 78)) #[.int .i64 0] 27
  simp only [World.size_alloc,z] at this
  exact this
theorem zh0 (L:Nat) (hL:L≤1000) (w:World):(Instr.makeSlice 78 (.int .i64 (L:Int)) (.int .i64 (L:Int))).run Tryz.prog w=.ok (.slice (some ⟨w.heap.size,0,none⟩) L L) (w.alloc (.cells (madeCells #[.int .u64 0] L) 73)):=
 run_make_row' 78 73 (.int .u64 0) 8 Tryz.underlying78 (by kernel_rfl) rfl .i64 .i64 L (by omega) (by omega) w
theorem zkz:(Tryz.prog.info? 73).map (·.size)=some 1:=by kernel_rfl
theorem zh7 {α:Type} (L cs:List α) (h:cs.length=L.length):splice L 0 cs=cs:=by
 unfold splice
 rw [Nat.zero_add,List.drop_of_length_le (by omega)]
 simp
theorem copied (f:Dk.Frm) (i:Dk.Ins) (w X w1 X2:World) (A:Option Addr) (L C:Nat) (m:List Nat) (hr:Dk.Row 1 0 Dk.IsWord w.heap.size w A L C m) (hL:L≤1000)
  (b1:Dk.Box X w.heap.size (Dk.fc f) 89) (b2:Dk.Box X (w.heap.size+1) (Dk.ic i) 75) (b3:Dk.Box X (w.heap.size+1+1) (Dk.fc Dk.Frm.zero) 89) (b4:Dk.Box X (w.heap.size+1+1+1) #[.slice none 0 0] 78) (b5:Dk.Box X (w.heap.size+1+1+1+1) #[.int .i64 0] 27)
  (u0:Below w.heap.size w X) (hb:Below X.heap.size X w1) (e2:(w1.alloc (.cells (madeCells #[.int .u64 0] L) 73)).setCell ⟨w.heap.size+1+1+1,0,none⟩ (.slice (some ⟨w1.heap.size,0,none⟩) L L)=X2) :
  Dk.Box X2 w.heap.size (Dk.fc f) 89∧Dk.Box X2 (w.heap.size+1) (Dk.ic i) 75∧Dk.Box X2 (w.heap.size+1+1) (Dk.fc Dk.Frm.zero) 89∧Dk.Box X2 (w.heap.size+1+1+1) #[.slice (some ⟨w1.heap.size,0,none⟩) L L] 78∧Dk.Box X2 (w.heap.size+1+1+1+1) #[.int .i64 0] 27∧
   Dk.Box X2 w1.heap.size (madeCells #[.int .u64 0] L) 73∧Below w.heap.size w X2∧w.heap.size+1+1+1+1 < w1.heap.size:=by
 have hlt:=(b5.up hb).lt
 subst e2
 refine ⟨(((b1.up hb).old _).zk (by omega) _ _),(((b2.up hb).old _).zk (by omega) _ _),(((b3.up hb).old _).zk (by omega) _ _),?_,(((b5.up hb).old _).zk (by omega) _ _),((Dk.Box.new w1 _ _).zk (by omega) _ _),?_,hlt⟩
 ·exact ((b4.up hb).old (.cells (madeCells #[.int .u64 0] L) 73)).set 0 (.slice (some ⟨w1.heap.size,0,none⟩) L L)
 ·exact Dk.up_set (Dk.zb (Dk.zg u0 hb) _) (by omega) _
theorem row_src {w X2:World} {A:Option Addr} {L C:Nat} {m:List Nat} (hr:Dk.Row 1 0 Dk.IsWord w.heap.size w A L C m) (u:Below w.heap.size w X2) :
  0 < (Dk.wc m).toList.length→∃ ad,A=some ad∧∀ j v,(Dk.wc m).toList[j]? = some v→X2.cell? (ad.add j)=some v:=by
 intro h0
 have hl:=hr.len
 have hpos:0 < L:=by simp [Dk.wc] at h0;omega
 obtain ⟨b,o,rfl,hb,hc⟩:=hr.cells hpos
 refine ⟨_,rfl,fun j v hj=>?_⟩
 have hjL:j < L:=by
  have:=(List.getElem?_eq_some_iff.1 hj).1
  simp [Dk.wc] at this
  omega
 obtain ⟨vs,hv1,⟨rfl,_⟩,hv3⟩:=hc j hjL
 have:=hv3 0 (by omega)
 rw [Nat.mul_one,Nat.add_zero] at this
 have e:(⟨b,o,none⟩:Addr).add j=⟨b,o+j,none⟩:=by simp [Addr.add]
 rw [e,u.cell (by show b < w.heap.size;exact hb),this]
 have hjm:j < m.length:=by omega
 simp [Dk.wc,hjm] at hj
 simp [List.getD,hjm,hj]
theorem zic {P:Go.Program} {o:Oper} {a:Act} {w:World} {K:Act→World→Prop} {Q:Exit→Act→World→Prop} {f:FuncId} {args:Array Value} {v:Value} {R:World→Prop} (h:(execOp a.eval o).run P w=.ok (.enter f args) w)
  (hc:Calls P f args w fun e w'=>e=.returned v∧R w') (hK:∀ w',R w'→K (a.put o.dst v) w'):o.wp P a w K Q:=by
 unfold Oper.wp
 rw [h]
 exact hc.mono fun e w' ⟨he,hR⟩=>by subst he;exact hK w' hR
theorem zdy {P:Go.Program} {o:Oper} {a:Act} {w w':World} {K:Act→World→Prop} {Q:Exit→Act→World→Prop} (h:(execOp a.eval o).run P w=.ok .skip w') (hK:K (a.put o.dst undef) w'):o.wp P a w K Q:=by
 unfold Oper.wp
 rw [h]
 exact hK
def PlainSaid (f:Dk.Frm) (i:Dk.Ins) (m:List Nat) (L:Nat) (e:Ending) (w w':World):Prop:=
 ∃ wb,e=.returned (.tuple #[Dk.fv (Dk.doneF f i m),.slice (some ⟨wb,0,none⟩) L L,.int .i64 0])∧Dk.Box w' wb (Dk.wc (Dk.doneM f i m)) 73∧Below w.heap.size w w'∧w.heap.size≤wb
end Go.Proofs.YtpnajphbjfehnaaGreat
namespace Dk
def nextB (p:Prg) (f:Frm):Bool:=plB f.fn p.funcs.length && plB f.pc (p.funcs.getD f.fn.toNat []).length
def nextI (p:Prg) (f:Frm):Ins:=if nextB p f then (p.funcs.getD f.fn.toNat []).getD f.pc.toNat Ins.zero else Ins.zero
end Dk
namespace Go.Proofs.YtpnajphbjfehnaaGreat
open Go.RowKit
theorem zef:(Tryz.prog.info? 75).map (·.size)=some 5:=by kernel_rfl
theorem zec (i:Dk.Ins):(Dk.ic i).all (·.oneCell')=true:=by simp [Value.oneCell']
theorem zim (fA sA pA:Option Addr) (fL fC sL sC pL pC:Nat) (p:Dk.Prg) (f:Dk.Frm) (w:World) (h1:Dk.plB f.fn (fL:Int)=false) :
  Calls Tryz.prog 145 #[Dk.pv ⟨fA,fL,fC,sA,sL,sC,pA,pL,pC⟩ p,Dk.fv f] w fun e w'=>e=.returned (.tuple #[Dk.iv Dk.Ins.zero,.bool false])∧Below w.heap.size w w':=by
 obtain ⟨W,e3⟩:∃ W,((w.alloc (.cells #[.slice fA fL fC,.int .i64 p.words,.int .i64 p.mutexes,.int .i64 p.conds,.slice sA sL sC,.slice pA pL pC,.int .i64 p.blocks,.int .i64 p.prio] 25)).alloc (.cells #[.int .i64 f.fn,.int .i64 f.pc,.int .u64 (f.r 0:Nat),.int .u64 (f.r 1:Nat),.int .u64 (f.r 2:Nat),.int .u64 (f.r 3:Nat),.int .u64 (f.r 4:Nat),.int .u64 (f.r 5:Nat),.int .u64 (f.r 6:Nat),.int .u64 (f.r 7:Nat)] 89)).alloc (.cells #[.int .i64 0,.int .i64 0,.int .i64 0,.int .i64 0,.int .u64 0] 75)=W:=⟨_,rfl⟩
 obtain ⟨b1,b2,b3,u3,z3⟩:=Dk.three _ _ _ _ _ _ _ _ e3
 have c1:=b1.cell
 have c2:=b2.cell
 have HB3:Hid _:=b3
 have HU:Hid _:=u3
 clear b1 b2 b3 u3 z3
 go_enter Tryz.func145,Tryz.ntmps145
 go_wp2_with (first | (rw [e3];clear e3) | fail)
 try rw [e3]
 try clear e3
 go_quiet ((go_at_call 179;exact Calls.quiet_of_same (zal _ _ _)))
 go_wp2_with (refine wpList_store_row rfl 75 _ _ rfl (w.heap.size+1+1) (Dk.ic Dk.Ins.zero) rfl rfl 75 _ (HB3.out.drewN nq).heap zef rfl (zec _) ?_)
 have c6:=(HB3.out.drewN nq).row (cs':=Dk.ic Dk.Ins.zero) |>.cell
 exact bodyPost_ret (v:=.tuple #[Dk.iv Dk.Ins.zero,.bool false]) (by simp [results,Tryz.results145,go_sem,c6]) rfl ⟨rfl,below_setRow (Dk.zy HU.out nq) (by omega) _⟩
theorem Next_off (fA sA pA:Option Addr) (fL fC sL sC pL pC:Nat) (p:Dk.Prg) (f:Dk.Frm) (w:World) (fb fo:Nat) (A':Option Addr) (L' C':Nat) (h1:Dk.plB f.fn (fL:Int)=true) (h2:Dk.plB f.pc (L':Int)=false) (hfA:fA=some ⟨fb,fo,none⟩) (hfb:fb < w.heap.size) (hc:w.cell? ⟨fb,fo+f.fn.toNat,none⟩=some (.slice A' L' C')) :
  Calls Tryz.prog 145 #[Dk.pv ⟨fA,fL,fC,sA,sL,sC,pA,pL,pC⟩ p,Dk.fv f] w fun e w'=>e=.returned (.tuple #[Dk.iv Dk.Ins.zero,.bool false])∧Below w.heap.size w w':=by
 subst hfA
 obtain ⟨x0,x1⟩:=Dk.zb9.1 h1
 obtain ⟨W,e3⟩:∃ W,((w.alloc (.cells #[.slice (some ⟨fb,fo,none⟩) fL fC,.int .i64 p.words,.int .i64 p.mutexes,.int .i64 p.conds,.slice sA sL sC,.slice pA pL pC,.int .i64 p.blocks,.int .i64 p.prio] 25)).alloc (.cells #[.int .i64 f.fn,.int .i64 f.pc,.int .u64 (f.r 0:Nat),.int .u64 (f.r 1:Nat),.int .u64 (f.r 2:Nat),.int .u64 (f.r 3:Nat),.int .u64 (f.r 4:Nat),.int .u64 (f.r 5:Nat),.int .u64 (f.r 6:Nat),.int .u64 (f.r 7:Nat)] 89)).alloc (.cells #[.int .i64 0,.int .i64 0,.int .i64 0,.int .i64 0,.int .u64 0] 75)=W:=⟨_,rfl⟩
 obtain ⟨b1,b2,b3,u3,z3⟩:=Dk.three _ _ _ _ _ _ _ _ e3
 have hw:W.cell? ⟨fb,fo+f.fn.toNat,none⟩=some (.slice A' L' C'):=by rw [u3.cell (by show fb < w.heap.size;exact hfb)];exact hc
 clear hc
 have c1:=b1.cell
 have c2:=b2.cell
 have HB3:Hid _:=b3
 have HU:Hid _:=u3
 clear b1 b2 b3 u3 z3
 go_enter Tryz.func145,Tryz.ntmps145
 go_wp2_with (first | (rw [e3];clear e3) | fail)
 try rw [e3]
 try clear e3
 go_quiet ((go_at_call 179;exact Calls.quiet_of_same (zal _ _ _)))
 go_wp2_with (refine wpList_store_row rfl 75 _ _ rfl (w.heap.size+1+1) (Dk.ic Dk.Ins.zero) rfl rfl 75 _ (HB3.out.drewN nq).heap zef rfl (zec _) ?_)
 have c6:=(HB3.out.drewN nq).row (cs':=Dk.ic Dk.Ins.zero) |>.cell
 exact bodyPost_ret (v:=.tuple #[Dk.iv Dk.Ins.zero,.bool false]) (by simp [results,Tryz.results145,go_sem,c6]) rfl ⟨rfl,below_setRow (Dk.zy HU.out nq) (by omega) _⟩
theorem zgg {P:Go.Program} {o:Oper} {a:Act} {w:World} {K:Act→World→Prop} {Q:Exit→Act→World→Prop} {v:Value} (h:(execOp a.eval o).run P w=.ok (.value v) w) (hK:K (a.put o.dst v) w):o.wp P a w K Q:=by
 unfold Oper.wp
 rw [h]
 exact hK
theorem zin (fA sA pA:Option Addr) (fL fC sL sC pL pC:Nat) (p:Dk.Prg) (f:Dk.Frm) (w:World) (fb fo:Nat) (ib io:Nat) (L' C':Nat) (i:Dk.Ins) (h1:Dk.plB f.fn (fL:Int)=true) (h2:Dk.plB f.pc (L':Int)=true) (hfA:fA=some ⟨fb,fo,none⟩) (hfb:fb < w.heap.size) (hib:ib < w.heap.size) (hc:w.cell? ⟨fb,fo+f.fn.toNat,none⟩=some (.slice (some ⟨ib,io,none⟩) L' C'))
  (hi:w.cell? ⟨ib,io+f.pc.toNat*5,none⟩=some (.int .i64 i.op)∧w.cell? ⟨ib,io+f.pc.toNat*5+1,none⟩=some (.int .i64 i.a)∧w.cell? ⟨ib,io+f.pc.toNat*5+2,none⟩=some (.int .i64 i.b)∧w.cell? ⟨ib,io+f.pc.toNat*5+3,none⟩=some (.int .i64 i.c)∧w.cell? ⟨ib,io+f.pc.toNat*5+4,none⟩=some (.int .u64 (i.n:Nat))) :
  Calls Tryz.prog 145 #[Dk.pv ⟨fA,fL,fC,sA,sL,sC,pA,pL,pC⟩ p,Dk.fv f] w fun e w'=>e=.returned (.tuple #[Dk.iv i,.bool true])∧Below w.heap.size w w':=by
 subst hfA
 obtain ⟨x0,x1⟩:=Dk.zb9.1 h1
 obtain ⟨y0,y1⟩:=Dk.zb9.1 h2
 obtain ⟨W,e3⟩:∃ W,((w.alloc (.cells #[.slice (some ⟨fb,fo,none⟩) fL fC,.int .i64 p.words,.int .i64 p.mutexes,.int .i64 p.conds,.slice sA sL sC,.slice pA pL pC,.int .i64 p.blocks,.int .i64 p.prio] 25)).alloc (.cells #[.int .i64 f.fn,.int .i64 f.pc,.int .u64 (f.r 0:Nat),.int .u64 (f.r 1:Nat),.int .u64 (f.r 2:Nat),.int .u64 (f.r 3:Nat),.int .u64 (f.r 4:Nat),.int .u64 (f.r 5:Nat),.int .u64 (f.r 6:Nat),.int .u64 (f.r 7:Nat)] 89)).alloc (.cells #[.int .i64 0,.int .i64 0,.int .i64 0,.int .i64 0,.int .u64 0] 75)=W:=⟨_,rfl⟩
 obtain ⟨b1,b2,b3,u3,z3⟩:=Dk.three _ _ _ _ _ _ _ _ e3
 have hw:W.cell? ⟨fb,fo+f.fn.toNat,none⟩=some (.slice (some ⟨ib,io,none⟩) L' C'):=by rw [u3.cell (by show fb < w.heap.size;exact hfb)];exact hc
 have hall:∀ o,W.cell? ⟨ib,o,none⟩=w.cell? ⟨ib,o,none⟩:=fun o=>u3.cell (by show ib < w.heap.size;exact hib)
 rw [← hall,← hall,← hall,← hall,← hall] at hi
 clear hc hall
 have c1:=b1.cell
 have c2:=b2.cell
 have HB1:Hid _:=b1
 have HB2:Hid _:=b2
 have HB3:Hid _:=b3
 have HU:Hid _:=u3
 have HI:Hid _:=hi
 clear b1 b2 b3 u3 z3 hi
 go_enter Tryz.func145,Tryz.ntmps145
 go_wp2_with (first | (rw [e3];clear e3) | fail)
 try rw [e3]
 try clear e3
 go_quiet ((go_at_call 179;exact Calls.quiet_of_same (zal _ _ _)))
 go_wp2
 refine Dk.zav (S:=fun w'=>Dk.Box w' w.heap.size #[.slice (some ⟨fb,fo,none⟩) fL fC,.int .i64 p.words,.int .i64 p.mutexes,.int .i64 p.conds,.slice sA sL sC,.slice pA pL pC,.int .i64 p.blocks,.int .i64 p.prio] 25∧Dk.Box w' (w.heap.size+1) (Dk.fc f) 89∧w'.cell? ⟨fb,fo+f.fn.toNat,none⟩=some (.slice (some ⟨ib,io,none⟩) L' C')∧
  w'.cell? ⟨ib,io+f.pc.toNat*5,none⟩=some (.int .i64 i.op)∧w'.cell? ⟨ib,io+f.pc.toNat*5+1,none⟩=some (.int .i64 i.a)∧w'.cell? ⟨ib,io+f.pc.toNat*5+2,none⟩=some (.int .i64 i.b)∧w'.cell? ⟨ib,io+f.pc.toNat*5+3,none⟩=some (.int .i64 i.c)∧w'.cell? ⟨ib,io+f.pc.toNat*5+4,none⟩=some (.int .u64 (i.n:Nat))) [0,1,2,3,4,5,6,7,8,9] [10,11] (by kernel_rfl) (by kernel_rfl) ⟨(HB1.out.drewN nq).drew,(HB2.out.drewN nq).drew,hw,HI.out⟩ ?_
 refine Dk.za (v:=.pointer (some ⟨w.heap.size,0,none⟩)) rfl rfl (fun w' hw=>?_) ?_
 ·go_simp
 simp only [zD]
 refine Dk.za (v:=.slice (some ⟨fb,fo,none⟩) fL fC) rfl rfl (fun w' hw=>?_) ?_
 ·have k1:=hw.1.cell
  go_simp
 simp only [zD]
 refine Dk.za (v:=.pointer (some ⟨w.heap.size+1,0,none⟩)) rfl rfl (fun w' hw=>?_) ?_
 ·go_simp
 simp only [zD]
 refine Dk.za (v:=.int .i64 f.fn) rfl rfl (fun w' hw=>?_) ?_
 ·have k1:=hw.2.1.cell
  go_simp
 simp only [zD]
 refine Dk.za (v:=.pointer (some ⟨fb,fo+f.fn.toNat,none⟩)) rfl rfl (fun w' hw=>?_) ?_
 ·go_simp
 simp only [zD]
 refine Dk.za (v:=.slice (some ⟨ib,io,none⟩) L' C') rfl rfl (fun w' hw=>?_) ?_
 ·have k1:=hw.2.2.1
  go_simp
 simp only [zD]
 refine Dk.za (v:=.pointer (some ⟨w.heap.size+1,1,none⟩)) rfl rfl (fun w' hw=>?_) ?_
 ·go_simp
 simp only [zD]
 refine Dk.za (v:=.int .i64 f.pc) rfl rfl (fun w' hw=>?_) ?_
 ·have k1:=hw.2.1.cell
  go_simp
 simp only [zD]
 refine Dk.za (v:=.pointer (some ⟨ib,io+f.pc.toNat*5,none⟩)) rfl rfl (fun w' hw=>?_) ?_
 ·go_simp
 simp only [zD]
 refine Dk.za (v:=Dk.iv i) rfl rfl (fun w' hw=>?_) ?_
 ·obtain ⟨_,_,_,k1,k2,k3,k4,k5⟩:=hw
  go_simp
 simp only [zD]
 refine Dk.zan rfl rfl ?_
 refine wp_store_row 75 _ _ rfl (w.heap.size+1+1) (Dk.ic i) rfl rfl 75 _ (HB3.out.drewN nq).drew.heap zef rfl (zec _) ?_
 have t1:=(HB1.out.drewN nq).drew.zao (b':=w.heap.size+1+1) (cs':=Dk.ic i) (by omega)
 have t2:=(HB2.out.drewN nq).drew.zao (b':=w.heap.size+1+1) (cs':=Dk.ic i) (by omega)
 have t3:=(HB3.out.drewN nq).drew.row (cs':=Dk.ic i)
 have tu:Below w.heap.size w _:=below_setRow (g:=w.heap.size+1+1) (Dk.zm (Dk.zy HU.out nq)) (by omega) (Dk.ic i)
 have tk:∀ b o,b < w.heap.size→((W.drewN nq).drew.setRow (w.heap.size+1+1) (Dk.ic i)).cell? ⟨b,o,none⟩=W.cell? ⟨b,o,none⟩:=fun b o hb=>(tu.cell (p:=⟨b,o,none⟩) hb).trans (HU.out.cell (p:=⟨b,o,none⟩) hb).symm
 generalize (W.drewN nq).drew.setRow (w.heap.size+1+1) (Dk.ic i)=w3 at *
 have s1:=(tk fb (fo+f.fn.toNat) hfb).trans hw
 have s2:=HI.out
 rw [← tk ib _ hib,← tk ib _ hib,← tk ib _ hib,← tk ib _ hib,← tk ib _ hib] at s2
 refine ⟨⟨t1,t2,s1,s2⟩,?_⟩
 refine Dk.zan rfl rfl ?_
 refine zgg (v:=.bool true) ?_ ?_
 ·go_simp
 refine ⟨⟨t1,t2,s1,s2⟩,?_⟩
 show NoPanic _ Exit.normal _ _
 refine NoPanic.normal ?_
 simp only [zD]
 go_wp2
 have c6:=t3.cell
 exact bodyPost_ret (v:=.tuple #[Dk.iv i,.bool true]) (by simp [results,Tryz.results145,go_sem,c6]) rfl ⟨rfl,tu⟩
theorem Next_any (s:Dk.Sh) (p:Dk.Prg) (f:Dk.Frm) (w:World) (h:Dk.PrgAt w.heap.size w s p) :
  Calls Tryz.prog 145 #[Dk.pv s p,Dk.fv f] w fun e w'=>e=.returned (.tuple #[Dk.iv (Dk.nextI p f),.bool (Dk.nextB p f)])∧Below w.heap.size w w':=by
 obtain ⟨fA,fL,fC,sA,sL,sC,pA,pL,pC⟩:=s
 have hfn:=h.funcs
 have hlen:p.funcs.length=fL:=hfn.len
 cases h1:Dk.plB f.fn (fL:Int)
 ·have e1:Dk.nextB p f=false:=by unfold Dk.nextB;rw [hlen,h1];rfl
  have e2:Dk.nextI p f=Dk.Ins.zero:=by unfold Dk.nextI;rw [e1];rfl
  rw [e1,e2]
  exact zim fA sA pA fL fC sL sC pL pC p f w h1
 ·obtain ⟨x0,x1⟩:=Dk.zb9.1 h1
  obtain ⟨fb,fo,e,hfb,hc⟩:=hfn.cells (by show 0 < fL;omega)
  obtain ⟨A',L',C',hc1,hN⟩:=hc f.fn.toNat (by show f.fn.toNat < fL;omega)
  have hl':(p.funcs.getD f.fn.toNat []).length=L':=hN.len
  cases h2:Dk.plB f.pc (L':Int)
  ·have e1:Dk.nextB p f=false:=by unfold Dk.nextB;rw [hl',h2,Bool.and_false]
   have e2:Dk.nextI p f=Dk.Ins.zero:=by unfold Dk.nextI;rw [e1];rfl
   rw [e1,e2]
   exact Next_off fA sA pA fL fC sL sC pL pC p f w fb fo A' L' C' h1 h2 e hfb hc1
  ·obtain ⟨y0,y1⟩:=Dk.zb9.1 h2
   have e1:Dk.nextB p f=true:=by unfold Dk.nextB;rw [hlen,h1,hl',h2];rfl
   have e2:Dk.nextI p f=(p.funcs.getD f.fn.toNat []).getD f.pc.toNat Dk.Ins.zero:=by unfold Dk.nextI;rw [e1];rfl
   rw [e1,e2]
   obtain ⟨ib,io,rfl,hib,hi⟩:=hN.cells (by omega)
   exact zin fA sA pA fL fC sL sC pL pC p f w fb fo ib io L' C' _ h1 h2 e hfb hib hc1 (hi f.pc.toNat (by omega))
theorem zai {α:Type} (xs:List α) (f:α→Bool) (d:α) (k:Nat) (h:k < xs.length):(xs.take (k+1)).all f=((xs.take k).all f && f (xs.getD k d)):=by
 rw [List.take_succ_eq_append_getElem h,List.all_append]
 simp [List.getD,h]
theorem zgk {α:Type} (xs:List α) (f:α→Bool) (d:α) (k:Nat) (h:k < xs.length) (hf:f (xs.getD k d)=false):xs.all f=false:=by
 rw [List.all_eq_false]
 refine ⟨xs.getD k d,?_,by rw [hf];simp⟩
 rw [List.getD_eq_getElem?_getD,List.getElem?_eq_getElem h]
 exact List.getElem_mem h
theorem zn (B:Nat) (A:Option Addr) (L C:Nat) (xs:List Int) (l m:Int) (w:World) (h:Dk.SlI B w A L C xs) :
  Calls Tryz.prog 111 #[.slice A L C,.int .i64 l,.int .i64 m] w fun e w'=>e=.returned (.bool (Dk.allWithinB xs l m))∧w'=w:=by
 obtain ⟨hlen,hcap,hmax,_,hcells⟩:=h
 unfold maxLen at hmax
 have HL:Hid (xs.length=L):=hlen
 have HC:=hcells
 clear hlen hcells
 have HC':Hid _:=HC
 clear HC
 go_enter Tryz.func111,Tryz.ntmps111
 go_wp2
 go_loop [11] (fun i=>∃ k:Nat,k≤L∧i=.int .i64 k∧Hid ((xs.take k).all (fun n=>Dk.withinB n l m)=true)) (fun i=>L - (intOf i).toNat)
 case atStart=>exact ⟨0,Nat.zero_le _,rfl,by show (xs.take 0).all _=true;simp⟩
 case round=>
  obtain ⟨k,hk,rfl,HA⟩:=hrel
  by_cases hlt:k < L
  ·obtain ⟨b,o,rfl,_,hc⟩:=HC'.out (by omega)
   have hcell:=hc k hlt
   clear hc HC'
   obtain ⟨v,hv⟩:∃ v,v=xs.getD k 0:=⟨_,rfl⟩
   rw [← hv] at hcell
   have HV:Hid (v=xs.getD k 0):=hv
   clear hv
   cases hw:Dk.withinB v l m
   ·have HW:=hw
    go_wp2_with (go_at_call 110;refine (zd _ _ _ _).mono ?_;rintro e w' ⟨rfl,rfl⟩)
    go_ret
    exact ⟨zl (zgk xs _ 0 k (by rw [HL.out];exact hlt) (by rw [← HV.out];exact HW)).symm,rfl⟩
   ·have HW:=hw
    go_wp2_with (go_at_call 110;refine (zd _ _ _ _).mono ?_;rintro e w' ⟨rfl,rfl⟩)
    go_round
    case rel=>
     refine ⟨k+1,by omega,by go_num,?_⟩
     show (xs.take (k+1)).all _=true
     rw [zai xs _ 0 k (by rw [HL.out];exact hlt),HA.out,← HV.out,HW]
     rfl
    case measure=>simp [intOf];omega
  ·go_wp2
   go_ret
   refine ⟨zl ?_,rfl⟩
   have:=HA.out
   rw [List.take_of_length_le (by rw [HL.out];omega)] at this
   exact this.symm
theorem zap (B:Nat) (A:Option Addr) (L C:Nat) (fs:List (List Dk.Ins)) (w:World) (h:Dk.SlF B w A L C fs) :
  Calls Tryz.prog 74 #[.slice A L C] w fun e w'=>e=.returned (.bool (Dk.codeFitsB fs))∧w'=w:=by
 obtain ⟨hlen,hcap,hmax,hcells⟩:=h
 unfold maxLen at hmax
 have HL:Hid (fs.length=L):=hlen
 have HC:=hcells
 clear hlen hcells
 have HC':Hid _:=HC
 clear HC
 have HR:Hid (Dk.codeFitsB fs=(Dk.withinB L 1 8 && fs.all fun c=>decide (c.length≤256))):=by show Dk.codeFitsB fs=_;unfold Dk.codeFitsB;rw [HL.out]
 cases hw:Dk.withinB L 1 8
 ·have HW:=hw
  go_enter Tryz.func74,Tryz.ntmps74
  go_wp2_with (go_at_call 110;refine (zd _ _ _ _).mono ?_;rintro e w' ⟨rfl,rfl⟩)
  go_ret
  exact ⟨zl (by rw [HR.out,HW];rfl),rfl⟩
 ·have HW:=hw
  go_enter Tryz.func74,Tryz.ntmps74
  go_wp2_with (go_at_call 110;refine (zd _ _ _ _).mono ?_;rintro e w' ⟨rfl,rfl⟩)
  go_loop [11] (fun i=>∃ k:Nat,k≤L∧i=.int .i64 k∧Hid ((fs.take k).all (fun c=>decide (c.length≤256))=true)) (fun i=>L - (intOf i).toNat)
  case atStart=>exact ⟨0,Nat.zero_le _,rfl,by show (fs.take 0).all _=true;simp⟩
  case round=>
   obtain ⟨k,hk,rfl,HA⟩:=hrel
   by_cases hlt:k < L
   ·obtain ⟨b,o,rfl,_,hc⟩:=HC'.out (by omega)
    obtain ⟨A',L',C',hcell,hn⟩:=hc k hlt
    have HN:Hid ((fs.getD k []).length=L'):=hn.len
    have hmax':=hn.max
    have hcap':=hn.cap
    unfold maxLen at hmax'
    clear hc hn HC'
    by_cases hl:L'≤256
    ·have hl2:¬ 256 < L':=by omega
     go_wp2
     go_round
     case rel=>
      refine ⟨k+1,by omega,by go_num,?_⟩
      show (fs.take (k+1)).all _=true
      rw [zai fs _ [] k (by rw [HL.out];exact hlt),HA.out,HN.out]
      simp [hl]
     case measure=>simp [intOf];omega
    ·have hl2:256 < L':=by omega
     go_wp2
     go_ret
     exact ⟨zl (by rw [HR.out,zgk fs _ [] k (by rw [HL.out];exact hlt) (by rw [HN.out];simp [hl]),Bool.and_false]),rfl⟩
   ·go_wp2
    go_ret
    refine ⟨zl ?_,rfl⟩
    have:=HA.out
    rw [List.take_of_length_le (by rw [HL.out];omega)] at this
    rw [HR.out,HW,this]
    rfl
theorem form_out {op:Int} (h:op < 1∨38 < op):Dk.form op=((0,0,0,0),false):=by
 unfold Dk.form
 repeat rw [if_neg (by omega)]
theorem zak (op:Int) (w:World) :
    Calls Tryz.prog 133 #[.int .i64 op] w fun e w'=>e=.returned (.tuple #[.agg #[.int .i64 (Dk.form op).1.1,.int .i64 (Dk.form op).1.2.1,.int .i64 (Dk.form op).1.2.2.1,.int .i64 (Dk.form op).1.2.2.2],.bool (Dk.form op).2])∧Below w.heap.size w w':=by
  go_enter Tryz.func133,Tryz.ntmps133
  go_wp2
  all_goals
    first
      | (have e:=eq_of_beq ‹(op == _)=true›
         subst e
         exact bodyPost_ret (v:=.tuple #[.agg #[.int .i64 _,.int .i64 _,.int .i64 _,.int .i64 _],.bool _]) (by simp [results,Tryz.results133,go_sem];exact ⟨⟨rfl,rfl,rfl,rfl⟩,rfl⟩) rfl ⟨rfl,(Below.refl _ _).alloc (Nat.le_refl _) _⟩)
      | skip
  have ho:op < 1∨38 < op:=by
    have h1:=ne_of_beq_false ‹(op == 1)=false›
    have h2:=ne_of_beq_false ‹(op == 2)=false›
    have h3:=ne_of_beq_false ‹(op == 3)=false›
    have h4:=ne_of_beq_false ‹(op == 4)=false›
    have h5:=ne_of_beq_false ‹(op == 5)=false›
    have h6:=ne_of_beq_false ‹(op == 6)=false›
    have h7:=ne_of_beq_false ‹(op == 7)=false›
    have h8:=ne_of_beq_false ‹(op == 8)=false›
    have h9:=ne_of_beq_false ‹(op == 9)=false›
    have h10:=ne_of_beq_false ‹(op == 10)=false›
    have h11:=ne_of_beq_false ‹(op == 11)=false›
    have h12:=ne_of_beq_false ‹(op == 12)=false›
    have h13:=ne_of_beq_false ‹(op == 13)=false›
    have h14:=ne_of_beq_false ‹(op == 14)=false›
    have h15:=ne_of_beq_false ‹(op == 15)=false›
    have h16:=ne_of_beq_false ‹(op == 16)=false›
    have h17:=ne_of_beq_false ‹(op == 17)=false›
    have h18:=ne_of_beq_false ‹(op == 18)=false›
    have h19:=ne_of_beq_false ‹(op == 19)=false›
    have h20:=ne_of_beq_false ‹(op == 20)=false›
    have h21:=ne_of_beq_false ‹(op == 21)=false›
    have h22:=ne_of_beq_false ‹(op == 22)=false›
    have h23:=ne_of_beq_false ‹(op == 23)=false›
    have h24:=ne_of_beq_false ‹(op == 24)=false›
    have h25:=ne_of_beq_false ‹(op == 25)=false›
    have h26:=ne_of_beq_false ‹(op == 26)=false›
    have h27:=ne_of_beq_false ‹(op == 27)=false›
    have h28:=ne_of_beq_false ‹(op == 28)=false›
    have h29:=ne_of_beq_false ‹(op == 29)=false›
    have h30:=ne_of_beq_false ‹(op == 30)=false›
    have h31:=ne_of_beq_false ‹(op == 31)=false›
    have h32:=ne_of_beq_false ‹(op == 32)=false›
    have h33:=ne_of_beq_false ‹(op == 33)=false›
    have h34:=ne_of_beq_false ‹(op == 34)=false›
    have h35:=ne_of_beq_false ‹(op == 35)=false›
    have h36:=ne_of_beq_false ‹(op == 36)=false›
    have h37:=ne_of_beq_false ‹(op == 37)=false›
    have h38:=ne_of_beq_false ‹(op == 38)=false›
    omega
  exact bodyPost_ret (v:=.tuple #[.agg #[.int .i64 0,.int .i64 0,.int .i64 0,.int .i64 0],.bool false]) (by simp [results,Tryz.results133,go_sem]) rfl ⟨by rw [form_out ho],(Below.refl _ _).alloc (Nat.le_refl _) _⟩
theorem zfv {p:Dk.Prg} (hp:p.ok) (x:Int):Dk.i64 (Dk.choices p x):=by
 obtain ⟨h1,h2,h3,h4,h5⟩:=hp
 unfold Dk.i64 at *
 unfold Dk.choices
 repeat' split
 all_goals omega
structure Lens (s:Dk.Sh) (p:Dk.Prg):Prop where
 ef:p.funcs.length=s.fL
 es:p.sems.length=s.sL
 ep:p.pipes.length=s.pL
theorem zam {B:Nat} {w:World} {s:Dk.Sh} {p:Dk.Prg} (h:Dk.PrgAt B w s p):Lens s p:=⟨h.funcs.len,h.sems.len,h.pipes.len⟩
theorem zac (s:Dk.Sh) (p:Dk.Prg) (x v:Int) (w:World) (hs:Lens s p) (hp:p.ok) :
  Calls Tryz.prog 134 #[.int .i64 x,Dk.pv s p,.int .u64 v] w fun e w'=>e=.returned (.bool (Dk.mayB p x v))∧Below w.heap.size w w':=
 zjz s p x v w hs.ef hs.es hs.ep (zfv hp x)
theorem zbi (p:Dk.Prg) (i:Dk.Ins):Dk.soundB p i=((Dk.form i.op).2 && Dk.mayB p (Dk.form i.op).1.1 (IntKind.u64.wrap i.a) && Dk.mayB p (Dk.form i.op).1.2.1 (IntKind.u64.wrap i.b) && Dk.mayB p (Dk.form i.op).1.2.2.1 (IntKind.u64.wrap i.c) && Dk.mayB p (Dk.form i.op).1.2.2.2 i.n):=by
 unfold Dk.soundB
 rw [zd4,zd4,zd4]
theorem sound_0 (s:Dk.Sh) (p:Dk.Prg) (i:Dk.Ins) (w:World) (hs:Lens s p) (hp:p.ok)  (h0:(Dk.form i.op).2=false) :
  Calls Tryz.prog 112 #[Dk.pv s p,Dk.iv i] w fun e w'=>e=.returned (.bool (Dk.soundB p i))∧Below w.heap.size w w':=by
 have HS:Hid (Dk.soundB p i=false):=by show _=false;rw [zbi,h0];rfl
 go_enter Tryz.func112,Tryz.ntmps112
 go_wp2_with fail
 refine (zak _ _).mono ?_
 rintro e w1 ⟨rfl,hb1⟩
 obtain ⟨hc1,hf1,hz1⟩:=Dk.bcell hb1
 simp only [World.size_alloc] at hz1
 have hn0:w.heap.size < w1.heap.size:=by omega
 have hn1:w.heap.size+1 < w1.heap.size:=by omega
 clear hz1
 go_wp2_with fail
 go_ret
 exact ⟨zl HS.out.symm,Dk.zb (Dk.zg (Dk.zb (Dk.zb (Below.refl _ _) _) _) hb1) _⟩
theorem sound_1 (s:Dk.Sh) (p:Dk.Prg) (i:Dk.Ins) (w:World) (hs:Lens s p) (hp:p.ok) (h0:(Dk.form i.op).2=true) (h1:Dk.mayB p (Dk.form i.op).1.1 (IntKind.u64.wrap i.a)=false) :
  Calls Tryz.prog 112 #[Dk.pv s p,Dk.iv i] w fun e w'=>e=.returned (.bool (Dk.soundB p i))∧Below w.heap.size w w':=by
 have HS:Hid (Dk.soundB p i=false):=by show _=false;rw [zbi,h0,h1];rfl
 go_enter Tryz.func112,Tryz.ntmps112
 go_wp2_with fail
 refine (zak _ _).mono ?_
 rintro e w1 ⟨rfl,hb1⟩
 obtain ⟨hc1,hf1,hz1⟩:=Dk.bcell hb1
 simp only [World.size_alloc] at hz1
 have hn0:w.heap.size < w1.heap.size:=by omega
 have hn1:w.heap.size+1 < w1.heap.size:=by omega
 clear hz1
 go_wp2_with fail
 refine (zac s p _ _ _ hs hp).mono ?_
 rintro e w2 ⟨rfl,hb2⟩
 obtain ⟨hc2,hf2,hz2⟩:=Dk.bcell hb2
 simp only [World.size_alloc] at hz2
 have n20:w.heap.size < w2.heap.size:=by omega
 have n21:w.heap.size+1 < w2.heap.size:=by omega
 have n22:w1.heap.size < w2.heap.size:=by omega
 clear hz2
 go_wp2_with fail
 go_ret
 exact ⟨zl HS.out.symm,Dk.zg (Dk.zb (Dk.zg (Dk.zb (Dk.zb (Below.refl _ _) _) _) hb1) _) hb2⟩
theorem sound_2 (s:Dk.Sh) (p:Dk.Prg) (i:Dk.Ins) (w:World) (hs:Lens s p) (hp:p.ok) (h0:(Dk.form i.op).2=true) (h1:Dk.mayB p (Dk.form i.op).1.1 (IntKind.u64.wrap i.a)=true) (h2:Dk.mayB p (Dk.form i.op).1.2.1 (IntKind.u64.wrap i.b)=false) :
  Calls Tryz.prog 112 #[Dk.pv s p,Dk.iv i] w fun e w'=>e=.returned (.bool (Dk.soundB p i))∧Below w.heap.size w w':=by
 have HS:Hid (Dk.soundB p i=false):=by show _=false;rw [zbi,h0,h1,h2];rfl
 go_enter Tryz.func112,Tryz.ntmps112
 go_wp2_with fail
 refine (zak _ _).mono ?_
 rintro e w1 ⟨rfl,hb1⟩
 obtain ⟨hc1,hf1,hz1⟩:=Dk.bcell hb1
 simp only [World.size_alloc] at hz1
 have hn0:w.heap.size < w1.heap.size:=by omega
 have hn1:w.heap.size+1 < w1.heap.size:=by omega
 clear hz1
 go_wp2_with fail
 refine (zac s p _ _ _ hs hp).mono ?_
 rintro e w2 ⟨rfl,hb2⟩
 obtain ⟨hc2,hf2,hz2⟩:=Dk.bcell hb2
 simp only [World.size_alloc] at hz2
 have n20:w.heap.size < w2.heap.size:=by omega
 have n21:w.heap.size+1 < w2.heap.size:=by omega
 have n22:w1.heap.size < w2.heap.size:=by omega
 clear hz2
 go_wp2_with fail
 refine (zac s p _ _ _ hs hp).mono ?_
 rintro e w3 ⟨rfl,hb3⟩
 obtain ⟨hc3,hf3,hz3⟩:=Dk.bcell hb3
 have n30:w.heap.size < w3.heap.size:=by omega
 have n31:w.heap.size+1 < w3.heap.size:=by omega
 have n32:w1.heap.size < w3.heap.size:=by omega
 clear hz3
 go_wp2_with fail
 go_ret
 exact ⟨zl HS.out.symm,Dk.zg (Dk.zg (Dk.zb (Dk.zg (Dk.zb (Dk.zb (Below.refl _ _) _) _) hb1) _) hb2) hb3⟩
theorem sound_3 (s:Dk.Sh) (p:Dk.Prg) (i:Dk.Ins) (w:World) (hs:Lens s p) (hp:p.ok) (h0:(Dk.form i.op).2=true) (h1:Dk.mayB p (Dk.form i.op).1.1 (IntKind.u64.wrap i.a)=true) (h2:Dk.mayB p (Dk.form i.op).1.2.1 (IntKind.u64.wrap i.b)=true) (h3:Dk.mayB p (Dk.form i.op).1.2.2.1 (IntKind.u64.wrap i.c)=false) :
  Calls Tryz.prog 112 #[Dk.pv s p,Dk.iv i] w fun e w'=>e=.returned (.bool (Dk.soundB p i))∧Below w.heap.size w w':=by
 have HS:Hid (Dk.soundB p i=false):=by show _=false;rw [zbi,h0,h1,h2,h3];rfl
 go_enter Tryz.func112,Tryz.ntmps112
 go_wp2_with fail
 refine (zak _ _).mono ?_
 rintro e w1 ⟨rfl,hb1⟩
 obtain ⟨hc1,hf1,hz1⟩:=Dk.bcell hb1
 simp only [World.size_alloc] at hz1
 have hn0:w.heap.size < w1.heap.size:=by omega
 have hn1:w.heap.size+1 < w1.heap.size:=by omega
 clear hz1
 go_wp2_with fail
 refine (zac s p _ _ _ hs hp).mono ?_
 rintro e w2 ⟨rfl,hb2⟩
 obtain ⟨hc2,hf2,hz2⟩:=Dk.bcell hb2
 simp only [World.size_alloc] at hz2
 have n20:w.heap.size < w2.heap.size:=by omega
 have n21:w.heap.size+1 < w2.heap.size:=by omega
 have n22:w1.heap.size < w2.heap.size:=by omega
 clear hz2
 go_wp2_with fail
 refine (zac s p _ _ _ hs hp).mono ?_
 rintro e w3 ⟨rfl,hb3⟩
 obtain ⟨hc3,hf3,hz3⟩:=Dk.bcell hb3
 have n30:w.heap.size < w3.heap.size:=by omega
 have n31:w.heap.size+1 < w3.heap.size:=by omega
 have n32:w1.heap.size < w3.heap.size:=by omega
 clear hz3
 go_wp2_with fail
 refine (zac s p _ _ _ hs hp).mono ?_
 rintro e w4 ⟨rfl,hb4⟩
 obtain ⟨hc4,hf4,hz4⟩:=Dk.bcell hb4
 have n40:w.heap.size < w4.heap.size:=by omega
 have n41:w.heap.size+1 < w4.heap.size:=by omega
 have n42:w1.heap.size < w4.heap.size:=by omega
 clear hz4
 go_wp2_with fail
 go_ret
 exact ⟨zl HS.out.symm,Dk.zg (Dk.zg (Dk.zg (Dk.zb (Dk.zg (Dk.zb (Dk.zb (Below.refl _ _) _) _) hb1) _) hb2) hb3) hb4⟩
theorem sound_4 (s:Dk.Sh) (p:Dk.Prg) (i:Dk.Ins) (w:World) (hs:Lens s p) (hp:p.ok) (h0:(Dk.form i.op).2=true) (h1:Dk.mayB p (Dk.form i.op).1.1 (IntKind.u64.wrap i.a)=true) (h2:Dk.mayB p (Dk.form i.op).1.2.1 (IntKind.u64.wrap i.b)=true) (h3:Dk.mayB p (Dk.form i.op).1.2.2.1 (IntKind.u64.wrap i.c)=true) (h4:Dk.mayB p (Dk.form i.op).1.2.2.2 i.n=false) :
  Calls Tryz.prog 112 #[Dk.pv s p,Dk.iv i] w fun e w'=>e=.returned (.bool (Dk.soundB p i))∧Below w.heap.size w w':=by
 have HS:Hid (Dk.soundB p i=false):=by show _=false;rw [zbi,h0,h1,h2,h3,h4,Bool.and_false]
 go_enter Tryz.func112,Tryz.ntmps112
 go_wp2_with fail
 refine (zak _ _).mono ?_
 rintro e w1 ⟨rfl,hb1⟩
 obtain ⟨hc1,hf1,hz1⟩:=Dk.bcell hb1
 simp only [World.size_alloc] at hz1
 have hn0:w.heap.size < w1.heap.size:=by omega
 have hn1:w.heap.size+1 < w1.heap.size:=by omega
 clear hz1
 go_wp2_with fail
 refine (zac s p _ _ _ hs hp).mono ?_
 rintro e w2 ⟨rfl,hb2⟩
 obtain ⟨hc2,hf2,hz2⟩:=Dk.bcell hb2
 simp only [World.size_alloc] at hz2
 have n20:w.heap.size < w2.heap.size:=by omega
 have n21:w.heap.size+1 < w2.heap.size:=by omega
 have n22:w1.heap.size < w2.heap.size:=by omega
 clear hz2
 go_wp2_with fail
 refine (zac s p _ _ _ hs hp).mono ?_
 rintro e w3 ⟨rfl,hb3⟩
 obtain ⟨hc3,hf3,hz3⟩:=Dk.bcell hb3
 have n30:w.heap.size < w3.heap.size:=by omega
 have n31:w.heap.size+1 < w3.heap.size:=by omega
 have n32:w1.heap.size < w3.heap.size:=by omega
 clear hz3
 go_wp2_with fail
 refine (zac s p _ _ _ hs hp).mono ?_
 rintro e w4 ⟨rfl,hb4⟩
 obtain ⟨hc4,hf4,hz4⟩:=Dk.bcell hb4
 have n40:w.heap.size < w4.heap.size:=by omega
 have n41:w.heap.size+1 < w4.heap.size:=by omega
 have n42:w1.heap.size < w4.heap.size:=by omega
 clear hz4
 go_wp2_with fail
 refine (zac s p _ _ _ hs hp).mono ?_
 rintro e w5 ⟨rfl,hb5⟩
 obtain ⟨hc5,hf5,hz5⟩:=Dk.bcell hb5
 have n50:w.heap.size < w5.heap.size:=by omega
 have n51:w.heap.size+1 < w5.heap.size:=by omega
 have n52:w1.heap.size < w5.heap.size:=by omega
 clear hz5
 go_wp2_with fail
 go_ret
 exact ⟨zl HS.out.symm,Dk.zg (Dk.zg (Dk.zg (Dk.zg (Dk.zb (Dk.zg (Dk.zb (Dk.zb (Below.refl _ _) _) _) hb1) _) hb2) hb3) hb4) hb5⟩
theorem sound_5 (s:Dk.Sh) (p:Dk.Prg) (i:Dk.Ins) (w:World) (hs:Lens s p) (hp:p.ok) (h0:(Dk.form i.op).2=true) (h1:Dk.mayB p (Dk.form i.op).1.1 (IntKind.u64.wrap i.a)=true) (h2:Dk.mayB p (Dk.form i.op).1.2.1 (IntKind.u64.wrap i.b)=true) (h3:Dk.mayB p (Dk.form i.op).1.2.2.1 (IntKind.u64.wrap i.c)=true) (h4:Dk.mayB p (Dk.form i.op).1.2.2.2 i.n=true) :
  Calls Tryz.prog 112 #[Dk.pv s p,Dk.iv i] w fun e w'=>e=.returned (.bool (Dk.soundB p i))∧Below w.heap.size w w':=by
 have HS:Hid (Dk.soundB p i=true):=by show _=true;rw [zbi,h0,h1,h2,h3,h4];rfl
 go_enter Tryz.func112,Tryz.ntmps112
 go_wp2_with fail
 refine (zak _ _).mono ?_
 rintro e w1 ⟨rfl,hb1⟩
 obtain ⟨hc1,hf1,hz1⟩:=Dk.bcell hb1
 simp only [World.size_alloc] at hz1
 have hn0:w.heap.size < w1.heap.size:=by omega
 have hn1:w.heap.size+1 < w1.heap.size:=by omega
 clear hz1
 go_wp2_with fail
 refine (zac s p _ _ _ hs hp).mono ?_
 rintro e w2 ⟨rfl,hb2⟩
 obtain ⟨hc2,hf2,hz2⟩:=Dk.bcell hb2
 simp only [World.size_alloc] at hz2
 have n20:w.heap.size < w2.heap.size:=by omega
 have n21:w.heap.size+1 < w2.heap.size:=by omega
 have n22:w1.heap.size < w2.heap.size:=by omega
 clear hz2
 go_wp2_with fail
 refine (zac s p _ _ _ hs hp).mono ?_
 rintro e w3 ⟨rfl,hb3⟩
 obtain ⟨hc3,hf3,hz3⟩:=Dk.bcell hb3
 have n30:w.heap.size < w3.heap.size:=by omega
 have n31:w.heap.size+1 < w3.heap.size:=by omega
 have n32:w1.heap.size < w3.heap.size:=by omega
 clear hz3
 go_wp2_with fail
 refine (zac s p _ _ _ hs hp).mono ?_
 rintro e w4 ⟨rfl,hb4⟩
 obtain ⟨hc4,hf4,hz4⟩:=Dk.bcell hb4
 have n40:w.heap.size < w4.heap.size:=by omega
 have n41:w.heap.size+1 < w4.heap.size:=by omega
 have n42:w1.heap.size < w4.heap.size:=by omega
 clear hz4
 go_wp2_with fail
 refine (zac s p _ _ _ hs hp).mono ?_
 rintro e w5 ⟨rfl,hb5⟩
 obtain ⟨hc5,hf5,hz5⟩:=Dk.bcell hb5
 have n50:w.heap.size < w5.heap.size:=by omega
 have n51:w.heap.size+1 < w5.heap.size:=by omega
 have n52:w1.heap.size < w5.heap.size:=by omega
 clear hz5
 go_wp2_with fail
 go_ret
 exact ⟨zl HS.out.symm,Dk.zg (Dk.zg (Dk.zg (Dk.zg (Dk.zb (Dk.zg (Dk.zb (Dk.zb (Below.refl _ _) _) _) hb1) _) hb2) hb3) hb4) hb5⟩
theorem zes (s:Dk.Sh) (p:Dk.Prg) (i:Dk.Ins) (w:World) (hs:Lens s p) (hp:p.ok) :
  Calls Tryz.prog 112 #[Dk.pv s p,Dk.iv i] w fun e w'=>e=.returned (.bool (Dk.soundB p i))∧Below w.heap.size w w':=by
 cases h0:(Dk.form i.op).2
 ·exact sound_0 s p i w hs hp h0
 cases h1:Dk.mayB p (Dk.form i.op).1.1 (IntKind.u64.wrap i.a)
 ·exact sound_1 s p i w hs hp h0 h1
 cases h2:Dk.mayB p (Dk.form i.op).1.2.1 (IntKind.u64.wrap i.b)
 ·exact sound_2 s p i w hs hp h0 h1 h2
 cases h3:Dk.mayB p (Dk.form i.op).1.2.2.1 (IntKind.u64.wrap i.c)
 ·exact sound_3 s p i w hs hp h0 h1 h2 h3
 cases h4:Dk.mayB p (Dk.form i.op).1.2.2.2 i.n
 ·exact sound_4 s p i w hs hp h0 h1 h2 h3 h4
 ·exact sound_5 s p i w hs hp h0 h1 h2 h3 h4
theorem zcf (B:Nat) (s:Dk.Sh) (p:Dk.Prg) (w:World) (h:Dk.PrgAt B w s p) (hB:B≤w.heap.size) :
  Calls Tryz.prog 76 #[Dk.pv s p] w fun e w'=>e=.returned (.bool (Dk.allSoundB p))∧Below w.heap.size w w':=by
 have hmax:=h.funcs.max
 have hcap:=h.funcs.cap
 unfold maxLen at hmax
 have HL:Hid (p.funcs.length=s.fL):=h.funcs.len
 have hs:=zam h
 have hp:=h.ok
 obtain ⟨sfA,sfL,sfC,sA,sL,sC,pA,pL,pC⟩:=s
 simp only at hmax hcap HL
 go_enter Tryz.func76,Tryz.ntmps76
 go_wp2
 go_loopw [10] (fun i w'=>∃ k:Nat,k≤sfL∧i=.int .i64 k∧Hid ((p.funcs.take k).all (fun c=>c.all fun i=>Dk.soundB p i)=true)∧Hid (Below (w.alloc (.cells #[.slice sfA sfL sfC,.int .i64 p.words,.int .i64 p.mutexes,.int .i64 p.conds,.slice sA sL sC,.slice pA pL pC,.int .i64 p.blocks,.int .i64 p.prio] 25)).heap.size (w.alloc (.cells #[.slice sfA sfL sfC,.int .i64 p.words,.int .i64 p.mutexes,.int .i64 p.conds,.slice sA sL sC,.slice pA pL pC,.int .i64 p.blocks,.int .i64 p.prio] 25)) w')) (fun i w'=>sfL - (intOf i).toNat)
 case atStart=>exact ⟨0,Nat.zero_le _,rfl,by show (p.funcs.take 0).all _=true;simp,Below.refl _ _⟩
 case round=>
  obtain ⟨k,hk,rfl,HA,HB⟩:=hrel
  by_cases hlt:k < sfL
  ·obtain ⟨b,o,rfl,hbB,hc⟩:=h.funcs.cells (by show 0 < sfL;omega)
   obtain ⟨A',L',C',hcell0,hn⟩:=hc k hlt
   have hcell:wr.cell? ⟨b,o+k,none⟩=some (.slice A' L' C'):=by
    rw [HB.out.cell (by simp;omega),(Dk.zb (Below.refl w.heap.size w) _).cell (by show b < w.heap.size;omega)];exact hcell0
   have hbox:=Dk.zbg HB.out
   clear hc hcell0
   have hmax':=hn.max
   have hcap':=hn.cap
   unfold maxLen at hmax'
   have HN:Hid ((p.funcs.getD k []).length=L'):=hn.len
   go_wp2
   clear hcell hbox
   go_loopw [16] (fun i w'=>∃ j:Nat,j≤L'∧i=.int .i64 j∧Hid (((p.funcs.getD k []).take j).all (fun i=>Dk.soundB p i)=true)∧Hid (Below (w.alloc (.cells #[.slice (some ⟨b,o,none⟩) sfL sfC,.int .i64 p.words,.int .i64 p.mutexes,.int .i64 p.conds,.slice sA sL sC,.slice pA pL pC,.int .i64 p.blocks,.int .i64 p.prio] 25)).heap.size (w.alloc (.cells #[.slice (some ⟨b,o,none⟩) sfL sfC,.int .i64 p.words,.int .i64 p.mutexes,.int .i64 p.conds,.slice sA sL sC,.slice pA pL pC,.int .i64 p.blocks,.int .i64 p.prio] 25)) w')) (fun i w'=>L' - (intOf i).toNat)
   case atStart=>exact ⟨0,Nat.zero_le _,rfl,by show (List.take 0 _).all _=true;simp,HB⟩
   case round=>
    obtain ⟨j,hj,rfl,HA2,HB2⟩:=hrel
    by_cases hlt2:j < L'
    ·obtain ⟨b',o',rfl,hbB',hc⟩:=hn.cells (by omega)
     have hx:=hc j hlt2
     generalize hg:(p.funcs.getD k []).getD j Dk.Ins.zero=x at hx
     have HG:Hid ((p.funcs.getD k []).getD j Dk.Ins.zero=x):=hg
     clear hg hc
     have up:∀ q,wr.cell? ⟨b',q,none⟩=w.cell? ⟨b',q,none⟩:=fun q=>by
      rw [HB2.out.cell (by simp;omega),(Dk.zb (Below.refl w.heap.size w) _).cell (by show b' < w.heap.size;omega)]
     have x0:=(up _).trans hx.1
     have x1:=(up _).trans hx.2.1
     have x2:=(up _).trans hx.2.2.1
     have x3:=(up _).trans hx.2.2.2.1
     have x4:=(up _).trans hx.2.2.2.2
     have hbox:=Dk.zbg HB2.out
     have hz:=HB2.out.size
     simp only [World.size_alloc] at hz
     have hz':w.heap.size < wr.heap.size:=by omega
     clear hx up hz
     cases hsd:Dk.soundB p x
     ·have HSD:Hid (Dk.soundB p x=false):=hsd
      go_wp2_with fail
      refine (zes _ p x _ hs hp).mono ?_
      rintro e w3 ⟨rfl,hb3⟩
      rw [HSD.out]
      go_wp2_with fail
      go_ret
      exact ⟨zl (zgk p.funcs _ [] k (by rw [HL.out];exact hlt) (zgk _ _ Dk.Ins.zero j (by rw [HN.out];exact hlt2) (by rw [HG.out];exact HSD.out))).symm,Dk.zg (Dk.zb (Dk.zg (Dk.zb (Below.refl _ _) _) HB2.out) _) hb3⟩
     ·have HSD:Hid (Dk.soundB p x=true):=hsd
      go_wp2_with fail
      refine (zes _ p x _ hs hp).mono ?_
      rintro e w3 ⟨rfl,hb3⟩
      rw [HSD.out]
      go_wp2_with fail
      go_roundw
      case rel=>
       refine ⟨j+1,by omega,by go_num,?_,Dk.zg (Dk.zb HB2.out _) hb3⟩
       show List.all _ _=true
       rw [zai _ _ Dk.Ins.zero j (by rw [HN.out];exact hlt2),HA2.out,HG.out,HSD.out]
       rfl
      case measure=>simp [intOf];omega
    ·go_wp2
     go_roundw
     case rel=>
      refine ⟨k+1,by omega,by go_num,?_,HB2⟩
      show List.all _ _=true
      have:=HA2.out
      rw [List.take_of_length_le (by rw [HN.out];omega)] at this
      rw [zai _ _ [] k (by rw [HL.out];exact hlt),HA.out,this]
      rfl
     case measure=>simp [intOf];omega
  ·go_wp2
   go_ret
   refine ⟨zl ?_,Dk.zg (Dk.zb (Below.refl _ _) _) HB.out⟩
   have:=HA.out
   rw [List.take_of_length_le (by rw [HL.out];omega)] at this
   exact this.symm
end Go.Proofs.YtpnajphbjfehnaaGreat
