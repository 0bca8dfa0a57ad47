import Derived.Test.YtglhhlfopccmaaaGreatOw42
set_option linter.unusedSimpArgs false
set_option linter.unusedVariables false
set_option linter.unnecessarySimpa false
set_option maxHeartbeats 8000000
set_option maxRecDepth 100000
namespace Dk
open Go Go.RowKit
def awA:List Ins:=[⟨20,1,0,0,1⟩,⟨21,2,1,0,0⟩,⟨38,2,0,0,0⟩]
def awB:List Ins:=[⟨1,3,0,0,9⟩,⟨23,3,0,0,0⟩]
def awP:Prg:=Go.Proofs.YtglhhlfopccmaaaGreat.twoP awA awB
def aw0:Sp:=Sp.fresh awP
def aw1:Sp:=(aw0.run 0 0).1
def aw2:Sp:=(aw1.run 0 0).1
def aw3:Sp:=(aw2.run 1 0).1
def aw4:Sp:=(aw3.run 1 0).1
theorem zkn:check awP=0:=by decide +kernel
theorem aw_r1:(aw0.run 0 0).2.1.woken=[1]:=by decide +kernel
theorem aw_r2:(aw1.run 0 0).2.1.stopped=true:=by decide +kernel
theorem aw_r4:(aw3.run 1 0).2.1.ended=true∧(aw3.run 1 0).2.1.woken=[0]:=by decide +kernel
theorem aw_end:us aw4.st 0=true∧(aw4.thr 0).f.r 2=9∧(aw4.thr 0).why=0∧aw4.recs.length=4:=by decide +kernel
theorem aw_rec:(aw4.recs.flatMap Rec.cells)[21]? = some (.int .u64 9)∧(aw4.recs.flatMap Rec.cells)[23]? = some (.bool true):=⟨by kernel_rfl,by kernel_rfl⟩
theorem awA_ok:∀ i ∈ awA,i.ok:=by
 intro i hi
 simp [awA] at hi
 rcases hi with rfl | rfl | rfl <;> exact ⟨by unfold i64;decide,by unfold i64;decide,by unfold i64;decide,by unfold i64;decide,by decide⟩
theorem awB_ok:∀ i ∈ awB,i.ok:=by
 intro i hi
 simp [awB] at hi
 rcases hi with rfl | rfl <;> exact ⟨by unfold i64;decide,by unfold i64;decide,by unfold i64;decide,by unfold i64;decide,by decide⟩
end Dk
namespace Go.Proofs.YtglhhlfopccmaaaGreat
open Go.RowKit Go.Lib
theorem zo0 (w w':World) (x:Int) (hx:Dk.i64 x) (e:w'=w.alloc (.cells #[.int .i64 x] 3)):Dk.SlI w'.heap.size w' (some ⟨w.heap.size,0,none⟩) 1 1 [x]:=by
 have b6:Dk.Box w' w.heap.size #[.int .i64 x] 3:=by rw [e];exact Dk.Box.new _ _ _
 exact ⟨rfl,Nat.le_refl _,by unfold maxLen;omega,fun y hy=>by simp at hy;rw [hy];exact hx,fun _=>⟨_,0,rfl,b6.lt,fun k hk=>by
  obtain rfl:k=0:=by omega
  exact b6.cell 0⟩⟩
theorem zf5 (x:Int) (h:-1000000≤x∧x≤1000000):Dk.i64 x:=by unfold Dk.i64;omega
section
variable {W w w' : World} {L : Dk.Loc} {q q0 : Dk.Sp} {k N R : Nat} {us us' : List Dk.Thing}
theorem Lives.with (h:Lives W w L q0 q N k R us) (c:Cor W w L q k us→Cor W w' L q k us'):Lives W w' L q0 q N k R us':=⟨c h.cor,h.life,h.dims,h.recs⟩
theorem zh5 (w:World):Calls Tryz.prog 14 #[] w fun e w'=>e=.returned (.bool true)∧Below w.heap.size w w':=by
 obtain ⟨W1,e1⟩:∃ W1,W1=w.alloc (.cells #[.int .i64 20,.int .i64 1,.int .i64 0,.int .i64 0,.int .u64 1,.int .i64 21,.int .i64 2,.int .i64 1,.int .i64 0,.int .u64 0,.int .i64 38,.int .i64 2,.int .i64 0,.int .i64 0,.int .u64 0] 112):=⟨_,rfl⟩
 obtain ⟨W2,e2⟩:∃ W2,W2=W1.alloc (.cells #[.int .i64 1,.int .i64 3,.int .i64 0,.int .i64 0,.int .u64 9,.int .i64 23,.int .i64 3,.int .i64 0,.int .i64 0,.int .u64 0] 112):=⟨_,rfl⟩
 have s2:=((Dk.Sep.begin (Below.refl w.heap.size w)).newBox e1).newBox e2
 have z1:W1.heap.size=w.heap.size+1:=by rw [e1];simp
 have z2:W2.heap.size=w.heap.size+1+1:=by rw [e2];simp [z1]
 rw [z1] at s2
 have bA:Dk.Box W2 w.heap.size (Dk.awA.flatMap Dk.Ins.cells).toArray 112:=s2.box (b:=w.heap.size) (by simp [Dk.awA,Dk.Ins.cells])
 have bB:Dk.Box W2 (w.heap.size+1) (Dk.awB.flatMap Dk.Ins.cells).toArray 112:=s2.box (b:=w.heap.size+1) (by simp [Dk.awB,Dk.Ins.cells])
 have K2:=two_any (B:=W2.heap.size) W2 (Nat.le_refl _) (Dk.SlN.zit bA (by omega) (by decide) Dk.awA_ok) (Dk.SlN.zit bB (by omega) (by decide) Dk.awB_ok)
 have K2':Calls Tryz.prog 52 #[.slice (some ⟨w.heap.size,0,none⟩) 3 3,.slice (some ⟨w.heap.size+1,0,none⟩) 2 2] W2 fun e w'=>∃ s:Dk.Sh,e=.returned (Dk.pv s Dk.awP)∧Dk.PrgAt w'.heap.size w' s Dk.awP∧Below W2.heap.size W2 w':=K2
 have HU:Hid (Below w.heap.size w W2):=s2.out
 have H1:Hid _:=e1.symm
 have H2:Hid _:=e2.symm
 clear e1 e2 s2 z2 bA bB K2
 go_enter Tryz.func14,Tryz.ntmps14
 go_wp2_with (first | (rw [H1.out];clear H1) | (rw [H2.out];clear H2))
 refine K2'.mono ?_
 rintro e w3 ⟨s,rfl,hp,u3⟩
 have s3:Dk.Sep w w3 []:=Dk.Sep.begin (Dk.zi HU.out u3)
 have K3:=zki s3 s Dk.awP hp (Nat.le_refl _) Dk.zkn
 have HBN:Hid (Dk.Born Dk.aw0):=zn0 hp Dk.zkn
 clear K2' u3 s3 hp z1
 go_wp2_with fail
 refine K3.mono ?_
 rintro e w4 ⟨L,rfl,h4⟩
 have K:=zch h4 HBN.out (by omega) (by omega) (by omega) 0 (ch:=0) (zf5 _ (by omega))
 have K':Calls Tryz.prog 28 #[.pointer (some ⟨L.b,0,none⟩),.int .i64 0,.int .i64 0] w4 fun e w'=>∃ A C,e=.returned (.tuple #[eff A (Dk.aw0.run 0 0).2.1.woken.length C (Dk.aw0.run 0 0).2.1.stopped (Dk.aw0.run 0 0).2.1.ended (Dk.aw0.run 0 0).2.1.yielded,.int .i64 (Dk.aw0.run 0 0).2.2])∧Lives w w' L Dk.aw0 Dk.aw1 1 2 17 (Dk.rowOf 3 1 (.slice A (Dk.aw0.run 0 0).2.1.woken.length C) (Dk.aw0.run 0 0).2.1.woken.length (Dk.is (Dk.aw0.run 0 0).2.1.woken)::[]):=K
 clear K h4
 rw [Dk.aw_r1] at K'
 generalize (Dk.aw0.run 0 0).2.1.stopped=s1 at K'
 generalize (Dk.aw0.run 0 0).2.1.ended=n1 at K'
 generalize (Dk.aw0.run 0 0).2.1.yielded=y1 at K'
 generalize (Dk.aw0.run 0 0).2.2=r1 at K'
 go_wp2_with fail
 refine K'.mono ?_
 rintro e w5 ⟨A1,C1,rfl,h5⟩
 clear K' K3
 obtain ⟨x5,e5⟩:∃ x5,x5=w5.alloc (.cells #[.slice A1 1 C1,.bool s1,.bool n1,.bool y1] 68):=⟨_,rfl⟩
 have g5:=h5.with (fun c=>c.newBox e5)
 have H5:Hid (w5.alloc _=x5):=e5.symm
 generalize hb5:w5.heap.size=b5 at *
 clear h5 e5
 have K:=zch g5 HBN.out (by omega) (by omega) (by omega) 0 (ch:=0) (zf5 _ (by omega))
 have K':Calls Tryz.prog 28 #[.pointer (some ⟨L.b,0,none⟩),.int .i64 0,.int .i64 0] x5 fun e w'=>∃ A C,e=.returned (.tuple #[eff A (Dk.aw1.run 0 0).2.1.woken.length C (Dk.aw1.run 0 0).2.1.stopped (Dk.aw1.run 0 0).2.1.ended (Dk.aw1.run 0 0).2.1.yielded,.int .i64 (Dk.aw1.run 0 0).2.2])∧Lives w w' L Dk.aw0 Dk.aw2 2 3 34 (Dk.rowOf 3 1 (.slice A (Dk.aw1.run 0 0).2.1.woken.length C) (Dk.aw1.run 0 0).2.1.woken.length (Dk.is (Dk.aw1.run 0 0).2.1.woken)::Dk.boxOf b5 #[.slice A1 1 C1,.bool s1,.bool n1,.bool y1] 68::Dk.rowOf 3 1 (.slice A1 1 C1) 1 (Dk.is [1])::[]):=K
 clear K g5
 rw [Dk.aw_r2] at K'
 generalize (Dk.aw1.run 0 0).2.1.woken=l2 at K'
 generalize (Dk.aw1.run 0 0).2.1.ended=n2 at K'
 generalize (Dk.aw1.run 0 0).2.1.yielded=y2 at K'
 generalize (Dk.aw1.run 0 0).2.2=r2 at K'
 go_wp2_with (rw [H5.out];clear H5)
 refine K'.mono ?_
 rintro e w6 ⟨A2,C2,rfl,h6⟩
 clear K'
 obtain ⟨x6,e6⟩:∃ x6,x6=w6.alloc (.cells #[.slice A2 l2.length C2,.bool true,.bool n2,.bool y2] 68):=⟨_,rfl⟩
 have g6:=h6.with (fun c=>c.newBox e6)
 have H6:Hid (w6.alloc _=x6):=e6.symm
 generalize hb6:w6.heap.size=b6 at *
 clear h6 e6
 have K:=zch g6 HBN.out (by omega) (by omega) (by omega) 1 (ch:=0) (zf5 _ (by omega))
 have K':Calls Tryz.prog 28 #[.pointer (some ⟨L.b,0,none⟩),.int .i64 1,.int .i64 0] x6 fun e w'=>∃ A C,e=.returned (.tuple #[eff A (Dk.aw2.run 1 0).2.1.woken.length C (Dk.aw2.run 1 0).2.1.stopped (Dk.aw2.run 1 0).2.1.ended (Dk.aw2.run 1 0).2.1.yielded,.int .i64 (Dk.aw2.run 1 0).2.2])∧Lives w w' L Dk.aw0 Dk.aw3 3 4 51 (Dk.rowOf 3 1 (.slice A (Dk.aw2.run 1 0).2.1.woken.length C) (Dk.aw2.run 1 0).2.1.woken.length (Dk.is (Dk.aw2.run 1 0).2.1.woken)::Dk.boxOf b6 #[.slice A2 l2.length C2,.bool true,.bool n2,.bool y2] 68::Dk.rowOf 3 1 (.slice A2 l2.length C2) l2.length (Dk.is l2)::Dk.boxOf b5 #[.slice A1 1 C1,.bool s1,.bool n1,.bool y1] 68::Dk.rowOf 3 1 (.slice A1 1 C1) 1 (Dk.is [1])::[]):=K
 clear K g6
 generalize (Dk.aw2.run 1 0).2.1.woken=l3 at K'
 generalize (Dk.aw2.run 1 0).2.1.stopped=s3 at K'
 generalize (Dk.aw2.run 1 0).2.1.ended=n3 at K'
 generalize (Dk.aw2.run 1 0).2.1.yielded=y3 at K'
 generalize (Dk.aw2.run 1 0).2.2=r3 at K'
 go_wp2_with (rw [H6.out];clear H6)
 refine K'.mono ?_
 rintro e w7 ⟨A3,C3,rfl,h7⟩
 have g7:=h7.with (fun c=>c.drop)
 clear K' h7
 have K:=zch g7 HBN.out (by omega) (by omega) (by omega) 1 (ch:=0) (zf5 _ (by omega))
 have K':Calls Tryz.prog 28 #[.pointer (some ⟨L.b,0,none⟩),.int .i64 1,.int .i64 0] w7 fun e w'=>∃ A C,e=.returned (.tuple #[eff A (Dk.aw3.run 1 0).2.1.woken.length C (Dk.aw3.run 1 0).2.1.stopped (Dk.aw3.run 1 0).2.1.ended (Dk.aw3.run 1 0).2.1.yielded,.int .i64 (Dk.aw3.run 1 0).2.2])∧Lives w w' L Dk.aw0 Dk.aw4 4 5 68 (Dk.rowOf 3 1 (.slice A (Dk.aw3.run 1 0).2.1.woken.length C) (Dk.aw3.run 1 0).2.1.woken.length (Dk.is (Dk.aw3.run 1 0).2.1.woken)::Dk.boxOf b6 #[.slice A2 l2.length C2,.bool true,.bool n2,.bool y2] 68::Dk.rowOf 3 1 (.slice A2 l2.length C2) l2.length (Dk.is l2)::Dk.boxOf b5 #[.slice A1 1 C1,.bool s1,.bool n1,.bool y1] 68::Dk.rowOf 3 1 (.slice A1 1 C1) 1 (Dk.is [1])::[]):=K
 clear K g7
 rw [Dk.aw_r4.1,Dk.aw_r4.2] at K'
 generalize (Dk.aw3.run 1 0).2.1.stopped=s4 at K'
 generalize (Dk.aw3.run 1 0).2.1.yielded=y4 at K'
 generalize (Dk.aw3.run 1 0).2.2=r4 at K'
 go_wp2_with fail
 refine K'.mono ?_
 rintro e w8 ⟨A4,C4,rfl,h8⟩
 clear K'
 obtain ⟨x8,e8⟩:∃ x8,x8=w8.alloc (.cells #[.slice A4 1 C4,.bool s4,.bool true,.bool y4] 68):=⟨_,rfl⟩
 have g8:=h8.with (fun c=>c.newBox e8)
 have H8:Hid (w8.alloc _=x8):=e8.symm
 generalize hb8:w8.heap.size=b8 at *
 clear h8 e8
 obtain ⟨a1,a2,a3,a4⟩:=Dk.aw_end
 have KL:=Look_yes (n:=0) g8.cor (by omega) (by omega) a1
 unfold tcells at KL
 generalize Dk.aw4.thr 0=t at KL a2 a3
 generalize Dk.aw4.hnd 0=hnd at KL
 rw [a2,a3] at KL
 clear a1 a2 a3
 go_wp2_with (rw [H8.out];clear H8)
 refine KL.mono ?_
 rintro e w9 ⟨rfl,h9⟩
 clear KL g8
 obtain ⟨x9,e9⟩:∃ x9,x9=w9.alloc (.cells #[.int .u64 (hnd:Nat),.int .i64 0,.int .i64 t.f.fn,.int .i64 t.f.pc,.int .u64 (t.f.r 0:Nat),.int .u64 (t.f.r 1:Nat),.int .u64 9,.int .u64 (t.f.r 3:Nat),.int .u64 (t.f.r 4:Nat),.int .u64 (t.f.r 5:Nat),.int .u64 (t.f.r 6:Nat),.int .u64 (t.f.r 7:Nat),.int .u64 (t.value:Nat)] 41):=⟨_,rfl⟩
 have g9:=h9.newBox e9
 have H9:Hid (w9.alloc _=x9):=e9.symm
 generalize hb9:w9.heap.size=b9 at *
 clear h9 e9
 have KR:=zi8 g9 (by rw [a4];omega)
 rw [a4] at KR
 obtain ⟨c1,c2⟩:=Dk.aw_rec
 generalize Dk.aw4.recs.flatMap Dk.Rec.cells=xs at KR c1 c2
 clear g9 a4
 go_wp2_with (rw [H9.out];clear H9)
 refine KR.mono ?_
 rintro e w10 ⟨A10,C10,rfl,h10⟩
 clear KR
 have u10:=h10.out
 have r10:=h10.row (e:=74) (s:=6) (v:=.slice A10 4 C10) (m:=4) (xs:=xs) (by simp)
 obtain ⟨g,rfl,hx⟩:∃ g,A10=some ⟨g,0,none⟩∧∀ j u,xs[j]? = some u→w10.cell? ⟨g,j,none⟩=some u:=by
  obtain ⟨_,⟨e0,h0⟩ | ⟨g,cap,cur,e0,hg⟩⟩:=id r10
  ·cases h0
  ·injection e0 with e1 e2 e3
   subst e1
   refine ⟨g,rfl,fun j u hj=>?_⟩
   have:=r10.cells (g:=g) rfl j u hj
   rw [Addr.add_lit,Nat.zero_add] at this
   exact this
 have c21:=hx 21 _ c1
 have c23:=hx 23 _ c2
 have facts:∀ w',Below w10.heap.size w10 w'→(∀ o,w'.cell? ⟨b5,o,none⟩=(#[.slice A1 1 C1,.bool s1,.bool n1,.bool y1]:Array Value)[o]?)∧(∀ o,w'.cell? ⟨b6,o,none⟩=(#[.slice A2 l2.length C2,.bool true,.bool n2,.bool y2]:Array Value)[o]?)∧(∀ o,w'.cell? ⟨b8,o,none⟩=(#[.slice A4 1 C4,.bool s4,.bool true,.bool y4]:Array Value)[o]?)∧(∀ o,w'.cell? ⟨b9,o,none⟩=(#[.int .u64 (hnd:Nat),.int .i64 0,.int .i64 t.f.fn,.int .i64 t.f.pc,.int .u64 (t.f.r 0:Nat),.int .u64 (t.f.r 1:Nat),.int .u64 9,.int .u64 (t.f.r 3:Nat),.int .u64 (t.f.r 4:Nat),.int .u64 (t.f.r 5:Nat),.int .u64 (t.f.r 6:Nat),.int .u64 (t.f.r 7:Nat),.int .u64 (t.value:Nat)]:Array Value)[o]?)∧w'.cell? ⟨g,21,none⟩=some (.int .u64 9)∧w'.cell? ⟨g,23,none⟩=some (.bool true):=fun w' u=>by
  have h':=h10.below u
  have hg:g < w10.heap.size:=(World.ownsRow.lt r10 g rfl).2
  exact ⟨(h'.box (a:=b5) (cs:=#[.slice A1 1 C1,.bool s1,.bool n1,.bool y1]) (e:=68) (by simp)).cell,(h'.box (a:=b6) (cs:=#[.slice A2 l2.length C2,.bool true,.bool n2,.bool y2]) (e:=68) (by simp)).cell,(h'.box (a:=b8) (cs:=#[.slice A4 1 C4,.bool s4,.bool true,.bool y4]) (e:=68) (by simp)).cell,(h'.box (a:=b9) (cs:=#[.int .u64 (hnd:Nat),.int .i64 0,.int .i64 t.f.fn,.int .i64 t.f.pc,.int .u64 (t.f.r 0:Nat),.int .u64 (t.f.r 1:Nat),.int .u64 9,.int .u64 (t.f.r 3:Nat),.int .u64 (t.f.r 4:Nat),.int .u64 (t.f.r 5:Nat),.int .u64 (t.f.r 6:Nat),.int .u64 (t.f.r 7:Nat),.int .u64 (t.value:Nat)]) (e:=41) (by simp)).cell,by rw [u.cell hg];exact c21,by rw [u.cell hg];exact c23⟩
 have o5:=h10.row (e:=3) (s:=1) (v:=.slice A1 1 C1) (m:=1) (xs:=Dk.is [1]) (by simp)
 have o8:=h10.row (e:=3) (s:=1) (v:=.slice A4 1 C4) (m:=1) (xs:=Dk.is [0]) (by simp)
 have HF:Hid _:=facts
 have HU10:Hid (Below w.heap.size w w10):=u10
 have i1:=(Dk.zbe (xs:=[1]) o5 (by simp [Dk.i64]))
 have i0:=(Dk.zbe (xs:=[0]) o8 (by simp [Dk.i64]))
 obtain ⟨A5,C5,ev5,q5⟩:=i1
 obtain ⟨A8,C8,ev8,q8⟩:=i0
 injection ev5 with ea eb ec
 subst ea ec
 injection ev8 with ea2 eb2 ec2
 subst ea2 ec2
 have q5':Dk.SlI w10.heap.size w10 A1 1 C1 [1]:=q5
 have q8':Dk.SlI w10.heap.size w10 A4 1 C4 [0]:=q8
 clear h10 u10 r10 hx c1 c2 o5 o8 q5 q8 eb eb2 c21 c23 facts
 obtain ⟨w11,e11⟩:∃ w11,w11=w10.alloc (.cells #[.int .i64 1] 3):=⟨_,rfl⟩
 have u11:Below w10.heap.size w10 w11:=by rw [e11];exact Dk.zb (Below.refl _ _) _
 have K11:=zc7 A1 (some ⟨w10.heap.size,0,none⟩) 1 C1 1 [1] w11 ((q5'.below u11 (Nat.le_refl _)).more u11.size) (zo0 w10 w11 1 (zf5 _ (by omega)) e11)
 have H11:Hid _:=e11.symm
 have HU11:Hid (Below w10.heap.size w10 w11):=u11
 have HQ8:Hid (Dk.SlI w10.heap.size w10 A4 1 C4 [0]):=q8'
 obtain ⟨f5,f6,f8,f9,f21,f23⟩:=HF.out w10 (Below.refl _ _)
 clear q5' q8' u11
 clear e11
 go_wp2_with (rw [H11.out];clear H11)
 refine K11.mono ?_
 rintro e w12 ⟨rfl,u12⟩
 have u12':=Dk.zi HU11.out u12
 have HU12:Hid (Below w10.heap.size w10 w12):=u12'
 obtain ⟨w13,e13⟩:∃ w13,w13=w12.alloc (.cells #[.int .i64 0] 3):=⟨_,rfl⟩
 have u13:Below w12.heap.size w12 w13:=by rw [e13];exact Dk.zb (Below.refl _ _) _
 have u13':=Dk.zi u12' u13
 have K13:=zc7 A4 (some ⟨w12.heap.size,0,none⟩) 1 C4 1 [0] w13 ((HQ8.out.below u13' (Nat.le_refl _)).more u13'.size) (zo0 w12 w13 0 (zf5 _ (by omega)) e13)
 have H13:Hid _:=e13.symm
 have HU13:Hid (Below w10.heap.size w10 w13):=u13'
 clear f5 f6 f8 f9 f21 f23 K11
 obtain ⟨f5,f6,f8,f9,f21,f23⟩:=HF.out w12 u12'
 clear e13 u12 u12' u13 u13'
 go_wp2_with (rw [H13.out];clear H13)
 refine K13.mono ?_
 rintro e w14 ⟨rfl,u14⟩
 have u14':=Dk.zi HU13.out u14
 have u15:=Dk.zi HU10.out u14'
 clear f5 f6 f8 f9 f21 f23 K13
 obtain ⟨f5,f6,f8,f9,f21,f23⟩:=HF.out w14 u14'
 have HU15:Hid (Below w.heap.size w w14):=u15
 clear u14 u14' u15
 go_wp2_with fail
 go_ret
 exact ⟨rfl,HU15.out⟩
end
end Go.Proofs.YtglhhlfopccmaaaGreat
namespace Dk
open Go Go.RowKit
theorem znq {B:Nat} {w:World} {A:Option Addr} {L C:Nat} {ac:List (List Int)} (h:Row 3 [] IsInts B w A L C ac) (h0:0 < L):∃ b o,A=some ⟨b,o,none⟩∧b < B∧∀ k,k < L→∃ x0 x1 x2,(i64 x0∧i64 x1∧i64 x2)∧w.cell? ⟨b,o+k*3,none⟩=some (.int .i64 x0)∧w.cell? ⟨b,o+k*3+1,none⟩=some (.int .i64 x1)∧w.cell? ⟨b,o+k*3+2,none⟩=some (.int .i64 x2):=by
 obtain ⟨b,o,e,hb,hc⟩:=h.cells h0
 refine ⟨b,o,e,hb,fun k hk=>?_⟩
 obtain ⟨vs,h1,⟨rfl,h2⟩,h3⟩:=hc k hk
 match hm:ac.getD k [],h1,h2,h3 with
 | [x0,x1,x2],_,h2,h3=>exact ⟨x0,x1,x2,⟨h2 x0 (by simp),h2 x1 (by simp),h2 x2 (by simp)⟩,h3 0 (by omega),h3 1 (by omega),h3 2 (by omega)⟩
theorem zpu {q:Sp} {slot ch:Int} (h:(q.run slot ch).2.2≠0):(q.run slot ch).1=q∧(q.run slot ch).2.1=Eff.none:=by
 unfold Sp.run at h ⊢
 dsimp only at h ⊢
 split
 ·exact ⟨rfl,rfl⟩
 split
 ·exact ⟨rfl,rfl⟩
 ·rename_i h1 h2
  rw [if_neg h1,if_neg h2] at h
  repeat' split at h
  all_goals exact absurd rfl h
theorem done_no {q:Sp} {k:Int} (h:(q.done k).2.2≠0):(q.done k).1=q∧(q.done k).2.1=Eff.none:=by
 unfold Sp.done at h ⊢
 split
 ·exact ⟨rfl,rfl⟩
 ·rename_i h1
  rw [if_neg h1] at h
  exact absurd rfl h
end Dk
namespace Go.Proofs.YtglhhlfopccmaaaGreat
open Go.RowKit Go.Lib
section
variable {W w w' : World} {L L1 L2 : Dk.Loc} {q q0 q1 q2 : Dk.Sp} {k k1 k2 N R j : Nat} {us us' t2 : List Dk.Thing}
theorem Lives.mono {N' k' R':Nat} (h:Lives W w L q0 q N k R us) (hN:N≤N') (hk:k≤k') (hR:R≤R'):Lives W w L q0 q N' k' R' us:=⟨h.cor.mono hk,h.life.mono hN,h.dims,Nat.le_trans h.recs hR⟩
def Goes (W w:World) (L:Dk.Loc) (q0 q:Dk.Sp) (j:Nat) (us:List Dk.Thing):Prop:=Lives W w L q0 q j (j+1) (200*j) us
theorem run_goes (h:Goes W w L q0 q j us) (b:Dk.Born q0) (hj:j≤150) (slot ch:Int) (hch:Dk.i64 ch) :
  Calls Tryz.prog 28 #[.pointer (some ⟨L.b,0,none⟩),.int .i64 slot,.int .i64 ch] w fun e w'=>∃ A C,e=.returned (.tuple #[eff A (q.run slot ch).2.1.woken.length C (q.run slot ch).2.1.stopped (q.run slot ch).2.1.ended (q.run slot ch).2.1.yielded,.int .i64 (q.run slot ch).2.2])∧Goes W w' L q0 (q.run slot ch).1 (j+1) (Dk.rowOf 3 1 (.slice A (q.run slot ch).2.1.woken.length C) (q.run slot ch).2.1.woken.length (Dk.is (q.run slot ch).2.1.woken)::us):=by
 refine (zch h b (by omega) (by omega) (by omega) slot hch).mono ?_
 rintro e w' ⟨A,C,he,h'⟩
 exact ⟨A,C,he,h'.mono (Nat.le_refl _) (Nat.le_refl _) (by omega)⟩
theorem zom (h:Goes W w L q0 q j us) (b:Dk.Born q0) (hj:j≤150) (ch:Int) (hch:Dk.i64 ch) :
  Calls Tryz.prog 29 #[.pointer (some ⟨L.b,0,none⟩),.int .i64 ch] w fun e w'=>∃ A C,e=.returned (.tuple #[eff A (q.done ch).2.1.woken.length C false false false,.int .i64 (q.done ch).2.2])∧Goes W w' L q0 (q.done ch).1 (j+1) (Dk.rowOf 3 1 (.slice A (q.done ch).2.1.woken.length C) (q.done ch).2.1.woken.length (Dk.is (q.done ch).2.1.woken)::us):=by
 refine (zl3 h b (by omega) (by omega) (by omega) ch hch).mono ?_
 rintro e w' ⟨A,C,he,h'⟩
 exact ⟨A,C,he,h'.mono (by omega) (by omega) (by omega)⟩
theorem zp6 (h:Goes W w L q0 q j us) (b:Dk.Born q0) (hj:j≤150) :
  Calls Tryz.prog 30 #[.pointer (some ⟨L.b,0,none⟩)] w fun e w'=>∃ A C,e=.returned (eff A q.tick.2.woken.length C false false false)∧Goes W w' L q0 q.tick.1 (j+1) (Dk.rowOf 3 1 (.slice A q.tick.2.woken.length C) q.tick.2.woken.length (Dk.is q.tick.2.woken)::us):=by
 refine (zmx h b (by omega) (by omega) (by omega)).mono ?_
 rintro e w' ⟨A,C,he,h'⟩
 exact ⟨A,C,he,h'.mono (by omega) (by omega) (by omega)⟩
theorem Goes.with (h:Goes W w L q0 q j us) (c:Cor W w L q (j+1) us→Cor W w' L q (j+1) us'):Goes W w' L q0 q j us':=Lives.with h c
def Beside (W:World) (L:Dk.Loc) (q:Dk.Sp) (k:Nat) (ts:List Dk.Thing):Prop:=∀ w us,Dk.Sep W w (us++ts)→Cor W w L q k us
def Twin (W w:World) (L1 L2:Dk.Loc) (q0 q:Dk.Sp) (j:Nat) (us:List Dk.Thing):Prop:=∃ t2,Goes W w L1 q0 q j (us++t2)∧Beside W L2 q (j+1) t2
theorem Twin.with (h:Twin W w L1 L2 q0 q j us) (c:∀ q k t2,Cor W w L1 q k (us++t2)→Cor W w' L1 q k (us'++t2)):Twin W w' L1 L2 q0 q j us':=by
 obtain ⟨t2,h1,h2⟩:=h
 exact ⟨t2,h1.with (c _ _ _),h2⟩
def Half2 (W w:World) (L1 L2:Dk.Loc) (q0 q q':Dk.Sp) (j:Nat) (us:List Dk.Thing):Prop:=∃ t2,Goes W w L1 q0 q' (j+1) (us++t2)∧Beside W L2 q (j+1) t2∧Dk.Life j q∧Dk.Dims q0 q∧q.recs.length≤200*j
theorem Half2.with (h:Half2 W w L1 L2 q0 q q1 j us) (c:∀ q k t2,Cor W w L1 q k (us++t2)→Cor W w' L1 q k (us'++t2)):Half2 W w' L1 L2 q0 q q1 j us':=by
 obtain ⟨t2,h1,h2⟩:=h
 exact ⟨t2,h1.with (c _ _ _),h2⟩
end
section
variable {W w w' : World} {L L1 L2 : Dk.Loc} {q q0 q1 q2 : Dk.Sp} {j : Nat} {us us' : List Dk.Thing}
theorem Twin.out (h:Twin W w L1 L2 q0 q j us):Below W.heap.size W w:=by
 obtain ⟨t2,h1,_⟩:=h
 exact h1.cor.out
end
end Go.Proofs.YtglhhlfopccmaaaGreat
namespace Dk
theorem ready_in {q:Sp} {x:Int} (h:x ∈ q.ready):∃ n:Nat,x=n∧n < 16∧us q.st n=true∧(q.thr n).why=0:=by
 unfold Sp.ready at h
 rw [List.mem_filter] at h
 obtain ⟨j,e,hj,hu⟩:=zhu h.1
 subst e
 exact ⟨j,rfl,hj,hu,by simpa using h.2⟩
theorem zfb {q:Sp}:∀ x ∈ q.ready,i64 x:=fun x hx=>by
 obtain ⟨n,rfl,hn,_⟩:=ready_in hx
 unfold i64
 omega
end Dk
namespace Go.Proofs.YtglhhlfopccmaaaGreat
open Go.RowKit Go.Lib
section
variable {W w w' : World} {L L1 L2 : Dk.Loc} {q q0 q1 q2 : Dk.Sp} {j : Nat} {us us' : List Dk.Thing}
theorem zf3 (h:Goes W w L q0 q j us) (b:Dk.Born q0) :
  Calls Tryz.prog 22 #[.pointer (some ⟨L.b,0,none⟩)] w fun e w'=>∃ A C,e=.returned (.slice A q.ready.length C)∧Goes W w' L q0 q j (Dk.rowOf 3 1 (.slice A q.ready.length C) q.ready.length (Dk.is q.ready)::us):=by
 refine (zng h.cor (by rw [h.dims.sl];exact b.h16)).mono ?_
 rintro e w' ⟨A,C,he,h'⟩
 exact ⟨A,C,he,h.with fun _=>h'⟩
theorem zlc {e:TypeId} {A:Option Addr} {C B:Nat} {xs:List Int} (h:w.ownsRow B e 1 (.slice A xs.length C) xs.length (Dk.is xs)) (hx:∀ x ∈ xs,Dk.i64 x):Dk.SlI w.heap.size w A xs.length C xs:=by
 obtain ⟨A',C',ev,h'⟩:=Dk.zbe h hx
 injection ev with e1 e2 e3
 subst e1 e3
 exact h'
end
end Go.Proofs.YtglhhlfopccmaaaGreat
namespace Dk
open Go Go.RowKit
def sumN (f:Nat→Nat):Nat→Nat
 | 0=>0
 | n+1=>sumN f n+f n
theorem zhn {f g:Nat→Nat}:∀ n,(∀ k,k < n→f k≤g k)→sumN f n≤sumN g n
 | 0,_=>Nat.le_refl _
 | n+1,h=>by
  have h1:=zhn (f:=f) (g:=g) n (fun k hk=>h k (by omega))
  have h2:=h n (by omega)
  simp only [sumN]
  omega
theorem zho {f g:Nat→Nat} {k0 a b:Nat}:∀ n,k0 < n→(∀ k,k < n→k≠k0→f k≤g k)→f k0+a≤g k0+b→sumN f n+a≤sumN g n+b
 | 0,h,_,_=>by omega
 | n+1,h,h1,h2=>by
  simp only [sumN]
  by_cases e:n=k0
  ·subst e
   have:=zhn (f:=f) (g:=g) n (fun k hk=>h1 k (by omega) (by omega))
   omega
  ·have:=zho (f:=f) (g:=g) (k0:=k0) (a:=a) (b:=b) n (by omega) (fun k hk=>h1 k (by omega)) h2
   have:=h1 n (by omega) e
   omega
theorem zbu {α:Type} (g:α→Int) (x:Int) (l:List (List α)) (i:Nat) (y:List α):cts g x (l.set i y)+((l.getD i []).map g).count x≤cts g x l+(y.map g).count x:=by
 by_cases h:i < l.length
 ·exact Nat.le_of_eq (zet g x l i y h)
 ·rw [List.set_eq_of_length_le (by omega)]
  have:l.getD i []=[]:=by rw [List.getD,List.getElem?_eq_none (by omega)];rfl
  rw [this]
  simp
namespace Sp
def jb (q:Sp) (x:Int) (k:Nat):Nat:=if us q.st k=true∧(q.thr k).joined=true∧(q.thr k).joiner=x then 1 else 0
def lists (q:Sp) (x:Int):Nat:=q.gates.cnt x+cts Prod.fst x (q.tubes.map Tu.ps)+cts id x (q.tubes.map Tu.gs)+(q.asked.map Rq.who).count x+(keysOf q.due).count x
def wt (q:Sp) (x:Int):Nat:=q.lists x+sumN (q.jb x) 16
def blkN (q:Sp) (k:Nat):Prop:=us q.st k=true∧(q.thr k).why≠0∧(q.thr k).why≠9
def blk (q:Sp) (x:Int):Prop:=∃ k:Nat,x=k∧k < 16∧q.blkN k
def rc (q:Sp) (k:Nat):Nat:=if us q.st k=true∧(q.thr k).why=0 then 1 else 0
end Sp
structure Calm (q:Sp) (out:List Int):Prop where
 once:∀ x,q.wt x+out.count x≤1
 blk:∀ x,0 < q.wt x+out.count x→q.blk x
def Stay (q q':Sp):Prop:=∀ k,q.blkN k→q'.blkN k
theorem Stay.blk {q q':Sp} (h:Stay q q') {x:Int} (hb:q.blk x):q'.blk x:=by
 obtain ⟨k,e,hk,hb⟩:=hb
 exact ⟨k,e,hk,h k hb⟩
theorem Stay.trans {q q1 q2:Sp} (h:Stay q q1) (h':Stay q1 q2):Stay q q2:=fun k hk=>h' k (h k hk)
theorem Stay.refl (q:Sp):Stay q q:=fun k h=>h
theorem Calm.idle {q:Sp} {n:Nat} (h:Calm q []) (hw:¬ q.blkN n):q.wt n=0:=by
 refine Classical.byContradiction fun h0=>?_
 obtain ⟨k,e,_,hb⟩:=h.blk n (by simp;omega)
 have:k=n:=by omega
 exact hw (this ▸ hb)
theorem zjv {q:Sp} {n:Nat} (hw:(q.thr n).why=0):¬ q.blkN n:=fun h=>h.2.1 hw
theorem not_blk9 {q:Sp} {n:Nat} (hw:(q.thr n).why=9):¬ q.blkN n:=fun h=>h.2.2 hw
section
variable {q : Sp} {n : Nat} {t : Thr}
theorem zp (q:Sp) (n:Nat) (t:Thr) (k:Nat):(q.setT n t).thr k=if k=n then t else q.thr k:=rfl
theorem jb_setT (hj:t.joined=(q.thr n).joined) (hr:t.joiner=(q.thr n).joiner) (x:Int) (k:Nat):(q.setT n t).jb x k=q.jb x k:=by
 unfold Sp.jb
 rw [zp]
 by_cases e:k=n
 ·subst e;rw [if_pos rfl,hj,hr];rfl
 ·rw [if_neg e];rfl
theorem zb3 (hj:t.joined=(q.thr n).joined) (hr:t.joiner=(q.thr n).joiner) (x:Int):(q.setT n t).wt x=q.wt x:=by
 unfold Sp.wt
 rw [show (q.setT n t).jb x=q.jb x from funext (jb_setT hj hr x)]
 rfl
theorem wt_tell (q:Sp) (n:Nat) (r:Rec) (x:Int):(q.tell n r).wt x=q.wt x:=rfl
theorem zpn (q:Sp) (n:Nat) (r:Rec) (m:Nat):(q.tell n r).rc m=q.rc m:=rfl
theorem ze9 (q:Sp) (n:Nat) (t:Thr) (m:Nat) (hm:m≠n):(q.setT n t).rc m=q.rc m:=by
 unfold Sp.rc
 rw [zp,if_neg hm]
 rfl
theorem zbr (q:Sp) (n:Nat) (t:Thr) (h:t.why=(q.thr n).why) (m:Nat):(q.setT n t).rc m=q.rc m:=by
 by_cases hm:m=n
 ·subst hm
  unfold Sp.rc
  rw [zp,if_pos rfl,h]
  rfl
 ·exact ze9 q n t m hm
theorem zdl (h:t.why=(q.thr n).why):Stay q (q.setT n t):=fun k hk=>by
 by_cases e:k=n
 ·subst e
  exact ⟨hk.1,by rw [zp,if_pos rfl,h];exact hk.2.1,by rw [zp,if_pos rfl,h];exact hk.2.2⟩
 ·exact ⟨hk.1,by rw [zp,if_neg e];exact hk.2.1,by rw [zp,if_neg e];exact hk.2.2⟩
theorem zp2 (h:¬ q.blkN n):Stay q (q.setT n t):=fun k hk=>by
 have e:k≠n:=fun e=>h (e ▸ hk)
 exact ⟨hk.1,by rw [zp,if_neg e];exact hk.2.1,by rw [zp,if_neg e];exact hk.2.2⟩
end
theorem zkd (t:Thr) (g:Nat):(t.wake g).joined=t.joined:=rfl
theorem zke (t:Thr) (g:Nat):(t.wake g).joiner=t.joiner:=rfl
theorem zm0 {q:Sp} {p:Int × Nat} {out:List Int} (h:Calm q (p.1::out)):Calm (q.wake1 p) out∧∀ m:Nat,(q.wake1 p).rc m=q.rc m+[p.1].count (m:Int):=by
 obtain ⟨k,e,hk,hb⟩:=h.blk p.1 (by rw [List.count_cons_self];omega)
 have hkk:p.1.toNat=k:=by omega
 have wt:∀ x,(q.wake1 p).wt x=q.wt x:=fun x=>by
  unfold Sp.wake1
  rw [wt_tell,zb3 (zkd _ _) (zke _ _)]
 have h1:=h.once p.1
 rw [List.count_cons_self] at h1
 refine ⟨⟨fun x=>?_,fun x hx=>?_⟩,fun m=>?_⟩
 ·rw [wt]
  have:=h.once x
  have h2:out.count x≤(p.1::out).count x:=List.Sublist.count_le _ (List.sublist_cons_self _ _)
  omega
 ·rw [wt] at hx
  have hne:x≠p.1:=fun e=>by subst e;omega
  have h2:out.count x≤(p.1::out).count x:=List.Sublist.count_le _ (List.sublist_cons_self _ _)
  obtain ⟨j,ej,hj,hbj⟩:=h.blk x (by omega)
  refine ⟨j,ej,hj,?_⟩
  have hjk:j≠p.1.toNat:=fun e'=>hne (by omega)
  unfold Sp.wake1
  exact ⟨hbj.1,by show ((q.setT _ _).thr j).why≠0;rw [zp,if_neg hjk];exact hbj.2.1,by show ((q.setT _ _).thr j).why≠9;rw [zp,if_neg hjk];exact hbj.2.2⟩
 ·unfold Sp.wake1
  rw [zpn]
  by_cases hm:m=k
  ·subst hm
   rw [e,List.count_singleton,if_pos (by simp)]
   unfold Sp.rc
   rw [show ((m:Int)).toNat=m by omega,zp,if_pos rfl]
   rw [if_pos ⟨hb.1,rfl⟩,if_neg (fun hc=>hb.2.1 hc.2)]
  ·rw [ze9 _ _ _ _ (by omega),List.count_singleton,if_neg (by simp;omega)]
   omega
theorem zdo:∀ (l:List (Int × Nat)) {q:Sp},Calm q (l.map Prod.fst)→Calm (q.wake l) []∧∀ m:Nat,(q.wake l).rc m=q.rc m+(l.map Prod.fst).count (m:Int)
 | [],q,h=>⟨h,fun m=>rfl⟩
 | p::l,q,h=>by
  obtain ⟨h1,h2⟩:=zm0 (p:=p) (out:=l.map Prod.fst) h
  obtain ⟨h3,h4⟩:=zdo l h1
  refine ⟨h3,fun m=>?_⟩
  show ((q.wake1 p).wake l).rc m=_
  rw [h4,h2,List.map_cons]
  simp only [List.count_cons,List.count_nil]
  omega
structure Did (q:Sp) (n:Nat) (r:Sp × Deed):Prop where
 us:us r.1.st n=true
 why0:(r.1.thr n).why=0
 dwhy:r.2.why≠9
 wt:∀ x,r.1.wt x+(r.2.woken.map Prod.fst).count x≤q.wt x+(if r.2.why≠0∧x=n then 1 else 0)
 stay:Stay q r.1
 rc:∀ m:Nat,r.1.rc m=q.rc m+r.2.begun.count (m:Int)
 begun:∀ x ∈ r.2.begun,0≤x∧x < 16
 wk:∀ x,(r.2.woken.map Prod.fst).count x≤q.wt x
structure Steps (q:Sp) (n:Int) (q':Sp) (e:Eff):Prop where
 fine:Calm q' []
 rc:∀ m:Nat,q'.rc m+(if (e.stopped || e.ended)=true∧(m:Int)=n then 1 else 0)=q.rc m+e.woken.count (m:Int)
 inr:∀ x ∈ e.woken,0≤x∧x < 16
 self:(e.stopped || e.ended)=true→e.woken.count n=0
theorem znr {q:Sp} {n:Nat} {i:Ins} {ch:Int} (hF:Calm q []) (hn:n < 16) (hu:us q.st n=true) (hw:(q.thr n).why=0) (D:Did q n (q.deed n i ch)):Steps q n (q.act n i ch).1 (q.act n i ch).2:=by
 unfold Sp.act
 obtain ⟨r,er⟩:∃ r,q.deed n i ch=r:=⟨_,rfl⟩
 rw [er] at D
 simp only [er]
 have hq0:=hF.idle (zjv hw)
 obtain ⟨t',et⟩:∃ t',(if r.2.why=0 then ((r.1.thr n).next).reg 7 r.2.result.toNat else { ((r.1.thr n).next) with why:=r.2.why,ins:=i })=t':=⟨_,rfl⟩
 rw [et]
 have tw:t'.why=r.2.why:=by
  rw [← et]
  split
  ·rename_i h0;rw [h0];exact D.why0
  ·rfl
 have tj:t'.joined=(r.1.thr n).joined:=by rw [← et];split <;> rfl
 have tr:t'.joiner=(r.1.thr n).joiner:=by rw [← et];split <;> rfl
 have F2:Calm (r.1.setT n t') (r.2.woken.map Prod.fst):=by
  refine ⟨fun x=>?_,fun x hx=>?_⟩
  ·rw [zb3 tj tr]
   have h1:=D.wt x
   have h2:=hF.once x
   simp only [List.count_nil] at h2
   by_cases e:x=n
   ·subst e
    split at h1 <;> omega
   ·rw [if_neg (fun h=>e h.2)] at h1
    omega
  ·rw [zb3 tj tr] at hx
   have h1:=D.wt x
   by_cases e:x=n
   ·subst e
    have h3:r.2.why≠0:=fun h=>by rw [if_neg (fun hc=>hc.1 h)] at h1;omega
    refine ⟨n,rfl,hn,D.us,?_,?_⟩
    ·rw [zp,if_pos rfl,tw];exact h3
    ·rw [zp,if_pos rfl,tw];exact D.dwhy
   ·rw [if_neg (fun h=>e h.2)] at h1
    obtain ⟨k,ek,hk,hb⟩:=hF.blk x (by simp;omega)
    have hb':=D.stay k hb
    have hkn:k≠n:=fun h=>e (by omega)
    exact ⟨k,ek,hk,hb'.1,by rw [zp,if_neg hkn];exact hb'.2.1,by rw [zp,if_neg hkn];exact hb'.2.2⟩
 have F3:Calm ((r.1.setT n t').tell n ⟨0,i.op,r.2.x,r.2.y,r.2.result,decide (r.2.why=0)⟩) (r.2.woken.map Prod.fst):=⟨F2.once,F2.blk⟩
 obtain ⟨h1,h2⟩:=zdo r.2.woken F3
 refine ⟨h1,fun m=>?_,fun x hx=>?_,fun _=>?_⟩
 ·rw [h2 m,zpn]
  dsimp only
  rw [List.count_append]
  by_cases hm:m=n
  ·subst hm
   have hr:=D.rc m
   have h4:q.rc m=1:=if_pos ⟨hu,hw⟩
   have h5:r.1.rc m=1:=if_pos ⟨D.us,D.why0⟩
   by_cases h0:r.2.why=0
   ·have h6:(r.1.setT m t').rc m=1:=if_pos ⟨D.us,by rw [zp,if_pos rfl,tw];exact h0⟩
    rw [if_neg (by simp [h0]),h6]
    omega
   ·have h6:(r.1.setT m t').rc m=0:=if_neg (fun hc=>h0 (by have:=hc.2;rw [zp,if_pos rfl,tw] at this;exact this))
    rw [if_pos ⟨by simp [h0],rfl⟩,h6]
    omega
  ·rw [if_neg (fun hc=>hm (by have:=hc.2;omega)),ze9 _ _ _ _ hm,D.rc m]
   omega
 ·rcases List.mem_append.1 hx with hx | hx
  ·exact D.begun x hx
  ·obtain ⟨k,e,hk,_⟩:=F2.blk x (by have:=List.count_pos_iff.2 hx;omega)
   omega
 ·dsimp only
  rw [List.count_append]
  have a1:=D.rc n
  have a2:q.rc n=1:=if_pos ⟨hu,hw⟩
  have a3:r.1.rc n=1:=if_pos ⟨D.us,D.why0⟩
  have a4:=D.wk n
  omega
open Go Go.RowKit
open Go.Proofs.YtglhhlfopccmaaaGreat.Dk (waitsT waitsK)
def at1 (a x:Int):Nat:=if x=a then 1 else 0
theorem za2 (a x:Int):[a].count x=at1 a x:=by
 unfold at1
 rw [List.count_singleton]
 by_cases e:x=a
 ·subst e;simp
 ·rw [if_neg e,if_neg (by simp;exact fun h=>e h.symm)]
theorem za5 (l:List Int) (a x:Int):(l++[a]).count x=l.count x+at1 a x:=by rw [List.count_append,za2]
theorem zdr (l:List Int) (k:Nat) (hk:k < l.length) (x:Int):(l.eraseIdx k).count x+at1 (l.getD k 0) x=l.count x:=by
 have hp:=zcz l k (l.getD k 0) (by rw [List.getElem?_eq_getElem hk];simp [List.getD,hk])
 rw [hp.count_eq x,List.count_cons]
 unfold at1
 by_cases e:x=l.getD k 0
 ·rw [if_pos e,if_pos (by rw [e];exact beq_self_eq_true _)]
 ·rw [if_neg e,if_neg (by simp only [beq_iff_eq];exact fun h=>e h.symm)]
def ifw (b:Bool) (a:Int):List Int:=if b=true then [a] else []
theorem ze0 (b:Bool) (a x:Int):(ifw b a).count x=if b=true then at1 a x else 0:=by
 unfold ifw
 cases b
 ·rfl
 ·exact za2 a x
theorem zgx (S:St) (n:Nat) (ch:Int) (x:Int):(S.open n ch).1.cnt x+(ifw (S.open n ch).2.2 (S.open n ch).2.1).count x≤S.cnt x:=by
 by_cases h0:(S.wait.getD n []).length=0
 ·rw [zbx S n ch h0,ze0]
  exact Nat.le_refl _
 ·rw [zby S n ch _ rfl (by omega) _ rfl _ rfl,ze0]
  have h1:=zbu id x S.wait n ((S.wait.getD n []).eraseIdx (at_ ch (S.wait.getD n []).length))
  have h2:=zdr (S.wait.getD n []) (at_ ch (S.wait.getD n []).length) (zgw ch (by omega)) x
  simp only [List.map_id] at h1
  unfold St.cnt
  dsimp only
  rw [if_pos rfl]
  omega
theorem cnt_lock (S:St) (who:Int) (n:Nat) (x:Int):(S.lock who n).1.cnt x≤S.cnt x+(if (S.lock who n).2.1=false∧(S.lock who n).2.2=0 then at1 who x else 0):=by
 unfold St.lock
 split
 ·dsimp only;omega
 split
 ·have h1:=zbu id x S.wait n (S.wait.getD n []++[who])
  simp only [List.map_id] at h1
  rw [za5] at h1
  unfold St.cnt
  dsimp only
  rw [if_pos ⟨rfl,rfl⟩]
  omega
 ·show S.cnt x≤_
  omega
theorem zly (S:St) (who:Int) (n:Nat) (ch x:Int):(S.unlock who n ch).1.cnt x+(ifw (S.unlock who n ch).2.2.1 (S.unlock who n ch).2.1).count x≤S.cnt x:=by
 unfold St.unlock
 split
 ·exact Nat.le_refl _
 ·exact zgx S n ch x
theorem cnt_hold (S:St) (who:Int) (c n:Nat) (ch x:Int):(S.hold who c n ch).1.cnt x+(ifw (S.hold who c n ch).2.2.1 (S.hold who c n ch).2.1).count x≤S.cnt x+(if (S.hold who c n ch).2.2.2=0 then at1 who x else 0):=by
 unfold St.hold
 split
 ·dsimp only [ifw];simp
 split
 ·dsimp only [ifw];simp
 ·have h0:=zgx S n ch x
  have h1:=zbu Prod.fst x S.conds c (S.conds.getD c []++[(who,(n:Int))])
  rw [List.map_append,List.map_singleton,za5] at h1
  dsimp only at h1 ⊢
  rw [if_pos rfl]
  have e:(S.open n ch).1.conds=S.conds:=zdw S n ch
  unfold St.cnt at h0 ⊢
  dsimp only
  rw [e] at h0
  omega
theorem zn6 (S:St) (who:Int) (c n:Nat) (ch x:Int):(ifw (S.hold who c n ch).2.2.1 (S.hold who c n ch).2.1).count x≤S.cnt x:=by
 unfold St.hold
 split
 ·exact Nat.zero_le _
 split
 ·exact Nat.zero_le _
 ·have h0:=zgx S n ch x
  dsimp only
  omega
theorem cnt_down (S:St) (who:Int) (n:Nat) (x:Int):(S.down who n).1.cnt x≤S.cnt x+(if (S.down who n).2.1=false∧(S.down who n).2.2=0 then at1 who x else 0):=by
 unfold St.down
 split
 ·dsimp only;omega
 split
 ·show S.cnt x≤_
  omega
 ·have h1:=zbu id x S.downs n (S.downs.getD n []++[who])
  simp only [List.map_id] at h1
  rw [za5] at h1
  unfold St.cnt
  dsimp only
  rw [if_pos ⟨rfl,rfl⟩]
  omega
theorem cnt_up (S:St) (n:Nat) (ch x:Int):(S.up n ch).1.cnt x+(ifw (S.up n ch).2.2.1 (S.up n ch).2.1).count x≤S.cnt x:=by
 unfold St.up
 split
 ·rename_i h0
  have h1:=zbu id x S.downs n ((S.downs.getD n []).eraseIdx (at_ ch (S.downs.getD n []).length))
  have h2:=zdr (S.downs.getD n []) (at_ ch (S.downs.getD n []).length) (zgw ch (by omega)) x
  simp only [List.map_id] at h1
  rw [ze0,if_pos rfl]
  unfold St.cnt
  dsimp only
  omega
 split
 ·exact Nat.le_refl _
 ·exact Nat.le_refl _
theorem zn5 (S:St) (p:Int × Int) (x:Int):(S.goes1 p).1.cnt x+(S.goes1 p).2.count x≤S.cnt x+at1 p.1 x:=by
 unfold St.goes1
 dsimp only
 split
 ·have h1:=zbu id x S.wait p.2.toNat (S.wait.getD p.2.toNat []++[p.1])
  simp only [List.map_id] at h1
  rw [za5] at h1
  unfold St.cnt
  dsimp only
  simp only [List.count_nil]
  omega
 ·dsimp only
  rw [za2]
  show S.cnt x+_≤_
  omega
theorem zkq:∀ (l:List (Int × Int)) (S:St) (x:Int),(S.goes l).1.cnt x+(S.goes l).2.count x≤S.cnt x+(l.map Prod.fst).count x
 | [],S,x=>Nat.le_refl _
 | p::r,S,x=>by
  have h1:=zn5 S p x
  have h2:=zkq r (S.goes1 p).1 x
  have h3:((p::r).map Prod.fst).count x=at1 p.1 x+(r.map Prod.fst).count x:=by
   rw [List.map_cons,List.count_cons,← za2,List.count_singleton]
   omega
  rw [h3,St.goes]
  dsimp only
  rw [List.count_append]
  omega
theorem zmz (S:St) (c:Nat) (ch:Int) (all:Bool) (x:Int):St.cnt { S with conds:=S.conds.set c (S.kept c ch all) } x+((S.told c ch all).map Prod.fst).count x≤S.cnt x:=by
 by_cases hc:c < S.conds.length
 ·exact Nat.le_of_eq (zfm S c hc ch all x)
 ·have e:S.conds.getD c []=[]:=by rw [List.getD,List.getElem?_eq_none (by omega)];rfl
  rw [List.set_eq_of_length_le (by omega)]
  have:S.told c ch all=[]:=by
   unfold St.told
   dsimp only
   rw [e]
   cases all <;> rfl
  rw [this]
  exact Nat.le_refl _
theorem zf0 (S:St) (c:Nat) (ch:Int) (all:Bool) (x:Int):(S.signal c ch all).1.cnt x+(S.signal c ch all).2.count x≤S.cnt x:=by
 have h1:=zkq (S.told c ch all) { S with conds:=S.conds.set c (S.kept c ch all) } x
 have h2:=zmz S c ch all x
 unfold St.signal
 omega
section
variable {q q' : Sp} {d : Deed} {n : Nat}
theorem zg9 (hs:q'.st=q.st) (ht:q'.thr=q.thr) (x:Int):q'.jb x=q.jb x:=by
 funext k
 unfold Sp.jb
 rw [hs,ht]
theorem zar (hs:q'.st=q.st) (ht:q'.thr=q.thr) (hu:us q.st n=true) (hw:(q.thr n).why=0) (hd:d.why≠9) (hb:d.begun=[])
  (hl:∀ x,q'.lists x+(d.woken.map Prod.fst).count x≤q.lists x+(if d.why≠0∧x=n then 1 else 0)) (hk:d.why=0∨∀ x,(d.woken.map Prod.fst).count x≤q.lists x:=by first | exact .inl rfl | exact .inr (fun x=>Nat.zero_le _)):Did q n (q',d):=by
 refine ⟨by dsimp only;rw [hs];exact hu,by dsimp only;rw [ht];exact hw,hd,fun x=>?_,fun k hk=>?_,fun m=>?_,fun x hx=>by rw [hb] at hx;simp at hx,fun x=>?_⟩
 ·have:=hl x
  unfold Sp.wt
  dsimp only
  rw [zg9 hs ht]
  omega
 ·dsimp only
  unfold Sp.blkN
  rw [hs,ht]
  exact hk
 ·dsimp only
  rw [hb]
  unfold Sp.rc
  rw [hs,ht]
  rfl
 ·have:(d.woken.map Prod.fst).count x≤q.lists x:=by
   rcases hk with h0 | h0
   ·have:=hl x
    rw [if_neg (fun hc=>hc.1 h0)] at this
    omega
   ·exact h0 x
  unfold Sp.wt
  dsimp only
  omega
theorem Did.reg (h:Did q n (q',d)) {t:Thr} (hy:t.why=(q'.thr n).why) (hj:t.joined=(q'.thr n).joined) (hr:t.joiner=(q'.thr n).joiner):Did q n (q'.setT n t,d):=by
 refine ⟨h.us,by dsimp only;rw [zp,if_pos rfl,hy];exact h.why0,h.dwhy,fun x=>?_,h.stay.trans (zdl hy),fun m=>?_,h.begun,h.wk⟩
 ·dsimp only
  rw [zb3 hj hr]
  exact h.wt x
 ·dsimp only
  rw [zbr _ _ _ hy]
  exact h.rc m
theorem za1 (hu:us q.st n=true) (hw:(q.thr n).why=0) (d:Deed) (h0:d.why=0) (hb:d.begun=[]) (hk:d.woken=[]):Did q n (q,d):=
 zar rfl rfl hu hw (by rw [h0];decide) hb (fun x=>by rw [hk];simp) (.inl h0)
theorem zey {S:St} {u:List Int} {b:Nat} (x:Int) (h:S.cnt x+u.count x≤q.gates.cnt x+b):({ q with gates:=S }:Sp).lists x+u.count x≤q.lists x+b:=by
 unfold Sp.lists
 dsimp only
 omega
theorem zox (c:Prop) [Decidable c] (x:Int) (n:Nat) (w:Int) (hw:c→w≠0):(if c then at1 n x else 0)≤if w≠0∧x=n then 1 else 0:=by
 unfold at1
 by_cases h:c
 ·rw [if_pos h]
  by_cases e:x=n
  ·rw [if_pos e,if_pos ⟨hw h,e⟩];exact Nat.le_refl _
  ·rw [if_neg e];exact Nat.zero_le _
 ·rw [if_neg h];exact Nat.zero_le _
theorem zg4 (b:Bool) (a:Int):(if b=true then [(a,(0:Nat))] else []).map Prod.fst=ifw b a:=by cases b <;> rfl
end
theorem us_taken' {st:StS} (h:least st < st.length) (j:Nat):us (Dk.taken st) j=if j=least st then true else us st j:=zqh _ _ _ _ _ h
theorem find_hd' {st:StS} {k:Nat} (h:us st k=true) (hk:k < 1000):Dk.find st (hd st k)=some k:=by
 have e:hd st k % 65536=k+1:=by unfold hd;omega
 unfold Dk.find
 rw [e,if_neg (by omega),Nat.add_sub_cancel,h]
 simp
theorem us_freed {st:StS} {k:Nat} (h:us st k=true) (hk:k < 1000) (j:Nat):us (Dk.freed st (hd st k)) j=if j=k then false else us st j:=by
 unfold Dk.freed
 rw [find_hd' h hk]
 exact zqh _ _ _ _ _ (zd8 h)
section
variable {q q' : Sp} {d : Deed} {n k : Nat} {i : Ins} {ch : Int}
theorem zdt (hu:us q.st k=true) (hk:k < 1000) (j:Nat):us (q.free k).st j=if j=k then false else us q.st j:=by
 unfold Sp.free Sp.hnd
 rw [if_pos hu]
 exact us_freed hu hk j
theorem zos (hu:us q.st k=true) (hk:k < 1000) (x:Int) (j:Nat):(q.free k).jb x j≤q.jb x j:=by
 unfold Sp.jb
 rw [zdt hu hk]
 by_cases e:j=k
 ·rw [if_pos e];simp
 ·rw [if_neg e];exact Nat.le_refl _
theorem zjl (hu:us q.st k=true) (hk:k < 1000) (x:Int):(q.free k).wt x≤q.wt x:=by
 have:=zhn (f:=(q.free k).jb x) (g:=q.jb x) 16 (fun j _=>zos hu hk x j)
 unfold Sp.wt
 show q.lists x+_≤_
 omega
theorem zex (hu:us q.st k=true) (hk:k < 1000) (hb:¬ q.blkN k):Stay q (q.free k):=fun j hj=>by
 have e:j≠k:=fun e=>hb (e ▸ hj)
 exact ⟨by rw [zdt hu hk,if_neg e];exact hj.1,hj.2.1,hj.2.2⟩
theorem zjk (hu:us q.st k=true) (hk:k < 1000) (m:Nat):(q.free k).rc m=if m=k then 0 else q.rc m:=by
 unfold Sp.rc
 rw [zdt hu hk]
 by_cases e:m=k
 ·rw [if_pos e,if_pos e];simp
 ·rw [if_neg e,if_neg e];rfl
theorem Did.free (h:Did q n (q',d)) (hu:Dk.us q'.st k=true) (hk:k < 1000) (h9:(q'.thr k).why=9):Did q n (q'.free k,d):=by
 have hkn:n≠k:=fun e=>by have:=h.why0;dsimp only at this;rw [e,h9] at this;cases this
 refine ⟨by dsimp only;rw [zdt hu hk,if_neg hkn];exact h.us,h.why0,h.dwhy,fun x=>?_,h.stay.trans (zex hu hk (not_blk9 h9)),fun m=>?_,h.begun,h.wk⟩
 ·have:=zjl hu hk x
  have:=h.wt x
  dsimp only at this ⊢
  omega
 ·dsimp only
  rw [zjk hu hk]
  by_cases e:m=k
  ·have h1:q'.rc k=0:=if_neg (fun hc=>by rw [h9] at hc;exact absurd hc.2 (by decide))
   have h2:=h.rc m
   dsimp only at h2
   rw [if_pos e,← h2,e,h1]
  ·rw [if_neg e]
   exact h.rc m
theorem find_any' {h:Nat} (hf:(q.find n h).2=0):∃ k:Nat,(q.find n h).1=k∧us q.st k=true∧k≠n∧(q.thr k).joined=false∧k < q.st.length:=by
 unfold Sp.find at hf ⊢
 split at hf
 ·exact absurd hf (by decide)
 ·rename_i k hk
  split at hf
  ·exact absurd hf (by decide)
  split at hf
  ·exact absurd hf (by decide)
  ·rename_i h1 h2
   rw [if_neg h1,if_neg h2]
   have h3:=zbo hk
   refine ⟨k,rfl,h3.1,fun e=>h1 (.inl e),?_,h3.2.2.1⟩
   cases hj:(q.thr k).joined
   ·rfl
   ·exact absurd hj h2
theorem zob (h16:q.st.length=16) (hu:us q.st n=true) (hw:(q.thr n).why=0):Did q n (q.spawn n i):=by
 unfold Sp.spawn Sp.begin
 by_cases hl:least q.st < q.st.length
 ·rw [if_pos hl]
  have hf:=zcq hl
  have hne:n≠least q.st:=fun e=>by rw [e,hf] at hu;cases hu
  dsimp only
  rw [if_pos rfl]
  obtain ⟨k,ek⟩:∃ k,least q.st=k:=⟨_,rfl⟩
  have hus:∀ j,us (Dk.taken q.st) j=if j=k then true else us q.st j:=fun j=>by rw [us_taken' hl,ek]
  rw [ek] at hl hf hne ⊢
  obtain ⟨q1,e1⟩:∃ q1:Sp,({ q with st:=Dk.taken q.st }:Sp).setT k (Thr.new (wrap64 i.n) ((q.thr n).f.r i.b.toNat))=q1:=⟨_,rfl⟩
  have t1:∀ j,q1.thr j=if j=k then Thr.new (wrap64 i.n) ((q.thr n).f.r i.b.toNat) else q.thr j:=fun j=>by rw [← e1];rfl
  have s1:∀ j,us q1.st j=if j=k then true else us q.st j:=fun j=>by rw [← e1];exact hus j
  have D:∀ d:Deed,d.why=0→d.begun=[(k:Int)]→d.woken=[]→Did q n (q1,d):=fun d h0 hb hk=>by
   refine ⟨by dsimp only;rw [s1,if_neg hne];exact hu,by dsimp only;rw [t1,if_neg hne];exact hw,by rw [h0];decide,fun x=>?_,fun j hj=>?_,fun m=>?_,fun x hx=>?_,fun x=>by dsimp only;rw [hk];exact Nat.zero_le _⟩
   ·have hj:sumN (q1.jb x) 16≤sumN (q.jb x) 16:=zhn 16 fun j _=>by
     unfold Sp.jb
     rw [s1,t1]
     by_cases e:j=k
     ·rw [if_pos e,if_pos e]
      simp [Thr.new]
     ·rw [if_neg e,if_neg e]
      exact Nat.le_refl _
    have hl:q1.lists x=q.lists x:=by rw [← e1];rfl
    rw [hk]
    unfold Sp.wt
    dsimp only
    simp only [List.map_nil,List.count_nil]
    omega
   ·have e:j≠k:=fun e=>by have:=hj.1;rw [e,hf] at this;cases this
    exact ⟨by dsimp only;rw [s1,if_neg e];exact hj.1,by dsimp only;rw [t1,if_neg e];exact hj.2.1,by dsimp only;rw [t1,if_neg e];exact hj.2.2⟩
   ·dsimp only
    rw [hb,za2]
    unfold Sp.rc at1
    rw [s1,t1]
    by_cases e:m=k
    ·subst e
     rw [if_pos rfl,if_pos rfl,if_pos ⟨rfl,rfl⟩,if_neg (by rw [hf];simp),if_pos rfl]
    ·rw [if_neg e,if_neg e,if_neg (by omega:¬ (m:Int)=k)]
     rfl
   ·rw [hb,List.mem_singleton] at hx
    omega
  rw [e1]
  exact (D _ rfl (by simp) rfl).reg rfl rfl rfl
 ·rw [if_neg hl]
  dsimp only
  rw [if_neg (by decide)]
  exact (za1 hu hw _ rfl rfl rfl).reg rfl rfl rfl
theorem did_join (h16:q.st.length=16) (hu:us q.st n=true) (hw:(q.thr n).why=0):Did q n (q.join n i):=by
 unfold Sp.join
 dsimp only
 split
 ·rename_i hf
  obtain ⟨k,ek,hk,hkn,hj,hkl⟩:=find_any' hf
  rw [ek,show ((k:Nat):Int).toNat=k by omega]
  split
  ·rename_i h9
   refine Did.free ((za1 hu hw _ rfl rfl rfl).reg rfl rfl rfl) hk (by omega) ?_
   rw [zp,if_neg hkn]
   exact h9
  ·rename_i h9
   obtain ⟨t,et⟩:∃ t:Thr,{ q.thr k with joined:=true,joiner:=(n:Int) }=t:=⟨_,rfl⟩
   have ty:t.why=(q.thr k).why:=by rw [← et]
   have tj:t.joined=true:=by rw [← et]
   have tr:t.joiner=(n:Int):=by rw [← et]
   rw [et]
   clear et
   refine ⟨hu,by dsimp only;rw [zp,if_neg (Ne.symm hkn)];exact hw,by dsimp only;omega,fun x=>?_,zdl ty,fun m=>by dsimp only;rw [zbr _ _ _ ty];rfl,fun x hx=>by simp at hx,fun x=>Nat.zero_le _⟩
   have hs:sumN ((q.setT k t).jb x) 16+0≤sumN (q.jb x) 16+at1 n x:=by
    refine zho (k0:=k) 16 (by omega) (fun j _ hjk=>?_) ?_
    ·unfold Sp.jb
     rw [zp,if_neg hjk]
     exact Nat.le_refl _
    ·unfold Sp.jb at1
     rw [zp,if_pos rfl,tj,tr]
     by_cases e:x=n
     ·rw [if_pos e]
      split <;> omega
     ·rw [if_neg (fun hc=>e hc.2.2.symm)]
      omega
   have:=zox True x n 4 (fun _=>by decide)
   rw [if_pos trivial] at this
   unfold Sp.wt
   dsimp only
   simp only [List.map_nil,List.count_nil]
   show q.lists x+_+0≤_
   omega
 ·exact za1 hu hw _ rfl rfl rfl
theorem zl0 (h16:q.st.length=16) (hu:us q.st n=true) (hw:(q.thr n).why=0) (h:Nat):Did q n (q.detach n h):=by
 unfold Sp.detach
 dsimp only
 split
 ·rename_i hf
  obtain ⟨k,ek,hk,hkn,hj,hkl⟩:=find_any' hf
  rw [ek,show ((k:Nat):Int).toNat=k by omega]
  split
  ·rename_i h9
   exact Did.free (za1 hu hw _ rfl rfl rfl) hk (by omega) h9
  ·refine ⟨hu,by dsimp only;rw [zp,if_neg (Ne.symm hkn)];exact hw,by dsimp only;omega,fun x=>?_,zdl rfl,fun m=>by dsimp only;rw [zbr _ _ _ (by rfl)];rfl,fun x hx=>by simp at hx,fun x=>Nat.zero_le _⟩
   dsimp only
   rw [zb3 (t:={ q.thr k with det:=true }) rfl rfl]
   simp
 ·exact za1 hu hw _ rfl rfl rfl
end
end Dk
