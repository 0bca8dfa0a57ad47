import Derived.Test.YtglhhlfopccmaaaGreatAg42
set_option linter.unusedSimpArgs false
set_option linter.unusedVariables false
set_option linter.unnecessarySimpa false
set_option maxHeartbeats 8000000
set_option maxRecDepth 100000
namespace Dk
open Go Go.RowKit
def awA:List Ins:=[⟨20,1,0,0,1⟩,⟨21,2,1,0,0⟩,⟨38,2,0,0,0⟩]
def awB:List Ins:=[⟨1,3,0,0,9⟩,⟨23,3,0,0,0⟩]
def awP:Prg:=Go.Proofs.YtglhhlfopccmaaaGreat.twoP awA awB
def aw0:Sp:=Sp.fresh awP
def aw1:Sp:=(aw0.run 0 0).1
def aw2:Sp:=(aw1.run 0 0).1
def aw3:Sp:=(aw2.run 1 0).1
def aw4:Sp:=(aw3.run 1 0).1
theorem aw_check:check awP=0:=by decide +kernel
theorem aw_r1:(aw0.run 0 0).2.1.woken=[1]:=by decide +kernel
theorem aw_r2:(aw1.run 0 0).2.1.stopped=true:=by decide +kernel
theorem aw_r4:(aw3.run 1 0).2.1.ended=true∧(aw3.run 1 0).2.1.woken=[0]:=by decide +kernel
theorem aw_end:us aw4.st 0=true∧(aw4.thr 0).f.r 2=9∧(aw4.thr 0).why=0∧aw4.recs.length=4:=by decide +kernel
theorem aw_rec:(aw4.recs.flatMap Rec.cells)[21]? = some (.int .u64 9)∧(aw4.recs.flatMap Rec.cells)[23]? = some (.bool true):=⟨by kernel_rfl,by kernel_rfl⟩
theorem awA_ok:∀ i ∈ awA,i.ok:=by
 intro i hi
 simp [awA] at hi
 rcases hi with rfl | rfl | rfl <;> exact ⟨by unfold i64;decide,by unfold i64;decide,by unfold i64;decide,by unfold i64;decide,by decide⟩
theorem awB_ok:∀ i ∈ awB,i.ok:=by
 intro i hi
 simp [awB] at hi
 rcases hi with rfl | rfl <;> exact ⟨by unfold i64;decide,by unfold i64;decide,by unfold i64;decide,by unfold i64;decide,by decide⟩
end Dk
namespace Go.Proofs.YtglhhlfopccmaaaGreat
open Go.RowKit Go.Lib
theorem lit_one (w w':World) (x:Int) (hx:Dk.i64 x) (e:w'=w.alloc (.cells #[.int .i64 x] 3)):Dk.SlI w'.heap.size w' (some ⟨w.heap.size,0,none⟩) 1 1 [x]:=by
 have b6:Dk.Box w' w.heap.size #[.int .i64 x] 3:=by rw [e];exact Dk.Box.new _ _ _
 exact ⟨rfl,Nat.le_refl _,by unfold maxLen;omega,fun y hy=>by simp at hy;rw [hy];exact hx,fun _=>⟨_,0,rfl,b6.lt,fun k hk=>by
  obtain rfl:k=0:=by omega
  exact b6.cell 0⟩⟩
theorem i64_of (x:Int) (h:-1000000≤x∧x≤1000000):Dk.i64 x:=by unfold Dk.i64;omega
section
variable {W w w' : World} {L : Dk.Loc} {q q0 : Dk.Sp} {k N R : Nat} {us us' : List Dk.Thing}
theorem Lives.with (h:Lives W w L q0 q N k R us) (c:Cor W w L q k us→Cor W w' L q k us'):Lives W w' L q0 q N k R us':=⟨c h.cor,h.life,h.dims,h.recs⟩
theorem awake_any (w:World):Calls Tryz.prog 14 #[] w fun e w'=>e=.returned (.bool true)∧Below w.heap.size w w':=by
 obtain ⟨W1,e1⟩:∃ W1,W1=w.alloc (.cells #[.int .i64 20,.int .i64 1,.int .i64 0,.int .i64 0,.int .u64 1,.int .i64 21,.int .i64 2,.int .i64 1,.int .i64 0,.int .u64 0,.int .i64 38,.int .i64 2,.int .i64 0,.int .i64 0,.int .u64 0] 112):=⟨_,rfl⟩
 obtain ⟨W2,e2⟩:∃ W2,W2=W1.alloc (.cells #[.int .i64 1,.int .i64 3,.int .i64 0,.int .i64 0,.int .u64 9,.int .i64 23,.int .i64 3,.int .i64 0,.int .i64 0,.int .u64 0] 112):=⟨_,rfl⟩
 have s2:=((Dk.Sep.begin (Below.refl w.heap.size w)).newBox e1).newBox e2
 have z1:W1.heap.size=w.heap.size+1:=by rw [e1];simp
 have z2:W2.heap.size=w.heap.size+1+1:=by rw [e2];simp [z1]
 rw [z1] at s2
 have bA:Dk.Box W2 w.heap.size (Dk.awA.flatMap Dk.Ins.cells).toArray 112:=s2.box (b:=w.heap.size) (by simp [Dk.awA,Dk.Ins.cells])
 have bB:Dk.Box W2 (w.heap.size+1) (Dk.awB.flatMap Dk.Ins.cells).toArray 112:=s2.box (b:=w.heap.size+1) (by simp [Dk.awB,Dk.Ins.cells])
 have K2:=two_any (B:=W2.heap.size) W2 (Nat.le_refl _) (Dk.SlN.of_box bA (by omega) (by decide) Dk.awA_ok) (Dk.SlN.of_box bB (by omega) (by decide) Dk.awB_ok)
 have K2':Calls Tryz.prog 52 #[.slice (some ⟨w.heap.size,0,none⟩) 3 3,.slice (some ⟨w.heap.size+1,0,none⟩) 2 2] W2 fun e w'=>∃ s:Dk.Sh,e=.returned (Dk.pv s Dk.awP)∧Dk.PrgAt w'.heap.size w' s Dk.awP∧Below W2.heap.size W2 w':=K2
 have HU:Hid (Below w.heap.size w W2):=s2.out
 have H1:Hid _:=e1.symm
 have H2:Hid _:=e2.symm
 clear e1 e2 s2 z2 bA bB K2
 go_enter Tryz.func14,Tryz.ntmps14
 go_wp2_with (first | (rw [H1.out];clear H1) | (rw [H2.out];clear H2))
 refine K2'.mono ?_
 rintro e w3 ⟨s,rfl,hp,u3⟩
 have s3:Dk.Sep w w3 []:=Dk.Sep.begin (Dk.up_call HU.out u3)
 have K3:=NewC_yes s3 s Dk.awP hp (Nat.le_refl _) Dk.aw_check
 have HBN:Hid (Dk.Born Dk.aw0):=born_of hp Dk.aw_check
 clear K2' u3 s3 hp z1
 go_wp2_with fail
 refine K3.mono ?_
 rintro e w4 ⟨L,rfl,h4⟩
 have K:=run_lives h4 HBN.out (by omega) (by omega) (by omega) 0 (ch:=0) (i64_of _ (by omega))
 have K':Calls Tryz.prog 28 #[.pointer (some ⟨L.b,0,none⟩),.int .i64 0,.int .i64 0] w4 fun e w'=>∃ A C,e=.returned (.tuple #[eff A (Dk.aw0.run 0 0).2.1.woken.length C (Dk.aw0.run 0 0).2.1.stopped (Dk.aw0.run 0 0).2.1.ended (Dk.aw0.run 0 0).2.1.yielded,.int .i64 (Dk.aw0.run 0 0).2.2])∧Lives w w' L Dk.aw0 Dk.aw1 1 2 17 (Dk.rowOf 3 1 (.slice A (Dk.aw0.run 0 0).2.1.woken.length C) (Dk.aw0.run 0 0).2.1.woken.length (Dk.is (Dk.aw0.run 0 0).2.1.woken)::[]):=K
 clear K h4
 rw [Dk.aw_r1] at K'
 generalize (Dk.aw0.run 0 0).2.1.stopped=s1 at K'
 generalize (Dk.aw0.run 0 0).2.1.ended=n1 at K'
 generalize (Dk.aw0.run 0 0).2.1.yielded=y1 at K'
 generalize (Dk.aw0.run 0 0).2.2=r1 at K'
 go_wp2_with fail
 refine K'.mono ?_
 rintro e w5 ⟨A1,C1,rfl,h5⟩
 clear K' K3
 obtain ⟨x5,e5⟩:∃ x5,x5=w5.alloc (.cells #[.slice A1 1 C1,.bool s1,.bool n1,.bool y1] 68):=⟨_,rfl⟩
 have g5:=h5.with (fun c=>c.newBox e5)
 have H5:Hid (w5.alloc _=x5):=e5.symm
 generalize hb5:w5.heap.size=b5 at *
 clear h5 e5
 have K:=run_lives g5 HBN.out (by omega) (by omega) (by omega) 0 (ch:=0) (i64_of _ (by omega))
 have K':Calls Tryz.prog 28 #[.pointer (some ⟨L.b,0,none⟩),.int .i64 0,.int .i64 0] x5 fun e w'=>∃ A C,e=.returned (.tuple #[eff A (Dk.aw1.run 0 0).2.1.woken.length C (Dk.aw1.run 0 0).2.1.stopped (Dk.aw1.run 0 0).2.1.ended (Dk.aw1.run 0 0).2.1.yielded,.int .i64 (Dk.aw1.run 0 0).2.2])∧Lives w w' L Dk.aw0 Dk.aw2 2 3 34 (Dk.rowOf 3 1 (.slice A (Dk.aw1.run 0 0).2.1.woken.length C) (Dk.aw1.run 0 0).2.1.woken.length (Dk.is (Dk.aw1.run 0 0).2.1.woken)::Dk.boxOf b5 #[.slice A1 1 C1,.bool s1,.bool n1,.bool y1] 68::Dk.rowOf 3 1 (.slice A1 1 C1) 1 (Dk.is [1])::[]):=K
 clear K g5
 rw [Dk.aw_r2] at K'
 generalize (Dk.aw1.run 0 0).2.1.woken=l2 at K'
 generalize (Dk.aw1.run 0 0).2.1.ended=n2 at K'
 generalize (Dk.aw1.run 0 0).2.1.yielded=y2 at K'
 generalize (Dk.aw1.run 0 0).2.2=r2 at K'
 go_wp2_with (rw [H5.out];clear H5)
 refine K'.mono ?_
 rintro e w6 ⟨A2,C2,rfl,h6⟩
 clear K'
 obtain ⟨x6,e6⟩:∃ x6,x6=w6.alloc (.cells #[.slice A2 l2.length C2,.bool true,.bool n2,.bool y2] 68):=⟨_,rfl⟩
 have g6:=h6.with (fun c=>c.newBox e6)
 have H6:Hid (w6.alloc _=x6):=e6.symm
 generalize hb6:w6.heap.size=b6 at *
 clear h6 e6
 have K:=run_lives g6 HBN.out (by omega) (by omega) (by omega) 1 (ch:=0) (i64_of _ (by omega))
 have K':Calls Tryz.prog 28 #[.pointer (some ⟨L.b,0,none⟩),.int .i64 1,.int .i64 0] x6 fun e w'=>∃ A C,e=.returned (.tuple #[eff A (Dk.aw2.run 1 0).2.1.woken.length C (Dk.aw2.run 1 0).2.1.stopped (Dk.aw2.run 1 0).2.1.ended (Dk.aw2.run 1 0).2.1.yielded,.int .i64 (Dk.aw2.run 1 0).2.2])∧Lives w w' L Dk.aw0 Dk.aw3 3 4 51 (Dk.rowOf 3 1 (.slice A (Dk.aw2.run 1 0).2.1.woken.length C) (Dk.aw2.run 1 0).2.1.woken.length (Dk.is (Dk.aw2.run 1 0).2.1.woken)::Dk.boxOf b6 #[.slice A2 l2.length C2,.bool true,.bool n2,.bool y2] 68::Dk.rowOf 3 1 (.slice A2 l2.length C2) l2.length (Dk.is l2)::Dk.boxOf b5 #[.slice A1 1 C1,.bool s1,.bool n1,.bool y1] 68::Dk.rowOf 3 1 (.slice A1 1 C1) 1 (Dk.is [1])::[]):=K
 clear K g6
 generalize (Dk.aw2.run 1 0).2.1.woken=l3 at K'
 generalize (Dk.aw2.run 1 0).2.1.stopped=s3 at K'
 generalize (Dk.aw2.run 1 0).2.1.ended=n3 at K'
 generalize (Dk.aw2.run 1 0).2.1.yielded=y3 at K'
 generalize (Dk.aw2.run 1 0).2.2=r3 at K'
 go_wp2_with (rw [H6.out];clear H6)
 refine K'.mono ?_
 rintro e w7 ⟨A3,C3,rfl,h7⟩
 have g7:=h7.with (fun c=>c.drop)
 clear K' h7
 have K:=run_lives g7 HBN.out (by omega) (by omega) (by omega) 1 (ch:=0) (i64_of _ (by omega))
 have K':Calls Tryz.prog 28 #[.pointer (some ⟨L.b,0,none⟩),.int .i64 1,.int .i64 0] w7 fun e w'=>∃ A C,e=.returned (.tuple #[eff A (Dk.aw3.run 1 0).2.1.woken.length C (Dk.aw3.run 1 0).2.1.stopped (Dk.aw3.run 1 0).2.1.ended (Dk.aw3.run 1 0).2.1.yielded,.int .i64 (Dk.aw3.run 1 0).2.2])∧Lives w w' L Dk.aw0 Dk.aw4 4 5 68 (Dk.rowOf 3 1 (.slice A (Dk.aw3.run 1 0).2.1.woken.length C) (Dk.aw3.run 1 0).2.1.woken.length (Dk.is (Dk.aw3.run 1 0).2.1.woken)::Dk.boxOf b6 #[.slice A2 l2.length C2,.bool true,.bool n2,.bool y2] 68::Dk.rowOf 3 1 (.slice A2 l2.length C2) l2.length (Dk.is l2)::Dk.boxOf b5 #[.slice A1 1 C1,.bool s1,.bool n1,.bool y1] 68::Dk.rowOf 3 1 (.slice A1 1 C1) 1 (Dk.is [1])::[]):=K
 clear K g7
 rw [Dk.aw_r4.1,Dk.aw_r4.2] at K'
 generalize (Dk.aw3.run 1 0).2.1.stopped=s4 at K'
 generalize (Dk.aw3.run 1 0).2.1.yielded=y4 at K'
 generalize (Dk.aw3.run 1 0).2.2=r4 at K'
 go_wp2_with fail
 refine K'.mono ?_
 rintro e w8 ⟨A4,C4,rfl,h8⟩
 clear K'
 obtain ⟨x8,e8⟩:∃ x8,x8=w8.alloc (.cells #[.slice A4 1 C4,.bool s4,.bool true,.bool y4] 68):=⟨_,rfl⟩
 have g8:=h8.with (fun c=>c.newBox e8)
 have H8:Hid (w8.alloc _=x8):=e8.symm
 generalize hb8:w8.heap.size=b8 at *
 clear h8 e8
 obtain ⟨a1,a2,a3,a4⟩:=Dk.aw_end
 have KL:=Look_yes (n:=0) g8.cor (by omega) (by omega) a1
 unfold tcells at KL
 generalize Dk.aw4.thr 0=t at KL a2 a3
 generalize Dk.aw4.hnd 0=hnd at KL
 rw [a2,a3] at KL
 clear a1 a2 a3
 go_wp2_with (rw [H8.out];clear H8)
 refine KL.mono ?_
 rintro e w9 ⟨rfl,h9⟩
 clear KL g8
 obtain ⟨x9,e9⟩:∃ x9,x9=w9.alloc (.cells #[.int .u64 (hnd:Nat),.int .i64 0,.int .i64 t.f.fn,.int .i64 t.f.pc,.int .u64 (t.f.r 0:Nat),.int .u64 (t.f.r 1:Nat),.int .u64 9,.int .u64 (t.f.r 3:Nat),.int .u64 (t.f.r 4:Nat),.int .u64 (t.f.r 5:Nat),.int .u64 (t.f.r 6:Nat),.int .u64 (t.f.r 7:Nat),.int .u64 (t.value:Nat)] 41):=⟨_,rfl⟩
 have g9:=h9.newBox e9
 have H9:Hid (w9.alloc _=x9):=e9.symm
 generalize hb9:w9.heap.size=b9 at *
 clear h9 e9
 have KR:=Records_any g9 (by rw [a4];omega)
 rw [a4] at KR
 obtain ⟨c1,c2⟩:=Dk.aw_rec
 generalize Dk.aw4.recs.flatMap Dk.Rec.cells=xs at KR c1 c2
 clear g9 a4
 go_wp2_with (rw [H9.out];clear H9)
 refine KR.mono ?_
 rintro e w10 ⟨A10,C10,rfl,h10⟩
 clear KR
 have u10:=h10.out
 have r10:=h10.row (e:=74) (s:=6) (v:=.slice A10 4 C10) (m:=4) (xs:=xs) (by simp)
 obtain ⟨g,rfl,hx⟩:∃ g,A10=some ⟨g,0,none⟩∧∀ j u,xs[j]? = some u→w10.cell? ⟨g,j,none⟩=some u:=by
  obtain ⟨_,⟨e0,h0⟩ | ⟨g,cap,cur,e0,hg⟩⟩:=id r10
  ·cases h0
  ·injection e0 with e1 e2 e3
   subst e1
   refine ⟨g,rfl,fun j u hj=>?_⟩
   have:=r10.cells (g:=g) rfl j u hj
   rw [Addr.add_lit,Nat.zero_add] at this
   exact this
 have c21:=hx 21 _ c1
 have c23:=hx 23 _ c2
 have facts:∀ w',Below w10.heap.size w10 w'→(∀ o,w'.cell? ⟨b5,o,none⟩=(#[.slice A1 1 C1,.bool s1,.bool n1,.bool y1]:Array Value)[o]?)∧(∀ o,w'.cell? ⟨b6,o,none⟩=(#[.slice A2 l2.length C2,.bool true,.bool n2,.bool y2]:Array Value)[o]?)∧(∀ o,w'.cell? ⟨b8,o,none⟩=(#[.slice A4 1 C4,.bool s4,.bool true,.bool y4]:Array Value)[o]?)∧(∀ o,w'.cell? ⟨b9,o,none⟩=(#[.int .u64 (hnd:Nat),.int .i64 0,.int .i64 t.f.fn,.int .i64 t.f.pc,.int .u64 (t.f.r 0:Nat),.int .u64 (t.f.r 1:Nat),.int .u64 9,.int .u64 (t.f.r 3:Nat),.int .u64 (t.f.r 4:Nat),.int .u64 (t.f.r 5:Nat),.int .u64 (t.f.r 6:Nat),.int .u64 (t.f.r 7:Nat),.int .u64 (t.value:Nat)]:Array Value)[o]?)∧w'.cell? ⟨g,21,none⟩=some (.int .u64 9)∧w'.cell? ⟨g,23,none⟩=some (.bool true):=fun w' u=>by
  have h':=h10.below u
  have hg:g < w10.heap.size:=(World.ownsRow.lt r10 g rfl).2
  exact ⟨(h'.box (a:=b5) (cs:=#[.slice A1 1 C1,.bool s1,.bool n1,.bool y1]) (e:=68) (by simp)).cell,(h'.box (a:=b6) (cs:=#[.slice A2 l2.length C2,.bool true,.bool n2,.bool y2]) (e:=68) (by simp)).cell,(h'.box (a:=b8) (cs:=#[.slice A4 1 C4,.bool s4,.bool true,.bool y4]) (e:=68) (by simp)).cell,(h'.box (a:=b9) (cs:=#[.int .u64 (hnd:Nat),.int .i64 0,.int .i64 t.f.fn,.int .i64 t.f.pc,.int .u64 (t.f.r 0:Nat),.int .u64 (t.f.r 1:Nat),.int .u64 9,.int .u64 (t.f.r 3:Nat),.int .u64 (t.f.r 4:Nat),.int .u64 (t.f.r 5:Nat),.int .u64 (t.f.r 6:Nat),.int .u64 (t.f.r 7:Nat),.int .u64 (t.value:Nat)]) (e:=41) (by simp)).cell,by rw [u.cell hg];exact c21,by rw [u.cell hg];exact c23⟩
 have o5:=h10.row (e:=3) (s:=1) (v:=.slice A1 1 C1) (m:=1) (xs:=Dk.is [1]) (by simp)
 have o8:=h10.row (e:=3) (s:=1) (v:=.slice A4 1 C4) (m:=1) (xs:=Dk.is [0]) (by simp)
 have HF:Hid _:=facts
 have HU10:Hid (Below w.heap.size w w10):=u10
 have i1:=(Dk.owns_ints (xs:=[1]) o5 (by simp [Dk.i64]))
 have i0:=(Dk.owns_ints (xs:=[0]) o8 (by simp [Dk.i64]))
 obtain ⟨A5,C5,ev5,q5⟩:=i1
 obtain ⟨A8,C8,ev8,q8⟩:=i0
 injection ev5 with ea eb ec
 subst ea ec
 injection ev8 with ea2 eb2 ec2
 subst ea2 ec2
 have q5':Dk.SlI w10.heap.size w10 A1 1 C1 [1]:=q5
 have q8':Dk.SlI w10.heap.size w10 A4 1 C4 [0]:=q8
 clear h10 u10 r10 hx c1 c2 o5 o8 q5 q8 eb eb2 c21 c23 facts
 obtain ⟨w11,e11⟩:∃ w11,w11=w10.alloc (.cells #[.int .i64 1] 3):=⟨_,rfl⟩
 have u11:Below w10.heap.size w10 w11:=by rw [e11];exact Dk.up_alloc (Below.refl _ _) _
 have K11:=Ints_same A1 (some ⟨w10.heap.size,0,none⟩) 1 C1 1 [1] w11 ((q5'.below u11 (Nat.le_refl _)).more u11.size) (lit_one w10 w11 1 (i64_of _ (by omega)) e11)
 have H11:Hid _:=e11.symm
 have HU11:Hid (Below w10.heap.size w10 w11):=u11
 have HQ8:Hid (Dk.SlI w10.heap.size w10 A4 1 C4 [0]):=q8'
 obtain ⟨f5,f6,f8,f9,f21,f23⟩:=HF.out w10 (Below.refl _ _)
 clear q5' q8' u11
 clear e11
 go_wp2_with (rw [H11.out];clear H11)
 refine K11.mono ?_
 rintro e w12 ⟨rfl,u12⟩
 have u12':=Dk.up_call HU11.out u12
 have HU12:Hid (Below w10.heap.size w10 w12):=u12'
 obtain ⟨w13,e13⟩:∃ w13,w13=w12.alloc (.cells #[.int .i64 0] 3):=⟨_,rfl⟩
 have u13:Below w12.heap.size w12 w13:=by rw [e13];exact Dk.up_alloc (Below.refl _ _) _
 have u13':=Dk.up_call u12' u13
 have K13:=Ints_same A4 (some ⟨w12.heap.size,0,none⟩) 1 C4 1 [0] w13 ((HQ8.out.below u13' (Nat.le_refl _)).more u13'.size) (lit_one w12 w13 0 (i64_of _ (by omega)) e13)
 have H13:Hid _:=e13.symm
 have HU13:Hid (Below w10.heap.size w10 w13):=u13'
 clear f5 f6 f8 f9 f21 f23 K11
 obtain ⟨f5,f6,f8,f9,f21,f23⟩:=HF.out w12 u12'
 clear e13 u12 u12' u13 u13'
 go_wp2_with (rw [H13.out];clear H13)
 refine K13.mono ?_
 rintro e w14 ⟨rfl,u14⟩
 have u14':=Dk.up_call HU13.out u14
 have u15:=Dk.up_call HU10.out u14'
 clear f5 f6 f8 f9 f21 f23 K13
 obtain ⟨f5,f6,f8,f9,f21,f23⟩:=HF.out w14 u14'
 have HU15:Hid (Below w.heap.size w w14):=u15
 clear u14 u14' u15
 go_wp2_with fail
 go_ret
 exact ⟨rfl,HU15.out⟩
end
end Go.Proofs.YtglhhlfopccmaaaGreat
