import Derived.Test.YtglhhlfopccmaaaGreatOn43
set_option linter.unusedSimpArgs false
set_option linter.unusedVariables false
set_option linter.unnecessarySimpa false
set_option maxHeartbeats 8000000
set_option maxRecDepth 100000
namespace Dk
open Go Go.RowKit
def owP:Prg:=⟨[[⟨32,1,0,0,0⟩]],0,0,0,[],[],0,0⟩
def ow0:Sp:=Sp.fresh owP
def ow1:Sp:=(ow0.run 0 0).1
theorem ow_check:check owP=0:=by decide +kernel
theorem ow_run:(ow0.run 0 0).2.2=0:=by decide +kernel
theorem ow_end:(ow0.tick.1).recs.length=0∧(ow1.tick.1).recs.length=1∧(ow1.tick.1).ready=[0]:=by decide +kernel
theorem owI_ok:∀ i ∈ ([⟨32,1,0,0,0⟩]:List Ins),i.ok:=by
 intro i hi
 simp at hi
 subst hi
 exact ⟨by unfold i64;decide,by unfold i64;decide,by unfold i64;decide,by unfold i64;decide,by decide⟩
def owS (n:Nat):Sh:=⟨some ⟨n,0,none⟩,1,1,none,0,0,none,0,0⟩
theorem owBad (s s':Sh):firstBad [(s,owP),(s',owP)]=0:=by simp [firstBad,ow_check]
theorem map_two {α β:Type} {f:α→β} {xs:List α} {a b:β} (h:xs.map f=[a,b]):∃ x y,xs=[x,y]∧f x=a∧f y=b:=by
 match xs,h with
 | [x,y],h=>simp at h;exact ⟨x,y,rfl,h.1,h.2⟩
end Dk
namespace Go.Proofs.YtglhhlfopccmaaaGreat
open Go.RowKit Go.Lib
theorem ow_prg (B n:Nat) (w:World) (hB:n+1 < B) (h1:∀ o,w.cell? ⟨n,o,none⟩=(#[.int .i64 32,.int .i64 1,.int .i64 0,.int .i64 0,.int .u64 0]:Array Value)[o]?)
  (h2:∀ o,w.cell? ⟨n+1,o,none⟩=(#[.slice (some ⟨n,0,none⟩) 1 1]:Array Value)[o]?):Dk.PrgAt B w (Dk.owS (n+1)) Dk.owP:=by
 have z:Dk.i64 0:=by unfold Dk.i64;decide
 refine ⟨⟨rfl,Nat.le_refl _,by unfold maxLen;show 1≤_;decide,fun _=>⟨n+1,0,rfl,hB,fun k hk=>?_⟩⟩,⟨rfl,Nat.le_refl _,Nat.zero_le _,by simp [Dk.owP],fun h=>absurd h (Nat.lt_irrefl 0)⟩,⟨rfl,Nat.le_refl _,Nat.zero_le _,by simp [Dk.owP],fun h=>absurd h (Nat.lt_irrefl 0)⟩,z,z,z,z,z⟩
 have hk0:k=0:=by have:k < 1:=hk;omega
 subst hk0
 refine ⟨some ⟨n,0,none⟩,1,1,by rw [h2];rfl,rfl,Nat.le_refl _,by unfold maxLen;decide,Dk.owI_ok,fun _=>⟨n,0,rfl,by omega,fun j hj=>?_⟩⟩
 match j,hj with
 | 0,_=>exact ⟨h1 _,h1 _,h1 _,h1 _,h1 _⟩
theorem awakeO_any (w:World):Calls Tryz.prog 34 #[] w fun e w'=>e=.returned (.bool true)∧Below w.heap.size w w':=by
 obtain ⟨W1,e1⟩:∃ W1,W1=w.alloc (.cells #[.int .i64 32,.int .i64 1,.int .i64 0,.int .i64 0,.int .u64 0] 112):=⟨_,rfl⟩
 obtain ⟨W2,e2⟩:∃ W2,W2=W1.alloc (.cells #[.slice (some ⟨w.heap.size,0,none⟩) 1 1] 123):=⟨_,rfl⟩
 obtain ⟨W3,e3⟩:∃ W3,W3=W2.alloc (.cells #[.slice (some ⟨w.heap.size+1,0,none⟩) 1 1,.int .i64 0,.int .i64 0,.int .i64 0,.slice none 0 0,.slice none 0 0,.int .i64 0,.int .i64 0] 25):=⟨_,rfl⟩
 obtain ⟨W4,e4⟩:∃ W4,W4=W3.alloc (.cells #[.slice (some ⟨w.heap.size+1,0,none⟩) 1 1,.int .i64 0,.int .i64 0,.int .i64 0,.slice none 0 0,.slice none 0 0,.int .i64 0,.int .i64 0,.slice (some ⟨w.heap.size+1,0,none⟩) 1 1,.int .i64 0,.int .i64 0,.int .i64 0,.slice none 0 0,.slice none 0 0,.int .i64 0,.int .i64 0] 25):=⟨_,rfl⟩
 have z1:W1.heap.size=w.heap.size+1:=by rw [e1];simp
 have z2:W2.heap.size=w.heap.size+1+1:=by rw [e2];simp [z1]
 have z3:W3.heap.size=w.heap.size+1+1+1:=by rw [e3];simp [z2]
 have z4:W4.heap.size=w.heap.size+1+1+1+1:=by rw [e4];simp [z3]
 have s3:=(((Dk.Sep.begin (Below.refl w.heap.size w)).newBox e1).newBox e2).newBox e3
 have s4:=s3.newBox e4
 rw [z1,z2] at s3
 rw [z1,z2,z3] at s4
 have d3:=(s3.box (b:=w.heap.size+1+1) (cs:=#[.slice (some ⟨w.heap.size+1,0,none⟩) 1 1,.int .i64 0,.int .i64 0,.int .i64 0,.slice none 0 0,.slice none 0 0,.int .i64 0,.int .i64 0]) (t:=25) (by simp)).cell
 have d1:=(s4.box (b:=w.heap.size) (cs:=#[.int .i64 32,.int .i64 1,.int .i64 0,.int .i64 0,.int .u64 0]) (t:=112) (by simp)).cell
 have d2:=(s4.box (b:=w.heap.size+1) (cs:=#[.slice (some ⟨w.heap.size,0,none⟩) 1 1]) (t:=123) (by simp)).cell
 have d4:=(s4.box (b:=w.heap.size+1+1+1) (cs:=#[.slice (some ⟨w.heap.size+1,0,none⟩) 1 1,.int .i64 0,.int .i64 0,.int .i64 0,.slice none 0 0,.slice none 0 0,.int .i64 0,.int .i64 0,.slice (some ⟨w.heap.size+1,0,none⟩) 1 1,.int .i64 0,.int .i64 0,.int .i64 0,.slice none 0 0,.slice none 0 0,.int .i64 0,.int .i64 0]) (t:=25) (by simp)).cell
 have hp:Dk.PrgAt W4.heap.size W4 (Dk.owS (w.heap.size+1)) Dk.owP:=ow_prg _ _ _ (by omega) d1 d2
 have hS:Dk.SlP W4.heap.size W4 (some ⟨w.heap.size+1+1+1,0,none⟩) 2 2 [(Dk.owS (w.heap.size+1),Dk.owP),(Dk.owS (w.heap.size+1),Dk.owP)]:=by
  refine ⟨rfl,Nat.le_refl _,by unfold maxLen;decide,fun _=>⟨_,0,rfl,by omega,fun k x hx=>?_⟩⟩
  match k,hx with
  | 0,hx=>cases hx;exact ⟨hp,d4 _,d4 _,d4 _,d4 _,d4 _,d4 _,d4 _,d4 _⟩
  | 1,hx=>cases hx;exact ⟨hp,d4 _,d4 _,d4 _,d4 _,d4 _,d4 _,d4 _,d4 _⟩
 have K:=NewO_t W4 hS (Nat.le_refl _) ⟨by omega,by omega⟩
 rw [Dk.owBad] at K
 have HU:Hid (Below w.heap.size w W4):=s4.out
 have H1:Hid _:=e1.symm
 have H2:Hid _:=e2.symm
 have H3:Hid _:=e3.symm
 have H4:Hid _:=e4.symm
 clear e1 e2 e3 e4 s3 s4 z4 d1 d2 d4 hp hS
 go_enter Tryz.func34,Tryz.ntmps34
 go_wp2_with (first | (rw [H1.out];clear H1) | (rw [H2.out];clear H2) | (rw [H3.out];clear H3) | (rw [H4.out];clear H4))
 refine K.mono ?_
 rintro e w5 (⟨hz,_⟩ | ⟨_,b,cs,rfl,hO,hq,_⟩)
 ·exact absurd rfl hz
 obtain ⟨c0,c1,rfl,q0,q1⟩:=Dk.map_two hq
 have q0':c0.q=Dk.ow0:=q0
 have q1':c1.q=Dk.ow0:=q1
 clear K hq q0 q1 d3 z1 z2 z3
 have K:=DoRun_yes hO 0 0 1 c1 rfl (by omega) (i64_of _ (by omega))
 have K':Calls Tryz.prog 36 #[.pointer (some ⟨b,0,none⟩),.agg #[.int .i64 1,.int .i64 1,.int .i64 0,.int .i64 0]] w5 fun e w'=>e=.returned (.int .i64 0)∧OneM W4 w' b [c0,c1.go Dk.ow1] (Dk.upd (fun _=>0) 1 1) []:=by
  rw [q1',Dk.ow_run] at K
  exact K
 clear K hO
 go_wp2_with fail
 refine K'.mono ?_
 rintro e w6 ⟨rfl,hO⟩
 clear K'
 have K:=DoRun_no hO 2 0 0 (.inr (by simp))
 go_wp2_with fail
 refine K.mono ?_
 rintro e w7 ⟨rfl,hO7⟩
 clear K hO
 have hlev:∀ i,Dk.upd (fun _=>0) 1 1 i≤1:=fun i=>by unfold Dk.upd;split <;> simp
 have K:=DoTick hO7 9 0 0 (fun i=>by have:=hlev i;omega) (by simp)
 obtain ⟨f0,f1,f2⟩:=Dk.ow_end
 obtain ⟨a0,ha0⟩:∃ a,a=c0.tick:=⟨_,rfl⟩
 obtain ⟨a1,ha1⟩:∃ a,a=(c1.go Dk.ow1).tick:=⟨_,rfl⟩
 have g0:a0.q.recs.length=0:=by rw [ha0];unfold Dk.Cell.tick Dk.Cell.go;rw [q0'];exact f0
 have g1:a1.q.recs.length=1:=by rw [ha1];exact f1
 have g2:a1.q.ready=[0]:=by rw [ha1];exact f2
 have K':Calls Tryz.prog 36 #[.pointer (some ⟨b,0,none⟩),.agg #[.int .i64 3,.int .i64 9,.int .i64 0,.int .i64 0]] w7 fun e w'=>e=.returned (.int .i64 0)∧OneM W4 w' b [a0,a1] (fun i=>Dk.upd (fun _=>0) 1 1 i+1) []:=by
  rw [ha0,ha1]
  exact K
 clear K hO7 ha0 ha1 f0 f1 f2 q0' q1'
 go_wp2_with fail
 refine K'.mono ?_
 rintro e w8 ⟨rfl,hO⟩
 clear K'
 have K:=RecordsO_yes hO (k:=0) (c:=a0) rfl (by have:=hlev 0;omega)
 rw [g0] at K
 generalize a0.q.recs.flatMap Dk.Rec.cells=x0 at K
 go_wp2_with fail
 refine K.mono ?_
 rintro e w9 ⟨A9,C9,rfl,h9⟩
 clear K hO
 have K:=RecordsO_yes h9 (k:=1) (c:=a1) rfl (by have:=hlev 1;omega)
 rw [g1] at K
 generalize a1.q.recs.flatMap Dk.Rec.cells=x1 at K
 go_wp2_with fail
 refine K.mono ?_
 rintro e w10 ⟨A10,C10,rfl,h10⟩
 clear K h9
 have K:=ReadyO_yes h10 (k:=1) (c:=a1) rfl
 rw [g2] at K
 go_wp2_with fail
 refine K.mono ?_
 rintro e w11 ⟨A11,C11,rfl,h11⟩
 clear K h10
 have o11:=h11.row (e:=3) (s:=1) (v:=.slice A11 1 C11) (m:=1) (xs:=Dk.is [0]) (by simp)
 obtain ⟨A8,C8,ev8,q8⟩:=Dk.owns_ints (xs:=[0]) o11 (by simp [Dk.i64])
 injection ev8 with ea2 eb2 ec2
 subst ea2 ec2
 have q8':Dk.SlI w11.heap.size w11 A11 1 C11 [0]:=q8
 obtain ⟨w13,e13⟩:∃ w13,w13=w11.alloc (.cells #[.int .i64 0] 3):=⟨_,rfl⟩
 have u13:Below w11.heap.size w11 w13:=by rw [e13];exact Dk.up_alloc (Below.refl _ _) _
 have K13:=Ints_same A11 (some ⟨w11.heap.size,0,none⟩) 1 C11 1 [0] w13 ((q8'.below u13 (Nat.le_refl _)).more u13.size) (lit_one w11 w13 0 (i64_of _ (by omega)) e13)
 have H13:Hid _:=e13.symm
 have HU13:Hid (Below W4.heap.size W4 w13):=Dk.up_call h11.out u13
 clear e13 u13 o11 q8 q8' eb2 h11
 go_wp2_with (rw [H13.out];clear H13)
 refine K13.mono ?_
 rintro e w14 ⟨rfl,u14⟩
 have u15:=Dk.up_call HU.out (Dk.up_call HU13.out u14)
 have HU15:Hid (Below w.heap.size w w14):=u15
 clear u14 u15 K13
 go_wp2_with fail
 go_ret
 exact ⟨rfl,HU15.out⟩
theorem LookO_nil (n k:Int) (w:World):Calls Tryz.prog 41 #[.pointer none,.int .i64 n,.int .i64 k] w fun e w'=>e=.returned (.tuple #[.agg tzero,.bool false])∧Below w.heap.size w w':=by
 obtain ⟨W1,e1⟩:∃ W1,W1=w.alloc (.cells #[.int .u64 0,.int .i64 0,.int .i64 0,.int .i64 0,.int .u64 0,.int .u64 0,.int .u64 0,.int .u64 0,.int .u64 0,.int .u64 0,.int .u64 0,.int .u64 0,.int .u64 0] 41):=⟨_,rfl⟩
 have s1:=(Dk.Sep.begin (Below.refl w.heap.size w)).newBox e1
 have H1:Hid _:=e1.symm
 have HS:Hid (Dk.Sep w W1 _):=s1
 clear e1 s1
 go_enter Tryz.func41,Tryz.ntmps41
 go_wp2_with (rw [H1.out];clear H1)
 refine (SpaceO_nil n W1).mono ?_
 rintro e w7 ⟨rfl,ew⟩
 subst w7
 go_wp2_with fail
 refine (Look_nil k W1).mono ?_
 rintro e w2 ⟨rfl,u2⟩
 have s2:Dk.Sep w w2 (Dk.boxOf w.heap.size tzero 41::[]):=HS.out.below u2
 have b2:Dk.Box w2 w.heap.size tzero 41:=s2.box (by simp)
 have h3:=(sep_setRow (cs':=tzero) s2 rfl).out
 have d0:=(b2.row (cs':=tzero)).cell
 have HB:Hid _:=b2
 clear b2 s2 u2 HS
 go_wp2_with (refine wpList_store_row rfl 41 _ _ rfl w.heap.size tzero rfl rfl 41 _ HB.out.heap sizeThread rfl tzero_all ?_)
 generalize w2.setRow w.heap.size tzero=WX at *
 unfold tzero at d0
 exact bodyPost_ret (v:=.tuple #[.agg tzero,.bool false]) (by simp [results,Tryz.results41,go_sem,d0,tzero]) rfl ⟨rfl,h3⟩
theorem OneNone_any (ak asp ath ach n k:Int) (w:World):Calls Tryz.prog 10 #[.agg #[.int .i64 ak,.int .i64 asp,.int .i64 ath,.int .i64 ach],.int .i64 n,.int .i64 k] w fun e w'=>e=.returned (.bool true)∧Below w.heap.size w w':=by
 obtain ⟨W1,e1⟩:∃ W1,W1=w.alloc (.cells #[.int .i64 ak,.int .i64 asp,.int .i64 ath,.int .i64 ach] 88):=⟨_,rfl⟩
 have s1:=(Dk.Sep.begin (Below.refl w.heap.size w)).newBox e1
 have H1:Hid _:=e1.symm
 have HS:Hid (Dk.Sep w W1 _):=s1
 clear e1 s1
 go_enter Tryz.func10,Tryz.ntmps10
 go_wp2_with (rw [H1.out];clear H1)
 refine (LookO_nil n k W1).mono ?_
 rintro e w4 ⟨rfl,u4⟩
 have s4:Dk.Sep w w4 (Dk.boxOf w.heap.size #[.int .i64 ak,.int .i64 asp,.int .i64 ath,.int .i64 ach] 88::[]):=HS.out.below u4
 clear u4 HS
 unfold tzero
 obtain ⟨x4,e4⟩:∃ x4,x4=w4.alloc (.cells #[.int .u64 0,.int .i64 0,.int .i64 0,.int .i64 0,.int .u64 0,.int .u64 0,.int .u64 0,.int .u64 0,.int .u64 0,.int .u64 0,.int .u64 0,.int .u64 0,.int .u64 0] 41):=⟨_,rfl⟩
 have s4':=s4.newBox e4
 have b4:Dk.Box x4 w4.heap.size #[.int .u64 0,.int .i64 0,.int .i64 0,.int .i64 0,.int .u64 0,.int .u64 0,.int .u64 0,.int .u64 0,.int .u64 0,.int .u64 0,.int .u64 0,.int .u64 0,.int .u64 0] 41:=s4'.box (by simp)
 have t4:=Sep.rewrite (us1:=[]) s4' #[.int .u64 0,.int .i64 0,.int .i64 0,.int .i64 0,.int .u64 0,.int .u64 0,.int .u64 0,.int .u64 0,.int .u64 0,.int .u64 0,.int .u64 0,.int .u64 0,.int .u64 0]
 have HB:Hid (Dk.Box x4 w4.heap.size #[.int .u64 0,.int .i64 0,.int .i64 0,.int .i64 0,.int .u64 0,.int .u64 0,.int .u64 0,.int .u64 0,.int .u64 0,.int .u64 0,.int .u64 0,.int .u64 0,.int .u64 0] 41):=b4
 have HX:Hid (w4.alloc _=x4):=e4.symm
 generalize hy4:x4.setRow w4.heap.size #[.int .u64 0,.int .i64 0,.int .i64 0,.int .i64 0,.int .u64 0,.int .u64 0,.int .u64 0,.int .u64 0,.int .u64 0,.int .u64 0,.int .u64 0,.int .u64 0,.int .u64 0]=y4 at *
 have HY:Hid (x4.setRow w4.heap.size #[.int .u64 0,.int .i64 0,.int .i64 0,.int .i64 0,.int .u64 0,.int .u64 0,.int .u64 0,.int .u64 0,.int .u64 0,.int .u64 0,.int .u64 0,.int .u64 0,.int .u64 0]=y4):=hy4
 have HT:Hid (Dk.Sep w y4 _):=t4
 clear s4 e4 s4' b4 t4 hy4
 go_wp2_with (first | (rw [HX.out];clear HX) | (refine wpList_store_row rfl 41 _ _ rfl w4.heap.size #[.int .u64 0,.int .i64 0,.int .i64 0,.int .i64 0,.int .u64 0,.int .u64 0,.int .u64 0,.int .u64 0,.int .u64 0,.int .u64 0,.int .u64 0,.int .u64 0,.int .u64 0] rfl rfl 41 _ HB.out.heap sizeThread rfl tzero_all ?_;rw [HY.out]))
 refine (awakeO_any y4).mono ?_
 rintro e w5 ⟨rfl,u5⟩
 have s5:=HT.out.below u5
 have c5:=(s5.box (b:=w.heap.size) (cs:=#[.int .i64 ak,.int .i64 asp,.int .i64 ath,.int .i64 ach]) (t:=88) (by simp)).cell
 have HS5:Hid (Below w.heap.size w w5):=s5.out
 clear u5 s5 HT HB HY
 go_wp2_with fail
 refine (DoO_nil ak asp ath ach w5).mono ?_
 rintro e w6 ⟨rfl,u6⟩
 have HU:Hid (Below w.heap.size w w6):=Dk.up_call HS5.out u6
 clear c5 u6 HS5
 go_wp2_with (first | (go_at_call 40;refine (ReadyO_nil _ _).mono ?_;rintro e w' ⟨rfl,ew⟩;subst w') | (go_at_call 38;refine (RecordsO_nil _ _).mono ?_;rintro e w' ⟨rfl,ew⟩;subst w') | (go_at_call 39;refine (MemoryO_nil _ _).mono ?_;rintro e w' ⟨rfl,ew⟩;subst w') | (go_at_call 42;refine (SpaceO_nil _ _).mono ?_;rintro e w' ⟨rfl,ew⟩;subst w'))
 go_ret
 exact ⟨rfl,HU.out⟩
end Go.Proofs.YtglhhlfopccmaaaGreat
namespace Dk
open Go Go.RowKit Go.Deep Go.ChangeShapes Go.WideShapes
section
variable {H : Type} {enc : TypeId × Value → H} {P : Go.Program} {w : World} {held : Bool}
theorem open_four {t tI:TypeId} {fs:Array Field} {v:Value} {d:DataW H} {ps:List MemPlace} {base:Nat} (ht:P.underlying t=some (.struct fs)) (hI:P.underlying tI=some (.int .i64)) (cI:P.cellsOf tI=1) (ct:P.cellsOf t=4) (hk:fs.size=4)
  (hfs:∀ (j:Nat) (hj:j < fs.size),fs[j].type=tI∧fs[j].offset=j) (hv:Value.okWide P w .any base t v) (h:DataW.Trod enc P w 0 (fun _=>true) held t v d ps):∃ x y z u:Int,i64 x∧i64 y∧i64 z∧i64 u∧v=.agg #[.int .i64 x,.int .i64 y,.int .i64 z,.int .i64 u]:=by
 obtain ⟨fuel,h⟩:=h
 unfold Value.okWide at hv
 rw [ht] at hv
 obtain ⟨cs,rfl,_,_⟩:=hv
 have h':DataW.trod enc P w 0 (fun _=>true) held fuel t cs.toList=some (d,ps):=h
 obtain ⟨a,e,ha⟩:=el_ints ht hI cI ct hk hfs _ _ _ h'
 obtain ⟨xs,n,_,_,hl,hxl,hf⟩:=DataW.trod_struct ht h'
 rw [ct,e,List.length_map] at hl
 match a,hl with
 | [x,y,z,u],_=>exact ⟨x,y,z,u,ha x (by simp),ha y (by simp),ha z (by simp),ha u (by simp),congrArg Value.agg (Array.toList_inj.1 e)⟩
end
end Dk
