import Derived.Test.YtglhhlfopccmaaaGreatOw44
import Derived.Deep.CutBlock
set_option linter.unusedSimpArgs false
set_option linter.unusedVariables false
set_option linter.unnecessarySimpa false
set_option maxHeartbeats 8000000
set_option maxRecDepth 100000
namespace Go.Proofs.YtglhhlfopccmaaaGreat
open Go.RowKit Go.Lib
theorem zgt (s:Dk.Sh) (p:Dk.Prg) (A:Option Addr) (Ln C:Nat) (acts:List (List Int)) (w:World) (hp:Dk.PrgAt w.heap.size w s p) (hr:Dk.Row 3 [] Dk.IsInts w.heap.size w A Ln C acts) (hk:Dk.check p=0) :
  Calls Tryz.prog 7 #[Dk.pv s p,.slice A Ln C] w fun e w'=>e=.returned (.bool true)∧Below w.heap.size w w':=by
 obtain ⟨W1,e1⟩:∃ W1,W1=w.alloc (.cells #[.slice s.fA s.fL s.fC,.int .i64 p.words,.int .i64 p.mutexes,.int .i64 p.conds,.slice s.sA s.sL s.sC,.slice s.pA s.pL s.pC,.int .i64 p.blocks,.int .i64 p.prio] 25):=⟨_,rfl⟩
 have s1:=(Dk.Sep.begin (Below.refl w.heap.size w)).newBox e1
 have u1:Below w.heap.size w W1:=s1.out
 have K:=zki s1 s p (hp.below u1 (Nat.le_refl _)) u1.size hk
 have c1:=(s1.box (b:=w.heap.size) (cs:=#[.slice s.fA s.fL s.fC,.int .i64 p.words,.int .i64 p.mutexes,.int .i64 p.conds,.slice s.sA s.sL s.sC,.slice s.pA s.pL s.pC,.int .i64 p.blocks,.int .i64 p.prio]) (t:=25) (by simp)).cell
 have HR:Hid (Dk.Row 3 [] Dk.IsInts w.heap.size w A Ln C acts):=hr
 have HBN:Hid (Dk.Born (Dk.Sp.fresh p)):=zn0 hp hk
 have H1:Hid _:=e1.symm
 have hcap:=hr.cap
 have hmax:=hr.max
 unfold maxLen at hmax
 clear e1 s1 u1 hp hk hr
 go_enter Tryz.func7,Tryz.ntmps7
 go_wp2_with (rw [H1.out];clear H1)
 refine K.mono ?_
 rintro e w2 ⟨L,rfl,h2⟩
 have hG:Goes w w2 L (Dk.Sp.fresh p) (Dk.Sp.fresh p) 0 []:=h2.with (fun c=>c.drop)
 have HG:Hid (Goes w w2 L (Dk.Sp.fresh p) (Dk.Sp.fresh p) 0 []):=hG
 have HCF:Hid (Dk.Calm (Dk.Sp.fresh p) []):=Dk.Calm.fresh p
 clear c1 K h2 hG
 generalize Dk.Sp.fresh p=q0 at *
 go_wp2_with fail
 go_loopw [7] (fun i w'=>∃ (j:Nat) (q:Dk.Sp),i=.int .i64 j∧j≤Ln∧j≤100∧Goes w w' L q0 q j []∧Hid (Dk.Calm q [])) (fun i w'=>Ln - (intOf i).toNat)
 case atStart=>exact ⟨0,q0,rfl,Nat.zero_le _,by omega,HG.out,HCF.out⟩
 case round=>
  obtain ⟨j,q,rfl,hj,hj2,hG,HQ⟩:=hrel
  clear HG HCF
  by_cases hlt:j < Ln∧j < 100
  ·obtain ⟨hlt,hl2⟩:=hlt
   obtain ⟨b,o,rfl,hb,hc⟩:=Dk.znq HR.out (by omega)
   obtain ⟨x0,x1,x2,⟨i0,i1,i2⟩,c0,c1,c2⟩:=hc j hlt
   have HC0:Hid (∀ w',Below w.heap.size w w'→w'.cell? ⟨b,o+j*3,none⟩=some (.int .i64 x0)):=fun w' u=>by rw [u.cell (by show b < _;exact hb)];exact c0
   have HC1:Hid (∀ w',Below w.heap.size w w'→w'.cell? ⟨b,o+j*3+1,none⟩=some (.int .i64 x1)):=fun w' u=>by rw [u.cell (by show b < _;exact hb)];exact c1
   have HC2:Hid (∀ w',Below w.heap.size w w'→w'.cell? ⟨b,o+j*3+2,none⟩=some (.int .i64 x2)):=fun w' u=>by rw [u.cell (by show b < _;exact hb)];exact c2
   have I1:Hid (Dk.i64 x1):=i1
   have I2:Hid (Dk.i64 x2):=i2
   have HJ:Hid (j+1≤Ln∧j+1≤100):=⟨hlt,hl2⟩
   have m1:(j:Int) < (Ln:Int):=by omega
   have m2:(j:Int) < 100:=by omega
   have m3:(0:Int)≤(j:Int):=by omega
   have H16:Hid (q.st.length=16):=by have h:=hG.dims.sl;have h':=HBN.out.h16;rw [h];exact h'
   have K:=zf3 hG HBN.out
   clear hc i0 i1 i2 c0 c1 c2 hG
   go_wp2_with fail
   refine K.mono ?_
   rintro e w3 ⟨A3,C3,rfl,h3⟩
   obtain ⟨n3,en3⟩:∃ n3,q.ready.length=n3:=⟨_,rfl⟩
   have HN3:Hid (q.ready.length=n3):=en3
   have k3:=zlc (e:=3) (h3.cor.row (e:=3) (s:=1) (v:=.slice A3 q.ready.length C3) (m:=q.ready.length) (xs:=Dk.is q.ready) (by simp)) Dk.zfb
   have z3:=k3.cap
   have z3':=k3.max
   unfold maxLen at z3'
   rw [en3] at z3
   clear k3
   rw [en3] at h3 ⊢
   obtain ⟨w4,e4⟩:∃ w4,w4=w3.alloc (.cells #[.slice none 0 0,.bool false,.bool false,.bool false] 68):=⟨_,rfl⟩
   have h4:=h3.with (fun c=>c.newBox e4)
   obtain ⟨b9,eb9⟩:∃ b9,w3.heap.size=b9:=⟨_,rfl⟩
   rw [eb9] at h4
   obtain ⟨w5,e5⟩:∃ w5,w5=w4.setRow b9 #[.slice none 0 0,.bool false,.bool false,.bool false]:=⟨_,rfl⟩
   have h5:=h4.with (fun c=>c.setRow e5)
   have HB4:Hid (Dk.Box w4 b9 #[.slice none 0 0,.bool false,.bool false,.bool false] 68):=h4.cor.box (by simp)
   have H4:Hid _:=e4.symm
   have H5:Hid _:=e5.symm
   have c0:=HC0.out w5 h5.cor.out
   have HG5:Hid (Goes w w5 L q0 q j [Dk.boxOf b9 #[.slice none 0 0,.bool false,.bool false,.bool false] 68,Dk.rowOf 3 1 (.slice A3 n3 C3) n3 (Dk.is q.ready)]):=h5
   have HEB:Hid _:=eb9
   clear h3 h4 h5 e4 e5 K en3 eb9
   go_upto_block 2 with (first | (rw [H4.out,HEB.out];clear H4) | (refine wpList_store_row rfl 68 _ _ rfl b9 #[.slice none 0 0,.bool false,.bool false,.bool false] rfl rfl 68 _ HB4.out.heap sizeEff rfl (zak _ _ _ _ _ _) ?_;rw [H5.out];clear HB4))
   go_cut [10] from 40 to 128 (fun f w'=>∃ (er:Int) (q':Dk.Sp) (e:Dk.Eff) (Aw:Option Addr) (Cw:Nat),f=.int .i64 er∧Hid (er≠0→q'=q)∧Hid (Dk.Steps q x1 q' e)∧Hid ((e.stopped || e.ended)=true→0≤x1∧x1 < 16)∧Goes w w' L q0 q' (j+1) [Dk.boxOf b9 #[.slice Aw e.woken.length Cw,.bool e.stopped,.bool e.ended,.bool e.yielded] 68,Dk.rowOf 3 1 (.slice Aw e.woken.length Cw) e.woken.length (Dk.is e.woken),Dk.rowOf 3 1 (.slice A3 n3 C3) n3 (Dk.is q.ready)])
   case first=>
    by_cases h0:x0=0
    ·subst h0
     have hd:=HG5.out.with (fun c=>c.below (Dk.zh (Below.refl _ _)))
     have SU:=HG5.out.cor.out
     clear HG5
     go_upto_region 13 with fail
     obtain ⟨S,eS⟩:∃ S:World→Prop,S=fun w'=>w'.cell? ⟨b,o+j*3+1,none⟩=some (.int .i64 x1)∧w'.cell? ⟨b,o+j*3+2,none⟩=some (.int .i64 x2):=⟨_,rfl⟩
     have S0:S w5.drew:=by rw [eS];exact ⟨HC1.out _ (Dk.zi SU (Dk.zh (Below.refl _ _))),HC2.out _ (Dk.zi SU (Dk.zh (Below.refl _ _)))⟩
     have SB:∀ w',S w'→w'.cell? ⟨b,o+j*3+1,none⟩=some (.int .i64 x1)∧w'.cell? ⟨b,o+j*3+2,none⟩=some (.int .i64 x2):=fun w' h=>by rw [eS] at h;exact h
     clear eS SU
     refine Dk.zd (S:=S) [] [0,1,2,3,4,5,6,7,8,9,10] [11,12,13,14,15,16] 6 (by kernel_rfl) (by kernel_rfl) (by kernel_rfl) (by kernel_rfl) rfl S0 _ ?_ (fun a' h=>h)
     refine Dk.za (v:=.pointer (some ⟨L.b,0,none⟩)) rfl rfl (fun w' hw'=>by go_simp) ?_
     simp only [zD]
     refine Dk.za (v:=.slice (some ⟨b,o,none⟩) Ln C) rfl rfl (fun w' hw'=>by go_simp) ?_
     simp only [zD]
     refine Dk.za (v:=.int .i64 (j:Int)) rfl rfl (fun w' hw'=>by go_simp) ?_
     simp only [zD]
     refine Dk.za (v:=.pointer (some ⟨b,o+j*3,none⟩)) rfl rfl (fun w' hw'=>by go_simp) ?_
     simp only [zD]
     refine Dk.za (v:=.pointer (some ⟨b,o+j*3+1,none⟩)) rfl rfl (fun w' hw'=>by go_simp) ?_
     simp only [zD]
     refine Dk.za (v:=.int .i64 x1) rfl rfl (fun w' hw'=>by have c:=(SB _ hw').1;go_simp) ?_
     simp only [zD]
     refine Dk.za (v:=.slice (some ⟨b,o,none⟩) Ln C) rfl rfl (fun w' hw'=>by go_simp) ?_
     simp only [zD]
     refine Dk.za (v:=.int .i64 (j:Int)) rfl rfl (fun w' hw'=>by go_simp) ?_
     simp only [zD]
     refine Dk.za (v:=.pointer (some ⟨b,o+j*3,none⟩)) rfl rfl (fun w' hw'=>by go_simp) ?_
     simp only [zD]
     refine Dk.za (v:=.pointer (some ⟨b,o+j*3+2,none⟩)) rfl rfl (fun w' hw'=>by go_simp) ?_
     simp only [zD]
     refine Dk.za (v:=.int .i64 x2) rfl rfl (fun w' hw'=>by have c:=(SB _ hw').2;go_simp) ?_
     simp only [zD]
     refine Dk.treeY (rs:=[11]) (by kernel_rfl) (by simp) ?_
     intro i hi
     simp only [List.mem_cons,List.not_mem_nil,or_false] at hi
     subst hi
     refine Dk.zm (some 56) rfl rfl rfl (f:=28) (args:=#[.pointer (some ⟨L.b,0,none⟩),.int .i64 x1,.int .i64 x2]) (by go_simp) ?_
     refine (run_goes hd HBN.out (by omega) x1 x2 I2.out).mono ?_
     rintro e w9 ⟨A9,C9,rfl,h9⟩
     have hst:=Dk.zp4 HQ.out H16.out x1 x2
     have hno:(q.run x1 x2).2.2≠0→(q.run x1 x2).1=q:=fun h=>(Dk.zpu h).1
     have hgo:=Dk.run_gone H16.out x1 x2
     have h10:=h9.with (fun c=>c.swap)
     clear h9
     refine ⟨_,rfl,fun h=>absurd (by decide) h,?_⟩
     simp only [zD]
     refine Dk.zo (by kernel_rfl) (fun c a w h=>h) _ 2 _ [12,13,14] _ _ (by kernel_rfl) ?_ (fun a' h=>h)
     refine Dk.za (v:=.tuple #[eff A9 (q.run x1 x2).2.1.woken.length C9 (q.run x1 x2).2.1.stopped (q.run x1 x2).2.1.ended (q.run x1 x2).2.1.yielded,.int .i64 (q.run x1 x2).2.2]) rfl rfl (fun w' hw'=>by go_simp) ?_
     simp only [zD]
     refine Dk.za (v:=eff A9 (q.run x1 x2).2.1.woken.length C9 (q.run x1 x2).2.1.stopped (q.run x1 x2).2.1.ended (q.run x1 x2).2.1.yielded) rfl rfl (fun w' hw'=>by go_simp) ?_
     simp only [zD]
     refine Dk.za (v:=.int .i64 (q.run x1 x2).2.2) rfl rfl (fun w' hw'=>by go_simp) ?_
     simp only [zD]
     refine Dk.zl [15,16] _ _ _ (by kernel_rfl) ?_
     refine Dk.zr rfl rfl ?_
     have HB:Dk.Box w9 b9 #[.slice none 0 0,.bool false,.bool false,.bool false] 68:=h10.cor.box (by simp)
     refine wp_store_row 68 _ _ rfl b9 #[.slice A9 (q.run x1 x2).2.1.woken.length C9,.bool (q.run x1 x2).2.1.stopped,.bool (q.run x1 x2).2.1.ended,.bool (q.run x1 x2).2.1.yielded] rfl rfl 68 _ HB.heap sizeEff rfl (zak _ _ _ _ _ _) ⟨fun h=>absurd (by decide) h,?_⟩
     simp only [zD]
     have h11:=h10.with (fun c=>c.setRow (cs':=#[.slice A9 (q.run x1 x2).2.1.woken.length C9,.bool (q.run x1 x2).2.1.stopped,.bool (q.run x1 x2).2.1.ended,.bool (q.run x1 x2).2.1.yielded]) rfl)
     refine Dk.zj (v:=.int .i64 (q.run x1 x2).2.2) (w':=w9.setRow b9 #[.slice A9 (q.run x1 x2).2.1.woken.length C9,.bool (q.run x1 x2).2.1.stopped,.bool (q.run x1 x2).2.1.ended,.bool (q.run x1 x2).2.1.yielded]) (some 10) rfl rfl rfl (by go_simp) (fun h=>absurd (by decide) h) ?_
     simp only [zD]
     show NoPanic _ Exit.normal _ _
     refine NoPanic.normal ?_
     clear SB S0 hd HB h10
     generalize (q.run x1 x2).2.2=er at *
     generalize (q.run x1 x2).1=q' at *
     generalize (q.run x1 x2).2.1=e at *
     have HH:Hid (Goes w _ L q0 q' (j+1) _):=h11
     clear h11
     go_wp2_with fail
     go_meet
     exact ⟨er,q',e,A9,C9,rfl,hno,hst,hgo,HH.out⟩
    by_cases h1:x0=1
    ·subst h1
     have c2:=HC2.out _ HG5.out.cor.out
     have K:=zom HG5.out HBN.out (by omega) x2 I2.out
     have hst:Dk.Steps q x1 (q.done x2).1 (q.done x2).2.1:=Dk.zmv HQ.out x2 x1
     have hno:(q.done x2).2.2≠0→(q.done x2).1=q:=fun h=>(Dk.done_no h).1
     rw [Dk.done_eff] at hst
     have HST:Hid _:=hst
     have HNO:Hid _:=hno
     clear h0 hst hno HG5
     go_wp2_with fail
     refine K.mono ?_
     rintro e w9 ⟨A9,C9,rfl,h9⟩
     have h10:=h9.with (fun c=>c.swap)
     have HB:Hid (Dk.Box w9 b9 #[.slice none 0 0,.bool false,.bool false,.bool false] 68):=h10.cor.box (by simp)
     obtain ⟨w10,e10⟩:∃ w10,w10=w9.setRow b9 #[.slice A9 (q.done x2).2.1.woken.length C9,.bool false,.bool false,.bool false]:=⟨_,rfl⟩
     have HH:Hid _:=h10.with (fun c=>c.setRow e10)
     have H10:Hid _:=e10.symm
     clear h9 h10 e10 K c2
     generalize (q.done x2).2.2=er at *
     generalize (q.done x2).1=q' at *
     generalize (q.done x2).2.1.woken=wo at *
     have HLEN:Hid (wo.length=wo.length):=rfl
     go_wp2_with (refine wpList_store_row rfl 68 _ _ rfl b9 #[.slice A9 wo.length C9,.bool false,.bool false,.bool false] rfl rfl 68 _ HB.out.heap sizeEff rfl (zak _ _ _ _ _ _) ?_;rw [H10.out];clear HB)
     go_meet
     exact ⟨er,q',⟨wo,false,false,false⟩,A9,C9,rfl,HNO.out,HST.out,fun h=>absurd h (by simp),HH.out⟩
    ·have K:=zp6 HG5.out HBN.out (by omega)
     have hst:Dk.Steps q x1 q.tick.1 q.tick.2:=Dk.zmw HQ.out x1
     have et:q.tick.2=⟨q.tick.2.woken,false,false,false⟩:=rfl
     rw [et] at hst
     have HST:Hid _:=hst
     clear hst HG5 et
     go_wp2_with fail
     refine K.mono ?_
     rintro e w9 ⟨A9,C9,rfl,h9⟩
     have h10:=h9.with (fun c=>c.swap)
     have HB:Hid (Dk.Box w9 b9 #[.slice none 0 0,.bool false,.bool false,.bool false] 68):=h10.cor.box (by simp)
     obtain ⟨w10,e10⟩:∃ w10,w10=w9.setRow b9 #[.slice A9 q.tick.2.woken.length C9,.bool false,.bool false,.bool false]:=⟨_,rfl⟩
     have HH:Hid _:=h10.with (fun c=>c.setRow e10)
     have H10:Hid _:=e10.symm
     clear h9 h10 e10 K
     generalize q.tick.1=q' at *
     generalize q.tick.2.woken=wo at *
     go_wp2_with (refine wpList_store_row rfl 68 _ _ rfl b9 #[.slice A9 wo.length C9,.bool false,.bool false,.bool false] rfl rfl 68 _ HB.out.heap sizeEff rfl (zak _ _ _ _ _ _) ?_;rw [H10.out];clear HB)
     go_meet
     exact ⟨0,q',⟨wo,false,false,false⟩,A9,C9,rfl,fun h=>absurd rfl h,HST.out,fun h=>absurd h (by simp),HH.out⟩
   case rest=>
    obtain ⟨er,q',e,Aw,Cw,rfl,HNO,HST,HGO,hG⟩:=hcut
    have K:=zf3 hG HBN.out
    clear hG HG5 c0
    go_wp2_with fail
    refine K.mono ?_
    rintro e w6 ⟨A6,C6,rfl,h6⟩
    have HL:=HST.out.lists HGO.out
    obtain ⟨lw,lg,ll⟩:=HL
    have HLW:Hid (∀ x ∈ e.woken,x ∉ q.ready∧x ∈ q'.ready):=lw
    have HLG:Hid ((e.stopped || e.ended)=true→x1 ∉ q'.ready):=lg
    have HCQ:Hid (Dk.Calm q' []):=HST.out.fine
    have HWI:Hid (∀ x ∈ e.woken,Dk.i64 x):=fun x hx=>by have:=HST.out.inr x hx;unfold Dk.i64;omega
    have s3:=zlc (e:=3) (B:=w.heap.size) (A:=A3) (C:=C3) (xs:=q.ready) (by rw [HN3.out];exact h6.cor.row (e:=3) (s:=1) (v:=.slice A3 n3 C3) (m:=n3) (xs:=Dk.is q.ready) (by simp)) Dk.zfb
    have s6:=zlc (e:=3) (h6.cor.row (e:=3) (s:=1) (v:=.slice A6 q'.ready.length C6) (m:=q'.ready.length) (xs:=Dk.is q'.ready) (by simp)) Dk.zfb
    have sw:=zlc (e:=3) (h6.cor.row (e:=3) (s:=1) (v:=.slice Aw e.woken.length Cw) (m:=e.woken.length) (xs:=Dk.is e.woken) (by simp)) HWI.out
    have b6:=h6.cor.box (a:=b9) (cs:=#[.slice Aw e.woken.length Cw,.bool e.stopped,.bool e.ended,.bool e.yielded]) (e:=68) (by simp)
    have r3:=Dk.ziv q
    have r6:=Dk.ziv q'
    rw [HN3.out] at s3 r3 ll
    obtain ⟨n6,en6⟩:∃ n6,q'.ready.length=n6:=⟨_,rfl⟩
    obtain ⟨nw,enw⟩:∃ nw,e.woken.length=nw:=⟨_,rfl⟩
    rw [en6] at s6 ll h6 r6 ⊢
    rw [enw] at sw ll h6 b6
    have HG6:Hid (Goes w w6 L q0 q' (j+1) [Dk.rowOf 3 1 (.slice A6 n6 C6) n6 (Dk.is q'.ready),Dk.boxOf b9 #[.slice Aw nw Cw,.bool e.stopped,.bool e.ended,.bool e.yielded] 68,Dk.rowOf 3 1 (.slice Aw nw Cw) nw (Dk.is e.woken),Dk.rowOf 3 1 (.slice A3 n3 C3) n3 (Dk.is q.ready)]):=h6
    have HS3:Hid (Dk.SlI w6.heap.size w6 A3 n3 C3 q.ready):=s3
    have HS6:Hid (Dk.SlI w6.heap.size w6 A6 n6 C6 q'.ready):=s6
    have HSW:Hid (Dk.SlI w6.heap.size w6 Aw nw Cw e.woken):=sw
    have HB6:Hid (Dk.Box w6 b9 #[.slice Aw nw Cw,.bool e.stopped,.bool e.ended,.bool e.yielded] 68):=b6
    have z6:=s6.cap
    have z6':=s6.max
    have zw:=sw.cap
    have zw':=sw.max
    unfold maxLen at z6' zw'
    have HEN:Hid (er≠0→n6=n3):=fun h=>by rw [← en6,HNO.out h];exact HN3.out
    have HGL:Hid (n6+(if (e.stopped || e.ended)=true then 1 else 0)=n3+nw):=ll
    have hnw:nw≤17:=by split at ll <;> omega
    clear s3 s6 sw b6 h6 lw lg ll en6 enw K
    go_upto_region 17 with fail
    go_cut [80] from 73 to 128 (fun v w'=>v=.bool false∧Hid (Below w6.heap.size w6 w'))
    case first=>
     by_cases he:er=0
     ·subst he
      go_wp2_with fail
      go_meet
      exact ⟨rfl,Below.refl _ _⟩
     ·have y1:(er != 0)=true:=by simp;exact he
      have en:=HEN.out he
      have eq:=HNO.out he
      have s6:=HS6.out
      rw [en,eq] at s6
      have K:=zc7 A3 A6 n3 C3 C6 q.ready w6 HS3.out s6
      rw [← en] at K
      have K2:Calls Tryz.prog 21 #[.slice A3 n3 C3,.slice A6 n6 C6] w6 fun e w'=>e=.returned (.bool true)∧Below w6.heap.size w6 w':=by
       have K3:=zc7 A3 A6 n3 C3 C6 q.ready w6 HS3.out s6
       rw [en]
       exact K3
      clear K en eq s6 he
      go_wp2_with fail
      refine K2.mono ?_
      rintro e w7 ⟨rfl,u7⟩
      have HU7:Hid (Below w6.heap.size w6 w7):=u7
      clear u7 K2
      go_wp2_with fail
      go_meet
      exact ⟨rfl,HU7.out⟩
    case rest=>
     obtain ⟨rfl,HU7⟩:=hcut
     generalize ew7:wc=w7 at *
     clear ew7 HEN HNO HST HGO
     go_wp2_with fail
     go_loopw [12] (fun i w'=>∃ m:Nat,m≤nw∧i=.int .i64 m∧Hid (Below w6.heap.size w6 w')) (fun i w'=>nw - (intOf i).toNat)
     case atStart=>exact ⟨0,Nat.zero_le _,rfl,HU7.out⟩
     case round=>
      obtain ⟨m,hm,rfl,HB⟩:=hrel
      have d:=(HB6.out.up HB.out).cell
      have d0:=d 0
      have d1:=d 1
      have d2:=d 2
      clear d
      by_cases hmw:m < nw
      ·obtain ⟨bw,ow,rfl,hbw,hcw⟩:=HSW.out.cells (by omega)
       have cw:wr.cell? ⟨bw,ow+m,none⟩=some (.int .i64 (e.woken.getD m 0)):=by rw [HB.out.cell (by show bw < w6.heap.size;exact hbw)];exact hcw m hmw
       obtain ⟨x,ex⟩:∃ x,e.woken.getD m 0=x:=⟨_,rfl⟩
       rw [ex] at cw
       have hx:x ∈ e.woken:=by
        have hl:=HSW.out.len
        rw [← ex]
        simp [List.getD,hl,hmw]
       obtain ⟨xn,xy⟩:=HLW.out x hx
       have K1:=In_no A3 n3 C3 q.ready x wr ((HS3.out.below HB.out (Nat.le_refl _)).more HB.out.size) xn
       have K2:=In_yes A6 n6 C6 q'.ready x wr ((HS6.out.below HB.out (Nat.le_refl _)).more HB.out.size) xy
       clear hcw ex hx xn xy d1 d2
       go_wp2_with fail
       refine K1.mono ?_
       rintro e' w8 ⟨rfl,ew8⟩
       subst w8
       go_wp2_with fail
       refine K2.mono ?_
       rintro e' w8 ⟨rfl,ew8⟩
       subst w8
       clear K1 K2
       go_wp2_with fail
       go_roundw
       case rel=>exact ⟨m+1,by omega,by go_num,HB⟩
       case measure=>simp [intOf];omega
      ·have emw:m=nw:=by omega
       have HGR:=HG6.out.with (fun c=>c.below HB.out)
       have HGE:Hid (Goes w wr L q0 q' (j+1) []):=HGR.with (fun c=>c.drop.drop.drop.drop)
       have HC1':=HC1.out wr (Dk.zi HG6.out.cor.out HB.out)
       have hgl:=HGL.out
       clear HGR HLW
       by_cases hg:(e.stopped || e.ended)=true
       ·rw [if_pos hg] at hgl
        have K:=In_no A6 n6 C6 q'.ready x1 wr ((HS6.out.below HB.out (Nat.le_refl _)).more HB.out.size) (HLG.out hg)
        have zz:((n6:Int) != (n3:Int)+(nw:Int) - 1)=false:=by simp;omega
        clear HLG
        cases hs:e.stopped
        ·cases hd:e.ended
         ·rw [hs,hd] at hg;cases hg
         ·rw [hs] at d1
          rw [hd] at d2
          clear hs hd hg
          go_wp2_with fail
          refine K.mono ?_
          rintro e' w8 ⟨rfl,ew8⟩
          subst w8
          clear K
          go_wp2_with fail
          go_roundw
          case rel=>exact ⟨j+1,q',by go_num,HJ.out.1,HJ.out.2,HGE.out,HCQ.out⟩
          case measure=>
           have:=HJ.out
           simp [intOf];omega
        ·rw [hs] at d1
         clear hs hg
         go_wp2_with fail
         refine K.mono ?_
         rintro e' w8 ⟨rfl,ew8⟩
         subst w8
         clear K
         go_wp2_with fail
         go_roundw
         case rel=>exact ⟨j+1,q',by go_num,HJ.out.1,HJ.out.2,HGE.out,HCQ.out⟩
         case measure=>
          have:=HJ.out
          simp [intOf];omega
       ·rw [if_neg hg] at hgl
        have zz:((n6:Int) != (n3:Int)+(nw:Int))=false:=by simp;omega
        have zz2:((n6:Int) != (n3:Int)+(nw:Int) - 0)=false:=by simp;omega
        cases hs:e.stopped
        ·cases hd:e.ended
         ·rw [hs] at d1
          rw [hd] at d2
          clear hs hd hg HLG
          go_wp2_with fail
          go_roundw
          case rel=>exact ⟨j+1,q',by go_num,HJ.out.1,HJ.out.2,HGE.out,HCQ.out⟩
          case measure=>
           have:=HJ.out
           simp [intOf];omega
         ·rw [hs,hd] at hg;exact absurd rfl hg
        ·rw [hs] at hg;exact absurd rfl hg
  ·go_upto_region 5 with fail
   go_cut [29] from 22 to 128 (fun v w'=>v=.bool false∧w'=wr)
   case first=>
    by_cases hl:j < Ln
    ·have y1:decide ((j:Int) < (Ln:Int))=true:=decide_eq_true (by omega)
     have y2:decide ((j:Int) < 100)=false:=decide_eq_false (by omega)
     go_wp2_with fail
     go_meet
     exact ⟨rfl,rfl⟩
    ·have y1:decide ((j:Int) < (Ln:Int))=false:=decide_eq_false (by omega)
     go_wp2_with fail
     go_meet
     exact ⟨rfl,rfl⟩
   case rest=>
    obtain ⟨rfl,hw⟩:=hcut
    subst wc
    have HU:Hid (Below w.heap.size w wr):=hG.cor.out
    clear hG HQ
    go_wp2_with fail
    refine (zh5 wr).mono ?_
    rintro e w1 ⟨rfl,u1⟩
    have HU1:Hid (Below w.heap.size w w1):=Dk.zi HU.out u1
    clear u1
    go_wp2_with fail
    go_ret
    exact ⟨rfl,HU1.out⟩
theorem zgs (s:Dk.Sh) (p:Dk.Prg) (A:Option Addr) (Ln C:Nat) (acts:List (List Int)) (w:World) (hp:Dk.PrgAt w.heap.size w s p) (hr:Dk.Row 3 [] Dk.IsInts w.heap.size w A Ln C acts) :
  Calls Tryz.prog 7 #[Dk.pv s p,.slice A Ln C] w fun e w'=>e=.returned (.bool true)∧Below w.heap.size w w':=by
 by_cases hk:Dk.check p=0
 ·exact zgt s p A Ln C acts w hp hr hk
 ·exact zhx s p A Ln C w hp hk
end Go.Proofs.YtglhhlfopccmaaaGreat
