import Derived.Test.YtglhhlfopccmaaaGreatOq43
set_option linter.unusedSimpArgs false
set_option linter.unusedVariables false
set_option linter.unnecessarySimpa false
set_option maxHeartbeats 8000000
set_option maxRecDepth 100000
namespace Dk
open Go Go.RowKit
structure SlP (B:Nat) (w:World) (A:Option Addr) (L C:Nat) (ps:List (Sh × Prg)):Prop where
 len:ps.length=L
 cap:L≤C
 max:C≤maxLen
 cells:0 < L→∃ b o,A=some ⟨b,o,none⟩∧b < B∧∀ k x,ps[k]? = some x→zbb B w x.1 x.2∧
  w.cell? ⟨b,o+k*8,none⟩=some (.slice x.1.fA x.1.fL x.1.fC)∧w.cell? ⟨b,o+k*8+1,none⟩=some (.int .i64 x.2.words)∧w.cell? ⟨b,o+k*8+2,none⟩=some (.int .i64 x.2.mutexes)∧w.cell? ⟨b,o+k*8+3,none⟩=some (.int .i64 x.2.conds)∧
  w.cell? ⟨b,o+k*8+4,none⟩=some (.slice x.1.sA x.1.sL x.1.sC)∧w.cell? ⟨b,o+k*8+5,none⟩=some (.slice x.1.pA x.1.pL x.1.pC)∧w.cell? ⟨b,o+k*8+6,none⟩=some (.int .i64 x.2.blocks)∧w.cell? ⟨b,o+k*8+7,none⟩=some (.int .i64 x.2.prio)
def zbi:List (Sh × Prg)→Int
 | []=>0
 | x::r=>if check x.2=0 then zbi r else check x.2
end Dk
namespace Go.Proofs.YtglhhlfopccmaaaGreat
open Go.RowKit Go.Lib
theorem infoSpP:(Tryz.prog.info? 27).map (fun i=>(i.zero,i.size,i.bytes))=some (some (.pointer none),1,8):=by kernel_rfl
theorem KSpP:Dk.SlK Tryz.prog 150 27 (.pointer none) 1 8:=⟨Tryz.underlying150,infoSpP,rfl,by decide,by decide⟩
section
variable {W w w' : World} {us : List Dk.zd} {cs : List Dk.Cell} {lev : Nat → Nat}
theorem zpv {B:Nat} (h:Many W w cs (fun _=>0) us) (s:Dk.Sh) (p:Dk.Prg) (hp:Dk.zbb B w s p) (hB:B≤w.heap.size) (hk:Dk.check p=0) :
  Calls Tryz.prog 12 #[Dk.pv s p] w fun e w'=>∃ L:Dk.Loc,e=.returned (.tuple #[.pointer (some ⟨L.b,0,none⟩),.int .i64 0])∧Many W w' (cs++[⟨L,Dk.Sp.fresh p,Dk.Sp.fresh p⟩]) (fun _=>0) us:=by
 obtain ⟨pss,hl,hs,hf⟩:=h
 refine (zmj hs s p hp hB hk).mono ?_
 rintro e w' ⟨L,rfl,hL⟩
 have b:=zqq hp hk
 generalize Dk.Sp.fresh p=q0 at *
 refine ⟨L,rfl,?_⟩
 obtain ⟨ps,s2,fl⟩:=hL.cor.opened
 refine ⟨pss++[ps],by simp [hl],?_,fun i c qs hc hq=>?_⟩
 ·rw [List.flatten_append,List.flatten_singleton,← List.append_assoc]
  exact s2
 ·by_cases hi:i < cs.length
  ·rw [List.getElem?_append_left hi] at hc
   rw [List.getElem?_append_left (by omega)] at hq
   exact hf i c qs hc hq
  ·have hic:=(List.getElem?_eq_some_iff.1 hc).1
   simp at hic
   obtain rfl:i=cs.length:=by omega
   rw [List.getElem?_append_right (by omega),Nat.sub_self] at hc
   rw [List.getElem?_append_right (by omega),show cs.length - pss.length=0 by omega] at hq
   cases hc
   cases hq
   exact ⟨fl,b,hL.life,hL.dims,by have:=hL.recs;omega⟩
theorem NewO_few {A:Option Addr} {L C:Nat} (w:World) (hL:L < 1∨8 < L) (hm:L≤C∧C≤maxLen) :
  Calls Tryz.prog 33 #[.slice A L C] w fun e w'=>e=.returned (.tuple #[.pointer none,.int .i64 1])∧w'=w:=by
 obtain ⟨h1,h2⟩:=hm
 unfold maxLen at h2
 rcases hL with hL | hL
 ·have l1:(L:Int) < 1:=by omega
  go_enter Tryz.func33,Tryz.ntmps33
  go_wp2_with fail
  go_ret2
  exact ⟨rfl,rfl⟩
 ·have l1:¬ (L:Int) < 1:=by omega
  have l2:(8:Int) < (L:Int):=by omega
  go_enter Tryz.func33,Tryz.ntmps33
  go_wp2_with fail
  go_ret2
  exact ⟨rfl,rfl⟩
theorem NewO_t {B:Nat} {A:Option Addr} {L C:Nat} {ps:List (Dk.Sh × Dk.Prg)} (w:World) (h:Dk.SlP B w A L C ps) (hB:B≤w.heap.size) (hL:1≤L∧L≤8) :
  Calls Tryz.prog 33 #[.slice A L C] w fun e w'=>(Dk.zbi ps≠0∧e=.returned (.tuple #[.pointer none,.int .i64 (Dk.zbi ps)])∧Below w.heap.size w w')∨(Dk.zbi ps=0∧∃ b cs,e=.returned (.tuple #[.pointer (some ⟨b,0,none⟩),.int .i64 0])∧OneM w w' b cs (fun _=>0) []∧cs.map Dk.Cell.q=ps.map (fun x=>Dk.Sp.fresh x.2)∧cs.map Dk.Cell.q0=ps.map (fun x=>Dk.Sp.fresh x.2)):=by
 obtain ⟨W1,e1⟩:∃ W1,W1=w.alloc (.cells #[.slice none 0 0] 152):=⟨_,rfl⟩
 have s1:=((Dk.Sep.begin (Below.refl w.heap.size w)).zb e1).nil 27 1
 have m1:Many w W1 [] (fun _=>0) (Dk.ze w.heap.size #[.slice none 0 0] 152::Dk.rowOf 27 1 (.slice none 0 0) 0 []::[]):=Many.begin (s1.perm (List.Perm.swap _ _ _))
 have o1:OneM w W1 w.heap.size [] (fun _=>0) []:=⟨.slice none 0 0,m1⟩
 have H1:Hid _:=e1.symm
 have HO:Hid (OneM w W1 w.heap.size [] (fun _=>0) []):=o1
 have HP:Hid (Dk.SlP B w A L C ps):=h
 have HB:Hid (B≤w.heap.size):=hB
 have hcap:=h.cap
 have hmax:=h.max
 unfold maxLen at hmax
 obtain ⟨l1,l2⟩:=hL
 have l3:¬ (L:Int) < 1:=by omega
 have l4:¬ (8:Int) < (L:Int):=by omega
 clear e1 s1 m1 o1 h hB
 go_enter Tryz.func33,Tryz.ntmps33
 go_wp2_with (rw [H1.out];clear H1)
 have HS1:Hid (Below w.heap.size w W1):=HO.out.out
 go_loopw [21] (fun i w'=>∃ (j:Nat) (cs:List Dk.Cell),i=.int .i64 j∧j≤L∧Hid (Dk.zbi ps=Dk.zbi (ps.drop j))∧OneM w w' w.heap.size cs (fun _=>0) []∧Hid (cs.map Dk.Cell.q=(ps.take j).map (fun x=>Dk.Sp.fresh x.2))∧Hid (cs.map Dk.Cell.q0=(ps.take j).map (fun x=>Dk.Sp.fresh x.2))) (fun i w'=>L - (intOf i).toNat)
 case atStart=>exact ⟨0,[],rfl,by omega,rfl,HO.out,rfl,rfl⟩
 case round=>
  obtain ⟨j,cs,rfl,hj,hbad,hO,hq,hq0⟩:=hrel
  clear HO
  by_cases hlt:j < L
  ·have hlp:j < ps.length:=by rw [HP.out.len];exact hlt
   obtain ⟨x,hx⟩:∃ x,ps[j]? = some x:=⟨_,List.getElem?_eq_getElem hlp⟩
   have ed:ps.drop j=x::ps.drop (j+1):=by
    rw [List.drop_eq_getElem_cons hlp]
    rw [List.getElem?_eq_getElem hlp] at hx
    cases hx
    rfl
   have et:(ps.take (j+1)).map (fun x=>Dk.Sp.fresh x.2)=(ps.take j).map (fun x=>Dk.Sp.fresh x.2)++[Dk.Sp.fresh x.2]:=by
    rw [List.take_add_one,hx,List.map_append]
    rfl
   obtain ⟨b,o,ea,hb,hc⟩:=HP.out.cells (by omega)
   obtain ⟨hp,k0,k1,k2,k3,k4,k5,k6,k7⟩:=hc j x hx
   have u0:=hO.out
   have hB':=HB.out
   have hjc:cs.length=j:=by
    have h1:=congrArg List.length hq.out
    simp at h1
    omega
   obtain ⟨v,hM⟩:=hO
   obtain ⟨A1,C1,ev,_,_⟩:=Dk.zf (hM.row (e:=27) (s:=1) (v:=v) (m:=cs.length) (xs:=cs.map Dk.Cell.ptr) (by simp))
   subst ev
   obtain ⟨s,p⟩:=x
   have SB:∀ w',Below w.heap.size w w'→w'.cell? ⟨b,o+j*8,none⟩=some (.slice s.fA s.fL s.fC)∧w'.cell? ⟨b,o+j*8+1,none⟩=some (.int .i64 p.words)∧w'.cell? ⟨b,o+j*8+2,none⟩=some (.int .i64 p.mutexes)∧w'.cell? ⟨b,o+j*8+3,none⟩=some (.int .i64 p.conds)∧
     w'.cell? ⟨b,o+j*8+4,none⟩=some (.slice s.sA s.sL s.sC)∧w'.cell? ⟨b,o+j*8+5,none⟩=some (.slice s.pA s.pL s.pC)∧w'.cell? ⟨b,o+j*8+6,none⟩=some (.int .i64 p.blocks)∧w'.cell? ⟨b,o+j*8+7,none⟩=some (.int .i64 p.prio):=fun w' u=>by
    have hbw:b < w.heap.size:=by omega
    exact ⟨(u.cell hbw).trans k0,(u.cell hbw).trans k1,(u.cell hbw).trans k2,(u.cell hbw).trans k3,(u.cell hbw).trans k4,(u.cell hbw).trans k5,(u.cell hbw).trans k6,(u.cell hbw).trans k7⟩
   have i1:(j:Int) < (L:Int):=by omega
   have hbad':Dk.zbi ps=if Dk.check p=0 then Dk.zbi (ps.drop (j+1)) else Dk.check p:=by
    have h1:=hbad.out
    rw [ed] at h1
    exact h1
   have HJ:Hid (j+1≤L):=hlt
   have HET:Hid _:=et
   have HCJ:Hid (cs.length=j):=hjc
   have hcn:cs.length≤8:=by omega
   have hpr:=hp.below u0 hB'
   have hBr:B≤wr.heap.size:=Nat.le_trans hB' u0.size
   obtain ⟨c0,c1,c2,c3,c4,c5,c6,c7⟩:=SB wr u0
   obtain ⟨W2,e2⟩:∃ W2,W2=wr.alloc (.cells #[.slice s.fA s.fL s.fC,.int .i64 p.words,.int .i64 p.mutexes,.int .i64 p.conds,.slice s.sA s.sL s.sC,.slice s.pA s.pL s.pC,.int .i64 p.blocks,.int .i64 p.prio] 25):=⟨_,rfl⟩
   have u2:Below wr.heap.size wr W2:=by rw [e2];exact Dk.zc (Below.refl _ _) _
   have hM2:=hM.zb e2
   have hp2:=hpr.below u2 hBr
   have hB2:B≤W2.heap.size:=Nat.le_trans hBr u2.size
   have cb:=(hM2.box (a:=wr.heap.size) (ce:=#[.slice s.fA s.fL s.fC,.int .i64 p.words,.int .i64 p.mutexes,.int .i64 p.conds,.slice s.sA s.sL s.sC,.slice s.pA s.pL s.pC,.int .i64 p.blocks,.int .i64 p.prio]) (e:=25) (by simp)).cell
   have H2:Hid _:=e2.symm
   by_cases hk:Dk.check p=0
   ·have K:=zpv hM2 s p hp2 hB2 hk
    rw [if_pos hk] at hbad'
    have HBD:Hid _:=hbad'
    generalize hnn:cs.length=n at *
    clear k0 k1 k2 k3 k4 k5 k6 k7 hc hx hp ed et hM u0 hjc hM2 hp2 hB2 hk e2 u2 hpr hBr hbad hbad' SB hB' hb hlt hlp
    subst ea
    go_wp2_with (rw [H2.out];clear H2)
    refine K.mono ?_
    rintro e w3 ⟨M,rfl,hM3⟩
    clear K cb c0 c1 c2 c3 c4 c5 c6 c7
    obtain ⟨pss,hl,hs,hf⟩:=hM3.drop
    obtain ⟨v',w4,hrun,h4,_⟩:=Dk.Sep.zcu (us1:=[Dk.ze w.heap.size #[.slice A1 n C1] 152]) (us2:=pss.flatten) KSpP hs [.pointer (some ⟨M.b,0,none⟩)] rfl (by simp [Value.oneCell']) (by omega)
    obtain ⟨A2,C2,ev',_,_⟩:=Dk.zf (h4.row (e:=27) (s:=1) (v:=v') (n:=n+1) (xs:=cs.map Dk.Cell.ptr++[.pointer (some ⟨M.b,0,none⟩)]) (by simp))
    subst ev'
    have b4:Dk.Box w4 w.heap.size #[.slice A1 n C1] 152:=h4.box (by simp)
    have d4:w4.cell? ⟨w.heap.size,0,none⟩=some (.slice A1 n C1):=b4.cell 0
    have f4:=b4.frozen 0
    have d3:w3.cell? ⟨w.heap.size,0,none⟩=some (.slice A1 n C1):=(hs.box (b:=w.heap.size) (cs:=#[.slice A1 n C1]) (t:=152) (by simp)).cell 0
    have h5:=Dk.Sep.zao (us1:=[]) (o:=0) h4 (.slice A2 (n+1) C2)
    have hO':OneM w (w4.setCell ⟨w.heap.size,0,none⟩ (.slice A2 (n+1) C2)) w.heap.size (cs++[⟨M,Dk.Sp.fresh p,Dk.Sp.fresh p⟩]) (fun _=>0) []:=by
     refine ⟨.slice A2 (n+1) C2,pss,hl,?_,hf⟩
     rw [List.length_append,List.map_append,hnn]
     exact h5
    have HO':Hid _:=hO'
    clear hO' h5 h4 b4 hf hs hl hM3
    go_wp2_with (at_builtin;refine Lib.wpList_append_run _ rfl _ _ _ _ rfl _ _ rfl rfl _ _ hrun ?_)
    go_roundw
    case rel=>exact ⟨j+1,_,by go_num,HJ.out,HBD.out,HO'.out,by rw [HET.out,List.map_append,hq.out];rfl,by rw [HET.out,List.map_append,hq0.out];rfl⟩
    case measure=>
     have:=HJ.out
     simp [intOf];omega
   ·have K:=NewC_no s p W2 hp2 hB2 hk
    rw [if_neg hk] at hbad'
    have HU:Hid (Below w.heap.size w W2):=hM2.out
    have hne:(Dk.check p != 0)=true:=by simp [hk]
    have HBD:Hid _:=hbad'
    have HK:Hid _:=hk
    clear k0 k1 k2 k3 k4 k5 k6 k7 hc hx hp ed et hM u0 hjc hM2 hp2 hB2 hk e2 u2 hpr hBr hbad hbad' SB hB' hb hlt hlp
    generalize Dk.check p=z at *
    subst ea
    go_wp2_with (rw [H2.out];clear H2)
    refine K.mono ?_
    rintro e w3 ⟨rfl,u3⟩
    clear K cb c0 c1 c2 c3 c4 c5 c6 c7
    go_wp2_with fail
    go_ret2
    have e1:=HBD.out
    exact Or.inl ⟨by rw [e1];exact HK.out,by rw [e1];rfl,Dk.zr HU.out u3⟩
  ·obtain rfl:j=L:=by omega
   have z1:decide ((j:Int) < (j:Int))=false:=decide_eq_false (by omega)
   have e1:ps.take j=ps:=List.take_of_length_le (by have:=HP.out.len;omega)
   have e2:ps.drop j=[]:=List.drop_of_length_le (by have:=HP.out.len;omega)
   have hq':=hq.out
   have hq0':=hq0.out
   have hbad':=hbad.out
   rw [e1] at hq' hq0'
   rw [e2] at hbad'
   have HF:Hid (Dk.zbi ps=0∧∃ cs,OneM w wr w.heap.size cs (fun _=>0) []∧cs.map Dk.Cell.q=ps.map (fun x=>Dk.Sp.fresh x.2)∧cs.map Dk.Cell.q0=ps.map (fun x=>Dk.Sp.fresh x.2)):=⟨hbad',cs,hO,hq',hq0'⟩
   clear hq hq0 hbad hO hq' hq0' hbad' e1 e2
   go_wp2_with fail
   go_ret2
   obtain ⟨hz,cs',hO',hq',hq0'⟩:=HF.out
   exact Or.inr ⟨hz,_,cs',rfl,hO',hq',hq0'⟩
end
end Go.Proofs.YtglhhlfopccmaaaGreat
namespace Dk
open Go Go.RowKit
def owP:Prg:=⟨[[⟨32,1,0,0,0⟩]],0,0,0,[],[],0,0⟩
def ow0:Sp:=Sp.fresh owP
def ow1:Sp:=(ow0.run 0 0).1
theorem ow_check:check owP=0:=by decide +kernel
theorem ow_run:(ow0.run 0 0).2.2=0:=by decide +kernel
theorem ow_end:(ow0.tick.1).recs.length=0∧(ow1.tick.1).recs.length=1∧(ow1.tick.1).ready=[0]:=by decide +kernel
theorem owI_ok:∀ i ∈ ([⟨32,1,0,0,0⟩]:List Ins),i.ok:=by
 intro i hi
 simp at hi
 subst hi
 exact ⟨by unfold i64;decide,by unfold i64;decide,by unfold i64;decide,by unfold i64;decide,by decide⟩
def owS (n:Nat):Sh:=⟨some ⟨n,0,none⟩,1,1,none,0,0,none,0,0⟩
theorem owBad (s s':Sh):zbi [(s,owP),(s',owP)]=0:=by simp [zbi,ow_check]
theorem map_two {α β:Type} {f:α→β} {xs:List α} {a b:β} (h:xs.map f=[a,b]):∃ x y,xs=[x,y]∧f x=a∧f y=b:=by
 match xs,h with
 | [x,y],h=>simp at h;exact ⟨x,y,rfl,h.1,h.2⟩
end Dk
namespace Go.Proofs.YtglhhlfopccmaaaGreat
open Go.RowKit Go.Lib
theorem ow_prg (B n:Nat) (w:World) (hB:n+1 < B) (h1:∀ o,w.cell? ⟨n,o,none⟩=(#[.int .i64 32,.int .i64 1,.int .i64 0,.int .i64 0,.int .u64 0]:Array Value)[o]?)
  (h2:∀ o,w.cell? ⟨n+1,o,none⟩=(#[.slice (some ⟨n,0,none⟩) 1 1]:Array Value)[o]?):Dk.zbb B w (Dk.owS (n+1)) Dk.owP:=by
 have z:Dk.i64 0:=by unfold Dk.i64;decide
 refine ⟨⟨rfl,Nat.le_refl _,by unfold maxLen;show 1≤_;decide,fun _=>⟨n+1,0,rfl,hB,fun k hk=>?_⟩⟩,⟨rfl,Nat.le_refl _,Nat.zero_le _,by simp [Dk.owP],fun h=>absurd h (Nat.lt_irrefl 0)⟩,⟨rfl,Nat.le_refl _,Nat.zero_le _,by simp [Dk.owP],fun h=>absurd h (Nat.lt_irrefl 0)⟩,z,z,z,z,z⟩
 have hk0:k=0:=by have:k < 1:=hk;omega
 subst hk0
 refine ⟨some ⟨n,0,none⟩,1,1,by rw [h2];rfl,rfl,Nat.le_refl _,by unfold maxLen;decide,Dk.owI_ok,fun _=>⟨n,0,rfl,by omega,fun j hj=>?_⟩⟩
 match j,hj with
 | 0,_=>exact ⟨h1 _,h1 _,h1 _,h1 _,h1 _⟩
theorem zhk (w:World):Calls Tryz.prog 34 #[] w fun e w'=>e=.returned (.bool true)∧Below w.heap.size w w':=by
 obtain ⟨W1,e1⟩:∃ W1,W1=w.alloc (.cells #[.int .i64 32,.int .i64 1,.int .i64 0,.int .i64 0,.int .u64 0] 112):=⟨_,rfl⟩
 obtain ⟨W2,e2⟩:∃ W2,W2=W1.alloc (.cells #[.slice (some ⟨w.heap.size,0,none⟩) 1 1] 123):=⟨_,rfl⟩
 obtain ⟨W3,e3⟩:∃ W3,W3=W2.alloc (.cells #[.slice (some ⟨w.heap.size+1,0,none⟩) 1 1,.int .i64 0,.int .i64 0,.int .i64 0,.slice none 0 0,.slice none 0 0,.int .i64 0,.int .i64 0] 25):=⟨_,rfl⟩
 obtain ⟨W4,e4⟩:∃ W4,W4=W3.alloc (.cells #[.slice (some ⟨w.heap.size+1,0,none⟩) 1 1,.int .i64 0,.int .i64 0,.int .i64 0,.slice none 0 0,.slice none 0 0,.int .i64 0,.int .i64 0,.slice (some ⟨w.heap.size+1,0,none⟩) 1 1,.int .i64 0,.int .i64 0,.int .i64 0,.slice none 0 0,.slice none 0 0,.int .i64 0,.int .i64 0] 25):=⟨_,rfl⟩
 have z1:W1.heap.size=w.heap.size+1:=by rw [e1];simp
 have z2:W2.heap.size=w.heap.size+1+1:=by rw [e2];simp [z1]
 have z3:W3.heap.size=w.heap.size+1+1+1:=by rw [e3];simp [z2]
 have z4:W4.heap.size=w.heap.size+1+1+1+1:=by rw [e4];simp [z3]
 have s3:=(((Dk.Sep.begin (Below.refl w.heap.size w)).zb e1).zb e2).zb e3
 have s4:=s3.zb e4
 rw [z1,z2] at s3
 rw [z1,z2,z3] at s4
 have d3:=(s3.box (b:=w.heap.size+1+1) (cs:=#[.slice (some ⟨w.heap.size+1,0,none⟩) 1 1,.int .i64 0,.int .i64 0,.int .i64 0,.slice none 0 0,.slice none 0 0,.int .i64 0,.int .i64 0]) (t:=25) (by simp)).cell
 have d1:=(s4.box (b:=w.heap.size) (cs:=#[.int .i64 32,.int .i64 1,.int .i64 0,.int .i64 0,.int .u64 0]) (t:=112) (by simp)).cell
 have d2:=(s4.box (b:=w.heap.size+1) (cs:=#[.slice (some ⟨w.heap.size,0,none⟩) 1 1]) (t:=123) (by simp)).cell
 have d4:=(s4.box (b:=w.heap.size+1+1+1) (cs:=#[.slice (some ⟨w.heap.size+1,0,none⟩) 1 1,.int .i64 0,.int .i64 0,.int .i64 0,.slice none 0 0,.slice none 0 0,.int .i64 0,.int .i64 0,.slice (some ⟨w.heap.size+1,0,none⟩) 1 1,.int .i64 0,.int .i64 0,.int .i64 0,.slice none 0 0,.slice none 0 0,.int .i64 0,.int .i64 0]) (t:=25) (by simp)).cell
 have hp:Dk.zbb W4.heap.size W4 (Dk.owS (w.heap.size+1)) Dk.owP:=ow_prg _ _ _ (by omega) d1 d2
 have hS:Dk.SlP W4.heap.size W4 (some ⟨w.heap.size+1+1+1,0,none⟩) 2 2 [(Dk.owS (w.heap.size+1),Dk.owP),(Dk.owS (w.heap.size+1),Dk.owP)]:=by
  refine ⟨rfl,Nat.le_refl _,by unfold maxLen;decide,fun _=>⟨_,0,rfl,by omega,fun k x hx=>?_⟩⟩
  match k,hx with
  | 0,hx=>cases hx;exact ⟨hp,d4 _,d4 _,d4 _,d4 _,d4 _,d4 _,d4 _,d4 _⟩
  | 1,hx=>cases hx;exact ⟨hp,d4 _,d4 _,d4 _,d4 _,d4 _,d4 _,d4 _,d4 _⟩
 have K:=NewO_t W4 hS (Nat.le_refl _) ⟨by omega,by omega⟩
 rw [Dk.owBad] at K
 have HU:Hid (Below w.heap.size w W4):=s4.out
 have H1:Hid _:=e1.symm
 have H2:Hid _:=e2.symm
 have H3:Hid _:=e3.symm
 have H4:Hid _:=e4.symm
 clear e1 e2 e3 e4 s3 s4 z4 d1 d2 d4 hp hS
 go_enter Tryz.func34,Tryz.ntmps34
 go_wp2_with (first | (rw [H1.out];clear H1) | (rw [H2.out];clear H2) | (rw [H3.out];clear H3) | (rw [H4.out];clear H4))
 refine K.mono ?_
 rintro e w5 (⟨hz,_⟩ | ⟨_,b,cs,rfl,hO,hq,_⟩)
 ·exact absurd rfl hz
 obtain ⟨c0,c1,rfl,q0,q1⟩:=Dk.map_two hq
 have q0':c0.q=Dk.ow0:=q0
 have q1':c1.q=Dk.ow0:=q1
 clear K hq q0 q1 d3 z1 z2 z3
 have K:=zji hO 0 0 1 c1 rfl (by omega) (i64_of _ (by omega))
 have K':Calls Tryz.prog 36 #[.pointer (some ⟨b,0,none⟩),.agg #[.int .i64 1,.int .i64 1,.int .i64 0,.int .i64 0]] w5 fun e w'=>e=.returned (.int .i64 0)∧OneM W4 w' b [c0,c1.go Dk.ow1] (Dk.upd (fun _=>0) 1 1) []:=by
  rw [q1',Dk.ow_run] at K
  exact K
 clear K hO
 go_wp2_with fail
 refine K'.mono ?_
 rintro e w6 ⟨rfl,hO⟩
 clear K'
 have K:=zmg hO 2 0 0 (.inr (by simp))
 go_wp2_with fail
 refine K.mono ?_
 rintro e w7 ⟨rfl,hO7⟩
 clear K hO
 have hlev:∀ i,Dk.upd (fun _=>0) 1 1 i≤1:=fun i=>by unfold Dk.upd;split <;> simp
 have K:=DoTick hO7 9 0 0 (fun i=>by have:=hlev i;omega) (by simp)
 obtain ⟨f0,f1,f2⟩:=Dk.ow_end
 obtain ⟨a0,ha0⟩:∃ a,a=c0.tick:=⟨_,rfl⟩
 obtain ⟨a1,ha1⟩:∃ a,a=(c1.go Dk.ow1).tick:=⟨_,rfl⟩
 have g0:a0.q.recs.length=0:=by rw [ha0];unfold Dk.Cell.tick Dk.Cell.go;rw [q0'];exact f0
 have g1:a1.q.recs.length=1:=by rw [ha1];exact f1
 have g2:a1.q.ready=[0]:=by rw [ha1];exact f2
 have K':Calls Tryz.prog 36 #[.pointer (some ⟨b,0,none⟩),.agg #[.int .i64 3,.int .i64 9,.int .i64 0,.int .i64 0]] w7 fun e w'=>e=.returned (.int .i64 0)∧OneM W4 w' b [a0,a1] (fun i=>Dk.upd (fun _=>0) 1 1 i+1) []:=by
  rw [ha0,ha1]
  exact K
 clear K hO7 ha0 ha1 f0 f1 f2 q0' q1'
 go_wp2_with fail
 refine K'.mono ?_
 rintro e w8 ⟨rfl,hO⟩
 clear K'
 have K:=zdf hO (k:=0) (c:=a0) rfl (by have:=hlev 0;omega)
 rw [g0] at K
 generalize a0.q.recs.flatMap Dk.Rec.cells=x0 at K
 go_wp2_with fail
 refine K.mono ?_
 rintro e w9 ⟨A9,C9,rfl,h9⟩
 clear K hO
 have K:=zdf h9 (k:=1) (c:=a1) rfl (by have:=hlev 1;omega)
 rw [g1] at K
 generalize a1.q.recs.flatMap Dk.Rec.cells=x1 at K
 go_wp2_with fail
 refine K.mono ?_
 rintro e w10 ⟨A10,C10,rfl,h10⟩
 clear K h9
 have K:=zhi h10 (k:=1) (c:=a1) rfl
 rw [g2] at K
 go_wp2_with fail
 refine K.mono ?_
 rintro e w11 ⟨A11,C11,rfl,h11⟩
 clear K h10
 have o11:=h11.row (e:=3) (s:=1) (v:=.slice A11 1 C11) (m:=1) (xs:=Dk.is [0]) (by simp)
 obtain ⟨A8,C8,ev8,q8⟩:=Dk.zck (xs:=[0]) o11 (by simp [Dk.i64])
 injection ev8 with ea2 eb2 ec2
 subst ea2 ec2
 have q8':Dk.SlI w11.heap.size w11 A11 1 C11 [0]:=q8
 obtain ⟨w13,e13⟩:∃ w13,w13=w11.alloc (.cells #[.int .i64 0] 3):=⟨_,rfl⟩
 have u13:Below w11.heap.size w11 w13:=by rw [e13];exact Dk.zc (Below.refl _ _) _
 have K13:=zjk A11 (some ⟨w11.heap.size,0,none⟩) 1 C11 1 [0] w13 ((q8'.below u13 (Nat.le_refl _)).more u13.size) (lit_one w11 w13 0 (i64_of _ (by omega)) e13)
 have H13:Hid _:=e13.symm
 have HU13:Hid (Below W4.heap.size W4 w13):=Dk.zr h11.out u13
 clear e13 u13 o11 q8 q8' eb2 h11
 go_wp2_with (rw [H13.out];clear H13)
 refine K13.mono ?_
 rintro e w14 ⟨rfl,u14⟩
 have u15:=Dk.zr HU.out (Dk.zr HU13.out u14)
 have HU15:Hid (Below w.heap.size w w14):=u15
 clear u14 u15 K13
 go_wp2_with fail
 go_ret
 exact ⟨rfl,HU15.out⟩
end Go.Proofs.YtglhhlfopccmaaaGreat
namespace Dk
open Go Go.RowKit Go.Deep Go.ChangeShapes Go.WideShapes
def IsPrg (w:World) (vs:List Value) (x:Sh × Prg):Prop:=zbb w.heap.size w x.1 x.2∧vs=[.slice x.1.fA x.1.fL x.1.fC,.int .i64 x.2.words,.int .i64 x.2.mutexes,.int .i64 x.2.conds,.slice x.1.sA x.1.sL x.1.sC,.slice x.1.pA x.1.pL x.1.pC,.int .i64 x.2.blocks,.int .i64 x.2.prio]
theorem row_slp {w:World} {d:Sh × Prg} {A:Option Addr} {L C:Nat} {xs:List (Sh × Prg)} (h:Row 8 d (IsPrg w) w.heap.size w A L C xs):SlP w.heap.size w A L C xs:=by
 refine ⟨h.len,h.cap,h.max,fun h0=>?_⟩
 obtain ⟨b,o,e,hb,hc⟩:=h.cells h0
 refine ⟨b,o,e,hb,fun k x hx=>?_⟩
 have hk:k < L:=by rw [← h.len];exact (List.getElem?_eq_some_iff.1 hx).1
 obtain ⟨vs,_,hR,h3⟩:=hc k hk
 have ex:xs.getD k d=x:=by rw [List.getD_eq_getElem?_getD,hx];rfl
 rw [ex] at hR
 obtain ⟨hp,rfl⟩:=hR
 exact ⟨hp,h3 0 (by omega),h3 1 (by omega),h3 2 (by omega),h3 3 (by omega),h3 4 (by omega),h3 5 (by omega),h3 6 (by omega),h3 7 (by omega)⟩
section
variable {H : Type} {enc : TypeId × Value → H} {P : Go.Program} {w : World} {held : Bool}
theorem el_prg {t tF tS tN tI tU tX:TypeId} {g0 g1 g2 g3 g4 g5 g6 g7 f0 f1 f2 f3 f4:Field} (ht:P.underlying t=some (.struct #[g0,g1,g2,g3,g4,g5,g6,g7])) (ct:P.cellsOf t=8)
  (hF:P.underlying tF=some (.slice tS)) (cF:P.cellsOf tF=1) (cS:P.cellsOf tS=1) (hS:P.underlying tS=some (.slice tN)) (hN:P.underlying tN=some (.struct #[f0,f1,f2,f3,f4])) (cN:P.cellsOf tN=5)
  (hI:P.underlying tI=some (.int .i64)) (hU:P.underlying tU=some (.int .u64)) (cI:P.cellsOf tI=1) (cU:P.cellsOf tU=1) (hX:P.underlying tX=some (.slice tI)) (cX:P.cellsOf tX=1)
  (z0:g0.type=tF∧g0.offset=0) (z1:g1.type=tI∧g1.offset=1) (z2:g2.type=tI∧g2.offset=2) (z3:g3.type=tI∧g3.offset=3) (z4:g4.type=tX∧g4.offset=4) (z5:g5.type=tX∧g5.offset=5) (z6:g6.type=tI∧g6.offset=6) (z7:g7.type=tI∧g7.offset=7)
  (y0:f0.type=tI∧f0.offset=0) (y1:f1.type=tI∧f1.offset=1) (y2:f2.type=tI∧f2.offset=2) (y3:f3.type=tI∧f3.offset=3) (y4:f4.type=tU∧f4.offset=4):∀ fuel cs (x:DataW H × List MemPlace),DataW.trod enc P w 0 (fun _=>true) held fuel t cs=some x→∃ a,IsPrg w cs a:=by
 intro fuel cs x h
 obtain ⟨xs,n,_,_,hl,hxl,hf⟩:=DataW.trod_struct ht h
 rw [ct] at hl
 match cs,hl,xs,hxl with
 | [v0,v1,v2,v3,v4,v5,v6,v7],_,[x0,x1,x2,x3,x4,x5,x6,x7],_=>
  have k0:=hf 0 g0 rfl
  have k1:=hf 1 g1 rfl
  have k2:=hf 2 g2 rfl
  have k3:=hf 3 g3 rfl
  have k4:=hf 4 g4 rfl
  have k5:=hf 5 g5 rfl
  have k6:=hf 6 g6 rfl
  have k7:=hf 7 g7 rfl
  rw [z0.1,z0.2,cF] at k0
  rw [z1.1,z1.2,cI] at k1
  rw [z2.1,z2.2,cI] at k2
  rw [z3.1,z3.2,cI] at k3
  rw [z4.1,z4.2,cX] at k4
  rw [z5.1,z5.2,cX] at k5
  rw [z6.1,z6.2,cI] at k6
  rw [z7.1,z7.2,cI] at k7
  simp at k0 k1 k2 k3 k4 k5 k6 k7
  obtain ⟨A,L,C,fs,e0,hfs⟩:=openF hF cS hS hN hI hU cI cU cN y0 y1 y2 y3 y4 k0
  obtain ⟨m1,e1,_,w1⟩:=DataW.trod_int hI k1
  obtain ⟨m2,e2,_,w2⟩:=DataW.trod_int hI k2
  obtain ⟨m3,e3,_,w3⟩:=DataW.trod_int hI k3
  obtain ⟨A4,L4,C4,xs4,e4,h4⟩:=openI hX hI cI k4
  obtain ⟨A5,L5,C5,xs5,e5,h5⟩:=openI hX hI cI k5
  obtain ⟨m6,e6,_,w6⟩:=DataW.trod_int hI k6
  obtain ⟨m7,e7,_,w7⟩:=DataW.trod_int hI k7
  simp at e0 e1 e2 e3 e4 e5 e6 e7
  exact ⟨(⟨A,L,C,A4,L4,C4,A5,L5,C5⟩,⟨fs,m1,m2,m3,xs4,xs5,m6,m7⟩),⟨hfs,h4,h5,wf_i64 w1,wf_i64 w2,wf_i64 w3,wf_i64 w6,wf_i64 w7⟩,by rw [e0,e1,e2,e3,e4,e5,e6,e7]⟩
end
open Go Go.RowKit
theorem set_at {cs:List Cell} {i:Nat} {c c':Cell} (hc:cs[i]? = some c):(cs.set i c')[i]? = some c':=List.getElem?_set_self (List.getElem?_eq_some_iff.1 hc).1
theorem doM_len (cs:List Cell) (ak asp ath ach:Int):(doM cs ak asp ath ach).1.length=cs.length:=by
 unfold doM
 repeat' split
 all_goals simp
theorem zpu (cs:List Cell) (n:Int):(n < 0∨(cs.length:Int)≤n)∨∃ (k:Nat) (c:Cell),n=k∧cs[k]? = some c:=by
 by_cases h:n < 0∨(cs.length:Int)≤n
 ·exact Or.inl h
 ·exact Or.inr ⟨n.toNat,cs[n.toNat]'(by omega),by omega,List.getElem?_eq_getElem (by omega)⟩
end Dk
namespace Go.Proofs.YtglhhlfopccmaaaGreat
open Go.RowKit Go.Lib
section
variable {W w w' : World} {b j : Nat} {lev : Nat → Nat} {cs : List Dk.Cell} {us us' : List Dk.zd}
theorem OneM.nil (h:OneM W w b cs lev us) (e:TypeId) (s:Nat):OneM W w b cs lev (Dk.rowOf e s (.slice none 0 0) 0 []::us):=h.with fun _ _ s'=>s'.nil e s
theorem OneM.h16 (h:OneM W w b cs lev us):∀ c ∈ cs,c.q.st.length=16:=fun c hc=>by
 obtain ⟨i,hi⟩:=List.getElem?_of_mem hc
 obtain ⟨rest,hG,hB,_⟩:=h.at hi
 rw [hG.dims.sl]
 exact hB.h16
theorem DoO_any (h:OneM W w b cs (fun _=>j) us) (hj:j≤149) (h8:cs.length≤8) (ak asp ath ach:Int) (i2:Dk.i64 ach):Calls Tryz.prog 36 #[.pointer (some ⟨b,0,none⟩),.agg #[.int .i64 ak,.int .i64 asp,.int .i64 ath,.int .i64 ach]] w fun e w'=>e=.returned (.int .i64 (Dk.doM cs ak asp ath ach).2)∧OneM W w' b (Dk.doM cs ak asp ath ach).1 (fun _=>j+1) us:=by
 have up:∀ (w':World) cs',OneM W w' b cs' (fun _=>j) us→OneM W w' b cs' (fun _=>j+1) us:=fun w' cs' h=>h.le (fun _=>by omega)
 by_cases h1:ak=1
 ·subst h1
  rcases Dk.zpu cs asp with hn | ⟨k,c,rfl,hc⟩
  ·have e:Dk.doM cs 1 asp ath ach=(cs,1):=by
    unfold Dk.doM
    rw [if_pos rfl]
    by_cases h0:asp < 0
    ·rw [if_pos h0]
    ·rw [if_neg h0,List.getElem?_eq_none (by omega)]
   rw [e]
   refine (zmg h asp ath ach hn).mono ?_
   rintro e w' ⟨rfl,h'⟩
   exact ⟨rfl,up _ _ h'⟩
  ·have e:Dk.doM cs 1 (k:Int) ath ach=(cs.set k (c.go (c.q.run ath ach).1),(c.q.run ath ach).2.2):=by
    unfold Dk.doM
    rw [if_pos rfl,if_neg (by omega),show ((k:Nat):Int).toNat=k by omega,hc]
   rw [e]
   refine (zji h ath ach k c hc (by omega) i2).mono ?_
   rintro e w' ⟨rfl,h'⟩
   exact ⟨rfl,h'.le (upd_le (fun _=>Nat.le_refl _))⟩
 by_cases h2:ak=2
 ·subst h2
  rcases Dk.zpu cs asp with hn | ⟨k,c,rfl,hc⟩
  ·have e:Dk.doM cs 2 asp ath ach=(cs,1):=by
    unfold Dk.doM
    rw [if_neg (by decide),if_pos rfl]
    by_cases h0:asp < 0
    ·rw [if_pos h0]
    ·rw [if_neg h0,List.getElem?_eq_none (by omega)]
   rw [e]
   refine (zpi h asp ath ach hn).mono ?_
   rintro e w' ⟨rfl,h'⟩
   exact ⟨rfl,up _ _ h'⟩
  ·have e:Dk.doM cs 2 (k:Int) ath ach=(cs.set k (c.go (c.q.done ach).1),(c.q.done ach).2.2):=by
    unfold Dk.doM
    rw [if_neg (by decide),if_pos rfl,if_neg (by omega),show ((k:Nat):Int).toNat=k by omega,hc]
   rw [e]
   refine (znt h ath ach k c hc (by omega) i2).mono ?_
   rintro e w' ⟨rfl,h'⟩
   exact ⟨rfl,h'.le (upd_le (fun _=>Nat.le_refl _))⟩
 by_cases h3:ak=3
 ·subst h3
  have e:Dk.doM cs 3 asp ath ach=(cs.map Dk.Cell.tick,0):=rfl
  rw [e]
  exact DoTick h asp ath ach (fun _=>by omega) h8
 ·have e:Dk.doM cs ak asp ath ach=(cs,1):=by
   unfold Dk.doM
   rw [if_neg h1,if_neg h2,if_neg h3]
  rw [e]
  refine (DoOther h ak asp ath ach h1 h2 h3).mono ?_
  rintro e w' ⟨rfl,h'⟩
  exact ⟨rfl,up _ _ h'⟩
end
end Go.Proofs.YtglhhlfopccmaaaGreat
namespace Dk
open Go Go.RowKit
theorem zqf {B:Nat} {w:World} {A:Option Addr} {L C:Nat} {ac:List (List Int)} (h:Row 4 [] zjl B w A L C ac) (h0:0 < L):∃ b o,A=some ⟨b,o,none⟩∧b < B∧∀ k,k < L→∃ x0 x1 x2 x3,(i64 x0∧i64 x1∧i64 x2∧i64 x3)∧w.cell? ⟨b,o+k*4,none⟩=some (.int .i64 x0)∧w.cell? ⟨b,o+k*4+1,none⟩=some (.int .i64 x1)∧w.cell? ⟨b,o+k*4+2,none⟩=some (.int .i64 x2)∧w.cell? ⟨b,o+k*4+3,none⟩=some (.int .i64 x3):=by
 obtain ⟨b,o,e,hb,hc⟩:=h.cells h0
 refine ⟨b,o,e,hb,fun k hk=>?_⟩
 obtain ⟨vs,h1,⟨rfl,h2⟩,h3⟩:=hc k hk
 match hm:ac.getD k [],h1,h2,h3 with
 | [x0,x1,x2,x3],_,h2,h3=>exact ⟨x0,x1,x2,x3,⟨h2 x0 (by simp),h2 x1 (by simp),h2 x2 (by simp),h2 x3 (by simp)⟩,h3 0 (by omega),h3 1 (by omega),h3 2 (by omega),h3 3 (by omega)⟩
theorem zel:∀ {ps:List (Sh × Prg)},zbi ps=0→∀ x ∈ ps,check x.2=0
 | [],_,x,hx=>by simp at hx
 | y::r,h,x,hx=>by
  unfold zbi at h
  by_cases hy:check y.2=0
  ·rw [if_pos hy] at h
   rcases List.mem_cons.1 hx with rfl | hx
   ·exact hy
   ·exact zel h x hx
  ·rw [if_neg hy] at h
   exact absurd h hy
theorem permA {α:Type} (x y:α) (u p F:List α):((x::y::(u++p))++F).Perm ((u++(x::y::F))++p):=by
 classical
 refine List.perm_iff_count.2 fun a=>?_
 simp only [List.count_cons,List.count_append]
 omega
def zl6 (q:Sp) (k ak asp ath ach:Int):Sp:=if ak=3 then q.tick.1 else if asp=k then (if ak=1 then (q.run ath ach).1 else if ak=2 then (q.done ach).1 else q) else q
theorem doM_at {cs:List Cell} {k:Nat} {c:Cell} (hc:cs[k]? = some c) (ak asp ath ach:Int):∃ c',(doM cs ak asp ath ach).1[k]? = some c'∧c'.q=zl6 c.q k ak asp ath ach:=by
 unfold doM zl6
 by_cases h1:ak=1
 ·subst h1
  rw [if_pos rfl,if_neg (show ¬ (1:Int)=3 by decide)]
  by_cases h0:asp < 0
  ·rw [if_pos h0,if_neg (by omega)]
   exact ⟨c,hc,rfl⟩
  ·rw [if_neg h0]
   by_cases hk:asp=k
   ·subst hk
    rw [if_pos rfl,if_pos rfl,show ((k:Nat):Int).toNat=k by omega,hc]
    exact ⟨_,set_at hc,rfl⟩
   ·rw [if_neg hk]
    cases hd:cs[asp.toNat]? with
    | none=>exact ⟨c,hc,rfl⟩
    | some d=>exact ⟨c,by show (cs.set _ _)[k]? = _;rw [List.getElem?_set_ne (by omega)];exact hc,rfl⟩
 rw [if_neg h1]
 by_cases h2:ak=2
 ·subst h2
  rw [if_pos rfl,if_neg (show ¬ (2:Int)=3 by decide),if_neg (show ¬ (2:Int)=1 by decide),if_pos rfl]
  by_cases h0:asp < 0
  ·rw [if_pos h0,if_neg (by omega)]
   exact ⟨c,hc,rfl⟩
  ·rw [if_neg h0]
   by_cases hk:asp=k
   ·subst hk
    rw [if_pos rfl,show ((k:Nat):Int).toNat=k by omega,hc]
    exact ⟨_,set_at hc,rfl⟩
   ·rw [if_neg hk]
    cases hd:cs[asp.toNat]? with
    | none=>exact ⟨c,hc,rfl⟩
    | some d=>exact ⟨c,by show (cs.set _ _)[k]? = _;rw [List.getElem?_set_ne (by omega)];exact hc,rfl⟩
 rw [if_neg h2]
 by_cases h3:ak=3
 ·rw [if_pos h3,if_pos h3]
  exact ⟨c.go c.q.tick.1,by show (cs.map _)[k]? = _;rw [List.getElem?_map,hc];rfl,rfl⟩
 ·rw [if_neg h3,if_neg h3,if_neg h1,if_neg h2]
  exact ⟨c,hc,by split <;> rfl⟩
end Dk
namespace Go.Proofs.YtglhhlfopccmaaaGreat
open Go.RowKit Go.Lib
def Apart (W w:World) (b:Nat) (cs:List Dk.Cell) (lev:Nat→Nat) (e:Dk.Cell) (je:Nat) (us:List Dk.zd):Prop:=∃ ps,OneM W w b cs lev (us++ps)∧zpo W je e ps
section
variable {W w w' : World} {b je : Nat} {lev : Nat → Nat} {cs : List Dk.Cell} {e : Dk.Cell} {us us' : List Dk.zd}
theorem Apart.out (h:Apart W w b cs lev e je us):Below W.heap.size W w:=by
 obtain ⟨ps,hO,_⟩:=h
 exact hO.out
theorem Apart.with (h:Apart W w b cs lev e je us) (f:∀ ps,OneM W w b cs lev (us++ps)→OneM W w' b cs lev (us'++ps)):Apart W w' b cs lev e je us':=by
 obtain ⟨ps,hO,F⟩:=h
 exact ⟨ps,f ps hO,F⟩
theorem Apart.below (h:Apart W w b cs lev e je us) (u:Below w.heap.size w w'):Apart W w' b cs lev e je us:=h.with fun _ o=>o.below u
theorem Apart.drop {t:Dk.zd} (h:Apart W w b cs lev e je (t::us)):Apart W w b cs lev e je us:=h.with fun ps o=>OneM.drop (us:=us++ps) o
theorem Apart.zb {ce:Array Value} {t:TypeId} (h:Apart W w b cs lev e je us) (ew:w'=w.alloc (.cells ce t)):Apart W w' b cs lev e je (Dk.ze w.heap.size ce t::us):=h.with fun ps o=>OneM.zb (us:=us++ps) o ew
theorem Apart.box {a:Nat} {ce:Array Value} {t:TypeId} (h:Apart W w b cs lev e je us) (ht:Dk.ze a ce t ∈ us):Dk.Box w a ce t:=by
 obtain ⟨ps,hO,_⟩:=h
 exact hO.box (List.mem_append_left _ ht)
theorem Apart.row {t:TypeId} {s m:Nat} {v:Value} {xs:List Value} (h:Apart W w b cs lev e je us) (ht:Dk.rowOf t s v m xs ∈ us):w.ownsRow W.heap.size t s v m xs:=by
 obtain ⟨ps,hO,_⟩:=h
 exact hO.row (List.mem_append_left _ ht)
theorem Apart.at (h:Apart W w b cs lev e je us):∃ rest,Goes W w e.L e.q0 e.q je (us++rest)∧Dk.Born e.q0∧
  (∀ w' us' q',Goes W w' e.L e.q0 q' (je+1) (us'++rest)→Apart W w' b cs lev (e.go q') (je+1) us')∧(∀ w' us',Goes W w' e.L e.q0 e.q je (us'++rest)→Apart W w' b cs lev e je us'):=by
 obtain ⟨ps,⟨v,pss,hl,s,hf⟩,F⟩:=h
 refine ⟨Dk.ze b #[v] 152::Dk.rowOf 27 1 v cs.length (cs.map Dk.Cell.ptr)::pss.flatten,⟨F.lies _ _ (s.perm (Dk.permA _ _ us ps _)),F.life,F.dims,F.recs⟩,F.born,fun w' us' q' hG=>?_,fun w' us' hG=>?_⟩
 ·obtain ⟨ps',s',f'⟩:=hG.cor.opened
  exact ⟨ps',⟨v,pss,hl,s'.perm (Dk.permA _ _ us' ps' _).symm,hf⟩,⟨f',F.born,hG.life,hG.dims,hG.recs⟩⟩
 ·obtain ⟨ps',s',f'⟩:=hG.cor.opened
  exact ⟨ps',⟨v,pss,hl,s'.perm (Dk.permA _ _ us' ps' _).symm,hf⟩,⟨f',F.born,hG.life,hG.dims,hG.recs⟩⟩
theorem zny {B:Nat} (h:OneM W w b cs lev us) (s:Dk.Sh) (p:Dk.Prg) (hp:Dk.zbb B w s p) (hB:B≤w.heap.size) (hk:Dk.check p=0) :
  Calls Tryz.prog 12 #[Dk.pv s p] w fun r w'=>∃ L:Dk.Loc,r=.returned (.tuple #[.pointer (some ⟨L.b,0,none⟩),.int .i64 0])∧Apart W w' b cs lev ⟨L,Dk.Sp.fresh p,Dk.Sp.fresh p⟩ 0 us:=by
 obtain ⟨v,pss,hl,hs,hf⟩:=h
 refine (zmj hs s p hp hB hk).mono ?_
 rintro r w' ⟨L,rfl,hL⟩
 have bn:=zqq hp hk
 generalize Dk.Sp.fresh p=q0 at *
 obtain ⟨ps,s2,fl⟩:=hL.cor.opened
 refine ⟨L,rfl,ps,⟨v,pss,hl,s2.perm ?_,hf⟩,⟨fl,bn,hL.life,hL.dims,by have:=hL.recs;omega⟩⟩
 classical
 refine List.perm_iff_count.2 fun a=>?_
 simp only [List.count_cons,List.count_append]
 omega
theorem zpw {A:Option Addr} {L C:Nat} {ps:List (Dk.Sh × Dk.Prg)} (w:World) (h:Dk.SlP w.heap.size w A L C ps) :
  Calls Tryz.prog 33 #[.slice A L C] w fun e w'=>(∃ z:Int,z≠0∧e=.returned (.tuple #[.pointer none,.int .i64 z])∧Below w.heap.size w w')∨(∃ b cs,e=.returned (.tuple #[.pointer (some ⟨b,0,none⟩),.int .i64 0])∧OneM w w' b cs (fun _=>0) []∧cs.length=L∧L≤8∧1≤L∧cs.map Dk.Cell.q=ps.map (fun x=>Dk.Sp.fresh x.2)∧∀ x ∈ ps,Dk.check x.2=0):=by
 by_cases hL:1≤L∧L≤8
 ·refine (NewO_t w h (Nat.le_refl _) hL).mono ?_
  rintro e w' (⟨hz,rfl,hb⟩ | ⟨hz,b,cs,rfl,hO,hq,hq0⟩)
  ·exact Or.inl ⟨_,hz,rfl,hb⟩
  ·have e:=congrArg List.length hq
   rw [List.length_map,List.length_map,h.len] at e
   exact Or.inr ⟨b,cs,rfl,hO,e,hL.2,hL.1,hq,Dk.zel hz⟩
 ·refine (NewO_few w (by omega) ⟨h.cap,h.max⟩).mono ?_
  rintro e w' ⟨rfl,rfl⟩
  exact Or.inl ⟨1,by decide,rfl,Below.refl _ _⟩
end
section
variable {W w w' : World} {b je j : Nat} {lev lev' : Nat → Nat} {cs : List Dk.Cell} {x : Dk.Cell} {us us' : List Dk.zd}
theorem Apart.le (h:Apart W w b cs lev x je us) {je':Nat} (hj:je≤je'):Apart W w b cs lev x je' us:=by
 obtain ⟨ps,hO,F⟩:=h
 exact ⟨ps,hO,F.le hj⟩
theorem runA (h:Apart W w b cs lev x je us) (hj:je≤150) (slot ch:Int) (hch:Dk.i64 ch):Calls Tryz.prog 28 #[.pointer (some ⟨x.L.b,0,none⟩),.int .i64 slot,.int .i64 ch] w fun e w'=>∃ r,e=.returned r∧Apart W w' b cs lev (x.go (x.q.run slot ch).1) (je+1) us:=by
 obtain ⟨rest,hG,hB,h1,_⟩:=h.at
 refine (znh hG hB hj slot ch hch).mono ?_
 rintro e w' ⟨A,C,rfl,h'⟩
 exact ⟨_,rfl,(h1 w' (_::us) _ h').drop⟩
theorem doneA (h:Apart W w b cs lev x je us) (hj:je≤150) (ch:Int) (hch:Dk.i64 ch):Calls Tryz.prog 29 #[.pointer (some ⟨x.L.b,0,none⟩),.int .i64 ch] w fun e w'=>∃ r,e=.returned r∧Apart W w' b cs lev (x.go (x.q.done ch).1) (je+1) us:=by
 obtain ⟨rest,hG,hB,h1,_⟩:=h.at
 refine (zj2 hG hB hj ch hch).mono ?_
 rintro e w' ⟨A,C,rfl,h'⟩
 exact ⟨_,rfl,(h1 w' (_::us) _ h').drop⟩
theorem tickA (h:Apart W w b cs lev x je us) (hj:je≤150):Calls Tryz.prog 30 #[.pointer (some ⟨x.L.b,0,none⟩)] w fun e w'=>∃ r,e=.returned r∧Apart W w' b cs lev (x.go x.q.tick.1) (je+1) us:=by
 obtain ⟨rest,hG,hB,h1,_⟩:=h.at
 refine (zkt hG hB hj).mono ?_
 rintro e w' ⟨A,C,rfl,h'⟩
 exact ⟨_,rfl,(h1 w' (_::us) _ h').drop⟩
theorem recsA (h:Apart W w b cs lev x je us) (hj:je≤150):Calls Tryz.prog 25 #[.pointer (some ⟨x.L.b,0,none⟩)] w fun e w'=>∃ A C,e=.returned (.slice A x.q.recs.length C)∧Apart W w' b cs lev x je (Dk.rowOf 74 6 (.slice A x.q.recs.length C) x.q.recs.length (x.q.recs.flatMap Dk.Rec.cells)::us):=by
 obtain ⟨rest,hG,hB,_,h2⟩:=h.at
 refine (zfk hG hj).mono ?_
 rintro e w' ⟨A,C,rfl,h'⟩
 exact ⟨A,C,rfl,h2 w' (_::us) h'⟩
theorem memA (h:Apart W w b cs lev x je us):Calls Tryz.prog 27 #[.pointer (some ⟨x.L.b,0,none⟩)] w fun e w'=>∃ A C,e=.returned (.slice A x.q.mem.length C)∧Apart W w' b cs lev x je (Dk.rowOf 38 1 (.slice A x.q.mem.length C) x.q.mem.length (Dk.uwK x.q.mem)::us):=by
 obtain ⟨rest,hG,hB,_,h2⟩:=h.at
 refine (zgi hG hB).mono ?_
 rintro e w' ⟨A,C,rfl,h'⟩
 exact ⟨A,C,rfl,h2 w' (_::us) h'⟩
theorem readyA (h:Apart W w b cs lev x je us):Calls Tryz.prog 22 #[.pointer (some ⟨x.L.b,0,none⟩)] w fun e w'=>∃ A C,e=.returned (.slice A x.q.ready.length C)∧Apart W w' b cs lev x je (Dk.rowOf 3 1 (.slice A x.q.ready.length C) x.q.ready.length (Dk.is x.q.ready)::us):=by
 obtain ⟨rest,hG,hB,_,h2⟩:=h.at
 refine (zhq hG hB).mono ?_
 rintro e w' ⟨A,C,rfl,h'⟩
 exact ⟨A,C,rfl,h2 w' (_::us) h'⟩
theorem RecsOA (h:Apart W w b cs lev x je us) (hl:∀ i,lev i≤150) {k:Nat} {c:Dk.Cell} (hc:cs[k]? = some c):Calls Tryz.prog 38 #[.pointer (some ⟨b,0,none⟩),.int .i64 (k:Int)] w fun e w'=>∃ A C,e=.returned (.slice A c.q.recs.length C)∧Apart W w' b cs lev x je (Dk.rowOf 74 6 (.slice A c.q.recs.length C) c.q.recs.length (c.q.recs.flatMap Dk.Rec.cells)::us):=by
 obtain ⟨ps,hO,F⟩:=h
 refine (zdf hO hc (hl k)).mono ?_
 rintro e w' ⟨A,C,rfl,h'⟩
 exact ⟨A,C,rfl,ps,h',F⟩
theorem MemOA (h:Apart W w b cs lev x je us) {k:Nat} {c:Dk.Cell} (hc:cs[k]? = some c):Calls Tryz.prog 39 #[.pointer (some ⟨b,0,none⟩),.int .i64 (k:Int)] w fun e w'=>∃ A C,e=.returned (.slice A c.q.mem.length C)∧Apart W w' b cs lev x je (Dk.rowOf 38 1 (.slice A c.q.mem.length C) c.q.mem.length (Dk.uwK c.q.mem)::us):=by
 obtain ⟨ps,hO,F⟩:=h
 refine (zk2 hO hc).mono ?_
 rintro e w' ⟨A,C,rfl,h'⟩
 exact ⟨A,C,rfl,ps,h',F⟩
theorem ReadyOA (h:Apart W w b cs lev x je us) {k:Nat} {c:Dk.Cell} (hc:cs[k]? = some c):Calls Tryz.prog 40 #[.pointer (some ⟨b,0,none⟩),.int .i64 (k:Int)] w fun e w'=>∃ A C,e=.returned (.slice A c.q.ready.length C)∧Apart W w' b cs lev x je (Dk.rowOf 3 1 (.slice A c.q.ready.length C) c.q.ready.length (Dk.is c.q.ready)::us):=by
 obtain ⟨ps,hO,F⟩:=h
 refine (zhi hO hc).mono ?_
 rintro e w' ⟨A,C,rfl,h'⟩
 exact ⟨A,C,rfl,ps,h',F⟩
theorem DoOA (h:Apart W w b cs (fun _=>j) x je us) (hj:j≤149) (h8:cs.length≤8) (ak asp ath ach:Int) (i2:Dk.i64 ach):Calls Tryz.prog 36 #[.pointer (some ⟨b,0,none⟩),.agg #[.int .i64 ak,.int .i64 asp,.int .i64 ath,.int .i64 ach]] w fun e w'=>e=.returned (.int .i64 (Dk.doM cs ak asp ath ach).2)∧Apart W w' b (Dk.doM cs ak asp ath ach).1 (fun _=>j+1) x je us:=by
 obtain ⟨ps,hO,F⟩:=h
 refine (DoO_any hO hj h8 ak asp ath ach i2).mono ?_
 rintro e w' ⟨rfl,h'⟩
 exact ⟨rfl,ps,h',F⟩
end
theorem zjn {A A':Option Addr} {L C Ln C':Nat} {ps:List (Dk.Sh × Dk.Prg)} {acts:List (List Int)} (n:Nat) (hn:n < 256) (w:World) (hp:Dk.SlP w.heap.size w A L C ps) (hr:Dk.Row 4 [] Dk.zjl w.heap.size w A' Ln C' acts) :
  Calls Tryz.prog 9 #[.slice A L C,.slice A' Ln C',.int .u8 (n:Nat)] w fun e w'=>e=.returned (.bool true)∧Below w.heap.size w w':=by
 have K:=zpw w hp
 have HR:Hid (Dk.Row 4 [] Dk.zjl w.heap.size w A' Ln C' acts):=hr
 have HP:Hid (Dk.SlP w.heap.size w A L C ps):=hp
 have hcap:=hr.cap
 have hmax:=hr.max
 have hcap2:=hp.cap
 have hmax2:=hp.max
 unfold maxLen at hmax hmax2
 clear hp hr
 go_enter Tryz.func9,Tryz.ntmps9
 go_wp2_with fail
 refine K.mono ?_
 rintro e w1 (⟨z,hz,rfl,u1⟩ | ⟨b,cs0,rfl,hO,hcl,h8,h1L,hq,hck⟩)
 ·have hz':(z != 0)=true:=by simp [hz]
  have HU:Hid (Below w.heap.size w w1):=u1
  clear K u1
  go_wp2_with fail
  refine (zhk w1).mono ?_
  rintro e w2 ⟨rfl,u2⟩
  have HU2:Hid (Below w.heap.size w w2):=Dk.zr HU.out u2
  clear u2
  go_wp2_with fail
  go_ret
  exact ⟨rfl,HU2.out⟩
 ·have l1:¬ (L:Int)=0:=by omega
  have l2:decide ((L:Int)=0)=false:=by simp;omega
  have l3:((L:Int) == 0)=false:=by simp;omega
  obtain ⟨kk,hkk,hkL⟩:∃ kk:Nat,(n:Int) % (L:Int)=(kk:Int)∧kk < L:=⟨n % L,by simp,Nat.mod_lt _ (by omega)⟩
  obtain ⟨bb,o,rfl,hb,hc⟩:=HP.out.cells (by omega)
  obtain ⟨⟨s,p⟩,hx⟩:∃ x,ps[kk]? = some x:=⟨_,List.getElem?_eq_getElem (by rw [HP.out.len];exact hkL)⟩
  obtain ⟨hpr,k0,k1,k2,k3,k4,k5,k6,k7⟩:=hc kk _ hx
  have u0:=hO.out
  rw [← u0.cell (by show bb < _;exact hb)] at k0 k1 k2 k3 k4 k5 k6 k7
  have K2:=zny hO s p (hpr.below u0 (Nat.le_refl _)) u0.size (hck _ (List.mem_of_getElem? hx))
  obtain ⟨c0,hc0,hcq⟩:∃ c,cs0[kk]? = some c∧c.q=Dk.Sp.fresh p:=by
   have e:=congrArg (fun l=>l[kk]?) hq
   simp only [List.getElem?_map,hx] at e
   cases h:cs0[kk]? with
   | none=>rw [h] at e;cases e
   | some c=>rw [h] at e;exact ⟨c,rfl,Option.some.inj e⟩
  have i1:(kk:Int) < (L:Int):=by omega
  have i2:(0:Int)≤(kk:Int):=by omega
  have H80:Hid (cs0.length≤8):=by show _≤_;omega
  have HC0:Hid (cs0[kk]? = some c0):=hc0
  have HQ0:Hid (Dk.Sp.fresh p=c0.q):=hcq.symm
  clear K hO hcl hq hck hc hx hpr u0 hc0 hcq HP
  go_wp2_with fail
  refine K2.mono ?_
  rintro e w2 ⟨M,rfl,hA0⟩
  have HA0:Hid (Apart w w2 b cs0 (fun _=>0) ⟨M,Dk.Sp.fresh p,Dk.Sp.fresh p⟩ 0 []):=hA0
  clear K2 hA0 k0 k1 k2 k3 k4 k5 k6 k7
  generalize Dk.Sp.fresh p=q0 at *
  go_wp2_with fail
  go_loopw [12] (fun i w'=>∃ (j:Nat) (cs:List Dk.Cell) (x c:Dk.Cell),i=.int .i64 j∧j≤Ln∧j≤150∧Hid (cs.length≤8)∧Hid (cs[kk]? = some c)∧Hid (x.q=c.q)∧Hid (x.L.b=M.b)∧Apart w w' b cs (fun _=>j) x j []) (fun i w'=>Ln - (intOf i).toNat)
  case atStart=>exact ⟨0,cs0,⟨M,q0,q0⟩,c0,rfl,Nat.zero_le _,by omega,H80,HC0,HQ0,rfl,HA0.out⟩
  case round=>
   obtain ⟨j,cs,x,c,rfl,hj,hj2,h8,hc,hxq,hxL,hA⟩:=hrel
   clear HA0 H80 HC0 HQ0
   by_cases hlt:j < Ln∧j < 150
   ·obtain ⟨hlt,hl2⟩:=hlt
    obtain ⟨bb,o,rfl,hb,hac⟩:=Dk.zqf HR.out (by omega)
    obtain ⟨x0,x1,x2,x3,⟨_,_,_,i3⟩,c0,c1,c2,c3⟩:=hac j hlt
    have uT:=hA.out
    rw [← uT.cell (by show bb < _;exact hb)] at c0 c1 c2 c3
    have HJ:Hid (j+1≤Ln∧j+1≤150):=⟨hlt,hl2⟩
    have m1:(j:Int) < (Ln:Int):=by omega
    have m2:(j:Int) < 150:=by omega
    have m3:(0:Int)≤(j:Int):=by omega
    obtain ⟨W2,e2⟩:∃ W2,W2=wr.alloc (.cells #[.int .i64 x0,.int .i64 x1,.int .i64 x2,.int .i64 x3] 88):=⟨_,rfl⟩
    have h2:=hA.zb e2
    have cb:=(h2.box (a:=wr.heap.size) (ce:=#[.int .i64 x0,.int .i64 x1,.int .i64 x2,.int .i64 x3]) (t:=88) (by simp)).cell
    have K3:=DoOA h2 (by omega) h8.out x0 x1 x2 x3 i3
    have H2:Hid _:=e2.symm
    have hl:=Dk.doM_len cs x0 x1 x2 x3
    obtain ⟨c',hc',hq'⟩:=Dk.doM_at hc.out x0 x1 x2 x3
    have h9:=h8.out
    generalize Dk.doM cs x0 x1 x2 x3=pr at *
    obtain ⟨cs',z⟩:=pr
    dsimp only at hl K3 hc'
    have HL:Hid (cs'.length≤8):=by show _≤_;omega
    have HI3:Hid (Dk.i64 x3):=i3
    clear hac uT hA e2 h2 hl h9 h8 hc i3
    go_wp2_with (rw [H2.out];clear H2)
    refine K3.mono ?_
    rintro e w3 ⟨rfl,h3⟩
    clear K3 cb c0 c1 c2 c3
    have c3:=(h3.box (a:=wr.heap.size) (ce:=#[.int .i64 x0,.int .i64 x1,.int .i64 x2,.int .i64 x3]) (t:=88) (by simp)).cell
    by_cases hk3:x0=3
    ·subst hk3
     have K4:=tickA h3 (by omega)
     rw [hxL.out] at K4
     go_wp2_with fail
     refine K4.mono ?_
     rintro e w4 ⟨r,rfl,h4⟩
     clear K4
     have HE:Hid (Apart w _ b cs' (fun _=>j+1) (x.go x.q.tick.1) (j+1) []):=(h4).drop
     have HQ:Hid ((x.go x.q.tick.1).q=c'.q):=by
      show x.q.tick.1=c'.q
      rw [hq',hxq.out]
      unfold Dk.zl6
      simp [*]
     clear hq' h3 c3
     go_wp2_with fail
     go_roundw
     case rel=>exact ⟨j+1,cs',x.go x.q.tick.1,c',by go_num,HJ.out.1,HJ.out.2,HL.out,hc',HQ.out,hxL,HE.out⟩
     case measure=>
      have:=HJ.out
      simp [intOf];omega
    have z1:(x0 == 3)=false:=by simp [hk3]
    have z2:decide (x0=3)=false:=by simp [hk3]
    by_cases hx1:x1=(kk:Int)
    ·subst hx1
     have n1:((kk:Int) != (kk:Int))=false:=by simp
     have n2:decide ((kk:Int)=(kk:Int))=true:=by simp
     by_cases hk1:x0=1
     ·subst hk1
      have K4:=runA h3 (by omega) x2 x3 HI3.out
      rw [hxL.out] at K4
      go_wp2_with fail
      refine K4.mono ?_
      rintro e w4 ⟨r,rfl,h4⟩
      clear K4
      have HE:Hid (Apart w _ b cs' (fun _=>j+1) (x.go (x.q.run x2 x3).1) (j+1) []):=(h4).drop
      have HQ:Hid ((x.go (x.q.run x2 x3).1).q=c'.q):=by
       show (x.q.run x2 x3).1=c'.q
       rw [hq',hxq.out]
       unfold Dk.zl6
       simp [*]
      clear hq' h3 c3
      go_wp2_with fail
      go_roundw
      case rel=>exact ⟨j+1,cs',x.go (x.q.run x2 x3).1,c',by go_num,HJ.out.1,HJ.out.2,HL.out,hc',HQ.out,hxL,HE.out⟩
      case measure=>
       have:=HJ.out
       simp [intOf];omega
     by_cases hk2:x0=2
     ·subst hk2
      have K4:=doneA h3 (by omega) x3 HI3.out
      rw [hxL.out] at K4
      go_wp2_with fail
      refine K4.mono ?_
      rintro e w4 ⟨r,rfl,h4⟩
      clear K4
      have HE:Hid (Apart w _ b cs' (fun _=>j+1) (x.go (x.q.done x3).1) (j+1) []):=(h4).drop
      have HQ:Hid ((x.go (x.q.done x3).1).q=c'.q):=by
       show (x.q.done x3).1=c'.q
       rw [hq',hxq.out]
       unfold Dk.zl6
       simp [*]
      clear hq' h3 c3
      go_wp2_with fail
      go_roundw
      case rel=>exact ⟨j+1,cs',x.go (x.q.done x3).1,c',by go_num,HJ.out.1,HJ.out.2,HL.out,hc',HQ.out,hxL,HE.out⟩
      case measure=>
       have:=HJ.out
       simp [intOf];omega
     have y1:(x0 == 1)=false:=by simp [hk1]
     have y2:decide (x0=1)=false:=by simp [hk1]
     have y3:(x0 == 2)=false:=by simp [hk2]
     have y4:decide (x0=2)=false:=by simp [hk2]
     have HE:Hid (Apart w _ b cs' (fun _=>j+1) (x) (j+1) []):=(h3.le (Nat.le_succ j)).drop
     have HQ:Hid ((x).q=c'.q):=by
      show x.q=c'.q
      rw [hq',hxq.out]
      unfold Dk.zl6
      simp [*]
     clear hq' h3
     go_wp2_with fail
     go_roundw
     case rel=>exact ⟨j+1,cs',x,c',by go_num,HJ.out.1,HJ.out.2,HL.out,hc',HQ.out,hxL,HE.out⟩
     case measure=>
      have:=HJ.out
      simp [intOf];omega
    ·have n1:(x1 != (kk:Int))=true:=by simp [hx1]
     have n2:decide (x1=(kk:Int))=false:=by simp [hx1]
     have HE:Hid (Apart w _ b cs' (fun _=>j+1) (x) (j+1) []):=(h3.le (Nat.le_succ j)).drop
     have HQ:Hid ((x).q=c'.q):=by
      show x.q=c'.q
      rw [hq',hxq.out]
      unfold Dk.zl6
      simp [*]
     clear hq' h3
     go_wp2_with fail
     go_roundw
     case rel=>exact ⟨j+1,cs',x,c',by go_num,HJ.out.1,HJ.out.2,HL.out,hc',HQ.out,hxL,HE.out⟩
     case measure=>
      have:=HJ.out
      simp [intOf];omega
   ·have HA:Hid (Apart w wr b cs (fun _=>j) x j []):=hA
    have fin:(¬ ((j:Int) < (Ln:Int)))∨((j:Int) < (Ln:Int)∧¬ ((j:Int) < 150)):=by omega
    clear hA h8
    rcases fin with m1 | ⟨m1,m2⟩
    all_goals
     go_wp2_with fail
     refine (zhk wr).mono ?_
     rintro e w3 ⟨rfl,u3⟩
     have K:=RecsOA (HA.out.below u3) (fun _=>hj2) hc.out
     clear u3 HA
     go_wp2_with fail
     refine K.mono ?_
     rintro e w4 ⟨A4,C4,rfl,h4⟩
     have K':=recsA h4 hj2
     rw [hxL.out,hxq.out] at K'
     clear K h4
     go_wp2_with fail
     refine K'.mono ?_
     rintro e w5 ⟨A5,C5,rfl,h5⟩
     have K:=Same_yes A4 A5 c.q.recs.length C4 C5 c.q.recs w5 (Dk.SlC.ziw (e:=74) (h5.row (by simp))) (Dk.SlC.ziw (e:=74) (h5.row (by simp)))
     have HT5:Hid (Apart w w5 b cs (fun _=>j) x j []):=h5.drop.drop
     clear K' h5
     generalize c.q.recs.length=nr at *
     go_wp2_with fail
     refine K.mono ?_
     rintro e w6 ⟨rfl,u6⟩
     have K':=MemOA (HT5.out.below u6) hc.out
     clear u6 HT5 K
     go_wp2_with fail
     refine K'.mono ?_
     rintro e w7 ⟨A7,C7,rfl,h7⟩
     have K:=memA h7
     rw [hxL.out,hxq.out] at K
     clear K' h7
     go_wp2_with fail
     refine K.mono ?_
     rintro e w8 ⟨A8,C8,rfl,h8⟩
     have K':=zqe A7 A8 c.q.mem.length C7 C8 c.q.mem w8 (Dk.SlC.ziw (e:=38) (h8.row (by simp))) (Dk.SlC.ziw (e:=38) (h8.row (by simp)))
     have HT8:Hid (Apart w w8 b cs (fun _=>j) x j []):=h8.drop.drop
     clear K h8
     generalize c.q.mem.length=nm at *
     go_wp2_with fail
     refine K'.mono ?_
     rintro e w9 ⟨rfl,u9⟩
     have K:=ReadyOA (HT8.out.below u9) hc.out
     clear u9 HT8 K'
     go_wp2_with fail
     refine K.mono ?_
     rintro e w10 ⟨A10,C10,rfl,h10⟩
     have K':=readyA h10
     rw [hxL.out,hxq.out] at K'
     clear K h10
     go_wp2_with fail
     refine K'.mono ?_
     rintro e w11 ⟨A11,C11,rfl,h11⟩
     have K:=zjk A10 A11 c.q.ready.length C10 C11 c.q.ready w11 (sli_of (e:=3) (h11.row (by simp)) Dk.zkn) (sli_of (e:=3) (h11.row (by simp)) Dk.zkn)
     have HU:Hid (Below w.heap.size w w11):=h11.out
     clear K' h11
     generalize c.q.ready.length=ny at *
     go_wp2_with fail
     refine K.mono ?_
     rintro e wa ⟨rfl,ua⟩
     have HUA:Hid (Below w.heap.size w wa):=Dk.zr HU.out ua
     clear ua K
     go_wp2_with fail
     go_ret
     exact ⟨rfl,HUA.out⟩
end Go.Proofs.YtglhhlfopccmaaaGreat
namespace Dk
open Go Go.RowKit
theorem wf_u8 {x:Int} (h:(Lit.int .u8 x).wf=true):∃ a:Nat,x=a∧a < 256:=by
 simp [Lit.wf,IntKind.min,IntKind.max,IntKind.signed,IntKind.bits] at h
 exact ⟨x.toNat,by omega,by omega⟩
end Dk
