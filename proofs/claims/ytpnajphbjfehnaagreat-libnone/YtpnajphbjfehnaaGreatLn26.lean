import Derived.Test.YtpnajphbjfehnaaGreatLn25
set_option linter.unusedSimpArgs false
set_option linter.unusedVariables false
set_option linter.unnecessarySimpa false
set_option maxHeartbeats 8000000
set_option maxRecDepth 100000
namespace Go.Proofs.YtpnajphbjfehnaaGreat
open Go.RowKit Go.Lib
section
variable {W w w' : World} {us : List Dk.Thing}
def cp (v:Value):Array Value:=#[v,.int .i64 0,.int .i64 0,.int .i64 0,.slice none 0 0,.slice none 0 0,.int .i64 0,.int .i64 0]
def inner (ps:List (Value × List Dk.Ins)):List Dk.Thing:=Dk.inners 75 5 insCells ps
theorem zht (ps:List (Value × List Dk.Ins)) (p:Value × List Dk.Ins):inner (ps++[p])=inner ps++[Dk.rowOf 75 5 p.1 p.2.length (insCells p.2)]:=by
 unfold inner Dk.inners
 rw [List.map_append]
 rfl
theorem cp_alls (A:Option Addr) (n C:Nat):(cp (.slice A n C)).all (·.oneCell')=true:=by simp [cp,Value.oneCell']
theorem sizePrg:(Tryz.prog.info? 25).map (·.size)=some 8:=by kernel_rfl
theorem codeOf_t {B:Nat} (s:Dk.Sh) (p:Dk.Prg) (w:World) (hp:Dk.PrgAt B w s p) (hB:B≤w.heap.size) (hn:p.funcs.length≤8) (hc:∀ c ∈ p.funcs,c.length≤256) :
  Calls Tryz.prog 36 #[Dk.pv s p] w fun e w'=>∃ A C vs,e=.returned (.agg (cp (.slice A p.funcs.length C)))∧Dk.Sep w w' [Dk.nestOf 71 75 5 insCells (.slice A p.funcs.length C) vs p.funcs]:=by
 obtain ⟨W1,e1⟩:∃ W1,W1=w.alloc (.cells #[.slice s.fA s.fL s.fC,.int .i64 p.words,.int .i64 p.mutexes,.int .i64 p.conds,.slice s.sA s.sL s.sC,.slice s.pA s.pL s.pC,.int .i64 p.blocks,.int .i64 p.prio] 25):=⟨_,rfl⟩
 obtain ⟨W2,e2⟩:∃ W2,W2=W1.alloc (.cells (cp (.slice none 0 0)) 25):=⟨_,rfl⟩
 obtain ⟨W3,e3⟩:∃ W3,W3=W2.alloc (.cells (cp (.slice none 0 0)) 25):=⟨_,rfl⟩
 have s3:Dk.Sep w W3 [Dk.boxOf W2.heap.size (cp (.slice none 0 0)) 25,Dk.boxOf W1.heap.size (cp (.slice none 0 0)) 25,Dk.boxOf w.heap.size _ 25]:=(((Dk.Sep.begin (Below.refl _ _)).newBox e1).newBox e2).newBox e3
 have hf:=hp.funcs
 have hfl:=hf.len
 have u3:=s3.out
 generalize hfs:p.funcs=fs at *
 obtain ⟨fA,fL,fC,sA,sL,sC,pA,pL,pC⟩:=s
 dsimp only at hf hfl e1 s3
 have HN:Hid (fs.length≤8):=hn
 have HC:Hid (∀ c ∈ fs,c.length≤256):=hc
 have b1:Dk.Box W3 w.heap.size #[.slice fA fL fC,.int .i64 p.words,.int .i64 p.mutexes,.int .i64 p.conds,.slice sA sL sC,.slice pA pL pC,.int .i64 p.blocks,.int .i64 p.prio] 25:=s3.box (by simp)
 have c1:=b1.cell 0
 have h0:Dk.Sep w W3 (Dk.boxOf W2.heap.size (cp (.slice none 0 0)) 25::Dk.rowOf 71 1 (.slice none 0 0) 0 []::[Dk.boxOf W1.heap.size (cp (.slice none 0 0)) 25]):=(s3.sub (us:=[_,_]) (by simp)).addRow (Below.refl _ _) (World.ownsRow_nil _ _ _ _) |>.perm (List.Perm.swap _ _ _)
 have HF:Hid (Dk.SlF B w fA fL fC fs):=hf
 have HB:Hid (B≤w.heap.size):=hB
 have H0:Hid (Dk.Sep w W3 (Dk.boxOf W2.heap.size (cp (.slice none 0 0)) 25::Dk.rowOf 71 1 (.slice none 0 0) 0 []::[Dk.boxOf W1.heap.size (cp (.slice none 0 0)) 25])):=h0
 have H1:Hid _:=e1.symm
 have H2:Hid _:=e2.symm
 have H3:Hid _:=e3.symm
 clear b1 h0 s3 e1 e2 e3 hf hB hn hc u3 hp
 unfold cp at H2 H3
 subst hfl
 generalize hb3:W2.heap.size=b3 at *
 generalize hb2:W1.heap.size=b2 at *
 go_enter Tryz.func36,Tryz.ntmps36
 go_wp2_with (first | (rw [H1.out];clear H1) | (rw [H2.out];clear H2) | (rw [H3.out];clear H3))
 go_loopw [9] (fun i w'=>∃ (j:Nat) (A:Option Addr) (C:Nat) (ps:List (Value × List Dk.Ins)),i=.int .i64 j∧j≤fs.length∧j=ps.length∧ps.map Prod.snd=fs.take j∧Dk.Sep w w' (Dk.boxOf b3 (cp (.slice A ps.length C)) 25::Dk.rowOf 71 1 (.slice A ps.length C) ps.length (ps.map Prod.fst)::(inner ps++[Dk.boxOf b2 (cp (.slice none 0 0)) 25]))) (fun i w'=>fs.length - (intOf i).toNat)
 case atStart=>exact ⟨0,none,0,[],rfl,Nat.zero_le _,rfl,rfl,H0.out⟩
 case round=>
  obtain ⟨j,A,C,ps,rfl,hj,hjp,hps,hs⟩:=hrel
  by_cases hlt:j < fs.length
  ·obtain ⟨b,o,rfl,hb,hc⟩:=HF.out.cells (by omega)
   obtain ⟨A',L',C',hc1,hc2⟩:=hc j hlt
   have hbw:b < w.heap.size:=by have:=HB.out;omega
   have c5:wr.cell? ⟨b,o+j,none⟩=some (.slice A' L' C'):=by rw [hs.out.cell hbw];exact hc1
   have hsn:Dk.SlN B wr A' L' C' (fs.getD j []):=hc2.below hs.out HB.out
   generalize hcode:fs.getD j []=code at *
   have hcl:code.length≤256:=by
    rw [← hcode,List.getD_eq_getElem?_getD,List.getElem?_eq_getElem hlt]
    exact HC.out _ (List.getElem_mem hlt)
   have hL:L'≤1000:=by have:=hsn.len;omega
   have hL2:code.length=L':=hsn.len
   have et:fs.take (j+1)=fs.take j++[code]:=by
    rw [List.take_add_one,List.getElem?_eq_getElem hlt,← hcode,List.getD_eq_getElem?_getD,List.getElem?_eq_getElem hlt]
    rfl
   have hB':=HB.out
   have hjn:j≤8:=by have:=HN.out;omega
   have hd:=hs.below (Dk.zm (Below.refl _ _))
   have KC:∀ w',Below wr.heap.size wr w'→Calls Tryz.prog 77 #[.slice A' L' C'] w' fun e w2=>∃ A' C',e=.returned (.slice A' L' C')∧w2.ownsRow w'.heap.size 75 5 (.slice A' L' C') code.length (insCells code)∧Below w'.heap.size w' w2:=fun w' u=>zie w' (hsn.below u (Nat.le_trans hB' hs.out.size)) (by have h1:=hs.out.size;have h2:=u.size;exact Nat.le_trans hB' (Nat.le_trans h1 h2)) hL
   have i1:(j:Int) < (fs.length:Int):=by omega
   have ET:Hid _:=et
   have HP:Hid _:=hps
   have HQ:Hid (code.length=L'):=hL2
   have HJ:Hid (j=ps.length):=hjp
   have u0:Below wr.heap.size wr wr.drew:=Dk.zm (Below.refl _ _)
   clear hc hc1 hc2 hsn hcode et hps hL hL2 hcl hs hjp
   go_upto_region 5 with fail
   obtain ⟨S,eS⟩:∃ S:World→Prop,S=fun w'=>Dk.Box w' b3 (cp (.slice A ps.length C)) 25:=⟨_,rfl⟩
   have S0:S wr.drew:=by rw [eS];exact hd.box (by simp)
   have SB:∀ w',S w'→w'.cell? ⟨b3,0,none⟩=some (.slice A ps.length C):=fun w' h=>by
    rw [eS] at h
    exact h.cell 0
   have ES:Hid _:=eS
   clear eS
   refine Dk.zo (S:=S) [] [0,1,2] [7] 5 (by kernel_rfl) (by kernel_rfl) (by kernel_rfl) (by kernel_rfl) rfl S0 _ ?_ (fun a' h=>h)
   refine Dk.za (v:=.pointer (some ⟨b3,0,none⟩)) rfl rfl (fun w' hw'=>by go_simp) ?_
   simp only [zD]
   refine Dk.za (v:=.slice A ps.length C) rfl rfl (fun w' hw'=>by have c:=SB _ hw';go_simp) ?_
   simp only [zD]
   refine Dk.za (v:=.slice A' L' C') rfl rfl (fun w' hw'=>by go_simp) ?_
   simp only [zD]
   refine Dk.zs [3,4,5,6,7] _ _ _ (by kernel_rfl) ?_
   refine Dk.zp (some 16) rfl rfl rfl (f:=77) (args:=#[.slice A' L' C']) (by go_simp) ?_
   refine (KC _ u0).mono ?_
   rintro e w4 ⟨A4,C4,rfl,h4,u4⟩
   have r4:=(hd.addRow u4 h4).perm (List.Perm.swap _ _ _)
   refine ⟨_,rfl,fun _=>by rw [ES.out];exact r4.box (by simp),?_⟩
   simp only [zD]
   obtain ⟨w5,e5⟩:∃ w5,w5=w4.alloc (.cells #[.slice A4 L' C4] 71):=⟨_,rfl⟩
   have r5:=r4.below (show Below w4.heap.size w4 w5 by rw [e5];exact Dk.zb (Below.refl _ _) _)
   refine Dk.zi (v:=.slice (some ⟨w4.heap.size,0,none⟩) 1 1) (w':=w5) (some 17) rfl rfl rfl (by rw [e5];go_simp) (fun _=>by rw [ES.out];exact r5.box (by simp)) ?_
   simp only [zD]
   have hj':=HJ.out
   obtain ⟨v6,w6,hr6,s6,hv6⟩:=Dk.Sep.appendK (us1:=[Dk.boxOf b3 (cp (.slice A ps.length C)) 25,Dk.rowOf 75 5 (.slice A4 L' C4) code.length (insCells code)]) KSlI r4 [.slice A4 L' C4] rfl (by simp [Value.oneCell']) (by omega)
   obtain ⟨A6,C6,ev6,_,_⟩:=Dk.zf (s6.row (e:=71) (s:=1) (v:=v6) (n:=ps.length+1) (xs:=ps.map Prod.fst++[.slice A4 L' C4]) (by simp))
   subst ev6
   have hr5:(Builtin.append_ #[22,22] 22 #[.slice A ps.length C,.slice (some ⟨w4.heap.size,0,none⟩) 1 1]).run Tryz.prog w5=.ok (.slice A6 (ps.length+1) C6) w6:=by rw [e5];exact hr6
   have b6:Dk.Box w6 b3 (cp (.slice A ps.length C)) 25:=s6.box (by simp)
   refine Dk.zag rfl rfl ?_
   refine Lib.wp_append_run _ _ _ _ _ rfl _ _ rfl rfl _ _ hr5 ⟨fun _=>by rw [ES.out];exact b6,?_⟩
   simp only [zD]
   refine Dk.zi (v:=.pointer (some ⟨b3,0,none⟩)) (w':=w6) (some 19) rfl rfl rfl (by go_simp) (fun _=>by rw [ES.out];exact b6) ?_
   simp only [zD]
   obtain ⟨w7,e7⟩:∃ w7,w7=w6.setCell ⟨b3,0,none⟩ (.slice A6 (ps.length+1) C6):=⟨_,rfl⟩
   have c6:w6.cell? ⟨b3,0,none⟩=some (.slice A ps.length C):=b6.cell 0
   have f6:=b6.frozen 0
   have s7:=Dk.Sep.setBox (us1:=[]) (o:=0) s6 (.slice A6 (ps.length+1) C6)
   rw [List.nil_append,← e7] at s7
   clear hr5 hr6 s6 r4 r5 hd h4 u4 u0 S0 SB KC
   refine Dk.zdt (w':=w7) none rfl rfl rfl (by rw [e7];go_simp) (fun h=>absurd (by decide) h) ?_
   simp only [zD]
   show NoPanic _ Exit.normal _ _
   refine NoPanic.normal ?_
   clear b6 c6 f6 e7 e5
   have el:(ps++[(Value.slice A4 L' C4,code)]).length=ps.length+1:=by simp
   have s8:Dk.Sep w w7 (Dk.boxOf b3 (cp (.slice A6 (ps++[(Value.slice A4 L' C4,code)]).length C6)) 25::Dk.rowOf 71 1 (.slice A6 (ps++[(Value.slice A4 L' C4,code)]).length C6) (ps++[(Value.slice A4 L' C4,code)]).length ((ps++[(Value.slice A4 L' C4,code)]).map Prod.fst)::(inner (ps++[(Value.slice A4 L' C4,code)])++[Dk.boxOf b2 (cp (.slice none 0 0)) 25])):=by
    rw [el,zht,List.map_append]
    refine s7.perm (List.Perm.cons _ ?_)
    refine (List.Perm.swap _ _ _).trans (List.Perm.cons _ ?_)
    rw [List.append_assoc]
    exact List.perm_middle.symm
   have H8:Hid (ps.map Prod.snd++[code]=fs.take (j+1)):=(show _=_ from by rw [HP.out,ET.out])
   have H9:Hid (j+1=(ps++[(Value.slice A4 L' C4,code)]).length):=(show _=_ from by rw [el];omega)
   clear s7 el
   clear HP HJ ET
   go_wp2_with fail
   go_roundw
   case rel=>exact ⟨j+1,A6,C6,ps++[(.slice A4 L' C4,code)],by go_num,by omega,H9.out,by rw [List.map_append];exact H8.out,s8⟩
   case measure=>simp [intOf];omega
  ·obtain rfl:j=fs.length:=by omega
   have z1:decide ((fs.length:Int) < (fs.length:Int))=false:=decide_eq_false (by omega)
   have ef:ps.map Prod.snd=fs:=by rw [hps];exact List.take_of_length_le (Nat.le_refl _)
   rw [← hjp] at hs
   have bx3:Dk.Box wr b3 (cp (.slice A fs.length C)) 25:=hs.box (by simp)
   have bx2:Dk.Box wr b2 (cp (.slice none 0 0)) 25:=hs.box (by simp)
   have d3:=bx3.cell
   have s9:Dk.Sep w (wr.setRow b2 (cp (.slice A fs.length C))) [Dk.nestOf 71 75 5 insCells (.slice A fs.length C) (ps.map Prod.fst) fs]:=by
    have q1:=Dk.Sep.turn (us1:=Dk.boxOf b3 (cp (.slice A fs.length C)) 25::Dk.rowOf 71 1 (.slice A fs.length C) fs.length (ps.map Prod.fst)::inner ps) (us2:=[]) (t':=Dk.boxOf b2 (cp (.slice A fs.length C)) 25) (w':=wr.setRow b2 (cp (.slice A fs.length C))) hs (Dk.Away.rowK (S:=(Dk.boxOf b2 (cp (.slice none 0 0)) 25).own) (Dk.Away.refl _ _) (.inl rfl) _) bx2.row (fun k hk=>.inl hk)
    have q2:Dk.Sep w (wr.setRow b2 (cp (.slice A fs.length C))) ([]++Dk.rowOf 71 1 (.slice A fs.length C) ps.length (ps.map Prod.fst)::inner ps):=by
     rw [← hjp]
     exact q1.sub ((List.sublist_cons_self _ _).trans (List.sublist_append_left _ _))
    have q3:=Dk.Sep.nest q2
    rw [ef] at q3
    exact q3
   have H9:Hid _:=s9
   have HB2:Hid _:=bx2
   have dr:=(bx2.row (cs':=cp (.slice A fs.length C))).cell
   clear hs s9 bx3 bx2 hps ef hjp
   unfold cp at d3
   go_wp2_with (refine wpList_store_row rfl 25 _ _ rfl b2 (cp (.slice A fs.length C)) rfl rfl 25 _ HB2.out.heap sizePrg rfl (cp_alls A fs.length C) ?_)
   have ew:=H9.out
   clear HB2 H9
   generalize wr.setRow b2 (cp (.slice A fs.length C))=WX at *
   unfold cp at dr
   exact bodyPost_ret (v:=.agg (cp (.slice A fs.length C))) (by simp [results,Tryz.results36,go_sem,dr,cp]) rfl ⟨A,C,_,rfl,ew⟩
end
end Go.Proofs.YtpnajphbjfehnaaGreat
namespace Dk
open Go Go.RowKit
theorem permT {α:Type} (us A td F tg N:List α) (r:α):(N++(r::(us++(A++(td++(F++tg)))))).Perm (us++(A++(td++((r::(F++N))++tg)))):=by
 classical
 refine List.perm_iff_count.2 fun a=>?_
 simp only [List.count_cons,List.count_append,List.cons_append]
 omega
theorem permU {α:Type} (us A td F tg:List α) (r:α):(us++(A++(td++((r::F)++tg)))).Perm (r::(us++(A++(td++(F++tg))))):=by
 classical
 refine List.perm_iff_count.2 fun a=>?_
 simp only [List.count_cons,List.count_append,List.cons_append]
 omega
theorem body_vt (L:Loc) (f:Nat→Thr) (vm vr v:Value) (bts:List Nat):(L.body f vm vr).set 331 v={ L with vt:=v,bts:=bts }.body f vm vr:=by
 unfold Loc.body
 rw [List.set_append_right _ _ (by show 10≤_;omega),show 331 - (L.head vm).length=321 by rfl,List.set_append_right _ _ (by rw [za9];omega),za9]
 rfl
end Dk
namespace Go.Proofs.YtpnajphbjfehnaaGreat
open Go.RowKit Go.Lib
theorem infoTu:(Tryz.prog.info? 97).map (fun i=>(i.zero,i.size,i.bytes))=some (some (.pointer none),1,8):=by kernel_rfl
theorem KTu:Dk.SlK Tryz.prog 93 97 (.pointer none) 1 8:=⟨Tryz.underlying93,infoTu,rfl,by decide,by decide⟩
section
variable {W w w' : World} {L : Dk.Loc} {q : Dk.Sp} {k : Nat} {us : List Dk.Thing}
theorem Cor.pipes (h:Cor W w L q k us):∃ (xs:List Value) (R:List Dk.Thing),xs.length=q.tubes.length∧Dk.Sep W w (Dk.rowOf 97 1 L.vt q.tubes.length xs::R)∧(∀ w' ts,Dk.Sep W w' (ts++R)→∃ vm vr,Dk.Box w' L.b (L.body q.thr vm vr).toArray 96)∧
  ∀ w' bt room v v1 v2 v3,Dk.Sep W w' (Dk.tube bt room v1 v2 v3 [] [] [] (Dk.rowOf 97 1 v (q.tubes.length+1) (xs++[Value.pointer (some ⟨bt,0,none⟩)])::R))→Cor W (w'.setCell ⟨L.b,331,none⟩ v) { L with vt:=v,bts:=L.bts++[bt] } { q with tubes:=q.tubes++[⟨room,[],[],[]⟩] } k us:=by
 obtain ⟨ks,kw,vm,vr,vs,td,tt,tg,h1,h2,h3,⟨ms,em,eb,hf,rfl⟩,h5,h6,h7,h8,h8',h9⟩:=Hid.out h
 have hlen:ms.length=q.tubes.length:=by rw [← em,List.length_map]
 refine ⟨ms.map Tm.ptr,us++([spBox L q.thr vm vr,memT vm q.mem,recT vr q.recs,codeT L vs q.code,slotT L.bt L.bs ks q.st,wheelT L.bw L.bm kw q.now q.due]++(td++(ms.flatMap Tm.things++tg))),by rw [List.length_map,hlen],?_,fun w' ts hs=>?_,fun w' bt room v v1 v2 v3 hs=>?_⟩
 ·rw [← hlen]
  exact Dk.Sep.perm (ts:=us++([spBox L q.thr vm vr,memT vm q.mem,recT vr q.recs,codeT L vs q.code,slotT L.bt L.bs ks q.st,wheelT L.bw L.bm kw q.now q.due]++(td++((Dk.rowOf 97 1 L.vt ms.length (ms.map Tm.ptr)::ms.flatMap Tm.things)++tg)))) h9 (Dk.permU _ _ _ _ _ _)
 ·exact ⟨vm,vr,hs.box (by simp [spBox])⟩
 ·obtain ⟨x,ex⟩:∃ x:Tm,x=⟨bt,v1,v2,v3,⟨room,[],[],[]⟩⟩:=⟨_,rfl⟩
  refine ⟨ks,kw,vm,vr,vs,td,_,tg,h1,h2,h3,⟨ms++[x],?_,?_,?_,rfl⟩,h5,h6,h7,h8,h8',?_⟩
  ·rw [List.map_append,em,ex];rfl
  ·rw [List.map_append,eb,ex];rfl
  ·intro m hm
   rcases List.mem_append.1 hm with hm | hm
   ·exact hf m hm
   ·rw [List.mem_singleton] at hm
    rw [hm,ex]
    exact ⟨fun x hx=>absurd hx (by simp),fun x hx=>absurd hx (by simp),fun x hx=>absurd hx (by simp)⟩
  ·have hs2:Dk.Sep W w' ((x.things++(Dk.rowOf 97 1 v (q.tubes.length+1) (ms.map Tm.ptr++[Value.pointer (some ⟨bt,0,none⟩)])::us))++spBox L q.thr vm vr::([memT vm q.mem,recT vr q.recs,codeT L vs q.code,slotT L.bt L.bs ks q.st,wheelT L.bw L.bm kw q.now q.due]++(td++(ms.flatMap Tm.things++tg)))):=by
    rw [ex,List.append_assoc]
    exact hs
   have hs3:=Dk.Sep.setBox (o:=331) hs2 v
   rw [List.setIfInBounds_toArray,Dk.body_vt L q.thr vm vr v (L.bts++[bt]),List.append_assoc] at hs3
   have hs4:=Dk.Sep.perm hs3 (Dk.permT us [spBox { L with vt:=v,bts:=L.bts++[bt] } q.thr vm vr,memT vm q.mem,recT vr q.recs,codeT L vs q.code,slotT L.bt L.bs ks q.st,wheelT L.bw L.bm kw q.now q.due] td (ms.flatMap Tm.things) tg x.things (Dk.rowOf 97 1 v (q.tubes.length+1) (ms.map Tm.ptr++[Value.pointer (some ⟨bt,0,none⟩)])))
   have e1:(ms++[x]).length=q.tubes.length+1:=by rw [List.length_append,hlen];rfl
   have e2:(ms++[x]).map Tm.ptr=ms.map Tm.ptr++[Value.pointer (some ⟨bt,0,none⟩)]:=by rw [List.map_append,ex];rfl
   have e3:(ms++[x]).flatMap Tm.things=ms.flatMap Tm.things++x.things:=by simp
   rw [e1,e2,e3]
   exact hs4
end
theorem Cor.rebase {W W2 w:World} {L:Dk.Loc} {q:Dk.Sp} {k:Nat} {us:List Dk.Thing} (u:Dk.Sep W W2 us) (h:Cor W2 w L q k []):Cor W w L q k us:=by
 obtain ⟨ks,kw,vm,vr,vs,td,tt,tg,h1,h2,h3,h4,h5,h6,h7,h8,h8',h9⟩:=Hid.out h
 exact ⟨ks,kw,vm,vr,vs,td,tt,tg,h1,h2,h3,h4,h5,h6,h7,h8,h8',Dk.zgv u h9⟩
end Go.Proofs.YtpnajphbjfehnaaGreat
namespace Dk
open Go Go.RowKit
def Sp.blank (p:Prg):Sp:=⟨p.funcs,List.replicate p.words.toNat 0,Dk.blank 16,fun _=>Thr.zero,start p.mutexes p.conds p.sems,[],List.replicate (Go.Proofs.YtpnajphbjfehnaaGreat.Dk.blocks p.blocks) 0,[],0,[],[]⟩
theorem insL {α:Type} {h B B' t:List α} (p:(B++t).Perm B'):((h++B)++t).Perm (h++B'):=by rw [List.append_assoc];exact p.append_left h
theorem insB {α:Type} {B t:List α}:(([]++B)++t).Perm (t++B):=List.perm_append_comm
theorem permN {α:Type} (r t b n m s wh:α) (X Y:List α):(r::t::b::n::m::s::(X++(Y++[wh]))).Perm (b::m::r::n::s::wh::(Y++(t::X))):=by
 classical
 refine List.perm_iff_count.2 fun a=>?_
 simp only [List.count_cons,List.count_append,List.count_nil]
 omega
theorem zjn (m c:Int) (xs:List Int):GIn (start m c xs):=⟨fun l hl x hx=>by rw [(List.mem_replicate.1 hl).2] at hx;exact absurd hx (by simp),fun l hl x hx=>by rw [(List.mem_replicate.1 hl).2] at hx;exact absurd hx (by simp),fun l hl x hx=>by rw [(List.mem_replicate.1 hl).2] at hx;exact absurd hx (by simp)⟩
theorem SlF.oks {B:Nat} {w:World} {A:Option Addr} {L C:Nat} {fs:List (List Ins)} (h:SlF B w A L C fs):∀ c ∈ fs,∀ i ∈ c,i.ok:=fun c hc=>by
 obtain ⟨k,hk⟩:=List.getElem?_of_mem hc
 have hkl:k < L:=by rw [← h.len];exact (List.getElem?_eq_some_iff.1 hk).1
 obtain ⟨b,o,_,_,hcs⟩:=h.cells (by omega)
 obtain ⟨A',L',C',_,hn⟩:=hcs k hkl
 rw [List.getD_eq_getElem?_getD,hk] at hn
 exact hn.wf
theorem invY {P:Go.Program} {md:Region.Mode} {ops:Array Oper} {Q:Exit→Act→World→Prop} {S:World→Prop} {Z:List Nat} {js:List Nat} {I:Nat→Array Bool→Act→World→Prop} (h0:∀ l a w,I 0 l a w→linesB md ops js l=true∧lineY P ops Q S Z js a w)
  (hs:∀ k l a w,I (k+1) l a w→Region.ready md ops l≠[]∧∀ i ∈ Region.ready md ops l,wpOp P ops Q i (fun a' w'=>(i ∉ Z→S w')∧I k (l.setIfInBounds i true) a' w') a w):∀ k l a w,I k l a w→wpAnyY P md ops Q S Z (js.length+k) l a w
 | 0,l,a,w,h=>zs js l a w (h0 l a w h).1 (h0 l a w h).2
 | k+1,l,a,w,h=>⟨fun e=>absurd e (hs k l a w h).1,fun i hi=>wpOp_mono (fun a' w' h'=>⟨h'.1,invY h0 hs k _ a' w' h'.2⟩) ((hs k l a w h).2 i hi)⟩
end Dk
namespace Go.Proofs.YtpnajphbjfehnaaGreat
open Go.RowKit Go.Lib
def frN (s:Dk.Sh) (p:Dk.Prg) (b:Nat) (v14 v17 v18 v25 v28 v29:Value):Act:={ tmps:=#[Dk.pv s p,.pointer (some ⟨b,0,none⟩),.pointer none,.int .i64 0,.int .i64 0,undef,undef,undef,.agg #[.slice s.fA s.fL s.fC,.int .i64 p.words,.int .i64 p.mutexes,.int .i64 p.conds,.slice s.sA s.sL s.sC,.slice s.pA s.pL s.pC,.int .i64 p.blocks,.int .i64 p.prio],.int .i64 0,.int .i64 0,.bool false,undef,.agg #[.slice s.fA s.fL s.fC,.int .i64 p.words,.int .i64 p.mutexes,.int .i64 p.conds,.slice s.sA s.sL s.sC,.slice s.pA s.pL s.pC,.int .i64 p.blocks,.int .i64 p.prio],v14,.pointer (some ⟨b,1,none⟩),.int .i64 p.words,v17,v18,.pointer (some ⟨b,2,none⟩),.int .i64 p.mutexes,.pointer (some ⟨b,3,none⟩),.int .i64 p.conds,.pointer (some ⟨b,4,none⟩),.slice s.sA s.sL s.sC,v25,.pointer (some ⟨b,6,none⟩),.int .i64 p.blocks,v28,v29,undef,undef,undef,undef,undef,undef,undef,undef,undef,undef,undef,undef,undef,undef,undef,undef,undef,undef,undef,undef,undef,undef,undef,undef],defers:=[] }
def PhiA (p:Dk.Prg) (v:Value) (t:List Dk.Thing):Prop:=∃ A C vs,v=.agg (cp (.slice A p.funcs.length C))∧t=[Dk.nestOf 71 75 5 insCells (.slice A p.funcs.length C) vs p.funcs]
def PhiM (p:Dk.Prg) (v:Value) (t:List Dk.Thing):Prop:=∃ g,v=.slice (some ⟨g,0,none⟩) p.words.toNat p.words.toNat∧t=[memT v (List.replicate p.words.toNat 0)]
def PhiS (v:Value) (t:List Dk.Thing):Prop:=∃ bt bs,v=.pointer (some ⟨bt,0,none⟩)∧t=[slotT bt bs 0 (Dk.blank 16)]
def PhiG (p:Dk.Prg) (v:Value) (t:List Dk.Thing):Prop:=∃ b,v=.pointer (some ⟨b,0,none⟩)∧G0 b (Dk.start p.mutexes p.conds p.sems) t
def PhiD (p:Dk.Prg) (v:Value) (t:List Dk.Thing):Prop:=∃ b,v=.pointer (some ⟨b,0,none⟩)∧D0 b (List.replicate (Dk.blocks p.blocks) 0) [] t
def PhiW (v:Value) (t:List Dk.Thing):Prop:=∃ bw bm,v=.pointer (some ⟨bw,0,none⟩)∧t=[wheelT bw bm 0 0 []]
def StN (s:Dk.Sh) (p:Dk.Prg) (b:Nat) (w2:World) (c:Nat) (m:Bool) (a:Act) (w:World):Prop:=∃ v14 v17 v18 v25 v28 v29 t1 t4 t5 t12 t15 t16,a=frN s p b v14 v17 v18 v25 v28 v29∧Dk.Sep w2 w (t1++(t4++(t5++(t12++(t15++t16)))))∧
 (if m=true then PhiM p v17 t4 else t4=[])∧(if 1≤c then PhiA p v14 t1 else t1=[])∧(if 2≤c then PhiS v18 t5 else t5=[])∧(if 3≤c then PhiG p v25 t12 else t12=[])∧(if 4≤c then PhiD p v28 t15 else t15=[])∧(if 5≤c then PhiW v29 t16 else t16=[])
def listN (c:Nat) (m:Bool):Array Bool:=#[true,decide (1≤c),true,true,m,decide (2≤c),true,true,true,true,true,true,decide (3≤c),true,true,decide (4≤c),decide (5≤c),false,false,false]
def InvN (s:Dk.Sh) (p:Dk.Prg) (b:Nat) (w2:World) (k:Nat) (l:Array Bool) (a:Act) (w:World):Prop:=∃ c m,c≤5∧l=listN c m∧k=(5 - c)+(if m=true then 0 else 1)∧StN s p b w2 c m a w
def okN (c:Nat) (m:Bool) (i:Nat):Bool:=(i == 4 && !m) || (i == 1 && c == 0) || (i == 5 && c == 1) || (i == 12 && c == 2) || (i == 15 && c == 3) || (i == 16 && c == 4)
def chkN (md:Region.Mode) (ops:Array Oper):Bool:=(List.range 6).all fun c=>[true,false].all fun m=>(c == 5 && m) || ((Region.ready md ops (listN c m)).all (okN c m) && !(Region.ready md ops (listN c m)).isEmpty)
theorem zi9 {md:Region.Mode} {ops:Array Oper} (h:chkN md ops=true) {c:Nat} (hc:c≤5) {m:Bool} {k:Nat} (hk:k+1=(5 - c)+(if m=true then 0 else 1)):(Region.ready md ops (listN c m)).all (okN c m)=true∧(!(Region.ready md ops (listN c m)).isEmpty)=true:=by
 have h1:=List.all_eq_true.1 (List.all_eq_true.1 h c (List.mem_range.2 (by omega))) m (by cases m <;> simp)
 have h2:(c == 5 && m)=false:=by
  cases m
  ·simp
  ·simp at hk ⊢;omega
 rw [h2,Bool.false_or,Bool.and_eq_true] at h1
 exact h1
theorem chkN_mem {md:Region.Mode} {ops:Array Oper} (h:chkN md ops=true) {c:Nat} (hc:c≤5) {m:Bool} {k:Nat} (hk:k+1=(5 - c)+(if m=true then 0 else 1)) {i:Nat} (hi:i ∈ Region.ready md ops (listN c m)):(i=4∧m=false)∨(i=1∧c=0)∨(i=5∧c=1)∨(i=12∧c=2)∨(i=15∧c=3)∨(i=16∧c=4):=by
 have:=List.all_eq_true.1 (zi9 h hc hk).1 i hi
 unfold okN at this
 simp only [Bool.or_eq_true,Bool.and_eq_true,beq_iff_eq,Bool.not_eq_true'] at this
 simpa only [or_assoc] using this
theorem chkN_ne {md:Region.Mode} {ops:Array Oper} (h:chkN md ops=true) {c:Nat} (hc:c≤5) {m:Bool} {k:Nat} (hk:k+1=(5 - c)+(if m=true then 0 else 1)):Region.ready md ops (listN c m)≠[]:=fun e=>by
 have:=(zi9 h hc hk).2
 rw [e] at this
 simp at this
theorem fit_of {p:Dk.Prg} (h:Dk.check p=0):Dk.codeFitsB p.funcs=true∧Dk.objectsFitB p=true∧Dk.allSoundB p=true:=by
 unfold Dk.check at h
 cases h1:Dk.codeFitsB p.funcs <;> cases h2:Dk.objectsFitB p <;> cases h3:Dk.allSoundB p <;> simp [h1,h2,h3] at h ⊢
section
variable {W w w' : World} {us : List Dk.Thing}
theorem NewC_t {B:Nat} (s:Dk.Sh) (p:Dk.Prg) (w:World) (hp:Dk.PrgAt B w s p) (hB:B≤w.heap.size) (hk:Dk.check p=0) (hf:p.funcs.length≤8∧(∀ c ∈ p.funcs,c.length≤256)∧0≤p.words∧p.words≤64∧p.pipes.length≤4) :
  Calls Tryz.prog 10 #[Dk.pv s p] w fun e w'=>∃ L:Dk.Loc,e=.returned (.tuple #[.pointer (some ⟨L.b,0,none⟩),.int .i64 0])∧Cor w w' L (({ Dk.Sp.blank p with tubes:=p.pipes.map fun r=>⟨r,[],[],[]⟩ }:Dk.Sp).begin 0 0).1 1 []:=by
 obtain ⟨W1,e1⟩:∃ W1,W1=w.alloc (.cells #[.slice s.fA s.fL s.fC,.int .i64 p.words,.int .i64 p.mutexes,.int .i64 p.conds,.slice s.sA s.sL s.sC,.slice s.pA s.pL s.pC,.int .i64 p.blocks,.int .i64 p.prio] 25):=⟨_,rfl⟩
 have b1:Dk.Box W1 w.heap.size #[.slice s.fA s.fL s.fC,.int .i64 p.words,.int .i64 p.mutexes,.int .i64 p.conds,.slice s.sA s.sL s.sC,.slice s.pA s.pL s.pC,.int .i64 p.blocks,.int .i64 p.prio] 25:=by rw [e1];exact Dk.Box.new _ _ _
 have u1:Below w.heap.size w W1:=by rw [e1];exact Dk.zb (Below.refl _ _) _
 have z1:w.heap.size < W1.heap.size:=by rw [e1,World.size_alloc];omega
 have K:=zid B s p W1 (hp.below u1 hB) (by omega)
 rw [hk] at K
 have hcode:=hp.funcs.oks
 have H1:Hid _:=e1.symm
 have c1:=b1.cell
 have HB1:Hid (Dk.Box W1 w.heap.size #[.slice s.fA s.fL s.fC,.int .i64 p.words,.int .i64 p.mutexes,.int .i64 p.conds,.slice s.sA s.sL s.sC,.slice s.pA s.pL s.pC,.int .i64 p.blocks,.int .i64 p.prio] 25):=b1
 clear e1
 go_enter Tryz.func10,Tryz.ntmps10
 go_wp2_with (rw [H1.out];clear H1)
 refine K.mono ?_
 rintro e w2 ⟨rfl,u2⟩
 have b2:Dk.Box w2 w.heap.size #[.slice s.fA s.fL s.fC,.int .i64 p.words,.int .i64 p.mutexes,.int .i64 p.conds,.slice s.sA s.sL s.sC,.slice s.pA s.pL s.pC,.int .i64 p.blocks,.int .i64 p.prio] 25:=HB1.out.up u2
 have u3:Below w.heap.size w w2:=Dk.zg u1 u2
 have z2:w.heap.size < w2.heap.size:=Nat.lt_of_lt_of_le z1 u2.size
 have HU:Hid (Below w.heap.size w w2):=u3
 have HZ:Hid (w.heap.size < w2.heap.size):=z2
 clear K c1 HB1 u1 u2 u3 z1 z2 b1
 go_upto_region 4 with fail
 go_cut [5] from 13 to 31 (fun v w'=>∃ L:Dk.Loc,v=.pointer (some ⟨L.b,0,none⟩)∧Cor w2 w' L (Dk.Sp.blank p) 0 [])
 case first=>
  obtain ⟨S,eS⟩:∃ S:World→Prop,S=fun w'=>Dk.Box w' w.heap.size #[.slice s.fA s.fL s.fC,.int .i64 p.words,.int .i64 p.mutexes,.int .i64 p.conds,.slice s.sA s.sL s.sC,.slice s.pA s.pL s.pC,.int .i64 p.blocks,.int .i64 p.prio] 25:=⟨_,rfl⟩
  have SB:∀ w',S w'→∀ o,w'.cell? ⟨w.heap.size,o,none⟩=(#[.slice s.fA s.fL s.fC,.int .i64 p.words,.int .i64 p.mutexes,.int .i64 p.conds,.slice s.sA s.sL s.sC,.slice s.pA s.pL s.pC,.int .i64 p.blocks,.int .i64 p.prio]:Array Value)[o]?:=fun w' h=>by
   rw [eS] at h
   exact h.cell
  have SN:∀ w',Below w2.heap.size w2 w'→S w':=fun w' u=>by rw [eS];exact (b2.up u)
  have S0:S w2.drew:=SN _ (Dk.zm (Below.refl _ _))
  have ES:Hid _:=eS
  clear eS b2
  refine Dk.zo (S:=S) [] [0,2,3,6,7,8,9,10,11,13,14] [] 9 (by kernel_rfl) (by kernel_rfl) (by kernel_rfl) (by kernel_rfl) rfl S0 _ ?_ (fun a' h=>h)
  refine Dk.za (v:=.agg #[.slice s.fA s.fL s.fC,.int .i64 p.words,.int .i64 p.mutexes,.int .i64 p.conds,.slice s.sA s.sL s.sC,.slice s.pA s.pL s.pC,.int .i64 p.blocks,.int .i64 p.prio]) rfl rfl (fun w' hw'=>by have c:=SB _ hw';go_simp) ?_
  simp only [zD]
  refine Dk.za (v:=.pointer (some ⟨w.heap.size,1,none⟩)) rfl rfl (fun w' hw'=>by go_simp) ?_
  simp only [zD]
  refine Dk.za (v:=.int .i64 p.words) rfl rfl (fun w' hw'=>by have c:=SB _ hw';go_simp) ?_
  simp only [zD]
  refine Dk.za (v:=.pointer (some ⟨w.heap.size,2,none⟩)) rfl rfl (fun w' hw'=>by go_simp) ?_
  simp only [zD]
  refine Dk.za (v:=.int .i64 p.mutexes) rfl rfl (fun w' hw'=>by have c:=SB _ hw';go_simp) ?_
  simp only [zD]
  refine Dk.za (v:=.pointer (some ⟨w.heap.size,3,none⟩)) rfl rfl (fun w' hw'=>by go_simp) ?_
  simp only [zD]
  refine Dk.za (v:=.int .i64 p.conds) rfl rfl (fun w' hw'=>by have c:=SB _ hw';go_simp) ?_
  simp only [zD]
  refine Dk.za (v:=.pointer (some ⟨w.heap.size,4,none⟩)) rfl rfl (fun w' hw'=>by go_simp) ?_
  simp only [zD]
  refine Dk.za (v:=.slice s.sA s.sL s.sC) rfl rfl (fun w' hw'=>by have c:=SB _ hw';go_simp) ?_
  simp only [zD]
  refine Dk.za (v:=.pointer (some ⟨w.heap.size,6,none⟩)) rfl rfl (fun w' hw'=>by go_simp) ?_
  simp only [zD]
  refine Dk.za (v:=.int .i64 p.blocks) rfl rfl (fun w' hw'=>by have c:=SB _ hw';go_simp) ?_
  simp only [zD]
  refine Dk.invY (js:=[17,18,19]) (I:=InvN s p w.heap.size w2) ?_ ?_ 6 _ _ _ ?_
  ·rintro l a wx ⟨c,m,hc,rfl,hk0,hst⟩
   have hm:m=true:=by cases m;(simp at hk0);rfl
   subst hm
   obtain rfl:c=5:=by simp at hk0;omega
   refine ⟨by kernel_rfl,?_⟩
   obtain ⟨v14,v17,v18,v25,v28,v29,t1,t4,t5,t12,t15,t16,rfl,hsep,p4,p1,p5,p12,p15,p16⟩:=hst
   obtain ⟨gm,rfl,rfl⟩:=p4
   obtain ⟨cA,cC,vs,rfl,rfl⟩:=p1
   obtain ⟨bt,bs,rfl,rfl⟩:=p5
   obtain ⟨bg,rfl,hG⟩:=p12
   obtain ⟨bd,rfl,hD⟩:=p15
   obtain ⟨bw,bm,rfl,rfl⟩:=p16
   obtain ⟨L,eL⟩:∃ L:Dk.Loc,L=⟨wx.heap.size,bt,bs,bg,bd,bw,bm,cA,p.funcs.length,cC,.slice none 0 0,[]⟩:=⟨_,rfl⟩
   obtain ⟨X,eX⟩:∃ X:Array Value,X=(L.body (fun _=>Dk.Thr.zero) (.slice (some ⟨gm,0,none⟩) p.words.toNat p.words.toNat) (.slice none 0 0)).toArray:=⟨_,rfl⟩
   have EX:Hid _:=eX
   have EL:Hid _:=eL
   unfold frN
   refine Dk.zi (v:=.agg X) (w':=wx) (some 30) rfl rfl rfl (by subst eX;subst eL;kernel_rfl) (fun _=>SN _ hsep.out) ?_
   simp only [zD]
   obtain ⟨wy,ey⟩:∃ wy,wy=wx.alloc (.cells X 96):=⟨_,rfl⟩
   clear eX eL
   have hs2:=((hsep.newBox ey).nil 97 1).nil 195 6
   refine Dk.zi (v:=.pointer (some ⟨wx.heap.size,0,none⟩)) (w':=wy) (some 31) rfl rfl rfl (by rw [ey];kernel_rfl) (fun _=>SN _ hs2.out) ?_
   simp only [zD]
   refine Dk.zi (v:=.pointer (some ⟨wx.heap.size,0,none⟩)) (w':=wy) (some 5) rfl rfl rfl (by kernel_rfl) (fun _=>SN _ hs2.out) ?_
   simp only [zD]
   show NoPanic _ Exit.normal _ _
   refine NoPanic.normal ?_
   rename_i hK
   refine hK _ _ ?_
   go_meet
   have eX:=EX.out
   have eL:=EL.out
   subst eX
   refine ⟨L,by rw [eL],0,0,.slice (some ⟨gm,0,none⟩) p.words.toNat p.words.toNat,.slice none 0 0,vs,t15,[Dk.rowOf 97 1 (.slice none 0 0) 0 []],t12,Nat.le_refl _,Nat.le_refl _,by rw [eL];exact hD,by rw [eL];exact ⟨[],rfl,rfl,fun m hm=>absurd hm (by simp),rfl⟩,by rw [eL];exact hG,(Dk.start_ok _ _ _ hp.sems.wf).mono (by omega),Dk.zjn _ _ _,hcode,fun x hx=>by rw [(List.mem_replicate.1 hx).2];decide,?_⟩
   have hperm:=hs2.perm (Dk.permN _ _ _ _ _ _ _ t12 t15)
   subst eL
   exact hperm
  ·rintro k l a wx ⟨c,m,hc,rfl,hk0,hst⟩
   refine ⟨chkN_ne (by kernel_rfl) hc hk0,fun i hi=>?_⟩
   have hi':=chkN_mem (by kernel_rfl) hc hk0 hi
   clear hi
   obtain ⟨v14,v17,v18,v25,v28,v29,t1,t4,t5,t12,t15,t16,rfl,hsep,p4,p1,p5,p12,p15,p16⟩:=hst
   have uw:Below w.heap.size w wx:=Dk.zg HU.out hsep.out
   have hx:w.heap.size < wx.heap.size:=Nat.lt_of_lt_of_le HZ.out hsep.out.size
   rcases hi' with ⟨rfl,rfl⟩ | ⟨rfl,rfl⟩ | ⟨rfl,rfl⟩ | ⟨rfl,rfl⟩ | ⟨rfl,rfl⟩ | ⟨rfl,rfl⟩
   ·obtain rfl:t4=[]:=by simpa using p4
    unfold frN
    obtain ⟨w',hrun,hM,hz⟩:=Sep.made hsep p.words.toNat (by omega)
    have ew:((p.words.toNat:Nat):Int)=p.words:=by omega
    rw [ew] at hrun
    have hj:=(Dk.Sep.perm hM (List.perm_append_comm (l₁:=[_]) (l₂:=_))).perm (Dk.insL Dk.insB)
    refine Dk.ze (v:=.slice (some ⟨wx.heap.size,0,none⟩) p.words.toNat p.words.toNat) (w':=w') (some 17) rfl rfl rfl (by go_simp) ⟨fun _=>SN _ hj.out,c,true,hc,by rfl,by simp at hk0 ⊢ <;> omega,?_⟩
    exact ⟨_,_,_,_,_,_,_,_,_,_,_,_,rfl,hj,⟨_,rfl,by (unfold memT <;> rw [List.length_replicate])⟩,p1,p5,p12,p15,p16⟩
   ·obtain rfl:t1=[]:=p1
    unfold frN
    refine Dk.zp (some 14) rfl rfl rfl (f:=36) (args:=#[Dk.pv s p]) (by go_simp) ?_
    refine (codeOf_t s p wx (hp.below uw hB) (by omega) hf.1 hf.2.1).mono ?_
    rintro e w' ⟨A,C,vs,rfl,h'⟩
    have hj:=(Dk.zgv hsep h').perm Dk.insB
    refine ⟨_,rfl,fun _=>SN _ hj.out,1,m,by omega,by cases m <;> rfl,by simp at hk0 ⊢;omega,?_⟩
    exact ⟨_,_,_,_,_,_,_,_,_,_,_,_,rfl,hj,p4,⟨A,C,vs,rfl,rfl⟩,p5,p12,p15,p16⟩
   ·obtain rfl:t5=[]:=p5
    unfold frN
    refine Dk.zp (some 18) rfl rfl rfl (f:=37) (args:=#[.int .i64 16]) (by go_simp) ?_
    refine (New_anyS 16 (by unfold Dk.i64;omega) wx).mono ?_
    rintro e w' ⟨rfl,hT,hu,hz⟩
    have hj:=(((hsep.add (t:=slotT (wx.heap.size+1) wx.heap.size 0 (Dk.blank 16)) hu hT (fun k hk=>by rcases hk with rfl | rfl <;> omega)).perm (List.perm_append_comm (l₁:=[_]) (l₂:=_))).perm (Dk.insL (Dk.insL Dk.insB)))
    refine ⟨_,rfl,fun _=>SN _ hj.out,2,m,by omega,by cases m <;> rfl,by simp at hk0 ⊢;omega,?_⟩
    exact ⟨_,_,_,_,_,_,_,_,_,_,_,_,rfl,hj,p4,p1,⟨_,_,rfl,rfl⟩,p12,p15,p16⟩
   ·obtain rfl:t12=[]:=p12
    unfold frN
    refine Dk.zp (some 25) rfl rfl rfl (f:=38) (args:=#[.int .i64 p.mutexes,.int .i64 p.conds,.slice s.sA s.sL s.sC]) (by go_simp) ?_
    refine (New_any hsep p.mutexes p.conds s.sA s.sL s.sC p.sems ((hp.below uw hB).sems.more (by omega))).mono ?_
    rintro e w' ⟨bg,ts,rfl,hG,h'⟩
    have hj:=h'.perm (Dk.insL (Dk.insL (Dk.insL Dk.insB)))
    refine ⟨_,rfl,fun _=>SN _ hj.out,3,m,by omega,by cases m <;> rfl,by simp at hk0 ⊢;omega,?_⟩
    exact ⟨_,_,_,_,_,_,_,_,_,_,_,_,rfl,hj,p4,p1,p5,⟨_,rfl,hG⟩,p15,p16⟩
   ·obtain rfl:t15=[]:=p15
    unfold frN
    refine Dk.zp (some 28) rfl rfl rfl (f:=39) (args:=#[.int .i64 p.blocks]) (by go_simp) ?_
    refine (New_anyK hsep p.blocks).mono ?_
    rintro e w' ⟨rfl,h'⟩
    obtain ⟨d1,d2,hd,hfit⟩:=Hid.out h'
    have hj:=(Dk.Sep.perm (us:=_++Dk.disk (wx.heap.size+1) d1 d2 (List.replicate (Dk.blocks p.blocks) 0) [] []) hd (List.perm_append_comm (l₁:=Dk.disk (wx.heap.size+1) d1 d2 (List.replicate (Dk.blocks p.blocks) 0) [] []) (l₂:=_))).perm (Dk.insL (Dk.insL (Dk.insL (Dk.insL Dk.insB))))
    refine ⟨_,rfl,fun _=>SN _ hj.out,4,m,by omega,by cases m <;> rfl,by simp at hk0 ⊢;omega,?_⟩
    exact ⟨_,_,_,_,_,_,_,_,_,_,_,_,rfl,hj,p4,p1,p5,p12,⟨_,rfl,d1,d2,rfl,hfit⟩,p16⟩
   ·obtain rfl:t16=[]:=p16
    unfold frN
    refine Dk.zp (some 29) rfl rfl rfl (f:=40) (args:=#[]) (by go_simp) ?_
    refine (New_anyW wx).mono ?_
    rintro e w' ⟨rfl,hW,hu⟩
    have hj:=(((hsep.add (t:=wheelT (wx.heap.size+1) wx.heap.size 0 0 []) hu ⟨Nat.zero_le _,Nat.zero_le _,hW.lo,hW.hi,hW.head,hW.map,hW.wf⟩ (fun k hk=>by rcases hk with rfl | rfl <;> omega)).perm (List.perm_append_comm (l₁:=[_]) (l₂:=_))).perm (Dk.insL (Dk.insL (Dk.insL (Dk.insL (Dk.insL (List.Perm.refl _)))))))
    refine ⟨_,rfl,fun _=>SN _ hj.out,5,m,by omega,by cases m <;> rfl,by simp at hk0 ⊢;omega,?_⟩
    exact ⟨_,_,_,_,_,_,_,_,_,_,_,_,rfl,hj,p4,p1,p5,p12,p15,⟨_,_,rfl,rfl⟩⟩
  ·refine ⟨0,false,by omega,rfl,rfl,?_⟩
   exact ⟨undef,undef,undef,undef,undef,undef,[],[],[],[],[],[],rfl,Dk.Sep.begin (Dk.zm (Below.refl _ _)),rfl,rfl,rfl,rfl,rfl,rfl⟩
 case rest=>
  obtain ⟨L0,rfl,hC⟩:=hcut
  have bC:=b2.up hC.out
  have c5:wc.cell? ⟨w.heap.size,5,none⟩=some (.slice s.pA s.pL s.pC):=bC.cell 5
  have hpi:=hp.pipes
  have hpl:p.pipes.length=s.pL:=hpi.len
  have h0:∃ L:Dk.Loc,L.b=L0.b∧Cor w2 wc L { Dk.Sp.blank p with tubes:=(p.pipes.take 0).map fun r=>⟨r,[],[],[]⟩ } 0 []:=⟨L0,rfl,hC⟩
  have H0:Hid (∃ L:Dk.Loc,L.b=L0.b∧Cor w2 wc L { Dk.Sp.blank p with tubes:=(p.pipes.take 0).map fun r=>⟨r,[],[],[]⟩ } 0 []):=h0
  have HPI:Hid (Dk.SlI B w s.pA s.pL s.pC p.pipes):=hpi
  have HPL:Hid (p.pipes.length=s.pL):=hpl
  have HB:Hid (B≤w.heap.size):=hB
  generalize L0.b=b0 at *
  generalize s.pA=pA at *
  generalize s.pL=pL at *
  generalize s.pC=pC at *
  clear hC bC b2 hpi hpl hp hcode hk hB h0
  go_wp2_with fail
  go_loopw [35] (fun i w'=>∃ (j:Nat) (L:Dk.Loc),i=.int .i64 j∧j≤pL∧L.b=b0∧Cor w2 w' L { Dk.Sp.blank p with tubes:=(p.pipes.take j).map fun r=>⟨r,[],[],[]⟩ } 0 []) (fun i w'=>pL - (intOf i).toNat)
  case atStart=>
   obtain ⟨L,eb,hC⟩:=H0.out
   exact ⟨0,L,rfl,Nat.zero_le _,eb,hC⟩
  case round=>
   obtain ⟨j,L,rfl,hj,rfl,hC⟩:=hrel
   clear H0
   by_cases hlt:j < pL
   ·obtain ⟨b,o,ea,hb,hc⟩:=HPI.out.cells (by omega)
    have hB':=HB.out
    have cj:wr.cell? ⟨b,o+j,none⟩=some (.int .i64 (p.pipes.getD j 0)):=by rw [(Dk.zg HU.out hC.out).cell (by show b < _;omega)];exact hc j hlt
    have et:((p.pipes.take (j+1)).map fun r=>(⟨r,[],[],[]⟩:Dk.Tu))=((p.pipes.take j).map fun r=>(⟨r,[],[],[]⟩:Dk.Tu))++[⟨p.pipes.getD j 0,[],[],[]⟩]:=by
     have hl:j < p.pipes.length:=by have:=HPL.out;omega
     rw [List.take_add_one,List.getElem?_eq_getElem hl,List.map_append,List.getD_eq_getElem?_getD,List.getElem?_eq_getElem hl]
     rfl
    have hn:((p.pipes.take j).map fun r=>(⟨r,[],[],[]⟩:Dk.Tu)).length≤1000:=by
     rw [List.length_map,List.length_take]
     have:=HPL.out
     omega
    generalize p.pipes.getD j 0=room at *
    generalize ((p.pipes.take j).map fun r=>(⟨r,[],[],[]⟩:Dk.Tu))=tus at *
    obtain ⟨xs,R,hxl,hsep,hbx,hcl⟩:=hC.pipes
    obtain ⟨A,C,ev,_,_⟩:=Dk.zf (hsep.row (e:=97) (s:=1) (v:=L.vt) (n:=tus.length) (xs:=xs) (by simp))
    have hd:=hsep.below (Dk.zm (Below.refl _ _))
    have ET:Hid _:=et
    have HBX:Hid (∀ w' ts,Dk.Sep w2 w' (ts++R)→∃ vm vr,Dk.Box w' L.b (L.body (Dk.Sp.blank p).thr vm vr).toArray 96):=hbx
    have HCL:Hid (∀ w' bt room v v1 v2 v3,Dk.Sep w2 w' (Dk.tube bt room v1 v2 v3 [] [] [] (Dk.rowOf 97 1 v (tus.length+1) (xs++[Value.pointer (some ⟨bt,0,none⟩)])::R))→Cor w2 (w'.setCell ⟨L.b,331,none⟩ v) { L with vt:=v,bts:=L.bts++[bt] } { Dk.Sp.blank p with tubes:=tus++[⟨room,[],[],[]⟩] } 0 []):=hcl
    have i1:(j:Int) < (pL:Int):=by omega
    have HJ:Hid (j+1≤pL):=hlt
    have hj4:j < 1000:=by have h1:=HPL.out;have h2:=hf.2.2.2.2;omega
    clear hc hC et hbx hcl hsep
    dsimp only at hd
    rw [ev] at hd
    subst ea
    go_upto_region 8 with fail
    obtain ⟨S,eS⟩:∃ S:World→Prop,S=fun w'=>∃ vm vr,Dk.Box w' L.b (L.body (Dk.Sp.blank p).thr vm vr).toArray 96:=⟨_,rfl⟩
    have S0:S wr.drew:=by rw [eS];exact HBX.out _ [_] hd
    have SB:∀ w',S w'→w'.cell? ⟨L.b,331,none⟩=some (.slice A tus.length C):=fun w' h=>by
     rw [eS] at h
     obtain ⟨vm,vr,hb⟩:=h
     rw [hb.cell,List.getElem?_toArray,← ev]
     exact Dk.zbc L _ vm vr (j:=1)
    have ES:Hid _:=eS
    clear eS
    refine Dk.zo (S:=S) [] [0,1,2,3,4,5] [11] 6 (by kernel_rfl) (by kernel_rfl) (by kernel_rfl) (by kernel_rfl) rfl S0 _ ?_ (fun a' h=>h)
    refine Dk.za (v:=.pointer (some ⟨L.b,0,none⟩)) rfl rfl (fun w' hw'=>by go_simp) ?_
    simp only [zD]
    refine Dk.za (v:=.pointer (some ⟨L.b,0,none⟩)) rfl rfl (fun w' hw'=>by go_simp) ?_
    simp only [zD]
    refine Dk.za (v:=.pointer (some ⟨L.b,0,none⟩)) rfl rfl (fun w' hw'=>by go_simp) ?_
    simp only [zD]
    refine Dk.za (v:=.pointer (some ⟨L.b,331,none⟩)) rfl rfl (fun w' hw'=>by go_simp) ?_
    simp only [zD]
    refine Dk.za (v:=.slice A tus.length C) rfl rfl (fun w' hw'=>by have c:=SB _ hw';go_simp) ?_
    simp only [zD]
    refine Dk.za (v:=.int .i64 room) rfl rfl (fun w' hw'=>by go_simp) ?_
    simp only [zD]
    refine Dk.zs [6,7,8,9,10,11] _ _ _ (by kernel_rfl) ?_
    refine Dk.zp (some 45) rfl rfl rfl (f:=41) (args:=#[.int .i64 room]) (by go_simp) ?_
    refine (New_anyT hd room).mono ?_
    rintro e w4 ⟨rfl,h4⟩
    obtain ⟨v1,v2,v3,s4,hft⟩:=Hid.out h4
    have s4':Dk.Sep w2 w4 (Dk.tube wr.drew.heap.size room v1 v2 v3 [] [] [] []++Dk.rowOf 97 1 (.slice A tus.length C) tus.length xs::R):=s4
    generalize hbt:wr.drew.heap.size=bt at *
    have box:∀ w' ts,Dk.Sep w2 w' (ts++R)→S w':=fun w' ts h=>by rw [ES.out];exact HBX.out w' ts h
    have toR:∀ w' v n xs,Dk.Sep w2 w' (Dk.tube bt room v1 v2 v3 [] [] [] []++Dk.rowOf 97 1 v n xs::R)→S w':=fun w' v n xs h=>box w' (Dk.tube bt room v1 v2 v3 [] [] [] []++[Dk.rowOf 97 1 v n xs]) (by rw [List.append_assoc];exact h)
    refine ⟨_,rfl,fun _=>toR _ _ _ _ s4',?_⟩
    simp only [zD]
    obtain ⟨w5,e5⟩:∃ w5,w5=w4.alloc (.cells #[.pointer (some ⟨bt,0,none⟩)] 97):=⟨_,rfl⟩
    have s5:=s4'.below (show Below w4.heap.size w4 w5 by rw [e5];exact Dk.zb (Below.refl _ _) _)
    refine Dk.zi (v:=.slice (some ⟨w4.heap.size,0,none⟩) 1 1) (w':=w5) (some 46) rfl rfl rfl (by rw [e5];go_simp) (fun _=>toR _ _ _ _ s5) ?_
    simp only [zD]
    obtain ⟨v6,w6,hr6,s6,hv6⟩:=Dk.Sep.appendK KTu s4' [.pointer (some ⟨bt,0,none⟩)] rfl (by simp [Value.oneCell']) (by omega)
    obtain ⟨A6,C6,ev6,_,_⟩:=Dk.zf (s6.row (e:=97) (s:=1) (v:=v6) (n:=tus.length+1) (xs:=xs++[Value.pointer (some ⟨bt,0,none⟩)]) (by simp))
    subst ev6
    have hr5:(Builtin.append_ #[93,93] 93 #[.slice A tus.length C,.slice (some ⟨w4.heap.size,0,none⟩) 1 1]).run Tryz.prog w5=.ok (.slice A6 (tus.length+1) C6) w6:=by rw [e5];exact hr6
    refine Dk.zag rfl rfl ?_
    refine Lib.wp_append_run _ _ _ _ _ rfl _ _ rfl rfl _ _ hr5 ⟨fun _=>toR _ _ _ _ s6,?_⟩
    simp only [zD]
    have b6:=box w6 (Dk.tube bt room v1 v2 v3 [] [] [] []++[Dk.rowOf 97 1 (.slice A6 (tus.length+1) C6) (tus.length+1) (xs++[Value.pointer (some ⟨bt,0,none⟩)])]) (by rw [List.append_assoc];exact s6)
    have c6:=SB _ b6
    have f6:w6.frozen? ⟨L.b,331,none⟩=false:=by
     rw [ES.out] at b6
     obtain ⟨vm,vr,hb⟩:=b6
     exact hb.frozen 331
    have hN:=HCL.out w6 bt room (.slice A6 (tus.length+1) C6) v1 v2 v3 s6
    refine Dk.zi (v:=.pointer (some ⟨L.b,0,none⟩)) (w':=w6) (some 48) rfl rfl rfl (by go_simp) (fun _=>b6) ?_
    simp only [zD]
    refine Dk.zi (v:=.pointer (some ⟨L.b,331,none⟩)) (w':=w6) (some 49) rfl rfl rfl (by go_simp) (fun _=>b6) ?_
    simp only [zD]
    obtain ⟨w7,e7⟩:∃ w7,w7=w6.setCell ⟨L.b,331,none⟩ (.slice A6 (tus.length+1) C6):=⟨_,rfl⟩
    rw [← e7] at hN
    have HN:Hid (Cor w2 w7 _ _ 0 []):=hN
    clear hN hr5 hr6 s6 s5 s4' s4 h4 hd b6 toR box SB S0
    refine Dk.zdt (w':=w7) none rfl rfl rfl (by rw [e7];go_simp) (fun h=>absurd (by decide) h) ?_
    simp only [zD]
    show NoPanic _ Exit.normal _ _
    refine NoPanic.normal ?_
    clear c6 f6 e7 e5
    go_wp2_with fail
    go_roundw
    case rel=>exact ⟨j+1,{ L with vt:=.slice A6 (tus.length+1) C6,bts:=L.bts++[bt] },by go_num,HJ.out,rfl,by rw [ET.out];exact HN.out⟩
    case measure=>
     have:=HJ.out
     simp [intOf];omega
   ·obtain rfl:j=pL:=by omega
    have z1:decide ((j:Int) < (j:Int))=false:=decide_eq_false (by omega)
    have ep:p.pipes.take j=p.pipes:=List.take_of_length_le (by have:=HPL.out;omega)
    rw [ep] at hC
    have KB:=zi2 hC (by omega) rfl 0 0
    have HR:Hid (Dk.Sep w w2 []):=Dk.Sep.begin HU.out
    clear hC ep
    go_wp2_with fail
    refine KB.mono ?_
    rintro e w8 ⟨rfl,h8⟩
    have h9:=Cor.rebase HR.out h8
    clear h8 KB
    go_wp2_with fail
    go_ret2
    exact ⟨L,rfl,h9⟩
end
end Go.Proofs.YtpnajphbjfehnaaGreat
namespace Dk
open Go Go.RowKit
def Sp.fresh (p:Prg):Sp:=(({ Sp.blank p with tubes:=p.pipes.map fun r=>⟨r,[],[],[]⟩ }:Sp).begin 0 0).1
structure Fits (p:Prg):Prop where
 fl:p.funcs.length≤8
 f1:1≤p.funcs.length
 cl:∀ c ∈ p.funcs,c.length≤256
 wd:0≤p.words∧p.words≤64
 mx:0≤p.mutexes∧p.mutexes≤4
 cv:0≤p.conds∧p.conds≤4
 sm:p.sems.length≤4
 sv:∀ x ∈ p.sems,0≤x∧x≤1048576
 pp:p.pipes.length≤4
 pv:∀ x ∈ p.pipes,1≤x∧x≤8
 bk:0≤p.blocks∧p.blocks≤64
 snd:∀ c ∈ p.funcs,∀ i ∈ c,soundB p i=true
theorem zhq {p:Prg} (h:check p=0):Fits p:=by
 obtain ⟨h1,h2,h3⟩:=Go.Proofs.YtpnajphbjfehnaaGreat.fit_of h
 unfold codeFitsB withinB at h1
 unfold objectsFitB withinB allWithinB at h2
 unfold allSoundB at h3
 simp only [Bool.and_eq_true,decide_eq_true_eq,List.all_eq_true] at h1 h2 h3
 obtain ⟨⟨f1,fl⟩,cl⟩:=h1
 obtain ⟨⟨⟨⟨⟨⟨⟨⟨wd,mx⟩,cv⟩,sm⟩,sv⟩,pp⟩,pv⟩,bk⟩,pr⟩:=h2
 refine ⟨by omega,by omega,cl,wd,mx,cv,sm,fun x hx=>?_,pp,fun x hx=>?_,bk,h3⟩
 ·have:=sv x hx;unfold withinB at this;simpa using this
 ·have:=pv x hx;unfold withinB at this;simpa using this
end Dk
