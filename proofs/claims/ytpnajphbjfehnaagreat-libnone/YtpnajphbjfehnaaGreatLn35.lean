import Derived.Test.YtpnajphbjfehnaaGreatLn34
import Derived.Laws.MakeOwn
set_option linter.unusedSimpArgs false
set_option linter.unusedVariables false
set_option linter.unnecessarySimpa false
set_option maxHeartbeats 8000000
set_option maxRecDepth 100000
namespace Dk
open Go Go.RowKit
theorem ves_rep:∀ n,ves (List.replicate n Ve.zero)=((List.replicate n ()).flatMap fun _=>Ve.zero.cells)
 | 0=>rfl
 | n+1=>by rw [List.replicate_succ,List.replicate_succ,ves,List.flatMap_cons,ves_rep n]
theorem madeV (n:Nat):madeCells (Value.agg #[.int .i64 0,.int .i64 0,.slice none 0 0]).cells (n*3)=(ves (List.replicate n Ve.zero)).toArray:=by
 apply Array.ext'
 apply List.ext_getElem?
 intro i
 have hl:(ves (List.replicate n Ve.zero)).length=n*3:=by rw [zae,List.length_replicate]
 by_cases hi:i < n*3
 ·have h1:(ves (List.replicate n Ve.zero))[i]? = Ve.zero.cells[i % 3]?:=by
   have hk:i / 3 < n:=by omega
   have e:List.replicate n Ve.zero=List.replicate (i / 3) Ve.zero++Ve.zero::List.replicate (n - i / 3 - 1) Ve.zero:=by
    rw [← List.replicate_succ,List.replicate_append_replicate]
    congr 1
    omega
   rw [e]
   have:=zhb (vs1:=List.replicate (i / 3) Ve.zero) (vs2:=List.replicate (n - i / 3 - 1) Ve.zero) (v:=Ve.zero) (k:=i / 3) (j:=i % 3) (by rw [List.length_replicate]) (by omega)
   rw [show i / 3*3+i % 3=i by omega] at this
   exact this
  rw [List.toList_toArray,h1]
  have h3:i % 3=0∨i % 3=1∨i % 3=2:=by omega
  simp [madeCells,hi,Value.cells]
  rcases h3 with e | e | e <;> simp [e,Ve.cells,Ve.zero]
 ·rw [List.toList_toArray,List.getElem?_eq_none (by simp [madeCells];omega),List.getElem?_eq_none (by rw [hl];omega)]
section
variable {σ : Type} {S0 : Nat → σ → List Thing → Prop} {W w w' : World} {b : Nat} {us : List Thing}
theorem Sep.nilEvs (h:Sep W w us):∀ n,Sep W w (List.replicate n (evT none 0 0 [])++us)
 | 0=>h
 | n+1=>(Sep.nilEvs h n).nilEv
theorem LB.make {sp rb vb n:Nat} {s:σ} {rts sts:List Thing} (hR:R0 rb (List.replicate n []) rts) (hS:S0 sp s sts) (hn:n≤64) (h:Sep W w (boxOf b #[.pointer (some ⟨sp,0,none⟩),.pointer (some ⟨rb,0,none⟩),.slice (some ⟨vb,0,none⟩) n n,.slice none 0 0,.bool false] 104::boxOf vb (ves (List.replicate n Ve.zero)).toArray 55::(rts++(sts++us)))) :
  LB S0 W w b ⟨sp,rb,vb,n,List.replicate n Ve.zero,none,0,0,[],false,List.replicate n [],rts,s,sts⟩ us:=by
 have hF:=Few.blank n hn
 have hflat:(List.replicate n ([]:List Int)).flatten=[]:=List.eq_nil_of_length_eq_zero (by have:=hF.len;omega)
 have hz:∀ v ∈ List.replicate n Ve.zero,i64 v.m∧i64 v.t:=fun v hv=>by
  obtain rfl:=List.eq_of_mem_replicate hv
  exact ⟨by unfold i64 Ve.zero;decide,by unfold i64 Ve.zero;decide⟩
 have hq:∀ x ∈ (List.replicate n ([]:List Int)).flatten,0≤x∧x < 16:=fun x hx=>by
  rw [hflat] at hx
  cases hx
 refine ⟨hR,hS,hF.mono (by omega),hq,by rw [List.length_replicate];exact hn,⟨by rw [List.length_replicate];exact Nat.le_refl _,by unfold maxLen;dsimp only;omega⟩,hz,?_⟩
 have s1:=h.nilEvs (n+1)
 have e1:(List.replicate n Ve.zero).map Ve.thing=List.replicate n (evT none 0 0 []):=by rw [List.map_replicate];rfl
 unfold Lb.head Lb.cells
 dsimp only
 rw [e1,List.length_replicate]
 refine s1.perm ?_
 rw [List.replicate_succ,List.cons_append]
 have p:(List.replicate n (evT none 0 0 [])++(boxOf b #[.pointer (some ⟨sp,0,none⟩),.pointer (some ⟨rb,0,none⟩),.slice (some ⟨vb,0,none⟩) n n,.slice none 0 0,.bool false] 104::boxOf vb (ves (List.replicate n Ve.zero)).toArray 55::(rts++(sts++us)))).Perm (boxOf b #[.pointer (some ⟨sp,0,none⟩),.pointer (some ⟨rb,0,none⟩),.slice (some ⟨vb,0,none⟩) n n,.slice none 0 0,.bool false] 104::boxOf vb (ves (List.replicate n Ve.zero)).toArray 55::(List.replicate n (evT none 0 0 [])++(rts++(sts++us)))):=
  List.perm_middle.trans (List.perm_middle.cons _)
 exact (p.cons _).trans ((List.Perm.swap _ _ _).trans ((List.Perm.swap _ _ _).cons _))
end
end Dk
namespace Go.Proofs.YtpnajphbjfehnaaGreat
open Go.RowKit Go.Lib
theorem infoV:(Tryz.prog.info? 55).map (fun i=>(i.zero,i.size,i.bytes))=some (some (.agg #[.int .i64 0,.int .i64 0,.slice none 0 0]),3,40):=by kernel_rfl
theorem make_v (n:Nat) (hn:n≤64) (w:World):(Instr.makeSlice 102 (.int .i64 (n:Int)) (.int .i64 (n:Int))).run Tryz.prog w=.ok (.slice (some ⟨w.heap.size,0,none⟩) n n) (w.alloc (.cells (Dk.ves (List.replicate n Dk.Ve.zero)).toArray 55)):=by
 obtain ⟨i0,hi0,hz0,hz1,hz2⟩:=info_parts infoV
 have hr:=run_make (P:=Tryz.prog) w 102 55 i0 _ Tryz.underlying102 hi0 hz0 .i64 .i64 n n (by omega) (Int.le_refl _) (by rw [hz2];omega) (by omega)
 simp only [Int.toNat_natCast,hz1] at hr
 rw [Dk.madeV] at hr
 exact hr
theorem zg5 {P:Go.Program} {L:List Oper} {Q:Exit→Act→World→Prop} {j:Nat} {K:Act→World→Prop} {a:Act} {w:World} {o:Oper} {f:FuncId} {args:Array Value} (d:Option Tmp) (ho:L[j]? = some o) (hd:o.dst=d) (hg:o.guard=none) (hr:(execOp a.eval o).run P w=.ok (.enter f args) w)
  (hc:Calls P f args w fun e w'=>∃ v,e=.returned v∧K (a.put d v) w'):wpOp P L.toArray Q j K a w:=by
 subst hd
 have hw:Region.wanted o (yielded L.toArray a.tmps)=true:=by simp [Region.wanted,hg]
 have ho':L.toArray[j]? = some o:=by simpa using ho
 unfold wpOp
 simp only [ho',hw,if_true]
 refine .inl ?_
 unfold Oper.wp
 rw [hr]
 simp only [Oper.upon]
 refine Calls.mono hc ?_
 rintro e w' ⟨v,rfl,h⟩
 exact h
section
variable {σ : Type} {F : Dk.SpF σ} {S0 : Nat → σ → List Dk.Thing → Prop} {W w w' : World} {b : Nat} {l : Dk.Lb σ} {us : List Dk.Thing}
def blank (n:Nat) (s:σ) (sp rb:Nat):Dk.Ls σ:=⟨List.replicate n Dk.Vw.zero,[],false,List.replicate n [],s,sp,rb⟩
theorem New_l (I:SpaceI F S0) {sp:Nat} {s:σ} {sts:List Dk.Thing} (hS:S0 sp s sts) (h:Dk.Sep W w (us++sts)) (hok:F.ok s) {p:Int} (hp:Dk.i64 p):Calls Tryz.prog 11 #[.pointer (some ⟨sp,0,none⟩),.int .i64 p] w fun e w'=>∃ b,e=.returned (.pointer (some ⟨b,0,none⟩))∧∃ rb,∃ l':Dk.Lb σ,l'.st=(blank (Dk.nRows p) s sp rb).tell (Dk.unbl (F.ready s))∧Dk.LB S0 W w' b l' us:=by
 have hn64:Dk.nRows p≤64:=Dk.zg4 p
 have e2:min (max p 0) 64=((Dk.nRows p:Nat):Int):=by unfold Dk.nRows;omega
 have e3:Dk.nRows ((Dk.nRows p:Nat):Int)=Dk.nRows p:=by unfold Dk.nRows;omega
 generalize Dk.nRows p=n at hn64 e2 e3 ⊢
 have KR:∀ w,Dk.Sep W w (us++sts)→Calls Tryz.prog 43 #[.int .i64 (n:Int)] w fun e w'=>∃ rb rts,e=.returned (.pointer (some ⟨rb,0,none⟩))∧Dk.R0 rb (List.replicate n []) rts∧Dk.Sep W w' (us++sts++rts):=fun w hw=>by
  have:=rowsR.new hw (n:Int) (by unfold Dk.i64;omega)
  rw [e3] at this
  exact this
 have KR2:∀ w t,Dk.Sep W w (t::(us++sts))→Calls Tryz.prog 43 #[.int .i64 (n:Int)] w fun e w'=>∃ rb rts,e=.returned (.pointer (some ⟨rb,0,none⟩))∧Dk.R0 rb (List.replicate n []) rts∧Dk.Sep W w' (t::(us++sts++rts)):=fun w t hw=>by
  have:=rowsR.new hw (n:Int) (by unfold Dk.i64;omega)
  rw [e3] at this
  exact this
 have hd:=h.below (Dk.zm (Below.refl w.heap.size w))
 have H2:Hid _:=e2
 have HS:Hid _:=hS
 have HD:Hid _:=hd
 have HO:Hid _:=hok
 clear h e2 hd e3 hS hok
 go_enter Tryz.func11,Tryz.ntmps11
 go_wp2_with fail
 rw [H2.out]
 refine Dk.zo (S:=fun _=>True) [] [0,1,3] [] 5 (by kernel_rfl) (by kernel_rfl) (by kernel_rfl) (by kernel_rfl) rfl trivial _ ?_ (fun a' h=>h)
 refine Dk.za (v:=.pointer (some ⟨sp,0,none⟩)) rfl rfl (fun w' hw'=>by go_simp) ?_
 simp only [zD]
 refine Dk.za (v:=.int .i64 (n:Int)) rfl rfl (fun w' hw'=>by go_simp) ?_
 simp only [zD]
 refine Dk.za (v:=.int .i64 (n:Int)) rfl rfl (fun w' hw'=>by go_simp) ?_
 simp only [zD]
 generalize w.drew=Wd at *
 refine Dk.nameY ?_
 intro a0 hA
 refine Dk.cutY (T:=fun a w=>∃ rb vb:Nat,∃ rts:List Dk.Thing,a=(a0.put (some 12) (.pointer (some ⟨rb,0,none⟩))).put (some 14) (.slice (some ⟨vb,0,none⟩) n n)∧Dk.R0 rb (List.replicate n []) rts∧Dk.Sep W w (Dk.boxOf vb (Dk.ves (List.replicate n Dk.Ve.zero)).toArray 55::(us++sts++rts))) (js:=[5,6,7]) ?_ 2 _ _ _ ?_
 ·rintro a w6 ⟨rb,vb,rts,rfl,hR,s6⟩
  rw [← hA]
  simp only [zD]
  refine Dk.zi (v:=.agg #[.pointer (some ⟨sp,0,none⟩),.pointer (some ⟨rb,0,none⟩),.slice (some ⟨vb,0,none⟩) n n,.slice none 0 0,.bool false]) (w':=w6) (some 15) rfl rfl rfl (by clear hA;go_simp;try rfl) (fun _=>trivial) ?_
  simp only [zD]
  obtain ⟨w7,e7⟩:∃ w7,w7=w6.alloc (.cells #[.pointer (some ⟨sp,0,none⟩),.pointer (some ⟨rb,0,none⟩),.slice (some ⟨vb,0,none⟩) n n,.slice none 0 0,.bool false] 104):=⟨_,rfl⟩
  have s7:=s6.newBox e7
  obtain ⟨b,eb⟩:∃ b,w6.heap.size=b:=⟨_,rfl⟩
  rw [eb] at s7
  refine Dk.zi (v:=.pointer (some ⟨b,0,none⟩)) (w':=w7) (some 16) rfl rfl rfl (by clear hA;rw [← eb,e7];go_simp;try rfl) (fun _=>trivial) ?_
  simp only [zD]
  refine Dk.zi (v:=.pointer (some ⟨b,0,none⟩)) (w':=w7) (some 6) rfl rfl rfl (by clear hA;go_simp) (fun _=>trivial) ?_
  simp only [zD]
  have hL:Dk.LB S0 W w7 b ⟨sp,rb,vb,n,List.replicate n Dk.Ve.zero,none,0,0,[],false,List.replicate n [],rts,s,sts⟩ us:=Dk.LB.make hR HS.out hn64 (s7.perm (((List.perm_append_comm.trans (List.Perm.append_left _ List.perm_append_comm)).cons _).cons _))
  rename ∀ (_:Act) (_:World),Code.wp _ _ _ _ _→_=>hK
  refine hK _ _ ?_
  obtain ⟨l0,hl0,hl0',hL'⟩:∃ l0:Dk.Lb σ,l0.st=blank n s sp rb∧l0.sp=sp∧Dk.LB S0 W w7 b l0 us:=⟨_,by
   unfold Dk.Lb.st blank
   dsimp only
   rw [List.map_replicate]
   rfl,rfl,hL⟩
  clear hK hA e7 eb s6 a0 HD s7 hR hL KR KR2
  have hs0:l0.s=s:=congrArg Dk.Ls.s hl0
  obtain ⟨ts,hS1,s1,back⟩:=hL'.spOut
  rw [hl0',hs0] at hS1
  have KQ:=I.ready hS1 s1 HO.out
  have HB:Hid _:=back
  have HFW:Hid _:=(I.few s HO.out).1
  have HL0:Hid _:=hl0
  have HL1:Hid _:=hl0'
  have HS0:Hid _:=hs0
  clear hS1 s1 back hl0 hl0' hs0 hL'
  go_wp2_with fail
  refine KQ.mono ?_
  rintro e w8 ⟨A8,C8,rfl,sts8,hS8,s8⟩
  have h8:=HB.out w8 s sts8 _ (by rw [HL1.out];exact hS8) s8
  have KU:=zba (h8.ints (A:=A8) (C:=C8) (n:=(F.ready s).length) (xs:=F.ready s) (e:=3) (by simp) rfl (Dk.Few16.i64 HFW.out)) (by have:=HFW.out.1;omega)
  have HX:Hid _:=h8
  clear KQ HB hS8 s8 h8
  go_wp2_with fail
  refine KU.mono ?_
  rintro e w9 ⟨v9,rfl,s9⟩
  obtain ⟨A9,C9,rfl,_,_⟩:=Dk.zf (s9.row (e:=59) (s:=3) (List.mem_cons_self ..))
  have h9:=(Dk.LB.onto HX.out s9).toEv rfl (fun e he=>by
   unfold Dk.unbl at he
   obtain ⟨x,hx,rfl⟩:=List.mem_map.1 he
   have:=HFW.out.2 x hx
   exact Dk.zci (by omega) (by unfold Dk.i64;omega))
  have hst:Dk.Lb.st { l0 with s:=s,sts:=sts8 }=blank n s sp rb:=by
   have h0:=HL0.out
   rw [← h0]
   unfold Dk.Lb.st
   dsimp only
   rw [HS0.out]
  have hsm:(Dk.Lb.st { l0 with s:=s,sts:=sts8 }).small:=by
   rw [hst]
   refine ⟨Nat.zero_le _,fun v hv=>?_⟩
   obtain rfl:=List.eq_of_mem_replicate hv
   exact Nat.zero_le _
  have KT:=zgj h9 (List.mem_cons_self ..) hsm (by rw [Dk.zbj];have:=HFW.out.1;omega)
  rw [hst] at KT
  clear KU HX s9 h9 hsm hst HFW HL0 HS0
  go_wp2_with fail
  refine KT.mono ?_
  rintro e w10 ⟨rfl,l10,hl10,h10⟩
  have HZ:Hid (∃ rb,∃ l':Dk.Lb σ,l'.st=(blank n s sp rb).tell (Dk.unbl (F.ready s))∧Dk.LB S0 W w10 b l' us):=⟨rb,l10,hl10,h10.sub (((List.Sublist.refl us).cons _).cons _)⟩
  clear KT hl10 h10 HL1
  go_wp2_with fail
  go_ret
  exact ⟨b,rfl,HZ.out⟩
 ·refine Dk.nodeT (rs:=[2,4]) (by kernel_rfl) (by simp) ?_
  intro i hi
  simp only [List.mem_cons,List.not_mem_nil,or_false] at hi
  rcases hi with rfl | rfl
  ·refine zg5 (some 12) rfl rfl rfl (f:=43) (args:=#[.int .i64 (n:Int)]) (by rw [← hA];clear hA;(try simp only [zD]);go_simp) ?_
   refine (KR Wd HD.out).mono ?_
   rintro e w2 ⟨rb,rts,rfl,hR,s2⟩
   refine ⟨_,rfl,fun _=>trivial,?_⟩
   refine Dk.nodeT (rs:=[4]) (by kernel_rfl) (by simp) ?_
   intro i hi
   simp only [List.mem_cons,List.not_mem_nil,or_false] at hi
   subst hi
   obtain ⟨w3,e3⟩:∃ w3,w3=w2.alloc (.cells (Dk.ves (List.replicate n Dk.Ve.zero)).toArray 55):=⟨_,rfl⟩
   have r3:=make_v n hn64 w2
   rw [← e3] at r3
   refine Dk.ze (v:=.slice (some ⟨w2.heap.size,0,none⟩) n n) (w':=w3) (some 14) rfl rfl rfl (by rw [← hA];(try simp only [zD]);simp only [execOp];simp [Act.eval,r3]) ⟨fun _=>trivial,?_⟩
   exact ⟨by kernel_rfl,rb,w2.heap.size,rts,rfl,hR,s2.newBox e3⟩
  ·obtain ⟨w3,e3⟩:∃ w3,w3=Wd.alloc (.cells (Dk.ves (List.replicate n Dk.Ve.zero)).toArray 55):=⟨_,rfl⟩
   have r3:=make_v n hn64 Wd
   rw [← e3] at r3
   refine Dk.ze (v:=.slice (some ⟨Wd.heap.size,0,none⟩) n n) (w':=w3) (some 14) rfl rfl rfl (by rw [← hA];(try simp only [zD]);simp only [execOp];simp [Act.eval,r3]) ⟨fun _=>trivial,?_⟩
   have s3:=Dk.Sep.newBox HD.out e3
   refine Dk.nodeT (rs:=[2]) (by kernel_rfl) (by simp) ?_
   intro i hi
   simp only [List.mem_cons,List.not_mem_nil,or_false] at hi
   subst hi
   refine zg5 (some 12) rfl rfl rfl (f:=43) (args:=#[.int .i64 (n:Int)]) (by rw [← hA];clear hA;(try simp only [zD]);go_simp) ?_
   refine (KR2 w3 _ s3).mono ?_
   rintro e w2 ⟨rb,rts,rfl,hR,s2⟩
   refine ⟨_,rfl,fun _=>trivial,?_⟩
   exact ⟨by kernel_rfl,rb,Wd.heap.size,rts,by rw [← hA];(try simp only [zD]),hR,s2⟩
end
end Go.Proofs.YtpnajphbjfehnaaGreat
namespace Dk
section
variable {σ : Type}
def Ls.grant (x:Ls σ) (k:Nat):Ls σ:={ x with ws:=[],vs:=x.vs.set k ⟨1,-1,⟨1,-1,0⟩::x.ws⟩ }
theorem has_lt {x:Ls σ} {p:Int} (h:x.has p=true):∃ k:Nat,p=k∧k < x.vs.length:=by
 unfold Ls.has Ls.isP at h
 simp at h
 exact ⟨p.toNat,by omega,by omega⟩
end
end Dk
namespace Go.Proofs.YtpnajphbjfehnaaGreat
open Go.RowKit Go.Lib
def didz:Array Value:=#[.bool false,.int .i64 0,.slice none 0 0,.bool false,.bool false,.bool false]
theorem zcn:didz.all (·.oneCell')=true:=by simp [didz,Value.oneCell']
section
variable {σ : Type} {F : Dk.SpF σ} {S0 : Nat → σ → List Dk.Thing → Prop} {W w w' : World} {b : Nat} {l : Dk.Lb σ} {us : List Dk.Thing}
theorem Step_nil (p c:Int) (w:World):Calls Tryz.prog 15 #[.pointer none,.int .i64 p,.int .i64 c] w fun e w'=>e=.returned (.tuple #[Dk.Dd.none.v none 0,.int .i64 11])∧Below w.heap.size w w':=by
 obtain ⟨W1,e1⟩:∃ W,W=w.alloc (.cells didz 45):=⟨_,rfl⟩
 have u1:Below w.heap.size w W1:=by rw [e1];exact Dk.zb (Below.refl _ _) _
 have b1:Dk.Box W1 w.heap.size didz 45:=by rw [e1];exact Dk.Box.new _ _ _
 have HB:Hid _:=b1
 have H1:Hid (w.alloc (.cells #[.bool false,.int .i64 0,.slice none 0 0,.bool false,.bool false,.bool false] 45)=W1):=e1.symm
 have hu:Below w.heap.size w (W1.setRow w.heap.size didz):=⟨u1.os,u1.tape,u1.output,by simp [World.setRow];exact u1.size,fun k hk=>(setRow_other W1 w.heap.size k _ (by omega)).trans (u1.block k hk)⟩
 have HU:Hid _:=hu
 clear e1 u1 b1 hu
 go_enter Tryz.func15,Tryz.ntmps15
 go_wp2_with (first | (rw [H1.out];clear H1) | (go_at_call 57;refine (zeb p _).mono ?_;rintro e w' ⟨rfl,ew⟩;subst w') | (refine wpList_store_row rfl 45 _ _ rfl w.heap.size didz rfl rfl 45 _ HB.out.heap zc rfl zcn ?_))
 have d0:=(HB.out.row (cs':=didz)).cell
 generalize W1.setRow w.heap.size didz=WX at *
 unfold didz at d0
 exact bodyPost_ret (v:=.tuple #[.agg didz,.int .i64 11]) (by simp [results,Tryz.results15,go_sem,d0,didz]) rfl ⟨rfl,HU.out⟩
theorem Step_no (h:Dk.LB S0 W w b l us) {p:Int} (hp:l.st.has p=false) (c:Int):Calls Tryz.prog 15 #[.pointer (some ⟨b,0,none⟩),.int .i64 p,.int .i64 c] w fun e w'=>e=.returned (.tuple #[Dk.Dd.none.v none 0,.int .i64 11])∧Dk.LB S0 W w' b l us:=by
 obtain ⟨W1,e1⟩:∃ W,W=w.alloc (.cells didz 45):=⟨_,rfl⟩
 have h1:=h.newBox e1
 have b1:Dk.Box W1 w.heap.size didz 45:=h1.get (t:=Dk.boxOf _ _ _) (by simp)
 have K:=zbx h1 p
 rw [hp] at K
 have h2:=Dk.LB.setRow (us1:=[]) h1 didz
 have HL:Hid _:=h2.drop
 have HB:Hid _:=b1
 have H1:Hid (w.alloc (.cells #[.bool false,.int .i64 0,.slice none 0 0,.bool false,.bool false,.bool false] 45)=W1):=e1.symm
 clear e1 h h1 h2 b1 hp
 go_enter Tryz.func15,Tryz.ntmps15
 go_wp2_with (first | (rw [H1.out];clear H1) | (go_at_call 57;refine K.mono ?_;rintro e w' ⟨rfl,ew⟩;subst w') | (refine wpList_store_row rfl 45 _ _ rfl w.heap.size didz rfl rfl 45 _ HB.out.heap zc rfl zcn ?_))
 have d0:=(HB.out.row (cs':=didz)).cell
 generalize W1.setRow w.heap.size didz=WX at *
 unfold didz at d0
 exact bodyPost_ret (v:=.tuple #[.agg didz,.int .i64 11]) (by simp [results,Tryz.results15,go_sem,d0,didz]) rfl ⟨rfl,HL.out⟩
theorem Step_yes (I:SpaceI F S0) (h:Dk.LB S0 W w b l us) (hok:F.ok l.s) {k:Nat} (hp:l.st.has (k:Int)=true) {c:Int} (hc:Dk.i64 c) (hf:l.st.fine):Calls Tryz.prog 15 #[.pointer (some ⟨b,0,none⟩),.int .i64 (k:Int),.int .i64 c] w fun e w'=>∃ A C,e=.returned (.tuple #[(l.st.step F k c).2.v A C,.int .i64 0])∧∃ l':Dk.Lb σ,l'.st=(l.st.step F k c).1∧Dk.LB S0 W w' b l' (Dk.rowOf 3 1 (.slice A (l.st.step F k c).2.e.woken.length C) (l.st.step F k c).2.e.woken.length (Dk.is (l.st.step F k c).2.e.woken)::us):=by
 obtain ⟨W1,e1⟩:∃ W,W=w.alloc (.cells didz 45):=⟨_,rfl⟩
 have h1:=h.newBox e1
 have K:=zbx h1 (k:Int)
 rw [hp] at K
 obtain ⟨k',ek,hk⟩:=Dk.has_lt hp
 obtain rfl:k=k':=by omega
 rw [l.zab] at hk
 have K2:=step_l I h1 hok hk hc hf
 obtain ⟨X,hX⟩:∃ X,l.st.step F k c=X:=⟨_,rfl⟩
 rw [hX] at K2 ⊢
 obtain ⟨Y,d⟩:=X
 dsimp only at K2 ⊢
 have H1:Hid (w.alloc (.cells #[.bool false,.int .i64 0,.slice none 0 0,.bool false,.bool false,.bool false] 45)=W1):=e1.symm
 clear e1 h h1 hp hX hf hc hok ek hk
 go_enter Tryz.func15,Tryz.ntmps15
 go_wp2_with (first | (rw [H1.out];clear H1) | (go_at_call 57;refine K.mono ?_;rintro e w' ⟨rfl,ew⟩;subst w'))
 refine K2.mono ?_
 rintro e w2 ⟨A,C,rfl,l2,hl2,h2⟩
 have b2:Dk.Box w2 w.heap.size didz 45:=h2.get (t:=Dk.boxOf _ _ _) (by simp)
 have h3:=Dk.LB.setRow (us1:=[_]) h2 #[.bool d.cm,.int .i64 d.t,.slice A d.e.woken.length C,.bool d.e.st,.bool d.e.en,.bool d.e.ye]
 have HL:Hid _:=And.intro hl2 (h3.sub (((List.Sublist.refl us).cons _).cons_cons _))
 have HB:Hid _:=b2
 clear b2 h2 h3 hl2 K K2
 go_wp2_with (refine wpList_store_row rfl 45 _ _ rfl w.heap.size #[.bool d.cm,.int .i64 d.t,.slice A d.e.woken.length C,.bool d.e.st,.bool d.e.en,.bool d.e.ye] rfl rfl 45 _ HB.out.heap zc rfl (zh _ _ _ _ _ _ _ _) ?_)
 have d0:=(HB.out.row (cs':=#[.bool d.cm,.int .i64 d.t,.slice A d.e.woken.length C,.bool d.e.st,.bool d.e.en,.bool d.e.ye])).cell
 generalize w2.setRow w.heap.size #[.bool d.cm,.int .i64 d.t,.slice A d.e.woken.length C,.bool d.e.st,.bool d.e.en,.bool d.e.ye]=WX at *
 exact bodyPost_ret (v:=.tuple #[d.v A C,.int .i64 0]) (by simp [results,Tryz.results15,go_sem,d0]) rfl ⟨A,C,rfl,l2,HL.out.1,HL.out.2⟩
theorem zih (p:Int) (w:World):Calls Tryz.prog 16 #[.pointer none,.int .i64 p] w fun e w'=>e=.returned (.bool false)∧w'=w:=by
 go_enter Tryz.func16,Tryz.ntmps16
 go_wp2_with (first | (go_at_call 59;refine (zdr p _).mono ?_;rintro e w' ⟨rfl,ew⟩;subst w'))
 go_ret
 exact ⟨rfl,rfl⟩
theorem zhe (p:Int) (w:World):Calls Tryz.prog 17 #[.pointer none,.int .i64 p] w fun e w'=>e=.returned (.bool false)∧w'=w:=by
 go_enter Tryz.func17,Tryz.ntmps17
 go_wp2_with (first | (go_at_call 57;refine (zeb p _).mono ?_;rintro e w' ⟨rfl,ew⟩;subst w'))
 go_ret
 exact ⟨rfl,rfl⟩
theorem zfq (p:Int) (w:World):Calls Tryz.prog 18 #[.pointer none,.int .i64 p] w fun e w'=>e=.returned (.bool false)∧w'=w:=by
 go_enter Tryz.func18,Tryz.ntmps18
 go_wp2_with (first | (go_at_call 57;refine (zeb p _).mono ?_;rintro e w' ⟨rfl,ew⟩;subst w'))
 go_ret
 exact ⟨rfl,rfl⟩
theorem zhd (w:World):Calls Tryz.prog 24 #[.pointer none] w fun e w'=>e=.returned (.bool false)∧w'=w:=by
 go_enter Tryz.func24,Tryz.ntmps24
 go_wp2_with fail
 go_ret
 exact ⟨rfl,rfl⟩
theorem Locked_l (h:Dk.LB S0 W w b l us):Calls Tryz.prog 24 #[.pointer (some ⟨b,0,none⟩)] w fun e w'=>e=.returned (.bool l.st.lk)∧w'=w:=by
 have c4:w.cell? ⟨b,4,none⟩=some (.bool l.lk):=h.box.cell 4
 rw [show l.st.lk=l.lk from rfl]
 generalize l.lk=x at *
 clear h
 go_enter Tryz.func24,Tryz.ntmps24
 go_wp2_with fail
 go_ret
 exact ⟨by simp,rfl⟩
theorem ziq (w:World):Calls Tryz.prog 25 #[.pointer none] w fun e w'=>e=.returned (.slice none 0 0)∧w'=w:=by
 go_enter Tryz.func25,Tryz.ntmps25
 go_wp2_with fail
 go_ret
 exact ⟨rfl,rfl⟩
theorem zfr (w:World):Calls Tryz.prog 22 #[.pointer none] w fun e w'=>e=.returned (.slice none 0 0)∧w'=w:=by
 go_enter Tryz.func22,Tryz.ntmps22
 go_wp2_with fail
 go_ret
 exact ⟨rfl,rfl⟩
theorem zis (w:World):Calls Tryz.prog 26 #[.pointer none] w fun e w'=>e=.returned (.pointer none)∧w'=w:=by
 go_enter Tryz.func26,Tryz.ntmps26
 go_wp2_with fail
 go_ret
 exact ⟨rfl,rfl⟩
theorem zhf (w:World):Calls Tryz.prog 27 #[.pointer none] w fun e w'=>e=.returned (.pointer none)∧w'=w:=by
 go_enter Tryz.func27,Tryz.ntmps27
 go_wp2_with fail
 go_ret
 exact ⟨rfl,rfl⟩
def vz:Array Value:=#[.int .i64 0,.int .i64 0,.slice none 0 0]
theorem vz_all:vz.all (·.oneCell')=true:=by simp [vz,Value.oneCell']
theorem zik (p:Int) (w:World):Calls Tryz.prog 23 #[.pointer none,.int .i64 p] w fun e w'=>e=.returned (.tuple #[.agg vz,.bool false])∧Below w.heap.size w w':=by
 obtain ⟨W1,e1⟩:∃ W,W=w.alloc (.cells vz 55):=⟨_,rfl⟩
 have u1:Below w.heap.size w W1:=by rw [e1];exact Dk.zb (Below.refl _ _) _
 have b1:Dk.Box W1 w.heap.size vz 55:=by rw [e1];exact Dk.Box.new _ _ _
 have HB:Hid _:=b1
 have H1:Hid (w.alloc (.cells #[.int .i64 0,.int .i64 0,.slice none 0 0] 55)=W1):=e1.symm
 have HU:Hid (Below w.heap.size w (W1.setRow w.heap.size vz)):=⟨u1.os,u1.tape,u1.output,by simp [World.setRow];exact u1.size,fun k hk=>(setRow_other W1 w.heap.size k _ (by omega)).trans (u1.block k hk)⟩
 clear e1 u1 b1
 go_enter Tryz.func23,Tryz.ntmps23
 go_wp2_with (first | (rw [H1.out];clear H1) | (go_at_call 57;refine (zeb p _).mono ?_;rintro e w' ⟨rfl,ew⟩;subst w') | (refine wpList_store_row rfl 55 _ _ rfl w.heap.size vz rfl rfl 55 _ HB.out.heap zz rfl vz_all ?_))
 have d0:=(HB.out.row (cs':=vz)).cell
 generalize W1.setRow w.heap.size vz=WX at *
 unfold vz at d0
 exact bodyPost_ret (v:=.tuple #[.agg vz,.bool false]) (by simp [results,Tryz.results23,go_sem,d0,vz]) rfl ⟨rfl,HU.out⟩
end
section
variable {σ : Type} {F : Dk.SpF σ} {S0 : Nat → σ → List Dk.Thing → Prop} {W w w' : World} {b : Nat} {l : Dk.Lb σ} {us : List Dk.Thing}
theorem Grant_no (h:Dk.LB S0 W w b l us) {p:Int} (hp:l.st.isP p=false∨l.st.has p=true):Calls Tryz.prog 16 #[.pointer (some ⟨b,0,none⟩),.int .i64 p] w fun e w'=>e=.returned (.bool false)∧w'=w:=by
 have K1:=zb5 h p
 have K2:=zbx h p
 cases hq:l.st.isP p with
 | false=>
  rw [hq] at K1
  clear h hp hq
  go_enter Tryz.func16,Tryz.ntmps16
  go_wp2_with (first | (go_at_call 59;refine K1.mono ?_;rintro e w' ⟨rfl,ew⟩;subst w'))
  go_ret
  exact ⟨rfl,rfl⟩
 | true=>
  have hh:l.st.has p=true:=hp.elim (fun e=>by rw [hq] at e;cases e) id
  rw [hq] at K1
  rw [hh] at K2
  clear h hp hq hh
  go_enter Tryz.func16,Tryz.ntmps16
  go_wp2_with (first | (go_at_call 59;refine K1.mono ?_;rintro e w' ⟨rfl,ew⟩;subst w') | (go_at_call 57;refine K2.mono ?_;rintro e w' ⟨rfl,ew⟩;subst w'))
  go_ret
  exact ⟨rfl,rfl⟩
theorem zii (h:Dk.LB S0 W w b l us) {k:Nat} (hk:k < l.vs.length) (hh:l.st.has (k:Int)=false) (hs:l.st.small):Calls Tryz.prog 16 #[.pointer (some ⟨b,0,none⟩),.int .i64 (k:Int)] w fun e w'=>e=.returned (.bool true)∧∃ l':Dk.Lb σ,l'.st=l.st.grant k∧Dk.LB S0 W w' b l' us:=by
 have K1:=zb5 h (k:Int)
 have K2:=zbx h (k:Int)
 have hq:l.st.isP (k:Int)=true:=by unfold Dk.Ls.isP;rw [l.zab];simp [hk]
 rw [hq] at K1
 rw [hh] at K2
 have i1:(k:Int) < (l.vs.length:Int):=by omega
 have hn:=h.n64
 obtain ⟨W1,e1⟩:∃ W,W=w.alloc (.cells #[.int .i64 1,.int .i64 (-1),.int .i64 0] 59):=⟨_,rfl⟩
 have h1:=Dk.LB.litE (e:=⟨1,-1,0⟩) h (Dk.zci (by omega) (by unfold Dk.i64;omega)) e1
 have hd:=h1.below (Dk.zm (Below.refl W1.heap.size W1))
 have c2:W1.drew.cell? ⟨b,2,none⟩=some (.slice (some ⟨l.vb,0,none⟩) l.vs.length l.vC):=hd.box.cell 2
 have c3:W1.drew.cell? ⟨b,3,none⟩=some (.slice l.wA l.wL l.wC):=hd.box.cell 3
 have hwl:=hd.wt.len
 have hs1:l.ws.length≤1000000:=hs.1
 have KJ:=za5 (hd.get (List.mem_cons_self ..)).1 hd.wt (by omega)
 have HOK:Hid (∀ e ∈ [(⟨1,-1,0⟩:Dk.Ev)]++l.ws,e.ok):=fun e he=>(List.mem_append.1 he).elim (fun he=>by
  rw [List.mem_singleton] at he
  subst he
  exact Dk.zci (by omega) (by unfold Dk.i64;omega)) (hd.wt.wf e)
 have HLEN:Hid (([(⟨1,-1,0⟩:Dk.Ev)]++l.ws).length=1+l.wL):=by rw [List.length_append,hwl];exact rfl
 have HC:Hid _:=And.intro c2 c3
 have HH:Hid _:=hd
 have HK:Hid _:=hk
 have H1:Hid _:=e1.symm
 have hw2:1+l.wL≤1000001:=by omega
 have hg:l.st.grant k={ l.st with ws:=[],vs:=l.st.vs.set k ⟨1,-1,[(⟨1,-1,0⟩:Dk.Ev)]++l.ws⟩ }:=rfl
 rw [hg]
 clear h h1 hd c2 c3 e1 hq hh hs hwl hs1 hk hg
 generalize [(⟨1,-1,0⟩:Dk.Ev)]++l.ws=es at *
 go_enter Tryz.func16,Tryz.ntmps16
 go_wp2_with (first | (go_at_call 59;refine K1.mono ?_;rintro e w' ⟨rfl,ew⟩;subst w') | (go_at_call 57;refine K2.mono ?_;rintro e w' ⟨rfl,ew⟩;subst w') | (rw [H1.out];clear H1))
 refine Dk.zq (S:=fun w'=>w'.cell? ⟨b,2,none⟩=some (.slice (some ⟨l.vb,0,none⟩) l.vs.length l.vC)∧w'.cell? ⟨b,3,none⟩=some (.slice l.wA l.wL l.wC)) [(true,0),(true,1),(true,2),(true,3),(true,4),(true,5),(true,6),(true,7),(true,8),(true,9),(false,10),(false,11),(true,12),(false,13)] (by kernel_rfl) (by kernel_rfl) (by kernel_rfl) rfl HC.out ?_
 iterate 10 (refine Dk.zj rfl rfl (fun w' hw'=>by obtain ⟨q0,q1⟩:=hw';go_simp;try rfl) ?_;simp only [zD])
 refine Dk.zad (f:=61) (args:=#[.slice (some ⟨w.heap.size,0,none⟩) 1 1,.slice l.wA l.wL l.wC]) rfl rfl (by go_simp) ?_
 refine KJ.mono ?_
 rintro e w3 ⟨B3,D3,rfl,s3⟩
 have h3:=(Dk.LB.onto HH.out s3).toEv HLEN.out HOK.out
 have KN:=zil (h3.get (List.mem_cons_self ..)).1 (by omega)
 refine ⟨_,rfl,⟨h3.box.cell 2,h3.box.cell 3⟩,?_⟩
 simp only [zD]
 refine Dk.zad (f:=60) (args:=#[.slice B3 (1+l.wL) D3]) rfl rfl (by go_simp) ?_
 refine KN.mono ?_
 rintro e w4 ⟨B4,D4,rfl,s4⟩
 have h4:=(Dk.LB.onto h3 s4).toEv HLEN.out HOK.out
 have ht4:=h4.there HK.out
 have h5:=h4.setV (m:=1) (t:=-1) HK.out (by unfold Dk.i64;omega) (by unfold Dk.i64;omega)
 have d2:(w4.setCells l.vb (k*3) [.int .i64 1,.int .i64 (-1),.slice B4 (1+l.wL) D4]).cell? ⟨b,2,none⟩=some (.slice (some ⟨l.vb,0,none⟩) (l.vs.set k ⟨1,-1,B4,1+l.wL,D4,es⟩).length l.vC):=h5.box.cell 2
 have d3:(w4.setCells l.vb (k*3) [.int .i64 1,.int .i64 (-1),.slice B4 (1+l.wL) D4]).cell? ⟨b,3,none⟩=some (.slice l.wA l.wL l.wC):=h5.box.cell 3
 have f3:=h5.box.frozen 3
 rw [List.length_set] at d2
 have h6:=(h5.drop.drop.nilEv).setW
 have HL:Hid (∃ l':Dk.Lb σ,l'.st={ l.st with ws:=[],vs:=l.st.vs.set k ⟨1,-1,es⟩ }∧Dk.LB S0 W ((w4.setCells l.vb (k*3) [.int .i64 1,.int .i64 (-1),.slice B4 (1+l.wL) D4]).setCell ⟨b,3,none⟩ (.slice none 0 0)) b l' us):=⟨_,by
  unfold Dk.Lb.st
  simp only [List.map_set]
  rfl,h6⟩
 refine ⟨_,rfl,⟨h4.box.cell 2,h4.box.cell 3⟩,?_⟩
 simp only [zD]
 refine Dk.zj (v:=.pointer (some ⟨l.vb,k*3,none⟩)) rfl rfl (fun w' hw'=>by go_simp) ?_
 simp only [zD]
 refine Dk.zaq rfl rfl ?_
 refine wp_store_mid 55 _ _ rfl l.vb (k*3) #[.int .i64 1,.int .i64 (-1),.slice B4 (1+l.wL) D4] rfl rfl ht4 zz (zah _ _ _ _ _) ?_
 refine ⟨⟨d2,d3⟩,?_⟩
 simp only [zD]
 show NoPanic _ Exit.normal _ _
 refine NoPanic.normal ?_
 clear K1 K2 KJ KN h3 h4 h5 h6 s3 s4 ht4 HH HC HK
 go_wp2_with fail
 go_ret
 exact ⟨rfl,HL.out⟩
end
end Go.Proofs.YtpnajphbjfehnaaGreat
namespace Dk
open Go Go.RowKit
def lbF:SpF Nat:={
 ready:=fun s=>if s≤1 then [0] else []
 cls:=fun s t=>if t=0 then (if s=0 then 1 else if s=1 then 2 else 0) else 0
 run:=fun s t _=>if t=0 then (if s=0 then 1 else 2) else s
 eff:=fun s t _=>⟨[],false,decide (t=0∧s=1),false⟩
 err:=fun s t _=>if t=0 then (if s≤1 then 0 else 4) else 1
 ok:=fun s=>s≤2 }
def Sp.ready (q:Sp):List Int:=(usl q.st 16).filter fun x=>(q.thr x.toNat).why == 0
end Dk
namespace Go.Proofs.YtpnajphbjfehnaaGreat
open Go.RowKit Go.Lib
section
variable {W w w' : World} {L : Dk.Loc} {q : Dk.Sp} {k n : Nat} {us us' us1 us2 : List Dk.Thing} {t : Dk.Thing}
theorem zir (h:Cor W w L q k us) (h16:q.st.length=16) :
  Calls Tryz.prog 30 #[.pointer (some ⟨L.b,0,none⟩)] w fun e w'=>∃ A C,e=.returned (.slice A q.ready.length C)∧Cor W w' L q k (Dk.rowOf 3 1 (.slice A q.ready.length C) q.ready.length (Dk.is q.ready)::us):=by
 obtain ⟨ks,hks,hT,_⟩:=h.slots
 have c9:=h.slotPtr
 have K:=Used_any L.bt L.bs ks q.st w hT
 rw [h16] at K
 have HH:Hid (Cor W w L q k us):=h
 have hml:(Dk.usl q.st 16).length≤16:=Dk.zge q.st 16
 have hmem:∀ x ∈ Dk.usl q.st 16,∃ j:Nat,x=j∧j < 16:=fun x hx=>by obtain ⟨j,e,hj,_⟩:=Dk.zkv hx;exact ⟨j,e,hj⟩
 unfold Dk.Sp.ready
 generalize Dk.usl q.st 16=xs at *
 have HM:Hid (∀ x ∈ xs,∃ j:Nat,x=j∧j < 16):=hmem
 obtain ⟨m,em⟩:∃ m,m=xs.length:=⟨_,rfl⟩
 rw [← em] at K hml
 have EM:Hid _:=em
 clear em hmem h hT h16
 go_enter Tryz.func30,Tryz.ntmps30
 go_wp2_with fail
 refine K.mono ?_
 rintro e w1 ⟨A,C,rfl,hS,u1⟩
 have h1:=HH.out.below u1
 have HS:Hid (Dk.SlI w1.heap.size w1 A m C xs):=hS
 have HC:Hid (Cor W w1 L q k us):=h1
 have s0:Dk.Sep w1 w1 [Dk.rowOf 3 1 (.slice none 0 0) 0 (Dk.is [])]:=(Dk.Sep.begin (Below.refl _ _)).addRow (Below.refl _ _) (World.ownsRow_nil _ _ _ _)
 clear K c9 hS h1 HH u1
 go_wp2_with fail
 go_loopw [3,14] (fun v i w'=>∃ (j o:Nat) (A':Option Addr) (C':Nat),j≤m∧o≤j∧i=.int .i64 j∧v=.slice A' o C'∧Dk.Sep w1 w' [Dk.rowOf 3 1 (.slice A' o C') o (Dk.is ((xs.take j).filter fun x=>(q.thr x.toNat).why == 0))]) (fun v i w'=>m - (intOf i).toNat)
 case atStart=>exact ⟨0,0,none,0,Nat.zero_le _,Nat.le_refl _,rfl,rfl,by simpa using s0⟩
 case round=>
  obtain ⟨j,o,A',C',hj,ho,rfl,rfl,hs⟩:=hrel
  clear s0
  by_cases hlt:j < m
  ·have hlt':j < xs.length:=by have:=EM.out;omega
   obtain ⟨x,ex⟩:∃ x,xs[j]? = some x:=⟨_,List.getElem?_eq_getElem hlt'⟩
   obtain ⟨y,rfl,hy⟩:=HM.out x (List.mem_of_getElem? ex)
   obtain ⟨b,o2,rfl,hb,hc⟩:=HS.out.cells (by omega)
   have hc':=hc j hlt
   rw [List.getD_eq_getElem?_getD,ex] at hc'
   have c1:wr.cell? ⟨b,o2+j,none⟩=some (.int .i64 (y:Int)):=by rw [hs.out.cell (by show b < w1.heap.size;exact hb)];exact hc'
   have hCr:=HC.out.below hs.out
   have c2:wr.cell? ⟨L.b,10+y*20+10,none⟩=some (.int .i64 (q.thr y).why):=hCr.cellAt hy 10 (by omega)
   have i1:(y:Int) < 16:=by omega
   have i2:(0:Int)≤(y:Int):=by omega
   have et:xs.take (j+1)=xs.take j++[(y:Int)]:=by rw [List.take_add_one,ex];rfl
   have ET:Hid _:=et
   have EX:Hid _:=ex
   clear et ex hc hc' hCr
   by_cases hw:(q.thr y).why=0
   ·rw [hw] at c2
    have hF:(xs.take (j+1)).filter (fun x=>(q.thr x.toNat).why == 0)=(xs.take j).filter (fun x=>(q.thr x.toNat).why == 0)++[(y:Int)]:=by
     rw [ET.out,List.filter_append]
     simp [hw]
    obtain ⟨v',w4,hrun,h4,_⟩:=Dk.Sep.appendK (us1:=[]) (us2:=[]) K26T hs [.int .i64 (y:Int)] rfl (by simp [Value.oneCell']) (by omega)
    have e4:Dk.is ((xs.take j).filter fun x=>(q.thr x.toNat).why == 0)++[.int .i64 (y:Int)]=Dk.is ((xs.take (j+1)).filter fun x=>(q.thr x.toNat).why == 0):=by rw [hF];simp
    rw [e4] at h4
    obtain ⟨Av',Cv',ev',_,_⟩:=Dk.zf (h4.row (e:=3) (s:=1) (v:=v') (n:=o+1) (xs:=Dk.is ((xs.take (j+1)).filter fun x=>(q.thr x.toNat).why == 0)) (by simp))
    subst ev'
    have HF:Hid _:=hF
    clear hs hF e4 hw
    go_wp2_with (at_builtin;refine Lib.wpList_append_run _ rfl _ _ _ _ rfl _ _ rfl rfl _ _ hrun ?_)
    go_roundw
    case rel=>exact ⟨j+1,o+1,Av',Cv',by omega,by omega,by go_num,rfl,h4⟩
    case measure=>simp [intOf];omega
   ·have hF:(xs.take (j+1)).filter (fun x=>(q.thr x.toNat).why == 0)=(xs.take j).filter (fun x=>(q.thr x.toNat).why == 0):=by
     rw [ET.out,List.filter_append]
     simp [hw]
    rw [← hF] at hs
    have HW:Hid (¬ (q.thr y).why=0):=hw
    generalize (q.thr y).why=wy at *
    clear hF HW
    go_wp2_with fail
    go_roundw
    case rel=>exact ⟨j+1,o,A',C',by omega,by omega,by go_num,rfl,hs⟩
    case measure=>simp [intOf];omega
  ·obtain rfl:j=m:=by omega
   have z1:decide ((j:Int) < (j:Int))=false:=decide_eq_false (by omega)
   have e:xs.take j=xs:=List.take_of_length_le (by have:=EM.out;omega)
   rw [e] at hs
   have hr:=hs.row (e:=3) (s:=1) (v:=.slice A' o C') (n:=o) (xs:=Dk.is (xs.filter fun x=>(q.thr x.toNat).why == 0)) (by simp)
   have ho2:o=(xs.filter fun x=>(q.thr x.toNat).why == 0).length:=by
    have:=hr.1
    simpa using this.symm
   have hC:=HC.out.addRow hs.out hr
   generalize eY:(xs.filter fun x=>(q.thr x.toNat).why == 0)=ys at *
   have EY:Hid _:=eY
   subst ho2
   clear hs hr e eY
   go_wp2_with fail
   go_ret
   exact ⟨A',C',by rw [EY.out];rfl,by rw [EY.out];exact hC⟩
end
end Go.Proofs.YtpnajphbjfehnaaGreat
namespace Dk
open Go Go.RowKit
def lbP:Prg:=⟨[[⟨1,1,0,0,5⟩]],0,0,0,[],[],0,0⟩
def lb0:Sp:=Sp.fresh lbP
def lbI:Ins:=⟨1,1,0,0,5⟩
def lb1:Sp:={ lb0 with mem:=doneM (lb0.thr 0).f lbI lb0.mem,thr:=upd lb0.thr 0 { lb0.thr 0 with f:=doneF (lb0.thr 0).f lbI lb0.mem } }
def lb2:Sp:=(lb1.exit 0 0).1
def lbq (s:Nat):Sp:=if s=0 then lb0 else if s=1 then lb1 else lb2
theorem lb_check:check lbP=0:=by decide +kernel
theorem zei:(lbq 0).ready=[0]∧(lbq 1).ready=[0]∧(lbq 2).ready=[]:=by decide +kernel
theorem zf8:nextI lb0.prog (lb0.thr 0).f=lbI∧nextB lb0.prog (lb0.thr 0).f=true∧nextB lb1.prog (lb1.thr 0).f=false:=⟨rfl,by decide +kernel,by decide +kernel⟩
theorem zhx:us lb0.st 0=true∧us lb1.st 0=true∧us lb2.st 0=true:=by decide +kernel
theorem zds:(lb0.thr 0).why=0∧(lb1.thr 0).why=0∧(lb2.thr 0).why≠0:=by decide +kernel
theorem lb_len:lb0.st.length=16∧lb1.st.length=16∧lb2.st.length=16:=by decide +kernel
theorem lb_mem:lb0.mem.length=0:=by decide +kernel
theorem zjt:∀ n,n < 16→n≠0→us lb0.st n=false∧us lb1.st n=false∧us lb2.st n=false:=by decide +kernel
theorem lb_det:(lb1.thr 0).det=false∧(lb1.thr 0).joined=false:=by decide +kernel
theorem zeh:faultB (lb0.thr 0).f lbI lb0.mem.length=false∧codeB lbI=true∧seenB lbI.op=false:=by decide +kernel
def lbS (b:Nat) (s:Nat) (ts:List Thing):Prop:=∃ L:Loc,L.b=b∧∀ (W w:World) (us:List Thing),Sep W w (us++ts)→Go.Proofs.YtpnajphbjfehnaaGreat.Cor W w L (lbq s) 10 us
end Dk
namespace Go.Proofs.YtpnajphbjfehnaaGreat
open Go.RowKit Go.Lib
section
variable {W w w' : World} {L : Dk.Loc} {q : Dk.Sp} {k n : Nat} {us : List Dk.Thing}
theorem Cor.things (h:Cor W w L q k us):∃ ts,Dk.Sep W w (us++ts)∧∀ (W w:World) (us:List Dk.Thing),Dk.Sep W w (us++ts)→Cor W w L q k us:=by
 obtain ⟨ks,kw,vm,vr,vs,td,tt,tg,h1,h2,h3,h4,h5,h6,h7,h8,h8',h9⟩:=Hid.out h
 exact ⟨_,h9,fun W w us s=>⟨ks,kw,vm,vr,vs,td,tt,tg,h1,h2,h3,h4,h5,h6,h7,h8,h8',s⟩⟩
theorem zbo {s:Nat} (h:Cor W w L (Dk.lbq s) 10 us):∃ ts,Dk.lbS L.b s ts∧Dk.Sep W w (us++ts):=by
 obtain ⟨ts,s1,f⟩:=h.things
 exact ⟨ts,⟨L,rfl,f⟩,s1⟩
end
end Go.Proofs.YtpnajphbjfehnaaGreat
namespace Dk
theorem zgy:(lbq 0).classB 0=1∧(lbq 1).classB 0=2:=by decide +kernel
theorem zjr:(lb1.exit 0 0).2.woken=[]∧(lb1.exit 0 0).2.stopped=false∧(lb1.exit 0 0).2.ended=true∧(lb1.exit 0 0).2.yielded=false∧lb1.recs.length=0:=by decide +kernel
theorem us_out {q:Sp} {n:Nat} (h:q.st.length≤n):us q.st n=false:=by
 unfold us
 rw [List.getD_eq_getElem?_getD,List.getElem?_eq_none h]
 rfl
theorem zju {s:Nat} (hs:s≤2) {t:Int} (ht:t≠0):(lbq s).usedB t=false:=by
 unfold Sp.usedB
 by_cases h0:0≤t
 ·rw [decide_eq_true h0,Bool.true_and]
  have hn:t.toNat≠0:=by omega
  by_cases h16:t.toNat < 16
  ·have h:=zjt t.toNat h16 hn
   rcases (show s=0∨s=1∨s=2 by omega) with rfl | rfl | rfl
   ·exact h.1
   ·exact h.2.1
   ·exact h.2.2
  ·refine us_out ?_
   have h:=lb_len
   rcases (show s=0∨s=1∨s=2 by omega) with rfl | rfl | rfl
   ·show lb0.st.length≤_;omega
   ·show lb1.st.length≤_;omega
   ·show lb2.st.length≤_;omega
 ·rw [decide_eq_false h0,Bool.false_and]
theorem zjs:(lb0.thr 0).f.ok∧lbI.ok:=⟨⟨by unfold i64;decide +kernel,by unfold i64;decide +kernel,fun k=>by
 have h:∀ j,(lb0.thr 0).f.r j=0:=fun j=>by
  show (if j=0 then 0 else 0)=0
  split <;> rfl
 rw [h];decide⟩,by unfold i64 lbI;decide,by unfold i64 lbI;decide,by unfold i64 lbI;decide,by unfold i64 lbI;decide,by unfold lbI;decide⟩
theorem lb_cls {s:Nat} (hs:s≤2):lbF.ready s=(lbq s).ready:=by
 rcases (show s=0∨s=1∨s=2 by omega) with rfl | rfl | rfl
 ·exact zei.1.symm
 ·exact zei.2.1.symm
 ·exact zei.2.2.symm
end Dk
namespace Go.Proofs.YtpnajphbjfehnaaGreat
open Go.RowKit Go.Lib
section
variable {W w w' : World} {L : Dk.Loc} {q : Dk.Sp} {k n : Nat} {us : List Dk.Thing}
theorem lb_set (h:Cor W w L Dk.lb0 10 us) (c:Int):Calls Tryz.prog 142 #[.pointer (some ⟨L.b,0,none⟩),.int .i64 (0:Nat),.int .i64 c] w (Ef0 W L Dk.lb1 10 ⟨[],false,false,false⟩ us):=by
 refine zkl h (by omega) (n:=0) (by omega) Dk.zhx.1 Dk.zds.1 Dk.lbI Dk.zf8.1 true Dk.zf8.2.1 rfl (by decide) (by decide +kernel) ?_
 intro w us h
 refine (ze6 h (by omega) (n:=0) (by omega) Dk.lbI Dk.zjs.1 Dk.zjs.2 (by rw [Dk.lb_mem];omega) Dk.zeh.1 Dk.zeh.2.1 Dk.zeh.2.2 rfl).mono ?_
 rintro e w' ⟨he,h'⟩
 exact ⟨none,0,he,h'.nil⟩
theorem lb_last (h:Cor W w L Dk.lb1 10 us) (c:Int):Calls Tryz.prog 142 #[.pointer (some ⟨L.b,0,none⟩),.int .i64 (0:Nat),.int .i64 c] w (Ef0 W L Dk.lb2 10 ⟨[],false,true,false⟩ us):=by
 refine run_last h (by omega) (n:=0) (by omega) Dk.zhx.2.1 Dk.zds.2.1 _ rfl false Dk.zf8.2.2 rfl ?_
 intro w us h
 refine (exit_one h (by omega) (n:=0) (by omega) 0 Dk.lb_det.1 Dk.lb_det.2 (by rw [Dk.zjr.2.2.2.2];omega)).mono ?_
 rintro e w' ⟨A,C,he,h'⟩
 rw [Dk.zjr.1] at he h'
 exact ⟨A,C,he,h'⟩
theorem zhw {b s:Nat} {ts:List Dk.Thing} (hS:Dk.lbS b s ts) (hw:Dk.Sep W w (us++ts)) (hs:s≤2):Calls Tryz.prog 30 #[.pointer (some ⟨b,0,none⟩)] w fun e w'=>∃ A C,e=.returned (.slice A (Dk.lbF.ready s).length C)∧∃ ts',Dk.lbS b s ts'∧Dk.Sep W w' ([Dk.rowOf 3 1 (.slice A (Dk.lbF.ready s).length C) (Dk.lbF.ready s).length (Dk.is (Dk.lbF.ready s))]++(us++ts')):=by
 obtain ⟨L,rfl,f⟩:=hS
 have h16:(Dk.lbq s).st.length=16:=by
  have h:=Dk.lb_len
  rcases (show s=0∨s=1∨s=2 by omega) with rfl | rfl | rfl
  ·exact h.1
  ·exact h.2.1
  ·exact h.2.2
 refine (zir (f _ _ _ hw) h16).mono ?_
 rintro e w' ⟨A,C,rfl,h'⟩
 rw [← Dk.lb_cls hs] at h'
 obtain ⟨ts',h1,h2⟩:=zbo h'
 exact ⟨A,C,by rw [Dk.lb_cls hs],ts',h1,h2⟩
theorem zhv {b s:Nat} {ts:List Dk.Thing} (hS:Dk.lbS b s ts) (hw:Dk.Sep W w (us++ts)) (hs:s≤2) (t:Int):Calls Tryz.prog 121 #[.pointer (some ⟨b,0,none⟩),.int .i64 t] w fun e w'=>e=.returned (.int .i64 (Dk.lbF.cls s t))∧∃ ts',Dk.lbS b s ts'∧Dk.Sep W w' ([]++(us++ts')):=by
 obtain ⟨L,rfl,f⟩:=hS
 have h:=f _ _ _ hw
 have key:Calls Tryz.prog 121 #[.pointer (some ⟨L.b,0,none⟩),.int .i64 t] w fun e w'=>e=.returned (.int .i64 (Dk.lbF.cls s t))∧Cor W w' L (Dk.lbq s) 10 us:=by
  by_cases ht:t=0
  ·subst ht
   rcases (show s=0∨s=1∨s=2 by omega) with rfl | rfl | rfl
   ·have:=zdg h (by omega) (n:=0) (by omega) Dk.zhx.1 Dk.zds.1
    rw [Dk.zgy.1] at this
    exact this
   ·have:=zdg h (by omega) (n:=0) (by omega) Dk.zhx.2.1 Dk.zds.2.1
    rw [Dk.zgy.2] at this
    exact this
   ·exact zfw h (by omega) (n:=0) (by omega) Dk.zhx.2.2 Dk.zds.2.2
  ·have e0:Dk.lbF.cls s t=0:=if_neg ht
   rw [e0]
   exact zja h (by omega) t (Dk.zju hs ht)
 refine key.mono ?_
 rintro e w' ⟨he,h'⟩
 obtain ⟨ts',h1,h2⟩:=zbo h'
 exact ⟨he,ts',h1,h2⟩
theorem lb_run_i {b s:Nat} {ts:List Dk.Thing} (hS:Dk.lbS b s ts) (hw:Dk.Sep W w (us++ts)) (hs:s≤2) (t c:Int):Calls Tryz.prog 142 #[.pointer (some ⟨b,0,none⟩),.int .i64 t,.int .i64 c] w fun e w'=>∃ A C,e=.returned (.tuple #[Dk.efv A C (Dk.lbF.eff s t c),.int .i64 (Dk.lbF.err s t c)])∧∃ ts',Dk.lbS b (Dk.lbF.run s t c) ts'∧Dk.Sep W w' ([Dk.rowOf 3 1 (.slice A (Dk.lbF.eff s t c).woken.length C) (Dk.lbF.eff s t c).woken.length (Dk.is (Dk.lbF.eff s t c).woken)]++(us++ts')):=by
 obtain ⟨L,rfl,f⟩:=hS
 have h:=f _ _ _ hw
 by_cases ht:t=0
 ·subst ht
  rcases (show s=0∨s=1∨s=2 by omega) with rfl | rfl | rfl
  ·refine (lb_set h c).mono ?_
   rintro e w' ⟨A,C,he,h'⟩
   obtain ⟨ts',h1,h2⟩:=zbo (s:=1) h'
   exact ⟨A,C,he,ts',h1,h2⟩
  ·refine (lb_last h c).mono ?_
   rintro e w' ⟨A,C,he,h'⟩
   obtain ⟨ts',h1,h2⟩:=zbo (s:=2) h'
   exact ⟨A,C,he,ts',h1,h2⟩
  ·refine (run_busy h (by omega) (n:=0) (by omega) Dk.zhx.2.2 Dk.zds.2.2).mono ?_
   rintro e w' ⟨he,h'⟩
   obtain ⟨ts',h1,h2⟩:=zbo (s:=2) h'.nil
   exact ⟨none,0,he,ts',h1,h2⟩
 ·have e1:Dk.lbF.eff s t c=⟨[],false,false,false⟩:=by
   unfold Dk.lbF
   dsimp only
   rw [decide_eq_false (fun h=>ht h.1)]
  have e2:Dk.lbF.err s t c=1:=if_neg ht
  have e3:Dk.lbF.run s t c=s:=if_neg ht
  rw [e1,e2,e3]
  refine (run_no h (by omega) t (Dk.zju hs ht)).mono ?_
  rintro e w' ⟨he,h'⟩
  obtain ⟨ts',h1,h2⟩:=zbo h'.nil
  exact ⟨none,0,he,ts',h1,h2⟩
theorem lbI_i:SpaceI Dk.lbF Dk.lbS:={
 ready:=fun hS hw hs=>zhw hS hw hs
 class_:=fun hS hw hs t _=>zhv hS hw hs t
 run:=fun hS hw hs t c _ _=>lb_run_i hS hw hs t c
 few:=fun s _=>⟨by
  unfold Dk.lbF
  dsimp only
  split
  ·exact ⟨by decide,fun t ht=>by rw [List.mem_singleton] at ht;subst ht;decide⟩
  ·exact ⟨by decide,fun t ht=>by cases ht⟩,fun t c=>⟨Nat.zero_le 64,fun x hx=>(List.not_mem_nil hx).elim⟩⟩ }
end
end Go.Proofs.YtpnajphbjfehnaaGreat
namespace Dk
open Go Go.RowKit
def lx0 (sp rb:Nat):Ls Nat:=(Go.Proofs.YtpnajphbjfehnaaGreat.blank 2 0 sp rb).tell (unbl (lbF.ready 0))
def lx1 (sp rb:Nat):Ls Nat:=(lx0 sp rb).grant 1
def lxs (sp rb:Nat):Nat→Ls Nat
 | 0=>lx1 sp rb
 | n+1=>((lxs sp rb n).step lbF 1 0).1
def lxd (sp rb:Nat) (n:Nat):Dd:=((lxs sp rb n).step lbF 1 0).2
def lxc (sp rb:Nat):Nat→Int
 | 0=>0
 | n+1=>lxc sp rb n+(if (lxd sp rb n).cm=true then 1 else 0)
def thrB (t:Int):Bool:=decide (0≤t) && decide (t < 16)
def Ev.goodB (e:Ev):Bool:=(!e.runs || thrB e.t) && (e.m != 7 || thrB e.t)
def Vw.goodB (v:Vw):Bool:=v.es.all Ev.goodB && (!(v.m == 5 || v.m == 6 || v.m == 7) || thrB v.t)
def Ls.fineB {σ:Type} (x:Ls σ):Bool:=decide (x.ws.length≤1000000) && x.vs.all fun v=>decide (v.es.length≤1000000) && v.goodB
theorem zko {t:Int} (h:thrB t=true):thr t:=by
 unfold thrB at h
 simp at h
 exact h
theorem Ev.good_of {e:Ev} (h:e.goodB=true):e.good:=by
 unfold Ev.goodB at h
 simp only [Bool.and_eq_true,Bool.or_eq_true,Bool.not_eq_true'] at h
 refine ⟨fun hr=>?_,fun hm=>?_⟩
 ·rcases h.1 with h1 | h1
  ·rw [hr] at h1;cases h1
  ·exact zko h1
 ·rcases h.2 with h1 | h1
  ·rw [hm] at h1;exact absurd h1 (by decide)
  ·exact zko h1
theorem Ls.zjk {σ:Type} {x:Ls σ} (h:x.fineB=true):x.fine:=by
 unfold Ls.fineB at h
 simp only [Bool.and_eq_true,List.all_eq_true,decide_eq_true_eq] at h
 refine ⟨⟨h.1,fun v hv=>(h.2 v hv).1⟩,fun v hv=>?_⟩
 have h2:=(h.2 v hv).2
 unfold Vw.goodB at h2
 simp only [Bool.and_eq_true,List.all_eq_true,Bool.or_eq_true,Bool.not_eq_true',Bool.or_eq_false_iff] at h2
 refine ⟨fun e he=>Ev.good_of (h2.1 e he),fun hm=>?_⟩
 rcases h2.2 with h3 | h3
 ·rcases hm with e | e | e <;> rw [e] at h3 <;> simp at h3
 ·exact zko h3
def lxB (sp rb n:Nat):Bool:=(lxs sp rb n).fineB && (lxs sp rb n).has 1 && decide ((lxs sp rb n).s≤2) && ((lxs sp rb n).vs.length == 2)
theorem lx_all (sp rb:Nat):(List.range 21).all (fun n=>lxB sp rb n)=true:=by kernel_rfl
theorem lx_at (sp rb:Nat) {n:Nat} (hn:n≤20):(lxs sp rb n).fine∧(lxs sp rb n).has 1=true∧(lxs sp rb n).s≤2∧(lxs sp rb n).vs.length=2:=by
 have h:=List.all_eq_true.1 (lx_all sp rb) n (List.mem_range.2 (by omega))
 unfold lxB at h
 simp only [Bool.and_eq_true,decide_eq_true_eq,beq_iff_eq] at h
 exact ⟨Ls.zjk h.1.1.1,h.1.1.2,h.1.2,h.2⟩
theorem lx_end (sp rb:Nat):lxc sp rb 20=2∧(lxs sp rb 20).has 0=false∧(lxs sp rb 20).lk=false∧Go.Proofs.YtpnajphbjfehnaaGreat.procsI (lxs sp rb 20)=[1]:=⟨by kernel_rfl,by kernel_rfl,by kernel_rfl,by kernel_rfl⟩
theorem lx0_ok (sp rb:Nat):(lx0 sp rb).small∧(lx0 sp rb).has 1=false∧(lx0 sp rb).vs.length=2∧(lx1 sp rb).has 1=true:=by
 have h:(lx0 sp rb).fineB=true:=by kernel_rfl
 exact ⟨(Ls.zjk h).1,by kernel_rfl,by kernel_rfl,by kernel_rfl⟩
theorem SlN.of_box {B:Nat} {w:World} {b:Nat} {xs:List Ins} {t:TypeId} (h:Box w b (xs.flatMap Ins.cells).toArray t) (hb:b < B) (hl:xs.length≤1000) (ok:∀ x ∈ xs,x.ok):SlN B w (some ⟨b,0,none⟩) xs.length xs.length xs:=by
 refine ⟨rfl,Nat.le_refl _,by unfold maxLen;omega,ok,fun _=>⟨b,0,rfl,hb,fun k hk=>?_⟩⟩
 have hx:xs[k]? = some xs[k]:=List.getElem?_eq_getElem hk
 have key:∀ r,r < 5→w.cell? ⟨b,0+k*5+r,none⟩=(xs[k]).cells[r]?:=fun r hr=>by
  rw [Nat.zero_add,h.cell,List.getElem?_toArray]
  exact flat_get Ins.len xs k r _ hx hr
 rw [List.getD_eq_getElem?_getD,hx]
 exact ⟨key 0 (by omega),key 1 (by omega),key 2 (by omega),key 3 (by omega),key 4 (by omega)⟩
end Dk
