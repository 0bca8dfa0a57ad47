import Derived.Test.YtglhhlfopccmaaaGreatOw32
set_option linter.unusedSimpArgs false
set_option linter.unusedVariables false
set_option linter.unnecessarySimpa false
set_option maxHeartbeats 8000000
set_option maxRecDepth 100000
namespace Dk
theorem Sp.zmr (q:Sp) (n m:Nat) (h:0 < m):(q.sleep n m).2=⟨m,0,(q.sleep n m).2.result,whyIf true (q.sleep n m).2.result 8 0,[],[]⟩:=by
 unfold Sp.sleep whyIf
 rw [if_neg (by omega)]
 split
 ·rfl
 ·split <;> rfl
theorem Sp.ask_deed (q:Sp) (n:Nat) (c:Bool) (x m:Nat) (b:Int):(q.askW n c x m b).2=⟨m,x,(q.askW n c x m b).2.result,whyIf true (q.askW n c x m b).2.result 5 0,[],[]⟩:=by
 unfold Sp.askW whyIf
 split
 ·rfl
 ·split <;> rfl
end Dk
namespace Go.Proofs.YtglhhlfopccmaaaGreat
open Go.RowKit Go.Lib
abbrev dnil:Array Value:=#[.int .u64 0,.int .u64 0,.int .i64 0,.int .i64 0,.slice none 0 0,.slice none 0 0]
theorem zaf (x y:Nat) (r why:Int):(#[.int .u64 (x:Nat),.int .u64 (y:Nat),.int .i64 r,.int .i64 why,.slice none 0 0,.slice none 0 0]:Array Value).all (·.oneCell')=true:=by simp [Value.oneCell']
section
variable {W w w' : World} {L : Dk.Loc} {q : Dk.Sp} {k n : Nat} {us us' us1 us2 : List Dk.Thing} {t : Dk.Thing}
theorem zpx (h:Cor W w L q k us) (hk:k < 100000) (hn:n < 16) (m:Nat) (hm:0 < m) :
  Calls Tryz.prog 131 #[.pointer (some ⟨L.b,0,none⟩),.int .i64 (n:Int),.int .u64 (m:Nat)] w fun e w'=>e=.returned (dval none none 0 0 (q.sleep n m).2)∧Cor W w' L (q.sleep n m).1 (k+1) us:=by
 obtain ⟨W1,e1⟩:∃ W1,W1=w.alloc (.cells dnil 204):=⟨_,rfl⟩
 obtain ⟨W2,e2⟩:∃ W2,W2=W1.alloc (.cells #[.int .u64 (m:Nat),.int .u64 0,.int .i64 0,.int .i64 0,.slice none 0 0,.slice none 0 0] 204):=⟨_,rfl⟩
 have h2:=(h.newBox e1).newBox e2
 have c333:=h2.wheelPtr
 have K:=wheelSleep h2 hk hn m hm
 rw [Dk.Sp.zmr q n m hm]
 have y1:decide ((m:Int) > 0)=true:=by simp;omega
 have y2:decide (0 < m)=true:=by simp;omega
 generalize (q.sleep n m).2.result=r at *
 generalize (q.sleep n m).1=qz at *
 generalize eY:Dk.whyIf true r 8 0=why
 have EY:Hid _:=eY
 clear eY
 have H1:Hid _:=e1.symm
 have H2:Hid _:=e2.symm
 clear h h2 e1 e2
 go_enter Tryz.func131,Tryz.ntmps131
 go_wp2_with (first | (rw [H1.out];clear H1) | (rw [H2.out];clear H2))
 refine K.mono ?_
 rintro e w3 ⟨rfl,h3⟩
 have b3:Dk.Box w3 W1.heap.size #[.int .u64 (m:Nat),.int .u64 0,.int .i64 0,.int .i64 0,.slice none 0 0,.slice none 0 0] 204:=h3.box (by simp)
 have c2:w3.cell? ⟨W1.heap.size,2,none⟩=some (.int .i64 0):=b3.cell 2
 have f2:=b3.frozen 2
 obtain ⟨W4,e4⟩:∃ W4,W4=w3.setCell ⟨W1.heap.size,2,none⟩ (.int .i64 r):=⟨_,rfl⟩
 have h4:Cor W W4 L qz (k+1) (bxD W1.heap.size m 0 r 0 (.slice none 0 0) (.slice none 0 0)::Dk.boxOf w.heap.size dnil 204::us):=by rw [e4];exact h3.setBox (o:=2) (.int .i64 r)
 have K2:=zaw W1.heap.size m 0 r 0 (.slice none 0 0) (.slice none 0 0) h4 true 8
 have H4:Hid _:=e4.symm
 clear K h3 h4 b3 e4 c333
 go_wp2_with (rw [H4.out];clear H4)
 refine K2.mono ?_
 rintro e w5 ⟨rfl,h5⟩
 rw [EY.out] at h5
 have b5:Dk.Box w5 W1.heap.size #[.int .u64 (m:Nat),.int .u64 0,.int .i64 r,.int .i64 why,.slice none 0 0,.slice none 0 0] 204:=h5.box (by simp [bxD,dcs])
 have c5:=b5.cell
 have z5:Dk.Box w5 w.heap.size dnil 204:=h5.box (by simp)
 have h6:=(h5.drop.setRow (cs':=#[.int .u64 (m:Nat),.int .u64 0,.int .i64 r,.int .i64 why,.slice none 0 0,.slice none 0 0]) rfl).drop
 have d0:=(z5.row (cs':=#[.int .u64 (m:Nat),.int .u64 0,.int .i64 r,.int .i64 why,.slice none 0 0,.slice none 0 0])).cell
 have HB:Hid _:=z5
 clear K2 h5 b5 z5 c2 f2
 go_wp2_with (refine wpList_store_row rfl 204 _ _ rfl w.heap.size #[.int .u64 (m:Nat),.int .u64 0,.int .i64 r,.int .i64 why,.slice none 0 0,.slice none 0 0] rfl rfl 204 _ HB.out.heap sizeDeed rfl (zaf _ _ _ _) ?_)
 exact bodyPost_ret (v:=.agg #[.int .u64 (m:Nat),.int .u64 0,.int .i64 r,.int .i64 why,.slice none 0 0,.slice none 0 0]) (by simp [results,Tryz.results131,go_sem,d0]) rfl ⟨rfl,h6⟩
theorem sleep_no (h:Cor W w L q k us) :
  Calls Tryz.prog 131 #[.pointer (some ⟨L.b,0,none⟩),.int .i64 (n:Int),.int .u64 0] w fun e w'=>e=.returned (dval none none 0 0 (q.sleep n 0).2)∧Cor W w' L (q.sleep n 0).1 (k+1) us:=by
 obtain ⟨W1,e1⟩:∃ W1,W1=w.alloc (.cells dnil 204):=⟨_,rfl⟩
 obtain ⟨W2,e2⟩:∃ W2,W2=W1.alloc (.cells dnil 204):=⟨_,rfl⟩
 have h2:=(h.newBox e1).newBox e2
 have b2:Dk.Box W2 W1.heap.size dnil 204:=h2.box (by simp)
 obtain ⟨W3,e3⟩:∃ W3,W3=W2.setRow W1.heap.size dnil:=⟨_,rfl⟩
 have h3:=h2.setRow (cs':=dnil) e3
 have b3:Dk.Box W3 W1.heap.size dnil 204:=h3.box (by simp)
 have c3:=b3.cell
 have z3:Dk.Box W3 w.heap.size dnil 204:=h3.box (by simp)
 have h6:=((h3.drop.setRow (cs':=dnil) rfl).drop).mono (k':=k+1) (by omega)
 have d0:=(z3.row (cs':=dnil)).cell
 have HB:Hid _:=z3
 have HB2:Hid _:=b2
 have H1:Hid _:=e1.symm
 have H2:Hid _:=e2.symm
 have H3:Hid _:=e3.symm
 clear h h2 h3 e1 e2 e3 b2 b3 z3
 go_enter Tryz.func131,Tryz.ntmps131
 go_wp2_with (first | (rw [H1.out];clear H1) | (rw [H2.out];clear H2) | (refine wpList_store_row rfl 204 _ _ rfl W1.heap.size dnil rfl rfl 204 _ HB2.out.heap sizeDeed rfl (zaf 0 0 _ _) ?_;rw [H3.out];clear H3 HB2) | (refine wpList_store_row rfl 204 _ _ rfl w.heap.size dnil rfl rfl 204 _ HB.out.heap sizeDeed rfl (zaf 0 0 _ _) ?_))
 exact bodyPost_ret (v:=.agg dnil) (by simp [results,Tryz.results131,go_sem,d0]) rfl ⟨rfl,h6⟩
theorem zpw (h:Cor W w L q k us) (hk:k < 100000) (hn:n < 16) (m:Nat) :
  Calls Tryz.prog 131 #[.pointer (some ⟨L.b,0,none⟩),.int .i64 (n:Int),.int .u64 (m:Nat)] w fun e w'=>e=.returned (dval none none 0 0 (q.sleep n m).2)∧Cor W w' L (q.sleep n m).1 (k+1) us:=by
 by_cases hm:m=0
 ·subst hm
  exact sleep_no h
 ·exact zpx h hk hn m (by omega)
end
section
variable {W w w' : World} {L : Dk.Loc} {q : Dk.Sp} {k n : Nat} {us us' us1 us2 : List Dk.Thing} {t : Dk.Thing}
theorem ziw {B m C:Nat} {A:Option Addr} {xs:List Nat} (h:w.ownsRow B 38 1 (.slice A m C) m (Dk.uwK xs)) (hx:∀ x ∈ xs,x < 2 ^ 64):Dk.Row 1 0 Dk.IsWord w.heap.size w A m C xs:=by
 have hl:xs.length=m:=by have:=h.1;simpa using this
 obtain ⟨A',C',ev,h1,h2⟩:=Dk.zc h
 cases ev
 refine ⟨hl,h1,h2,fun h0=>?_⟩
 obtain ⟨g,C2,x,ev,_,_,_,_,_,_⟩:=Dk.zbf h h0
 obtain rfl:A=some ⟨g,0,none⟩:=by injection ev
 refine ⟨g,0,rfl,(World.ownsRow.lt h g rfl).2,fun j hj=>?_⟩
 obtain ⟨g',C3,x,ev',_,_,ex,ec,_,_⟩:=Dk.zbf h hj
 obtain rfl:g=g':=by injection ev' with q1;injection q1 with q2;injection q2
 have hj':j < xs.length:=by omega
 refine ⟨[x],rfl,⟨?_,?_⟩,fun i hi=>?_⟩
 ·rw [List.getElem?_map,List.getElem?_eq_getElem hj'] at ex
  simp at ex
  rw [← ex]
  simp [List.getD,hj']
 ·have:=hx _ (List.getElem_mem hj')
  simpa [List.getD,hj'] using this
 ·obtain rfl:i=0:=by omega
  rw [Nat.mul_one,Nat.add_zero,Nat.zero_add]
  exact ec
theorem Cor.words (h:Cor W w L q k us):∀ x ∈ q.mem,x < 2 ^ 64:=by
 obtain ⟨ks,kw,vm,vr,vs,td,tt,tg,h1,h2,h3,h4,h5,h6,h7,h8,h8',h9⟩:=Hid.out h
 exact h8'
theorem Cor.memAt (h:Cor W w L q k us):∃ A C,w.cell? ⟨L.b,8,none⟩=some (.slice A q.mem.length C)∧w.ownsRow W.heap.size 38 1 (.slice A q.mem.length C) q.mem.length (Dk.uwK q.mem):=by
 obtain ⟨vm,vr,hb,hm,hr⟩:=h.head
 obtain ⟨A,C,rfl,_,_⟩:=Dk.zc hm
 exact ⟨A,C,by rw [hb.cell,List.getElem?_toArray];exact Dk.zbn L q.thr _ vr (j:=8) (by omega),hm⟩
theorem Cor.memIs (h:Cor W w L q k us) {v:Value} (hc:w.cell? ⟨L.b,8,none⟩=some v):w.ownsRow W.heap.size 38 1 v q.mem.length (Dk.uwK q.mem):=by
 obtain ⟨A,C,c,hr⟩:=h.memAt
 rw [c] at hc
 cases hc
 exact hr
theorem Cor.setMem {v:Value} {m:List Nat} (h:Cor W w L q k (Dk.rowOf 38 1 v m.length (Dk.uwK m)::us)) (hm:∀ x ∈ m,x < 2 ^ 64):Cor W (w.setCell ⟨L.b,8,none⟩ v) L { q with mem:=m } k us:=by
 obtain ⟨ks,kw,vm,vr,vs,td,tt,tg,h1,h2,h3,h4,h5,h6,h7,h8,h8',h9⟩:=Hid.out h
 refine ⟨ks,kw,v,vr,vs,td,tt,tg,h1,h2,h3,h4,h5,h6,h7,h8,hm,?_⟩
 have s:=Dk.Sep.setBox (us1:=Dk.rowOf 38 1 v m.length (Dk.uwK m)::us) (b:=L.b) (o:=8) h9 v
 rw [List.setIfInBounds_toArray,Dk.body_mem] at s
 have s2:Dk.Sep W (w.setCell ⟨L.b,8,none⟩ v) (us++spBox L q.thr v vr::memT v m::recT vr q.recs::codeT L vs q.code::slotT L.bt L.bs ks q.st::wheelT L.bw L.bm kw q.now q.due::(td++(tt++tg))):=by
  have p:∀ (r s o:Dk.Thing) (x y:List Dk.Thing),(r::(x++s::o::y)).Perm (o::(x++s::r::y)):=fun r s o x y=>by
   have a:(x++s::o::y).Perm (o::(x++s::y)):=by simpa using List.perm_middle (l₁:=x++[s]) (a:=o) (l₂:=y)
   have b:(x++s::r::y).Perm (r::(x++s::y)):=by simpa using List.perm_middle (l₁:=x++[s]) (a:=r) (l₂:=y)
   exact (a.cons r).trans ((List.Perm.swap o r _).trans (b.symm.cons o))
  exact (s.perm (p _ _ _ us _)).sub (List.sublist_cons_self _ _)
 exact s2
theorem zeb {f:Dk.Frm} {i:Dk.Ins} {m:List Nat} (hf:f.ok) (hm:∀ x ∈ m,x < 2 ^ 64):∀ x ∈ Dk.doneM f i m,x < 2 ^ 64:=by
 intro x hx
 unfold Dk.doneM at hx
 split at hx
 ·rcases List.mem_or_eq_of_mem_set hx with hx | rfl
  ·exact hm x hx
  ·exact hf.r _
 ·exact hm x hx
theorem zk6 (h:Cor W w L q k us) (mA:Option Addr) (mC:Nat) (c8:w.cell? ⟨L.b,8,none⟩=some (.slice mA q.mem.length mC)) (f:Dk.Frm) (i:Dk.Ins) (hf:f.ok) (hi:i.ok) (hc:Dk.codeB i=true) (hx:Dk.faultB f i q.mem.length=false) (hm:q.mem.length≤1000) :
  Calls Tryz.prog 94 #[Dk.fv f,Dk.iv i,.slice mA q.mem.length mC] w fun e w'=>∃ wb,e=.returned (.tuple #[Dk.fv (Dk.doneF f i q.mem),.slice (some ⟨wb,0,none⟩) q.mem.length q.mem.length,.int .i64 0])∧Cor W w' L q k (Dk.rowOf 38 1 (.slice (some ⟨wb,0,none⟩) q.mem.length q.mem.length) q.mem.length (Dk.uwK (Dk.doneM f i q.mem))::us)∧w'.cell? ⟨L.b,8,none⟩=some (.slice mA q.mem.length mC):=by
 refine (Plain_ok f i mA q.mem.length mC q.mem w hf hi hc hx (ziw (h.memIs c8) h.words) hm).mono ?_
 rintro e w' ⟨wb,rfl,hb,u,hw⟩
 refine ⟨wb,rfl,h.addRow u ?_,by rw [u.cell (by show L.b < _;exact h.lt)];exact c8⟩
 refine Dk.zhe hb hw (by simp [Dk.zb4]) (by unfold maxLen;omega) (by simp [Dk.zb4]) (Nat.le_refl _) (fun j hj=>by simp)
theorem zjz (h:Cor W w L q k us) (mA:Option Addr) (mC:Nat) (c8:w.cell? ⟨L.b,8,none⟩=some (.slice mA q.mem.length mC)) (f:Dk.Frm) (i:Dk.Ins) (hi:i.ok) (hc:Dk.codeB i=true) (hx:Dk.faultB f i q.mem.length=true) (hm:q.mem.length≤1000) :
  Calls Tryz.prog 94 #[Dk.fv f,Dk.iv i,.slice mA q.mem.length mC] w fun e w'=>e=.returned (.tuple #[Dk.fv Dk.Frm.zero,.slice none 0 0,.int .i64 6])∧Cor W w' L q k us∧w'.cell? ⟨L.b,8,none⟩=some (.slice mA q.mem.length mC):=by
 refine (zi7 f i mA q.mem.length mC q.mem w hi hc hx (ziw (h.memIs c8) h.words) hm).mono ?_
 rintro e w' ⟨rfl,u⟩
 exact ⟨rfl,h.below u,by rw [u.cell (by show L.b < _;exact h.lt)];exact c8⟩
theorem zj0 (h:Cor W w L q k us) (hk:k≤100000) (hn:n < 16) (i:Dk.Ins) (hf:(q.thr n).f.ok) (hi:(i:Dk.Ins).ok) (hm:q.mem.length≤1000) (hx:Dk.faultB (q.thr n).f i q.mem.length=false) (hc:Dk.codeB i=true) (hs:Dk.seenB i.op=false) :
  Calls Tryz.prog 66 #[.pointer (some ⟨L.b,0,none⟩),.int .i64 (n:Int),.agg #[.int .i64 i.op,.int .i64 i.a,.int .i64 i.b,.int .i64 i.c,.int .u64 (i.n:Nat)]] w fun e w'=>e=.returned (eff none 0 0 false false false)∧Cor W w' L { q with mem:=Dk.doneM (q.thr n).f i q.mem,thr:=Dk.upd q.thr n { q.thr n with f:=Dk.doneF (q.thr n).f i q.mem } } k us:=by
 obtain ⟨W1,e1⟩:∃ W1,W1=w.alloc (.cells #[.int .i64 i.op,.int .i64 i.a,.int .i64 i.b,.int .i64 i.c,.int .u64 (i.n:Nat)] 112):=⟨_,rfl⟩
 obtain ⟨W2,e2⟩:∃ W2,W2=W1.alloc (.cells #[.slice none 0 0,.bool false,.bool false,.bool false] 68):=⟨_,rfl⟩
 have z1:W1.heap.size=w.heap.size+1:=by rw [e1,World.size_alloc]
 have h2:=((h.newBox e1).newBox e2).swap
 have hd:=h2.below (Dk.zh (Below.refl _ _))
 obtain ⟨mA,mC,c8d,hrow⟩:=hd.memAt
 have KP:∀ w1 us',Cor W w1 L q k us'→w1.cell? ⟨L.b,8,none⟩=some (.slice mA q.mem.length mC)→Calls Tryz.prog 94 #[Dk.fv (q.thr n).f,.agg #[.int .i64 i.op,.int .i64 i.a,.int .i64 i.b,.int .i64 i.c,.int .u64 (i.n:Nat)],.slice mA q.mem.length mC] w1 fun e w'=>∃ wb,e=.returned (.tuple #[Dk.fv (Dk.doneF (q.thr n).f i q.mem),.slice (some ⟨wb,0,none⟩) q.mem.length q.mem.length,.int .i64 0])∧Cor W w' L q k (Dk.rowOf 38 1 (.slice (some ⟨wb,0,none⟩) q.mem.length q.mem.length) q.mem.length (Dk.uwK (Dk.doneM (q.thr n).f i q.mem))::us')∧w'.cell? ⟨L.b,8,none⟩=some (.slice mA q.mem.length mC):=fun w1 us' h1 c1=>zk6 h1 mA mC c1 _ i hf hi hc hx hm
 have hmw:∀ x ∈ Dk.doneM (q.thr n).f i q.mem,x < 2 ^ 64:=zeb hf h.words
 have hml:(Dk.doneM (q.thr n).f i q.mem).length=q.mem.length:=Dk.zb4 _ _ _
 have MK:∀ w' us',Cor W w' L q k us'→(w'.cell? ⟨L.b,10+n*20,none⟩=some (.int .i64 (q.thr n).f.fn)∧w'.cell? ⟨L.b,10+n*20+1,none⟩=some (.int .i64 (q.thr n).f.pc)∧w'.cell? ⟨L.b,10+n*20+2,none⟩=some (.int .u64 ((q.thr n).f.r 0:Nat))∧w'.cell? ⟨L.b,10+n*20+3,none⟩=some (.int .u64 ((q.thr n).f.r 1:Nat))∧w'.cell? ⟨L.b,10+n*20+4,none⟩=some (.int .u64 ((q.thr n).f.r 2:Nat))∧w'.cell? ⟨L.b,10+n*20+5,none⟩=some (.int .u64 ((q.thr n).f.r 3:Nat))∧w'.cell? ⟨L.b,10+n*20+6,none⟩=some (.int .u64 ((q.thr n).f.r 4:Nat))∧w'.cell? ⟨L.b,10+n*20+7,none⟩=some (.int .u64 ((q.thr n).f.r 5:Nat))∧w'.cell? ⟨L.b,10+n*20+8,none⟩=some (.int .u64 ((q.thr n).f.r 6:Nat))∧w'.cell? ⟨L.b,10+n*20+9,none⟩=some (.int .u64 ((q.thr n).f.r 7:Nat))):=fun w' us' h'=>⟨h'.cellAt hn 0 (by omega),h'.cellAt hn 1 (by omega),h'.cellAt hn 2 (by omega),h'.cellAt hn 3 (by omega),h'.cellAt hn 4 (by omega),h'.cellAt hn 5 (by omega),h'.cellAt hn 6 (by omega),h'.cellAt hn 7 (by omega),h'.cellAt hn 8 (by omega),h'.cellAt hn 9 (by omega)⟩
 have KS:=zhl i.op
 have he:(Dk.Sp.setT q n { q.thr n with f:=Dk.doneF (q.thr n).f i q.mem }).thr=Dk.upd q.thr n { q.thr n with f:=Dk.doneF (q.thr n).f i q.mem }:=rfl
 have FIN:∀ w',Cor W w' L ({ q.setT n { q.thr n with f:=Dk.doneF (q.thr n).f i q.mem } with mem:=Dk.doneM (q.thr n).f i q.mem }) k us→Cor W w' L { q with mem:=Dk.doneM (q.thr n).f i q.mem,thr:=Dk.upd q.thr n { q.thr n with f:=Dk.doneF (q.thr n).f i q.mem } } k us:=fun w' h'=>h'
 have PUTF:∀ j,j < 20→({ q.thr n with f:=Dk.doneF (q.thr n).f i q.mem }:Dk.Thr).cells[j]? = if j < (Dk.fc (Dk.doneF (q.thr n).f i q.mem)).toList.length then (Dk.fc (Dk.doneF (q.thr n).f i q.mem)).toList[j]? else (q.thr n).cells[j]?:=fun j hj=>by
  have:j=0∨j=1∨j=2∨j=3∨j=4∨j=5∨j=6∨j=7∨j=8∨j=9∨j=10∨j=11∨j=12∨j=13∨j=14∨j=15∨j=16∨j=17∨j=18∨j=19:=by omega
  rcases this with rfl | rfl | rfl | rfl | rfl | rfl | rfl | rfl | rfl | rfl | rfl | rfl | rfl | rfl | rfl | rfl | rfl | rfl | rfl | rfl <;> rfl
 rw [hs] at KS
 generalize eF:Dk.doneF (q.thr n).f i q.mem=fz at *
 generalize eM:Dk.doneM (q.thr n).f i q.mem=mz at *
 generalize eT:({ q.thr n with f:=fz }:Dk.Thr)=tz at *
 generalize (q.thr n).f=f at *
 have hmz:mz.length=q.mem.length:=hml
 have i1:(n:Int) < 16:=by omega
 have i2:(0:Int)≤(n:Int):=by omega
 have H1:Hid _:=e1.symm
 have H2:Hid _:=e2.symm
 have HP:Hid _:=PUTF
 have HZ:Hid (mz.length=q.mem.length):=hmz
 clear h h2 e1 e2 z1 hrow eF eM eT he hml hmz PUTF hx hc hs hi hf
 go_enter Tryz.func66,Tryz.ntmps66
 go_upto_region 2 with (first | (rw [H1.out];clear H1) | (rw [H2.out];clear H2))
 go_cut [8,9,10] from 16 to 57 (fun v8 v9 v10 w'=>∃ bx wb,v8=.pointer (some ⟨bx,0,none⟩)∧v9=.slice (some ⟨wb,0,none⟩) q.mem.length q.mem.length∧v10=.int .i64 0∧Cor W w' L q k (Dk.boxOf bx (Dk.fc fz) 110::Dk.rowOf 38 1 (.slice (some ⟨wb,0,none⟩) q.mem.length q.mem.length) q.mem.length (Dk.uwK mz)::Dk.boxOf w.heap.size #[.int .i64 i.op,.int .i64 i.a,.int .i64 i.b,.int .i64 i.c,.int .u64 (i.n:Nat)] 112::Dk.boxOf W1.heap.size #[.slice none 0 0,.bool false,.bool false,.bool false] 68::us))
 case first=>
  refine Dk.zd (S:=fun w'=>Cor W w' L q k (Dk.boxOf w.heap.size #[.int .i64 i.op,.int .i64 i.a,.int .i64 i.b,.int .i64 i.c,.int .u64 (i.n:Nat)] 112::Dk.boxOf W1.heap.size #[.slice none 0 0,.bool false,.bool false,.bool false] 68::us)∧w'.cell? ⟨L.b,8,none⟩=some (.slice mA q.mem.length mC)) [] [0,1,2,3,4,5,6,7,8] [9,10,11,12,13,15,16,17] 9 (by kernel_rfl) (by kernel_rfl) (by kernel_rfl) (by kernel_rfl) rfl ⟨hd,c8d⟩ _ ?_ (fun a' h=>h)
  refine Dk.za (v:=.pointer (some ⟨L.b,10+n*20,none⟩)) rfl rfl (fun w' hw'=>by go_simp) ?_
  simp only [zD]
  refine Dk.za (v:=.pointer (some ⟨L.b,10+n*20,none⟩)) rfl rfl (fun w' hw'=>by go_simp) ?_
  simp only [zD]
  refine Dk.za (v:=.pointer (some ⟨L.b,10+n*20,none⟩)) rfl rfl (fun w' hw'=>by go_simp) ?_
  simp only [zD]
  refine Dk.za (v:=Dk.fv f) rfl rfl (fun w' hw'=>by obtain ⟨c0,c1,c2,c3,c4,c5,c6,c7,c8,c9⟩:=MK _ _ hw'.1;go_simp) ?_
  simp only [zD]
  refine Dk.za (v:=.agg #[.int .i64 i.op,.int .i64 i.a,.int .i64 i.b,.int .i64 i.c,.int .u64 (i.n:Nat)]) rfl rfl (fun w' hw'=>by have cb:=(hw'.1.box (a:=w.heap.size) (cs:=#[.int .i64 i.op,.int .i64 i.a,.int .i64 i.b,.int .i64 i.c,.int .u64 (i.n:Nat)]) (e:=112) (by simp)).cell;go_simp) ?_
  simp only [zD]
  refine Dk.za (v:=.pointer (some ⟨L.b,0,none⟩)) rfl rfl (fun w' hw'=>by go_simp) ?_
  simp only [zD]
  refine Dk.za (v:=.pointer (some ⟨L.b,0,none⟩)) rfl rfl (fun w' hw'=>by go_simp) ?_
  simp only [zD]
  refine Dk.za (v:=.pointer (some ⟨L.b,8,none⟩)) rfl rfl (fun w' hw'=>by go_simp) ?_
  simp only [zD]
  refine Dk.za (v:=.slice mA q.mem.length mC) rfl rfl (fun w' hw'=>by have c8:=hw'.2;go_simp) ?_
  simp only [zD]
  generalize W2.drew=WD at *
  refine Dk.treeY (rs:=[9,14]) (by kernel_rfl) (by simp) ?_
  intro i hi
  simp only [List.mem_cons,List.not_mem_nil,or_false] at hi
  rcases hi with rfl | rfl
  ·refine Dk.zm (some 26) rfl rfl rfl (f:=94) (args:=#[Dk.fv f,.agg #[.int .i64 i.op,.int .i64 i.a,.int .i64 i.b,.int .i64 i.c,.int .u64 (i.n:Nat)],.slice mA q.mem.length mC]) (by go_simp) ?_
   refine (KP _ _ hd c8d).mono ?_
   rintro e w2 ⟨wb,rfl,h2,c2⟩
   refine ⟨_,rfl,fun h=>absurd (by decide) h,?_⟩
   simp only [zD]
   refine Dk.zo (by kernel_rfl) (fun c a w h=>h) _ 4 _ [10,11,12,13] _ _ (by kernel_rfl) ?_ (fun a' h=>h)
   refine Dk.za (v:=.tuple #[Dk.fv fz,.slice (some ⟨wb,0,none⟩) q.mem.length q.mem.length,.int .i64 0]) rfl rfl (fun w' hw'=>by go_simp) ?_
   simp only [zD]
   refine Dk.za (v:=Dk.fv fz) rfl rfl (fun w' hw'=>by go_simp) ?_
   simp only [zD]
   refine Dk.za (v:=.slice (some ⟨wb,0,none⟩) q.mem.length q.mem.length) rfl rfl (fun w' hw'=>by go_simp) ?_
   simp only [zD]
   refine Dk.za (v:=.int .i64 0) rfl rfl (fun w' hw'=>by go_simp) ?_
   simp only [zD]
   refine Dk.treeY (rs:=[14]) (by kernel_rfl) (by simp) ?_
   intro i hi
   simp only [List.mem_cons,List.not_mem_nil,or_false] at hi
   subst hi
   obtain ⟨w3,ew3⟩:∃ w3,w3=w2.alloc (.cells #[.int .i64 0,.int .i64 0,.int .u64 0,.int .u64 0,.int .u64 0,.int .u64 0,.int .u64 0,.int .u64 0,.int .u64 0,.int .u64 0] 110):=⟨_,rfl⟩
   refine Dk.ze (v:=.pointer (some ⟨w2.heap.size,0,none⟩)) (w':=w3) (some 8) rfl rfl rfl (by rw [ew3];go_simp) ⟨fun _=>⟨(h2.drop.newBox ew3).drop,by rw [ew3];exact Lib.cell?_alloc_some _ c2⟩,?_⟩
   simp only [zD]
   have q3:=h2.newBox ew3
   refine Dk.zl [15,16,17] _ _ _ (by kernel_rfl) ?_
   refine Dk.zr rfl rfl ?_
   have HB:Dk.Box w3 (w2.heap.size) #[.int .i64 0,.int .i64 0,.int .u64 0,.int .u64 0,.int .u64 0,.int .u64 0,.int .u64 0,.int .u64 0,.int .u64 0,.int .u64 0] 110:=q3.box (by simp)
   refine wp_store_row 110 _ _ rfl w2.heap.size (Dk.fc fz) rfl rfl 110 _ HB.heap zai rfl (Dk.zah _) ⟨fun h=>absurd (by decide) h,?_⟩
   simp only [zD]
   refine Dk.zj (v:=.slice (some ⟨wb,0,none⟩) q.mem.length q.mem.length) (w':=w3.setRow w2.heap.size (Dk.fc fz)) (some 9) rfl rfl rfl (by go_simp) (fun h=>absurd (by decide) h) ?_
   simp only [zD]
   refine Dk.zj (v:=.int .i64 0) (w':=w3.setRow w2.heap.size (Dk.fc fz)) (some 10) rfl rfl rfl (by go_simp) (fun h=>absurd (by decide) h) ?_
   simp only [zD]
   show NoPanic _ Exit.normal _ _
   refine NoPanic.normal ?_
   rename_i hK
   refine hK _ _ ?_
   go_meet
   exact ⟨w2.heap.size,wb,rfl,rfl,rfl,q3.setRow rfl⟩
  ·obtain ⟨w3,ew3⟩:∃ w3,w3=WD.alloc (.cells #[.int .i64 0,.int .i64 0,.int .u64 0,.int .u64 0,.int .u64 0,.int .u64 0,.int .u64 0,.int .u64 0,.int .u64 0,.int .u64 0] 110):=⟨_,rfl⟩
   refine Dk.ze (v:=.pointer (some ⟨WD.heap.size,0,none⟩)) (w':=w3) (some 8) rfl rfl rfl (by rw [ew3];go_simp) ⟨fun _=>⟨(hd.newBox ew3).drop,by rw [ew3];exact Lib.cell?_alloc_some _ c8d⟩,?_⟩
   simp only [zD]
   have q3:=hd.newBox ew3
   have c83:w3.cell? ⟨L.b,8,none⟩=some (.slice mA q.mem.length mC):=by rw [ew3];exact Lib.cell?_alloc_some _ c8d
   refine Dk.treeY (rs:=[9]) (by kernel_rfl) (by simp) ?_
   intro i hi
   simp only [List.mem_cons,List.not_mem_nil,or_false] at hi
   subst hi
   refine Dk.zm (some 26) rfl rfl rfl (f:=94) (args:=#[Dk.fv f,.agg #[.int .i64 i.op,.int .i64 i.a,.int .i64 i.b,.int .i64 i.c,.int .u64 (i.n:Nat)],.slice mA q.mem.length mC]) (by go_simp) ?_
   refine (KP _ _ q3 c83).mono ?_
   rintro e w2 ⟨wb,rfl,q2,c2⟩
   refine ⟨_,rfl,fun h=>absurd (by decide) h,?_⟩
   simp only [zD]
   refine Dk.zo (by kernel_rfl) (fun c a w h=>h) _ 3 _ [10,11,12,13] _ _ (by kernel_rfl) ?_ (fun a' h=>h)
   refine Dk.za (v:=.tuple #[Dk.fv fz,.slice (some ⟨wb,0,none⟩) q.mem.length q.mem.length,.int .i64 0]) rfl rfl (fun w' hw'=>by go_simp) ?_
   simp only [zD]
   refine Dk.za (v:=Dk.fv fz) rfl rfl (fun w' hw'=>by go_simp) ?_
   simp only [zD]
   refine Dk.za (v:=.slice (some ⟨wb,0,none⟩) q.mem.length q.mem.length) rfl rfl (fun w' hw'=>by go_simp) ?_
   simp only [zD]
   refine Dk.za (v:=.int .i64 0) rfl rfl (fun w' hw'=>by go_simp) ?_
   simp only [zD]
   refine Dk.zl [15,16,17] _ _ _ (by kernel_rfl) ?_
   refine Dk.zr rfl rfl ?_
   have HB:Dk.Box w2 (WD.heap.size) #[.int .i64 0,.int .i64 0,.int .u64 0,.int .u64 0,.int .u64 0,.int .u64 0,.int .u64 0,.int .u64 0,.int .u64 0,.int .u64 0] 110:=q2.box (by simp)
   refine wp_store_row 110 _ _ rfl WD.heap.size (Dk.fc fz) rfl rfl 110 _ HB.heap zai rfl (Dk.zah _) ⟨fun h=>absurd (by decide) h,?_⟩
   simp only [zD]
   refine Dk.zj (v:=.slice (some ⟨wb,0,none⟩) q.mem.length q.mem.length) (w':=w2.setRow WD.heap.size (Dk.fc fz)) (some 9) rfl rfl rfl (by go_simp) (fun h=>absurd (by decide) h) ?_
   simp only [zD]
   refine Dk.zj (v:=.int .i64 0) (w':=w2.setRow WD.heap.size (Dk.fc fz)) (some 10) rfl rfl rfl (by go_simp) (fun h=>absurd (by decide) h) ?_
   simp only [zD]
   show NoPanic _ Exit.normal _ _
   refine NoPanic.normal ?_
   rename_i hK
   refine hK _ _ ?_
   go_meet
   exact ⟨WD.heap.size,wb,rfl,rfl,rfl,q2.swap.setRow rfl⟩
 case rest=>
  obtain ⟨bx,wb,rfl,rfl,rfl,hC⟩:=hcut
  have cb:=(hC.box (a:=bx) (cs:=Dk.fc fz) (e:=110) (by simp)).cell
  have ci:=(hC.box (a:=w.heap.size) (cs:=#[.int .i64 i.op,.int .i64 i.a,.int .i64 i.b,.int .i64 i.c,.int .u64 (i.n:Nat)]) (e:=112) (by simp)).cell
  have ht:wc.there L.b (10+n*20) 10:=hC.there hn 0 10 (by omega)
  obtain ⟨W3,e3⟩:∃ W3,W3=wc.setCells L.b (10+n*20) (Dk.fc fz).toList:=⟨_,rfl⟩
  have h3:=hC.putT hn tz (Dk.fc fz).toList (by simp) HP.out
  rw [← e3] at h3
  obtain ⟨A8,C8,c8,_⟩:=h3.memAt
  have f8:=h3.frozenAt 8
  obtain ⟨W4,e4⟩:∃ W4,W4=W3.setCell ⟨L.b,8,none⟩ (.slice (some ⟨wb,0,none⟩) q.mem.length q.mem.length):=⟨_,rfl⟩
  have h4:=Cor.setMem (m:=mz) (v:=.slice (some ⟨wb,0,none⟩) q.mem.length q.mem.length) (us:=Dk.boxOf w.heap.size #[.int .i64 i.op,.int .i64 i.a,.int .i64 i.b,.int .i64 i.c,.int .u64 (i.n:Nat)] 112::Dk.boxOf W1.heap.size #[.slice none 0 0,.bool false,.bool false,.bool false] 68::us) (by rw [HZ.out];exact h3.drop) hmw
  rw [← e4] at h4
  have b4:Dk.Box W4 W1.heap.size #[.slice none 0 0,.bool false,.bool false,.bool false] 68:=h4.box (by simp)
  have h5:=FIN _ ((h4.drop.setRow (cs':=#[.slice none 0 0,.bool false,.bool false,.bool false]) rfl).drop)
  have d0:=(b4.row (cs':=#[.slice none 0 0,.bool false,.bool false,.bool false])).cell
  have HB:Hid _:=b4
  have HT:Hid _:=ht
  have H3:Hid _:=e3.symm
  have H4:Hid _:=e4.symm
  clear hC h3 h4 b4 ht e3 e4 KP MK FIN hd c8d hmw
  go_wp2_with (first | (go_at_call 95;refine (KS _).mono ?_;rintro e w' ⟨rfl,ew⟩;subst w') | (refine wpList_store_mid rfl 110 _ _ rfl L.b (10+n*20) (Dk.fc fz) rfl rfl HT.out zai (Dk.zah _) ?_;rw [H3.out];clear H3) | (rw [H4.out];clear H4) | (refine wpList_store_row rfl 68 _ _ rfl W1.heap.size #[.slice none 0 0,.bool false,.bool false,.bool false] rfl rfl 68 _ HB.out.heap sizeEff rfl (zak _ _ _ _ _ _) ?_))
  exact bodyPost_ret (v:=eff none 0 0 false false false) (by simp [results,Tryz.results66,go_sem,d0]) rfl ⟨rfl,h5⟩
end
section
variable {W w w' : World} {L : Dk.Loc} {q : Dk.Sp} {k n : Nat} {us us' us1 us2 : List Dk.Thing} {t : Dk.Thing}
theorem znu (h:Cor W w L q k us) (hn:n < 16) (c:Bool) (x m:Nat) (hx:x < 2 ^ 64) (hl:q.asked.length≤1000) (hbl:q.blocks.length≤1000) :
  Calls Tryz.prog 128 #[.pointer (some ⟨L.b,0,none⟩),.agg #[.int .i64 (n:Int),.int .i64 0,.bool c,.int .u64 (x:Nat)],.int .u64 (m:Nat)] w fun e w'=>e=.returned (dval none none 0 0 (q.ask n c x m).2)∧Cor W w' L (q.ask n c x m).1 k us:=by
 obtain ⟨W1,e1⟩:∃ W1,W1=w.alloc (.cells #[.int .i64 (n:Int),.int .i64 0,.bool c,.int .u64 (x:Nat)] 142):=⟨_,rfl⟩
 obtain ⟨W2,e2⟩:∃ W2,W2=W1.alloc (.cells #[.int .u64 0,.int .u64 0,.int .i64 0,.int .i64 0,.slice none 0 0,.slice none 0 0] 204):=⟨_,rfl⟩
 obtain ⟨wb,ewb⟩:∃ wb,wb=wrap64 (m:Int):=⟨_,rfl⟩
 have h2:=((h.newBox e1).newBox e2).swap
 have b2:Dk.Box W2 w.heap.size #[.int .i64 (n:Int),.int .i64 0,.bool c,.int .u64 (x:Nat)] 142:=h2.box (by simp)
 have c1:W2.cell? ⟨w.heap.size,1,none⟩=some (.int .i64 0):=b2.cell 1
 have f1:=b2.frozen 1
 obtain ⟨W3,e3⟩:∃ W3,W3=W2.setCell ⟨w.heap.size,1,none⟩ (.int .i64 wb):=⟨_,rfl⟩
 have h3:Cor W W3 L q k (Dk.boxOf w.heap.size #[.int .i64 (n:Int),.int .i64 wb,.bool c,.int .u64 (x:Nat)] 142::Dk.boxOf W1.heap.size #[.int .u64 0,.int .u64 0,.int .i64 0,.int .i64 0,.slice none 0 0,.slice none 0 0] 204::us):=by rw [e3];exact h2.setBox (o:=1) (.int .i64 wb)
 have hC:=h3.below (Dk.zh (Below.refl _ _))
 have HS0:Dk.Box W3.drew w.heap.size #[.int .i64 (n:Int),.int .i64 wb,.bool c,.int .u64 (x:Nat)] 142∧W3.drew.cell? ⟨L.b,332,none⟩=some (.pointer (some ⟨L.bd,0,none⟩)):=⟨hC.box (by simp),hC.diskPtr⟩
 have KA:∀ w1 us',Cor W w1 L q k us'→Calls Tryz.prog 161 #[.pointer (some ⟨L.bd,0,none⟩),.agg #[.int .i64 (n:Int),.int .i64 wb,.bool c,.int .u64 (x:Nat)]] w1 fun e w'=>e=.returned (.int .i64 (q.askW n c x m wb).2.result)∧Cor W w' L (q.askW n c x m wb).1 k us':=fun w1 us' h1=>diskAsk h1 hn c x m wb hx hl hbl
 have eq:q.ask n c x m=q.askW n c x m wb:=by rw [ewb];rfl
 rw [eq,Dk.Sp.ask_deed]
 generalize (q.askW n c x m wb).2.result=r at *
 generalize (q.askW n c x m wb).1=qz at *
 generalize eY:Dk.whyIf true r 5 0=why
 have EY:Hid _:=eY
 have H1:Hid _:=e1.symm
 have H2:Hid _:=e2.symm
 have e3':W2.setCell ⟨w.heap.size,1,none⟩ (.int .i64 (wrap64 (m:Int)))=W3:=by rw [e3,ewb]
 have H3:Hid (W2.setCell ⟨w.heap.size,1,none⟩ (.int .i64 (wrap64 (m:Int)))=W3):=e3'
 clear h h2 h3 e1 e2 e3 e3' b2 eY eq ewb hx hl hbl
 go_enter Tryz.func128,Tryz.ntmps128
 go_upto_region 2 with (first | (rw [H1.out];clear H1) | (rw [H2.out];clear H2) | (rw [H3.out];clear H3))
 go_cut [7] from 8 to 22 (fun v7 w'=>∃ bx,v7=.pointer (some ⟨bx,0,none⟩)∧Cor W w' L qz k (Dk.boxOf bx #[.int .u64 (m:Nat),.int .u64 (x:Nat),.int .i64 r,.int .i64 0,.slice none 0 0,.slice none 0 0] 204::Dk.boxOf w.heap.size #[.int .i64 (n:Int),.int .i64 wb,.bool c,.int .u64 (x:Nat)] 142::Dk.boxOf W1.heap.size #[.int .u64 0,.int .u64 0,.int .i64 0,.int .i64 0,.slice none 0 0,.slice none 0 0] 204::us))
 case first=>
  refine Dk.zd (S:=fun w'=>Dk.Box w' w.heap.size #[.int .i64 (n:Int),.int .i64 wb,.bool c,.int .u64 (x:Nat)] 142∧w'.cell? ⟨L.b,332,none⟩=some (.pointer (some ⟨L.bd,0,none⟩))) [] [0,1,2,3,4,5,6,7] [9,11] 4 (by kernel_rfl) (by kernel_rfl) (by kernel_rfl) (by kernel_rfl) rfl HS0 _ ?_ (fun a' h=>h)
  refine Dk.za (v:=.int .u64 (m:Nat)) rfl rfl (fun w' hw'=>by go_simp) ?_
  simp only [zD]
  refine Dk.za (v:=.pointer (some ⟨w.heap.size,3,none⟩)) rfl rfl (fun w' hw'=>by go_simp) ?_
  simp only [zD]
  refine Dk.za (v:=.int .u64 (x:Nat)) rfl rfl (fun w' hw'=>by have c:=hw'.1.cell 3;go_simp) ?_
  simp only [zD]
  refine Dk.za (v:=.pointer (some ⟨L.b,0,none⟩)) rfl rfl (fun w' hw'=>by go_simp) ?_
  simp only [zD]
  refine Dk.za (v:=.pointer (some ⟨L.b,0,none⟩)) rfl rfl (fun w' hw'=>by go_simp) ?_
  simp only [zD]
  refine Dk.za (v:=.pointer (some ⟨L.b,332,none⟩)) rfl rfl (fun w' hw'=>by go_simp) ?_
  simp only [zD]
  refine Dk.za (v:=.pointer (some ⟨L.bd,0,none⟩)) rfl rfl (fun w' hw'=>by have c:=hw'.2;go_simp) ?_
  simp only [zD]
  refine Dk.za (v:=.agg #[.int .i64 (n:Int),.int .i64 wb,.bool c,.int .u64 (x:Nat)]) rfl rfl (fun w' hw'=>by have c:=hw'.1.cell;go_simp) ?_
  simp only [zD]
  generalize W3.drew=WD at *
  refine Dk.treeY (rs:=[8,10]) (by kernel_rfl) (by simp) ?_
  intro i hi
  simp only [List.mem_cons,List.not_mem_nil,or_false] at hi
  rcases hi with rfl | rfl
  ·refine Dk.zm (some 19) rfl rfl rfl (f:=161) (args:=#[.pointer (some ⟨L.bd,0,none⟩),.agg #[.int .i64 (n:Int),.int .i64 wb,.bool c,.int .u64 (x:Nat)]]) (by go_simp) ?_
   refine (KA _ _ hC).mono ?_
   rintro e w2 ⟨rfl,h2⟩
   refine ⟨_,rfl,fun _=>⟨h2.box (by simp),h2.diskPtr⟩,?_⟩
   simp only [zD]
   refine Dk.zo (by kernel_rfl) (fun c a w h=>h) _ 2 _ [9] _ _ (by kernel_rfl) ?_ (fun a' h=>h)
   refine Dk.za (v:=.agg #[.int .u64 (m:Nat),.int .u64 (x:Nat),.int .i64 r,.int .i64 0,.slice none 0 0,.slice none 0 0]) rfl rfl (fun w' hw'=>by go_simp) ?_
   simp only [zD]
   refine Dk.treeY (rs:=[10]) (by kernel_rfl) (by simp) ?_
   intro i hi
   simp only [List.mem_cons,List.not_mem_nil,or_false] at hi
   subst hi
   obtain ⟨w3,ew3⟩:∃ w3,w3=w2.alloc (.cells #[.int .u64 0,.int .u64 0,.int .i64 0,.int .i64 0,.slice none 0 0,.slice none 0 0] 204):=⟨_,rfl⟩
   refine Dk.ze (v:=.pointer (some ⟨w2.heap.size,0,none⟩)) (w':=w3) (some 7) rfl rfl rfl (by rw [ew3];go_simp) ⟨fun _=>⟨(h2.newBox ew3).box (by simp),(h2.newBox ew3).diskPtr⟩,?_⟩
   simp only [zD]
   have q3:=h2.newBox ew3
   refine Dk.zl [11] _ _ _ (by kernel_rfl) ?_
   refine Dk.zr rfl rfl ?_
   have HB:Dk.Box w3 (w2.heap.size) #[.int .u64 0,.int .u64 0,.int .i64 0,.int .i64 0,.slice none 0 0,.slice none 0 0] 204:=q3.box (by simp)
   refine wp_store_row 204 _ _ rfl w2.heap.size #[.int .u64 (m:Nat),.int .u64 (x:Nat),.int .i64 r,.int .i64 0,.slice none 0 0,.slice none 0 0] rfl rfl 204 _ HB.heap sizeDeed rfl (zaf _ _ _ _) ⟨fun h=>absurd (by decide) h,?_⟩
   simp only [zD]
   show NoPanic _ Exit.normal _ _
   refine NoPanic.normal ?_
   rename_i hK
   refine hK _ _ ?_
   go_meet
   exact ⟨w2.heap.size,rfl,q3.setRow rfl⟩
  ·obtain ⟨w3,ew3⟩:∃ w3,w3=WD.alloc (.cells #[.int .u64 0,.int .u64 0,.int .i64 0,.int .i64 0,.slice none 0 0,.slice none 0 0] 204):=⟨_,rfl⟩
   refine Dk.ze (v:=.pointer (some ⟨WD.heap.size,0,none⟩)) (w':=w3) (some 7) rfl rfl rfl (by rw [ew3];go_simp) ⟨fun _=>⟨(hC.newBox ew3).box (by simp),(hC.newBox ew3).diskPtr⟩,?_⟩
   simp only [zD]
   have q3:=hC.newBox ew3
   refine Dk.treeY (rs:=[8]) (by kernel_rfl) (by simp) ?_
   intro i hi
   simp only [List.mem_cons,List.not_mem_nil,or_false] at hi
   subst hi
   refine Dk.zm (some 19) rfl rfl rfl (f:=161) (args:=#[.pointer (some ⟨L.bd,0,none⟩),.agg #[.int .i64 (n:Int),.int .i64 wb,.bool c,.int .u64 (x:Nat)]]) (by go_simp) ?_
   refine (KA _ _ q3).mono ?_
   rintro e w2 ⟨rfl,q2⟩
   refine ⟨_,rfl,fun _=>⟨q2.box (by simp),q2.diskPtr⟩,?_⟩
   simp only [zD]
   refine Dk.zo (by kernel_rfl) (fun c a w h=>h) _ 1 _ [9] _ _ (by kernel_rfl) ?_ (fun a' h=>h)
   refine Dk.za (v:=.agg #[.int .u64 (m:Nat),.int .u64 (x:Nat),.int .i64 r,.int .i64 0,.slice none 0 0,.slice none 0 0]) rfl rfl (fun w' hw'=>by go_simp) ?_
   simp only [zD]
   refine Dk.zl [11] _ _ _ (by kernel_rfl) ?_
   refine Dk.zr rfl rfl ?_
   have HB:Dk.Box w2 (WD.heap.size) #[.int .u64 0,.int .u64 0,.int .i64 0,.int .i64 0,.slice none 0 0,.slice none 0 0] 204:=q2.box (by simp)
   refine wp_store_row 204 _ _ rfl WD.heap.size #[.int .u64 (m:Nat),.int .u64 (x:Nat),.int .i64 r,.int .i64 0,.slice none 0 0,.slice none 0 0] rfl rfl 204 _ HB.heap sizeDeed rfl (zaf _ _ _ _) ⟨fun h=>absurd (by decide) h,?_⟩
   simp only [zD]
   show NoPanic _ Exit.normal _ _
   refine NoPanic.normal ?_
   rename_i hK
   refine hK _ _ ?_
   go_meet
   exact ⟨WD.heap.size,rfl,q2.setRow rfl⟩
 case rest=>
  obtain ⟨bx,rfl,h4⟩:=hcut
  have K2:=zaw bx m x r 0 (.slice none 0 0) (.slice none 0 0) h4 true 5
  clear h4 KA HS0 hC c1 f1
  go_wp2_with fail
  refine K2.mono ?_
  rintro e w5 ⟨rfl,h5⟩
  rw [EY.out] at h5
  have b5:Dk.Box w5 bx #[.int .u64 (m:Nat),.int .u64 (x:Nat),.int .i64 r,.int .i64 why,.slice none 0 0,.slice none 0 0] 204:=h5.box (by simp [bxD,dcs])
  have c5:=b5.cell
  have z5:Dk.Box w5 W1.heap.size dnil 204:=h5.box (by simp)
  have h6:=(h5.drop.drop.setRow (cs':=#[.int .u64 (m:Nat),.int .u64 (x:Nat),.int .i64 r,.int .i64 why,.slice none 0 0,.slice none 0 0]) rfl).drop
  have d0:=(z5.row (cs':=#[.int .u64 (m:Nat),.int .u64 (x:Nat),.int .i64 r,.int .i64 why,.slice none 0 0,.slice none 0 0])).cell
  have HB:Hid _:=z5
  clear K2 h5 b5 z5
  go_wp2_with (refine wpList_store_row rfl 204 _ _ rfl W1.heap.size #[.int .u64 (m:Nat),.int .u64 (x:Nat),.int .i64 r,.int .i64 why,.slice none 0 0,.slice none 0 0] rfl rfl 204 _ HB.out.heap sizeDeed rfl (zaf _ _ _ _) ?_)
  exact bodyPost_ret (v:=.agg #[.int .u64 (m:Nat),.int .u64 (x:Nat),.int .i64 r,.int .i64 why,.slice none 0 0,.slice none 0 0]) (by simp [results,Tryz.results128,go_sem,d0]) rfl ⟨rfl,h6⟩
end
end Go.Proofs.YtglhhlfopccmaaaGreat
namespace Dk
theorem Sp.put_deed (q:Sp) (n m y:Nat):(if (q.putW n m y).2.1 then (0:Int) else 7)=whyIf (!(q.putW n m y).2.1) 0 7 0:=by
 unfold whyIf
 cases (q.putW n m y).2.1 <;> rfl
end Dk
namespace Go.Proofs.YtglhhlfopccmaaaGreat
open Go.RowKit Go.Lib
section
variable {W w w' : World} {L : Dk.Loc} {q : Dk.Sp} {k n : Nat} {us us' us1 us2 : List Dk.Thing} {t : Dk.Thing}
theorem zi1 (q:Dk.Sp) (m:Nat) (hm:m < q.tubes.length):({ q with tubes:=q.tubes.set m (q.tube m) }:Dk.Sp)=q:=by
 have:q.tubes.set m (q.tube m)=q.tubes:=Dk.set_self _ _ _ (by unfold Dk.Sp.tube;rw [List.getD_eq_getElem?_getD,List.getElem?_eq_getElem hm];rfl)
 rw [this]
theorem tubePut (h:Cor W w L q k us) (hn:n < 16) (m y:Nat) (hm:m < q.tubes.length) (hy:y < 2 ^ 64) (hl:∀ t ∈ q.tubes,t.ws.length≤1000∧t.ps.length≤1000∧t.gs.length≤1000) (bt:Nat) (hb:L.bts[m]? = some bt) :
  Calls Tryz.prog 162 #[.pointer (some ⟨bt,0,none⟩),.int .i64 (n:Int),.int .u64 (y:Nat)] w fun e w'=>e=.returned (.tuple #[.bool (q.putW n m y).2.1,.int .i64 (q.putW n m y).2.2.1,.bool (q.putW n m y).2.2.2])∧Cor W w' L (q.putW n m y).1 k us:=by
 obtain ⟨bt',rest,g,C,hb',_,_,_,_,hT,_,hw⟩:=h.tube m hm
 rw [hb] at hb'
 cases hb'
 have hmem:q.tube m ∈ q.tubes:=by unfold Dk.Sp.tube;rw [List.getD_eq_getElem?_getD,List.getElem?_eq_getElem hm];exact List.getElem_mem hm
 obtain ⟨l1,l2,l3⟩:=hl _ hmem
 unfold Dk.Sp.putW
 dsimp only
 have hs:=zi1 q m hm
 generalize q.tube m=tu at *
 obtain ⟨room,ws,ps,gs⟩:=tu
 dsimp only at *
 cases h0:Dk.waitsT ps gs n
 ·simp only [Bool.false_eq_true,if_false]
  match gs,hT,h0,l3 with
  | g::gs,hT,h0,l3=>
   refine (zne hT n y h0).mono ?_
   rintro e w' ⟨rfl,hT'⟩
   exact ⟨rfl,hw w' ⟨room,ws,ps,gs⟩ [] rfl hT'⟩
  | [],hT,h0,l3=>
   dsimp only
   by_cases hr:ws.length < Dk.most room
   ·rw [if_pos hr]
    refine (Put_room hT n y h0 hy hr l1).mono ?_
    rintro e w' ⟨rfl,hT'⟩
    exact ⟨rfl,hw w' ⟨room,ws++[y],ps,[]⟩ [] rfl hT'⟩
   ·rw [if_neg hr]
    refine (Put_full hT n y h0 (Dk.InR.i64 (Dk.zay hn)) hy hr l2).mono ?_
    rintro e w' ⟨rfl,hT'⟩
    exact ⟨rfl,hw w' ⟨room,ws,ps++[((n:Int),y)],[]⟩ [] rfl hT'⟩
 ·simp only [if_true]
  refine (znf hT n y h0).mono ?_
  rintro e w' ⟨rfl,hT'⟩
  have:=hw w' ⟨room,ws,ps,gs⟩ [] rfl hT'
  rw [hs] at this
  exact ⟨rfl,this⟩
theorem tubeGet (h:Cor W w L q k us) (hn:n < 16) (m:Nat) (hm:m < q.tubes.length) (hl:∀ t ∈ q.tubes,t.ws.length≤1000∧t.ps.length≤1000∧t.gs.length≤1000) (bt:Nat) (hb:L.bts[m]? = some bt) :
  Calls Tryz.prog 163 #[.pointer (some ⟨bt,0,none⟩),.int .i64 (n:Int)] w fun e w'=>e=.returned (.tuple #[.int .u64 ((q.getW n m).2.1:Nat),.bool (q.getW n m).2.2.1,.int .i64 (q.getW n m).2.2.2.1,.bool (q.getW n m).2.2.2.2])∧Cor W w' L (q.getW n m).1 k us:=by
 obtain ⟨bt',rest,g,C,hb',_,_,_,_,hT,_,hw⟩:=h.tube m hm
 rw [hb] at hb'
 cases hb'
 have hmem:q.tube m ∈ q.tubes:=by unfold Dk.Sp.tube;rw [List.getD_eq_getElem?_getD,List.getElem?_eq_getElem hm];exact List.getElem_mem hm
 obtain ⟨l1,l2,l3⟩:=hl _ hmem
 unfold Dk.Sp.getW
 dsimp only
 have hs:=zi1 q m hm
 generalize q.tube m=tu at *
 obtain ⟨room,ws,ps,gs⟩:=tu
 dsimp only at *
 cases h0:Dk.waitsT ps gs n
 ·simp only [Bool.false_eq_true,if_false]
  match ws,ps,hT,h0,l1 with
  | [],ps,hT,h0,l1=>
   refine (Get_none hT n h0 (Dk.InR.i64 (Dk.zay hn)) l3).mono ?_
   rintro e w' ⟨rfl,hT'⟩
   exact ⟨rfl,hw w' ⟨room,[],ps,gs++[(n:Int)]⟩ [] rfl hT'⟩
  | y::ws,[],hT,h0,l1=>
   refine (Get_one hT n h0).mono ?_
   rintro e w' ⟨rfl,hT'⟩
   exact ⟨rfl,hw w' ⟨room,ws,[],gs⟩ [] rfl hT'⟩
  | y::ws,(p,z)::ps,hT,h0,l1=>
   refine (Get_more hT n h0 (by simp at l1;omega)).mono ?_
   rintro e w' ⟨rfl,hT'⟩
   exact ⟨rfl,hw w' ⟨room,ws++[z],ps,gs⟩ [] rfl hT'⟩
 ·simp only [if_true]
  refine (zm8 hT n h0).mono ?_
  rintro e w' ⟨rfl,hT'⟩
  have:=hw w' ⟨room,ws,ps,gs⟩ [] rfl hT'
  rw [hs] at this
  exact ⟨rfl,this⟩
theorem put_any (h:Cor W w L q k us) (hn:n < 16) (op:Int) (a:Nat) (bb c:Int) (m:Nat) (ha:a < 8) (hm:m < q.tubes.length) (hf:(q.thr n).f.ok) (hl:∀ t ∈ q.tubes,t.ws.length≤1000∧t.ps.length≤1000∧t.gs.length≤1000) :
  Calls Tryz.prog 129 #[.pointer (some ⟨L.b,0,none⟩),.int .i64 (n:Int),.pointer (some ⟨L.b,10+n*20,none⟩),.agg #[.int .i64 op,.int .i64 (a:Int),.int .i64 bb,.int .i64 c,.int .u64 (m:Nat)]] w fun e w'=>∃ A C,e=.returned (dval none A 0 C (q.put n ⟨op,a,bb,c,m⟩).2)∧Cor W w' L (q.put n ⟨op,a,bb,c,m⟩).1 k (Dk.rowOf 147 2 (.slice A (q.put n ⟨op,a,bb,c,m⟩).2.woken.length C) (q.put n ⟨op,a,bb,c,m⟩).2.woken.length (Dk.prs (q.put n ⟨op,a,bb,c,m⟩).2.woken)::us):=by
 obtain ⟨y,ey⟩:∃ y,y=(q.thr n).f.r a:=⟨_,rfl⟩
 have hy:y < 2 ^ 64:=by rw [ey];exact hf.r a
 have eq:q.put n ⟨op,a,bb,c,m⟩=((q.putW n m y).1,⟨m,y,0,Dk.whyIf (!(q.putW n m y).2.1) 0 7 0,[],if (q.putW n m y).2.2.2 then [((q.putW n m y).2.2.1,y)] else []⟩):=by
  rw [← Dk.Sp.put_deed,ey]
  rfl
 rw [eq]
 dsimp only
 obtain ⟨W1,e1⟩:∃ W1,W1=w.alloc (.cells #[.int .i64 op,.int .i64 (a:Int),.int .i64 bb,.int .i64 c,.int .u64 (m:Nat)] 112):=⟨_,rfl⟩
 obtain ⟨W2,e2⟩:∃ W2,W2=W1.alloc (.cells #[.int .u64 0,.int .u64 0,.int .i64 0,.int .i64 0,.slice none 0 0,.slice none 0 0] 204):=⟨_,rfl⟩
 have h2:=((h.newBox e1).newBox e2).swap
 have hC:=h2.below (Dk.zh (Below.refl _ _))
 have MK:∀ w' us',Cor W w' L q k us'→w'.cell? ⟨L.b,10+n*20+2+a,none⟩=some (.int .u64 (y:Nat)):=fun w' us' h'=>by
  have:=h'.cellAt hn (2+a) (by omega)
  rw [← Nat.add_assoc] at this
  rw [this,ey]
  have:a=0∨a=1∨a=2∨a=3∨a=4∨a=5∨a=6∨a=7:=by omega
  rcases this with rfl | rfl | rfl | rfl | rfl | rfl | rfl | rfl <;> rfl
 have HS0:Dk.Box W2.drew w.heap.size #[.int .i64 op,.int .i64 (a:Int),.int .i64 bb,.int .i64 c,.int .u64 (m:Nat)] 112∧W2.drew.cell? ⟨L.b,10+n*20+2+a,none⟩=some (.int .u64 (y:Nat)):=⟨hC.box (by simp),MK _ _ hC⟩
 obtain ⟨bt,_,g,C,hbt,evt,cg1,cg2,_,_,_,_⟩:=h.tube m hm
 have KP:∀ w1 us',Cor W w1 L q k us'→Calls Tryz.prog 162 #[.pointer (some ⟨bt,0,none⟩),.int .i64 (n:Int),.int .u64 (y:Nat)] w1 fun e w'=>e=.returned (.tuple #[.bool (q.putW n m y).2.1,.int .i64 (q.putW n m y).2.2.1,.bool (q.putW n m y).2.2.2])∧Cor W w' L (q.putW n m y).1 k us':=fun w1 us' h1=>tubePut h1 hn m y hm hy hl bt hbt
 have MT:∀ w' us',Cor W w' L q k us'→w'.cell? ⟨L.b,331,none⟩=some (.slice (some ⟨g,0,none⟩) q.tubes.length C)∧w'.cell? ⟨g,m,none⟩=some (.pointer (some ⟨bt,0,none⟩)):=fun w' us' h'=>by
  obtain ⟨bt',_,g',C',hbt',evt',_,_,hc',_,_,_⟩:=h'.tube m hm
  rw [hbt] at hbt'
  cases hbt'
  rw [evt] at evt'
  injection evt' with q1 q2 q3
  injection q1 with q4
  injection q4 with q5
  subst q5
  exact ⟨by rw [h'.tubePtr,evt],hc'⟩
 generalize (q.putW n m y).1=qz at *
 generalize (q.putW n m y).2.1=pin at *
 generalize (q.putW n m y).2.2.1=pg at *
 generalize (q.putW n m y).2.2.2=pw at *
 generalize eY:Dk.whyIf (!pin) 0 7 0=why
 have EY:Hid _:=eY
 generalize q.tubes.length=tl at *
 unfold maxLen at cg2
 have i1:(a:Int) < 8:=by omega
 have i2:(0:Int)≤(a:Int):=by omega
 have i3:(m:Int) < (tl:Int):=by omega
 have i4:(0:Int)≤(m:Int):=by omega
 have H1:Hid _:=e1.symm
 have H2:Hid _:=e2.symm
 clear h h2 e1 e2 eY eq ey hy hf hl evt
 go_enter Tryz.func129,Tryz.ntmps129
 go_wp2_with (first | (rw [H1.out];clear H1) | (rw [H2.out];clear H2))
 refine Dk.zf (S:=fun w'=>Dk.Box w' w.heap.size #[.int .i64 op,.int .i64 (a:Int),.int .i64 bb,.int .i64 c,.int .u64 (m:Nat)] 112∧w'.cell? ⟨L.b,10+n*20+2+a,none⟩=some (.int .u64 (y:Nat))) [0,1,2,3,4,5,6,7,8,9,10] [11,12] (by kernel_rfl) (by kernel_rfl) HS0 ?_
 refine Dk.za (v:=.pointer (some ⟨w.heap.size,4,none⟩)) rfl rfl (fun w' hw'=>by go_simp) ?_
 simp only [zD]
 refine Dk.za (v:=.int .u64 (m:Nat)) rfl rfl (fun w' hw'=>by have c:=hw'.1.cell 4;go_simp) ?_
 simp only [zD]
 refine Dk.za (v:=.pointer (some ⟨L.b,10+n*20,none⟩)) rfl rfl (fun w' hw'=>by go_simp) ?_
 simp only [zD]
 refine Dk.za (v:=.pointer (some ⟨w.heap.size,1,none⟩)) rfl rfl (fun w' hw'=>by go_simp) ?_
 simp only [zD]
 refine Dk.za (v:=.int .i64 (a:Int)) rfl rfl (fun w' hw'=>by have c:=hw'.1.cell 1;go_simp) ?_
 simp only [zD]
 refine Dk.za (v:=.pointer (some ⟨L.b,10+n*20,none⟩)) rfl rfl (fun w' hw'=>by go_simp) ?_
 simp only [zD]
 refine Dk.za (v:=.pointer (some ⟨L.b,10+n*20,none⟩)) rfl rfl (fun w' hw'=>by go_simp) ?_
 simp only [zD]
 refine Dk.za (v:=.pointer (some ⟨L.b,10+n*20+2,none⟩)) rfl rfl (fun w' hw'=>by go_simp) ?_
 simp only [zD]
 refine Dk.za (v:=.pointer (some ⟨L.b,10+n*20+2+a,none⟩)) rfl rfl (fun w' hw'=>by go_simp) ?_
 simp only [zD]
 refine Dk.za (v:=.int .u64 (y:Nat)) rfl rfl (fun w' hw'=>by have c:=hw'.2;go_simp) ?_
 simp only [zD]
 refine Dk.za (v:=.agg #[.int .u64 (m:Nat),.int .u64 (y:Nat),.int .i64 0,.int .i64 0,.slice none 0 0,.slice none 0 0]) rfl rfl (fun w' hw'=>by go_simp) ?_
 simp only [zD]
 generalize W2.drew=WD at *
 obtain ⟨W3,e3⟩:∃ W3,W3=WD.alloc (.cells #[.int .u64 0,.int .u64 0,.int .i64 0,.int .i64 0,.slice none 0 0,.slice none 0 0] 204):=⟨_,rfl⟩
 have h3:=hC.newBox e3
 refine Dk.zk rfl rfl ?_
 refine zcm (v:=.pointer (some ⟨WD.heap.size,0,none⟩)) (w':=W3) (by rw [e3];go_simp) ⟨⟨h3.box (by simp),MK _ _ h3⟩,?_⟩
 simp only [zD]
 have b3:Dk.Box W3 WD.heap.size #[.int .u64 0,.int .u64 0,.int .i64 0,.int .i64 0,.slice none 0 0,.slice none 0 0] 204:=h3.box (by simp)
 obtain ⟨W4,e4⟩:∃ W4,W4=W3.setRow WD.heap.size #[.int .u64 (m:Nat),.int .u64 (y:Nat),.int .i64 0,.int .i64 0,.slice none 0 0,.slice none 0 0]:=⟨_,rfl⟩
 have h4:=h3.setRow (cs':=#[.int .u64 (m:Nat),.int .u64 (y:Nat),.int .i64 0,.int .i64 0,.slice none 0 0,.slice none 0 0]) e4
 refine Dk.zk rfl rfl ?_
 refine wp_store_row 204 _ _ rfl WD.heap.size #[.int .u64 (m:Nat),.int .u64 (y:Nat),.int .i64 0,.int .i64 0,.slice none 0 0,.slice none 0 0] rfl rfl 204 _ b3.heap sizeDeed rfl (zaf _ _ _ _) ?_
 rw [← e4]
 refine ⟨⟨h4.box (by simp),MK _ _ h4⟩,?_⟩
 simp only [zD]
 show NoPanic _ Exit.normal _ _
 refine NoPanic.normal ?_
 rename_i hK
 refine hK _ _ ?_
 clear hK b3 h3 e3 e4 HS0 hC
 have h5:=h4.below (Dk.zh (Below.refl _ _))
 have HS5:Dk.Box W4.drew w.heap.size #[.int .i64 op,.int .i64 (a:Int),.int .i64 bb,.int .i64 c,.int .u64 (m:Nat)] 112∧Dk.Box W4.drew WD.heap.size #[.int .u64 (m:Nat),.int .u64 (y:Nat),.int .i64 0,.int .i64 0,.slice none 0 0,.slice none 0 0] 204∧(W4.drew.cell? ⟨L.b,331,none⟩=some (.slice (some ⟨g,0,none⟩) tl C)∧W4.drew.cell? ⟨g,m,none⟩=some (.pointer (some ⟨bt,0,none⟩))):=⟨h5.box (by simp),h5.box (by simp),MT _ _ h5⟩
 have HC5:Hid (Cor W W4.drew L q k _):=h5
 clear h4 h5
 go_wp2_with fail
 refine Dk.zd (S:=fun w'=>Dk.Box w' w.heap.size #[.int .i64 op,.int .i64 (a:Int),.int .i64 bb,.int .i64 c,.int .u64 (m:Nat)] 112∧Dk.Box w' WD.heap.size #[.int .u64 (m:Nat),.int .u64 (y:Nat),.int .i64 0,.int .i64 0,.slice none 0 0,.slice none 0 0] 204∧(w'.cell? ⟨L.b,331,none⟩=some (.slice (some ⟨g,0,none⟩) tl C)∧w'.cell? ⟨g,m,none⟩=some (.pointer (some ⟨bt,0,none⟩)))) [] [0,1,2,3,4,5,6,7,8,9,10] [11,12,13,14,15,16,17,18] 8 (by kernel_rfl) (by kernel_rfl) (by kernel_rfl) (by kernel_rfl) rfl HS5 _ ?_ (fun a' h=>h)
 refine Dk.za (v:=.pointer (some ⟨L.b,0,none⟩)) rfl rfl (fun w' hw'=>by go_simp) ?_
 simp only [zD]
 refine Dk.za (v:=.pointer (some ⟨L.b,0,none⟩)) rfl rfl (fun w' hw'=>by go_simp) ?_
 simp only [zD]
 refine Dk.za (v:=.pointer (some ⟨L.b,331,none⟩)) rfl rfl (fun w' hw'=>by go_simp) ?_
 simp only [zD]
 refine Dk.za (v:=.slice (some ⟨g,0,none⟩) tl C) rfl rfl (fun w' hw'=>by have c:=hw'.2.2.1;go_simp) ?_
 simp only [zD]
 refine Dk.za (v:=.pointer (some ⟨w.heap.size,4,none⟩)) rfl rfl (fun w' hw'=>by go_simp) ?_
 simp only [zD]
 refine Dk.za (v:=.int .u64 (m:Nat)) rfl rfl (fun w' hw'=>by have c:=hw'.1.cell 4;go_simp) ?_
 simp only [zD]
 refine Dk.za (v:=.pointer (some ⟨g,m,none⟩)) rfl rfl (fun w' hw'=>by go_simp) ?_
 simp only [zD]
 refine Dk.za (v:=.pointer (some ⟨bt,0,none⟩)) rfl rfl (fun w' hw'=>by have c:=hw'.2.2.2;go_simp) ?_
 simp only [zD]
 refine Dk.za (v:=.int .i64 (n:Int)) rfl rfl (fun w' hw'=>by go_simp) ?_
 simp only [zD]
 refine Dk.za (v:=.pointer (some ⟨WD.heap.size,1,none⟩)) rfl rfl (fun w' hw'=>by go_simp) ?_
 simp only [zD]
 refine Dk.za (v:=.int .u64 (y:Nat)) rfl rfl (fun w' hw'=>by have c:=hw'.2.1.cell 1;go_simp) ?_
 simp only [zD]
 refine Dk.treeY (rs:=[11]) (by kernel_rfl) (by simp) ?_
 intro i hi
 simp only [List.mem_cons,List.not_mem_nil,or_false] at hi
 subst hi
 refine Dk.zm (some 36) rfl rfl rfl (f:=162) (args:=#[.pointer (some ⟨bt,0,none⟩),.int .i64 (n:Int),.int .u64 (y:Nat)]) (by go_simp) ?_
 refine (KP _ _ HC5.out).mono ?_
 rintro e w2 ⟨rfl,h6⟩
 refine ⟨_,rfl,fun h=>absurd (by decide) h,?_⟩
 simp only [zD]
 refine Dk.zo (by kernel_rfl) (fun c a w h=>h) _ 0 _ [12,13,14,15,16,17,18] _ _ (by kernel_rfl) ?_ (fun a' h=>h)
 refine Dk.za (v:=.tuple #[.bool pin,.int .i64 pg,.bool pw]) rfl rfl (fun w' hw'=>by go_simp) ?_
 simp only [zD]
 refine Dk.za (v:=.bool pin) rfl rfl (fun w' hw'=>by go_simp) ?_
 simp only [zD]
 refine Dk.za (v:=.int .i64 pg) rfl rfl (fun w' hw'=>by go_simp) ?_
 simp only [zD]
 refine Dk.za (v:=.bool pw) rfl rfl (fun w' hw'=>by go_simp) ?_
 simp only [zD]
 refine Dk.za (v:=.bool pin) rfl rfl (fun w' hw'=>by go_simp) ?_
 simp only [zD]
 refine Dk.za (v:=.int .i64 pg) rfl rfl (fun w' hw'=>by go_simp) ?_
 simp only [zD]
 refine Dk.za (v:=.bool pw) rfl rfl (fun w' hw'=>by go_simp) ?_
 simp only [zD]
 refine ⟨by kernel_rfl,?_⟩
 show NoPanic _ Exit.normal _ _
 refine NoPanic.normal ?_
 first | (rename_i hK;refine hK _ _ ?_;clear hK) | (rename_i hK _;refine hK _ _ ?_;clear hK)
 have K7:=zaw WD.heap.size m y 0 0 (.slice none 0 0) (.slice none 0 0) h6 (!pin) 7
 clear h6 HS5 HC5 KP MT MK
 go_wp2_with fail
 refine K7.mono ?_
 rintro e w7 ⟨rfl,h7⟩
 rw [EY.out] at h7
 clear K7
 cases pw
 ·have b7:Dk.Box w7 WD.heap.size #[.int .u64 (m:Nat),.int .u64 (y:Nat),.int .i64 0,.int .i64 why,.slice none 0 0,.slice none 0 0] 204:=h7.box (by simp [bxD,dcs])
  have c7:=b7.cell
  have z7:Dk.Box w7 W1.heap.size #[.int .u64 0,.int .u64 0,.int .i64 0,.int .i64 0,.slice none 0 0,.slice none 0 0] 204:=h7.box (by simp)
  have h8:=(h7.drop.drop.setRow (cs':=#[.int .u64 (m:Nat),.int .u64 (y:Nat),.int .i64 0,.int .i64 why,.slice none 0 0,.slice none 0 0]) rfl).drop
  have d0:=(z7.row (cs':=#[.int .u64 (m:Nat),.int .u64 (y:Nat),.int .i64 0,.int .i64 why,.slice none 0 0,.slice none 0 0])).cell
  have HB:Hid _:=z7
  clear h7 b7 z7
  go_wp2_with (refine wpList_store_row rfl 204 _ _ rfl W1.heap.size #[.int .u64 (m:Nat),.int .u64 (y:Nat),.int .i64 0,.int .i64 why,.slice none 0 0,.slice none 0 0] rfl rfl 204 _ HB.out.heap sizeDeed rfl (zaf _ _ _ _) ?_)
  exact bodyPost_ret (v:=.agg #[.int .u64 (m:Nat),.int .u64 (y:Nat),.int .i64 0,.int .i64 why,.slice none 0 0,.slice none 0 0]) (by simp [results,Tryz.results129,go_sem,d0]) rfl ⟨none,0,rfl,h8.nil⟩
 ·have b7:Dk.Box w7 WD.heap.size (dcs m y 0 why (.slice none 0 0) (.slice none 0 0)) 204:=h7.box (by simp [bxD])
  have cy:w7.cell? ⟨WD.heap.size,1,none⟩=some (.int .u64 (y:Nat)):=b7.cell 1
  obtain ⟨W8,e8⟩:∃ W8,W8=w7.alloc (.cells #[.int .i64 pg,.int .u64 (y:Nat)] 147):=⟨_,rfl⟩
  have h8:=h7.lit (s:=2) (m:=1) e8 rfl (by omega)
  have b8:Dk.Box W8 WD.heap.size (dcs m y 0 why (.slice none 0 0) (.slice none 0 0)) 204:=h8.box (by simp [bxD])
  have c5:W8.cell? ⟨WD.heap.size,5,none⟩=some (.slice none 0 0):=b8.cell 5
  have f5:=b8.frozen 5
  obtain ⟨W9,e9⟩:∃ W9,W9=W8.setCell ⟨WD.heap.size,5,none⟩ (.slice (some ⟨w7.heap.size,0,none⟩) 1 1):=⟨_,rfl⟩
  have h9:Cor W W9 L qz k (bxD WD.heap.size m y 0 why (.slice none 0 0) (.slice (some ⟨w7.heap.size,0,none⟩) 1 1)::Dk.rowOf 147 2 (.slice (some ⟨w7.heap.size,0,none⟩) 1 1) 1 (Dk.prs [(pg,y)])::Dk.boxOf w.heap.size #[.int .i64 op,.int .i64 (a:Int),.int .i64 bb,.int .i64 c,.int .u64 (m:Nat)] 112::Dk.boxOf W1.heap.size #[.int .u64 0,.int .u64 0,.int .i64 0,.int .i64 0,.slice none 0 0,.slice none 0 0] 204::us):=by rw [e9];exact Cor.setBox (o:=5) (Cor.swap h8) _
  have b9:Dk.Box W9 WD.heap.size #[.int .u64 (m:Nat),.int .u64 (y:Nat),.int .i64 0,.int .i64 why,.slice none 0 0,.slice (some ⟨w7.heap.size,0,none⟩) 1 1] 204:=h9.box (by simp [bxD,dcs])
  have c9:=b9.cell
  have z9:Dk.Box W9 W1.heap.size #[.int .u64 0,.int .u64 0,.int .i64 0,.int .i64 0,.slice none 0 0,.slice none 0 0] 204:=h9.box (by simp)
  have hA:Cor W W9 L qz k (Dk.boxOf W1.heap.size #[.int .u64 0,.int .u64 0,.int .i64 0,.int .i64 0,.slice none 0 0,.slice none 0 0] 204::Dk.rowOf 147 2 (.slice (some ⟨w7.heap.size,0,none⟩) 1 1) 1 (Dk.prs [(pg,y)])::us):=(h9.drop.swap.drop).swap
  have hB:=(hA.setRow (cs':=#[.int .u64 (m:Nat),.int .u64 (y:Nat),.int .i64 0,.int .i64 why,.slice none 0 0,.slice (some ⟨w7.heap.size,0,none⟩) 1 1]) rfl).drop
  have d0:=(z9.row (cs':=#[.int .u64 (m:Nat),.int .u64 (y:Nat),.int .i64 0,.int .i64 why,.slice none 0 0,.slice (some ⟨w7.heap.size,0,none⟩) 1 1])).cell
  have HB:Hid _:=z9
  have H8:Hid _:=e8.symm
  have H9:Hid _:=e9.symm
  clear h7 b7 h8 b8 h9 b9 z9 hA e8 e9
  go_wp2_with (first | (rw [H8.out];clear H8) | (rw [H9.out];clear H9) | (refine wpList_store_row rfl 204 _ _ rfl W1.heap.size #[.int .u64 (m:Nat),.int .u64 (y:Nat),.int .i64 0,.int .i64 why,.slice none 0 0,.slice (some ⟨w7.heap.size,0,none⟩) 1 1] rfl rfl 204 _ HB.out.heap sizeDeed rfl (zq _ _ _ _ _ _ _ _ _ _) ?_))
  exact bodyPost_ret (v:=.agg #[.int .u64 (m:Nat),.int .u64 (y:Nat),.int .i64 0,.int .i64 why,.slice none 0 0,.slice (some ⟨w7.heap.size,0,none⟩) 1 1]) (by simp [results,Tryz.results129,go_sem,d0]) rfl ⟨_,_,rfl,hB⟩
end
end Go.Proofs.YtglhhlfopccmaaaGreat
