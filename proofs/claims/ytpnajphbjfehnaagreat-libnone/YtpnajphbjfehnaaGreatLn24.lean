import Derived.Test.YtpnajphbjfehnaaGreatLn23
import Derived.Deep.CutRange
set_option linter.unusedSimpArgs false
set_option linter.unusedVariables false
set_option linter.unnecessarySimpa false
set_option maxHeartbeats 8000000
set_option maxRecDepth 100000
namespace Dk
open Go Go.RowKit
theorem zag {P:Go.Program} {S:World→Prop} {Z:List Nat} {Q:Exit→Act→World→Prop} {L:List Oper} {j:Nat} {js:List Nat} {a:Act} {w:World} {o:Oper} (ho:L[j]? = some o) (hg:o.guard=none)
  (h:o.wp P a w (fun a' w'=>(j ∉ Z→S w')∧lineY P L.toArray Q S Z js a' w') Q):lineY P L.toArray Q S Z (j::js) a w:=by
 have hw:Region.wanted o (yielded L.toArray a.tmps)=true:=by simp [Region.wanted,hg]
 have ho':L.toArray[j]? = some o:=by simpa using ho
 unfold lineY wpOp
 simp only [ho',hw,if_true]
 exact .inl h
def Sp.classB (q:Sp) (n:Nat):Int:=if nextB q.prog (q.thr n).f=false then 2 else classOf (nextI q.prog (q.thr n).f).op
end Dk
namespace Go.Proofs.YtpnajphbjfehnaaGreat
open Go.RowKit Go.Lib
section
variable {W w w' : World} {L : Dk.Loc} {q : Dk.Sp} {k n : Nat} {us us' us1 us2 : List Dk.Thing} {t : Dk.Thing}
theorem zek (h:Cor W w L q k us) (f:Dk.Frm):Calls Tryz.prog 145 #[.agg #[.slice L.cA L.cL L.cC,.int .i64 0,.int .i64 0,.int .i64 0,.slice none 0 0,.slice none 0 0,.int .i64 0,.int .i64 0],Dk.fv f] w fun e w'=>e=.returned (.tuple #[Dk.iv (Dk.nextI q.prog f),.bool (Dk.nextB q.prog f)])∧Cor W w' L q k us:=by
 refine (Next_any ⟨L.cA,L.cL,L.cC,none,0,0,none,0,0⟩ q.prog f w h.code.1).mono ?_
 rintro e w' ⟨rfl,u⟩
 exact ⟨rfl,h.below u⟩
theorem zdg (h:Cor W w L q k us) (hk:k≤100000) (hn:n < 16) (hu:Dk.us q.st n=true) (hw:(q.thr n).why=0) :
  Calls Tryz.prog 121 #[.pointer (some ⟨L.b,0,none⟩),.int .i64 (n:Int)] w fun e w'=>e=.returned (.int .i64 (q.classB n))∧Cor W w' L q k us:=by
 have K1:=za4 h hk n hn hu
 have d10:w.cell? ⟨L.b,10+n*20+10,none⟩=some (.int .i64 0):=by rw [h.cellAt hn 10 (by omega),← hw];rfl
 have HC:Hid (Cor W w L q k us):=h
 have hd:=h.below (Dk.zm (Below.refl _ _))
 unfold Dk.Sp.classB
 have KN:∀ w1 us',Cor W w1 L q k us'→Calls Tryz.prog 145 #[.agg #[.slice L.cA L.cL L.cC,.int .i64 0,.int .i64 0,.int .i64 0,.slice none 0 0,.slice none 0 0,.int .i64 0,.int .i64 0],Dk.fv (q.thr n).f] w1 fun e w'=>e=.returned (.tuple #[Dk.iv (Dk.nextI q.prog (q.thr n).f),.bool (Dk.nextB q.prog (q.thr n).f)])∧Cor W w' L q k us':=fun w1 us' h1=>zek h1 _
 have MK:∀ w',Cor W w' L q k us→(w'.cell? ⟨L.b,0,none⟩=some (.slice L.cA L.cL L.cC)∧w'.cell? ⟨L.b,1,none⟩=some (.int .i64 0)∧w'.cell? ⟨L.b,2,none⟩=some (.int .i64 0)∧w'.cell? ⟨L.b,3,none⟩=some (.int .i64 0)∧w'.cell? ⟨L.b,4,none⟩=some (.slice none 0 0)∧w'.cell? ⟨L.b,5,none⟩=some (.slice none 0 0)∧w'.cell? ⟨L.b,6,none⟩=some (.int .i64 0)∧w'.cell? ⟨L.b,7,none⟩=some (.int .i64 0)∧w'.cell? ⟨L.b,10+n*20,none⟩=some (.int .i64 (q.thr n).f.fn)∧w'.cell? ⟨L.b,10+n*20+1,none⟩=some (.int .i64 (q.thr n).f.pc)∧w'.cell? ⟨L.b,10+n*20+2,none⟩=some (.int .u64 ((q.thr n).f.r 0:Nat))∧w'.cell? ⟨L.b,10+n*20+3,none⟩=some (.int .u64 ((q.thr n).f.r 1:Nat))∧w'.cell? ⟨L.b,10+n*20+4,none⟩=some (.int .u64 ((q.thr n).f.r 2:Nat))∧w'.cell? ⟨L.b,10+n*20+5,none⟩=some (.int .u64 ((q.thr n).f.r 3:Nat))∧w'.cell? ⟨L.b,10+n*20+6,none⟩=some (.int .u64 ((q.thr n).f.r 4:Nat))∧w'.cell? ⟨L.b,10+n*20+7,none⟩=some (.int .u64 ((q.thr n).f.r 5:Nat))∧w'.cell? ⟨L.b,10+n*20+8,none⟩=some (.int .u64 ((q.thr n).f.r 6:Nat))∧w'.cell? ⟨L.b,10+n*20+9,none⟩=some (.int .u64 ((q.thr n).f.r 7:Nat))):=fun w' h'=>⟨h'.code.2 0 (by omega),h'.code.2 1 (by omega),h'.code.2 2 (by omega),h'.code.2 3 (by omega),h'.code.2 4 (by omega),h'.code.2 5 (by omega),h'.code.2 6 (by omega),h'.code.2 7 (by omega),h'.cellAt hn 0 (by omega),h'.cellAt hn 1 (by omega),h'.cellAt hn 2 (by omega),h'.cellAt hn 3 (by omega),h'.cellAt hn 4 (by omega),h'.cellAt hn 5 (by omega),h'.cellAt hn 6 (by omega),h'.cellAt hn 7 (by omega),h'.cellAt hn 8 (by omega),h'.cellAt hn 9 (by omega)⟩
 generalize (q.thr n).f=f at *
 clear h hu hw
 generalize Dk.nextI q.prog f=i at *
 generalize Dk.nextB q.prog f=nb at *
 go_enter Tryz.func121,Tryz.ntmps121
 go_upto_region 4 with (go_at_call 144;refine K1.mono ?_;rintro e w' ⟨rfl,ew⟩;subst w')
 go_cut [6,7] from 20 to 36 (fun v6 v7 w'=>∃ bx,v6=.pointer (some ⟨bx,0,none⟩)∧v7=.bool nb∧Dk.Box w' bx #[.int .i64 i.op,.int .i64 i.a,.int .i64 i.b,.int .i64 i.c,.int .u64 (i.n:Nat)] 75∧Cor W w' L q k us)
 case first=>
  refine Dk.zo (S:=fun w'=>Cor W w' L q k us) [] [0,1,2,3,4,5,6,7] [8,9,10,11,13,14] 7 (by kernel_rfl) (by kernel_rfl) (by kernel_rfl) (by kernel_rfl) rfl hd _ ?_ (fun a' h=>h)
  refine Dk.za (v:=.pointer (some ⟨L.b,0,none⟩)) rfl rfl (fun w' hw'=>by go_simp) ?_
  simp only [zD]
  refine Dk.za (v:=.pointer (some ⟨L.b,0,none⟩)) rfl rfl (fun w' hw'=>by go_simp) ?_
  simp only [zD]
  refine Dk.za (v:=.pointer (some ⟨L.b,0,none⟩)) rfl rfl (fun w' hw'=>by go_simp) ?_
  simp only [zD]
  refine Dk.za (v:=.agg #[.slice L.cA L.cL L.cC,.int .i64 0,.int .i64 0,.int .i64 0,.slice none 0 0,.slice none 0 0,.int .i64 0,.int .i64 0]) rfl rfl (fun w' hw'=>by obtain ⟨c0,c1,c2,c3,c4,c5,c6,c7,c8,c9,c10,c11,c12,c13,c14,c15,c16,c17⟩:=MK _ hw';go_simp) ?_
  simp only [zD]
  refine Dk.za (v:=.pointer (some ⟨L.b,10+n*20,none⟩)) rfl rfl (fun w' hw'=>by go_simp) ?_
  simp only [zD]
  refine Dk.za (v:=.pointer (some ⟨L.b,10+n*20,none⟩)) rfl rfl (fun w' hw'=>by go_simp) ?_
  simp only [zD]
  refine Dk.za (v:=.pointer (some ⟨L.b,10+n*20,none⟩)) rfl rfl (fun w' hw'=>by go_simp) ?_
  simp only [zD]
  refine Dk.za (v:=.agg (Dk.fc f)) rfl rfl (fun w' hw'=>by obtain ⟨c0,c1,c2,c3,c4,c5,c6,c7,c8,c9,c10,c11,c12,c13,c14,c15,c16,c17⟩:=MK _ hw';go_simp) ?_
  simp only [zD]
  generalize w.drew=WD at *
  refine Dk.treeY (rs:=[8,12]) (by kernel_rfl) (by simp) ?_
  intro i hi
  simp only [List.mem_cons,List.not_mem_nil,or_false] at hi
  rcases hi with rfl | rfl
  ·refine Dk.zp (some 29) rfl rfl rfl (f:=145) (args:=#[.agg #[.slice L.cA L.cL L.cC,.int .i64 0,.int .i64 0,.int .i64 0,.slice none 0 0,.slice none 0 0,.int .i64 0,.int .i64 0],Dk.fv f]) (by go_simp) ?_
   refine (KN _ _ hd).mono ?_
   rintro e w2 ⟨rfl,h2⟩
   refine ⟨_,rfl,fun _=>h2,?_⟩
   simp only [zD]
   refine Dk.zt (by kernel_rfl) (fun c a w h=>h) _ 3 _ [9,10,11] _ _ (by kernel_rfl) ?_ (fun a' h=>h)
   refine Dk.za (v:=.tuple #[.agg #[.int .i64 i.op,.int .i64 i.a,.int .i64 i.b,.int .i64 i.c,.int .u64 (i.n:Nat)],.bool nb]) rfl rfl (fun w' hw'=>by go_simp) ?_
   simp only [zD]
   refine Dk.za (v:=.agg #[.int .i64 i.op,.int .i64 i.a,.int .i64 i.b,.int .i64 i.c,.int .u64 (i.n:Nat)]) rfl rfl (fun w' hw'=>by go_simp) ?_
   simp only [zD]
   refine Dk.za (v:=.bool nb) rfl rfl (fun w' hw'=>by go_simp) ?_
   simp only [zD]
   refine Dk.treeY (rs:=[12]) (by kernel_rfl) (by simp) ?_
   intro i hi
   simp only [List.mem_cons,List.not_mem_nil,or_false] at hi
   subst hi
   obtain ⟨w3,ew3⟩:∃ w3,w3=w2.alloc (.cells #[.int .i64 0,.int .i64 0,.int .i64 0,.int .i64 0,.int .u64 0] 75):=⟨_,rfl⟩
   refine Dk.ze (v:=.pointer (some ⟨w2.heap.size,0,none⟩)) (w':=w3) (some 6) rfl rfl rfl (by rw [ew3];go_simp) ⟨fun _=>(h2.newBox ew3).drop,?_⟩
   simp only [zD]
   have h3:=(h2.newBox ew3).drop
   have q3:=h2.newBox ew3
   refine Dk.zs [13,14] _ _ _ (by kernel_rfl) ?_
   refine Dk.zag rfl rfl ?_
   have HB:Dk.Box w3 (w2.heap.size) #[.int .i64 0,.int .i64 0,.int .i64 0,.int .i64 0,.int .u64 0] 75:=q3.box (by simp)
   refine wp_store_row 75 _ _ rfl w2.heap.size #[.int .i64 i.op,.int .i64 i.a,.int .i64 i.b,.int .i64 i.c,.int .u64 (i.n:Nat)] rfl rfl 75 _ HB.heap sizeIns rfl (zb4 _ _ _ _ _) ⟨fun h=>absurd (by decide) h,?_⟩
   simp only [zD]
   refine Dk.zi (v:=.bool nb) (w':=w3.setRow w2.heap.size #[.int .i64 i.op,.int .i64 i.a,.int .i64 i.b,.int .i64 i.c,.int .u64 (i.n:Nat)]) (some 7) rfl rfl rfl (by go_simp) (fun h=>absurd (by decide) h) ?_
   simp only [zD]
   show NoPanic _ Exit.normal _ _
   refine NoPanic.normal ?_
   rename_i hK
   refine hK _ _ ?_
   go_meet
   exact ⟨w2.heap.size,rfl,rfl,HB.row,(q3.setRow rfl).drop⟩
  ·obtain ⟨w3,ew3⟩:∃ w3,w3=WD.alloc (.cells #[.int .i64 0,.int .i64 0,.int .i64 0,.int .i64 0,.int .u64 0] 75):=⟨_,rfl⟩
   refine Dk.ze (v:=.pointer (some ⟨WD.heap.size,0,none⟩)) (w':=w3) (some 6) rfl rfl rfl (by rw [ew3];go_simp) ⟨fun _=>(hd.newBox ew3).drop,?_⟩
   simp only [zD]
   have q3:=hd.newBox ew3
   refine Dk.treeY (rs:=[8]) (by kernel_rfl) (by simp) ?_
   intro i hi
   simp only [List.mem_cons,List.not_mem_nil,or_false] at hi
   subst hi
   refine Dk.zp (some 29) rfl rfl rfl (f:=145) (args:=#[.agg #[.slice L.cA L.cL L.cC,.int .i64 0,.int .i64 0,.int .i64 0,.slice none 0 0,.slice none 0 0,.int .i64 0,.int .i64 0],Dk.fv f]) (by go_simp) ?_
   refine (KN _ _ q3).mono ?_
   rintro e w2 ⟨rfl,q2⟩
   refine ⟨_,rfl,fun _=>q2.drop,?_⟩
   simp only [zD]
   refine Dk.zt (by kernel_rfl) (fun c a w h=>h) _ 2 _ [9,10,11] _ _ (by kernel_rfl) ?_ (fun a' h=>h)
   refine Dk.za (v:=.tuple #[.agg #[.int .i64 i.op,.int .i64 i.a,.int .i64 i.b,.int .i64 i.c,.int .u64 (i.n:Nat)],.bool nb]) rfl rfl (fun w' hw'=>by go_simp) ?_
   simp only [zD]
   refine Dk.za (v:=.agg #[.int .i64 i.op,.int .i64 i.a,.int .i64 i.b,.int .i64 i.c,.int .u64 (i.n:Nat)]) rfl rfl (fun w' hw'=>by go_simp) ?_
   simp only [zD]
   refine Dk.za (v:=.bool nb) rfl rfl (fun w' hw'=>by go_simp) ?_
   simp only [zD]
   refine Dk.zs [13,14] _ _ _ (by kernel_rfl) ?_
   refine Dk.zag rfl rfl ?_
   have HB:Dk.Box w2 (WD.heap.size) #[.int .i64 0,.int .i64 0,.int .i64 0,.int .i64 0,.int .u64 0] 75:=q2.box (by simp)
   refine wp_store_row 75 _ _ rfl WD.heap.size #[.int .i64 i.op,.int .i64 i.a,.int .i64 i.b,.int .i64 i.c,.int .u64 (i.n:Nat)] rfl rfl 75 _ HB.heap sizeIns rfl (zb4 _ _ _ _ _) ⟨fun h=>absurd (by decide) h,?_⟩
   simp only [zD]
   refine Dk.zi (v:=.bool nb) (w':=w2.setRow WD.heap.size #[.int .i64 i.op,.int .i64 i.a,.int .i64 i.b,.int .i64 i.c,.int .u64 (i.n:Nat)]) (some 7) rfl rfl rfl (by go_simp) (fun h=>absurd (by decide) h) ?_
   simp only [zD]
   show NoPanic _ Exit.normal _ _
   refine NoPanic.normal ?_
   rename_i hK
   refine hK _ _ ?_
   go_meet
   exact ⟨WD.heap.size,rfl,rfl,HB.row,(q2.setRow rfl).drop⟩
 case rest=>
  obtain ⟨bx,rfl,rfl,hb,hC⟩:=hcut
  have HC2:Hid (Cor W wc L q k us):=hC
  have cb:=hb.cell
  have KC:=fun op w=>zbr op w
  clear hC hd MK KN HC
  cases nb
  ·go_wp2_with fail
   go_ret
   exact ⟨rfl,HC2.out⟩
  ·go_wp2_with (go_at_call 146;refine (KC _ _).mono ?_;rintro e w' ⟨rfl,rfl⟩)
   go_ret
   exact ⟨rfl,HC2.out⟩
end
section
variable {W w w' : World} {L : Dk.Loc} {q : Dk.Sp} {k n : Nat} {us us' us1 us2 : List Dk.Thing} {t : Dk.Thing}
theorem zkk {B m C:Nat} {A:Option Addr} {xs:List Nat} (h:w.ownsRow B 73 1 (.slice A m C) m (Dk.uwK xs)) (hx:∀ x ∈ xs,x < 2 ^ 64):Dk.Row 1 0 Dk.IsWord w.heap.size w A m C xs:=by
 have hl:xs.length=m:=by have:=h.1;simpa using this
 obtain ⟨A',C',ev,h1,h2⟩:=Dk.zf h
 cases ev
 refine ⟨hl,h1,h2,fun h0=>?_⟩
 obtain ⟨g,C2,x,ev,_,_,_,_,_,_⟩:=Dk.za3 h h0
 obtain rfl:A=some ⟨g,0,none⟩:=by injection ev
 refine ⟨g,0,rfl,(World.ownsRow.lt h g rfl).2,fun j hj=>?_⟩
 obtain ⟨g',C3,x,ev',_,_,ex,ec,_,_⟩:=Dk.za3 h hj
 obtain rfl:g=g':=by injection ev' with q1;injection q1 with q2;injection q2
 have hj':j < xs.length:=by omega
 refine ⟨[x],rfl,⟨?_,?_⟩,fun i hi=>?_⟩
 ·rw [List.getElem?_map,List.getElem?_eq_getElem hj'] at ex
  simp at ex
  rw [← ex]
  simp [List.getD,hj']
 ·have:=hx _ (List.getElem_mem hj')
  simpa [List.getD,hj'] using this
 ·obtain rfl:i=0:=by omega
  rw [Nat.mul_one,Nat.add_zero,Nat.zero_add]
  exact ec
theorem Cor.words (h:Cor W w L q k us):∀ x ∈ q.mem,x < 2 ^ 64:=by
 obtain ⟨ks,kw,vm,vr,vs,td,tt,tg,h1,h2,h3,h4,h5,h6,h7,h8,h8',h9⟩:=Hid.out h
 exact h8'
theorem Cor.memAt (h:Cor W w L q k us):∃ A C,w.cell? ⟨L.b,8,none⟩=some (.slice A q.mem.length C)∧w.ownsRow W.heap.size 73 1 (.slice A q.mem.length C) q.mem.length (Dk.uwK q.mem):=by
 obtain ⟨vm,vr,hb,hm,hr⟩:=h.head
 obtain ⟨A,C,rfl,_,_⟩:=Dk.zf hm
 exact ⟨A,C,by rw [hb.cell,List.getElem?_toArray];exact Dk.zbb L q.thr _ vr (j:=8) (by omega),hm⟩
theorem Cor.memIs (h:Cor W w L q k us) {v:Value} (hc:w.cell? ⟨L.b,8,none⟩=some v):w.ownsRow W.heap.size 73 1 v q.mem.length (Dk.uwK q.mem):=by
 obtain ⟨A,C,c,hr⟩:=h.memAt
 rw [c] at hc
 cases hc
 exact hr
theorem Cor.setMem {v:Value} {m:List Nat} (h:Cor W w L q k (Dk.rowOf 73 1 v m.length (Dk.uwK m)::us)) (hm:∀ x ∈ m,x < 2 ^ 64):Cor W (w.setCell ⟨L.b,8,none⟩ v) L { q with mem:=m } k us:=by
 obtain ⟨ks,kw,vm,vr,vs,td,tt,tg,h1,h2,h3,h4,h5,h6,h7,h8,h8',h9⟩:=Hid.out h
 refine ⟨ks,kw,v,vr,vs,td,tt,tg,h1,h2,h3,h4,h5,h6,h7,h8,hm,?_⟩
 have s:=Dk.Sep.setBox (us1:=Dk.rowOf 73 1 v m.length (Dk.uwK m)::us) (b:=L.b) (o:=8) h9 v
 rw [List.setIfInBounds_toArray,Dk.body_mem] at s
 have s2:Dk.Sep W (w.setCell ⟨L.b,8,none⟩ v) (us++spBox L q.thr v vr::memT v m::recT vr q.recs::codeT L vs q.code::slotT L.bt L.bs ks q.st::wheelT L.bw L.bm kw q.now q.due::(td++(tt++tg))):=by
  have p:∀ (r s o:Dk.Thing) (x y:List Dk.Thing),(r::(x++s::o::y)).Perm (o::(x++s::r::y)):=fun r s o x y=>by
   have a:(x++s::o::y).Perm (o::(x++s::y)):=by simpa using List.perm_middle (l₁:=x++[s]) (a:=o) (l₂:=y)
   have b:(x++s::r::y).Perm (r::(x++s::y)):=by simpa using List.perm_middle (l₁:=x++[s]) (a:=r) (l₂:=y)
   exact (a.cons r).trans ((List.Perm.swap o r _).trans (b.symm.cons o))
  exact (s.perm (p _ _ _ us _)).sub (List.sublist_cons_self _ _)
 exact s2
theorem zgn {f:Dk.Frm} {i:Dk.Ins} {m:List Nat} (hf:f.ok) (hm:∀ x ∈ m,x < 2 ^ 64):∀ x ∈ Dk.doneM f i m,x < 2 ^ 64:=by
 intro x hx
 unfold Dk.doneM at hx
 split at hx
 ·rcases List.mem_or_eq_of_mem_set hx with hx | rfl
  ·exact hm x hx
  ·exact hf.r _
 ·exact hm x hx
end
abbrev dcs (x y:Nat) (r why:Int) (vb vw:Value):Array Value:=#[.int .u64 (x:Nat),.int .u64 (y:Nat),.int .i64 r,.int .i64 why,vb,vw]
def lists (Ab Aw:Option Addr) (Cb Cw:Nat) (d:Dk.Deed):List Dk.Thing:=[Dk.rowOf 3 1 (.slice Ab d.begun.length Cb) d.begun.length (Dk.is d.begun),Dk.rowOf 145 2 (.slice Aw d.woken.length Cw) d.woken.length (Dk.prs d.woken)]
abbrev dval (Ab Aw:Option Addr) (Cb Cw:Nat) (d:Dk.Deed):Value:=.agg (dcs d.x d.y d.result d.why (.slice Ab d.begun.length Cb) (.slice Aw d.woken.length Cw))
section
variable {W w w' : World} {L : Dk.Loc} {q : Dk.Sp} {k n : Nat} {us us' us1 us2 : List Dk.Thing} {t : Dk.Thing}
theorem Cor.gates (h:Cor W w L q k us):∃ rest,Gt W w L.bg q.gates 16 rest∧Dk.GIn q.gates∧∀ w' S' new k',Gt W w' L.bg S' k' (new++rest)→Dk.GIn S'→Cor W w' L { q with gates:=S' } k (new++us):=by
 obtain ⟨ks,kw,vm,vr,vs,td,tt,tg,h1,h2,h3,h4,h5,h6,h7,h8,h8',h9⟩:=Hid.out h
 refine ⟨us++(spBox L q.thr vm vr::memT vm q.mem::recT vr q.recs::codeT L vs q.code::slotT L.bt L.bs ks q.st::wheelT L.bw L.bm kw q.now q.due::(td++tt)),⟨tg,h5,by simpa [parts] using h9,h6⟩,h7,fun w' S' new k' hG hS=>?_⟩
 have hf:=hG.fair
 obtain ⟨tg',h5',h9',h6'⟩:=Hid.out hG
 exact ⟨ks,kw,vm,vr,vs,td,tt,tg',h1,h2,h3,h4,h5',Dk.fair_ok hf hS h6',hS,h8,h8',by simpa [parts] using h9'⟩
end
end Go.Proofs.YtpnajphbjfehnaaGreat
namespace Dk
section
variable {α : Type} {p : α → Prop} {l : List (List α)}
theorem zcz (h:∀ x ∈ l,∀ y ∈ x,p y) (i:Nat) {z:List α} (hz:∀ y ∈ z,p y):∀ x ∈ l.set i z,∀ y ∈ x,p y:=fun x hx=>by
 rcases List.mem_or_eq_of_mem_set hx with hx | rfl
 ·exact h x hx
 ·exact hz
theorem zat (h:∀ x ∈ l,∀ y ∈ x,p y) (i:Nat):∀ y ∈ l.getD i [],p y:=fun y hy=>by
 rw [List.getD_eq_getElem?_getD] at hy
 cases e:l[i]? with
 | none=>rw [e] at hy;exact absurd hy (by simp)
 | some x=>rw [e] at hy;exact h x (List.mem_of_getElem? e) y hy
theorem zed {z:List α} (h:∀ y ∈ z,p y) (i:Nat):∀ y ∈ z.eraseIdx i,p y:=fun y hy=>h y (List.mem_of_mem_eraseIdx hy)
theorem zee {z:List α} (h:∀ y ∈ z,p y) {a:α} (ha:p a):∀ y ∈ z++[a],p y:=fun y hy=>by
 rcases List.mem_append.1 hy with hy | hy
 ·exact h y hy
 ·rw [List.mem_singleton] at hy;rw [hy];exact ha
theorem zjo {z:List α} {d:α} (h:∀ y ∈ z,p y) (hd:p d) (i:Nat):p (z.getD i d):=by
 rw [List.getD_eq_getElem?_getD]
 cases e:z[i]? with
 | none=>exact hd
 | some x=>exact h x (List.mem_of_getElem? e)
end
theorem zr:InR 0:=by unfold InR;omega
section
variable {S : St} {who ch : Int} {c n : Nat}
theorem GIn.open (h:GIn S) (n:Nat) (ch:Int):GIn (S.open n ch).1∧InR (S.open n ch).2.1:=by
 unfold St.open
 dsimp only
 split
 ·exact ⟨⟨h.wait,h.conds,h.downs⟩,zr⟩
 ·exact ⟨⟨zcz h.wait n (zed (zat h.wait n) _),h.conds,h.downs⟩,zjo (zat h.wait n) zr _⟩
theorem GIn.lock (h:GIn S) (hw:InR who) (n:Nat):GIn (S.lock who n).1:=by
 unfold St.lock
 split
 ·exact h
 ·split
  ·exact ⟨zcz h.wait n (zee (zat h.wait n) hw),h.conds,h.downs⟩
  ·exact ⟨h.wait,h.conds,h.downs⟩
theorem GIn.unlock (h:GIn S) (who:Int) (n:Nat) (ch:Int):GIn (S.unlock who n ch).1∧InR (S.unlock who n ch).2.1:=by
 unfold St.unlock
 split
 ·exact ⟨h,zr⟩
 ·exact h.open n ch
theorem GIn.hold (h:GIn S) (hw:InR who) (c n:Nat) (ch:Int):GIn (S.hold who c n ch).1∧InR (S.hold who c n ch).2.1:=by
 unfold St.hold
 split
 ·exact ⟨h,zr⟩
 ·split
  ·exact ⟨h,zr⟩
  ·have ⟨h1,h2⟩:=h.open n ch
   exact ⟨⟨h1.wait,zcz (p:=fun p:Int × Int=>InR p.1) h.conds c (zee (p:=fun p:Int × Int=>InR p.1) (zat (p:=fun p:Int × Int=>InR p.1) h.conds c) (a:=(who,(n:Int))) hw),h1.downs⟩,h2⟩
theorem GIn.down (h:GIn S) (hw:InR who) (n:Nat):GIn (S.down who n).1:=by
 unfold St.down
 split
 ·exact h
 ·split
  ·exact ⟨h.wait,h.conds,h.downs⟩
  ·exact ⟨h.wait,h.conds,zcz h.downs n (zee (zat h.downs n) hw)⟩
theorem GIn.up (h:GIn S) (n:Nat) (ch:Int):GIn (S.up n ch).1∧InR (S.up n ch).2.1:=by
 unfold St.up
 split
 ·exact ⟨⟨h.wait,h.conds,zcz h.downs n (zed (zat h.downs n) _)⟩,zjo (zat h.downs n) zr _⟩
 ·split
  ·exact ⟨h,zr⟩
  ·exact ⟨⟨h.wait,h.conds,h.downs⟩,zr⟩
theorem GIn.goes:∀ (r:List (Int × Int)) {S:St} (h:GIn S) (hr:∀ p ∈ r,InR p.1),GIn (S.goes r).1∧(∀ x ∈ (S.goes r).2,InR x)∧(S.goes r).1.conds=S.conds
 | [],S,h,_=>⟨h,by intro x hx;exact absurd hx (by simp [St.goes]),rfl⟩
 | p::r,S,h,hr=>by
  have hp:=hr p (List.mem_cons_self ..)
  have h1:GIn (S.goes1 p).1∧(∀ x ∈ (S.goes1 p).2,InR x)∧(S.goes1 p).1.conds=S.conds:=by
   unfold St.goes1
   dsimp only
   split
   ·exact ⟨⟨zcz h.wait _ (zee (zat h.wait _) hp),h.conds,h.downs⟩,fun x hx=>absurd hx (by simp),rfl⟩
   ·exact ⟨⟨h.wait,h.conds,h.downs⟩,fun x hx=>by rw [List.mem_singleton] at hx;rw [hx];exact hp,rfl⟩
  have ih:=GIn.goes r h1.1 (fun x hx=>hr x (List.mem_cons_of_mem _ hx))
  have e:S.goes (p::r)=(((S.goes1 p).1.goes r).1,(S.goes1 p).2++((S.goes1 p).1.goes r).2):=rfl
  rw [e]
  refine ⟨ih.1,fun x hx=>?_,ih.2.2.trans h1.2.2⟩
  rcases List.mem_append.1 hx with hx | hx
  ·exact h1.2.1 x hx
  ·exact ih.2.1 x hx
theorem GIn.signal (h:GIn S) (c:Nat) (ch:Int) (all:Bool):GIn (S.signal c ch all).1∧(∀ x ∈ (S.signal c ch all).2,InR x)∧(S.signal c ch all).1.conds=S.conds.set c (S.kept c ch all):=by
 have ht:∀ p ∈ S.told c ch all,InR p.1:=by
  have hg:=zat (p:=fun p:Int × Int=>InR p.1) h.conds c
  unfold St.told
  dsimp only
  split
  ·exact hg
  ·split
   ·intro p hp;exact absurd hp (by simp)
   ·intro p hp
    rw [List.mem_singleton] at hp
    rw [hp]
    exact zjo (p:=fun p:Int × Int=>InR p.1) hg zr _
 have hk:∀ p ∈ S.kept c ch all,InR p.1:=by
  have hg:=zat (p:=fun p:Int × Int=>InR p.1) h.conds c
  unfold St.kept
  dsimp only
  split
  ·intro p hp;exact absurd hp (by simp)
  ·split
   ·intro p hp;exact absurd hp (by simp)
   ·exact zed (p:=fun p:Int × Int=>InR p.1) hg _
 exact GIn.goes _ ⟨h.wait,zcz (p:=fun p:Int × Int=>InR p.1) h.conds c hk,h.downs⟩ ht
end
theorem St.zgs:∀ (r:List (Int × Int)) (S:St),(S.goes r).2.length≤r.length
 | [],S=>by simp [St.goes]
 | p::r,S=>by
  have e:S.goes (p::r)=(((S.goes1 p).1.goes r).1,(S.goes1 p).2++((S.goes1 p).1.goes r).2):=rfl
  have ih:=St.zgs r (S.goes1 p).1
  have h1:(S.goes1 p).2.length≤1:=by
   unfold St.goes1
   dsimp only
   split <;> simp
  rw [e]
  simp only [List.length_append,List.length_cons]
  omega
theorem St.zh4 (S:St) (c:Nat) (ch:Int) (all:Bool):(S.signal c ch all).2.length≤(S.conds.getD c []).length:=by
 unfold St.signal
 refine Nat.le_trans (St.zgs _ _) ?_
 unfold St.told
 dsimp only
 split
 ·exact Nat.le_refl _
 ·split
  ·simp
  ·simp only [List.length_singleton];omega
structure Sp.Fits (q:Sp) (i:Ins):Prop where
 small:i.n < 1000
 mx:i.op=25∨i.op=26→i.n < q.gates.owner.length
 cv:i.op=27∨i.op=28∨i.op=29→i.n < q.gates.conds.length
 cm:i.op=27→0≤i.c∧i.c.toNat < q.gates.owner.length∧i.c < 1000
 sm:i.op=30∨i.op=31→i.n < q.gates.count.length
end Dk
namespace Go.Proofs.YtpnajphbjfehnaaGreat
open Go.RowKit Go.Lib
section
variable {W w w' : World} {L : Dk.Loc} {q qz : Dk.Sp} {k n : Nat} {us us' us1 us2 : List Dk.Thing} {t : Dk.Thing} {ch : Int}
theorem Cor.gok (h:Cor W w L q k us):Dk.Ok q.gates 16∧Dk.GIn q.gates:=by
 obtain ⟨ks,kw,vm,vr,vs,td,tt,tg,h1,h2,h3,h4,h5,h6,h7,h8,h8',h9⟩:=Hid.out h
 exact ⟨h6,h7⟩
end
section
variable {W w w' : World} {L : Dk.Loc} {q : Dk.Sp} {k n : Nat} {us us' us1 us2 : List Dk.Thing} {t : Dk.Thing}
theorem za0 {α β:Type} (f:α→List β):∀ (l:List α) (i:Nat) (a:α),l[i]? = some a→(l.flatMap f).Perm (f a++(l.eraseIdx i).flatMap f)
 | [],i,a,h=>by simp at h
 | x::r,0,a,h=>by simp at h;subst h;simp
 | x::r,i+1,a,h=>by
  have ih:=za0 f r i a (by simpa using h)
  rw [List.flatMap_cons,List.eraseIdx_cons_succ,List.flatMap_cons]
  exact (List.Perm.append_left (f x) ih).trans (List.perm_append_comm_assoc _ _ _)
theorem zfi (bt:Nat) (room:Int) (v1 v2 v3:Value) (ws:List Nat) (ps:List (Int × Nat)) (gs:List Int) (us:List Dk.Thing):Dk.tube bt room v1 v2 v3 ws ps gs us=Dk.tube bt room v1 v2 v3 ws ps gs []++us:=rfl
theorem Cor.tube (h:Cor W w L q k us) (m:Nat) (hm:m < q.tubes.length):∃ bt rest g C,L.bts[m]? = some bt∧L.vt=.slice (some ⟨g,0,none⟩) q.tubes.length C∧q.tubes.length≤C∧C≤maxLen∧w.cell? ⟨g,m,none⟩=some (.pointer (some ⟨bt,0,none⟩))∧Dk.Tb W w bt (q.tube m).room (q.tube m).ws (q.tube m).ps (q.tube m).gs rest∧(∀ t ∈ us,t ∈ rest)∧
  ∀ w' t' new,t'.room=(q.tube m).room→Dk.Tb W w' bt (q.tube m).room t'.ws t'.ps t'.gs (new++rest)→Cor W w' L { q with tubes:=q.tubes.set m t' } k (new++us):=by
 obtain ⟨ks,kw,vm,vr,vs,td,tt,tg,h1,h2,h3,⟨ms,em,eb,hf,rfl⟩,h5,h6,h7,h8,h8',h9⟩:=Hid.out h
 have hlen:ms.length=q.tubes.length:=by rw [← em,List.length_map]
 obtain ⟨x,hx⟩:∃ x,ms[m]? = some x:=⟨_,List.getElem?_eq_getElem (by omega)⟩
 have et:q.tube m=x.t:=by
  unfold Dk.Sp.tube
  rw [← em,List.getD_eq_getElem?_getD,List.getElem?_map,hx]
  rfl
 have hrow:w.ownsRow W.heap.size 97 1 L.vt ms.length (ms.map Tm.ptr):=h9.row (by simp [parts])
 obtain ⟨g,C,y,ev,c1,c2,ey,ec,_,_⟩:=Dk.za3 hrow (k:=m) (by omega)
 rw [List.getElem?_map,hx] at ey
 cases ey
 rw [hlen] at ev c1
 have hp:=za0 Tm.things ms m x hx
 refine ⟨x.bt,us++(spBox L q.thr vm vr::memT vm q.mem::recT vr q.recs::codeT L vs q.code::slotT L.bt L.bs ks q.st::wheelT L.bw L.bm kw q.now q.due::(td++(Dk.rowOf 97 1 L.vt ms.length (ms.map Tm.ptr)::((ms.eraseIdx m).flatMap Tm.things++tg)))),g,C,by rw [← eb,List.getElem?_map,hx];rfl,ev,c1,c2,ec,?_,fun t ht=>List.mem_append_left _ ht,fun w' t' new hro hT=>?_⟩
 ·rw [et]
  refine ⟨x.v1,x.v2,x.v3,?_,hf x (List.mem_of_getElem? hx)⟩
  show Dk.Sep W w (Dk.tube _ _ _ _ _ _ _ _ _)
  rw [zfi]
  refine h9.perm ?_
  have p:∀ (A B T R G U:List Dk.Thing) (r:Dk.Thing),T.Perm (x.things++R)→(U++(A++(B++(r::T++G)))).Perm (x.things++(U++(A++(B++(r::(R++G)))))):=fun A B T R G U r hT=>by
   have q1:(r::T++G).Perm (x.things++(r::(R++G))):=by
    have q0:(r::T++G).Perm (r::(x.things++R)++G):=(hT.cons r).append_right G
    refine q0.trans ?_
    have:(r::(x.things++(R++G))).Perm (x.things++r::(R++G)):=List.perm_middle.symm
    simpa [List.append_assoc] using this
   refine (List.Perm.append_left U (List.Perm.append_left A (List.Perm.append_left B q1))).trans ?_
   refine (List.Perm.append_left U (List.Perm.append_left A (List.perm_append_comm_assoc _ _ _))).trans ?_
   refine (List.Perm.append_left U (List.perm_append_comm_assoc _ _ _)).trans ?_
   exact List.perm_append_comm_assoc _ _ _
  exact p [spBox L q.thr vm vr,memT vm q.mem,recT vr q.recs,codeT L vs q.code,slotT L.bt L.bs ks q.st,wheelT L.bw L.bm kw q.now q.due] td (ms.flatMap Tm.things) ((ms.eraseIdx m).flatMap Tm.things) tg us (Dk.rowOf 97 1 L.vt ms.length (ms.map Tm.ptr)) hp
 ·obtain ⟨v1,v2,v3,s,hf'⟩:=Hid.out hT
  have hml:m < ms.length:=by omega
  obtain ⟨x',ex'⟩:∃ x':Tm,x'=⟨x.bt,v1,v2,v3,t'⟩:=⟨_,rfl⟩
  have hx':(ms.set m x')[m]? = some x':=List.getElem?_set_self hml
  have hp':=za0 Tm.things (ms.set m x') m x' hx'
  rw [List.eraseIdx_set_eq] at hp'
  refine ⟨ks,kw,vm,vr,vs,td,_,tg,h1,h2,h3,⟨ms.set m x',?_,?_,?_,rfl⟩,h5,h6,h7,h8,h8',?_⟩
  ·rw [List.map_set,em,ex']
  ·rw [List.map_set,eb,ex']
   exact Dk.set_self _ _ _ (by rw [← eb,List.getElem?_map,hx];rfl)
  ·intro z hz
   rcases List.mem_or_eq_of_mem_set hz with hz | rfl
   ·exact hf z hz
   ·rw [ex'];exact hf'
  ·have s1:Dk.Sep W w' (x'.things++(new++(us++(spBox L q.thr vm vr::memT vm q.mem::recT vr q.recs::codeT L vs q.code::slotT L.bt L.bs ks q.st::wheelT L.bw L.bm kw q.now q.due::(td++(Dk.rowOf 97 1 L.vt ms.length (ms.map Tm.ptr)::((ms.eraseIdx m).flatMap Tm.things++tg))))))):=by
    rw [ex']
    show Dk.Sep W w' (Dk.tube x.bt t'.room v1 v2 v3 t'.ws t'.ps t'.gs []++_)
    rw [hro,← zfi]
    exact s
   refine s1.perm ?_
   have ep:(ms.set m x').map Tm.ptr=ms.map Tm.ptr:=by
    rw [List.map_set]
    exact Dk.set_self _ _ _ (by rw [List.getElem?_map,hx,ex'];rfl)
   have p:∀ (A B T R G U:List Dk.Thing) (r:Dk.Thing),T.Perm (x'.things++R)→(x'.things++(U++(A++(B++(r::(R++G)))))).Perm (U++(A++(B++(r::T++G)))):=fun A B T R G U r hT=>by
    have q1:(r::T++G).Perm (x'.things++(r::(R++G))):=by
     have q0:(r::T++G).Perm (r::(x'.things++R)++G):=(hT.cons r).append_right G
     refine q0.trans ?_
     have:(r::(x'.things++(R++G))).Perm (x'.things++r::(R++G)):=List.perm_middle.symm
     simpa [List.append_assoc] using this
    refine List.Perm.symm ?_
    refine (List.Perm.append_left U (List.Perm.append_left A (List.Perm.append_left B q1))).trans ?_
    refine (List.Perm.append_left U (List.Perm.append_left A (List.perm_append_comm_assoc _ _ _))).trans ?_
    refine (List.Perm.append_left U (List.perm_append_comm_assoc _ _ _)).trans ?_
    exact List.perm_append_comm_assoc _ _ _
   have:=p [spBox L q.thr vm vr,memT vm q.mem,recT vr q.recs,codeT L vs q.code,slotT L.bt L.bs ks q.st,wheelT L.bw L.bm kw q.now q.due] td ((ms.set m x').flatMap Tm.things) ((ms.eraseIdx m).flatMap Tm.things) tg (new++us) (Dk.rowOf 97 1 L.vt ms.length (ms.map Tm.ptr)) hp'
   rw [List.append_assoc] at this
   unfold parts
   rw [ep,List.length_set]
   simpa [List.append_assoc] using this
end
def Dd (W:World) (L:Dk.Loc) (q:Dk.Sp) (k:Nat) (d:Dk.Deed) (us:List Dk.Thing) (e:Ending) (w':World):Prop:=∃ Ab Cb Aw Cw,e=.returned (dval Ab Aw Cb Cw d)∧Cor W w' L q k (lists Ab Aw Cb Cw d++us)
end Go.Proofs.YtpnajphbjfehnaaGreat
namespace Dk
theorem Sp.zfz (q:Sp) (n h:Nat):(q.detach n h).2.begun=[]∧(q.detach n h).2.woken=[]:=by
 unfold Sp.detach;dsimp only;split
 ·split <;> exact ⟨rfl,rfl⟩
 ·exact ⟨rfl,rfl⟩
theorem Sp.zjp (q:Sp) (n:Nat) (i:Ins):(q.join n i).2.begun=[]∧(q.join n i).2.woken=[]:=by
 unfold Sp.join;dsimp only;split
 ·split <;> exact ⟨rfl,rfl⟩
 ·exact ⟨rfl,rfl⟩
theorem Sp.zh5 (q:Sp) (n h:Nat):(q.sleep n h).2.begun=[]∧(q.sleep n h).2.woken=[]:=by
 unfold Sp.sleep
 repeat' split
 all_goals exact ⟨rfl,rfl⟩
theorem Sp.zi1 (q:Sp) (n:Nat) (c:Bool) (x m:Nat) (b:Int):(q.askW n c x m b).2.begun=[]∧(q.askW n c x m b).2.woken=[]:=by
 unfold Sp.askW
 repeat' split
 all_goals exact ⟨rfl,rfl⟩
theorem Sp.zgl (q:Sp) (n:Nat) (c:Bool) (x m:Nat):(q.ask n c x m).2.begun=[]∧(q.ask n c x m).2.woken=[]:=Sp.zi1 _ _ _ _ _ _
theorem Sp.zh6 (q:Sp) (n:Nat) (i:Ins):(q.spawn n i).2.woken=[]:=by
 unfold Sp.spawn;dsimp only;split <;> rfl
end Dk
namespace Go.Proofs.YtpnajphbjfehnaaGreat
open Go.RowKit Go.Lib
def Ef (W:World) (L:Dk.Loc) (q:Dk.Sp) (k:Nat) (E:Dk.Eff) (us:List Dk.Thing) (e:Ending) (w':World):Prop:=∃ A C,e=.returned (eff A E.woken.length C E.stopped E.ended E.yielded)∧Cor W w' L q k (Dk.rowOf 3 1 (.slice A E.woken.length C) E.woken.length (Dk.is E.woken)::us)
def Ef0 (W:World) (L:Dk.Loc) (q:Dk.Sp) (k:Nat) (E:Dk.Eff) (us:List Dk.Thing) (e:Ending) (w':World):Prop:=∃ A C,e=.returned (.tuple #[eff A E.woken.length C E.stopped E.ended E.yielded,.int .i64 0])∧Cor W w' L q k (Dk.rowOf 3 1 (.slice A E.woken.length C) E.woken.length (Dk.is E.woken)::us)
section
variable {W w w' : World} {L : Dk.Loc} {q qa qz : Dk.Sp} {k k' n : Nat} {us us' us1 us2 : List Dk.Thing} {t : Dk.Thing} {ch : Int} {E : Dk.Eff}
theorem run_last (h:Cor W w L q k us) (hk:k≤100000) (hn:n < 16) (hu:Dk.us q.st n=true) (hw:(q.thr n).why=0) (i:Dk.Ins) (ei:Dk.nextI q.prog (q.thr n).f=i) (nb:Bool) (enb:Dk.nextB q.prog (q.thr n).f=nb) (hnb:nb=false) (hK:∀ w us,Cor W w L q k us→Calls Tryz.prog 174 #[.pointer (some ⟨L.b,0,none⟩),.int .i64 (n:Int),.int .u64 0] w (Ef W L qz k' E us)) :
  Calls Tryz.prog 142 #[.pointer (some ⟨L.b,0,none⟩),.int .i64 (n:Int),.int .i64 ch] w (Ef0 W L qz k' E us):=by
 obtain ⟨W1,e1⟩:∃ W1,W1=w.alloc (.cells #[.slice none 0 0,.bool false,.bool false,.bool false] 43):=⟨_,rfl⟩
 have h1:=h.newBox e1
 obtain ⟨uz,euz⟩:∃ uz,uz=Dk.boxOf w.heap.size #[.slice none 0 0,.bool false,.bool false,.bool false] 43::us:=⟨_,rfl⟩
 rw [← euz] at h1
 have K1:=za4 h1 hk n hn hu
 have d10:W1.cell? ⟨L.b,10+n*20+10,none⟩=some (.int .i64 0):=by rw [h1.cellAt hn 10 (by omega),← hw];rfl
 have hd:=h1.below (Dk.zm (Below.refl _ _))
 have KN:∀ w1 us',Cor W w1 L q k us'→Calls Tryz.prog 145 #[.agg #[.slice L.cA L.cL L.cC,.int .i64 0,.int .i64 0,.int .i64 0,.slice none 0 0,.slice none 0 0,.int .i64 0,.int .i64 0],Dk.fv (q.thr n).f] w1 fun e w'=>e=.returned (.tuple #[Dk.iv (Dk.nextI q.prog (q.thr n).f),.bool (Dk.nextB q.prog (q.thr n).f)])∧Cor W w' L q k us':=fun w1 us' h1=>zek h1 _
 have MK:∀ w',Cor W w' L q k uz→(w'.cell? ⟨L.b,0,none⟩=some (.slice L.cA L.cL L.cC)∧w'.cell? ⟨L.b,1,none⟩=some (.int .i64 0)∧w'.cell? ⟨L.b,2,none⟩=some (.int .i64 0)∧w'.cell? ⟨L.b,3,none⟩=some (.int .i64 0)∧w'.cell? ⟨L.b,4,none⟩=some (.slice none 0 0)∧w'.cell? ⟨L.b,5,none⟩=some (.slice none 0 0)∧w'.cell? ⟨L.b,6,none⟩=some (.int .i64 0)∧w'.cell? ⟨L.b,7,none⟩=some (.int .i64 0)∧w'.cell? ⟨L.b,10+n*20,none⟩=some (.int .i64 (q.thr n).f.fn)∧w'.cell? ⟨L.b,10+n*20+1,none⟩=some (.int .i64 (q.thr n).f.pc)∧w'.cell? ⟨L.b,10+n*20+2,none⟩=some (.int .u64 ((q.thr n).f.r 0:Nat))∧w'.cell? ⟨L.b,10+n*20+3,none⟩=some (.int .u64 ((q.thr n).f.r 1:Nat))∧w'.cell? ⟨L.b,10+n*20+4,none⟩=some (.int .u64 ((q.thr n).f.r 2:Nat))∧w'.cell? ⟨L.b,10+n*20+5,none⟩=some (.int .u64 ((q.thr n).f.r 3:Nat))∧w'.cell? ⟨L.b,10+n*20+6,none⟩=some (.int .u64 ((q.thr n).f.r 4:Nat))∧w'.cell? ⟨L.b,10+n*20+7,none⟩=some (.int .u64 ((q.thr n).f.r 5:Nat))∧w'.cell? ⟨L.b,10+n*20+8,none⟩=some (.int .u64 ((q.thr n).f.r 6:Nat))∧w'.cell? ⟨L.b,10+n*20+9,none⟩=some (.int .u64 ((q.thr n).f.r 7:Nat))):=fun w' h'=>⟨h'.code.2 0 (by omega),h'.code.2 1 (by omega),h'.code.2 2 (by omega),h'.code.2 3 (by omega),h'.code.2 4 (by omega),h'.code.2 5 (by omega),h'.code.2 6 (by omega),h'.code.2 7 (by omega),h'.cellAt hn 0 (by omega),h'.cellAt hn 1 (by omega),h'.cellAt hn 2 (by omega),h'.cellAt hn 3 (by omega),h'.cellAt hn 4 (by omega),h'.cellAt hn 5 (by omega),h'.cellAt hn 6 (by omega),h'.cellAt hn 7 (by omega),h'.cellAt hn 8 (by omega),h'.cellAt hn 9 (by omega)⟩
 rw [ei,enb] at KN
 have H1:Hid _:=e1.symm
 have HU:Hid _:=euz
 have HNB:Hid _:=hnb
 generalize (q.thr n).f=f at *
 clear h h1 hu hw ei enb e1 euz hnb
 go_enter Tryz.func142,Tryz.ntmps142
 go_upto_region 6 with (first | (rw [H1.out];clear H1) | (go_at_call 144;refine K1.mono ?_;rintro e w' ⟨rfl,ew⟩;subst w'))
 go_cut [9,10] from 23 to 39 (fun v9 v10 w'=>∃ bx,v9=.pointer (some ⟨bx,0,none⟩)∧v10=.bool nb∧Cor W w' L q k (Dk.boxOf bx #[.int .i64 i.op,.int .i64 i.a,.int .i64 i.b,.int .i64 i.c,.int .u64 (i.n:Nat)] 75::uz))
 case first=>
  refine Dk.zo (S:=fun w'=>Cor W w' L q k uz) [] [0,1,2,3,4,5,6,7] [8,9,10,11,13,14] 7 (by kernel_rfl) (by kernel_rfl) (by kernel_rfl) (by kernel_rfl) rfl hd _ ?_ (fun a' h=>h)
  refine Dk.za (v:=.pointer (some ⟨L.b,0,none⟩)) rfl rfl (fun w' hw'=>by go_simp) ?_
  simp only [zD]
  refine Dk.za (v:=.pointer (some ⟨L.b,0,none⟩)) rfl rfl (fun w' hw'=>by go_simp) ?_
  simp only [zD]
  refine Dk.za (v:=.pointer (some ⟨L.b,0,none⟩)) rfl rfl (fun w' hw'=>by go_simp) ?_
  simp only [zD]
  refine Dk.za (v:=.agg #[.slice L.cA L.cL L.cC,.int .i64 0,.int .i64 0,.int .i64 0,.slice none 0 0,.slice none 0 0,.int .i64 0,.int .i64 0]) rfl rfl (fun w' hw'=>by obtain ⟨c0,c1,c2,c3,c4,c5,c6,c7,c8,c9,c10,c11,c12,c13,c14,c15,c16,c17⟩:=MK _ hw';go_simp) ?_
  simp only [zD]
  refine Dk.za (v:=.pointer (some ⟨L.b,10+n*20,none⟩)) rfl rfl (fun w' hw'=>by go_simp) ?_
  simp only [zD]
  refine Dk.za (v:=.pointer (some ⟨L.b,10+n*20,none⟩)) rfl rfl (fun w' hw'=>by go_simp) ?_
  simp only [zD]
  refine Dk.za (v:=.pointer (some ⟨L.b,10+n*20,none⟩)) rfl rfl (fun w' hw'=>by go_simp) ?_
  simp only [zD]
  refine Dk.za (v:=.agg (Dk.fc f)) rfl rfl (fun w' hw'=>by obtain ⟨c0,c1,c2,c3,c4,c5,c6,c7,c8,c9,c10,c11,c12,c13,c14,c15,c16,c17⟩:=MK _ hw';go_simp) ?_
  simp only [zD]
  generalize W1.drew=WD at *
  refine Dk.treeY (rs:=[8,12]) (by kernel_rfl) (by simp) ?_
  intro i hi
  simp only [List.mem_cons,List.not_mem_nil,or_false] at hi
  rcases hi with rfl | rfl
  ·refine Dk.zp (some 32) rfl rfl rfl (f:=145) (args:=#[.agg #[.slice L.cA L.cL L.cC,.int .i64 0,.int .i64 0,.int .i64 0,.slice none 0 0,.slice none 0 0,.int .i64 0,.int .i64 0],Dk.fv f]) (by go_simp) ?_
   refine (KN _ _ hd).mono ?_
   rintro e w2 ⟨rfl,h2⟩
   refine ⟨_,rfl,fun _=>h2,?_⟩
   simp only [zD]
   refine Dk.zt (by kernel_rfl) (fun c a w h=>h) _ 3 _ [9,10,11] _ _ (by kernel_rfl) ?_ (fun a' h=>h)
   refine Dk.za (v:=.tuple #[.agg #[.int .i64 i.op,.int .i64 i.a,.int .i64 i.b,.int .i64 i.c,.int .u64 (i.n:Nat)],.bool nb]) rfl rfl (fun w' hw'=>by go_simp) ?_
   simp only [zD]
   refine Dk.za (v:=.agg #[.int .i64 i.op,.int .i64 i.a,.int .i64 i.b,.int .i64 i.c,.int .u64 (i.n:Nat)]) rfl rfl (fun w' hw'=>by go_simp) ?_
   simp only [zD]
   refine Dk.za (v:=.bool nb) rfl rfl (fun w' hw'=>by go_simp) ?_
   simp only [zD]
   refine Dk.treeY (rs:=[12]) (by kernel_rfl) (by simp) ?_
   intro i hi
   simp only [List.mem_cons,List.not_mem_nil,or_false] at hi
   subst hi
   obtain ⟨w3,ew3⟩:∃ w3,w3=w2.alloc (.cells #[.int .i64 0,.int .i64 0,.int .i64 0,.int .i64 0,.int .u64 0] 75):=⟨_,rfl⟩
   refine Dk.ze (v:=.pointer (some ⟨w2.heap.size,0,none⟩)) (w':=w3) (some 9) rfl rfl rfl (by rw [ew3];go_simp) ⟨fun _=>(h2.newBox ew3).drop,?_⟩
   simp only [zD]
   have h3:=(h2.newBox ew3).drop
   have q3:=h2.newBox ew3
   refine Dk.zs [13,14] _ _ _ (by kernel_rfl) ?_
   refine Dk.zag rfl rfl ?_
   have HB:Dk.Box w3 (w2.heap.size) #[.int .i64 0,.int .i64 0,.int .i64 0,.int .i64 0,.int .u64 0] 75:=q3.box (by simp)
   refine wp_store_row 75 _ _ rfl w2.heap.size #[.int .i64 i.op,.int .i64 i.a,.int .i64 i.b,.int .i64 i.c,.int .u64 (i.n:Nat)] rfl rfl 75 _ HB.heap sizeIns rfl (zb4 _ _ _ _ _) ⟨fun h=>absurd (by decide) h,?_⟩
   simp only [zD]
   refine Dk.zi (v:=.bool nb) (w':=w3.setRow w2.heap.size #[.int .i64 i.op,.int .i64 i.a,.int .i64 i.b,.int .i64 i.c,.int .u64 (i.n:Nat)]) (some 10) rfl rfl rfl (by go_simp) (fun h=>absurd (by decide) h) ?_
   simp only [zD]
   show NoPanic _ Exit.normal _ _
   refine NoPanic.normal ?_
   rename_i hK
   refine hK _ _ ?_
   go_meet
   exact ⟨w2.heap.size,rfl,rfl,q3.setRow rfl⟩
  ·obtain ⟨w3,ew3⟩:∃ w3,w3=WD.alloc (.cells #[.int .i64 0,.int .i64 0,.int .i64 0,.int .i64 0,.int .u64 0] 75):=⟨_,rfl⟩
   refine Dk.ze (v:=.pointer (some ⟨WD.heap.size,0,none⟩)) (w':=w3) (some 9) rfl rfl rfl (by rw [ew3];go_simp) ⟨fun _=>(hd.newBox ew3).drop,?_⟩
   simp only [zD]
   have q3:=hd.newBox ew3
   refine Dk.treeY (rs:=[8]) (by kernel_rfl) (by simp) ?_
   intro i hi
   simp only [List.mem_cons,List.not_mem_nil,or_false] at hi
   subst hi
   refine Dk.zp (some 32) rfl rfl rfl (f:=145) (args:=#[.agg #[.slice L.cA L.cL L.cC,.int .i64 0,.int .i64 0,.int .i64 0,.slice none 0 0,.slice none 0 0,.int .i64 0,.int .i64 0],Dk.fv f]) (by go_simp) ?_
   refine (KN _ _ q3).mono ?_
   rintro e w2 ⟨rfl,q2⟩
   refine ⟨_,rfl,fun _=>q2.drop,?_⟩
   simp only [zD]
   refine Dk.zt (by kernel_rfl) (fun c a w h=>h) _ 2 _ [9,10,11] _ _ (by kernel_rfl) ?_ (fun a' h=>h)
   refine Dk.za (v:=.tuple #[.agg #[.int .i64 i.op,.int .i64 i.a,.int .i64 i.b,.int .i64 i.c,.int .u64 (i.n:Nat)],.bool nb]) rfl rfl (fun w' hw'=>by go_simp) ?_
   simp only [zD]
   refine Dk.za (v:=.agg #[.int .i64 i.op,.int .i64 i.a,.int .i64 i.b,.int .i64 i.c,.int .u64 (i.n:Nat)]) rfl rfl (fun w' hw'=>by go_simp) ?_
   simp only [zD]
   refine Dk.za (v:=.bool nb) rfl rfl (fun w' hw'=>by go_simp) ?_
   simp only [zD]
   refine Dk.zs [13,14] _ _ _ (by kernel_rfl) ?_
   refine Dk.zag rfl rfl ?_
   have HB:Dk.Box w2 (WD.heap.size) #[.int .i64 0,.int .i64 0,.int .i64 0,.int .i64 0,.int .u64 0] 75:=q2.box (by simp)
   refine wp_store_row 75 _ _ rfl WD.heap.size #[.int .i64 i.op,.int .i64 i.a,.int .i64 i.b,.int .i64 i.c,.int .u64 (i.n:Nat)] rfl rfl 75 _ HB.heap sizeIns rfl (zb4 _ _ _ _ _) ⟨fun h=>absurd (by decide) h,?_⟩
   simp only [zD]
   refine Dk.zi (v:=.bool nb) (w':=w2.setRow WD.heap.size #[.int .i64 i.op,.int .i64 i.a,.int .i64 i.b,.int .i64 i.c,.int .u64 (i.n:Nat)]) (some 10) rfl rfl rfl (by go_simp) (fun h=>absurd (by decide) h) ?_
   simp only [zD]
   show NoPanic _ Exit.normal _ _
   refine NoPanic.normal ?_
   rename_i hK
   refine hK _ _ ?_
   go_meet
   exact ⟨WD.heap.size,rfl,rfl,q2.setRow rfl⟩
 case rest=>
  obtain ⟨bx,rfl,rfl,hC⟩:=hcut
  have hnb:=HNB.out
  subst hnb
  clear HNB
  have hb:Dk.Box wc bx #[.int .i64 i.op,.int .i64 i.a,.int .i64 i.b,.int .i64 i.c,.int .u64 (i.n:Nat)] 75:=hC.box (by simp)
  have cb:=hb.cell
  clear hd MK KN
  have K5:=hK _ _ hC
  clear hC hK
  go_wp2_with fail
  refine K5.mono ?_
  rintro e w5 ⟨A,C,rfl,h5⟩
  have z5:Dk.Box w5 w.heap.size #[.slice none 0 0,.bool false,.bool false,.bool false] 43:=by rw [HU.out] at h5;exact h5.box (by simp)
  have h6:Cor W (w5.setRow w.heap.size #[.slice A E.woken.length C,.bool E.stopped,.bool E.ended,.bool E.yielded]) L qz k' (Dk.rowOf 3 1 (.slice A E.woken.length C) E.woken.length (Dk.is E.woken)::us):=by
   rw [HU.out] at h5
   exact (h5.swap.drop.swap.setRow (cs':=#[.slice A E.woken.length C,.bool E.stopped,.bool E.ended,.bool E.yielded]) rfl).drop
  have d0:=(z5.row (cs':=#[.slice A E.woken.length C,.bool E.stopped,.bool E.ended,.bool E.yielded])).cell
  have HB:Hid _:=z5
  clear K5 h5 z5 cb hb
  go_wp2_with (refine wpList_store_row rfl 43 _ _ rfl w.heap.size #[.slice A E.woken.length C,.bool E.stopped,.bool E.ended,.bool E.yielded] rfl rfl 43 _ HB.out.heap sizeEff rfl (zbd _ _ _ _ _ _) ?_)
  exact bodyPost_ret (v:=.tuple #[eff A E.woken.length C E.stopped E.ended E.yielded,.int .i64 0]) (by simp [results,Tryz.results142,go_sem,d0]) rfl ⟨A,C,rfl,h6⟩
theorem zkl (h:Cor W w L q k us) (hk:k≤100000) (hn:n < 16) (hu:Dk.us q.st n=true) (hw:(q.thr n).why=0) (i:Dk.Ins) (ei:Dk.nextI q.prog (q.thr n).f=i) (nb:Bool) (enb:Dk.nextB q.prog (q.thr n).f=nb) (hnb:nb=true) (h23:i.op≠23) (hcl:Dk.classOf i.op=1) (hK:∀ w us,Cor W w L q k us→Calls Tryz.prog 175 #[.pointer (some ⟨L.b,0,none⟩),.int .i64 (n:Int),Dk.iv i] w (Ef W L qz k' E us)) :
  Calls Tryz.prog 142 #[.pointer (some ⟨L.b,0,none⟩),.int .i64 (n:Int),.int .i64 ch] w (Ef0 W L qz k' E us):=by
 obtain ⟨W1,e1⟩:∃ W1,W1=w.alloc (.cells #[.slice none 0 0,.bool false,.bool false,.bool false] 43):=⟨_,rfl⟩
 have h1:=h.newBox e1
 obtain ⟨uz,euz⟩:∃ uz,uz=Dk.boxOf w.heap.size #[.slice none 0 0,.bool false,.bool false,.bool false] 43::us:=⟨_,rfl⟩
 rw [← euz] at h1
 have K1:=za4 h1 hk n hn hu
 have d10:W1.cell? ⟨L.b,10+n*20+10,none⟩=some (.int .i64 0):=by rw [h1.cellAt hn 10 (by omega),← hw];rfl
 have hd:=h1.below (Dk.zm (Below.refl _ _))
 have KN:∀ w1 us',Cor W w1 L q k us'→Calls Tryz.prog 145 #[.agg #[.slice L.cA L.cL L.cC,.int .i64 0,.int .i64 0,.int .i64 0,.slice none 0 0,.slice none 0 0,.int .i64 0,.int .i64 0],Dk.fv (q.thr n).f] w1 fun e w'=>e=.returned (.tuple #[Dk.iv (Dk.nextI q.prog (q.thr n).f),.bool (Dk.nextB q.prog (q.thr n).f)])∧Cor W w' L q k us':=fun w1 us' h1=>zek h1 _
 have MK:∀ w',Cor W w' L q k uz→(w'.cell? ⟨L.b,0,none⟩=some (.slice L.cA L.cL L.cC)∧w'.cell? ⟨L.b,1,none⟩=some (.int .i64 0)∧w'.cell? ⟨L.b,2,none⟩=some (.int .i64 0)∧w'.cell? ⟨L.b,3,none⟩=some (.int .i64 0)∧w'.cell? ⟨L.b,4,none⟩=some (.slice none 0 0)∧w'.cell? ⟨L.b,5,none⟩=some (.slice none 0 0)∧w'.cell? ⟨L.b,6,none⟩=some (.int .i64 0)∧w'.cell? ⟨L.b,7,none⟩=some (.int .i64 0)∧w'.cell? ⟨L.b,10+n*20,none⟩=some (.int .i64 (q.thr n).f.fn)∧w'.cell? ⟨L.b,10+n*20+1,none⟩=some (.int .i64 (q.thr n).f.pc)∧w'.cell? ⟨L.b,10+n*20+2,none⟩=some (.int .u64 ((q.thr n).f.r 0:Nat))∧w'.cell? ⟨L.b,10+n*20+3,none⟩=some (.int .u64 ((q.thr n).f.r 1:Nat))∧w'.cell? ⟨L.b,10+n*20+4,none⟩=some (.int .u64 ((q.thr n).f.r 2:Nat))∧w'.cell? ⟨L.b,10+n*20+5,none⟩=some (.int .u64 ((q.thr n).f.r 3:Nat))∧w'.cell? ⟨L.b,10+n*20+6,none⟩=some (.int .u64 ((q.thr n).f.r 4:Nat))∧w'.cell? ⟨L.b,10+n*20+7,none⟩=some (.int .u64 ((q.thr n).f.r 5:Nat))∧w'.cell? ⟨L.b,10+n*20+8,none⟩=some (.int .u64 ((q.thr n).f.r 6:Nat))∧w'.cell? ⟨L.b,10+n*20+9,none⟩=some (.int .u64 ((q.thr n).f.r 7:Nat))):=fun w' h'=>⟨h'.code.2 0 (by omega),h'.code.2 1 (by omega),h'.code.2 2 (by omega),h'.code.2 3 (by omega),h'.code.2 4 (by omega),h'.code.2 5 (by omega),h'.code.2 6 (by omega),h'.code.2 7 (by omega),h'.cellAt hn 0 (by omega),h'.cellAt hn 1 (by omega),h'.cellAt hn 2 (by omega),h'.cellAt hn 3 (by omega),h'.cellAt hn 4 (by omega),h'.cellAt hn 5 (by omega),h'.cellAt hn 6 (by omega),h'.cellAt hn 7 (by omega),h'.cellAt hn 8 (by omega),h'.cellAt hn 9 (by omega)⟩
 rw [ei,enb] at KN
 have H1:Hid _:=e1.symm
 have HU:Hid _:=euz
 have HNB:Hid _:=hnb
 have y23:(i.op == 23)=false:=by simpa using h23
 have ycl:(Dk.classOf i.op == 1)=true:=by simpa using hcl
 generalize (q.thr n).f=f at *
 clear h h1 hu hw ei enb e1 euz hnb
 go_enter Tryz.func142,Tryz.ntmps142
 go_upto_region 6 with (first | (rw [H1.out];clear H1) | (go_at_call 144;refine K1.mono ?_;rintro e w' ⟨rfl,ew⟩;subst w'))
 go_cut [9,10] from 23 to 39 (fun v9 v10 w'=>∃ bx,v9=.pointer (some ⟨bx,0,none⟩)∧v10=.bool nb∧Cor W w' L q k (Dk.boxOf bx #[.int .i64 i.op,.int .i64 i.a,.int .i64 i.b,.int .i64 i.c,.int .u64 (i.n:Nat)] 75::uz))
 case first=>
  refine Dk.zo (S:=fun w'=>Cor W w' L q k uz) [] [0,1,2,3,4,5,6,7] [8,9,10,11,13,14] 7 (by kernel_rfl) (by kernel_rfl) (by kernel_rfl) (by kernel_rfl) rfl hd _ ?_ (fun a' h=>h)
  refine Dk.za (v:=.pointer (some ⟨L.b,0,none⟩)) rfl rfl (fun w' hw'=>by go_simp) ?_
  simp only [zD]
  refine Dk.za (v:=.pointer (some ⟨L.b,0,none⟩)) rfl rfl (fun w' hw'=>by go_simp) ?_
  simp only [zD]
  refine Dk.za (v:=.pointer (some ⟨L.b,0,none⟩)) rfl rfl (fun w' hw'=>by go_simp) ?_
  simp only [zD]
  refine Dk.za (v:=.agg #[.slice L.cA L.cL L.cC,.int .i64 0,.int .i64 0,.int .i64 0,.slice none 0 0,.slice none 0 0,.int .i64 0,.int .i64 0]) rfl rfl (fun w' hw'=>by obtain ⟨c0,c1,c2,c3,c4,c5,c6,c7,c8,c9,c10,c11,c12,c13,c14,c15,c16,c17⟩:=MK _ hw';go_simp) ?_
  simp only [zD]
  refine Dk.za (v:=.pointer (some ⟨L.b,10+n*20,none⟩)) rfl rfl (fun w' hw'=>by go_simp) ?_
  simp only [zD]
  refine Dk.za (v:=.pointer (some ⟨L.b,10+n*20,none⟩)) rfl rfl (fun w' hw'=>by go_simp) ?_
  simp only [zD]
  refine Dk.za (v:=.pointer (some ⟨L.b,10+n*20,none⟩)) rfl rfl (fun w' hw'=>by go_simp) ?_
  simp only [zD]
  refine Dk.za (v:=.agg (Dk.fc f)) rfl rfl (fun w' hw'=>by obtain ⟨c0,c1,c2,c3,c4,c5,c6,c7,c8,c9,c10,c11,c12,c13,c14,c15,c16,c17⟩:=MK _ hw';go_simp) ?_
  simp only [zD]
  generalize W1.drew=WD at *
  refine Dk.treeY (rs:=[8,12]) (by kernel_rfl) (by simp) ?_
  intro i hi
  simp only [List.mem_cons,List.not_mem_nil,or_false] at hi
  rcases hi with rfl | rfl
  ·refine Dk.zp (some 32) rfl rfl rfl (f:=145) (args:=#[.agg #[.slice L.cA L.cL L.cC,.int .i64 0,.int .i64 0,.int .i64 0,.slice none 0 0,.slice none 0 0,.int .i64 0,.int .i64 0],Dk.fv f]) (by go_simp) ?_
   refine (KN _ _ hd).mono ?_
   rintro e w2 ⟨rfl,h2⟩
   refine ⟨_,rfl,fun _=>h2,?_⟩
   simp only [zD]
   refine Dk.zt (by kernel_rfl) (fun c a w h=>h) _ 3 _ [9,10,11] _ _ (by kernel_rfl) ?_ (fun a' h=>h)
   refine Dk.za (v:=.tuple #[.agg #[.int .i64 i.op,.int .i64 i.a,.int .i64 i.b,.int .i64 i.c,.int .u64 (i.n:Nat)],.bool nb]) rfl rfl (fun w' hw'=>by go_simp) ?_
   simp only [zD]
   refine Dk.za (v:=.agg #[.int .i64 i.op,.int .i64 i.a,.int .i64 i.b,.int .i64 i.c,.int .u64 (i.n:Nat)]) rfl rfl (fun w' hw'=>by go_simp) ?_
   simp only [zD]
   refine Dk.za (v:=.bool nb) rfl rfl (fun w' hw'=>by go_simp) ?_
   simp only [zD]
   refine Dk.treeY (rs:=[12]) (by kernel_rfl) (by simp) ?_
   intro i hi
   simp only [List.mem_cons,List.not_mem_nil,or_false] at hi
   subst hi
   obtain ⟨w3,ew3⟩:∃ w3,w3=w2.alloc (.cells #[.int .i64 0,.int .i64 0,.int .i64 0,.int .i64 0,.int .u64 0] 75):=⟨_,rfl⟩
   refine Dk.ze (v:=.pointer (some ⟨w2.heap.size,0,none⟩)) (w':=w3) (some 9) rfl rfl rfl (by rw [ew3];go_simp) ⟨fun _=>(h2.newBox ew3).drop,?_⟩
   simp only [zD]
   have h3:=(h2.newBox ew3).drop
   have q3:=h2.newBox ew3
   refine Dk.zs [13,14] _ _ _ (by kernel_rfl) ?_
   refine Dk.zag rfl rfl ?_
   have HB:Dk.Box w3 (w2.heap.size) #[.int .i64 0,.int .i64 0,.int .i64 0,.int .i64 0,.int .u64 0] 75:=q3.box (by simp)
   refine wp_store_row 75 _ _ rfl w2.heap.size #[.int .i64 i.op,.int .i64 i.a,.int .i64 i.b,.int .i64 i.c,.int .u64 (i.n:Nat)] rfl rfl 75 _ HB.heap sizeIns rfl (zb4 _ _ _ _ _) ⟨fun h=>absurd (by decide) h,?_⟩
   simp only [zD]
   refine Dk.zi (v:=.bool nb) (w':=w3.setRow w2.heap.size #[.int .i64 i.op,.int .i64 i.a,.int .i64 i.b,.int .i64 i.c,.int .u64 (i.n:Nat)]) (some 10) rfl rfl rfl (by go_simp) (fun h=>absurd (by decide) h) ?_
   simp only [zD]
   show NoPanic _ Exit.normal _ _
   refine NoPanic.normal ?_
   rename_i hK
   refine hK _ _ ?_
   go_meet
   exact ⟨w2.heap.size,rfl,rfl,q3.setRow rfl⟩
  ·obtain ⟨w3,ew3⟩:∃ w3,w3=WD.alloc (.cells #[.int .i64 0,.int .i64 0,.int .i64 0,.int .i64 0,.int .u64 0] 75):=⟨_,rfl⟩
   refine Dk.ze (v:=.pointer (some ⟨WD.heap.size,0,none⟩)) (w':=w3) (some 9) rfl rfl rfl (by rw [ew3];go_simp) ⟨fun _=>(hd.newBox ew3).drop,?_⟩
   simp only [zD]
   have q3:=hd.newBox ew3
   refine Dk.treeY (rs:=[8]) (by kernel_rfl) (by simp) ?_
   intro i hi
   simp only [List.mem_cons,List.not_mem_nil,or_false] at hi
   subst hi
   refine Dk.zp (some 32) rfl rfl rfl (f:=145) (args:=#[.agg #[.slice L.cA L.cL L.cC,.int .i64 0,.int .i64 0,.int .i64 0,.slice none 0 0,.slice none 0 0,.int .i64 0,.int .i64 0],Dk.fv f]) (by go_simp) ?_
   refine (KN _ _ q3).mono ?_
   rintro e w2 ⟨rfl,q2⟩
   refine ⟨_,rfl,fun _=>q2.drop,?_⟩
   simp only [zD]
   refine Dk.zt (by kernel_rfl) (fun c a w h=>h) _ 2 _ [9,10,11] _ _ (by kernel_rfl) ?_ (fun a' h=>h)
   refine Dk.za (v:=.tuple #[.agg #[.int .i64 i.op,.int .i64 i.a,.int .i64 i.b,.int .i64 i.c,.int .u64 (i.n:Nat)],.bool nb]) rfl rfl (fun w' hw'=>by go_simp) ?_
   simp only [zD]
   refine Dk.za (v:=.agg #[.int .i64 i.op,.int .i64 i.a,.int .i64 i.b,.int .i64 i.c,.int .u64 (i.n:Nat)]) rfl rfl (fun w' hw'=>by go_simp) ?_
   simp only [zD]
   refine Dk.za (v:=.bool nb) rfl rfl (fun w' hw'=>by go_simp) ?_
   simp only [zD]
   refine Dk.zs [13,14] _ _ _ (by kernel_rfl) ?_
   refine Dk.zag rfl rfl ?_
   have HB:Dk.Box w2 (WD.heap.size) #[.int .i64 0,.int .i64 0,.int .i64 0,.int .i64 0,.int .u64 0] 75:=q2.box (by simp)
   refine wp_store_row 75 _ _ rfl WD.heap.size #[.int .i64 i.op,.int .i64 i.a,.int .i64 i.b,.int .i64 i.c,.int .u64 (i.n:Nat)] rfl rfl 75 _ HB.heap sizeIns rfl (zb4 _ _ _ _ _) ⟨fun h=>absurd (by decide) h,?_⟩
   simp only [zD]
   refine Dk.zi (v:=.bool nb) (w':=w2.setRow WD.heap.size #[.int .i64 i.op,.int .i64 i.a,.int .i64 i.b,.int .i64 i.c,.int .u64 (i.n:Nat)]) (some 10) rfl rfl rfl (by go_simp) (fun h=>absurd (by decide) h) ?_
   simp only [zD]
   show NoPanic _ Exit.normal _ _
   refine NoPanic.normal ?_
   rename_i hK
   refine hK _ _ ?_
   go_meet
   exact ⟨WD.heap.size,rfl,rfl,q2.setRow rfl⟩
 case rest=>
  obtain ⟨bx,rfl,rfl,hC⟩:=hcut
  have hnb:=HNB.out
  subst hnb
  clear HNB
  have hb:Dk.Box wc bx #[.int .i64 i.op,.int .i64 i.a,.int .i64 i.b,.int .i64 i.c,.int .u64 (i.n:Nat)] 75:=hC.box (by simp)
  have cb:=hb.cell
  clear hd MK KN
  have K5:=hK _ _ hC
  have KC:=fun op w=>zbr op w
  clear hC hK
  go_wp2_with (go_at_call 146;refine (KC _ _).mono ?_;rintro e w' ⟨rfl,rfl⟩)
  refine K5.mono ?_
  rintro e w5 ⟨A,C,rfl,h5⟩
  have z5:Dk.Box w5 w.heap.size #[.slice none 0 0,.bool false,.bool false,.bool false] 43:=by rw [HU.out] at h5;exact h5.box (by simp)
  have h6:Cor W (w5.setRow w.heap.size #[.slice A E.woken.length C,.bool E.stopped,.bool E.ended,.bool E.yielded]) L qz k' (Dk.rowOf 3 1 (.slice A E.woken.length C) E.woken.length (Dk.is E.woken)::us):=by
   rw [HU.out] at h5
   exact (h5.swap.drop.swap.setRow (cs':=#[.slice A E.woken.length C,.bool E.stopped,.bool E.ended,.bool E.yielded]) rfl).drop
  have d0:=(z5.row (cs':=#[.slice A E.woken.length C,.bool E.stopped,.bool E.ended,.bool E.yielded])).cell
  have HB:Hid _:=z5
  clear K5 h5 z5 cb hb
  go_wp2_with (refine wpList_store_row rfl 43 _ _ rfl w.heap.size #[.slice A E.woken.length C,.bool E.stopped,.bool E.ended,.bool E.yielded] rfl rfl 43 _ HB.out.heap sizeEff rfl (zbd _ _ _ _ _ _) ?_)
  exact bodyPost_ret (v:=.tuple #[eff A E.woken.length C E.stopped E.ended E.yielded,.int .i64 0]) (by simp [results,Tryz.results142,go_sem,d0]) rfl ⟨A,C,rfl,h6⟩
end
end Go.Proofs.YtpnajphbjfehnaaGreat
