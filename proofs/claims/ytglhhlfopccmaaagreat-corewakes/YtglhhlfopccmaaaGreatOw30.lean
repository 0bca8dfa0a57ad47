import Derived.Test.YtglhhlfopccmaaaGreatOw29
set_option linter.unusedSimpArgs false
set_option linter.unusedVariables false
set_option linter.unnecessarySimpa false
set_option maxHeartbeats 8000000
set_option maxRecDepth 100000
namespace Go.Proofs.YtglhhlfopccmaaaGreat
open Go.RowKit Go.Lib
section
variable {W w w' : World} {L : Dk.Loc} {q : Dk.Sp} {k n : Nat} {us us' us1 us2 : List Dk.Thing} {t : Dk.Thing}
theorem zlj (h:Cor W w L q k us) (j:Int) (h0:q.asked=[]) :
  Calls Tryz.prog 29 #[.pointer (some ⟨L.b,0,none⟩),.int .i64 j] w fun e w'=>e=.returned (.tuple #[eff none 0 0 false false false,.int .i64 3])∧Cor W w' L q k us:=by
 obtain ⟨W1,e1⟩:∃ W1,W1=w.alloc (.cells #[.slice none 0 0,.bool false,.bool false,.bool false] 68):=⟨_,rfl⟩
 have h1:=h.newBox e1
 have c332:=h1.diskPtr
 obtain ⟨rest,hD,hm,hb⟩:=h1.disk
 rw [h0] at hD
 have K:Calls Tryz.prog 68 #[.pointer (some ⟨L.bd,0,none⟩),.int .i64 j] W1 fun e w'=>e=.returned (.tuple #[.agg #[.int .i64 0,.int .i64 0,.bool false,.int .u64 0],.int .u64 0,.bool false])∧Cor W w' L q k (Dk.boxOf w.heap.size #[.slice none 0 0,.bool false,.bool false,.bool false] 68::us):=by
  refine (zm5 hD j).mono ?_
  rintro e w' ⟨rfl,hD'⟩
  have:=hb w' _ _ [] hD'
  rw [← h0] at this
  exact ⟨rfl,this⟩
 have H1:Hid _:=e1.symm
 clear e1 h h1 hD hm hb h0
 go_enter Tryz.func29,Tryz.ntmps29
 go_wp2_with (rw [H1.out];clear H1)
 refine K.mono ?_
 rintro e w2 ⟨rfl,h2⟩
 obtain ⟨W3,e3⟩:∃ W3,W3=w2.alloc (.cells #[.int .i64 0,.int .i64 0,.bool false,.int .u64 0] 142):=⟨_,rfl⟩
 have h3:=h2.newBox e3
 have b3:Dk.Box W3 w2.heap.size #[.int .i64 0,.int .i64 0,.bool false,.int .u64 0] 142:=h3.box (by simp)
 obtain ⟨W4,e4⟩:∃ W4,W4=W3.setRow w2.heap.size #[.int .i64 0,.int .i64 0,.bool false,.int .u64 0]:=⟨_,rfl⟩
 have h4:=(h3.setRow (cs':=#[.int .i64 0,.int .i64 0,.bool false,.int .u64 0]) e4).drop
 have b4:Dk.Box W4 w.heap.size #[.slice none 0 0,.bool false,.bool false,.bool false] 68:=h4.box (by simp)
 have h5:=(h4.setRow (cs':=#[.slice none 0 0,.bool false,.bool false,.bool false]) rfl).drop
 have d0:=(b4.row (cs':=#[.slice none 0 0,.bool false,.bool false,.bool false])).cell
 have HB:Hid _:=b4
 have HB3:Hid _:=b3
 have H3:Hid _:=e3.symm
 have H4:Hid _:=e4.symm
 clear K e3 e4 h2 h3 h4 b3 b4 c332
 go_wp2_with (first | (rw [H3.out];clear H3) | (refine wpList_store_row rfl 142 _ _ rfl w2.heap.size #[.int .i64 0,.int .i64 0,.bool false,.int .u64 0] rfl rfl 142 _ HB3.out.heap zdy rfl (zcr _ _ _ _) ?_;rw [H4.out];clear HB3 H4) | (refine wpList_store_row rfl 68 _ _ rfl w.heap.size #[.slice none 0 0,.bool false,.bool false,.bool false] rfl rfl 68 _ HB.out.heap sizeEff rfl (zak _ _ _ _ _ _) ?_))
 exact bodyPost_ret (v:=.tuple #[eff none 0 0 false false false,.int .i64 3]) (by simp [results,Tryz.results29,go_sem,d0]) rfl ⟨rfl,h5⟩
theorem zlk (h:Cor W w L q k us) (hk:k≤100000) (j:Int) (hj:Dk.i64 j) (h0:0 < q.asked.length) (hl:q.asked.length≤1000) (r:Dk.Rq) (hr:q.asked.getD (Dk.at_K j q.asked.length) Dk.Rq.zero=r) (hR:q.RegsOk) (hi:Dk.InR r.who) (hm:q.recs.length≤80000) :
  Calls Tryz.prog 29 #[.pointer (some ⟨L.b,0,none⟩),.int .i64 j] w fun e w'=>∃ A C,e=.returned (.tuple #[eff A 1 C false false false,.int .i64 0])∧Cor W w' L (({ q with blocks:=r.left q.blocks,asked:=q.asked.eraseIdx (Dk.at_K j q.asked.length) }:Dk.Sp).wake [(r.who,r.said q.blocks)]) k (Dk.rowOf 3 1 (.slice A 1 C) 1 (Dk.is [r.who])::us):=by
 obtain ⟨W1,e1⟩:∃ W1,W1=w.alloc (.cells #[.slice none 0 0,.bool false,.bool false,.bool false] 68):=⟨_,rfl⟩
 have h1:=h.newBox e1
 have c332:=h1.diskPtr
 obtain ⟨rest,hD,_,hb⟩:=h1.disk
 have K:Calls Tryz.prog 68 #[.pointer (some ⟨L.bd,0,none⟩),.int .i64 j] W1 fun e w'=>e=.returned (.tuple #[.agg #[.int .i64 r.who,.int .i64 r.block,.bool r.write,.int .u64 (r.x:Nat)],.int .u64 (r.said q.blocks:Nat),.bool true])∧Cor W w' L ({ q with blocks:=r.left q.blocks,asked:=q.asked.eraseIdx (Dk.at_K j q.asked.length) }:Dk.Sp) k (Dk.boxOf w.heap.size #[.slice none 0 0,.bool false,.bool false,.bool false] 68::us):=by
  refine (Done_any hD j hj h0 hl r hr).mono ?_
  rintro e w' ⟨rfl,hD'⟩
  exact ⟨rfl,hb w' _ _ [] hD'⟩
 have hR':({ q with blocks:=r.left q.blocks,asked:=q.asked.eraseIdx (Dk.at_K j q.asked.length) }:Dk.Sp).RegsOk:=hR
 have hm':({ q with blocks:=r.left q.blocks,asked:=q.asked.eraseIdx (Dk.at_K j q.asked.length) }:Dk.Sp).recs.length≤80000:=hm
 generalize ({ q with blocks:=r.left q.blocks,asked:=q.asked.eraseIdx (Dk.at_K j q.asked.length) }:Dk.Sp)=q1 at *
 generalize r.said q.blocks=sd at *
 obtain ⟨r1,r2,r3,r4⟩:=r
 dsimp only at *
 have H1:Hid _:=e1.symm
 clear e1 h h1 hD hb h0 hR hm hl hr
 go_enter Tryz.func29,Tryz.ntmps29
 go_wp2_with (rw [H1.out];clear H1)
 refine K.mono ?_
 rintro e w2 ⟨rfl,h2⟩
 obtain ⟨W3,e3⟩:∃ W3,W3=w2.alloc (.cells #[.int .i64 r1,.int .i64 r2,.bool r3,.int .u64 (r4:Nat)] 142):=⟨_,rfl⟩
 have h3:=h2.newBox e3
 have b3:Dk.Box W3 w2.heap.size #[.int .i64 r1,.int .i64 r2,.bool r3,.int .u64 (r4:Nat)] 142:=h3.box (by simp)
 have c3:W3.cell? ⟨w2.heap.size,0,none⟩=some (.int .i64 r1):=b3.cell 0
 obtain ⟨W4,e4⟩:∃ W4,W4=W3.alloc (.cells #[.int .i64 r1,.int .u64 (sd:Nat)] 147):=⟨_,rfl⟩
 have h4:=h3.drop.lit (s:=2) (m:=1) e4 rfl (by omega)
 have K2:=zdf [(r1,sd)] (some ⟨W3.heap.size,0,none⟩) 1 h4 hk hR' (fun p hp=>by rw [List.mem_singleton] at hp;rw [hp];exact hi) (by simp;omega) (by simp)
 have H3:Hid _:=e3.symm
 have H4:Hid _:=e4.symm
 clear K h2 h3 h4 b3 e3 e4 c332 hR' hm'
 go_wp2_with (first | (rw [H3.out];clear H3) | (rw [H4.out];clear H4))
 refine K2.mono ?_
 rintro e w5 ⟨A5,C5,rfl,h5⟩
 have h6:=h5.swap.drop.swap
 have b6:Dk.Box w5 w.heap.size #[.slice none 0 0,.bool false,.bool false,.bool false] 68:=h6.box (by simp)
 have h7:=(h6.setRow (cs':=#[.slice A5 1 C5,.bool false,.bool false,.bool false]) rfl).drop
 have d0:=(b6.row (cs':=#[.slice A5 1 C5,.bool false,.bool false,.bool false])).cell
 have HB:Hid _:=b6
 clear K2 h5 h6 b6 c3
 go_wp2_with (refine wpList_store_row rfl 68 _ _ rfl w.heap.size #[.slice A5 1 C5,.bool false,.bool false,.bool false] rfl rfl 68 _ HB.out.heap sizeEff rfl (zak _ _ _ _ _ _) ?_)
 exact bodyPost_ret (v:=.tuple #[eff A5 1 C5 false false false,.int .i64 0]) (by simp [results,Tryz.results29,go_sem,d0]) rfl ⟨A5,C5,rfl,h7⟩
theorem zm4 (h:Cor W w L q k us) (hk:k≤100000) (j:Int) (hj:Dk.i64 j) (hl:q.asked.length≤1000) (hR:q.RegsOk) (hi:∀ r ∈ q.asked,Dk.InR r.who) (hm:q.recs.length≤80000) :
  Calls Tryz.prog 29 #[.pointer (some ⟨L.b,0,none⟩),.int .i64 j] w fun e w'=>∃ A C,e=.returned (.tuple #[eff A (q.done j).2.1.woken.length C false false false,.int .i64 (q.done j).2.2])∧Cor W w' L (q.done j).1 k (Dk.rowOf 3 1 (.slice A (q.done j).2.1.woken.length C) (q.done j).2.1.woken.length (Dk.is (q.done j).2.1.woken)::us):=by
 unfold Dk.Sp.done
 by_cases h0:q.asked.length=0
 ·rw [if_pos h0]
  refine (zlj h j (List.eq_nil_of_length_eq_zero h0)).mono ?_
  rintro e w' ⟨rfl,h'⟩
  exact ⟨none,0,rfl,h'.nil⟩
 ·rw [if_neg h0]
  refine (zlk h hk j hj (by omega) hl _ rfl hR (hi _ (Dk.zig _ _ _ (Dk.zkm j (by omega)))) hm).mono ?_
  rintro e w' ⟨A,C,rfl,h'⟩
  exact ⟨A,C,rfl,h'⟩
end
section
variable {W w w' : World} {L : Dk.Loc} {q : Dk.Sp} {k n : Nat} {us us' us1 us2 : List Dk.Thing} {t : Dk.Thing}
theorem ins_row {B:Nat} {u:Value} {xs:List Dk.Ins} (h:w.ownsRow B 112 5 u xs.length (xs.flatMap Dk.Ins.cells)) (hx:∀ i ∈ xs,i.ok):∃ A C,u=.slice A xs.length C∧Dk.SlN w.heap.size w A xs.length C xs:=by
 obtain ⟨A,C,rfl,h1,h2⟩:=Dk.zc h
 refine ⟨A,C,rfl,rfl,h1,h2,hx,fun h0=>?_⟩
 obtain ⟨g,C',x,ev,_,_,_,hc,_,_⟩:=Dk.zbb (k:=0) h (by omega)
 obtain rfl:A=some ⟨g,0,none⟩:=by injection ev
 have hlt:g < w.heap.size:=(World.ownsRow.lt h g rfl).2
 refine ⟨g,0,rfl,hlt,fun j hj=>?_⟩
 have key:∀ m,m < 5→w.cell? ⟨g,0+j*5+m,none⟩=(xs.getD j Dk.Ins.zero).cells[m]?:=fun m hm=>by
  obtain ⟨g',C2,x2,ev2,_,_,ex,ec,_,_⟩:=Dk.zbb (k:=j*5+m) h (by omega)
  obtain rfl:g=g':=by injection ev2 with q1;injection q1 with q2;injection q2
  have hj':xs[j]? = some (xs.getD j Dk.Ins.zero):=by rw [List.getD_eq_getElem?_getD,List.getElem?_eq_getElem hj];rfl
  rw [Dk.flat_get Dk.Ins.len xs j m _ hj' hm] at ex
  rw [Nat.zero_add,ec,ex]
 exact ⟨key 0 (by omega),key 1 (by omega),key 2 (by omega),key 3 (by omega),key 4 (by omega)⟩
theorem Cor.code (h:Cor W w L q k us):Dk.PrgAt w.heap.size w ⟨L.cA,L.cL,L.cC,none,0,0,none,0,0⟩ q.prog∧∀ j,j < 8→w.cell? ⟨L.b,j,none⟩=(L.head (.slice none 0 0))[j]?:=by
 obtain ⟨ks,kw,vm,vr,vs,td,tt,tg,h1,h2,h3,h4,h5,h6,h7,h8,h8',h9⟩:=Hid.out h
 have hb:Dk.Box w L.b (L.body q.thr vm vr).toArray 118:=h9.box (by simp [parts,spBox])
 have hmem:codeT L vs q.code ∈ us++parts L q ks kw vm vr vs td tt tg:=by simp [parts]
 refine ⟨⟨?_,?_,?_,?_,?_,?_,?_,?_⟩,fun j hj=>?_⟩
 ·obtain ⟨A,C,ev,c1,c2⟩:=h9.nestLen hmem
  injection ev with q1 q2 q3
  have e2:q.code.length=L.cL:=q2.symm
  refine ⟨e2,by show L.cL≤L.cC;omega,by show L.cC≤_;omega,fun h0=>?_⟩
  have h0':0 < q.code.length:=by rw [e2];exact h0
  obtain ⟨g,C',u,xs,ev',_,_,hu,hx,hc,_,hr,_⟩:=h9.inner hmem h0'
  injection ev' with r1 r2 r3
  refine ⟨g,0,r1,?_,fun j hj=>?_⟩
  ·have hr1:=(h9.get hmem).1
   rw [r1] at hr1
   exact (World.ownsRow.lt hr1 g rfl).2
  ·have hj':j < q.code.length:=by rw [e2];exact hj
   obtain ⟨g',C'',u',xs',ev'',_,_,hu',hx',hc',_,hr',_⟩:=h9.inner hmem hj'
   injection ev'' with t1 t2 t3
   have eg:g=g':=by rw [r1] at t1;injection t1 with t4;injection t4
   subst eg
   obtain ⟨A',C3,rfl,hN⟩:=ins_row hr' (fun i hi=>h8 xs' (List.mem_of_getElem? hx') i hi)
   have ex:q.prog.funcs.getD j []=xs':=by
    show q.code.getD j []=xs'
    rw [List.getD_eq_getElem?_getD,hx'];rfl
   rw [ex,Nat.zero_add]
   exact ⟨A',xs'.length,C3,hc',hN⟩
 ·exact ⟨rfl,Nat.le_refl _,by show 0≤maxLen;omega,(fun x hx=>by simp [Dk.Sp.prog] at hx),fun h0=>absurd h0 (by show ¬ 0 < 0;omega)⟩
 ·exact ⟨rfl,Nat.le_refl _,by show 0≤maxLen;omega,(fun x hx=>by simp [Dk.Sp.prog] at hx),fun h0=>absurd h0 (by show ¬ 0 < 0;omega)⟩
 all_goals first | (show Dk.i64 0;unfold Dk.i64;omega) | skip
 rw [hb.cell,List.getElem?_toArray,Dk.zbn _ _ _ _ (by omega)]
 have:j=0∨j=1∨j=2∨j=3∨j=4∨j=5∨j=6∨j=7:=by omega
 rcases this with rfl | rfl | rfl | rfl | rfl | rfl | rfl | rfl <;> rfl
end
abbrev recv (r:Dk.Rec):Value:=.agg #[.int .u64 (r.thread:Nat),.int .i64 r.op,.int .u64 (r.x:Nat),.int .u64 (r.y:Nat),.int .i64 r.result,.bool r.fin]
theorem zpo (a:Int) (op:Int) (x y:Int) (e:Int) (b:Bool):(#[.int .u64 a,.int .i64 op,.int .u64 x,.int .u64 y,.int .i64 e,.bool b]:Array Value).all (·.oneCell')=true:=by simp [Value.oneCell']
theorem sizeRec:(Tryz.prog.info? 74).map (·.size)=some 6:=by kernel_rfl
theorem zfy (op:Int) (a b:Nat) (c:Int) (nn:Nat) (ha:a < 8) (hb:b < 8) (f g:Dk.Frm) (e:Int) (w:World) :
  Calls Tryz.prog 96 #[.agg #[.int .i64 op,.int .i64 (a:Int),.int .i64 (b:Int),.int .i64 c,.int .u64 (nn:Nat)],Dk.fv f,Dk.fv g,.int .i64 e] w fun e' w'=>e'=.returned (recv (Dk.Sp.access ⟨op,a,b,c,nn⟩ f g e))∧Below w.heap.size w w':=by
 obtain ⟨W1,e1⟩:∃ W1,W1=w.alloc (.cells #[.int .i64 op,.int .i64 (a:Int),.int .i64 (b:Int),.int .i64 c,.int .u64 (nn:Nat)] 112):=⟨_,rfl⟩
 obtain ⟨W2,e2⟩:∃ W2,W2=W1.alloc (.cells (Dk.fc f) 110):=⟨_,rfl⟩
 obtain ⟨W3,e3⟩:∃ W3,W3=W2.alloc (.cells (Dk.fc g) 110):=⟨_,rfl⟩
 obtain ⟨W4,e4⟩:∃ W4,W4=W3.alloc (.cells #[.int .u64 0,.int .i64 0,.int .u64 0,.int .u64 0,.int .i64 0,.bool false] 74):=⟨_,rfl⟩
 obtain ⟨W5,e5⟩:∃ W5,W5=W4.alloc (.cells #[.int .u64 0,.int .i64 op,.int .u64 0,.int .u64 0,.int .i64 e,.bool true] 74):=⟨_,rfl⟩
 have s5:=(((((Dk.Sep.begin (Below.refl w.heap.size w)).newBox e1).newBox e2).newBox e3).newBox e4).newBox e5
 have z1:W1.heap.size=w.heap.size+1:=by rw [e1,World.size_alloc]
 have z2:W2.heap.size=w.heap.size+1+1:=by rw [e2,World.size_alloc,z1]
 have z3:W3.heap.size=w.heap.size+1+1+1:=by rw [e3,World.size_alloc,z2]
 have z4:W4.heap.size=w.heap.size+1+1+1+1:=by rw [e4,World.size_alloc,z3]
 rw [z1,z2,z3,z4] at s5
 have c0:W5.cell? ⟨w.heap.size,0,none⟩=some (.int .i64 op):=(s5.box (b:=w.heap.size) (cs:=#[.int .i64 op,.int .i64 (a:Int),.int .i64 (b:Int),.int .i64 c,.int .u64 (nn:Nat)]) (t:=112) (by simp)).cell 0
 have E5:Hid (((((w.alloc (.cells #[.int .i64 op,.int .i64 (a:Int),.int .i64 (b:Int),.int .i64 c,.int .u64 (nn:Nat)] 112)).alloc (.cells (Dk.fc f) 110)).alloc (.cells (Dk.fc g) 110)).alloc (.cells #[.int .u64 0,.int .i64 0,.int .u64 0,.int .u64 0,.int .i64 0,.bool false] 74)).alloc (.cells #[.int .u64 0,.int .i64 op,.int .u64 0,.int .u64 0,.int .i64 e,.bool true] 74)=W5):=by rw [e5,e4,e3,e2,e1];exact rfl
 have S5:Dk.Sep w W5 _:=s5
 clear e1 e2 e3 e4 e5 z1 z2 z3 z4 s5
 have i1:(a:Int) < 8:=by omega
 have i2:(0:Int)≤(a:Int):=by omega
 have i3:(b:Int) < 8:=by omega
 have i4:(0:Int)≤(b:Int):=by omega
 by_cases ho:op=18
 ·subst ho
  go_enter Tryz.func96,Tryz.ntmps96
  go_wp2_with (rw [E5.out];clear E5)
  have s6:=S5.below (Dk.zh (Below.refl _ _))
  have bi:Dk.Box W5.drew w.heap.size #[.int .i64 18,.int .i64 (a:Int),.int .i64 (b:Int),.int .i64 c,.int .u64 (nn:Nat)] 112:=s6.box (by simp)
  have bf:Dk.Box W5.drew (w.heap.size+1) (Dk.fc f) 110:=s6.box (by simp)
  have bg:Dk.Box W5.drew (w.heap.size+1+1) (Dk.fc g) 110:=s6.box (by simp)
  have br:Dk.Box W5.drew (w.heap.size+1+1+1+1) #[.int .u64 0,.int .i64 18,.int .u64 0,.int .u64 0,.int .i64 e,.bool true] 74:=s6.box (by simp)
  have s7:=Dk.Sep.setBox (us1:=[]) (o:=2) s6 (.int .u64 (f.r b:Nat))
  have s8:=Dk.Sep.setBox (us1:=[]) (o:=3) s7 (.int .u64 (g.r a:Nat))
  refine Dk.zf (S:=fun w'=>Dk.Box w' w.heap.size #[.int .i64 18,.int .i64 (a:Int),.int .i64 (b:Int),.int .i64 c,.int .u64 (nn:Nat)] 112∧Dk.Box w' (w.heap.size+1) (Dk.fc f) 110∧Dk.Box w' (w.heap.size+1+1) (Dk.fc g) 110) [0,1,2,3,4,5,6,7,8,9,10] [11,12,13] (by kernel_rfl) (by kernel_rfl) ⟨bi,bf,bg⟩ ?_
  refine Dk.za (v:=.pointer (some ⟨w.heap.size,2,none⟩)) rfl rfl (fun w' hw'=>by go_simp) ?_
  simp only [zD]
  refine Dk.za (v:=.int .i64 (b:Int)) rfl rfl (fun w' hw'=>by have c:=hw'.1.cell 2;go_simp) ?_
  simp only [zD]
  refine Dk.za (v:=.pointer (some ⟨w.heap.size+1,2,none⟩)) rfl rfl (fun w' hw'=>by go_simp) ?_
  simp only [zD]
  refine Dk.za (v:=.pointer (some ⟨w.heap.size+1,2+b,none⟩)) rfl rfl (fun w' hw'=>by go_simp) ?_
  simp only [zD]
  refine Dk.za (v:=.int .u64 (f.r b:Nat)) rfl rfl (fun w' hw'=>by have c:=(hw'.2.1.cell (2+b)).trans (Dk.zav f b (by omega));go_simp) ?_
  simp only [zD]
  refine Dk.za (v:=.pointer (some ⟨w.heap.size,1,none⟩)) rfl rfl (fun w' hw'=>by go_simp) ?_
  simp only [zD]
  refine Dk.za (v:=.int .i64 (a:Int)) rfl rfl (fun w' hw'=>by have c:=hw'.1.cell 1;go_simp) ?_
  simp only [zD]
  refine Dk.za (v:=.pointer (some ⟨w.heap.size+1+1,2,none⟩)) rfl rfl (fun w' hw'=>by go_simp) ?_
  simp only [zD]
  refine Dk.za (v:=.pointer (some ⟨w.heap.size+1+1,2+a,none⟩)) rfl rfl (fun w' hw'=>by go_simp) ?_
  simp only [zD]
  refine Dk.za (v:=.int .u64 (g.r a:Nat)) rfl rfl (fun w' hw'=>by have c:=(hw'.2.2.cell (2+a)).trans (Dk.zav g a (by omega));go_simp) ?_
  simp only [zD]
  refine Dk.za (v:=.pointer (some ⟨w.heap.size+1+1+1+1,2,none⟩)) rfl rfl (fun w' hw'=>by go_simp) ?_
  simp only [zD]
  refine Dk.zk rfl rfl ?_
  have k2:W5.drew.cell? ⟨w.heap.size+1+1+1+1,2,none⟩=some (.int .u64 0):=br.cell 2
  have k2':=br.frozen 2
  refine zag (w':=W5.drew.setCell ⟨w.heap.size+1+1+1+1,2,none⟩ (.int .u64 (f.r b:Nat))) (by go_simp) ?_
  have br':=br.set 2 (.int .u64 (f.r b:Nat))
  have k3:(W5.drew.setCell ⟨w.heap.size+1+1+1+1,2,none⟩ (.int .u64 (f.r b:Nat))).cell? ⟨w.heap.size+1+1+1+1,3,none⟩=some (.int .u64 0):=br'.cell 3
  have k3':=br'.frozen 3
  generalize W5.drew.setCell ⟨w.heap.size+1+1+1+1,2,none⟩ (.int .u64 (f.r b:Nat))=W6 at *
  refine ⟨⟨s7.box (by simp),s7.box (by simp),s7.box (by simp)⟩,?_⟩
  simp only [zD]
  refine Dk.zk rfl rfl ?_
  refine zcm (v:=.pointer (some ⟨w.heap.size+1+1+1+1,3,none⟩)) (w':=W6) (by go_simp) ⟨⟨s7.box (by simp),s7.box (by simp),s7.box (by simp)⟩,?_⟩
  simp only [zD]
  refine Dk.zk rfl rfl ?_
  refine zag (w':=W6.setCell ⟨w.heap.size+1+1+1+1,3,none⟩ (.int .u64 (g.r a:Nat))) (by go_simp) ?_
  generalize W6.setCell ⟨w.heap.size+1+1+1+1,3,none⟩ (.int .u64 (g.r a:Nat))=W7 at *
  have br8:Dk.Box W7 (w.heap.size+1+1+1+1) #[.int .u64 0,.int .i64 18,.int .u64 (f.r b:Nat),.int .u64 (g.r a:Nat),.int .i64 e,.bool true] 74:=s8.box (by simp)
  have bz8:Dk.Box W7 (w.heap.size+1+1+1) #[.int .u64 0,.int .i64 0,.int .u64 0,.int .u64 0,.int .i64 0,.bool false] 74:=s8.box (by simp)
  refine ⟨⟨s8.box (by simp),s8.box (by simp),s8.box (by simp)⟩,?_⟩
  show NoPanic _ Exit.normal _ _
  refine NoPanic.normal ?_
  simp only [zD]
  first | (rename_i hK;refine hK _ _ ?_;clear hK) | (rename_i hK _;refine hK _ _ ?_;clear hK)
  have HZ:Hid _:=bz8
  have HU:Hid _:=s8.out
  have cr:=br8.cell
  have dz:=(bz8.row (cs':=#[.int .u64 0,.int .i64 18,.int .u64 (f.r b:Nat),.int .u64 (g.r a:Nat),.int .i64 e,.bool true])).cell
  clear s6 s7 s8 bi bf bg br br' br8 bz8 k2 k2' k3 k3' S5
  go_wp2_with (refine wpList_store_row rfl 74 _ _ rfl (w.heap.size+1+1+1) #[.int .u64 0,.int .i64 18,.int .u64 (f.r b:Nat),.int .u64 (g.r a:Nat),.int .i64 e,.bool true] rfl rfl 74 _ HZ.out.heap sizeRec rfl (zpo _ _ _ _ _ _) ?_)
  exact bodyPost_ret (v:=recv ⟨0,18,f.r b,g.r a,e,true⟩) (by simp [results,Tryz.results96,go_sem,dz]) rfl ⟨rfl,zqf HU.out (by omega) _⟩
 ·go_enter Tryz.func96,Tryz.ntmps96
  go_wp2_with (rw [E5.out];clear E5)
  have s6:=S5.below (Dk.zh (Below.refl _ _))
  have bi:Dk.Box W5.drew w.heap.size #[.int .i64 op,.int .i64 (a:Int),.int .i64 (b:Int),.int .i64 c,.int .u64 (nn:Nat)] 112:=s6.box (by simp)
  have bf:Dk.Box W5.drew (w.heap.size+1) (Dk.fc f) 110:=s6.box (by simp)
  have bg:Dk.Box W5.drew (w.heap.size+1+1) (Dk.fc g) 110:=s6.box (by simp)
  have br:Dk.Box W5.drew (w.heap.size+1+1+1+1) #[.int .u64 0,.int .i64 op,.int .u64 0,.int .u64 0,.int .i64 e,.bool true] 74:=s6.box (by simp)
  have s7:=Dk.Sep.setBox (us1:=[]) (o:=2) s6 (.int .u64 (f.r a:Nat))
  have s8:=Dk.Sep.setBox (us1:=[]) (o:=3) s7 (.int .u64 (f.r b:Nat))
  refine Dk.zf (S:=fun w'=>Dk.Box w' w.heap.size #[.int .i64 op,.int .i64 (a:Int),.int .i64 (b:Int),.int .i64 c,.int .u64 (nn:Nat)] 112∧Dk.Box w' (w.heap.size+1) (Dk.fc f) 110∧Dk.Box w' (w.heap.size+1+1) (Dk.fc g) 110) [0,1,2,3,4,5,6,7,8,9,10] [11,12,13] (by kernel_rfl) (by kernel_rfl) ⟨bi,bf,bg⟩ ?_
  refine Dk.za (v:=.pointer (some ⟨w.heap.size,1,none⟩)) rfl rfl (fun w' hw'=>by go_simp) ?_
  simp only [zD]
  refine Dk.za (v:=.int .i64 (a:Int)) rfl rfl (fun w' hw'=>by have c:=hw'.1.cell 1;go_simp) ?_
  simp only [zD]
  refine Dk.za (v:=.pointer (some ⟨w.heap.size+1,2,none⟩)) rfl rfl (fun w' hw'=>by go_simp) ?_
  simp only [zD]
  refine Dk.za (v:=.pointer (some ⟨w.heap.size+1,2+a,none⟩)) rfl rfl (fun w' hw'=>by go_simp) ?_
  simp only [zD]
  refine Dk.za (v:=.int .u64 (f.r a:Nat)) rfl rfl (fun w' hw'=>by have c:=(hw'.2.1.cell (2+a)).trans (Dk.zav f a (by omega));go_simp) ?_
  simp only [zD]
  refine Dk.za (v:=.pointer (some ⟨w.heap.size,2,none⟩)) rfl rfl (fun w' hw'=>by go_simp) ?_
  simp only [zD]
  refine Dk.za (v:=.int .i64 (b:Int)) rfl rfl (fun w' hw'=>by have c:=hw'.1.cell 2;go_simp) ?_
  simp only [zD]
  refine Dk.za (v:=.pointer (some ⟨w.heap.size+1,2,none⟩)) rfl rfl (fun w' hw'=>by go_simp) ?_
  simp only [zD]
  refine Dk.za (v:=.pointer (some ⟨w.heap.size+1,2+b,none⟩)) rfl rfl (fun w' hw'=>by go_simp) ?_
  simp only [zD]
  refine Dk.za (v:=.int .u64 (f.r b:Nat)) rfl rfl (fun w' hw'=>by have c:=(hw'.2.1.cell (2+b)).trans (Dk.zav f b (by omega));go_simp) ?_
  simp only [zD]
  refine Dk.za (v:=.pointer (some ⟨w.heap.size+1+1+1+1,2,none⟩)) rfl rfl (fun w' hw'=>by go_simp) ?_
  simp only [zD]
  refine Dk.zk rfl rfl ?_
  have k2:W5.drew.cell? ⟨w.heap.size+1+1+1+1,2,none⟩=some (.int .u64 0):=br.cell 2
  have k2':=br.frozen 2
  refine zag (w':=W5.drew.setCell ⟨w.heap.size+1+1+1+1,2,none⟩ (.int .u64 (f.r a:Nat))) (by go_simp) ?_
  have br':=br.set 2 (.int .u64 (f.r a:Nat))
  have k3:(W5.drew.setCell ⟨w.heap.size+1+1+1+1,2,none⟩ (.int .u64 (f.r a:Nat))).cell? ⟨w.heap.size+1+1+1+1,3,none⟩=some (.int .u64 0):=br'.cell 3
  have k3':=br'.frozen 3
  generalize W5.drew.setCell ⟨w.heap.size+1+1+1+1,2,none⟩ (.int .u64 (f.r a:Nat))=W6 at *
  refine ⟨⟨s7.box (by simp),s7.box (by simp),s7.box (by simp)⟩,?_⟩
  simp only [zD]
  refine Dk.zk rfl rfl ?_
  refine zcm (v:=.pointer (some ⟨w.heap.size+1+1+1+1,3,none⟩)) (w':=W6) (by go_simp) ⟨⟨s7.box (by simp),s7.box (by simp),s7.box (by simp)⟩,?_⟩
  simp only [zD]
  refine Dk.zk rfl rfl ?_
  refine zag (w':=W6.setCell ⟨w.heap.size+1+1+1+1,3,none⟩ (.int .u64 (f.r b:Nat))) (by go_simp) ?_
  generalize W6.setCell ⟨w.heap.size+1+1+1+1,3,none⟩ (.int .u64 (f.r b:Nat))=W7 at *
  have br8:Dk.Box W7 (w.heap.size+1+1+1+1) #[.int .u64 0,.int .i64 op,.int .u64 (f.r a:Nat),.int .u64 (f.r b:Nat),.int .i64 e,.bool true] 74:=s8.box (by simp)
  have bz8:Dk.Box W7 (w.heap.size+1+1+1) #[.int .u64 0,.int .i64 0,.int .u64 0,.int .u64 0,.int .i64 0,.bool false] 74:=s8.box (by simp)
  refine ⟨⟨s8.box (by simp),s8.box (by simp),s8.box (by simp)⟩,?_⟩
  show NoPanic _ Exit.normal _ _
  refine NoPanic.normal ?_
  simp only [zD]
  first | (rename_i hK;refine hK _ _ ?_;clear hK) | (rename_i hK _;refine hK _ _ ?_;clear hK)
  have HZ:Hid _:=bz8
  have HU:Hid _:=s8.out
  have cr:=br8.cell
  have dz:=(bz8.row (cs':=#[.int .u64 0,.int .i64 op,.int .u64 (f.r a:Nat),.int .u64 (f.r b:Nat),.int .i64 e,.bool true])).cell
  clear s6 s7 s8 bi bf bg br br' br8 bz8 k2 k2' k3 k3' S5
  go_wp2_with (refine wpList_store_row rfl 74 _ _ rfl (w.heap.size+1+1+1) #[.int .u64 0,.int .i64 op,.int .u64 (f.r a:Nat),.int .u64 (f.r b:Nat),.int .i64 e,.bool true] rfl rfl 74 _ HZ.out.heap sizeRec rfl (zpo _ _ _ _ _ _) ?_)
  exact bodyPost_ret (v:=recv ⟨0,op,f.r a,f.r b,e,true⟩) (by simp [results,Tryz.results96,go_sem,dz]) rfl ⟨by unfold Dk.Sp.access;rw [if_neg ho];rfl,zqf HU.out (by omega) _⟩
end Go.Proofs.YtglhhlfopccmaaaGreat
