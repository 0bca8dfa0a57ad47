import Derived.Test.YtglhhlfopccmaaaGreatOq29
set_option linter.unusedSimpArgs false
set_option linter.unusedVariables false
set_option linter.unnecessarySimpa false
set_option maxHeartbeats 8000000
set_option maxRecDepth 100000
namespace Go.Proofs.YtglhhlfopccmaaaGreat
open Go.RowKit Go.Lib
section
variable {W w w' : World} {L : Dk.Loc} {q : Dk.Sp} {k n : Nat} {us us' us1 us2 : List Dk.zd} {t : Dk.zd}
theorem zto (h:Cor W w L q k us) (hk:k≤10000) (ds:List Int) (ed:Dk.rise (Dk.zil (min (q.now+1) 1099511627776) q.due)=ds) :
  Calls Tryz.prog 71 #[.pointer (some ⟨L.bw,0,none⟩)] w fun e w'=>∃ A C,e=.returned (.slice A ds.length C)∧Cor W w' L { q with now:=min (q.now+1) 1099511627776,due:=Dk.leftOf (min (q.now+1) 1099511627776) q.due } k (Dk.rowOf 3 1 (.slice A ds.length C) ds.length (Dk.is ds)::us):=by
 obtain ⟨kw,hkw,hW,hb⟩:=h.wheel
 refine (Tick_any hW (by omega)).mono ?_
 rintro e w' ⟨v,ys,rfl,hr,hri,hp,hW',ha⟩
 obtain rfl:ys=ds:=Dk.zsj (hp.trans (by rw [← ed];exact (Dk.zet _).symm)) hri (by rw [← ed];exact Dk.zlx _)
 obtain ⟨A,C,rfl,_,_⟩:=Dk.zf hr
 refine ⟨A,C,rfl,?_⟩
 exact hb w' kw _ _ [Dk.rowOf 3 1 (.slice A ys.length C) ys.length (Dk.is ys)] k hW' ha (fun t ht=>by
  rw [List.mem_singleton] at ht
  rw [ht]
  exact ⟨Dk.zau hr (Nat.zero_le _),fun j hj=>(World.ownsRow.lt hr j hj).1⟩) (List.pairwise_singleton _ _) hkw (Nat.le_refl _)
theorem zpk (j:Int) (w:World):Calls Tryz.prog 29 #[.pointer none,.int .i64 j] w fun e w'=>e=.returned (.tuple #[eff none 0 0 false false false,.int .i64 1])∧Below w.heap.size w w':=by
 obtain ⟨W1,e1⟩:∃ W1,W1=w.alloc (.cells #[.slice none 0 0,.bool false,.bool false,.bool false] 68):=⟨_,rfl⟩
 have u1:Below w.heap.size w W1:=by rw [e1];exact Dk.zc (Below.refl _ _) _
 have b1:Dk.Box W1 w.heap.size #[.slice none 0 0,.bool false,.bool false,.bool false] 68:=by rw [e1];exact Dk.Box.new _ _ _
 have HB:Hid _:=b1
 have H1:Hid _:=e1.symm
 have HU:Hid (Below w.heap.size w W1):=u1
 clear e1 u1 b1
 go_enter Tryz.func29,Tryz.ntmps29
 go_wp2_with (first | (rw [H1.out];clear H1) | (refine wpList_store_row rfl 68 _ _ rfl w.heap.size #[.slice none 0 0,.bool false,.bool false,.bool false] rfl rfl 68 _ HB.out.heap za1 rfl (zaz _ _ _ _ _ _) ?_))
 have d0:=(HB.out.row (cs':=#[.slice none 0 0,.bool false,.bool false,.bool false])).cell
 exact bodyPost_ret (v:=.tuple #[eff none 0 0 false false false,.int .i64 1]) (by simp [results,Tryz.results29,go_sem,d0]) rfl ⟨rfl,zjc HU.out (Nat.le_refl _) _⟩
theorem RunC_nil (j c:Int) (w:World):Calls Tryz.prog 28 #[.pointer none,.int .i64 j,.int .i64 c] w fun e w'=>e=.returned (.tuple #[eff none 0 0 false false false,.int .i64 1])∧Below w.heap.size w w':=by
 obtain ⟨W1,e1⟩:∃ W1,W1=w.alloc (.cells #[.slice none 0 0,.bool false,.bool false,.bool false] 68):=⟨_,rfl⟩
 have u1:Below w.heap.size w W1:=by rw [e1];exact Dk.zc (Below.refl _ _) _
 have b1:Dk.Box W1 w.heap.size #[.slice none 0 0,.bool false,.bool false,.bool false] 68:=by rw [e1];exact Dk.Box.new _ _ _
 have HB:Hid _:=b1
 have H1:Hid _:=e1.symm
 have HU:Hid (Below w.heap.size w W1):=u1
 clear e1 u1 b1
 go_enter Tryz.func28,Tryz.ntmps28
 go_wp2_with (first | (rw [H1.out];clear H1) | (go_at_call 57;refine (zo8 _ _).mono ?_;rintro e w' ⟨rfl,ew⟩;subst w') | (refine wpList_store_row rfl 68 _ _ rfl w.heap.size #[.slice none 0 0,.bool false,.bool false,.bool false] rfl rfl 68 _ HB.out.heap za1 rfl (zaz _ _ _ _ _ _) ?_))
 have d0:=(HB.out.row (cs':=#[.slice none 0 0,.bool false,.bool false,.bool false])).cell
 exact bodyPost_ret (v:=.tuple #[eff none 0 0 false false false,.int .i64 1]) (by simp [results,Tryz.results28,go_sem,d0]) rfl ⟨rfl,zjc HU.out (Nat.le_refl _) _⟩
theorem zp7 (h:Cor W w L q k us) (hk:k≤10000) (hr:q.zap) (hd:∀ x ∈ Dk.keysOf q.due,Dk.InR x) (hl:q.recs.length≤80000) (hl2:q.due.length≤1000) :
  Calls Tryz.prog 30 #[.pointer (some ⟨L.b,0,none⟩)] w fun e w'=>∃ A C,e=.returned (eff A q.tick.2.woken.length C false false false)∧Cor W w' L q.tick.1 k (Dk.rowOf 3 1 (.slice A q.tick.2.woken.length C) q.tick.2.woken.length (Dk.is q.tick.2.woken)::us):=by
 obtain ⟨W1,e1⟩:∃ W1,W1=w.alloc (.cells #[.slice none 0 0,.bool false,.bool false,.bool false] 68):=⟨_,rfl⟩
 have h1:=h.zb e1
 obtain ⟨ds,ed⟩:∃ ds,Dk.rise (Dk.zil (min (q.now+1) 1099511627776) q.due)=ds:=⟨_,rfl⟩
 have K:=zto h1 hk ds ed
 have hdl:ds.length≤1000:=by
  rw [← ed,(Dk.zet _).length_eq]
  unfold Dk.zil Dk.keysOf
  rw [List.length_map]
  exact Nat.le_trans (List.length_filter_le _ _) hl2
 have hdm:∀ x ∈ ds,Dk.InR x:=fun x hx=>by
  rw [← ed,(Dk.zet _).mem_iff] at hx
  refine hd x ?_
  unfold Dk.zil Dk.keysOf at hx
  obtain ⟨p,hp,rfl⟩:=List.mem_map.1 hx
  exact List.mem_map_of_mem (List.mem_filter.1 hp).1
 have c333:=h1.zno
 unfold Dk.Sp.tick
 dsimp only
 rw [ed]
 have hr':({ q with now:=min (q.now+1) 1099511627776,due:=Dk.leftOf (min (q.now+1) 1099511627776) q.due }:Dk.Sp).zap:=hr
 have hl':({ q with now:=min (q.now+1) 1099511627776,due:=Dk.leftOf (min (q.now+1) 1099511627776) q.due }:Dk.Sp).recs.length≤80000:=hl
 generalize ({ q with now:=min (q.now+1) 1099511627776,due:=Dk.leftOf (min (q.now+1) 1099511627776) q.due }:Dk.Sp)=q1 at *
 have H1:Hid _:=e1.symm
 have HD:Hid (∀ x ∈ ds,Dk.InR x):=hdm
 clear e1 h h1 hd hl hl2 hr ed hdm
 go_enter Tryz.func30,Tryz.ntmps30
 go_wp2_with (rw [H1.out];clear H1)
 refine K.mono ?_
 rintro e w2 ⟨A,C,rfl,h2⟩
 obtain ⟨ts,s2,hb⟩:=h2.opened
 have K2:=zdp ds A C s2 (by omega)
 clear K h2 s2 c333
 go_wp2_with fail
 refine K2.mono ?_
 rintro e w3 ⟨A3,C3,rfl,s3⟩
 have h3:=hb w3 (Dk.rowOf 147 2 (.slice A3 ds.length C3) ds.length (Dk.prs (ds.map fun x=>(x,0)))::Dk.rowOf 3 1 (.slice A ds.length C) ds.length (Dk.is ds)::Dk.ze w.heap.size #[.slice none 0 0,.bool false,.bool false,.bool false] 68::us) s3
 have K3:=zen (ds.map fun x=>(x,0)) A3 C3 (by rw [List.length_map];exact h3) (by omega) hr' (fun p hp=>by obtain ⟨x,hx,rfl⟩:=List.mem_map.1 hp;exact HD.out x hx) (by rw [List.length_map];omega) (by rw [List.length_map];omega)
 rw [List.length_map,List.map_map] at K3
 have em:ds.map (Prod.fst ∘ fun x:Int=>(x,(0:Nat)))=ds:=by
  rw [show (Prod.fst ∘ fun x:Int=>(x,(0:Nat)))=id from rfl,List.map_id]
 rw [em] at K3
 clear K2 h3 s3 hb em hr' hl' HD
 go_wp2_with fail
 refine K3.mono ?_
 rintro e w4 ⟨A4,C4,rfl,h4⟩
 have h5:=h4.swap.drop.swap.drop.swap
 have b5:Dk.Box w4 w.heap.size #[.slice none 0 0,.bool false,.bool false,.bool false] 68:=h5.box (by simp)
 have h6:=(h5.setRow (cs':=#[.slice A4 ds.length C4,.bool false,.bool false,.bool false]) rfl).drop
 have d0:=(b5.row (cs':=#[.slice A4 ds.length C4,.bool false,.bool false,.bool false])).cell
 have HB:Hid _:=b5
 clear K3 h4 h5 b5
 go_wp2_with (refine wpList_store_row rfl 68 _ _ rfl w.heap.size #[.slice A4 ds.length C4,.bool false,.bool false,.bool false] rfl rfl 68 _ HB.out.heap za1 rfl (zaz _ _ _ _ _ _) ?_)
 exact bodyPost_ret (v:=eff A4 ds.length C4 false false false) (by simp [results,Tryz.results30,go_sem,d0]) rfl ⟨A4,C4,rfl,h6⟩
theorem Cor.disk (h:Cor W w L q k us):∃ rest,Dk.Db W w L.bd q.blocks q.asked rest∧(∀ t ∈ us,t ∈ rest)∧∀ w' bs rs new,Dk.Db W w' L.bd bs rs (new++rest)→Cor W w' L { q with blocks:=bs,asked:=rs } k (new++us):=by
 obtain ⟨ks,kw,vm,vr,vs,td,tt,tg,h1,h2,⟨v1,v2,rfl,hf⟩,h4,h5,h6,h7,h8,h8',h9⟩:=Hid.out h
 refine ⟨us++(zb8 L q.thr vm vr::memT vm q.mem::recT vr q.recs::zde L vs q.code::zcy L.bt L.bs ks q.st::zba L.bw L.bm kw q.now q.due::(tt++tg)),⟨v1,v2,?_,hf⟩,fun t ht=>List.mem_append_left _ ht,fun w' bs rs new hD=>?_⟩
 ·refine Dk.Sep.perm h9 ?_
  have p:∀ (a b c d e f:Dk.zd) (x y z:List Dk.zd),(z++(a::b::c::d::e::f::(x++y))).Perm (x++(z++(a::b::c::d::e::f::y))):=fun a b c d e f x y z=>(List.Perm.append_left z (List.perm_append_comm_assoc [a,b,c,d,e,f] x y)).trans (List.perm_append_comm_assoc z x _)
  exact p _ _ _ _ _ _ (Dk.disk L.bd v1 v2 q.blocks q.asked []) _ us
 ·obtain ⟨v1',v2',s,hf'⟩:=Hid.out hD
  refine ⟨ks,kw,vm,vr,vs,Dk.disk L.bd v1' v2' bs rs [],tt,tg,h1,h2,⟨v1',v2',rfl,hf'⟩,h4,h5,h6,h7,h8,h8',?_⟩
  refine Dk.Sep.perm s ?_
  have p:∀ (a b c d e f:Dk.zd) (x y z:List Dk.zd),(x++(z++(a::b::c::d::e::f::y))).Perm (z++(a::b::c::d::e::f::(x++y))):=fun a b c d e f x y z=>(List.perm_append_comm_assoc x z _).trans (List.Perm.append_left z (List.perm_append_comm_assoc x [a,b,c,d,e,f] y))
  have:=p (zb8 L q.thr vm vr) (memT vm q.mem) (recT vr q.recs) (zde L vs q.code) (zcy L.bt L.bs ks q.st) (zba L.bw L.bm kw q.now q.due) (Dk.disk L.bd v1' v2' bs rs []) (tt++tg) (new++us)
  show (Dk.disk L.bd v1' v2' bs rs []++(new++(us++_))).Perm _
  rw [← List.append_assoc new us]
  exact this
end
section
variable {W w w' : World} {L : Dk.Loc} {q : Dk.Sp} {k n : Nat} {us us' us1 us2 : List Dk.zd} {t : Dk.zd}
theorem znu (h:Cor W w L q k us) (j:Int) (h0:q.asked=[]) :
  Calls Tryz.prog 29 #[.pointer (some ⟨L.b,0,none⟩),.int .i64 j] w fun e w'=>e=.returned (.tuple #[eff none 0 0 false false false,.int .i64 3])∧Cor W w' L q k us:=by
 obtain ⟨W1,e1⟩:∃ W1,W1=w.alloc (.cells #[.slice none 0 0,.bool false,.bool false,.bool false] 68):=⟨_,rfl⟩
 have h1:=h.zb e1
 have c332:=h1.zd4
 obtain ⟨rest,hD,hm,hb⟩:=h1.disk
 rw [h0] at hD
 have K:Calls Tryz.prog 68 #[.pointer (some ⟨L.bd,0,none⟩),.int .i64 j] W1 fun e w'=>e=.returned (.tuple #[.agg #[.int .i64 0,.int .i64 0,.bool false,.int .u64 0],.int .u64 0,.bool false])∧Cor W w' L q k (Dk.ze w.heap.size #[.slice none 0 0,.bool false,.bool false,.bool false] 68::us):=by
  refine (zpl hD j).mono ?_
  rintro e w' ⟨rfl,hD'⟩
  have:=hb w' _ _ [] hD'
  rw [← h0] at this
  exact ⟨rfl,this⟩
 have H1:Hid _:=e1.symm
 clear e1 h h1 hD hm hb h0
 go_enter Tryz.func29,Tryz.ntmps29
 go_wp2_with (rw [H1.out];clear H1)
 refine K.mono ?_
 rintro e w2 ⟨rfl,h2⟩
 obtain ⟨W3,e3⟩:∃ W3,W3=w2.alloc (.cells #[.int .i64 0,.int .i64 0,.bool false,.int .u64 0] 142):=⟨_,rfl⟩
 have h3:=h2.zb e3
 have b3:Dk.Box W3 w2.heap.size #[.int .i64 0,.int .i64 0,.bool false,.int .u64 0] 142:=h3.box (by simp)
 obtain ⟨W4,e4⟩:∃ W4,W4=W3.setRow w2.heap.size #[.int .i64 0,.int .i64 0,.bool false,.int .u64 0]:=⟨_,rfl⟩
 have h4:=(h3.setRow (cs':=#[.int .i64 0,.int .i64 0,.bool false,.int .u64 0]) e4).drop
 have b4:Dk.Box W4 w.heap.size #[.slice none 0 0,.bool false,.bool false,.bool false] 68:=h4.box (by simp)
 have h5:=(h4.setRow (cs':=#[.slice none 0 0,.bool false,.bool false,.bool false]) rfl).drop
 have d0:=(b4.row (cs':=#[.slice none 0 0,.bool false,.bool false,.bool false])).cell
 have HB:Hid _:=b4
 have HB3:Hid _:=b3
 have H3:Hid _:=e3.symm
 have H4:Hid _:=e4.symm
 clear K e3 e4 h2 h3 h4 b3 b4 c332
 go_wp2_with (first | (rw [H3.out];clear H3) | (refine wpList_store_row rfl 142 _ _ rfl w2.heap.size #[.int .i64 0,.int .i64 0,.bool false,.int .u64 0] rfl rfl 142 _ HB3.out.heap ze8 rfl (zdx _ _ _ _) ?_;rw [H4.out];clear HB3 H4) | (refine wpList_store_row rfl 68 _ _ rfl w.heap.size #[.slice none 0 0,.bool false,.bool false,.bool false] rfl rfl 68 _ HB.out.heap za1 rfl (zaz _ _ _ _ _ _) ?_))
 exact bodyPost_ret (v:=.tuple #[eff none 0 0 false false false,.int .i64 3]) (by simp [results,Tryz.results29,go_sem,d0]) rfl ⟨rfl,h5⟩
theorem znv (h:Cor W w L q k us) (hk:k≤100000) (j:Int) (hj:Dk.i64 j) (h0:0 < q.asked.length) (hl:q.asked.length≤1000) (r:Dk.Rq) (hr:q.asked.getD (Dk.at_K j q.asked.length) Dk.Rq.zero=r) (hR:q.zap) (hi:Dk.InR r.who) (hm:q.recs.length≤80000) :
  Calls Tryz.prog 29 #[.pointer (some ⟨L.b,0,none⟩),.int .i64 j] w fun e w'=>∃ A C,e=.returned (.tuple #[eff A 1 C false false false,.int .i64 0])∧Cor W w' L (({ q with blocks:=r.left q.blocks,asked:=q.asked.eraseIdx (Dk.at_K j q.asked.length) }:Dk.Sp).wake [(r.who,r.said q.blocks)]) k (Dk.rowOf 3 1 (.slice A 1 C) 1 (Dk.is [r.who])::us):=by
 obtain ⟨W1,e1⟩:∃ W1,W1=w.alloc (.cells #[.slice none 0 0,.bool false,.bool false,.bool false] 68):=⟨_,rfl⟩
 have h1:=h.zb e1
 have c332:=h1.zd4
 obtain ⟨rest,hD,_,hb⟩:=h1.disk
 have K:Calls Tryz.prog 68 #[.pointer (some ⟨L.bd,0,none⟩),.int .i64 j] W1 fun e w'=>e=.returned (.tuple #[.agg #[.int .i64 r.who,.int .i64 r.block,.bool r.write,.int .u64 (r.x:Nat)],.int .u64 (r.said q.blocks:Nat),.bool true])∧Cor W w' L ({ q with blocks:=r.left q.blocks,asked:=q.asked.eraseIdx (Dk.at_K j q.asked.length) }:Dk.Sp) k (Dk.ze w.heap.size #[.slice none 0 0,.bool false,.bool false,.bool false] 68::us):=by
  refine (Done_any hD j hj h0 hl r hr).mono ?_
  rintro e w' ⟨rfl,hD'⟩
  exact ⟨rfl,hb w' _ _ [] hD'⟩
 have hR':({ q with blocks:=r.left q.blocks,asked:=q.asked.eraseIdx (Dk.at_K j q.asked.length) }:Dk.Sp).zap:=hR
 have hm':({ q with blocks:=r.left q.blocks,asked:=q.asked.eraseIdx (Dk.at_K j q.asked.length) }:Dk.Sp).recs.length≤80000:=hm
 generalize ({ q with blocks:=r.left q.blocks,asked:=q.asked.eraseIdx (Dk.at_K j q.asked.length) }:Dk.Sp)=q1 at *
 generalize r.said q.blocks=sd at *
 obtain ⟨r1,r2,r3,r4⟩:=r
 dsimp only at *
 have H1:Hid _:=e1.symm
 clear e1 h h1 hD hb h0 hR hm hl hr
 go_enter Tryz.func29,Tryz.ntmps29
 go_wp2_with (rw [H1.out];clear H1)
 refine K.mono ?_
 rintro e w2 ⟨rfl,h2⟩
 obtain ⟨W3,e3⟩:∃ W3,W3=w2.alloc (.cells #[.int .i64 r1,.int .i64 r2,.bool r3,.int .u64 (r4:Nat)] 142):=⟨_,rfl⟩
 have h3:=h2.zb e3
 have b3:Dk.Box W3 w2.heap.size #[.int .i64 r1,.int .i64 r2,.bool r3,.int .u64 (r4:Nat)] 142:=h3.box (by simp)
 have c3:W3.cell? ⟨w2.heap.size,0,none⟩=some (.int .i64 r1):=b3.cell 0
 obtain ⟨W4,e4⟩:∃ W4,W4=W3.alloc (.cells #[.int .i64 r1,.int .u64 (sd:Nat)] 147):=⟨_,rfl⟩
 have h4:=h3.drop.lit (s:=2) (m:=1) e4 rfl (by omega)
 have K2:=zen [(r1,sd)] (some ⟨W3.heap.size,0,none⟩) 1 h4 hk hR' (fun p hp=>by rw [List.mem_singleton] at hp;rw [hp];exact hi) (by simp;omega) (by simp)
 have H3:Hid _:=e3.symm
 have H4:Hid _:=e4.symm
 clear K h2 h3 h4 b3 e3 e4 c332 hR' hm'
 go_wp2_with (first | (rw [H3.out];clear H3) | (rw [H4.out];clear H4))
 refine K2.mono ?_
 rintro e w5 ⟨A5,C5,rfl,h5⟩
 have h6:=h5.swap.drop.swap
 have b6:Dk.Box w5 w.heap.size #[.slice none 0 0,.bool false,.bool false,.bool false] 68:=h6.box (by simp)
 have h7:=(h6.setRow (cs':=#[.slice A5 1 C5,.bool false,.bool false,.bool false]) rfl).drop
 have d0:=(b6.row (cs':=#[.slice A5 1 C5,.bool false,.bool false,.bool false])).cell
 have HB:Hid _:=b6
 clear K2 h5 h6 b6 c3
 go_wp2_with (refine wpList_store_row rfl 68 _ _ rfl w.heap.size #[.slice A5 1 C5,.bool false,.bool false,.bool false] rfl rfl 68 _ HB.out.heap za1 rfl (zaz _ _ _ _ _ _) ?_)
 exact bodyPost_ret (v:=.tuple #[eff A5 1 C5 false false false,.int .i64 0]) (by simp [results,Tryz.results29,go_sem,d0]) rfl ⟨A5,C5,rfl,h7⟩
theorem zpj (h:Cor W w L q k us) (hk:k≤100000) (j:Int) (hj:Dk.i64 j) (hl:q.asked.length≤1000) (hR:q.zap) (hi:∀ r ∈ q.asked,Dk.InR r.who) (hm:q.recs.length≤80000) :
  Calls Tryz.prog 29 #[.pointer (some ⟨L.b,0,none⟩),.int .i64 j] w fun e w'=>∃ A C,e=.returned (.tuple #[eff A (q.done j).2.1.woken.length C false false false,.int .i64 (q.done j).2.2])∧Cor W w' L (q.done j).1 k (Dk.rowOf 3 1 (.slice A (q.done j).2.1.woken.length C) (q.done j).2.1.woken.length (Dk.is (q.done j).2.1.woken)::us):=by
 unfold Dk.Sp.done
 by_cases h0:q.asked.length=0
 ·rw [if_pos h0]
  refine (znu h j (List.eq_nil_of_length_eq_zero h0)).mono ?_
  rintro e w' ⟨rfl,h'⟩
  exact ⟨none,0,rfl,h'.nil⟩
 ·rw [if_neg h0]
  refine (znv h hk j hj (by omega) hl _ rfl hR (hi _ (Dk.zj6 _ _ _ (Dk.zqk j (by omega)))) hm).mono ?_
  rintro e w' ⟨A,C,rfl,h'⟩
  exact ⟨A,C,rfl,h'⟩
end
section
variable {W w w' : World} {L : Dk.Loc} {q : Dk.Sp} {k n : Nat} {us us' us1 us2 : List Dk.zd} {t : Dk.zd}
theorem ins_row {B:Nat} {u:Value} {xs:List Dk.Ins} (h:w.ownsRow B 112 5 u xs.length (xs.flatMap Dk.Ins.cells)) (hx:∀ i ∈ xs,i.ok):∃ A C,u=.slice A xs.length C∧Dk.SlN w.heap.size w A xs.length C xs:=by
 obtain ⟨A,C,rfl,h1,h2⟩:=Dk.zf h
 refine ⟨A,C,rfl,rfl,h1,h2,hx,fun h0=>?_⟩
 obtain ⟨g,C',x,ev,_,_,_,hc,_,_⟩:=Dk.zbx (k:=0) h (by omega)
 obtain rfl:A=some ⟨g,0,none⟩:=by injection ev
 have hlt:g < w.heap.size:=(World.ownsRow.lt h g rfl).2
 refine ⟨g,0,rfl,hlt,fun j hj=>?_⟩
 have key:∀ m,m < 5→w.cell? ⟨g,0+j*5+m,none⟩=(xs.getD j Dk.Ins.zero).cells[m]?:=fun m hm=>by
  obtain ⟨g',C2,x2,ev2,_,_,ex,ec,_,_⟩:=Dk.zbx (k:=j*5+m) h (by omega)
  obtain rfl:g=g':=by injection ev2 with q1;injection q1 with q2;injection q2
  have hj':xs[j]? = some (xs.getD j Dk.Ins.zero):=by rw [List.getD_eq_getElem?_getD,List.getElem?_eq_getElem hj];rfl
  rw [Dk.flat_get Dk.Ins.len xs j m _ hj' hm] at ex
  rw [Nat.zero_add,ec,ex]
 exact ⟨key 0 (by omega),key 1 (by omega),key 2 (by omega),key 3 (by omega),key 4 (by omega)⟩
theorem Cor.code (h:Cor W w L q k us):Dk.zbb w.heap.size w ⟨L.cA,L.cL,L.cC,none,0,0,none,0,0⟩ q.prog∧∀ j,j < 8→w.cell? ⟨L.b,j,none⟩=(L.head (.slice none 0 0))[j]?:=by
 obtain ⟨ks,kw,vm,vr,vs,td,tt,tg,h1,h2,h3,h4,h5,h6,h7,h8,h8',h9⟩:=Hid.out h
 have hb:Dk.Box w L.b (L.body q.thr vm vr).toArray 118:=h9.box (by simp [parts,zb8])
 have hmem:zde L vs q.code ∈ us++parts L q ks kw vm vr vs td tt tg:=by simp [parts]
 refine ⟨⟨?_,?_,?_,?_,?_,?_,?_,?_⟩,fun j hj=>?_⟩
 ·obtain ⟨A,C,ev,c1,c2⟩:=h9.nestLen hmem
  injection ev with q1 q2 q3
  have e2:q.code.length=L.cL:=q2.symm
  refine ⟨e2,by show L.cL≤L.cC;omega,by show L.cC≤_;omega,fun h0=>?_⟩
  have h0':0 < q.code.length:=by rw [e2];exact h0
  obtain ⟨g,C',u,xs,ev',_,_,hu,hx,hc,_,hr,_⟩:=h9.inner hmem h0'
  injection ev' with r1 r2 r3
  refine ⟨g,0,r1,?_,fun j hj=>?_⟩
  ·have hr1:=(h9.get hmem).1
   rw [r1] at hr1
   exact (World.ownsRow.lt hr1 g rfl).2
  ·have hj':j < q.code.length:=by rw [e2];exact hj
   obtain ⟨g',C'',u',xs',ev'',_,_,hu',hx',hc',_,hr',_⟩:=h9.inner hmem hj'
   injection ev'' with t1 t2 t3
   have eg:g=g':=by rw [r1] at t1;injection t1 with t4;injection t4
   subst eg
   obtain ⟨A',C3,rfl,hN⟩:=ins_row hr' (fun i hi=>h8 xs' (List.mem_of_getElem? hx') i hi)
   have ex:q.prog.funcs.getD j []=xs':=by
    show q.code.getD j []=xs'
    rw [List.getD_eq_getElem?_getD,hx'];rfl
   rw [ex,Nat.zero_add]
   exact ⟨A',xs'.length,C3,hc',hN⟩
 ·exact ⟨rfl,Nat.le_refl _,by show 0≤maxLen;omega,(fun x hx=>by simp [Dk.Sp.prog] at hx),fun h0=>absurd h0 (by show ¬ 0 < 0;omega)⟩
 ·exact ⟨rfl,Nat.le_refl _,by show 0≤maxLen;omega,(fun x hx=>by simp [Dk.Sp.prog] at hx),fun h0=>absurd h0 (by show ¬ 0 < 0;omega)⟩
 all_goals first | (show Dk.i64 0;unfold Dk.i64;omega) | skip
 rw [hb.cell,List.getElem?_toArray,Dk.zb5 _ _ _ _ (by omega)]
 have:j=0∨j=1∨j=2∨j=3∨j=4∨j=5∨j=6∨j=7:=by omega
 rcases this with rfl | rfl | rfl | rfl | rfl | rfl | rfl | rfl <;> rfl
end
abbrev recv (r:Dk.Rec):Value:=.agg #[.int .u64 (r.thread:Nat),.int .i64 r.op,.int .u64 (r.x:Nat),.int .u64 (r.y:Nat),.int .i64 r.result,.bool r.fin]
theorem zsg (a:Int) (op:Int) (x y:Int) (e:Int) (b:Bool):(#[.int .u64 a,.int .i64 op,.int .u64 x,.int .u64 y,.int .i64 e,.bool b]:Array Value).all (·.oneCell')=true:=by simp [Value.oneCell']
theorem zss:(Tryz.prog.info? 74).map (·.size)=some 6:=by kernel_rfl
theorem zhj (op:Int) (a b:Nat) (c:Int) (nn:Nat) (ha:a < 8) (hb:b < 8) (f g:Dk.Frm) (e:Int) (w:World) :
  Calls Tryz.prog 96 #[.agg #[.int .i64 op,.int .i64 (a:Int),.int .i64 (b:Int),.int .i64 c,.int .u64 (nn:Nat)],Dk.fv f,Dk.fv g,.int .i64 e] w fun e' w'=>e'=.returned (recv (Dk.Sp.access ⟨op,a,b,c,nn⟩ f g e))∧Below w.heap.size w w':=by
 obtain ⟨W1,e1⟩:∃ W1,W1=w.alloc (.cells #[.int .i64 op,.int .i64 (a:Int),.int .i64 (b:Int),.int .i64 c,.int .u64 (nn:Nat)] 112):=⟨_,rfl⟩
 obtain ⟨W2,e2⟩:∃ W2,W2=W1.alloc (.cells (Dk.fc f) 110):=⟨_,rfl⟩
 obtain ⟨W3,e3⟩:∃ W3,W3=W2.alloc (.cells (Dk.fc g) 110):=⟨_,rfl⟩
 obtain ⟨W4,e4⟩:∃ W4,W4=W3.alloc (.cells #[.int .u64 0,.int .i64 0,.int .u64 0,.int .u64 0,.int .i64 0,.bool false] 74):=⟨_,rfl⟩
 obtain ⟨W5,e5⟩:∃ W5,W5=W4.alloc (.cells #[.int .u64 0,.int .i64 op,.int .u64 0,.int .u64 0,.int .i64 e,.bool true] 74):=⟨_,rfl⟩
 have s5:=(((((Dk.Sep.begin (Below.refl w.heap.size w)).zb e1).zb e2).zb e3).zb e4).zb e5
 have z1:W1.heap.size=w.heap.size+1:=by rw [e1,World.size_alloc]
 have z2:W2.heap.size=w.heap.size+1+1:=by rw [e2,World.size_alloc,z1]
 have z3:W3.heap.size=w.heap.size+1+1+1:=by rw [e3,World.size_alloc,z2]
 have z4:W4.heap.size=w.heap.size+1+1+1+1:=by rw [e4,World.size_alloc,z3]
 rw [z1,z2,z3,z4] at s5
 have c0:W5.cell? ⟨w.heap.size,0,none⟩=some (.int .i64 op):=(s5.box (b:=w.heap.size) (cs:=#[.int .i64 op,.int .i64 (a:Int),.int .i64 (b:Int),.int .i64 c,.int .u64 (nn:Nat)]) (t:=112) (by simp)).cell 0
 have E5:Hid (((((w.alloc (.cells #[.int .i64 op,.int .i64 (a:Int),.int .i64 (b:Int),.int .i64 c,.int .u64 (nn:Nat)] 112)).alloc (.cells (Dk.fc f) 110)).alloc (.cells (Dk.fc g) 110)).alloc (.cells #[.int .u64 0,.int .i64 0,.int .u64 0,.int .u64 0,.int .i64 0,.bool false] 74)).alloc (.cells #[.int .u64 0,.int .i64 op,.int .u64 0,.int .u64 0,.int .i64 e,.bool true] 74)=W5):=by rw [e5,e4,e3,e2,e1];exact rfl
 have S5:Dk.Sep w W5 _:=s5
 clear e1 e2 e3 e4 e5 z1 z2 z3 z4 s5
 have i1:(a:Int) < 8:=by omega
 have i2:(0:Int)≤(a:Int):=by omega
 have i3:(b:Int) < 8:=by omega
 have i4:(0:Int)≤(b:Int):=by omega
 by_cases ho:op=18
 ·subst ho
  go_enter Tryz.func96,Tryz.ntmps96
  go_wp2_with (rw [E5.out];clear E5)
  have s6:=S5.below (Dk.zl (Below.refl _ _))
  have bi:Dk.Box W5.drew w.heap.size #[.int .i64 18,.int .i64 (a:Int),.int .i64 (b:Int),.int .i64 c,.int .u64 (nn:Nat)] 112:=s6.box (by simp)
  have bf:Dk.Box W5.drew (w.heap.size+1) (Dk.fc f) 110:=s6.box (by simp)
  have bg:Dk.Box W5.drew (w.heap.size+1+1) (Dk.fc g) 110:=s6.box (by simp)
  have br:Dk.Box W5.drew (w.heap.size+1+1+1+1) #[.int .u64 0,.int .i64 18,.int .u64 0,.int .u64 0,.int .i64 e,.bool true] 74:=s6.box (by simp)
  have s7:=Dk.Sep.zao (us1:=[]) (o:=2) s6 (.int .u64 (f.r b:Nat))
  have s8:=Dk.Sep.zao (us1:=[]) (o:=3) s7 (.int .u64 (g.r a:Nat))
  refine Dk.zm (S:=fun w'=>Dk.Box w' w.heap.size #[.int .i64 18,.int .i64 (a:Int),.int .i64 (b:Int),.int .i64 c,.int .u64 (nn:Nat)] 112∧Dk.Box w' (w.heap.size+1) (Dk.fc f) 110∧Dk.Box w' (w.heap.size+1+1) (Dk.fc g) 110) [0,1,2,3,4,5,6,7,8,9,10] [11,12,13] (by kernel_rfl) (by kernel_rfl) ⟨bi,bf,bg⟩ ?_
  refine Dk.za (v:=.pointer (some ⟨w.heap.size,2,none⟩)) rfl rfl (fun w' hw'=>by go_simp) ?_
  simp only [zD]
  refine Dk.za (v:=.int .i64 (b:Int)) rfl rfl (fun w' hw'=>by have c:=hw'.1.cell 2;go_simp) ?_
  simp only [zD]
  refine Dk.za (v:=.pointer (some ⟨w.heap.size+1,2,none⟩)) rfl rfl (fun w' hw'=>by go_simp) ?_
  simp only [zD]
  refine Dk.za (v:=.pointer (some ⟨w.heap.size+1,2+b,none⟩)) rfl rfl (fun w' hw'=>by go_simp) ?_
  simp only [zD]
  refine Dk.za (v:=.int .u64 (f.r b:Nat)) rfl rfl (fun w' hw'=>by have c:=(hw'.2.1.cell (2+b)).trans (Dk.za8 f b (by omega));go_simp) ?_
  simp only [zD]
  refine Dk.za (v:=.pointer (some ⟨w.heap.size,1,none⟩)) rfl rfl (fun w' hw'=>by go_simp) ?_
  simp only [zD]
  refine Dk.za (v:=.int .i64 (a:Int)) rfl rfl (fun w' hw'=>by have c:=hw'.1.cell 1;go_simp) ?_
  simp only [zD]
  refine Dk.za (v:=.pointer (some ⟨w.heap.size+1+1,2,none⟩)) rfl rfl (fun w' hw'=>by go_simp) ?_
  simp only [zD]
  refine Dk.za (v:=.pointer (some ⟨w.heap.size+1+1,2+a,none⟩)) rfl rfl (fun w' hw'=>by go_simp) ?_
  simp only [zD]
  refine Dk.za (v:=.int .u64 (g.r a:Nat)) rfl rfl (fun w' hw'=>by have c:=(hw'.2.2.cell (2+a)).trans (Dk.za8 g a (by omega));go_simp) ?_
  simp only [zD]
  refine Dk.za (v:=.pointer (some ⟨w.heap.size+1+1+1+1,2,none⟩)) rfl rfl (fun w' hw'=>by go_simp) ?_
  simp only [zD]
  refine Dk.zq rfl rfl ?_
  have k2:W5.drew.cell? ⟨w.heap.size+1+1+1+1,2,none⟩=some (.int .u64 0):=br.cell 2
  have k2':=br.frozen 2
  refine zal (w':=W5.drew.setCell ⟨w.heap.size+1+1+1+1,2,none⟩ (.int .u64 (f.r b:Nat))) (by go_simp) ?_
  have br':=br.set 2 (.int .u64 (f.r b:Nat))
  have k3:(W5.drew.setCell ⟨w.heap.size+1+1+1+1,2,none⟩ (.int .u64 (f.r b:Nat))).cell? ⟨w.heap.size+1+1+1+1,3,none⟩=some (.int .u64 0):=br'.cell 3
  have k3':=br'.frozen 3
  generalize W5.drew.setCell ⟨w.heap.size+1+1+1+1,2,none⟩ (.int .u64 (f.r b:Nat))=W6 at *
  refine ⟨⟨s7.box (by simp),s7.box (by simp),s7.box (by simp)⟩,?_⟩
  simp only [zD]
  refine Dk.zq rfl rfl ?_
  refine zdr (v:=.pointer (some ⟨w.heap.size+1+1+1+1,3,none⟩)) (w':=W6) (by go_simp) ⟨⟨s7.box (by simp),s7.box (by simp),s7.box (by simp)⟩,?_⟩
  simp only [zD]
  refine Dk.zq rfl rfl ?_
  refine zal (w':=W6.setCell ⟨w.heap.size+1+1+1+1,3,none⟩ (.int .u64 (g.r a:Nat))) (by go_simp) ?_
  generalize W6.setCell ⟨w.heap.size+1+1+1+1,3,none⟩ (.int .u64 (g.r a:Nat))=W7 at *
  have br8:Dk.Box W7 (w.heap.size+1+1+1+1) #[.int .u64 0,.int .i64 18,.int .u64 (f.r b:Nat),.int .u64 (g.r a:Nat),.int .i64 e,.bool true] 74:=s8.box (by simp)
  have bz8:Dk.Box W7 (w.heap.size+1+1+1) #[.int .u64 0,.int .i64 0,.int .u64 0,.int .u64 0,.int .i64 0,.bool false] 74:=s8.box (by simp)
  refine ⟨⟨s8.box (by simp),s8.box (by simp),s8.box (by simp)⟩,?_⟩
  show NoPanic _ Exit.normal _ _
  refine NoPanic.normal ?_
  simp only [zD]
  first | (rename_i hK;refine hK _ _ ?_;clear hK) | (rename_i hK _;refine hK _ _ ?_;clear hK)
  have HZ:Hid _:=bz8
  have HU:Hid _:=s8.out
  have cr:=br8.cell
  have dz:=(bz8.row (cs':=#[.int .u64 0,.int .i64 18,.int .u64 (f.r b:Nat),.int .u64 (g.r a:Nat),.int .i64 e,.bool true])).cell
  clear s6 s7 s8 bi bf bg br br' br8 bz8 k2 k2' k3 k3' S5
  go_wp2_with (refine wpList_store_row rfl 74 _ _ rfl (w.heap.size+1+1+1) #[.int .u64 0,.int .i64 18,.int .u64 (f.r b:Nat),.int .u64 (g.r a:Nat),.int .i64 e,.bool true] rfl rfl 74 _ HZ.out.heap zss rfl (zsg _ _ _ _ _ _) ?_)
  exact bodyPost_ret (v:=recv ⟨0,18,f.r b,g.r a,e,true⟩) (by simp [results,Tryz.results96,go_sem,dz]) rfl ⟨rfl,zjc HU.out (by omega) _⟩
 ·go_enter Tryz.func96,Tryz.ntmps96
  go_wp2_with (rw [E5.out];clear E5)
  have s6:=S5.below (Dk.zl (Below.refl _ _))
  have bi:Dk.Box W5.drew w.heap.size #[.int .i64 op,.int .i64 (a:Int),.int .i64 (b:Int),.int .i64 c,.int .u64 (nn:Nat)] 112:=s6.box (by simp)
  have bf:Dk.Box W5.drew (w.heap.size+1) (Dk.fc f) 110:=s6.box (by simp)
  have bg:Dk.Box W5.drew (w.heap.size+1+1) (Dk.fc g) 110:=s6.box (by simp)
  have br:Dk.Box W5.drew (w.heap.size+1+1+1+1) #[.int .u64 0,.int .i64 op,.int .u64 0,.int .u64 0,.int .i64 e,.bool true] 74:=s6.box (by simp)
  have s7:=Dk.Sep.zao (us1:=[]) (o:=2) s6 (.int .u64 (f.r a:Nat))
  have s8:=Dk.Sep.zao (us1:=[]) (o:=3) s7 (.int .u64 (f.r b:Nat))
  refine Dk.zm (S:=fun w'=>Dk.Box w' w.heap.size #[.int .i64 op,.int .i64 (a:Int),.int .i64 (b:Int),.int .i64 c,.int .u64 (nn:Nat)] 112∧Dk.Box w' (w.heap.size+1) (Dk.fc f) 110∧Dk.Box w' (w.heap.size+1+1) (Dk.fc g) 110) [0,1,2,3,4,5,6,7,8,9,10] [11,12,13] (by kernel_rfl) (by kernel_rfl) ⟨bi,bf,bg⟩ ?_
  refine Dk.za (v:=.pointer (some ⟨w.heap.size,1,none⟩)) rfl rfl (fun w' hw'=>by go_simp) ?_
  simp only [zD]
  refine Dk.za (v:=.int .i64 (a:Int)) rfl rfl (fun w' hw'=>by have c:=hw'.1.cell 1;go_simp) ?_
  simp only [zD]
  refine Dk.za (v:=.pointer (some ⟨w.heap.size+1,2,none⟩)) rfl rfl (fun w' hw'=>by go_simp) ?_
  simp only [zD]
  refine Dk.za (v:=.pointer (some ⟨w.heap.size+1,2+a,none⟩)) rfl rfl (fun w' hw'=>by go_simp) ?_
  simp only [zD]
  refine Dk.za (v:=.int .u64 (f.r a:Nat)) rfl rfl (fun w' hw'=>by have c:=(hw'.2.1.cell (2+a)).trans (Dk.za8 f a (by omega));go_simp) ?_
  simp only [zD]
  refine Dk.za (v:=.pointer (some ⟨w.heap.size,2,none⟩)) rfl rfl (fun w' hw'=>by go_simp) ?_
  simp only [zD]
  refine Dk.za (v:=.int .i64 (b:Int)) rfl rfl (fun w' hw'=>by have c:=hw'.1.cell 2;go_simp) ?_
  simp only [zD]
  refine Dk.za (v:=.pointer (some ⟨w.heap.size+1,2,none⟩)) rfl rfl (fun w' hw'=>by go_simp) ?_
  simp only [zD]
  refine Dk.za (v:=.pointer (some ⟨w.heap.size+1,2+b,none⟩)) rfl rfl (fun w' hw'=>by go_simp) ?_
  simp only [zD]
  refine Dk.za (v:=.int .u64 (f.r b:Nat)) rfl rfl (fun w' hw'=>by have c:=(hw'.2.1.cell (2+b)).trans (Dk.za8 f b (by omega));go_simp) ?_
  simp only [zD]
  refine Dk.za (v:=.pointer (some ⟨w.heap.size+1+1+1+1,2,none⟩)) rfl rfl (fun w' hw'=>by go_simp) ?_
  simp only [zD]
  refine Dk.zq rfl rfl ?_
  have k2:W5.drew.cell? ⟨w.heap.size+1+1+1+1,2,none⟩=some (.int .u64 0):=br.cell 2
  have k2':=br.frozen 2
  refine zal (w':=W5.drew.setCell ⟨w.heap.size+1+1+1+1,2,none⟩ (.int .u64 (f.r a:Nat))) (by go_simp) ?_
  have br':=br.set 2 (.int .u64 (f.r a:Nat))
  have k3:(W5.drew.setCell ⟨w.heap.size+1+1+1+1,2,none⟩ (.int .u64 (f.r a:Nat))).cell? ⟨w.heap.size+1+1+1+1,3,none⟩=some (.int .u64 0):=br'.cell 3
  have k3':=br'.frozen 3
  generalize W5.drew.setCell ⟨w.heap.size+1+1+1+1,2,none⟩ (.int .u64 (f.r a:Nat))=W6 at *
  refine ⟨⟨s7.box (by simp),s7.box (by simp),s7.box (by simp)⟩,?_⟩
  simp only [zD]
  refine Dk.zq rfl rfl ?_
  refine zdr (v:=.pointer (some ⟨w.heap.size+1+1+1+1,3,none⟩)) (w':=W6) (by go_simp) ⟨⟨s7.box (by simp),s7.box (by simp),s7.box (by simp)⟩,?_⟩
  simp only [zD]
  refine Dk.zq rfl rfl ?_
  refine zal (w':=W6.setCell ⟨w.heap.size+1+1+1+1,3,none⟩ (.int .u64 (f.r b:Nat))) (by go_simp) ?_
  generalize W6.setCell ⟨w.heap.size+1+1+1+1,3,none⟩ (.int .u64 (f.r b:Nat))=W7 at *
  have br8:Dk.Box W7 (w.heap.size+1+1+1+1) #[.int .u64 0,.int .i64 op,.int .u64 (f.r a:Nat),.int .u64 (f.r b:Nat),.int .i64 e,.bool true] 74:=s8.box (by simp)
  have bz8:Dk.Box W7 (w.heap.size+1+1+1) #[.int .u64 0,.int .i64 0,.int .u64 0,.int .u64 0,.int .i64 0,.bool false] 74:=s8.box (by simp)
  refine ⟨⟨s8.box (by simp),s8.box (by simp),s8.box (by simp)⟩,?_⟩
  show NoPanic _ Exit.normal _ _
  refine NoPanic.normal ?_
  simp only [zD]
  first | (rename_i hK;refine hK _ _ ?_;clear hK) | (rename_i hK _;refine hK _ _ ?_;clear hK)
  have HZ:Hid _:=bz8
  have HU:Hid _:=s8.out
  have cr:=br8.cell
  have dz:=(bz8.row (cs':=#[.int .u64 0,.int .i64 op,.int .u64 (f.r a:Nat),.int .u64 (f.r b:Nat),.int .i64 e,.bool true])).cell
  clear s6 s7 s8 bi bf bg br br' br8 bz8 k2 k2' k3 k3' S5
  go_wp2_with (refine wpList_store_row rfl 74 _ _ rfl (w.heap.size+1+1+1) #[.int .u64 0,.int .i64 op,.int .u64 (f.r a:Nat),.int .u64 (f.r b:Nat),.int .i64 e,.bool true] rfl rfl 74 _ HZ.out.heap zss rfl (zsg _ _ _ _ _ _) ?_)
  exact bodyPost_ret (v:=recv ⟨0,op,f.r a,f.r b,e,true⟩) (by simp [results,Tryz.results96,go_sem,dz]) rfl ⟨by unfold Dk.Sp.access;rw [if_neg ho];rfl,zjc HU.out (by omega) _⟩
end Go.Proofs.YtglhhlfopccmaaaGreat
