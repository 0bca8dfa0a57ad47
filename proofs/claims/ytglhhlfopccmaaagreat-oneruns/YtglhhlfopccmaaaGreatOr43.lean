import Derived.Test.YtglhhlfopccmaaaGreatOr42
set_option linter.unusedSimpArgs false
set_option linter.unusedVariables false
set_option linter.unnecessarySimpa false
set_option maxHeartbeats 8000000
set_option maxRecDepth 100000
namespace Dk
def doM (cs:List Cell) (ak asp ath ach:Int):List Cell × Int:=
 if ak=1 then (if asp < 0 then (cs,1) else match cs[asp.toNat]? with
  | none=>(cs,1)
  | some c=>(cs.set asp.toNat (c.go (c.q.run ath ach).1),(c.q.run ath ach).2.2))
 else if ak=2 then (if asp < 0 then (cs,1) else match cs[asp.toNat]? with
  | none=>(cs,1)
  | some c=>(cs.set asp.toNat (c.go (c.q.done ach).1),(c.q.done ach).2.2))
 else if ak=3 then (cs.map fun c=>c.go c.q.tick.1,0)
 else (cs,1)
theorem set_map {cs:List Cell} {i:Nat} {c:Cell} {c':Cell} (hc:cs[i]? = some c) (hp:c'.ptr=c.ptr):(cs.set i c').map Cell.ptr=cs.map Cell.ptr:=by
 rw [List.map_set,hp]
 apply List.ext_getElem?
 intro k
 by_cases h:i=k
 ·subst h
  have hl:=(List.getElem?_eq_some_iff.1 hc).1
  rw [List.getElem?_set_self (by simpa using hl),List.getElem?_map,hc]
  rfl
 ·rw [List.getElem?_set_ne h]
end Dk
namespace Go.Proofs.YtglhhlfopccmaaaGreat
open Go.RowKit Go.Lib
section
variable {W w w' : World} {b : Nat} {j : Nat → Nat} {cs : List Dk.Cell} {us us' : List Dk.Thing}
theorem OneM.at (h:OneM W w b cs j us) {i:Nat} {c:Dk.Cell} (hc:cs[i]? = some c):∃ rest,Goes W w c.L c.q0 c.q (j i) (us++rest)∧Dk.Born c.q0∧
  (∀ w' us' q',Goes W w' c.L c.q0 q' (j i+1) (us'++rest)→OneM W w' b (cs.set i (c.go q')) (Dk.upd j i (j i+1)) us')∧(∀ w' us',Goes W w' c.L c.q0 c.q (j i) (us'++rest)→OneM W w' b cs j us'):=by
 obtain ⟨v,hM⟩:=h
 obtain ⟨rest,h1,h2,h3,h4⟩:=hM.at hc
 have mv:∀ (u r:List Dk.Thing) (x y:Dk.Thing),(u++([x,y]++r)).Perm ((x::y::u)++r):=fun u r x y=>(List.perm_append_comm_assoc u [x,y] r)
 refine ⟨[Dk.boxOf b #[v] 152,Dk.rowOf 27 1 v cs.length (cs.map Dk.Cell.ptr)]++rest,h1.with (fun c=>c.perm (mv _ _ _ _).symm),h2,fun w' us' q' hG=>⟨v,?_⟩,fun w' us' hG=>⟨v,?_⟩⟩
 ·rw [List.length_set,Dk.set_map (c':=c.go q') hc rfl]
  exact h3 w' _ q' (hG.with (fun c=>c.perm (mv _ _ _ _)))
 ·exact h4 w' _ (hG.with (fun c=>c.perm (mv _ _ _ _)))
theorem OneM.with (h:OneM W w b cs j us) (f:∀ v ts,Dk.Sep W w (us++(Dk.boxOf b #[v] 152::Dk.rowOf 27 1 v cs.length (cs.map Dk.Cell.ptr)::ts))→Dk.Sep W w' (us'++(Dk.boxOf b #[v] 152::Dk.rowOf 27 1 v cs.length (cs.map Dk.Cell.ptr)::ts))):OneM W w' b cs j us':=by
 obtain ⟨v,hM⟩:=h
 refine ⟨v,hM.map fun ts s=>?_⟩
 have mv:∀ (u r:List Dk.Thing) (x y:Dk.Thing),(u++([x,y]++r)).Perm ((x::y::u)++r):=fun u r x y=>(List.perm_append_comm_assoc u [x,y] r)
 exact (f v ts (s.perm (mv us ts _ _).symm)).perm (mv us' ts _ _)
theorem OneM.newBox {ce:Array Value} {e:TypeId} (h:OneM W w b cs j us) (ew:w'=w.alloc (.cells ce e)):OneM W w' b cs j (Dk.boxOf w.heap.size ce e::us):=h.with fun _ _ s=>s.newBox ew
theorem OneM.drop {t:Dk.Thing} (h:OneM W w b cs j (t::us)):OneM W w b cs j us:=h.with fun _ _ s=>s.sub (List.sublist_cons_self _ _)
theorem OneM.below (h:OneM W w b cs j us) (u:Below w.heap.size w w'):OneM W w' b cs j us:=h.with fun _ _ s=>s.below u
theorem OneM.box {a:Nat} {ce:Array Value} {e:TypeId} (h:OneM W w b cs j us) (ht:Dk.boxOf a ce e ∈ us):Dk.Box w a ce e:=by
 obtain ⟨v,hM⟩:=h
 exact hM.box (List.mem_cons_of_mem _ (List.mem_cons_of_mem _ ht))
theorem OneM.row {e:TypeId} {s m:Nat} {v:Value} {xs:List Value} (h:OneM W w b cs j us) (ht:Dk.rowOf e s v m xs ∈ us):w.ownsRow W.heap.size e s v m xs:=by
 obtain ⟨v,hM⟩:=h
 exact hM.row (List.mem_cons_of_mem _ (List.mem_cons_of_mem _ ht))
theorem OneM.out (h:OneM W w b cs j us):Below W.heap.size W w:=by
 obtain ⟨v,hM⟩:=h
 exact hM.out
theorem OneM.le {j':Nat→Nat} (h:OneM W w b cs j us) (hl:∀ i,j i≤j' i):OneM W w b cs j' us:=by
 obtain ⟨v,hM⟩:=h
 exact ⟨v,hM.le hl⟩
theorem upd_le {J i:Nat} {j:Nat→Nat} (hj:∀ i,j i≤J):∀ k,Dk.upd j i (j i+1) k≤J+1:=fun k=>by
 unfold Dk.upd
 split
 ·have:=hj i;omega
 ·have:=hj k;omega
theorem zjg (h:OneM W w b cs j us) (asp ath ach:Int) (hs:asp < 0∨(cs.length:Int)≤asp) :
  Calls Tryz.prog 36 #[.pointer (some ⟨b,0,none⟩),.agg #[.int .i64 1,.int .i64 asp,.int .i64 ath,.int .i64 ach]] w fun e w'=>e=.returned (.int .i64 1)∧OneM W w' b cs j us:=by
 obtain ⟨W1,e1⟩:∃ W1,W1=w.alloc (.cells #[.int .i64 1,.int .i64 asp,.int .i64 ath,.int .i64 ach] 88):=⟨_,rfl⟩
 have h1:=h.newBox e1
 have c1:=(h1.box (a:=w.heap.size) (ce:=#[.int .i64 1,.int .i64 asp,.int .i64 ath,.int .i64 ach]) (e:=88) (by simp)).cell
 have hd:=h1.below (Dk.zg (Below.refl _ _))
 have H1:Hid _:=e1.symm
 have HM:Hid (OneM W W1.drew b cs j (Dk.boxOf w.heap.size #[.int .i64 1,.int .i64 asp,.int .i64 ath,.int .i64 ach] 88::us)):=hd
 clear e1 h h1
 go_enter Tryz.func36,Tryz.ntmps36
 go_upto_region 6 with (rw [H1.out];clear H1)
 obtain ⟨S,eS⟩:∃ S:World→Prop,S=fun w'=>∀ o,w'.cell? ⟨w.heap.size,o,none⟩=(#[.int .i64 1,.int .i64 asp,.int .i64 ath,.int .i64 ach]:Array Value)[o]?:=⟨_,rfl⟩
 have S0:S W1.drew:=by rw [eS];exact (hd.box (a:=w.heap.size) (ce:=#[.int .i64 1,.int .i64 asp,.int .i64 ath,.int .i64 ach]) (e:=88) (by simp)).cell
 have SB:∀ w',S w'→True∧∀ o,w'.cell? ⟨w.heap.size,o,none⟩=(#[.int .i64 1,.int .i64 asp,.int .i64 ath,.int .i64 ach]:Array Value)[o]?:=fun w' h=>by rw [eS] at h;exact ⟨trivial,h⟩
 clear eS hd c1
 refine Dk.zd (S:=S) [] [0,1,2,4,5,6,7] [8,9,10,11,12] 6 (by kernel_rfl) (by kernel_rfl) (by kernel_rfl) (by kernel_rfl) rfl S0 _ ?_ (fun a' h=>h)
 refine Dk.za (v:=.pointer (some ⟨b,0,none⟩)) rfl rfl (fun w' hw'=>by go_simp) ?_
 simp only [Act.put,zA,zB,zC]
 refine Dk.za (v:=.pointer (some ⟨w.heap.size,1,none⟩)) rfl rfl (fun w' hw'=>by go_simp) ?_
 simp only [Act.put,zA,zB,zC]
 refine Dk.za (v:=.int .i64 asp) rfl rfl (fun w' hw'=>by obtain ⟨_,c⟩:=SB _ hw';go_simp) ?_
 simp only [Act.put,zA,zB,zC]
 refine Dk.za (v:=.pointer (some ⟨w.heap.size,2,none⟩)) rfl rfl (fun w' hw'=>by go_simp) ?_
 simp only [Act.put,zA,zB,zC]
 refine Dk.za (v:=.int .i64 ath) rfl rfl (fun w' hw'=>by obtain ⟨_,c⟩:=SB _ hw';go_simp) ?_
 simp only [Act.put,zA,zB,zC]
 refine Dk.za (v:=.pointer (some ⟨w.heap.size,3,none⟩)) rfl rfl (fun w' hw'=>by go_simp) ?_
 simp only [Act.put,zA,zB,zC]
 refine Dk.za (v:=.int .i64 ach) rfl rfl (fun w' hw'=>by obtain ⟨_,c⟩:=SB _ hw';go_simp) ?_
 simp only [Act.put,zA,zB,zC]
 refine Dk.treeY (rs:=[3]) (by kernel_rfl) (by simp) ?_
 intro i hi
 simp only [List.mem_cons,List.not_mem_nil,or_false] at hi
 subst hi
 refine Dk.zl (some 16) rfl rfl rfl (f:=42) (args:=#[.pointer (some ⟨b,0,none⟩),.int .i64 asp]) (by go_simp) ?_
 refine (zcu HM.out asp hs).mono ?_
 rintro e w2 ⟨rfl,ew⟩
 subst w2
 refine ⟨_,rfl,fun _=>S0,?_⟩
 simp only [Act.put,zA,zB,zC]
 refine Dk.treeY (rs:=[8]) (by kernel_rfl) (by simp) ?_
 intro i hi
 simp only [List.mem_cons,List.not_mem_nil,or_false] at hi
 subst hi
 refine Dk.zl (some 21) rfl rfl rfl (f:=28) (args:=#[.pointer none,.int .i64 ath,.int .i64 ach]) (by go_simp) ?_
 refine (RunC_nil ath ach _).mono ?_
 rintro e w3 ⟨rfl,u3⟩
 have hN:=(HM.out.below u3).drop
 refine ⟨_,rfl,fun h=>absurd (by decide) h,?_⟩
 simp only [Act.put,zA,zB,zC]
 refine Dk.zm (by kernel_rfl) (fun c a w h=>h) _ 0 _ [9,10,11,12] _ _ (by kernel_rfl) ?_ (fun a' h=>h)
 refine Dk.za (v:=.tuple #[eff none 0 0 false false false,.int .i64 1]) rfl rfl (fun w' hw'=>by go_simp) ?_
 simp only [Act.put,zA,zB,zC]
 refine Dk.za (v:=eff none 0 0 false false false) rfl rfl (fun w' hw'=>by go_simp) ?_
 simp only [Act.put,zA,zB,zC]
 refine Dk.za (v:=.int .i64 1) rfl rfl (fun w' hw'=>by go_simp) ?_
 simp only [Act.put,zA,zB,zC]
 refine Dk.za (v:=.int .i64 1) rfl rfl (fun w' hw'=>by go_simp) ?_
 simp only [Act.put,zA,zB,zC]
 refine ⟨by kernel_rfl,?_⟩
 show NoPanic _ Exit.normal _ _
 refine NoPanic.normal ?_
 have HN:Hid (OneM _ _ _ _ _ _):=hN
 clear hN HM
 go_wp2_with fail
 go_ret
 exact ⟨rfl,HN.out⟩
theorem zgz (h:OneM W w b cs j us) (ath ach:Int) (k:Nat) (c:Dk.Cell) (hc:cs[k]? = some c) (hj:j k≤150) (i2:Dk.i64 ach) :
  Calls Tryz.prog 36 #[.pointer (some ⟨b,0,none⟩),.agg #[.int .i64 1,.int .i64 (k:Int),.int .i64 ath,.int .i64 ach]] w fun e w'=>e=.returned (.int .i64 (c.q.run ath ach).2.2)∧OneM W w' b (cs.set k (c.go (c.q.run ath ach).1)) (Dk.upd j k (j k+1)) us:=by
 obtain ⟨W1,e1⟩:∃ W1,W1=w.alloc (.cells #[.int .i64 1,.int .i64 (k:Int),.int .i64 ath,.int .i64 ach] 88):=⟨_,rfl⟩
 have h1:=h.newBox e1
 have c1:=(h1.box (a:=w.heap.size) (ce:=#[.int .i64 1,.int .i64 (k:Int),.int .i64 ath,.int .i64 ach]) (e:=88) (by simp)).cell
 have hd:=h1.below (Dk.zg (Below.refl _ _))
 have H1:Hid _:=e1.symm
 have HM:Hid (OneM W W1.drew b cs j (Dk.boxOf w.heap.size #[.int .i64 1,.int .i64 (k:Int),.int .i64 ath,.int .i64 ach] 88::us)):=hd
 clear e1 h h1
 go_enter Tryz.func36,Tryz.ntmps36
 go_upto_region 6 with (rw [H1.out];clear H1)
 obtain ⟨S,eS⟩:∃ S:World→Prop,S=fun w'=>∀ o,w'.cell? ⟨w.heap.size,o,none⟩=(#[.int .i64 1,.int .i64 (k:Int),.int .i64 ath,.int .i64 ach]:Array Value)[o]?:=⟨_,rfl⟩
 have S0:S W1.drew:=by rw [eS];exact (hd.box (a:=w.heap.size) (ce:=#[.int .i64 1,.int .i64 (k:Int),.int .i64 ath,.int .i64 ach]) (e:=88) (by simp)).cell
 have SB:∀ w',S w'→True∧∀ o,w'.cell? ⟨w.heap.size,o,none⟩=(#[.int .i64 1,.int .i64 (k:Int),.int .i64 ath,.int .i64 ach]:Array Value)[o]?:=fun w' h=>by rw [eS] at h;exact ⟨trivial,h⟩
 clear eS hd c1
 refine Dk.zd (S:=S) [] [0,1,2,4,5,6,7] [8,9,10,11,12] 6 (by kernel_rfl) (by kernel_rfl) (by kernel_rfl) (by kernel_rfl) rfl S0 _ ?_ (fun a' h=>h)
 refine Dk.za (v:=.pointer (some ⟨b,0,none⟩)) rfl rfl (fun w' hw'=>by go_simp) ?_
 simp only [Act.put,zA,zB,zC]
 refine Dk.za (v:=.pointer (some ⟨w.heap.size,1,none⟩)) rfl rfl (fun w' hw'=>by go_simp) ?_
 simp only [Act.put,zA,zB,zC]
 refine Dk.za (v:=.int .i64 (k:Int)) rfl rfl (fun w' hw'=>by obtain ⟨_,c⟩:=SB _ hw';go_simp) ?_
 simp only [Act.put,zA,zB,zC]
 refine Dk.za (v:=.pointer (some ⟨w.heap.size,2,none⟩)) rfl rfl (fun w' hw'=>by go_simp) ?_
 simp only [Act.put,zA,zB,zC]
 refine Dk.za (v:=.int .i64 ath) rfl rfl (fun w' hw'=>by obtain ⟨_,c⟩:=SB _ hw';go_simp) ?_
 simp only [Act.put,zA,zB,zC]
 refine Dk.za (v:=.pointer (some ⟨w.heap.size,3,none⟩)) rfl rfl (fun w' hw'=>by go_simp) ?_
 simp only [Act.put,zA,zB,zC]
 refine Dk.za (v:=.int .i64 ach) rfl rfl (fun w' hw'=>by obtain ⟨_,c⟩:=SB _ hw';go_simp) ?_
 simp only [Act.put,zA,zB,zC]
 refine Dk.treeY (rs:=[3]) (by kernel_rfl) (by simp) ?_
 intro i hi
 simp only [List.mem_cons,List.not_mem_nil,or_false] at hi
 subst hi
 refine Dk.zl (some 16) rfl rfl rfl (f:=42) (args:=#[.pointer (some ⟨b,0,none⟩),.int .i64 (k:Int)]) (by go_simp) ?_
 refine (zcb HM.out hc).mono ?_
 rintro e w2 ⟨rfl,ew⟩
 subst w2
 refine ⟨_,rfl,fun _=>S0,?_⟩
 simp only [Act.put,zA,zB,zC]
 refine Dk.treeY (rs:=[8]) (by kernel_rfl) (by simp) ?_
 intro i hi
 simp only [List.mem_cons,List.not_mem_nil,or_false] at hi
 subst hi
 refine Dk.zl (some 21) rfl rfl rfl (f:=28) (args:=#[.pointer (some ⟨c.L.b,0,none⟩),.int .i64 ath,.int .i64 ach]) (by unfold Dk.Cell.ptr;go_simp) ?_
 obtain ⟨rest,hG,hB,hcl,_⟩:=HM.out.at hc
 refine (run_goes hG hB hj ath ach i2).mono ?_
 rintro e w3 ⟨A3,C3,rfl,h3⟩
 have hN:=hcl w3 us _ (h3.with (fun c=>c.drop.drop))
 refine ⟨_,rfl,fun h=>absurd (by decide) h,?_⟩
 simp only [Act.put,zA,zB,zC]
 refine Dk.zm (by kernel_rfl) (fun c a w h=>h) _ 0 _ [9,10,11,12] _ _ (by kernel_rfl) ?_ (fun a' h=>h)
 refine Dk.za (v:=.tuple #[eff A3 (c.q.run ath ach).2.1.woken.length C3 (c.q.run ath ach).2.1.stopped (c.q.run ath ach).2.1.ended (c.q.run ath ach).2.1.yielded,.int .i64 (c.q.run ath ach).2.2]) rfl rfl (fun w' hw'=>by go_simp) ?_
 simp only [Act.put,zA,zB,zC]
 refine Dk.za (v:=eff A3 (c.q.run ath ach).2.1.woken.length C3 (c.q.run ath ach).2.1.stopped (c.q.run ath ach).2.1.ended (c.q.run ath ach).2.1.yielded) rfl rfl (fun w' hw'=>by go_simp) ?_
 simp only [Act.put,zA,zB,zC]
 refine Dk.za (v:=.int .i64 (c.q.run ath ach).2.2) rfl rfl (fun w' hw'=>by go_simp) ?_
 simp only [Act.put,zA,zB,zC]
 refine Dk.za (v:=.int .i64 (c.q.run ath ach).2.2) rfl rfl (fun w' hw'=>by go_simp) ?_
 simp only [Act.put,zA,zB,zC]
 refine ⟨by kernel_rfl,?_⟩
 show NoPanic _ Exit.normal _ _
 refine NoPanic.normal ?_
 have HN:Hid (OneM _ _ _ _ _ _):=hN
 clear hN HM
 go_wp2_with fail
 go_ret
 exact ⟨rfl,HN.out⟩
theorem zlx (h:OneM W w b cs j us) (asp ath ach:Int) (hs:asp < 0∨(cs.length:Int)≤asp) :
  Calls Tryz.prog 36 #[.pointer (some ⟨b,0,none⟩),.agg #[.int .i64 2,.int .i64 asp,.int .i64 ath,.int .i64 ach]] w fun e w'=>e=.returned (.int .i64 1)∧OneM W w' b cs j us:=by
 obtain ⟨W1,e1⟩:∃ W1,W1=w.alloc (.cells #[.int .i64 2,.int .i64 asp,.int .i64 ath,.int .i64 ach] 88):=⟨_,rfl⟩
 have h1:=h.newBox e1
 have c1:=(h1.box (a:=w.heap.size) (ce:=#[.int .i64 2,.int .i64 asp,.int .i64 ath,.int .i64 ach]) (e:=88) (by simp)).cell
 have hd:=h1.below (Dk.zg (Below.refl _ _))
 have H1:Hid _:=e1.symm
 have HM:Hid (OneM W W1.drew b cs j (Dk.boxOf w.heap.size #[.int .i64 2,.int .i64 asp,.int .i64 ath,.int .i64 ach] 88::us)):=hd
 clear e1 h h1
 go_enter Tryz.func36,Tryz.ntmps36
 go_upto_region 8 with (rw [H1.out];clear H1)
 obtain ⟨S,eS⟩:∃ S:World→Prop,S=fun w'=>∀ o,w'.cell? ⟨w.heap.size,o,none⟩=(#[.int .i64 2,.int .i64 asp,.int .i64 ath,.int .i64 ach]:Array Value)[o]?:=⟨_,rfl⟩
 have S0:S W1.drew:=by rw [eS];exact (hd.box (a:=w.heap.size) (ce:=#[.int .i64 2,.int .i64 asp,.int .i64 ath,.int .i64 ach]) (e:=88) (by simp)).cell
 have SB:∀ w',S w'→True∧∀ o,w'.cell? ⟨w.heap.size,o,none⟩=(#[.int .i64 2,.int .i64 asp,.int .i64 ath,.int .i64 ach]:Array Value)[o]?:=fun w' h=>by rw [eS] at h;exact ⟨trivial,h⟩
 clear eS hd c1
 refine Dk.zd (S:=S) [] [0,1,2,4,5] [6,7,8,9,10] 6 (by kernel_rfl) (by kernel_rfl) (by kernel_rfl) (by kernel_rfl) rfl S0 _ ?_ (fun a' h=>h)
 refine Dk.za (v:=.pointer (some ⟨b,0,none⟩)) rfl rfl (fun w' hw'=>by go_simp) ?_
 simp only [Act.put,zA,zB,zC]
 refine Dk.za (v:=.pointer (some ⟨w.heap.size,1,none⟩)) rfl rfl (fun w' hw'=>by go_simp) ?_
 simp only [Act.put,zA,zB,zC]
 refine Dk.za (v:=.int .i64 asp) rfl rfl (fun w' hw'=>by obtain ⟨_,c⟩:=SB _ hw';go_simp) ?_
 simp only [Act.put,zA,zB,zC]
 refine Dk.za (v:=.pointer (some ⟨w.heap.size,3,none⟩)) rfl rfl (fun w' hw'=>by go_simp) ?_
 simp only [Act.put,zA,zB,zC]
 refine Dk.za (v:=.int .i64 ach) rfl rfl (fun w' hw'=>by obtain ⟨_,c⟩:=SB _ hw';go_simp) ?_
 simp only [Act.put,zA,zB,zC]
 refine Dk.treeY (rs:=[3]) (by kernel_rfl) (by simp) ?_
 intro i hi
 simp only [List.mem_cons,List.not_mem_nil,or_false] at hi
 subst hi
 refine Dk.zl (some 30) rfl rfl rfl (f:=42) (args:=#[.pointer (some ⟨b,0,none⟩),.int .i64 asp]) (by go_simp) ?_
 refine (zcu HM.out asp hs).mono ?_
 rintro e w2 ⟨rfl,ew⟩
 subst w2
 refine ⟨_,rfl,fun _=>S0,?_⟩
 simp only [Act.put,zA,zB,zC]
 refine Dk.treeY (rs:=[6]) (by kernel_rfl) (by simp) ?_
 intro i hi
 simp only [List.mem_cons,List.not_mem_nil,or_false] at hi
 subst hi
 refine Dk.zl (some 33) rfl rfl rfl (f:=29) (args:=#[.pointer none,.int .i64 ach]) (by go_simp) ?_
 refine (zlz ach _).mono ?_
 rintro e w3 ⟨rfl,u3⟩
 have hN:=(HM.out.below u3).drop
 refine ⟨_,rfl,fun h=>absurd (by decide) h,?_⟩
 simp only [Act.put,zA,zB,zC]
 refine Dk.zm (by kernel_rfl) (fun c a w h=>h) _ 0 _ [7,8,9,10] _ _ (by kernel_rfl) ?_ (fun a' h=>h)
 refine Dk.za (v:=.tuple #[eff none 0 0 false false false,.int .i64 1]) rfl rfl (fun w' hw'=>by go_simp) ?_
 simp only [Act.put,zA,zB,zC]
 refine Dk.za (v:=eff none 0 0 false false false) rfl rfl (fun w' hw'=>by go_simp) ?_
 simp only [Act.put,zA,zB,zC]
 refine Dk.za (v:=.int .i64 1) rfl rfl (fun w' hw'=>by go_simp) ?_
 simp only [Act.put,zA,zB,zC]
 refine Dk.za (v:=.int .i64 1) rfl rfl (fun w' hw'=>by go_simp) ?_
 simp only [Act.put,zA,zB,zC]
 refine ⟨by kernel_rfl,?_⟩
 show NoPanic _ Exit.normal _ _
 refine NoPanic.normal ?_
 have HN:Hid (OneM _ _ _ _ _ _):=hN
 clear hN HM
 go_wp2_with fail
 go_ret
 exact ⟨rfl,HN.out⟩
theorem zkd (h:OneM W w b cs j us) (ath ach:Int) (k:Nat) (c:Dk.Cell) (hc:cs[k]? = some c) (hj:j k≤150) (i2:Dk.i64 ach) :
  Calls Tryz.prog 36 #[.pointer (some ⟨b,0,none⟩),.agg #[.int .i64 2,.int .i64 (k:Int),.int .i64 ath,.int .i64 ach]] w fun e w'=>e=.returned (.int .i64 (c.q.done ach).2.2)∧OneM W w' b (cs.set k (c.go (c.q.done ach).1)) (Dk.upd j k (j k+1)) us:=by
 obtain ⟨W1,e1⟩:∃ W1,W1=w.alloc (.cells #[.int .i64 2,.int .i64 (k:Int),.int .i64 ath,.int .i64 ach] 88):=⟨_,rfl⟩
 have h1:=h.newBox e1
 have c1:=(h1.box (a:=w.heap.size) (ce:=#[.int .i64 2,.int .i64 (k:Int),.int .i64 ath,.int .i64 ach]) (e:=88) (by simp)).cell
 have hd:=h1.below (Dk.zg (Below.refl _ _))
 have H1:Hid _:=e1.symm
 have HM:Hid (OneM W W1.drew b cs j (Dk.boxOf w.heap.size #[.int .i64 2,.int .i64 (k:Int),.int .i64 ath,.int .i64 ach] 88::us)):=hd
 clear e1 h h1
 go_enter Tryz.func36,Tryz.ntmps36
 go_upto_region 8 with (rw [H1.out];clear H1)
 obtain ⟨S,eS⟩:∃ S:World→Prop,S=fun w'=>∀ o,w'.cell? ⟨w.heap.size,o,none⟩=(#[.int .i64 2,.int .i64 (k:Int),.int .i64 ath,.int .i64 ach]:Array Value)[o]?:=⟨_,rfl⟩
 have S0:S W1.drew:=by rw [eS];exact (hd.box (a:=w.heap.size) (ce:=#[.int .i64 2,.int .i64 (k:Int),.int .i64 ath,.int .i64 ach]) (e:=88) (by simp)).cell
 have SB:∀ w',S w'→True∧∀ o,w'.cell? ⟨w.heap.size,o,none⟩=(#[.int .i64 2,.int .i64 (k:Int),.int .i64 ath,.int .i64 ach]:Array Value)[o]?:=fun w' h=>by rw [eS] at h;exact ⟨trivial,h⟩
 clear eS hd c1
 refine Dk.zd (S:=S) [] [0,1,2,4,5] [6,7,8,9,10] 6 (by kernel_rfl) (by kernel_rfl) (by kernel_rfl) (by kernel_rfl) rfl S0 _ ?_ (fun a' h=>h)
 refine Dk.za (v:=.pointer (some ⟨b,0,none⟩)) rfl rfl (fun w' hw'=>by go_simp) ?_
 simp only [Act.put,zA,zB,zC]
 refine Dk.za (v:=.pointer (some ⟨w.heap.size,1,none⟩)) rfl rfl (fun w' hw'=>by go_simp) ?_
 simp only [Act.put,zA,zB,zC]
 refine Dk.za (v:=.int .i64 (k:Int)) rfl rfl (fun w' hw'=>by obtain ⟨_,c⟩:=SB _ hw';go_simp) ?_
 simp only [Act.put,zA,zB,zC]
 refine Dk.za (v:=.pointer (some ⟨w.heap.size,3,none⟩)) rfl rfl (fun w' hw'=>by go_simp) ?_
 simp only [Act.put,zA,zB,zC]
 refine Dk.za (v:=.int .i64 ach) rfl rfl (fun w' hw'=>by obtain ⟨_,c⟩:=SB _ hw';go_simp) ?_
 simp only [Act.put,zA,zB,zC]
 refine Dk.treeY (rs:=[3]) (by kernel_rfl) (by simp) ?_
 intro i hi
 simp only [List.mem_cons,List.not_mem_nil,or_false] at hi
 subst hi
 refine Dk.zl (some 30) rfl rfl rfl (f:=42) (args:=#[.pointer (some ⟨b,0,none⟩),.int .i64 (k:Int)]) (by go_simp) ?_
 refine (zcb HM.out hc).mono ?_
 rintro e w2 ⟨rfl,ew⟩
 subst w2
 refine ⟨_,rfl,fun _=>S0,?_⟩
 simp only [Act.put,zA,zB,zC]
 refine Dk.treeY (rs:=[6]) (by kernel_rfl) (by simp) ?_
 intro i hi
 simp only [List.mem_cons,List.not_mem_nil,or_false] at hi
 subst hi
 refine Dk.zl (some 33) rfl rfl rfl (f:=29) (args:=#[.pointer (some ⟨c.L.b,0,none⟩),.int .i64 ach]) (by unfold Dk.Cell.ptr;go_simp) ?_
 obtain ⟨rest,hG,hB,hcl,_⟩:=HM.out.at hc
 refine (znh hG hB hj ach i2).mono ?_
 rintro e w3 ⟨A3,C3,rfl,h3⟩
 have hN:=hcl w3 us _ (h3.with (fun c=>c.drop.drop))
 refine ⟨_,rfl,fun h=>absurd (by decide) h,?_⟩
 simp only [Act.put,zA,zB,zC]
 refine Dk.zm (by kernel_rfl) (fun c a w h=>h) _ 0 _ [7,8,9,10] _ _ (by kernel_rfl) ?_ (fun a' h=>h)
 refine Dk.za (v:=.tuple #[eff A3 (c.q.done ach).2.1.woken.length C3 false false false,.int .i64 (c.q.done ach).2.2]) rfl rfl (fun w' hw'=>by go_simp) ?_
 simp only [Act.put,zA,zB,zC]
 refine Dk.za (v:=eff A3 (c.q.done ach).2.1.woken.length C3 false false false) rfl rfl (fun w' hw'=>by go_simp) ?_
 simp only [Act.put,zA,zB,zC]
 refine Dk.za (v:=.int .i64 (c.q.done ach).2.2) rfl rfl (fun w' hw'=>by go_simp) ?_
 simp only [Act.put,zA,zB,zC]
 refine Dk.za (v:=.int .i64 (c.q.done ach).2.2) rfl rfl (fun w' hw'=>by go_simp) ?_
 simp only [Act.put,zA,zB,zC]
 refine ⟨by kernel_rfl,?_⟩
 show NoPanic _ Exit.normal _ _
 refine NoPanic.normal ?_
 have HN:Hid (OneM _ _ _ _ _ _):=hN
 clear hN HM
 go_wp2_with fail
 go_ret
 exact ⟨rfl,HN.out⟩
end
end Go.Proofs.YtglhhlfopccmaaaGreat
namespace Dk
def Cell.tick (c:Cell):Cell:=c.go c.q.tick.1
def tickk (cs:List Cell) (k:Nat):List Cell:=(cs.take k).map Cell.tick++cs.drop k
theorem tickk_at {cs:List Cell} {k:Nat} {c:Cell} (h:cs[k]? = some c):(tickk cs k)[k]? = some c:=by
 have hl:=(List.getElem?_eq_some_iff.1 h).1
 unfold tickk
 rw [List.getElem?_append_right (by simp;omega),List.length_map,List.length_take,List.getElem?_drop,show k+(k - min k cs.length)=k by omega]
 exact h
theorem zlr {cs:List Cell} {k:Nat} {c:Cell} (h:cs[k]? = some c):(tickk cs k).set k c.tick=tickk cs (k+1):=by
 have hl:=(List.getElem?_eq_some_iff.1 h).1
 have e:=(List.getElem?_eq_some_iff.1 h).2
 unfold tickk
 rw [List.set_append_right _ _ (by simp;omega),List.length_map,List.length_take,show k - min k cs.length=0 by omega,List.drop_eq_getElem_cons hl,e,List.set_cons_zero,List.take_add_one,h,List.map_append,List.append_assoc]
 rfl
theorem zoz (cs:List Cell):tickk cs cs.length=cs.map Cell.tick:=by unfold tickk;simp
theorem zls (cs:List Cell):tickk cs 0=cs:=by unfold tickk;simp
theorem tick_ptr (cs:List Cell):(cs.map Cell.tick).map Cell.ptr=cs.map Cell.ptr:=by rw [List.map_map];rfl
end Dk
namespace Go.Proofs.YtglhhlfopccmaaaGreat
open Go.RowKit Go.Lib
section
variable {W w w' : World} {b : Nat} {j : Nat → Nat} {cs : List Dk.Cell} {us us' : List Dk.Thing}
theorem zow (h:OneM W w b cs j us) (hj:∀ i,j i≤150) (h8:cs.length≤8) :
  Calls Tryz.prog 72 #[.pointer (some ⟨b,0,none⟩)] w fun e w'=>e=.returned (.tuple #[])∧OneM W w' b (cs.map Dk.Cell.tick) (fun i=>j i+1) us:=by
 obtain ⟨v,hM⟩:=h
 obtain ⟨A,C,ev,hc1,hc2⟩:=Dk.zc (hM.row (e:=27) (s:=1) (v:=v) (m:=cs.length) (xs:=cs.map Dk.Cell.ptr) (by simp))
 have hb:=(hM.box (a:=b) (ce:=#[v]) (e:=152) (by simp)).cell 0
 subst ev
 obtain ⟨n,hn⟩:∃ n,n=cs.length:=⟨_,rfl⟩
 have h0:Many W w (Dk.tickk cs 0) j (Dk.boxOf b #[.slice A n C] 152::Dk.rowOf 27 1 (.slice A n C) n (cs.map Dk.Cell.ptr)::us):=by rw [Dk.zls,hn];exact hM
 have HM:Hid (Many W w (Dk.tickk cs 0) j (Dk.boxOf b #[.slice A n C] 152::Dk.rowOf 27 1 (.slice A n C) n (cs.map Dk.Cell.ptr)::us)):=h0
 rw [← hn] at hb h8 hc1
 unfold maxLen at hc2
 have HN:Hid (n=cs.length):=hn
 have HJ:Hid (∀ i,j i≤150):=hj
 clear h0 hM hn hj
 go_enter Tryz.func72,Tryz.ntmps72
 go_wp2_with fail
 go_loopw [9] (fun i w'=>∃ k:Nat,i=.int .i64 k∧k≤n∧Many W w' (Dk.tickk cs k) (fun i=>if i < k then j i+1 else j i) (Dk.boxOf b #[.slice A n C] 152::Dk.rowOf 27 1 (.slice A n C) n (cs.map Dk.Cell.ptr)::us)) (fun i w'=>n - (intOf i).toNat)
 case atStart=>exact ⟨0,rfl,Nat.zero_le _,HM.out.le (fun i=>by simp)⟩
 case round=>
  obtain ⟨k,rfl,hk,hM⟩:=hrel
  clear HM
  by_cases hlt:k < n
  ·have hkl:k < cs.length:=by have:=HN.out;omega
   obtain ⟨c,hc⟩:∃ c,cs[k]? = some c:=⟨_,List.getElem?_eq_getElem hkl⟩
   obtain ⟨g,C',x,ev,_,_,hx,hcell,_,_⟩:=Dk.zay (hM.row (e:=27) (s:=1) (v:=.slice A n C) (m:=n) (xs:=cs.map Dk.Cell.ptr) (by simp)) hlt
   rw [List.getElem?_map,hc] at hx
   cases hx
   injection ev with e1 e2 e3
   subst e1
   unfold Dk.Cell.ptr at hcell
   obtain ⟨rest,hG,hB,hcl,_⟩:=hM.at (Dk.tickk_at hc)
   have hlev:(if k < k then j k+1 else j k)=j k:=by simp
   rw [hlev] at hG hcl
   have K:=zox hG hB (HJ.out k)
   have HCL:Hid (∀ w' us',Goes W w' c.L c.q0 c.q.tick.1 (j k+1) (us'++rest)→Many W w' (Dk.tickk cs (k+1)) (fun i=>if i < k+1 then j i+1 else j i) us'):=fun w' us' g=>by
    have:=hcl w' us' _ g
    rw [show c.go c.q.tick.1=c.tick from rfl,Dk.zlr hc] at this
    refine this.le fun i=>?_
    unfold Dk.upd
    by_cases h1:i=k
    ·subst h1;simp
    ·rw [if_neg h1]
     by_cases h2:i < k
     ·simp [h2,show i < k+1 by omega]
     ·simp [h2,show ¬ i < k+1 by omega]
   have k1:(k:Int) < (n:Int):=by omega
   have k2:(0:Int)≤(k:Int):=by omega
   clear hM hG hcl hlev e2 e3 hc
   go_wp2_with fail
   refine K.mono ?_
   rintro e w2 ⟨A2,C2,rfl,h2⟩
   have hN:=HCL.out w2 _ (h2.with (fun c=>c.drop))
   clear K h2 hcell
   go_wp2_with fail
   go_roundw
   case rel=>exact ⟨k+1,by go_num,by omega,hN⟩
   case measure=>simp [intOf];omega
  ·obtain rfl:k=n:=by omega
   have z1:decide ((k:Int) < (k:Int))=false:=decide_eq_false (by omega)
   have fin:OneM W wr b (cs.map Dk.Cell.tick) (fun i=>j i+1) us:=by
    have hn:=HN.out
    rw [show Dk.tickk cs k=cs.map Dk.Cell.tick by rw [hn];exact Dk.zoz cs] at hM
    refine ⟨.slice A k C,?_⟩
    rw [List.length_map,Dk.tick_ptr,← hn]
    exact hM.le fun i=>by split <;> omega
   have HF:Hid (OneM W wr b (cs.map Dk.Cell.tick) (fun i=>j i+1) us):=fin
   clear hM fin
   go_wp2_with fail
   go_end0
   exact ⟨rfl,HF.out⟩
theorem DoTick (h:OneM W w b cs j us) (asp ath ach:Int) (hj:∀ i,j i≤150) (h8:cs.length≤8) :
  Calls Tryz.prog 36 #[.pointer (some ⟨b,0,none⟩),.agg #[.int .i64 3,.int .i64 asp,.int .i64 ath,.int .i64 ach]] w fun e w'=>e=.returned (.int .i64 0)∧OneM W w' b (cs.map Dk.Cell.tick) (fun i=>j i+1) us:=by
 obtain ⟨W1,e1⟩:∃ W1,W1=w.alloc (.cells #[.int .i64 3,.int .i64 asp,.int .i64 ath,.int .i64 ach] 88):=⟨_,rfl⟩
 have h1:=h.newBox e1
 have c1:=(h1.box (a:=w.heap.size) (ce:=#[.int .i64 3,.int .i64 asp,.int .i64 ath,.int .i64 ach]) (e:=88) (by simp)).cell
 have H1:Hid _:=e1.symm
 have K:=zow h1 hj h8
 clear e1 h h1
 go_enter Tryz.func36,Tryz.ntmps36
 go_wp2_with (rw [H1.out];clear H1)
 refine K.mono ?_
 rintro e w2 ⟨rfl,h2⟩
 have HN:Hid (OneM W w2 b (cs.map Dk.Cell.tick) (fun i=>j i+1) us):=h2.drop
 clear K h2 c1
 go_wp2_with fail
 go_ret
 exact ⟨rfl,HN.out⟩
theorem DoOther (h:OneM W w b cs j us) (ak asp ath ach:Int) (g1:ak≠1) (g2:ak≠2) (g3:ak≠3) :
  Calls Tryz.prog 36 #[.pointer (some ⟨b,0,none⟩),.agg #[.int .i64 ak,.int .i64 asp,.int .i64 ath,.int .i64 ach]] w fun e w'=>e=.returned (.int .i64 1)∧OneM W w' b cs j us:=by
 obtain ⟨W1,e1⟩:∃ W1,W1=w.alloc (.cells #[.int .i64 ak,.int .i64 asp,.int .i64 ath,.int .i64 ach] 88):=⟨_,rfl⟩
 have h1:=h.newBox e1
 have c1:=(h1.box (a:=w.heap.size) (ce:=#[.int .i64 ak,.int .i64 asp,.int .i64 ath,.int .i64 ach]) (e:=88) (by simp)).cell
 have H1:Hid _:=e1.symm
 have HN:Hid (OneM W W1 b cs j us):=(h.newBox e1).drop
 have k1:¬ ak=1:=g1
 have k2:¬ ak=2:=g2
 have k3:¬ ak=3:=g3
 clear e1 h h1 g1 g2 g3
 go_enter Tryz.func36,Tryz.ntmps36
 go_wp2_with (rw [H1.out];clear H1)
 go_ret
 exact ⟨rfl,HN.out⟩
end
section
variable {W w w' : World} {b : Nat} {j : Nat → Nat} {cs : List Dk.Cell} {us us' : List Dk.Thing}
theorem zmc (h:OneM W w b cs j us) (n:Int) (hn:n < 0∨(cs.length:Int)≤n):Calls Tryz.prog 40 #[.pointer (some ⟨b,0,none⟩),.int .i64 n] w fun e w'=>e=.returned (.slice none 0 0)∧w'=w:=by
 have K:=zcu h n hn
 clear h hn
 go_enter Tryz.func40,Tryz.ntmps40
 go_wp2_with fail
 refine K.mono ?_
 rintro e w7 ⟨rfl,ew⟩
 subst w7
 go_wp2_with fail
 refine (zme w).mono ?_
 rintro e w7 ⟨rfl,ew⟩
 subst w7
 go_wp2_with fail
 go_ret
 exact ⟨rfl,rfl⟩
theorem zh8 (h:OneM W w b cs j us) (n:Int) (hn:n < 0∨(cs.length:Int)≤n):Calls Tryz.prog 38 #[.pointer (some ⟨b,0,none⟩),.int .i64 n] w fun e w'=>e=.returned (.slice none 0 0)∧w'=w:=by
 have K:=zcu h n hn
 clear h hn
 go_enter Tryz.func38,Tryz.ntmps38
 go_wp2_with fail
 refine K.mono ?_
 rintro e w7 ⟨rfl,ew⟩
 subst w7
 go_wp2_with fail
 refine (zia w).mono ?_
 rintro e w7 ⟨rfl,ew⟩
 subst w7
 go_wp2_with fail
 go_ret
 exact ⟨rfl,rfl⟩
theorem ze9 (h:OneM W w b cs j us) {k:Nat} {c:Dk.Cell} (hc:cs[k]? = some c):Calls Tryz.prog 40 #[.pointer (some ⟨b,0,none⟩),.int .i64 (k:Int)] w fun e w'=>∃ A C,e=.returned (.slice A c.q.ready.length C)∧OneM W w' b cs j (Dk.rowOf 3 1 (.slice A c.q.ready.length C) c.q.ready.length (Dk.is c.q.ready)::us):=by
 have K:=zcb h hc
 obtain ⟨rest,hG,hB,_,hcl⟩:=h.at hc
 have K2:=zk1 hG hB
 have HCL:Hid (∀ w' us',Goes W w' c.L c.q0 c.q (j k) (us'++rest)→OneM W w' b cs j us'):=hcl
 unfold Dk.Cell.ptr at K
 clear h hG hcl
 go_enter Tryz.func40,Tryz.ntmps40
 go_wp2_with fail
 refine K.mono ?_
 rintro e w7 ⟨rfl,ew⟩
 subst w7
 go_wp2_with fail
 refine K2.mono ?_
 rintro e w2 ⟨A,C,rfl,h2⟩
 have hN:=HCL.out w2 (Dk.rowOf 3 1 (.slice A c.q.ready.length C) c.q.ready.length (Dk.is c.q.ready)::us) h2
 have HN:Hid (OneM W w2 b cs j (Dk.rowOf 3 1 (.slice A c.q.ready.length C) c.q.ready.length (Dk.is c.q.ready)::us)):=hN
 clear hN h2 K K2
 go_wp2_with fail
 go_ret
 exact ⟨A,C,rfl,HN.out⟩
theorem zb0 (h:OneM W w b cs j us) {k:Nat} {c:Dk.Cell} (hc:cs[k]? = some c) (hj:j k≤150):Calls Tryz.prog 38 #[.pointer (some ⟨b,0,none⟩),.int .i64 (k:Int)] w fun e w'=>∃ A C,e=.returned (.slice A c.q.recs.length C)∧OneM W w' b cs j (Dk.rowOf 74 6 (.slice A c.q.recs.length C) c.q.recs.length (c.q.recs.flatMap Dk.Rec.cells)::us):=by
 have K:=zcb h hc
 obtain ⟨rest,hG,hB,_,hcl⟩:=h.at hc
 have K2:=zhf hG hj
 have HCL:Hid (∀ w' us',Goes W w' c.L c.q0 c.q (j k) (us'++rest)→OneM W w' b cs j us'):=hcl
 unfold Dk.Cell.ptr at K
 clear h hG hcl
 go_enter Tryz.func38,Tryz.ntmps38
 go_wp2_with fail
 refine K.mono ?_
 rintro e w7 ⟨rfl,ew⟩
 subst w7
 go_wp2_with fail
 refine K2.mono ?_
 rintro e w2 ⟨A,C,rfl,h2⟩
 have hN:=HCL.out w2 (Dk.rowOf 74 6 (.slice A c.q.recs.length C) c.q.recs.length (c.q.recs.flatMap Dk.Rec.cells)::us) h2
 have HN:Hid (OneM W w2 b cs j (Dk.rowOf 74 6 (.slice A c.q.recs.length C) c.q.recs.length (c.q.recs.flatMap Dk.Rec.cells)::us)):=hN
 clear hN h2 K K2
 go_wp2_with fail
 go_ret
 exact ⟨A,C,rfl,HN.out⟩
end
end Go.Proofs.YtglhhlfopccmaaaGreat
namespace Dk
open Go Go.RowKit
structure SlP (B:Nat) (w:World) (A:Option Addr) (L C:Nat) (ps:List (Sh × Prg)):Prop where
 len:ps.length=L
 cap:L≤C
 max:C≤maxLen
 cells:0 < L→∃ b o,A=some ⟨b,o,none⟩∧b < B∧∀ k x,ps[k]? = some x→PrgAt B w x.1 x.2∧
  w.cell? ⟨b,o+k*8,none⟩=some (.slice x.1.fA x.1.fL x.1.fC)∧w.cell? ⟨b,o+k*8+1,none⟩=some (.int .i64 x.2.words)∧w.cell? ⟨b,o+k*8+2,none⟩=some (.int .i64 x.2.mutexes)∧w.cell? ⟨b,o+k*8+3,none⟩=some (.int .i64 x.2.conds)∧
  w.cell? ⟨b,o+k*8+4,none⟩=some (.slice x.1.sA x.1.sL x.1.sC)∧w.cell? ⟨b,o+k*8+5,none⟩=some (.slice x.1.pA x.1.pL x.1.pC)∧w.cell? ⟨b,o+k*8+6,none⟩=some (.int .i64 x.2.blocks)∧w.cell? ⟨b,o+k*8+7,none⟩=some (.int .i64 x.2.prio)
def firstBad:List (Sh × Prg)→Int
 | []=>0
 | x::r=>if check x.2=0 then firstBad r else check x.2
end Dk
namespace Go.Proofs.YtglhhlfopccmaaaGreat
open Go.RowKit Go.Lib
theorem infoSpP:(Tryz.prog.info? 27).map (fun i=>(i.zero,i.size,i.bytes))=some (some (.pointer none),1,8):=by kernel_rfl
theorem KSpP:Dk.SlK Tryz.prog 150 27 (.pointer none) 1 8:=⟨Tryz.underlying150,infoSpP,rfl,by decide,by decide⟩
section
variable {W w w' : World} {us : List Dk.Thing} {cs : List Dk.Cell} {lev : Nat → Nat}
theorem zl7 {B:Nat} (h:Many W w cs (fun _=>0) us) (s:Dk.Sh) (p:Dk.Prg) (hp:Dk.PrgAt B w s p) (hB:B≤w.heap.size) (hk:Dk.check p=0) :
  Calls Tryz.prog 12 #[Dk.pv s p] w fun e w'=>∃ L:Dk.Loc,e=.returned (.tuple #[.pointer (some ⟨L.b,0,none⟩),.int .i64 0])∧Many W w' (cs++[⟨L,Dk.Sp.fresh p,Dk.Sp.fresh p⟩]) (fun _=>0) us:=by
 obtain ⟨pss,hl,hs,hf⟩:=h
 refine (NewC_yes hs s p hp hB hk).mono ?_
 rintro e w' ⟨L,rfl,hL⟩
 have b:=born_of hp hk
 generalize Dk.Sp.fresh p=q0 at *
 refine ⟨L,rfl,?_⟩
 obtain ⟨ps,s2,fl⟩:=hL.cor.opened
 refine ⟨pss++[ps],by simp [hl],?_,fun i c qs hc hq=>?_⟩
 ·rw [List.flatten_append,List.flatten_singleton,← List.append_assoc]
  exact s2
 ·by_cases hi:i < cs.length
  ·rw [List.getElem?_append_left hi] at hc
   rw [List.getElem?_append_left (by omega)] at hq
   exact hf i c qs hc hq
  ·have hic:=(List.getElem?_eq_some_iff.1 hc).1
   simp at hic
   obtain rfl:i=cs.length:=by omega
   rw [List.getElem?_append_right (by omega),Nat.sub_self] at hc
   rw [List.getElem?_append_right (by omega),show cs.length - pss.length=0 by omega] at hq
   cases hc
   cases hq
   exact ⟨fl,b,hL.life,hL.dims,by have:=hL.recs;omega⟩
theorem NewO_few {A:Option Addr} {L C:Nat} (w:World) (hL:L < 1∨8 < L) (hm:L≤C∧C≤maxLen) :
  Calls Tryz.prog 33 #[.slice A L C] w fun e w'=>e=.returned (.tuple #[.pointer none,.int .i64 1])∧w'=w:=by
 obtain ⟨h1,h2⟩:=hm
 unfold maxLen at h2
 rcases hL with hL | hL
 ·have l1:(L:Int) < 1:=by omega
  go_enter Tryz.func33,Tryz.ntmps33
  go_wp2_with fail
  go_ret2
  exact ⟨rfl,rfl⟩
 ·have l1:¬ (L:Int) < 1:=by omega
  have l2:(8:Int) < (L:Int):=by omega
  go_enter Tryz.func33,Tryz.ntmps33
  go_wp2_with fail
  go_ret2
  exact ⟨rfl,rfl⟩
theorem NewO_t {B:Nat} {A:Option Addr} {L C:Nat} {ps:List (Dk.Sh × Dk.Prg)} (w:World) (h:Dk.SlP B w A L C ps) (hB:B≤w.heap.size) (hL:1≤L∧L≤8) :
  Calls Tryz.prog 33 #[.slice A L C] w fun e w'=>(Dk.firstBad ps≠0∧e=.returned (.tuple #[.pointer none,.int .i64 (Dk.firstBad ps)])∧Below w.heap.size w w')∨(Dk.firstBad ps=0∧∃ b cs,e=.returned (.tuple #[.pointer (some ⟨b,0,none⟩),.int .i64 0])∧OneM w w' b cs (fun _=>0) []∧cs.map Dk.Cell.q=ps.map (fun x=>Dk.Sp.fresh x.2)∧cs.map Dk.Cell.q0=ps.map (fun x=>Dk.Sp.fresh x.2)):=by
 obtain ⟨W1,e1⟩:∃ W1,W1=w.alloc (.cells #[.slice none 0 0] 152):=⟨_,rfl⟩
 have s1:=((Dk.Sep.begin (Below.refl w.heap.size w)).newBox e1).nil 27 1
 have m1:Many w W1 [] (fun _=>0) (Dk.boxOf w.heap.size #[.slice none 0 0] 152::Dk.rowOf 27 1 (.slice none 0 0) 0 []::[]):=Many.begin (s1.perm (List.Perm.swap _ _ _))
 have o1:OneM w W1 w.heap.size [] (fun _=>0) []:=⟨.slice none 0 0,m1⟩
 have H1:Hid _:=e1.symm
 have HO:Hid (OneM w W1 w.heap.size [] (fun _=>0) []):=o1
 have HP:Hid (Dk.SlP B w A L C ps):=h
 have HB:Hid (B≤w.heap.size):=hB
 have hcap:=h.cap
 have hmax:=h.max
 unfold maxLen at hmax
 obtain ⟨l1,l2⟩:=hL
 have l3:¬ (L:Int) < 1:=by omega
 have l4:¬ (8:Int) < (L:Int):=by omega
 clear e1 s1 m1 o1 h hB
 go_enter Tryz.func33,Tryz.ntmps33
 go_wp2_with (rw [H1.out];clear H1)
 have HS1:Hid (Below w.heap.size w W1):=HO.out.out
 go_loopw [21] (fun i w'=>∃ (j:Nat) (cs:List Dk.Cell),i=.int .i64 j∧j≤L∧Hid (Dk.firstBad ps=Dk.firstBad (ps.drop j))∧OneM w w' w.heap.size cs (fun _=>0) []∧Hid (cs.map Dk.Cell.q=(ps.take j).map (fun x=>Dk.Sp.fresh x.2))∧Hid (cs.map Dk.Cell.q0=(ps.take j).map (fun x=>Dk.Sp.fresh x.2))) (fun i w'=>L - (intOf i).toNat)
 case atStart=>exact ⟨0,[],rfl,by omega,rfl,HO.out,rfl,rfl⟩
 case round=>
  obtain ⟨j,cs,rfl,hj,hbad,hO,hq,hq0⟩:=hrel
  clear HO
  by_cases hlt:j < L
  ·have hlp:j < ps.length:=by rw [HP.out.len];exact hlt
   obtain ⟨x,hx⟩:∃ x,ps[j]? = some x:=⟨_,List.getElem?_eq_getElem hlp⟩
   have ed:ps.drop j=x::ps.drop (j+1):=by
    rw [List.drop_eq_getElem_cons hlp]
    rw [List.getElem?_eq_getElem hlp] at hx
    cases hx
    rfl
   have et:(ps.take (j+1)).map (fun x=>Dk.Sp.fresh x.2)=(ps.take j).map (fun x=>Dk.Sp.fresh x.2)++[Dk.Sp.fresh x.2]:=by
    rw [List.take_add_one,hx,List.map_append]
    rfl
   obtain ⟨b,o,ea,hb,hc⟩:=HP.out.cells (by omega)
   obtain ⟨hp,k0,k1,k2,k3,k4,k5,k6,k7⟩:=hc j x hx
   have u0:=hO.out
   have hB':=HB.out
   have hjc:cs.length=j:=by
    have h1:=congrArg List.length hq.out
    simp at h1
    omega
   obtain ⟨v,hM⟩:=hO
   obtain ⟨A1,C1,ev,_,_⟩:=Dk.zc (hM.row (e:=27) (s:=1) (v:=v) (m:=cs.length) (xs:=cs.map Dk.Cell.ptr) (by simp))
   subst ev
   obtain ⟨s,p⟩:=x
   have SB:∀ w',Below w.heap.size w w'→w'.cell? ⟨b,o+j*8,none⟩=some (.slice s.fA s.fL s.fC)∧w'.cell? ⟨b,o+j*8+1,none⟩=some (.int .i64 p.words)∧w'.cell? ⟨b,o+j*8+2,none⟩=some (.int .i64 p.mutexes)∧w'.cell? ⟨b,o+j*8+3,none⟩=some (.int .i64 p.conds)∧
     w'.cell? ⟨b,o+j*8+4,none⟩=some (.slice s.sA s.sL s.sC)∧w'.cell? ⟨b,o+j*8+5,none⟩=some (.slice s.pA s.pL s.pC)∧w'.cell? ⟨b,o+j*8+6,none⟩=some (.int .i64 p.blocks)∧w'.cell? ⟨b,o+j*8+7,none⟩=some (.int .i64 p.prio):=fun w' u=>by
    have hbw:b < w.heap.size:=by omega
    exact ⟨(u.cell hbw).trans k0,(u.cell hbw).trans k1,(u.cell hbw).trans k2,(u.cell hbw).trans k3,(u.cell hbw).trans k4,(u.cell hbw).trans k5,(u.cell hbw).trans k6,(u.cell hbw).trans k7⟩
   have i1:(j:Int) < (L:Int):=by omega
   have hbad':Dk.firstBad ps=if Dk.check p=0 then Dk.firstBad (ps.drop (j+1)) else Dk.check p:=by
    have h1:=hbad.out
    rw [ed] at h1
    exact h1
   have HJ:Hid (j+1≤L):=hlt
   have HET:Hid _:=et
   have HCJ:Hid (cs.length=j):=hjc
   have hcn:cs.length≤8:=by omega
   have hpr:=hp.below u0 hB'
   have hBr:B≤wr.heap.size:=Nat.le_trans hB' u0.size
   obtain ⟨c0,c1,c2,c3,c4,c5,c6,c7⟩:=SB wr u0
   obtain ⟨W2,e2⟩:∃ W2,W2=wr.alloc (.cells #[.slice s.fA s.fL s.fC,.int .i64 p.words,.int .i64 p.mutexes,.int .i64 p.conds,.slice s.sA s.sL s.sC,.slice s.pA s.pL s.pC,.int .i64 p.blocks,.int .i64 p.prio] 25):=⟨_,rfl⟩
   have u2:Below wr.heap.size wr W2:=by rw [e2];exact Dk.zb (Below.refl _ _) _
   have hM2:=hM.newBox e2
   have hp2:=hpr.below u2 hBr
   have hB2:B≤W2.heap.size:=Nat.le_trans hBr u2.size
   have cb:=(hM2.box (a:=wr.heap.size) (ce:=#[.slice s.fA s.fL s.fC,.int .i64 p.words,.int .i64 p.mutexes,.int .i64 p.conds,.slice s.sA s.sL s.sC,.slice s.pA s.pL s.pC,.int .i64 p.blocks,.int .i64 p.prio]) (e:=25) (by simp)).cell
   have H2:Hid _:=e2.symm
   by_cases hk:Dk.check p=0
   ·have K:=zl7 hM2 s p hp2 hB2 hk
    rw [if_pos hk] at hbad'
    have HBD:Hid _:=hbad'
    generalize hnn:cs.length=n at *
    clear k0 k1 k2 k3 k4 k5 k6 k7 hc hx hp ed et hM u0 hjc hM2 hp2 hB2 hk e2 u2 hpr hBr hbad hbad' SB hB' hb hlt hlp
    subst ea
    go_wp2_with (rw [H2.out];clear H2)
    refine K.mono ?_
    rintro e w3 ⟨M,rfl,hM3⟩
    clear K cb c0 c1 c2 c3 c4 c5 c6 c7
    obtain ⟨pss,hl,hs,hf⟩:=hM3.drop
    obtain ⟨v',w4,hrun,h4,_⟩:=Dk.Sep.appendK (us1:=[Dk.boxOf w.heap.size #[.slice A1 n C1] 152]) (us2:=pss.flatten) KSpP hs [.pointer (some ⟨M.b,0,none⟩)] rfl (by simp [Value.oneCell']) (by omega)
    obtain ⟨A2,C2,ev',_,_⟩:=Dk.zc (h4.row (e:=27) (s:=1) (v:=v') (n:=n+1) (xs:=cs.map Dk.Cell.ptr++[.pointer (some ⟨M.b,0,none⟩)]) (by simp))
    subst ev'
    have b4:Dk.Box w4 w.heap.size #[.slice A1 n C1] 152:=h4.box (by simp)
    have d4:w4.cell? ⟨w.heap.size,0,none⟩=some (.slice A1 n C1):=b4.cell 0
    have f4:=b4.frozen 0
    have d3:w3.cell? ⟨w.heap.size,0,none⟩=some (.slice A1 n C1):=(hs.box (b:=w.heap.size) (cs:=#[.slice A1 n C1]) (t:=152) (by simp)).cell 0
    have h5:=Dk.Sep.setBox (us1:=[]) (o:=0) h4 (.slice A2 (n+1) C2)
    have hO':OneM w (w4.setCell ⟨w.heap.size,0,none⟩ (.slice A2 (n+1) C2)) w.heap.size (cs++[⟨M,Dk.Sp.fresh p,Dk.Sp.fresh p⟩]) (fun _=>0) []:=by
     refine ⟨.slice A2 (n+1) C2,pss,hl,?_,hf⟩
     rw [List.length_append,List.map_append,hnn]
     exact h5
    have HO':Hid _:=hO'
    clear hO' h5 h4 b4 hf hs hl hM3
    go_wp2_with (at_builtin;refine Lib.wpList_append_run _ rfl _ _ _ _ rfl _ _ rfl rfl _ _ hrun ?_)
    go_roundw
    case rel=>exact ⟨j+1,_,by go_num,HJ.out,HBD.out,HO'.out,by rw [HET.out,List.map_append,hq.out];rfl,by rw [HET.out,List.map_append,hq0.out];rfl⟩
    case measure=>
     have:=HJ.out
     simp [intOf];omega
   ·have K:=NewC_no s p W2 hp2 hB2 hk
    rw [if_neg hk] at hbad'
    have HU:Hid (Below w.heap.size w W2):=hM2.out
    have hne:(Dk.check p != 0)=true:=by simp [hk]
    have HBD:Hid _:=hbad'
    have HK:Hid _:=hk
    clear k0 k1 k2 k3 k4 k5 k6 k7 hc hx hp ed et hM u0 hjc hM2 hp2 hB2 hk e2 u2 hpr hBr hbad hbad' SB hB' hb hlt hlp
    generalize Dk.check p=z at *
    subst ea
    go_wp2_with (rw [H2.out];clear H2)
    refine K.mono ?_
    rintro e w3 ⟨rfl,u3⟩
    clear K cb c0 c1 c2 c3 c4 c5 c6 c7
    go_wp2_with fail
    go_ret2
    have e1:=HBD.out
    exact Or.inl ⟨by rw [e1];exact HK.out,by rw [e1];rfl,Dk.zk HU.out u3⟩
  ·obtain rfl:j=L:=by omega
   have z1:decide ((j:Int) < (j:Int))=false:=decide_eq_false (by omega)
   have e1:ps.take j=ps:=List.take_of_length_le (by have:=HP.out.len;omega)
   have e2:ps.drop j=[]:=List.drop_of_length_le (by have:=HP.out.len;omega)
   have hq':=hq.out
   have hq0':=hq0.out
   have hbad':=hbad.out
   rw [e1] at hq' hq0'
   rw [e2] at hbad'
   have HF:Hid (Dk.firstBad ps=0∧∃ cs,OneM w wr w.heap.size cs (fun _=>0) []∧cs.map Dk.Cell.q=ps.map (fun x=>Dk.Sp.fresh x.2)∧cs.map Dk.Cell.q0=ps.map (fun x=>Dk.Sp.fresh x.2)):=⟨hbad',cs,hO,hq',hq0'⟩
   clear hq hq0 hbad hO hq' hq0' hbad' e1 e2
   go_wp2_with fail
   go_ret2
   obtain ⟨hz,cs',hO',hq',hq0'⟩:=HF.out
   exact Or.inr ⟨hz,_,cs',rfl,hO',hq',hq0'⟩
end
end Go.Proofs.YtglhhlfopccmaaaGreat
namespace Dk
open Go Go.RowKit
def owP:Prg:=⟨[[⟨32,1,0,0,0⟩]],0,0,0,[],[],0,0⟩
def ow0:Sp:=Sp.fresh owP
def ow1:Sp:=(ow0.run 0 0).1
theorem ow_check:check owP=0:=by decide +kernel
theorem ow_run:(ow0.run 0 0).2.2=0:=by decide +kernel
theorem ow_end:(ow0.tick.1).recs.length=0∧(ow1.tick.1).recs.length=1∧(ow1.tick.1).ready=[0]:=by decide +kernel
theorem owI_ok:∀ i ∈ ([⟨32,1,0,0,0⟩]:List Ins),i.ok:=by
 intro i hi
 simp at hi
 subst hi
 exact ⟨by unfold i64;decide,by unfold i64;decide,by unfold i64;decide,by unfold i64;decide,by decide⟩
def owS (n:Nat):Sh:=⟨some ⟨n,0,none⟩,1,1,none,0,0,none,0,0⟩
theorem owBad (s s':Sh):firstBad [(s,owP),(s',owP)]=0:=by simp [firstBad,ow_check]
theorem map_two {α β:Type} {f:α→β} {xs:List α} {a b:β} (h:xs.map f=[a,b]):∃ x y,xs=[x,y]∧f x=a∧f y=b:=by
 match xs,h with
 | [x,y],h=>simp at h;exact ⟨x,y,rfl,h.1,h.2⟩
end Dk
namespace Go.Proofs.YtglhhlfopccmaaaGreat
open Go.RowKit Go.Lib
theorem ow_prg (B n:Nat) (w:World) (hB:n+1 < B) (h1:∀ o,w.cell? ⟨n,o,none⟩=(#[.int .i64 32,.int .i64 1,.int .i64 0,.int .i64 0,.int .u64 0]:Array Value)[o]?)
  (h2:∀ o,w.cell? ⟨n+1,o,none⟩=(#[.slice (some ⟨n,0,none⟩) 1 1]:Array Value)[o]?):Dk.PrgAt B w (Dk.owS (n+1)) Dk.owP:=by
 have z:Dk.i64 0:=by unfold Dk.i64;decide
 refine ⟨⟨rfl,Nat.le_refl _,by unfold maxLen;show 1≤_;decide,fun _=>⟨n+1,0,rfl,hB,fun k hk=>?_⟩⟩,⟨rfl,Nat.le_refl _,Nat.zero_le _,by simp [Dk.owP],fun h=>absurd h (Nat.lt_irrefl 0)⟩,⟨rfl,Nat.le_refl _,Nat.zero_le _,by simp [Dk.owP],fun h=>absurd h (Nat.lt_irrefl 0)⟩,z,z,z,z,z⟩
 have hk0:k=0:=by have:k < 1:=hk;omega
 subst hk0
 refine ⟨some ⟨n,0,none⟩,1,1,by rw [h2];rfl,rfl,Nat.le_refl _,by unfold maxLen;decide,Dk.owI_ok,fun _=>⟨n,0,rfl,by omega,fun j hj=>?_⟩⟩
 match j,hj with
 | 0,_=>exact ⟨h1 _,h1 _,h1 _,h1 _,h1 _⟩
theorem zfb (w:World):Calls Tryz.prog 34 #[] w fun e w'=>e=.returned (.bool true)∧Below w.heap.size w w':=by
 obtain ⟨W1,e1⟩:∃ W1,W1=w.alloc (.cells #[.int .i64 32,.int .i64 1,.int .i64 0,.int .i64 0,.int .u64 0] 112):=⟨_,rfl⟩
 obtain ⟨W2,e2⟩:∃ W2,W2=W1.alloc (.cells #[.slice (some ⟨w.heap.size,0,none⟩) 1 1] 123):=⟨_,rfl⟩
 obtain ⟨W3,e3⟩:∃ W3,W3=W2.alloc (.cells #[.slice (some ⟨w.heap.size+1,0,none⟩) 1 1,.int .i64 0,.int .i64 0,.int .i64 0,.slice none 0 0,.slice none 0 0,.int .i64 0,.int .i64 0] 25):=⟨_,rfl⟩
 obtain ⟨W4,e4⟩:∃ W4,W4=W3.alloc (.cells #[.slice (some ⟨w.heap.size+1,0,none⟩) 1 1,.int .i64 0,.int .i64 0,.int .i64 0,.slice none 0 0,.slice none 0 0,.int .i64 0,.int .i64 0,.slice (some ⟨w.heap.size+1,0,none⟩) 1 1,.int .i64 0,.int .i64 0,.int .i64 0,.slice none 0 0,.slice none 0 0,.int .i64 0,.int .i64 0] 25):=⟨_,rfl⟩
 have z1:W1.heap.size=w.heap.size+1:=by rw [e1];simp
 have z2:W2.heap.size=w.heap.size+1+1:=by rw [e2];simp [z1]
 have z3:W3.heap.size=w.heap.size+1+1+1:=by rw [e3];simp [z2]
 have z4:W4.heap.size=w.heap.size+1+1+1+1:=by rw [e4];simp [z3]
 have s3:=(((Dk.Sep.begin (Below.refl w.heap.size w)).newBox e1).newBox e2).newBox e3
 have s4:=s3.newBox e4
 rw [z1,z2] at s3
 rw [z1,z2,z3] at s4
 have d3:=(s3.box (b:=w.heap.size+1+1) (cs:=#[.slice (some ⟨w.heap.size+1,0,none⟩) 1 1,.int .i64 0,.int .i64 0,.int .i64 0,.slice none 0 0,.slice none 0 0,.int .i64 0,.int .i64 0]) (t:=25) (by simp)).cell
 have d1:=(s4.box (b:=w.heap.size) (cs:=#[.int .i64 32,.int .i64 1,.int .i64 0,.int .i64 0,.int .u64 0]) (t:=112) (by simp)).cell
 have d2:=(s4.box (b:=w.heap.size+1) (cs:=#[.slice (some ⟨w.heap.size,0,none⟩) 1 1]) (t:=123) (by simp)).cell
 have d4:=(s4.box (b:=w.heap.size+1+1+1) (cs:=#[.slice (some ⟨w.heap.size+1,0,none⟩) 1 1,.int .i64 0,.int .i64 0,.int .i64 0,.slice none 0 0,.slice none 0 0,.int .i64 0,.int .i64 0,.slice (some ⟨w.heap.size+1,0,none⟩) 1 1,.int .i64 0,.int .i64 0,.int .i64 0,.slice none 0 0,.slice none 0 0,.int .i64 0,.int .i64 0]) (t:=25) (by simp)).cell
 have hp:Dk.PrgAt W4.heap.size W4 (Dk.owS (w.heap.size+1)) Dk.owP:=ow_prg _ _ _ (by omega) d1 d2
 have hS:Dk.SlP W4.heap.size W4 (some ⟨w.heap.size+1+1+1,0,none⟩) 2 2 [(Dk.owS (w.heap.size+1),Dk.owP),(Dk.owS (w.heap.size+1),Dk.owP)]:=by
  refine ⟨rfl,Nat.le_refl _,by unfold maxLen;decide,fun _=>⟨_,0,rfl,by omega,fun k x hx=>?_⟩⟩
  match k,hx with
  | 0,hx=>cases hx;exact ⟨hp,d4 _,d4 _,d4 _,d4 _,d4 _,d4 _,d4 _,d4 _⟩
  | 1,hx=>cases hx;exact ⟨hp,d4 _,d4 _,d4 _,d4 _,d4 _,d4 _,d4 _,d4 _⟩
 have K:=NewO_t W4 hS (Nat.le_refl _) ⟨by omega,by omega⟩
 rw [Dk.owBad] at K
 have HU:Hid (Below w.heap.size w W4):=s4.out
 have H1:Hid _:=e1.symm
 have H2:Hid _:=e2.symm
 have H3:Hid _:=e3.symm
 have H4:Hid _:=e4.symm
 clear e1 e2 e3 e4 s3 s4 z4 d1 d2 d4 hp hS
 go_enter Tryz.func34,Tryz.ntmps34
 go_wp2_with (first | (rw [H1.out];clear H1) | (rw [H2.out];clear H2) | (rw [H3.out];clear H3) | (rw [H4.out];clear H4))
 refine K.mono ?_
 rintro e w5 (⟨hz,_⟩ | ⟨_,b,cs,rfl,hO,hq,_⟩)
 ·exact absurd rfl hz
 obtain ⟨c0,c1,rfl,q0,q1⟩:=Dk.map_two hq
 have q0':c0.q=Dk.ow0:=q0
 have q1':c1.q=Dk.ow0:=q1
 clear K hq q0 q1 d3 z1 z2 z3
 have K:=zgz hO 0 0 1 c1 rfl (by omega) (i64_of _ (by omega))
 have K':Calls Tryz.prog 36 #[.pointer (some ⟨b,0,none⟩),.agg #[.int .i64 1,.int .i64 1,.int .i64 0,.int .i64 0]] w5 fun e w'=>e=.returned (.int .i64 0)∧OneM W4 w' b [c0,c1.go Dk.ow1] (Dk.upd (fun _=>0) 1 1) []:=by
  rw [q1',Dk.ow_run] at K
  exact K
 clear K hO
 go_wp2_with fail
 refine K'.mono ?_
 rintro e w6 ⟨rfl,hO⟩
 clear K'
 have K:=zjg hO 2 0 0 (.inr (by simp))
 go_wp2_with fail
 refine K.mono ?_
 rintro e w7 ⟨rfl,hO7⟩
 clear K hO
 have hlev:∀ i,Dk.upd (fun _=>0) 1 1 i≤1:=fun i=>by unfold Dk.upd;split <;> simp
 have K:=DoTick hO7 9 0 0 (fun i=>by have:=hlev i;omega) (by simp)
 obtain ⟨f0,f1,f2⟩:=Dk.ow_end
 obtain ⟨a0,ha0⟩:∃ a,a=c0.tick:=⟨_,rfl⟩
 obtain ⟨a1,ha1⟩:∃ a,a=(c1.go Dk.ow1).tick:=⟨_,rfl⟩
 have g0:a0.q.recs.length=0:=by rw [ha0];unfold Dk.Cell.tick Dk.Cell.go;rw [q0'];exact f0
 have g1:a1.q.recs.length=1:=by rw [ha1];exact f1
 have g2:a1.q.ready=[0]:=by rw [ha1];exact f2
 have K':Calls Tryz.prog 36 #[.pointer (some ⟨b,0,none⟩),.agg #[.int .i64 3,.int .i64 9,.int .i64 0,.int .i64 0]] w7 fun e w'=>e=.returned (.int .i64 0)∧OneM W4 w' b [a0,a1] (fun i=>Dk.upd (fun _=>0) 1 1 i+1) []:=by
  rw [ha0,ha1]
  exact K
 clear K hO7 ha0 ha1 f0 f1 f2 q0' q1'
 go_wp2_with fail
 refine K'.mono ?_
 rintro e w8 ⟨rfl,hO⟩
 clear K'
 have K:=zb0 hO (k:=0) (c:=a0) rfl (by have:=hlev 0;omega)
 rw [g0] at K
 generalize a0.q.recs.flatMap Dk.Rec.cells=x0 at K
 go_wp2_with fail
 refine K.mono ?_
 rintro e w9 ⟨A9,C9,rfl,h9⟩
 clear K hO
 have K:=zb0 h9 (k:=1) (c:=a1) rfl (by have:=hlev 1;omega)
 rw [g1] at K
 generalize a1.q.recs.flatMap Dk.Rec.cells=x1 at K
 go_wp2_with fail
 refine K.mono ?_
 rintro e w10 ⟨A10,C10,rfl,h10⟩
 clear K h9
 have K:=ze9 h10 (k:=1) (c:=a1) rfl
 rw [g2] at K
 go_wp2_with fail
 refine K.mono ?_
 rintro e w11 ⟨A11,C11,rfl,h11⟩
 clear K h10
 have o11:=h11.row (e:=3) (s:=1) (v:=.slice A11 1 C11) (m:=1) (xs:=Dk.is [0]) (by simp)
 obtain ⟨A8,C8,ev8,q8⟩:=Dk.zbg (xs:=[0]) o11 (by simp [Dk.i64])
 injection ev8 with ea2 eb2 ec2
 subst ea2 ec2
 have q8':Dk.SlI w11.heap.size w11 A11 1 C11 [0]:=q8
 obtain ⟨w13,e13⟩:∃ w13,w13=w11.alloc (.cells #[.int .i64 0] 3):=⟨_,rfl⟩
 have u13:Below w11.heap.size w11 w13:=by rw [e13];exact Dk.zb (Below.refl _ _) _
 have K13:=zd7 A11 (some ⟨w11.heap.size,0,none⟩) 1 C11 1 [0] w13 ((q8'.below u13 (Nat.le_refl _)).more u13.size) (lit_one w11 w13 0 (i64_of _ (by omega)) e13)
 have H13:Hid _:=e13.symm
 have HU13:Hid (Below W4.heap.size W4 w13):=Dk.zk h11.out u13
 clear e13 u13 o11 q8 q8' eb2 h11
 go_wp2_with (rw [H13.out];clear H13)
 refine K13.mono ?_
 rintro e w14 ⟨rfl,u14⟩
 have u15:=Dk.zk HU.out (Dk.zk HU13.out u14)
 have HU15:Hid (Below w.heap.size w w14):=u15
 clear u14 u15 K13
 go_wp2_with fail
 go_ret
 exact ⟨rfl,HU15.out⟩
end Go.Proofs.YtglhhlfopccmaaaGreat
namespace Dk
open Go Go.RowKit Go.Deep Go.ChangeShapes Go.WideShapes
def IsPrg (w:World) (vs:List Value) (x:Sh × Prg):Prop:=PrgAt w.heap.size w x.1 x.2∧vs=[.slice x.1.fA x.1.fL x.1.fC,.int .i64 x.2.words,.int .i64 x.2.mutexes,.int .i64 x.2.conds,.slice x.1.sA x.1.sL x.1.sC,.slice x.1.pA x.1.pL x.1.pC,.int .i64 x.2.blocks,.int .i64 x.2.prio]
theorem row_slp {w:World} {d:Sh × Prg} {A:Option Addr} {L C:Nat} {xs:List (Sh × Prg)} (h:Row 8 d (IsPrg w) w.heap.size w A L C xs):SlP w.heap.size w A L C xs:=by
 refine ⟨h.len,h.cap,h.max,fun h0=>?_⟩
 obtain ⟨b,o,e,hb,hc⟩:=h.cells h0
 refine ⟨b,o,e,hb,fun k x hx=>?_⟩
 have hk:k < L:=by rw [← h.len];exact (List.getElem?_eq_some_iff.1 hx).1
 obtain ⟨vs,_,hR,h3⟩:=hc k hk
 have ex:xs.getD k d=x:=by rw [List.getD_eq_getElem?_getD,hx];rfl
 rw [ex] at hR
 obtain ⟨hp,rfl⟩:=hR
 exact ⟨hp,h3 0 (by omega),h3 1 (by omega),h3 2 (by omega),h3 3 (by omega),h3 4 (by omega),h3 5 (by omega),h3 6 (by omega),h3 7 (by omega)⟩
section
variable {H : Type} {enc : TypeId × Value → H} {P : Go.Program} {w : World} {held : Bool}
theorem el_prg {t tF tS tN tI tU tX:TypeId} {g0 g1 g2 g3 g4 g5 g6 g7 f0 f1 f2 f3 f4:Field} (ht:P.underlying t=some (.struct #[g0,g1,g2,g3,g4,g5,g6,g7])) (ct:P.cellsOf t=8)
  (hF:P.underlying tF=some (.slice tS)) (cF:P.cellsOf tF=1) (cS:P.cellsOf tS=1) (hS:P.underlying tS=some (.slice tN)) (hN:P.underlying tN=some (.struct #[f0,f1,f2,f3,f4])) (cN:P.cellsOf tN=5)
  (hI:P.underlying tI=some (.int .i64)) (hU:P.underlying tU=some (.int .u64)) (cI:P.cellsOf tI=1) (cU:P.cellsOf tU=1) (hX:P.underlying tX=some (.slice tI)) (cX:P.cellsOf tX=1)
  (z0:g0.type=tF∧g0.offset=0) (z1:g1.type=tI∧g1.offset=1) (z2:g2.type=tI∧g2.offset=2) (z3:g3.type=tI∧g3.offset=3) (z4:g4.type=tX∧g4.offset=4) (z5:g5.type=tX∧g5.offset=5) (z6:g6.type=tI∧g6.offset=6) (z7:g7.type=tI∧g7.offset=7)
  (y0:f0.type=tI∧f0.offset=0) (y1:f1.type=tI∧f1.offset=1) (y2:f2.type=tI∧f2.offset=2) (y3:f3.type=tI∧f3.offset=3) (y4:f4.type=tU∧f4.offset=4):∀ fuel cs (x:DataW H × List MemPlace),DataW.trod enc P w 0 (fun _=>true) held fuel t cs=some x→∃ a,IsPrg w cs a:=by
 intro fuel cs x h
 obtain ⟨xs,n,_,_,hl,hxl,hf⟩:=DataW.trod_struct ht h
 rw [ct] at hl
 match cs,hl,xs,hxl with
 | [v0,v1,v2,v3,v4,v5,v6,v7],_,[x0,x1,x2,x3,x4,x5,x6,x7],_=>
  have k0:=hf 0 g0 rfl
  have k1:=hf 1 g1 rfl
  have k2:=hf 2 g2 rfl
  have k3:=hf 3 g3 rfl
  have k4:=hf 4 g4 rfl
  have k5:=hf 5 g5 rfl
  have k6:=hf 6 g6 rfl
  have k7:=hf 7 g7 rfl
  rw [z0.1,z0.2,cF] at k0
  rw [z1.1,z1.2,cI] at k1
  rw [z2.1,z2.2,cI] at k2
  rw [z3.1,z3.2,cI] at k3
  rw [z4.1,z4.2,cX] at k4
  rw [z5.1,z5.2,cX] at k5
  rw [z6.1,z6.2,cI] at k6
  rw [z7.1,z7.2,cI] at k7
  simp at k0 k1 k2 k3 k4 k5 k6 k7
  obtain ⟨A,L,C,fs,e0,hfs⟩:=openF hF cS hS hN hI hU cI cU cN y0 y1 y2 y3 y4 k0
  obtain ⟨m1,e1,_,w1⟩:=DataW.trod_int hI k1
  obtain ⟨m2,e2,_,w2⟩:=DataW.trod_int hI k2
  obtain ⟨m3,e3,_,w3⟩:=DataW.trod_int hI k3
  obtain ⟨A4,L4,C4,xs4,e4,h4⟩:=openI hX hI cI k4
  obtain ⟨A5,L5,C5,xs5,e5,h5⟩:=openI hX hI cI k5
  obtain ⟨m6,e6,_,w6⟩:=DataW.trod_int hI k6
  obtain ⟨m7,e7,_,w7⟩:=DataW.trod_int hI k7
  simp at e0 e1 e2 e3 e4 e5 e6 e7
  exact ⟨(⟨A,L,C,A4,L4,C4,A5,L5,C5⟩,⟨fs,m1,m2,m3,xs4,xs5,m6,m7⟩),⟨hfs,h4,h5,wf_i64 w1,wf_i64 w2,wf_i64 w3,wf_i64 w6,wf_i64 w7⟩,by rw [e0,e1,e2,e3,e4,e5,e6,e7]⟩
end
end Dk
