import Derived.Test.YtglhhlfopccmaaaGreatOw17
import Derived.Deep.RegionLaw
import Derived.Shelf.RegionOpenPlain
import Derived.Lib.Walk
import Derived.Sort.WalkB12
import Derived.Lib.SliceRun
set_option linter.unusedSimpArgs false
set_option linter.unusedVariables false
set_option linter.unnecessarySimpa false
set_option maxHeartbeats 8000000
set_option maxRecDepth 100000
namespace Go.Proofs.YtglhhlfopccmaaaGreat
open Go.RowKit Go.Lib
theorem zb2 {P:Program} (w:World) (t e ty:TypeId) (z:Value) (zs:List Value) (ht:P.underlying t=some (.slice e)) (hv:∀ w,(zeroValue e).run P w=.ok z w) (hz:(Builtin.zeroCells z.cells 1).toList=zs) (h1:∀ u ∈ zs,u.oneCell'=true) (b o c:Nat)
  (hc:∀ j,j < zs.length→(w.cell? ⟨b,o+j,none⟩).isSome=true) (hf:∀ j,j < zs.length→w.frozen? ⟨b,o+j,none⟩=false) :
  (Builtin.clear_ #[t] ty #[.slice (some ⟨b,o,none⟩) 1 c]).run P w=.ok (.tuple #[]) (w.setCells b o zs):=by
 have hst:=run_storeCells_cells (P:=P) b o zs 0 w (by simpa using hc) (by simpa using hf) h1
 simp only [Nat.add_zero] at hst
 simp [Builtin.clear_,run_underlying ht,hv,hz,hst]
theorem zcy {w:World} {base b n cap s:Nat} {cur:Array Value} {t:TypeId} {vs:List Value} (h:Dk.Box w b cur t) (hb:base≤b) (hc:cur.size=cap*s) (hm:cap≤maxLen) (hn:vs.length=n*s) (hl:n≤cap) (hv:∀ j,j < n*s→cur[j]? = vs[j]?):w.ownsRow base t s (.slice (some ⟨b,0,none⟩) n cap) n vs:=by
 refine ⟨hn,.inr ⟨b,cap,cur,rfl,hb,h.heap,hl,hm,hc,?_⟩⟩
 apply List.ext_getElem?
 intro j
 rw [List.getElem?_take]
 by_cases hj:j < n*s
 ·rw [if_pos hj,Array.getElem?_toList];exact hv j hj
 ·rw [if_neg hj,List.getElem?_eq_none (by omega)]
theorem info27T:(Tryz.prog.info? 38).map (fun i=>(i.zero,i.size,i.bytes))=some (some (.int .u64 0),1,8):=by kernel_rfl
theorem info52:(Tryz.prog.info? 298).map (fun i=>(i.zero,i.size,i.bytes))=some (some (.agg #[.int .i64 0,.int .u64 0]),2,16):=by kernel_rfl
theorem zi6 (B:Nat) (v:Value) (c0 cs:List Value) (n:Nat) (w:World) (h:w.ownsRow B 3 1 v (n+1) (c0++cs)) (h0:c0.length=1) (h1:∀ u ∈ cs,u.oneCell'=true) :
  Calls Tryz.prog 240 #[v,.int .i64 0,.int .i64 1] w fun e w'=>∃ v',e=.returned v'∧w'.ownsRow B 3 1 v' n cs∧w.grownBy w' v.ownBlock∧v'.ownBlock=v.ownBlock:=by
 obtain ⟨hl,⟨_,h2⟩ | ⟨g,cap,cur,rfl,hb,hg,hn,hm,hs,ht⟩⟩:=id h
 ·omega
 have hcl:cs.length=n*1:=by rw [List.length_append] at hl;omega
 have hbx:Dk.Box w g cur 3:=⟨hg⟩
 have hm':=hm
 unfold maxLen at hm'
 obtain ⟨i0,hi0,hz0,hz1,hz2⟩:=info_parts info3
 have hcur:∀ j u,cs[j]? = some u→cur[1+j]? = some u:=fun j u hj=>by
  have hj':j < cs.length:=(List.getElem?_eq_some_iff.1 hj).1
  have e1:(c0++cs)[1+j]? = some u:=by rw [List.getElem?_append_right (by omega),h0,Nat.add_sub_cancel_left];exact hj
  rw [← ht,List.getElem?_take,if_pos (by omega),Array.getElem?_toList] at e1
  exact e1
 obtain ⟨A,hA,hsrc⟩:∃ A:Addr,(if cap=1 then some (⟨g,0,none⟩:Addr) else some ⟨g,1,none⟩)=some A∧Hid (∀ t u,cs[t]? = some u→w.drew.cell? (A.add t)=some u):=by
  by_cases h:cap=1
  ·refine ⟨⟨g,0,none⟩,by simp [h],fun t u hu=>?_⟩
   have:=(List.getElem?_eq_some_iff.1 hu).1
   omega
  ·refine ⟨⟨g,1,none⟩,by simp [h],fun t u hu=>?_⟩
   rw [Addr.add_lit,hbx.drew.cell]
   exact hcur t u hu
 have s1:Hid (cs.length=n*1):=hcl
 have s2:Hid (∀ u ∈ cs,u.oneCell'=true):=h1
 have s3:Hid (∀ t,t < cs.length→(w.drew.cell? ⟨g,0+0*1+t,none⟩).isSome=true∧w.drew.frozen? ⟨g,0+0*1+t,none⟩=false):=by
  intro t ht
  refine ⟨?_,hbx.drew.frozen _⟩
  rw [hbx.drew.cell,Array.getElem?_eq_getElem (by omega)]
  rfl
 obtain ⟨W1,hW1⟩:∃ W1,W1=w.drew.setCells g (0+0*1) cs:=⟨_,rfl⟩
 have b1:Dk.Box W1 g (Dk.putAt cur (0+0*1) cs) 3:=by rw [hW1];exact Dk.Box.sets (w:=w) cs cur _ _ hbx.drew
 have g1:w.grownBy W1 (some g):=by rw [hW1];exact Dk.zao (w':=w) _ _ _ (Dk.zb5 (Dk.zh (Below.refl _ _)))
 have hclr:∀ ty,(Builtin.clear_ #[23] ty #[.slice (some ⟨g,n,none⟩) 1 (cap - n)]).run Tryz.prog W1=.ok (.tuple #[]) (W1.setCells g (n) [.int .i64 0]):=
  fun ty=>zb2 W1 23 3 ty (.int .i64 0) [.int .i64 0] Tryz.underlying23 Tryz.zeroValue3 (by simp [Builtin.zeroCells,Value.cells] <;> rfl) (by intro u hu;simp only [List.mem_cons,List.not_mem_nil,or_false] at hu;first | (subst hu;rfl) | (rcases hu with rfl | rfl <;> rfl)) g (n) _ (fun j hj=>by
   simp only [List.length_cons,List.length_nil] at hj
   rw [b1.cell,Array.getElem?_eq_getElem (by rw [Dk.zy];omega)]
   rfl) (fun j hj=>b1.frozen _)
 have fin:(W1.setCells g (n) [.int .i64 0]).ownsRow B 3 1 (.slice (some ⟨g,0,none⟩) n cap) n cs∧w.grownBy (W1.setCells g (n) [.int .i64 0]) (some g):=by
  refine ⟨zcy (Dk.Box.sets (w:=w) _ _ _ _ b1) hb (by rw [Dk.zy,Dk.zy];exact hs) hm hcl (by omega) ?_,Dk.zao (w':=w) _ _ _ g1⟩
  intro j hj
  rw [Dk.zaz _ _ _ (by rw [Dk.zy];simp;omega),if_neg (by omega),Dk.zaz _ _ _ (by omega),if_pos (by omega)]
  first | done | (congr 1 <;> omega)
 have HF:Hid _:=fin
 have hW:Hid (W1=w.drew.setCells g (0+0*1) cs):=hW1
 have hic:n+1≤cap:=hn
 have hnc:n≤cap:=by omega
 have mixed:Tryz.prog.follows Departure.mixedOrders=true:=by kernel_rfl
 have hn1:(1:Int)≤(n:Int)+1:=by omega
 clear fin hW1 b1 g1 hcur hbx ht hs hg hm hl h h0 h1 hcl
 go_enter Tryz.func240,Tryz.ntmps240
 go_wp2_with fail
 go_region_law_o (refine step_append_room rfl (.tmp 22) (.tmp 25) 23 rfl 3 i0 1 Tryz.underlying23 hi0 hz1 g 0 0 cap (by simp [Act.eval,Act.put]) A n (cap - 1) cs (by simp [Act.eval,Act.put]) s1.out hsrc.out s2.out (by omega) s3.out ?_;rw [← hW.out])
 go_wp2
 go_ret
 exact ⟨_,rfl,HF.out.1,HF.out.2,rfl⟩
theorem zhz (B:Nat) (v:Value) (c0 cs:List Value) (n:Nat) (w:World) (h:w.ownsRow B 38 1 v (n+1) (c0++cs)) (h0:c0.length=1) (h1:∀ u ∈ cs,u.oneCell'=true) :
  Calls Tryz.prog 241 #[v,.int .i64 0,.int .i64 1] w fun e w'=>∃ v',e=.returned v'∧w'.ownsRow B 38 1 v' n cs∧w.grownBy w' v.ownBlock∧v'.ownBlock=v.ownBlock:=by
 obtain ⟨hl,⟨_,h2⟩ | ⟨g,cap,cur,rfl,hb,hg,hn,hm,hs,ht⟩⟩:=id h
 ·omega
 have hcl:cs.length=n*1:=by rw [List.length_append] at hl;omega
 have hbx:Dk.Box w g cur 38:=⟨hg⟩
 have hm':=hm
 unfold maxLen at hm'
 obtain ⟨i0,hi0,hz0,hz1,hz2⟩:=info_parts info27T
 have hcur:∀ j u,cs[j]? = some u→cur[1+j]? = some u:=fun j u hj=>by
  have hj':j < cs.length:=(List.getElem?_eq_some_iff.1 hj).1
  have e1:(c0++cs)[1+j]? = some u:=by rw [List.getElem?_append_right (by omega),h0,Nat.add_sub_cancel_left];exact hj
  rw [← ht,List.getElem?_take,if_pos (by omega),Array.getElem?_toList] at e1
  exact e1
 obtain ⟨A,hA,hsrc⟩:∃ A:Addr,(if cap=1 then some (⟨g,0,none⟩:Addr) else some ⟨g,1,none⟩)=some A∧Hid (∀ t u,cs[t]? = some u→w.drew.cell? (A.add t)=some u):=by
  by_cases h:cap=1
  ·refine ⟨⟨g,0,none⟩,by simp [h],fun t u hu=>?_⟩
   have:=(List.getElem?_eq_some_iff.1 hu).1
   omega
  ·refine ⟨⟨g,1,none⟩,by simp [h],fun t u hu=>?_⟩
   rw [Addr.add_lit,hbx.drew.cell]
   exact hcur t u hu
 have s1:Hid (cs.length=n*1):=hcl
 have s2:Hid (∀ u ∈ cs,u.oneCell'=true):=h1
 have s3:Hid (∀ t,t < cs.length→(w.drew.cell? ⟨g,0+0*1+t,none⟩).isSome=true∧w.drew.frozen? ⟨g,0+0*1+t,none⟩=false):=by
  intro t ht
  refine ⟨?_,hbx.drew.frozen _⟩
  rw [hbx.drew.cell,Array.getElem?_eq_getElem (by omega)]
  rfl
 obtain ⟨W1,hW1⟩:∃ W1,W1=w.drew.setCells g (0+0*1) cs:=⟨_,rfl⟩
 have b1:Dk.Box W1 g (Dk.putAt cur (0+0*1) cs) 38:=by rw [hW1];exact Dk.Box.sets (w:=w) cs cur _ _ hbx.drew
 have g1:w.grownBy W1 (some g):=by rw [hW1];exact Dk.zao (w':=w) _ _ _ (Dk.zb5 (Dk.zh (Below.refl _ _)))
 have hclr:∀ ty,(Builtin.clear_ #[55] ty #[.slice (some ⟨g,n,none⟩) 1 (cap - n)]).run Tryz.prog W1=.ok (.tuple #[]) (W1.setCells g (n) [.int .u64 0]):=
  fun ty=>zb2 W1 55 38 ty (.int .u64 0) [.int .u64 0] Tryz.underlying55 Tryz.zeroValue38 (by simp [Builtin.zeroCells,Value.cells] <;> rfl) (by intro u hu;simp only [List.mem_cons,List.not_mem_nil,or_false] at hu;first | (subst hu;rfl) | (rcases hu with rfl | rfl <;> rfl)) g (n) _ (fun j hj=>by
   simp only [List.length_cons,List.length_nil] at hj
   rw [b1.cell,Array.getElem?_eq_getElem (by rw [Dk.zy];omega)]
   rfl) (fun j hj=>b1.frozen _)
 have fin:(W1.setCells g (n) [.int .u64 0]).ownsRow B 38 1 (.slice (some ⟨g,0,none⟩) n cap) n cs∧w.grownBy (W1.setCells g (n) [.int .u64 0]) (some g):=by
  refine ⟨zcy (Dk.Box.sets (w:=w) _ _ _ _ b1) hb (by rw [Dk.zy,Dk.zy];exact hs) hm hcl (by omega) ?_,Dk.zao (w':=w) _ _ _ g1⟩
  intro j hj
  rw [Dk.zaz _ _ _ (by rw [Dk.zy];simp;omega),if_neg (by omega),Dk.zaz _ _ _ (by omega),if_pos (by omega)]
  first | done | (congr 1 <;> omega)
 have HF:Hid _:=fin
 have hW:Hid (W1=w.drew.setCells g (0+0*1) cs):=hW1
 have hic:n+1≤cap:=hn
 have hnc:n≤cap:=by omega
 have mixed:Tryz.prog.follows Departure.mixedOrders=true:=by kernel_rfl
 have hn1:(1:Int)≤(n:Int)+1:=by omega
 clear fin hW1 b1 g1 hcur hbx ht hs hg hm hl h h0 h1 hcl
 go_enter Tryz.func241,Tryz.ntmps241
 go_wp2_with fail
 go_region_law_o (refine step_append_room rfl (.tmp 22) (.tmp 25) 55 rfl 38 i0 1 Tryz.underlying55 hi0 hz1 g 0 0 cap (by simp [Act.eval,Act.put]) A n (cap - 1) cs (by simp [Act.eval,Act.put]) s1.out hsrc.out s2.out (by omega) s3.out ?_;rw [← hW.out])
 go_wp2
 go_ret
 exact ⟨_,rfl,HF.out.1,HF.out.2,rfl⟩
theorem zhy (B:Nat) (v:Value) (c0 cs:List Value) (n:Nat) (w:World) (h:w.ownsRow B 298 2 v (n+1) (c0++cs)) (h0:c0.length=2) (h1:∀ u ∈ cs,u.oneCell'=true) :
  Calls Tryz.prog 242 #[v,.int .i64 0,.int .i64 1] w fun e w'=>∃ v',e=.returned v'∧w'.ownsRow B 298 2 v' n cs∧w.grownBy w' v.ownBlock∧v'.ownBlock=v.ownBlock:=by
 obtain ⟨hl,⟨_,h2⟩ | ⟨g,cap,cur,rfl,hb,hg,hn,hm,hs,ht⟩⟩:=id h
 ·omega
 have hcl:cs.length=n*2:=by rw [List.length_append] at hl;omega
 have hbx:Dk.Box w g cur 298:=⟨hg⟩
 have hm':=hm
 unfold maxLen at hm'
 obtain ⟨i0,hi0,hz0,hz1,hz2⟩:=info_parts info52
 have hcur:∀ j u,cs[j]? = some u→cur[2+j]? = some u:=fun j u hj=>by
  have hj':j < cs.length:=(List.getElem?_eq_some_iff.1 hj).1
  have e1:(c0++cs)[2+j]? = some u:=by rw [List.getElem?_append_right (by omega),h0,Nat.add_sub_cancel_left];exact hj
  rw [← ht,List.getElem?_take,if_pos (by omega),Array.getElem?_toList] at e1
  exact e1
 obtain ⟨A,hA,hsrc⟩:∃ A:Addr,(if cap=1 then some (⟨g,0,none⟩:Addr) else some ⟨g,2,none⟩)=some A∧Hid (∀ t u,cs[t]? = some u→w.drew.cell? (A.add t)=some u):=by
  by_cases h:cap=1
  ·refine ⟨⟨g,0,none⟩,by simp [h],fun t u hu=>?_⟩
   have:=(List.getElem?_eq_some_iff.1 hu).1
   omega
  ·refine ⟨⟨g,2,none⟩,by simp [h],fun t u hu=>?_⟩
   rw [Addr.add_lit,hbx.drew.cell]
   exact hcur t u hu
 have s1:Hid (cs.length=n*2):=hcl
 have s2:Hid (∀ u ∈ cs,u.oneCell'=true):=h1
 have s3:Hid (∀ t,t < cs.length→(w.drew.cell? ⟨g,0+0*2+t,none⟩).isSome=true∧w.drew.frozen? ⟨g,0+0*2+t,none⟩=false):=by
  intro t ht
  refine ⟨?_,hbx.drew.frozen _⟩
  rw [hbx.drew.cell,Array.getElem?_eq_getElem (by omega)]
  rfl
 obtain ⟨W1,hW1⟩:∃ W1,W1=w.drew.setCells g (0+0*2) cs:=⟨_,rfl⟩
 have b1:Dk.Box W1 g (Dk.putAt cur (0+0*2) cs) 298:=by rw [hW1];exact Dk.Box.sets (w:=w) cs cur _ _ hbx.drew
 have g1:w.grownBy W1 (some g):=by rw [hW1];exact Dk.zao (w':=w) _ _ _ (Dk.zb5 (Dk.zh (Below.refl _ _)))
 have hclr:∀ ty,(Builtin.clear_ #[177] ty #[.slice (some ⟨g,n*2,none⟩) 1 (cap - n)]).run Tryz.prog W1=.ok (.tuple #[]) (W1.setCells g (n*2) [.int .i64 0,.int .u64 0]):=
  fun ty=>zb2 W1 177 298 ty (.agg #[.int .i64 0,.int .u64 0]) [.int .i64 0,.int .u64 0] Tryz.underlying177 Tryz.zeroValue298 (by simp [Builtin.zeroCells,Value.cells] <;> rfl) (by intro u hu;simp only [List.mem_cons,List.not_mem_nil,or_false] at hu;first | (subst hu;rfl) | (rcases hu with rfl | rfl <;> rfl)) g (n*2) _ (fun j hj=>by
   simp only [List.length_cons,List.length_nil] at hj
   rw [b1.cell,Array.getElem?_eq_getElem (by rw [Dk.zy];omega)]
   rfl) (fun j hj=>b1.frozen _)
 have fin:(W1.setCells g (n*2) [.int .i64 0,.int .u64 0]).ownsRow B 298 2 (.slice (some ⟨g,0,none⟩) n cap) n cs∧w.grownBy (W1.setCells g (n*2) [.int .i64 0,.int .u64 0]) (some g):=by
  refine ⟨zcy (Dk.Box.sets (w:=w) _ _ _ _ b1) hb (by rw [Dk.zy,Dk.zy];exact hs) hm hcl (by omega) ?_,Dk.zao (w':=w) _ _ _ g1⟩
  intro j hj
  rw [Dk.zaz _ _ _ (by rw [Dk.zy];simp;omega),if_neg (by omega),Dk.zaz _ _ _ (by omega),if_pos (by omega)]
  first | done | (congr 1 <;> omega)
 have HF:Hid _:=fin
 have hW:Hid (W1=w.drew.setCells g (0+0*2) cs):=hW1
 have hic:n+1≤cap:=hn
 have hnc:n≤cap:=by omega
 have mixed:Tryz.prog.follows Departure.mixedOrders=true:=by kernel_rfl
 have hn1:(1:Int)≤(n:Int)+1:=by omega
 clear fin hW1 b1 g1 hcur hbx ht hs hg hm hl h h0 h1 hcl
 go_enter Tryz.func242,Tryz.ntmps242
 go_wp2_with fail
 go_region_law_o (refine step_append_room rfl (.tmp 22) (.tmp 25) 177 rfl 298 i0 2 Tryz.underlying177 hi0 hz1 g 0 0 cap (by simp [Act.eval,Act.put]) A n (cap - 1) cs (by simp [Act.eval,Act.put]) s1.out hsrc.out s2.out (by omega) s3.out ?_;rw [← hW.out])
 go_wp2
 go_ret
 exact ⟨_,rfl,HF.out.1,HF.out.2,rfl⟩
end Go.Proofs.YtglhhlfopccmaaaGreat
namespace Dk
open Go Go.RowKit
abbrev uwT (xs:List Nat):List Value:=xs.map (fun n=>Value.int .u64 (n:Nat))
def prs:List (Int × Nat)→List Value
 | []=>[]
 | p::r=>[Value.int .i64 p.1,.int .u64 (p.2:Nat)]++prs r
theorem zdx:∀ ps qs,prs (ps++qs)=prs ps++prs qs
 | [],qs=>rfl
 | p::r,qs=>by rw [List.cons_append,prs,prs,zdx r,List.append_assoc]
theorem zpm:∀ ps,∀ u ∈ prs ps,u.oneCell'=true
 | [],u,h=>absurd h (by simp [prs])
 | p::r,u,h=>by
  rw [prs] at h
  rcases List.mem_append.1 h with h | h
  ·simp at h
   rcases h with rfl | rfl <;> rfl
  ·exact zpm r u h
theorem zj1:∀ (ps:List (Int × Nat)) (k:Nat),k < ps.length→(prs ps)[k*2]? = some (.int .i64 (ps.getD k (0,0)).1)∧(prs ps)[k*2+1]? = some (.int .u64 ((ps.getD k (0,0)).2:Nat))
 | [],k,h=>absurd h (by simp)
 | p::r,0,_=>by simp [prs]
 | p::r,k+1,h=>by
  have:=zj1 r k (by simp at h;omega)
  rw [prs,List.getElem?_append_right (by simp;omega),List.getElem?_append_right (by simp;omega)]
  simp only [List.length_cons,List.length_nil,List.getD_cons_succ]
  rw [show (k+1)*2 - (0+1+1)=k*2 by omega,show (k+1)*2+1 - (0+1+1)=k*2+1 by omega]
  exact this
theorem is_oneT (xs:List Int):∀ u ∈ is xs,u.oneCell'=true:=fun u hu=>by
 obtain ⟨y,_,rfl⟩:=List.mem_map.1 hu
 rfl
theorem uw_oneT (xs:List Nat):∀ u ∈ uwT xs,u.oneCell'=true:=fun u hu=>by
 obtain ⟨y,_,rfl⟩:=List.mem_map.1 hu
 rfl
structure FitT (ws:List Nat) (ps:List (Int × Nat)) (gs:List Int):Prop where
 ws:∀ x ∈ ws,x < 2 ^ 64
 ps:∀ p ∈ ps,i64 p.1∧p.2 < 2 ^ 64
 gs:∀ x ∈ gs,i64 x
def tube (bt:Nat) (room:Int) (v1 v2 v3:Value) (ws:List Nat) (ps:List (Int × Nat)) (gs:List Int) (us:List Thing):List Thing:=
 boxOf bt #[.int .i64 room,v1,v2,v3] 179::rowOf 38 1 v1 ws.length (uwT ws)::rowOf 298 2 v2 ps.length (prs ps)::rowOf 3 1 v3 gs.length (is gs)::us
def Tub (W w:World) (bt:Nat) (room:Int) (v1 v2 v3:Value) (ws:List Nat) (ps:List (Int × Nat)) (gs:List Int) (us:List Thing):Prop:=Sep W w (tube bt room v1 v2 v3 ws ps gs us)
def Tb (W w:World) (bt:Nat) (room:Int) (ws:List Nat) (ps:List (Int × Nat)) (gs:List Int) (us:List Thing):Prop:=Hid (∃ v1 v2 v3,Tub W w bt room v1 v2 v3 ws ps gs us∧FitT ws ps gs)
section
variable {W w w' : World} {x y x' y' : Thing} {us : List Thing}
theorem Sep.twoT (h:Sep W w (x::y::us)) (a:Away (fun k=>x.own k∨y.own k) w w') (hx:x'.holds w') (hy:y'.holds w') (nx:∀ k,x'.own k→x.own k) (ny:∀ k,y'.own k→y.own k∨w.heap.size≤k):Sep W w' (x'::y'::us):=by
 have q:=Hid.out h
 have qx:=q.all x (by simp)
 have qy:=q.all y (by simp)
 have p1:=List.pairwise_cons.1 q.apart
 have p2:=List.pairwise_cons.1 p1.2
 refine ⟨fun t ht=>?_,?_,a.below q.up (fun k hk=>hk.elim (qx.2 k) (qy.2 k))⟩
 ·rcases List.mem_cons.1 ht with rfl | ht
  ·exact ⟨hx,fun k hk=>qx.2 k (nx k hk)⟩
  rcases List.mem_cons.1 ht with rfl | ht
  ·exact ⟨hy,fun k hk=>(ny k hk).elim (qy.2 k) (fun h1=>Nat.le_trans q.up.size h1)⟩
  ·have qt:=q.all t (by simp [ht])
   refine ⟨t.local_ w w' qt.1 (fun k hk=>a.block k (t.lt w qt.1 k hk) (fun ho=>?_)),qt.2⟩
   exact ho.elim (fun ho=>p1.1 t (by simp [ht]) k ho hk) (fun ho=>p2.1 t ht k ho hk)
 ·refine List.pairwise_cons.2 ⟨fun t ht k hk htk=>?_,List.pairwise_cons.2 ⟨fun t ht k hk htk=>?_,p2.2⟩⟩
  ·rcases List.mem_cons.1 ht with rfl | ht
   ·exact (ny k htk).elim (p1.1 y (by simp) k (nx k hk)) (fun h1=>absurd (x.lt w qx.1 k (nx k hk)) (by omega))
   ·exact p1.1 t (by simp [ht]) k (nx k hk) htk
  ·have qt:=q.all t (by simp [ht])
   exact (ny k hk).elim (fun ho=>p2.1 t ht k ho htk) (fun h1=>absurd (t.lt w qt.1 k htk) (by omega))
variable {bt : Nat} {room : Int} {v1 v2 v3 v1' v2' v3' : Value} {ws ws' : List Nat} {ps ps' : List (Int × Nat)} {gs gs' : List Int}
theorem Tub.head (h:Tub W w bt room v1 v2 v3 ws ps gs us):Box w bt #[.int .i64 room,v1,v2,v3] 179:=Sep.box h (by simp [tube])
theorem Tub.row1 (h:Tub W w bt room v1 v2 v3 ws ps gs us):w.ownsRow W.heap.size 38 1 v1 ws.length (uwT ws):=Sep.row h (by simp [tube])
theorem Tub.row2 (h:Tub W w bt room v1 v2 v3 ws ps gs us):w.ownsRow W.heap.size 298 2 v2 ps.length (prs ps):=Sep.row h (by simp [tube])
theorem Tub.row3 (h:Tub W w bt room v1 v2 v3 ws ps gs us):w.ownsRow W.heap.size 3 1 v3 gs.length (is gs):=Sep.row h (by simp [tube])
theorem Tub.up (h:Tub W w bt room v1 v2 v3 ws ps gs us):Below W.heap.size W w:=Sep.out h
theorem Tub.below (h:Tub W w bt room v1 v2 v3 ws ps gs us) (b:Below w.heap.size w w'):Tub W w' bt room v1 v2 v3 ws ps gs us:=Sep.below h b
theorem Tub.ne1 (h:Tub W w bt room v1 v2 v3 ws ps gs us):v1.ownBlock≠some bt:=fun e=>by
 have q:=(List.pairwise_cons.1 (Hid.out h).apart).1 (rowOf 38 1 v1 ws.length (uwT ws)) (by simp)
 exact q bt rfl e
theorem Tub.ne2 (h:Tub W w bt room v1 v2 v3 ws ps gs us):v2.ownBlock≠some bt:=fun e=>by
 have q:=(List.pairwise_cons.1 (Hid.out h).apart).1 (rowOf 298 2 v2 ps.length (prs ps)) (by simp)
 exact q bt rfl e
theorem Tub.ne3 (h:Tub W w bt room v1 v2 v3 ws ps gs us):v3.ownBlock≠some bt:=fun e=>by
 have q:=(List.pairwise_cons.1 (Hid.out h).apart).1 (rowOf 3 1 v3 gs.length (is gs)) (by simp)
 exact q bt rfl e
theorem Tub.set1 (h:Tub W w bt room v1 v2 v3 ws ps gs us) (a:Away (fun k=>k=bt∨v1.ownBlock=some k) w w') (hb:Box w' bt #[.int .i64 room,v1',v2,v3] 179) (ho:w'.ownsRow W.heap.size 38 1 v1' ws'.length (uwT ws')) (hf:From w v1 v1'):Tub W w' bt room v1' v2 v3 ws' ps gs us:=
 Sep.twoT (x':=boxOf bt #[.int .i64 room,v1',v2,v3] 179) (y':=rowOf 38 1 v1' ws'.length (uwT ws')) h a hb (zam ho (Nat.zero_le _)) (fun k hk=>hk) hf
theorem Tub.set2 (h:Tub W w bt room v1 v2 v3 ws ps gs us) (a:Away (fun k=>k=bt∨v2.ownBlock=some k) w w') (hb:Box w' bt #[.int .i64 room,v1,v2',v3] 179) (ho:w'.ownsRow W.heap.size 298 2 v2' ps'.length (prs ps')) (hf:From w v2 v2'):Tub W w' bt room v1 v2' v3 ws ps' gs us:=by
 have p:=Sep.perm h (us:=boxOf bt #[.int .i64 room,v1,v2,v3] 179::rowOf 298 2 v2 ps.length (prs ps)::rowOf 38 1 v1 ws.length (uwT ws)::rowOf 3 1 v3 gs.length (is gs)::us) ((List.Perm.swap _ _ _).cons _)
 have q:=Sep.twoT (x':=boxOf bt #[.int .i64 room,v1,v2',v3] 179) (y':=rowOf 298 2 v2' ps'.length (prs ps')) p a hb (zam ho (Nat.zero_le _)) (fun k hk=>hk) hf
 exact Sep.perm q ((List.Perm.swap _ _ _).cons _)
theorem Tub.set3 (h:Tub W w bt room v1 v2 v3 ws ps gs us) (a:Away (fun k=>k=bt∨v3.ownBlock=some k) w w') (hb:Box w' bt #[.int .i64 room,v1,v2,v3'] 179) (ho:w'.ownsRow W.heap.size 3 1 v3' gs'.length (is gs')) (hf:From w v3 v3'):Tub W w' bt room v1 v2 v3' ws ps gs' us:=by
 have p:=Sep.perm h (us:=boxOf bt #[.int .i64 room,v1,v2,v3] 179::rowOf 3 1 v3 gs.length (is gs)::rowOf 38 1 v1 ws.length (uwT ws)::rowOf 298 2 v2 ps.length (prs ps)::us) (((((List.Perm.swap _ _ _).trans ((List.Perm.swap _ _ _).cons _)).symm).cons _).symm.symm)
 have q:=Sep.twoT (x':=boxOf bt #[.int .i64 room,v1,v2,v3'] 179) (y':=rowOf 3 1 v3' gs'.length (is gs')) p a hb (zam ho (Nat.zero_le _)) (fun k hk=>hk) hf
 exact Sep.perm q (((List.Perm.swap _ _ _).trans ((List.Perm.swap _ _ _).cons _)).cons _)
theorem Tb.out (h:Tb W w bt room ws ps gs us):Below W.heap.size W w:=by
 obtain ⟨v1,v2,v3,t,_⟩:=Hid.out h
 exact t.up
theorem Tb.fit (h:Tb W w bt room ws ps gs us):FitT ws ps gs:=by
 obtain ⟨v1,v2,v3,_,f⟩:=Hid.out h
 exact f
theorem Tb.below (h:Tb W w bt room ws ps gs us) (b:Below w.heap.size w w'):Tb W w' bt room ws ps gs us:=by
 obtain ⟨v1,v2,v3,t,f⟩:=Hid.out h
 exact ⟨v1,v2,v3,t.below b,f⟩
end
end Dk
