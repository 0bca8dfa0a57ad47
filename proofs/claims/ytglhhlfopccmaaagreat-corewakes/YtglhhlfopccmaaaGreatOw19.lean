import Derived.Test.YtglhhlfopccmaaaGreatOw18
import Derived.Shelf.Slices.Turned
import Derived.Shelf.SlicesQ.IndexFunc
set_option linter.unusedSimpArgs false
set_option linter.unusedVariables false
set_option linter.unnecessarySimpa false
set_option maxHeartbeats 8000000
set_option maxRecDepth 100000
namespace Go.Proofs
open Go.Shelf
def Tryz.zil:Go.Shelf.Ren:=⟨fun | 107=>205 | 108=>235 | n=>n,fun | 28=>23 | 3=>3 | 4=>4 | 0=>0 | n=>n,fun | n=>n⟩
theorem Tryz.lays107T:Go.Proofs.Lays.n107 Tryz.prog Tryz.zil:={
 mixed:=by kernel_rfl
 f107:=Tryz.func205.trans (congrArg some (by kernel_rfl))
 f108:=Tryz.func235.trans (congrArg some (by kernel_rfl))
 t0:=Tryz.underlying0
 a0:=Tryz.isAgg0
 z0:=Tryz.sizeOf0
 v0:=Tryz.zeroValue0
 t3:=Tryz.underlying3
 a3:=Tryz.isAgg3
 z3:=Tryz.sizeOf3
 v3:=Tryz.zeroValue3
 t4:=Tryz.underlying4
 a4:=Tryz.isAgg4
 z4:=Tryz.sizeOf4
 v4:=Tryz.zeroValue4
 t28:=Tryz.underlying23
 a28:=Tryz.isAgg23
 z28:=Tryz.sizeOf23
 v28:=Tryz.zeroValue23 }
def Tryz.l24_ren:Go.Shelf.Ren:=⟨fun | 8=>239 | 6=>250 | n=>n,fun | 22=>177 | 23=>298 | 25=>328 | 4=>4 | 3=>3 | 0=>0 | n=>n,fun | n=>n⟩
theorem Tryz.l24:Go.Proofs.SlLaysH0.n8 Tryz.prog Tryz.l24_ren:={
 mixed:=by kernel_rfl
 f6:=⟨Tryz.f250.name,by decide,Tryz.func250.trans (congrArg some (by kernel_rfl))⟩
 f8:=⟨Tryz.f239.name,by decide,Tryz.func239.trans (congrArg some (by kernel_rfl))⟩
 t0:=Tryz.underlying0
 a0:=Tryz.isAgg0
 z0:=Tryz.sizeOf0
 v0:=Tryz.zeroValue0
 t3:=Tryz.underlying3
 a3:=Tryz.isAgg3
 z3:=Tryz.sizeOf3
 v3:=Tryz.zeroValue3
 t4:=Tryz.underlying4
 a4:=Tryz.isAgg4
 z4:=Tryz.sizeOf4
 v4:=Tryz.zeroValue4
 t22:=Tryz.underlying177
 a22:=Tryz.isAgg177
 z22:=Tryz.sizeOf177
 v22:=Tryz.zeroValue177
 t25:=Tryz.underlying328
 a25:=Tryz.isAgg328
 z25:=Tryz.sizeOf328
 v25:=Tryz.zeroValue328 }
end Go.Proofs
namespace Go.Proofs.YtglhhlfopccmaaaGreat
open Go.RowKit Go.Lib
theorem zgr (A:Option Addr) (L C:Nat) (xs:List Int) (x:Int) (w:World) (h:Dk.SlI w.heap.size w A L C xs) :
  Calls Tryz.prog 205 #[.slice A L C,.int .i64 x] w fun e w'=>e=.returned (.bool (xs.contains x))∧w'=w:=by
 have hl:=h.len
 have hc:=h.cap
 have hm:=h.max
 unfold maxLen at hm
 by_cases h0:0 < L
 ·obtain ⟨b,o,rfl,hb,hcell⟩:=h.cells h0
  have c:=Any.slices_Contains_int Tryz.lays107T b o L C xs x w (by omega) (by omega) (fun j hj=>hcell j (by omega))
  rw [← hl,List.take_length] at c
  rw [← hl]
  exact c
 ·obtain rfl:L=0:=by omega
  obtain rfl:xs=[]:=List.eq_nil_of_length_eq_zero hl
  exact Any.slices_Contains_int_empty Tryz.lays107T A C x w
def encP (p:Int × Nat):List Value:=[.int .i64 p.1,.int .u64 (p.2:Nat)]
theorem theirsT (x:Int) (b:Nat) (w:World) (hb:b < w.heap.size) (hcell:w.cell? ⟨b,0,none⟩=some (.int .i64 x)) :
  PredBelow Tryz.prog 238 #[.pointer (some ⟨b,0,none⟩)] (fun p=>.agg (encP p).toArray) (fun p=>p.1 == x) w:=fun W p hB=>by
 have hc:W.cell? ⟨b,0,none⟩=some (.int .i64 x):=(hB.cell (p:=⟨b,0,none⟩) hb).trans hcell
 have hbW:b < W.heap.size:=Nat.lt_of_lt_of_le hb hB.size
 have hne:b≠W.heap.size:=by omega
 show Calls Tryz.prog 238 #[.agg #[.int .i64 p.1,.int .u64 (p.2:Nat)],.pointer (some ⟨b,0,none⟩)] W _
 go_enter Tryz.func238,Tryz.ntmps238
 go_wp2
 all_goals (go_ret;exact ⟨by simp_all,hB.alloc hB.size _⟩)
theorem zen (fv:Value) (w:World):Calls Tryz.prog 250 #[.slice none 0 0,fv] w fun e w'=>e=.returned (.int .i64 (-1))∧w'=w:=by
 go_enter Tryz.func250,Tryz.ntmps250
 go_wp2
 go_loopw [8] (fun i w'=>i=.int .i64 0∧Hid (w'=w)) (fun i w'=>0)
 case atStart=>exact ⟨rfl,rfl⟩
 case round=>
  obtain ⟨rfl,HW⟩:=hrel
  go_wp2
  go_ret
  exact ⟨rfl,HW.out⟩
theorem zc6 (fv:Value) (w:World):Calls Tryz.prog 239 #[.slice none 0 0,fv] w fun e w'=>e=.returned (.bool false)∧w'=w:=by
 go_enter Tryz.func239,Tryz.ntmps239
 go_wp2_with (go_at_call 250;refine (zen _ _).mono ?_;rintro e w' ⟨rfl,hw'⟩;subst w')
 go_ret
 exact ⟨rfl,rfl⟩
theorem zdq (B:Nat) (v:Value) (ps:List (Int × Nat)) (x:Int) (b:Nat) (w:World) (h:w.ownsRow B 298 2 v ps.length (Dk.prs ps)) (hb:b < w.heap.size) (hcell:w.cell? ⟨b,0,none⟩=some (.int .i64 x)) :
  Calls Tryz.prog 239 #[v,.func (.func 238) #[] #[.pointer (some ⟨b,0,none⟩)]] w fun e w'=>e=.returned (.bool (ps.any fun p=>p.1 == x))∧Below w.heap.size w w':=by
 obtain ⟨hl,⟨rfl,h0⟩ | ⟨g,cap,cur,rfl,hgb,hg,hn,hm,hs,ht⟩⟩:=id h
 ·obtain rfl:ps=[]:=List.eq_nil_of_length_eq_zero h0
  refine (zc6 _ w).mono ?_
  rintro e w' ⟨rfl,rfl⟩
  exact ⟨rfl,Below.refl _ _⟩
 ·have eg:∀ args w,(callFunc 238 args).run Tryz.prog w=.ok (.enter 238 args) w:=enters_of Tryz.func238 (by kernel_rfl) rfl
  unfold maxLen at hm
  have hcells:=h.cells (g:=g) rfl
  have hcon:=AnyQ.slices_ContainsFunc Tryz.l24 2 Tryz.isAgg298 Tryz.sizeOf298 encP (fun _=>rfl) (fun p=>p.1 == x) 238 #[.pointer (some ⟨b,0,none⟩)] eg g 0 ps.length cap ps w (theirsT x b w hb hcell) (Nat.le_refl _) (by omega) (Array.getElem?_eq_some_iff.1 hg).1 (fun j hj i u hi=>by
   have h1:=Dk.zj1 ps j hj
   have e0:ps[j]! = ps.getD j (0,0):=by simp [List.getD,hj]
   rw [e0] at hi
   generalize ps.getD j (0,0)=y at hi h1
   match i,hi with
   | 0,hi=>
    simp [encP] at hi
    have:=hcells (j*2) _ h1.1
    rw [Addr.add_lit] at this
    rw [← hi,Nat.add_zero]
    exact this
   | 1,hi=>
    simp [encP] at hi
    have:=hcells (j*2+1) _ h1.2
    rw [Addr.add_lit] at this
    rw [← hi,Nat.add_assoc]
    exact this
   | i+2,hi=>simp [encP] at hi)
  rw [List.take_length] at hcon
  exact hcon
def Dk.waitsT (ps:List (Int × Nat)) (gs:List Int) (x:Int):Bool:=gs.contains x || ps.any fun p=>p.1 == x
theorem za6 {W w:World} {bt:Nat} {room:Int} {ws:List Nat} {ps:List (Int × Nat)} {gs:List Int} {us:List Dk.Thing} (h:Dk.Tb W w bt room ws ps gs us) (x:Int) :
  Calls Tryz.prog 208 #[.pointer (some ⟨bt,0,none⟩),.int .i64 x] w fun e w'=>e=.returned (.bool (Dk.waitsT ps gs x))∧Below w.heap.size w w':=by
 obtain ⟨v1,v2,v3,t,f⟩:=Hid.out h
 obtain ⟨W1,e1⟩:∃ W1,W1=w.alloc (.cells #[.int .i64 x] 3):=⟨_,rfl⟩
 have u1:Below w.heap.size w W1:=by rw [e1];exact Dk.zb (Below.refl _ _) _
 have b1:Dk.Box W1 w.heap.size #[.int .i64 x] 3:=by rw [e1];exact Dk.Box.new _ _ _
 have t1:=t.below u1
 obtain ⟨A2,C2,ev2,_,_⟩:=Dk.zc t.row2
 obtain ⟨A3,C3,ev3,s3⟩:=Dk.zbe t1.row3 f.gs
 have k2:∀ y:Dk.Up W1,y.wd.cell? ⟨bt,2,none⟩=some (.slice A2 ps.length C2):=fun y=>by rw [← ev2];exact (t1.below y.property).head.cell 2
 have k3:∀ y:Dk.Up W1,y.wd.cell? ⟨bt,3,none⟩=some (.slice A3 gs.length C3):=fun y=>by rw [← ev3];exact (t1.below y.property).head.cell 3
 have k0:∀ y:Dk.Up W1,y.wd.cell? ⟨w.heap.size,0,none⟩=some (.int .i64 x):=fun y=>(b1.up y.property).cell 0
 have hne:Nonempty (Dk.Up W1):=⟨⟨W1,Below.refl _ _⟩⟩
 obtain ⟨r1,er1⟩:∃ r1,gs.contains x=r1:=⟨_,rfl⟩
 obtain ⟨r2,er2⟩:∃ r2,(ps.any fun p=>p.1 == x)=r2:=⟨_,rfl⟩
 have c1:∀ y:Dk.Up W1,Calls Tryz.prog 205 #[.slice A3 gs.length C3,.int .i64 x] y.wd fun e w'=>e=.returned (.bool r1)∧w'=y.wd:=fun y=>by
  rw [← er1]
  exact zgr _ _ _ gs x _ ((s3.below y.property (Nat.le_refl _)).more y.property.size)
 have c2:∀ y:Dk.Up W1,Calls Tryz.prog 239 #[.slice A2 ps.length C2,.func (.func 238) #[] #[.pointer (some ⟨w.heap.size,0,none⟩)]] y.wd fun e w'=>e=.returned (.bool r2)∧Below y.wd.heap.size y.wd w':=fun y=>by
  rw [← er2,← ev2]
  exact zdq _ _ ps x w.heap.size _ (t1.below y.property).row2 (Nat.lt_of_lt_of_le b1.lt y.property.size) (k0 y)
 have ew:Dk.waitsT ps gs x=(r1 || r2):=by unfold Dk.waitsT;rw [er1,er2]
 rw [ew]
 have C1:Hid _:=c1
 have C2':Hid _:=c2
 have HU:Hid _:=u1
 have HE:Hid _:=e1
 clear c1 c2 ew er1 er2 s3 ev2 ev3 t t1 f b1 h u1 e1
 cases r1
 ·go_enter Tryz.func208,Tryz.ntmps208
  go_wp2_with fail
  rw [← HE.out]
  refine Dk.zat (by kernel_rfl) (by kernel_rfl) ?_
  repeat (go_big_quiet_step ((first | (go_at_call 205;exact Dk.zdb _ (C1.out _)) | (go_at_call 239;exact Dk.zkp _ (C2'.out _)))))
  refine wpQuiet_nil ?_
  intro _ hw'
  obtain ⟨y,hw''⟩:=hw'
  subst hw''
  go_wp2_with fail
  go_ret
  exact ⟨rfl,Dk.zi HU.out y.property⟩
 ·go_enter Tryz.func208,Tryz.ntmps208
  go_wp2_with fail
  rw [← HE.out]
  refine Dk.zat (by kernel_rfl) (by kernel_rfl) ?_
  repeat (go_big_quiet_step ((first | (go_at_call 205;exact Dk.zdb _ (C1.out _)) | (go_at_call 239;exact Dk.zkp _ (C2'.out _)))))
  refine wpQuiet_nil ?_
  intro _ hw'
  obtain ⟨y,hw''⟩:=hw'
  subst hw''
  go_wp2_with fail
  go_ret
  exact ⟨rfl,Dk.zi HU.out y.property⟩
def Dk.most (room:Int):Nat:=if room < 1 then 1 else if 8 < room then 8 else room.toNat
theorem Dk.most_lt (room:Int) (n:Nat):decide ((n:Int) < min (max room 1) 8)=decide (n < Dk.most room):=by
 unfold Dk.most
 congr 1
 apply propext
 split
 ·omega
 ·split <;> omega
theorem zez {W w:World} {bt:Nat} {room:Int} {ws:List Nat} {ps:List (Int × Nat)} {gs:List Int} {us:List Dk.Thing} (h:Dk.Tb W w bt room ws ps gs us) :
  Calls Tryz.prog 210 #[.pointer (some ⟨bt,0,none⟩)] w fun e w'=>e=.returned (.bool (decide (ws.length < Dk.most room)))∧Below w.heap.size w w':=by
 obtain ⟨v1,v2,v3,t,f⟩:=Hid.out h
 obtain ⟨A1,C1,ev1,_,_⟩:=Dk.zc t.row1
 have k1:∀ y:Dk.Up w,y.wd.cell? ⟨bt,1,none⟩=some (.slice A1 ws.length C1):=fun y=>by rw [← ev1];exact (t.below y.property).head.cell 1
 have k0:∀ y:Dk.Up w,y.wd.cell? ⟨bt,0,none⟩=some (.int .i64 room):=fun y=>(t.below y.property).head.cell 0
 have hne:Nonempty (Dk.Up w):=⟨⟨w,Below.refl _ _⟩⟩
 clear ev1 t f h
 generalize ws.length=n at k1
 go_enter Tryz.func210,Tryz.ntmps210
 go_wp2_with fail
 refine Dk.zat (by kernel_rfl) (by kernel_rfl) ?_
 repeat (go_big_quiet_step (fail))
 refine wpQuiet_nil ?_
 intro _ hw'
 obtain ⟨y,hw''⟩:=hw'
 subst hw''
 go_wp2_with fail
 go_ret
 exact ⟨congrArg Ending.returned (congrArg Value.bool (Dk.most_lt room n)),y.property⟩
theorem New_anyT {W w:World} {us:List Dk.Thing} (h:Dk.Sep W w us) (room:Int) :
  Calls Tryz.prog 49 #[.int .i64 room] w fun e w'=>e=.returned (.pointer (some ⟨w.heap.size,0,none⟩))∧Dk.Tb W w' w.heap.size room [] [] [] us:=by
 have fin:Dk.Tb W (w.alloc (.cells #[.int .i64 room,.slice none 0 0,.slice none 0 0,.slice none 0 0] 179)) w.heap.size room [] [] [] us:=by
  obtain ⟨W1,e1⟩:∃ W1,W1=w.alloc (.cells #[.int .i64 room,.slice none 0 0,.slice none 0 0,.slice none 0 0] 179):=⟨_,rfl⟩
  rw [← e1]
  have u1:Below w.heap.size w W1:=by rw [e1];exact Dk.zb (Below.refl _ _) _
  have s0:=h.add (t:=Dk.rowOf 3 1 (.slice none 0 0) 0 (Dk.is [])) (Below.refl _ _) (World.ownsRow_nil _ _ _ _) (fun k hk=>by simp [Dk.rowOf,Value.ownBlock] at hk)
  have s1:=s0.add (t:=Dk.rowOf 298 2 (.slice none 0 0) 0 (Dk.prs [])) (Below.refl _ _) (World.ownsRow_nil _ _ _ _) (fun k hk=>by simp [Dk.rowOf,Value.ownBlock] at hk)
  have s2:=s1.add (t:=Dk.rowOf 38 1 (.slice none 0 0) 0 (Dk.uwT [])) (Below.refl _ _) (World.ownsRow_nil _ _ _ _) (fun k hk=>by simp [Dk.rowOf,Value.ownBlock] at hk)
  exact ⟨_,_,_,s2.newBox e1,⟨fun x hx=>by simp at hx,fun x hx=>by simp at hx,fun x hx=>by simp at hx⟩⟩
 have HF:Hid _:=fin
 clear fin h
 go_enter Tryz.func49,Tryz.ntmps49
 go_wp2
 go_ret
 exact ⟨rfl,HF.out⟩
theorem zhr (b o:Nat) (C:Nat) (A:Option Addr) (w:World) (hc:w.cell? ⟨b,o,none⟩=some (.slice A 0 C)) :
  Calls Tryz.prog 211 #[.pointer (some ⟨b,o,none⟩)] w fun e w'=>e=.returned (.tuple #[.int .u64 0,.bool false])∧w'=w:=by
 go_enter Tryz.func211,Tryz.ntmps211
 go_wp2
 go_ret2
 exact ⟨rfl,rfl⟩
theorem zfw (B b o:Nat) (cs:Array Value) (t:TypeId) (v:Value) (x:Int) (rest:List Value) (n:Nat) (w:World) (hbx:Dk.Box w b cs t) (hcs:cs[o]? = some v) (h:w.ownsRow B 38 1 v (n+1) (.int .u64 x::rest)) (h1:∀ u ∈ rest,u.oneCell'=true) (hne:v.ownBlock≠some b) :
  Calls Tryz.prog 211 #[.pointer (some ⟨b,o,none⟩)] w fun e w'=>∃ v',e=.returned (.tuple #[.int .u64 x,.bool true])∧w'.ownsRow B 38 1 v' n rest∧Dk.Box w' b (cs.setIfInBounds o v') t∧v'.ownBlock=v.ownBlock∧Dk.Away (fun k=>k=b∨v.ownBlock=some k) w w':=by
 have K:=zhz B v [.int .u64 x] rest n w h rfl h1
 have fin:∀ v' w',w'.ownsRow B 38 1 v' n rest→w.grownBy w' v.ownBlock→v'.ownBlock=v.ownBlock→((w'.setCell ⟨b,o,none⟩ v').ownsRow B 38 1 v' n rest∧Dk.Box (w'.setCell ⟨b,o,none⟩ v') b (cs.setIfInBounds o v') t∧v'.ownBlock=v.ownBlock∧Dk.Away (fun k=>k=b∨v.ownBlock=some k) w (w'.setCell ⟨b,o,none⟩ v'))∧(∃ A L C,v'=.slice A L C)∧w'.cell? ⟨b,o,none⟩=some v∧w'.frozen? ⟨b,o,none⟩=false:=by
  intro v' w' ho hg hv
  have hb:Dk.Box w' b cs t:=⟨by rw [hg.block b hbx.lt (fun e=>hne e.symm)];exact hbx.heap⟩
  obtain ⟨A',C',e',_,_⟩:=Dk.zc ho
  refine ⟨⟨?_,hb.set o v',hv,?_⟩,⟨A',_,C',e'⟩,by rw [hb.cell];exact hcs,hb.frozen o⟩
  ·exact Dk.za3 ho ((Dk.Away.refl (fun k=>k=b) w').set (.inl rfl) _ _) (fun k hk e=>by rw [hv,e] at hk;exact hne hk)
  ·exact (Dk.Away.zad hg (fun k hk=>.inl (.inr hk))).set (.inl (.inl rfl)) _ _
 obtain ⟨_,⟨_,h2⟩ | ⟨g,cap,cur,rfl,hb,hg,hn,hm,hs,ht⟩⟩:=id h
 ·omega
 unfold maxLen at hm
 have c0:w.cell? ⟨b,o,none⟩=some (.slice (some ⟨g,0,none⟩) (n+1) cap):=by rw [hbx.cell];exact hcs
 have c1:w.cell? ⟨g,0,none⟩=some (.int .u64 x):=by
  have:=h.cells (g:=g) rfl 0 (.int .u64 x) rfl
  rw [Addr.add_lit] at this
  exact this
 have HF:Hid _:=fin
 clear fin h hbx hcs hne ht hs hg h1
 go_enter Tryz.func211,Tryz.ntmps211
 go_wp2_with fail
 refine K.mono ?_
 rintro e w' ⟨v',rfl,ho,hg,hv⟩
 obtain ⟨hfin,⟨A',L',C',rfl⟩,cb,fb⟩:=HF.out v' w' ho hg hv
 have HW:Hid _:=hfin
 clear hfin ho hg hv HF c0 c1 K
 go_wp2_with fail
 go_ret2
 exact ⟨_,rfl,HW.out⟩
theorem ziz (b o:Nat) (C:Nat) (A:Option Addr) (w:World) (hc:w.cell? ⟨b,o,none⟩=some (.slice A 0 C)) :
  Calls Tryz.prog 209 #[.pointer (some ⟨b,o,none⟩)] w fun e w'=>e=.returned (.tuple #[.int .i64 0,.bool false])∧w'=w:=by
 go_enter Tryz.func209,Tryz.ntmps209
 go_wp2
 go_ret2
 exact ⟨rfl,rfl⟩
theorem zhp (B b o:Nat) (cs:Array Value) (t:TypeId) (v:Value) (x:Int) (rest:List Value) (n:Nat) (w:World) (hbx:Dk.Box w b cs t) (hcs:cs[o]? = some v) (h:w.ownsRow B 3 1 v (n+1) (.int .i64 x::rest)) (h1:∀ u ∈ rest,u.oneCell'=true) (hne:v.ownBlock≠some b) :
  Calls Tryz.prog 209 #[.pointer (some ⟨b,o,none⟩)] w fun e w'=>∃ v',e=.returned (.tuple #[.int .i64 x,.bool true])∧w'.ownsRow B 3 1 v' n rest∧Dk.Box w' b (cs.setIfInBounds o v') t∧v'.ownBlock=v.ownBlock∧Dk.Away (fun k=>k=b∨v.ownBlock=some k) w w':=by
 have K:=zi6 B v [.int .i64 x] rest n w h rfl h1
 have fin:∀ v' w',w'.ownsRow B 3 1 v' n rest→w.grownBy w' v.ownBlock→v'.ownBlock=v.ownBlock→((w'.setCell ⟨b,o,none⟩ v').ownsRow B 3 1 v' n rest∧Dk.Box (w'.setCell ⟨b,o,none⟩ v') b (cs.setIfInBounds o v') t∧v'.ownBlock=v.ownBlock∧Dk.Away (fun k=>k=b∨v.ownBlock=some k) w (w'.setCell ⟨b,o,none⟩ v'))∧(∃ A L C,v'=.slice A L C)∧w'.cell? ⟨b,o,none⟩=some v∧w'.frozen? ⟨b,o,none⟩=false:=by
  intro v' w' ho hg hv
  have hb:Dk.Box w' b cs t:=⟨by rw [hg.block b hbx.lt (fun e=>hne e.symm)];exact hbx.heap⟩
  obtain ⟨A',C',e',_,_⟩:=Dk.zc ho
  refine ⟨⟨?_,hb.set o v',hv,?_⟩,⟨A',_,C',e'⟩,by rw [hb.cell];exact hcs,hb.frozen o⟩
  ·exact Dk.za3 ho ((Dk.Away.refl (fun k=>k=b) w').set (.inl rfl) _ _) (fun k hk e=>by rw [hv,e] at hk;exact hne hk)
  ·exact (Dk.Away.zad hg (fun k hk=>.inl (.inr hk))).set (.inl (.inl rfl)) _ _
 obtain ⟨_,⟨_,h2⟩ | ⟨g,cap,cur,rfl,hb,hg,hn,hm,hs,ht⟩⟩:=id h
 ·omega
 unfold maxLen at hm
 have c0:w.cell? ⟨b,o,none⟩=some (.slice (some ⟨g,0,none⟩) (n+1) cap):=by rw [hbx.cell];exact hcs
 have c1:w.cell? ⟨g,0,none⟩=some (.int .i64 x):=by
  have:=h.cells (g:=g) rfl 0 (.int .i64 x) rfl
  rw [Addr.add_lit] at this
  exact this
 have HF:Hid _:=fin
 clear fin h hbx hcs hne ht hs hg h1
 go_enter Tryz.func209,Tryz.ntmps209
 go_wp2_with fail
 refine K.mono ?_
 rintro e w' ⟨v',rfl,ho,hg,hv⟩
 obtain ⟨hfin,⟨A',L',C',rfl⟩,cb,fb⟩:=HF.out v' w' ho hg hv
 have HW:Hid _:=hfin
 clear hfin ho hg hv HF c0 c1 K
 go_wp2_with fail
 go_ret2
 exact ⟨_,rfl,HW.out⟩
theorem Dk.Away.rowT {S:Nat→Prop} {w w':World} {b:Nat} (h:Dk.Away S w w') (hb:S b∨w.heap.size≤b) (cs:Array Value):Dk.Away S w (w'.setRow b cs):=
 ⟨h.os,h.tape,h.output,by simp [World.setRow];exact h.size,fun k hk hn=>(setRow_other w' b k cs (fun e=>by subst e;exact hb.elim hn (fun h1=>absurd hk (by omega)))).trans (h.block k hk hn)⟩
theorem zqg {w w':World} {b:Nat} (h:Below w.heap.size w w') (hb:w.heap.size≤b) (cs:Array Value):Below w.heap.size w (w'.setRow b cs):=
 ⟨h.os,h.tape,h.output,by simp [World.setRow];exact h.size,fun k hk=>(setRow_other w' b k cs (by omega)).trans (h.block k hk)⟩
theorem zhf {w w':World} {base:Nat} {e:TypeId} {size:Nat} {v:Value} {n:Nat} {xs:List Value} (h:w.ownsRow base e size v n xs) (u:Below w.heap.size w w'):w'.ownsRow base e size v n xs:=Dk.za3 h (Dk.Away.of_up (S:=fun _=>False) u) (fun _ _ e=>e)
theorem pair_cells (a b:Int):(#[.int .i64 a,.int .u64 b]:Array Value).all (·.oneCell')=true:=by simp [Value.oneCell']
theorem zcf:(Tryz.prog.info? 298).map (·.size)=some 2:=by kernel_rfl
theorem zhq (b o:Nat) (C:Nat) (A:Option Addr) (w:World) (hb:b < w.heap.size) (hc:w.cell? ⟨b,o,none⟩=some (.slice A 0 C)) :
  Calls Tryz.prog 212 #[.pointer (some ⟨b,o,none⟩)] w fun e w'=>e=.returned (.tuple #[.agg #[.int .i64 0,.int .u64 0],.bool false])∧Below w.heap.size w w':=by
 obtain ⟨W1,e1⟩:∃ W1,W1=w.alloc (.cells #[.int .i64 0,.int .u64 0] 298):=⟨_,rfl⟩
 have u1:Below w.heap.size w W1:=by rw [e1];exact Dk.zb (Below.refl _ _) _
 have z1:W1.heap.size=w.heap.size+1:=by rw [e1];simp
 have b1:Dk.Box W1 w.heap.size #[.int .i64 0,.int .u64 0] 298:=by rw [e1];exact Dk.Box.new _ _ _
 have c1:W1.cell? ⟨b,o,none⟩=some (.slice A 0 C):=by rw [u1.cell (by exact hb)];exact hc
 obtain ⟨W2,e2⟩:∃ W2,W2=W1.alloc (.cells #[.int .i64 0,.int .u64 0] 298):=⟨_,rfl⟩
 have u2:Below w.heap.size w W2:=by rw [e2];exact Dk.zb u1 _
 have b2:Dk.Box W2 (w.heap.size+1) #[.int .i64 0,.int .u64 0] 298:=by rw [e2,← z1];exact Dk.Box.new _ _ _
 have b21:Dk.Box W2 w.heap.size #[.int .i64 0,.int .u64 0] 298:=by rw [e2];exact b1.old _
 have c2:W2.cell? ⟨w.heap.size+1,0,none⟩=some (.int .i64 0):=b2.cell 0
 have c2':W2.cell? ⟨w.heap.size+1,1,none⟩=some (.int .u64 0):=b2.cell 1
 have H1:Hid (w.alloc (.cells #[.int .i64 0,.int .u64 0] 298)=W1):=e1.symm
 have H2:Hid (W1.alloc (.cells #[.int .i64 0,.int .u64 0] 298)=W2):=e2.symm
 have HB:Hid (Dk.Box W2 w.heap.size #[.int .i64 0,.int .u64 0] 298):=b21
 have HU:Hid (Below w.heap.size w W2):=u2
 clear e1 e2 u1 u2 b1 b2 b21 hc
 go_enter Tryz.func212,Tryz.ntmps212
 go_wp2_with (first | (rw [H1.out];clear H1) | (rw [H2.out];clear H2) | (refine wpList_store_row rfl 298 _ _ rfl w.heap.size #[.int .i64 0,.int .u64 0] rfl rfl 298 _ HB.out.heap zcf rfl (pair_cells _ _) ?_))
 have d0:=(HB.out.row (cs':=#[.int .i64 0,.int .u64 0])).cell
 exact bodyPost_ret (v:=.tuple #[.agg #[.int .i64 0,.int .u64 0],.bool false]) (by simp [results,Tryz.results212,go_sem,d0]) rfl ⟨rfl,zqg HU.out (Nat.le_refl _) _⟩
theorem zfv (B b o:Nat) (cs:Array Value) (t:TypeId) (v:Value) (p:Int × Nat) (rest:List Value) (n:Nat) (w:World) (hbx:Dk.Box w b cs t) (hcs:cs[o]? = some v) (h:w.ownsRow B 298 2 v (n+1) ([.int .i64 p.1,.int .u64 (p.2:Nat)]++rest)) (h1:∀ u ∈ rest,u.oneCell'=true) (hne:v.ownBlock≠some b) :
  Calls Tryz.prog 212 #[.pointer (some ⟨b,o,none⟩)] w fun e w'=>∃ v',e=.returned (.tuple #[.agg #[.int .i64 p.1,.int .u64 (p.2:Nat)],.bool true])∧w'.ownsRow B 298 2 v' n rest∧Dk.Box w' b (cs.setIfInBounds o v') t∧v'.ownBlock=v.ownBlock∧Dk.Away (fun k=>k=b∨v.ownBlock=some k) w w':=by
 obtain ⟨p1,p2⟩:=p
 show Calls Tryz.prog 212 #[.pointer (some ⟨b,o,none⟩)] w fun e w'=>∃ v',e=.returned (.tuple #[.agg #[.int .i64 p1,.int .u64 (p2:Nat)],.bool true])∧w'.ownsRow B 298 2 v' n rest∧Dk.Box w' b (cs.setIfInBounds o v') t∧v'.ownBlock=v.ownBlock∧Dk.Away (fun k=>k=b∨v.ownBlock=some k) w w'
 change w.ownsRow B 298 2 v (n+1) ([.int .i64 p1,.int .u64 (p2:Nat)]++rest) at h
 obtain ⟨W1,e1⟩:∃ W1,W1=w.alloc (.cells #[.int .i64 0,.int .u64 0] 298):=⟨_,rfl⟩
 have u1:Below w.heap.size w W1:=by rw [e1];exact Dk.zb (Below.refl _ _) _
 have z1:W1.heap.size=w.heap.size+1:=by rw [e1];simp
 have b1:Dk.Box W1 w.heap.size #[.int .i64 0,.int .u64 0] 298:=by rw [e1];exact Dk.Box.new _ _ _
 have hblt:=hbx.lt
 have hvlt:∀ k,v.ownBlock=some k→k < w.heap.size:=fun k hk=>(h.lt k hk).2
 obtain ⟨W2,e2⟩:∃ W2,W2=W1.alloc (.cells #[.int .i64 0,.int .u64 0] 298):=⟨_,rfl⟩
 have u2:Below w.heap.size w W2:=by rw [e2];exact Dk.zb u1 _
 have b2:Dk.Box W2 (w.heap.size+1) #[.int .i64 0,.int .u64 0] 298:=by rw [e2,← z1];exact Dk.Box.new _ _ _
 have b21:Dk.Box W2 w.heap.size #[.int .i64 0,.int .u64 0] 298:=by rw [e2];exact b1.old _
 obtain ⟨W3,e3⟩:∃ W3,W3=W2.setRow (w.heap.size+1) #[.int .i64 p1,.int .u64 (p2:Nat)]:=⟨_,rfl⟩
 have u3:Below w.heap.size w W3:=by rw [e3];exact zqg u2 (by omega) _
 have b3:Dk.Box W3 (w.heap.size+1) #[.int .i64 p1,.int .u64 (p2:Nat)] 298:=by rw [e3];exact b2.row
 have b31:Dk.Box W3 w.heap.size #[.int .i64 0,.int .u64 0] 298:=by rw [e3];exact b21.zas (by omega)
 have bx3:Dk.Box W3 b cs t:=hbx.up u3
 have h3:W3.ownsRow B 298 2 v (n+1) ([.int .i64 p1,.int .u64 (p2:Nat)]++rest):=zhf h u3
 have K:=zhy B v [.int .i64 p1,.int .u64 (p2:Nat)] rest n W3 h3 rfl h1
 have fin:∀ v' w',w'.ownsRow B 298 2 v' n rest→W3.grownBy w' v.ownBlock→v'.ownBlock=v.ownBlock→
   (((w'.setCell ⟨b,o,none⟩ v').setRow w.heap.size #[.int .i64 p1,.int .u64 (p2:Nat)]).ownsRow B 298 2 v' n rest∧Dk.Box ((w'.setCell ⟨b,o,none⟩ v').setRow w.heap.size #[.int .i64 p1,.int .u64 (p2:Nat)]) b (cs.setIfInBounds o v') t∧v'.ownBlock=v.ownBlock∧Dk.Away (fun k=>k=b∨v.ownBlock=some k) w ((w'.setCell ⟨b,o,none⟩ v').setRow w.heap.size #[.int .i64 p1,.int .u64 (p2:Nat)]))
   ∧ (∃ A L C,v'=.slice A L C)∧w'.cell? ⟨b,o,none⟩=some v∧w'.frozen? ⟨b,o,none⟩=false∧Dk.Box (w'.setCell ⟨b,o,none⟩ v') (w.heap.size+1) #[.int .i64 p1,.int .u64 (p2:Nat)] 298∧Dk.Box (w'.setCell ⟨b,o,none⟩ v') w.heap.size #[.int .i64 0,.int .u64 0] 298:=by
  intro v' w' ho hg hv
  have hb:Dk.Box w' b cs t:=⟨by rw [hg.block b bx3.lt (fun e=>hne e.symm)];exact bx3.heap⟩
  have q3:Dk.Box w' (w.heap.size+1) #[.int .i64 p1,.int .u64 (p2:Nat)] 298:=⟨by rw [hg.block _ b3.lt (fun e=>absurd (hvlt _ e.symm) (by omega))];exact b3.heap⟩
  have q1:Dk.Box w' w.heap.size #[.int .i64 0,.int .u64 0] 298:=⟨by rw [hg.block _ b31.lt (fun e=>absurd (hvlt _ e.symm) (by omega))];exact b31.heap⟩
  obtain ⟨A',C',e',_,_⟩:=Dk.zc ho
  have a1:Dk.Away (fun k=>k=b∨v.ownBlock=some k) w (w'.setCell ⟨b,o,none⟩ v'):=
   ((Dk.Away.of_up u3).trans (Dk.Away.zad (S:=fun k=>k=b∨v.ownBlock=some k) hg (fun k hk=>.inl (.inr hk))) (fun k hk=>.inl hk)).set (.inl (.inl rfl)) _ _
  refine ⟨⟨?_,(hb.set o v').zas (by omega),hv,Dk.Away.rowT a1 (.inr (Nat.le_refl _)) _⟩,⟨A',_,C',e'⟩,by rw [hb.cell];exact hcs,hb.frozen o,q3.zn (by omega) _ _,q1.zn (by omega) _ _⟩
  have o1:=Dk.za3 ho ((Dk.Away.refl (fun k=>k=b) w').set (.inl rfl) o v') (fun k hk e=>by rw [hv,e] at hk;exact hne hk)
  exact Dk.za3 o1 (Dk.Away.rowT (Dk.Away.refl (fun k=>k=w.heap.size) _) (.inl rfl) _) (fun k hk e=>by rw [hv,e] at hk;exact absurd (hvlt _ hk) (by omega))
 obtain ⟨_,⟨_,hz⟩ | ⟨g,cap,cur,rfl,hb,hg,hn,hm,hs,ht⟩⟩:=id h
 ·omega
 unfold maxLen at hm
 have hglt:g < w.heap.size:=hvlt g rfl
 have c0:W1.cell? ⟨b,o,none⟩=some (.slice (some ⟨g,0,none⟩) (n+1) cap):=by rw [(hbx.up u1).cell];exact hcs
 have c3:W3.cell? ⟨b,o,none⟩=some (.slice (some ⟨g,0,none⟩) (n+1) cap):=by rw [bx3.cell];exact hcs
 have c1:W1.cell? ⟨g,0,none⟩=some (.int .i64 p1):=by
  have:=(zhf h u1).cells (g:=g) rfl 0 (.int .i64 p1) rfl
  rw [Addr.add_lit] at this
  exact this
 have c2:W1.cell? ⟨g,1,none⟩=some (.int .u64 (p2:Nat)):=by
  have:=(zhf h u1).cells (g:=g) rfl 1 (.int .u64 (p2:Nat)) rfl
  rw [Addr.add_lit] at this
  exact this
 have HF:Hid _:=fin
 have H1:Hid (w.alloc (.cells #[.int .i64 0,.int .u64 0] 298)=W1):=e1.symm
 have H2:Hid (W1.alloc (.cells #[.int .i64 0,.int .u64 0] 298)=W2):=e2.symm
 have H3:Hid (W2.setRow (w.heap.size+1) #[.int .i64 p1,.int .u64 (p2:Nat)]=W3):=e3.symm
 have HB2:Hid (Dk.Box W2 (w.heap.size+1) #[.int .i64 0,.int .u64 0] 298):=b2
 clear fin h h3 hbx hcs hne ht hs hg h1 e1 e2 e3 u1 u2 u3 b1 b2 b21 b3 b31 bx3 hvlt
 go_enter Tryz.func212,Tryz.ntmps212
 go_wp2_with (first | (rw [H1.out];clear H1) | (rw [H2.out];clear H2) | (refine wpList_store_row rfl 298 _ _ rfl (w.heap.size+1) #[.int .i64 p1,.int .u64 (p2:Nat)] rfl rfl 298 _ HB2.out.heap zcf rfl (pair_cells _ _) ?_;rw [H3.out];clear HB2))
 refine K.mono ?_
 rintro e w' ⟨v',rfl,ho,hg,hv⟩
 obtain ⟨hfin,⟨A',L',C',rfl⟩,cb,fb,q3,q1⟩:=HF.out v' w' ho hg hv
 have HW:Hid _:=hfin
 have HQ:Hid _:=q1
 have d0:(w'.setCell ⟨b,o,none⟩ (.slice A' L' C')).cell? ⟨w.heap.size+1,0,none⟩=some (.int .i64 p1):=q3.cell 0
 have d1:(w'.setCell ⟨b,o,none⟩ (.slice A' L' C')).cell? ⟨w.heap.size+1,1,none⟩=some (.int .u64 (p2:Nat)):=q3.cell 1
 clear hfin ho hg hv HF c0 c1 c2 c3 K q1 q3
 go_wp2_with (refine wpList_store_row rfl 298 _ _ rfl w.heap.size #[.int .i64 p1,.int .u64 (p2:Nat)] rfl rfl 298 _ HQ.out.heap zcf rfl (pair_cells _ _) ?_)
 have d2:=(HQ.out.row (cs':=#[.int .i64 p1,.int .u64 (p2:Nat)])).cell
 exact bodyPost_ret (v:=.tuple #[.agg #[.int .i64 p1,.int .u64 (p2:Nat)],.bool true]) (by simp [results,Tryz.results212,go_sem,d2]) rfl ⟨_,rfl,HW.out⟩
theorem K25T:Dk.SlK Tryz.prog 55 38 (.int .u64 0) 1 8:=⟨Tryz.underlying55,info27T,rfl,by decide,by decide⟩
theorem K26T:Dk.SlK Tryz.prog 23 3 (.int .i64 0) 1 8:=⟨Tryz.underlying23,info3,rfl,by decide,by decide⟩
theorem K44:Dk.SlK Tryz.prog 177 298 (.agg #[.int .i64 0,.int .u64 0]) 2 16:=⟨Tryz.underlying177,info52,rfl,by decide,by decide⟩
section
variable {W w w' : World} {bt : Nat} {room : Int} {ws : List Nat} {ps : List (Int × Nat)} {gs : List Int} {us us' us1 us2 : List Dk.Thing}
theorem Tb.map (h:Dk.Tb W w bt room ws ps gs us) (f:∀ ts,Dk.Sep W w (us++ts)→Dk.Sep W w' (us'++ts)):Dk.Tb W w' bt room ws ps gs us':=by
 obtain ⟨v1,v2,v3,t,ft⟩:=Hid.out h
 refine ⟨v1,v2,v3,?_,ft⟩
 have p:=f [Dk.boxOf bt #[.int .i64 room,v1,v2,v3] 179,Dk.rowOf 38 1 v1 ws.length (Dk.uwT ws),Dk.rowOf 298 2 v2 ps.length (Dk.prs ps),Dk.rowOf 3 1 v3 gs.length (Dk.is gs)] (Dk.Sep.perm t (List.perm_append_comm (l₁:=[_,_,_,_])))
 exact Dk.Sep.perm p List.perm_append_comm
theorem Tb.get {t:Dk.Thing} (h:Dk.Tb W w bt room ws ps gs us) (ht:t ∈ us):t.holds w:=by
 obtain ⟨v1,v2,v3,q,ft⟩:=Hid.out h
 exact Dk.Sep.get q (by simp [Dk.tube,ht])
theorem Tb.box {b:Nat} {cs:Array Value} {e:TypeId} (h:Dk.Tb W w bt room ws ps gs us) (ht:Dk.boxOf b cs e ∈ us):Dk.Box w b cs e:=Tb.get h ht
theorem Tb.drop {t:Dk.Thing} (h:Dk.Tb W w bt room ws ps gs (t::us)):Dk.Tb W w bt room ws ps gs us:=Tb.map h (fun ts s=>s.sub (List.sublist_cons_self _ _))
theorem Tb.newBox {cs:Array Value} {e:TypeId} (h:Dk.Tb W w bt room ws ps gs us) (ew:w'=w.alloc (.cells cs e)):Dk.Tb W w' bt room ws ps gs (Dk.boxOf w.heap.size cs e::us):=Tb.map h (fun ts s=>s.newBox ew)
theorem Tb.setRow {b:Nat} {cs cs':Array Value} {e:TypeId} (h:Dk.Tb W w bt room ws ps gs (Dk.boxOf b cs e::us)) (ew:w'=w.setRow b cs'):Dk.Tb W w' bt room ws ps gs (Dk.boxOf b cs' e::us):=by
 have hb:Dk.Box w b cs e:=Tb.box h (by simp)
 subst ew
 exact Tb.map h (fun ts s=>Dk.Sep.turn (us1:=[]) (t':=Dk.boxOf b cs' e) s (Dk.Away.rowT (S:=(Dk.boxOf b cs e).own) (Dk.Away.refl _ _) (.inl rfl) _) hb.row (fun k hk=>.inl hk))
theorem zev {x:Nat} (h:Dk.Tb W w bt room (x::ws) ps gs us) :
  Calls Tryz.prog 211 #[.pointer (some ⟨bt,1,none⟩)] w fun e w'=>e=.returned (.tuple #[.int .u64 (x:Nat),.bool true])∧Dk.Tb W w' bt room ws ps gs us:=by
 obtain ⟨v1,v2,v3,t,ft⟩:=Hid.out h
 refine (zfw W.heap.size bt 1 _ 179 v1 (x:Nat) (Dk.uwT ws) ws.length w t.head rfl t.row1 (Dk.uw_oneT _) t.ne1).mono ?_
 rintro e w' ⟨v',rfl,ho,hb,hv,a⟩
 exact ⟨rfl,v',v2,v3,t.set1 a hb ho (Dk.From.same _ hv),⟨fun y hy=>ft.ws y (by simp [hy]),ft.ps,ft.gs⟩⟩
theorem zmi (h:Dk.Tb W w bt room [] ps gs us) :
  Calls Tryz.prog 211 #[.pointer (some ⟨bt,1,none⟩)] w fun e w'=>e=.returned (.tuple #[.int .u64 0,.bool false])∧w'=w:=by
 obtain ⟨v1,v2,v3,t,ft⟩:=Hid.out h
 obtain ⟨A,C,ev,_,_⟩:=Dk.zc t.row1
 exact zhr bt 1 C A w (by rw [t.head.cell,ev];rfl)
theorem zl6 {x:Int} (h:Dk.Tb W w bt room ws ps (x::gs) us) :
  Calls Tryz.prog 209 #[.pointer (some ⟨bt,3,none⟩)] w fun e w'=>e=.returned (.tuple #[.int .i64 x,.bool true])∧Dk.Tb W w' bt room ws ps gs us:=by
 obtain ⟨v1,v2,v3,t,ft⟩:=Hid.out h
 refine (zhp W.heap.size bt 3 _ 179 v3 x (Dk.is gs) gs.length w t.head rfl t.row3 (Dk.is_oneT _) t.ne3).mono ?_
 rintro e w' ⟨v',rfl,ho,hb,hv,a⟩
 exact ⟨rfl,v1,v2,v',t.set3 a hb ho (Dk.From.same _ hv),⟨ft.ws,ft.ps,fun y hy=>ft.gs y (by simp [hy])⟩⟩
theorem zis (h:Dk.Tb W w bt room ws ps [] us) :
  Calls Tryz.prog 209 #[.pointer (some ⟨bt,3,none⟩)] w fun e w'=>e=.returned (.tuple #[.int .i64 0,.bool false])∧w'=w:=by
 obtain ⟨v1,v2,v3,t,ft⟩:=Hid.out h
 obtain ⟨A,C,ev,_,_⟩:=Dk.zc t.row3
 exact ziz bt 3 C A w (by rw [t.head.cell,ev];rfl)
theorem zjj {x:Int × Nat} (h:Dk.Tb W w bt room ws (x::ps) gs us) :
  Calls Tryz.prog 212 #[.pointer (some ⟨bt,2,none⟩)] w fun e w'=>e=.returned (.tuple #[.agg #[.int .i64 x.1,.int .u64 (x.2:Nat)],.bool true])∧Dk.Tb W w' bt room ws ps gs us:=by
 obtain ⟨v1,v2,v3,t,ft⟩:=Hid.out h
 refine (zfv W.heap.size bt 2 _ 179 v2 x (Dk.prs ps) ps.length w t.head rfl t.row2 (Dk.zpm _) t.ne2).mono ?_
 rintro e w' ⟨v',rfl,ho,hb,hv,a⟩
 exact ⟨rfl,v1,v',v3,t.set2 a hb ho (Dk.From.same _ hv),⟨ft.ws,fun y hy=>ft.ps y (by simp [hy]),ft.gs⟩⟩
theorem zmh (h:Dk.Tb W w bt room ws [] gs us) :
  Calls Tryz.prog 212 #[.pointer (some ⟨bt,2,none⟩)] w fun e w'=>e=.returned (.tuple #[.agg #[.int .i64 0,.int .u64 0],.bool false])∧Below w.heap.size w w':=by
 obtain ⟨v1,v2,v3,t,ft⟩:=Hid.out h
 obtain ⟨A,C,ev,_,_⟩:=Dk.zc t.row2
 exact zhq bt 2 C A w t.head.lt (by rw [t.head.cell,ev];rfl)
theorem Tb.add1 (h:Dk.Tb W w bt room ws ps gs us) (x:Nat) (hx:x < 2 ^ 64) (hl:ws.length≤1000) :
  ∃ A n C A' n' C' w',w.cell? ⟨bt,1,none⟩=some (.slice A n C)∧(Builtin.append_ #[55,55] 55 #[.slice A n C,.slice (some ⟨w.heap.size,0,none⟩) 1 1]).run Tryz.prog (w.alloc (.cells #[.int .u64 (x:Nat)] 38))=.ok (.slice A' n' C') w'∧w'.cell? ⟨bt,1,none⟩=some (.slice A n C)∧w'.frozen? ⟨bt,1,none⟩=false∧Dk.Tb W (w'.setCell ⟨bt,1,none⟩ (.slice A' n' C')) bt room (ws++[x]) ps gs us:=by
 obtain ⟨v1,v2,v3,t,ft⟩:=Hid.out h
 obtain ⟨W1,e1⟩:∃ W1,W1=w.alloc (.cells #[.int .u64 (x:Nat)] 38):=⟨_,rfl⟩
 have u1:Below w.heap.size w W1:=by rw [e1];exact Dk.zb (Below.refl _ _) _
 have b1:Dk.Box W1 w.heap.size #[.int .u64 (x:Nat)] 38:=by rw [e1];exact Dk.Box.new _ _ _
 have t1:=t.below u1
 obtain ⟨A,C,ev,_,_⟩:=Dk.zc t.row1
 obtain ⟨v',w',hr,ho,hg,hf,_⟩:=K25T.append W.heap.size 55 v1 _ _ W1 t1.row1 ⟨w.heap.size,0,none⟩ 1 1 [.int .u64 (x:Nat)] rfl (fun j u hj=>by
  rw [Addr.add_lit,Nat.zero_add,b1.cell]
  simpa using hj) (fun u hu=>by simp at hu;rw [hu];rfl) (by omega) t1.up.size
 have ho':w'.ownsRow W.heap.size 38 1 v' (ws++[x]).length (Dk.uwT (ws++[x])):=by
  rw [List.length_append,Dk.uwT,List.map_append]
  exact ho
 obtain ⟨A',C',ev',_,_⟩:=Dk.zc ho
 have hb:Dk.Box w' bt #[.int .i64 room,v1,v2,v3] 179:=⟨by rw [hg.block bt t1.head.lt (fun e=>t1.ne1 e.symm)];exact t1.head.heap⟩
 rw [← e1]
 subst ev'
 have o2:=Dk.za3 ho' ((Dk.Away.refl (fun k=>k=bt) w').set (.inl rfl) 1 (.slice A' (ws.length+1) C')) (fun k hk e=>by
  rcases hf k hk with q | q
  ·rw [e] at q;exact t1.ne1 q
  ·have:=t1.head.lt;omega)
 have a2:Dk.Away (fun k=>k=bt∨v1.ownBlock=some k) W1 (w'.setCell ⟨bt,1,none⟩ (.slice A' (ws.length+1) C')):=(Dk.Away.zad hg (fun k hk=>.inl (.inr hk))).set (.inl (.inl rfl)) _ _
 have T:=t1.set1 a2 (hb.set 1 _) o2 hf
 subst ev
 exact ⟨_,_,_,_,_,_,w',t.head.cell 1,hr,hb.cell 1,hb.frozen 1,⟨_,_,_,T,⟨fun y hy=>by
  rcases List.mem_append.1 hy with hy | hy
  ·exact ft.ws y hy
  ·rw [List.mem_singleton] at hy;rw [hy];exact hx,ft.ps,ft.gs⟩⟩⟩
theorem Tb.add3 (h:Dk.Tb W w bt room ws ps gs us) (x:Int) (hx:Dk.i64 x) (hl:gs.length≤1000) :
  ∃ A n C A' n' C' w',w.cell? ⟨bt,3,none⟩=some (.slice A n C)∧(Builtin.append_ #[23,23] 23 #[.slice A n C,.slice (some ⟨w.heap.size,0,none⟩) 1 1]).run Tryz.prog (w.alloc (.cells #[.int .i64 x] 3))=.ok (.slice A' n' C') w'∧w'.cell? ⟨bt,3,none⟩=some (.slice A n C)∧w'.frozen? ⟨bt,3,none⟩=false∧Dk.Tb W (w'.setCell ⟨bt,3,none⟩ (.slice A' n' C')) bt room ws ps (gs++[x]) us:=by
 obtain ⟨v1,v2,v3,t,ft⟩:=Hid.out h
 obtain ⟨W1,e1⟩:∃ W1,W1=w.alloc (.cells #[.int .i64 x] 3):=⟨_,rfl⟩
 have u1:Below w.heap.size w W1:=by rw [e1];exact Dk.zb (Below.refl _ _) _
 have b1:Dk.Box W1 w.heap.size #[.int .i64 x] 3:=by rw [e1];exact Dk.Box.new _ _ _
 have t1:=t.below u1
 obtain ⟨A,C,ev,_,_⟩:=Dk.zc t.row3
 obtain ⟨v',w',hr,ho,hg,hf,_⟩:=K26T.append W.heap.size 23 v3 _ _ W1 t1.row3 ⟨w.heap.size,0,none⟩ 1 1 [.int .i64 x] rfl (fun j u hj=>by
  rw [Addr.add_lit,Nat.zero_add,b1.cell]
  simpa using hj) (fun u hu=>by simp at hu;rw [hu];rfl) (by omega) t1.up.size
 have ho':w'.ownsRow W.heap.size 3 1 v' (gs++[x]).length (Dk.is (gs++[x])):=by
  rw [List.length_append,Dk.is,List.map_append]
  exact ho
 obtain ⟨A',C',ev',_,_⟩:=Dk.zc ho
 have hb:Dk.Box w' bt #[.int .i64 room,v1,v2,v3] 179:=⟨by rw [hg.block bt t1.head.lt (fun e=>t1.ne3 e.symm)];exact t1.head.heap⟩
 rw [← e1]
 subst ev'
 have o2:=Dk.za3 ho' ((Dk.Away.refl (fun k=>k=bt) w').set (.inl rfl) 3 (.slice A' (gs.length+1) C')) (fun k hk e=>by
  rcases hf k hk with q | q
  ·rw [e] at q;exact t1.ne3 q
  ·have:=t1.head.lt;omega)
 have a2:Dk.Away (fun k=>k=bt∨v3.ownBlock=some k) W1 (w'.setCell ⟨bt,3,none⟩ (.slice A' (gs.length+1) C')):=(Dk.Away.zad hg (fun k hk=>.inl (.inr hk))).set (.inl (.inl rfl)) _ _
 have T:=t1.set3 a2 (hb.set 3 _) o2 hf
 subst ev
 exact ⟨_,_,_,_,_,_,w',t.head.cell 3,hr,hb.cell 3,hb.frozen 3,⟨_,_,_,T,⟨ft.ws,ft.ps,fun y hy=>by
  rcases List.mem_append.1 hy with hy | hy
  ·exact ft.gs y hy
  ·rw [List.mem_singleton] at hy;rw [hy];exact hx⟩⟩⟩
theorem Tb.add2 (h:Dk.Tb W w bt room ws ps gs us) (x:Int) (y:Nat) (hx:Dk.i64 x) (hy:y < 2 ^ 64) (hl:ps.length≤1000) :
  ∃ A n C A' n' C' w',w.cell? ⟨bt,2,none⟩=some (.slice A n C)∧(Builtin.append_ #[177,177] 177 #[.slice A n C,.slice (some ⟨w.heap.size,0,none⟩) 1 1]).run Tryz.prog (w.alloc (.cells #[.int .i64 x,.int .u64 (y:Nat)] 298))=.ok (.slice A' n' C') w'∧w'.cell? ⟨bt,2,none⟩=some (.slice A n C)∧w'.frozen? ⟨bt,2,none⟩=false∧Dk.Tb W (w'.setCell ⟨bt,2,none⟩ (.slice A' n' C')) bt room ws (ps++[(x,y)]) gs us:=by
 obtain ⟨v1,v2,v3,t,ft⟩:=Hid.out h
 obtain ⟨W1,e1⟩:∃ W1,W1=w.alloc (.cells #[.int .i64 x,.int .u64 (y:Nat)] 298):=⟨_,rfl⟩
 have u1:Below w.heap.size w W1:=by rw [e1];exact Dk.zb (Below.refl _ _) _
 have b1:Dk.Box W1 w.heap.size #[.int .i64 x,.int .u64 (y:Nat)] 298:=by rw [e1];exact Dk.Box.new _ _ _
 have t1:=t.below u1
 obtain ⟨A,C,ev,_,_⟩:=Dk.zc t.row2
 obtain ⟨v',w',hr,ho,hg,hf,_⟩:=K44.append W.heap.size 177 v2 _ _ W1 t1.row2 ⟨w.heap.size,0,none⟩ 1 1 [.int .i64 x,.int .u64 (y:Nat)] rfl (fun j u hj=>by
  rw [Addr.add_lit,Nat.zero_add,b1.cell]
  simpa using hj) (fun u hu=>by simp at hu;rcases hu with rfl | rfl <;> rfl) (by omega) t1.up.size
 have ho':w'.ownsRow W.heap.size 298 2 v' (ps++[(x,y)]).length (Dk.prs (ps++[(x,y)])):=by
  rw [List.length_append,Dk.zdx]
  exact ho
 obtain ⟨A',C',ev',_,_⟩:=Dk.zc ho
 have hb:Dk.Box w' bt #[.int .i64 room,v1,v2,v3] 179:=⟨by rw [hg.block bt t1.head.lt (fun e=>t1.ne2 e.symm)];exact t1.head.heap⟩
 rw [← e1]
 subst ev'
 have o2:=Dk.za3 ho' ((Dk.Away.refl (fun k=>k=bt) w').set (.inl rfl) 2 (.slice A' (ps.length+1) C')) (fun k hk e=>by
  rcases hf k hk with q | q
  ·rw [e] at q;exact t1.ne2 q
  ·have:=t1.head.lt;omega)
 have a2:Dk.Away (fun k=>k=bt∨v2.ownBlock=some k) W1 (w'.setCell ⟨bt,2,none⟩ (.slice A' (ps.length+1) C')):=(Dk.Away.zad hg (fun k hk=>.inl (.inr hk))).set (.inl (.inl rfl)) _ _
 have T:=t1.set2 a2 (hb.set 2 _) o2 hf
 subst ev
 exact ⟨_,_,_,_,_,_,w',t.head.cell 2,hr,hb.cell 2,hb.frozen 2,⟨_,_,_,T,⟨ft.ws,fun q hq=>by
  rcases List.mem_append.1 hq with hq | hq
  ·exact ft.ps q hq
  ·rw [List.mem_singleton] at hq;rw [hq];exact ⟨hx,hy⟩,ft.gs⟩⟩⟩
end
end Go.Proofs.YtglhhlfopccmaaaGreat
namespace Dk
open Go Go.RowKit
abbrev uwK (xs:List Nat):List Value:=xs.map (fun n=>Value.int .u64 (n:Nat))
structure Rq where
 who:Int
 block:Int
 write:Bool
 x:Nat
def Rq.zero:Rq:=⟨0,0,false,0⟩
def Rq.ok (r:Rq):Prop:=i64 r.who∧i64 r.block∧r.x < 2 ^ 64
def Rq.cells (r:Rq):List Value:=[.int .i64 r.who,.int .i64 r.block,.bool r.write,.int .u64 (r.x:Nat)]
def rqs:List Rq→List Value
 | []=>[]
 | r::l=>r.cells++rqs l
theorem zdz:∀ ps qs,rqs (ps++qs)=rqs ps++rqs qs
 | [],qs=>rfl
 | p::r,qs=>by rw [List.cons_append,rqs,rqs,zdz r,List.append_assoc]
theorem zj4:∀ ps,∀ u ∈ rqs ps,u.oneCell'=true
 | [],u,h=>absurd h (by simp [rqs])
 | p::r,u,h=>by
  rw [rqs] at h
  rcases List.mem_append.1 h with h | h
  ·simp [Rq.cells] at h
   rcases h with rfl | rfl | rfl | rfl <;> rfl
  ·exact zj4 r u h
theorem zj3:∀ (ps:List Rq) (k:Nat),k < ps.length→∀ j,j < 4→(rqs ps)[k*4+j]? = (ps.getD k Rq.zero).cells[j]?
 | [],k,h=>absurd h (by simp)
 | p::r,0,_=>fun j hj=>by
  rw [rqs,List.getElem?_append_left (by simp [Rq.cells];omega),Nat.zero_mul,Nat.zero_add]
  rfl
 | p::r,k+1,h=>fun j hj=>by
  have:=zj3 r k (by simp at h;omega) j hj
  rw [rqs,List.getElem?_append_right (by simp [Rq.cells];omega)]
  simp only [Rq.cells,List.length_cons,List.length_nil,List.getD_cons_succ]
  rw [show (k+1)*4+j - (0+1+1+1+1)=k*4+j by omega]
  exact this
theorem zla:∀ (ps:List Rq) (k:Nat),(rqs ps).take (k*4)=rqs (ps.take k)
 | [],k=>by simp [rqs]
 | p::r,0=>by simp [rqs]
 | p::r,k+1=>by
  rw [rqs,List.take_append,List.take_of_length_le (by simp [Rq.cells];omega),List.take_succ_cons,rqs,← zla r k]
  congr 2
  simp [Rq.cells]
  omega
theorem zk9:∀ (ps:List Rq) (k:Nat),(rqs ps).drop (k*4)=rqs (ps.drop k)
 | [],k=>by simp [rqs]
 | p::r,0=>by simp
 | p::r,k+1=>by
  rw [rqs,List.drop_append,List.drop_eq_nil_of_le (by simp [Rq.cells];omega),List.nil_append,List.drop_succ_cons,← zk9 r k]
  congr 1
  simp [Rq.cells]
  omega
theorem zpt (ps:List Rq) (k:Nat):rqs (ps.eraseIdx k)=(rqs ps).take (k*4)++(rqs ps).drop ((k+1)*4):=by
 rw [zla,zk9,List.eraseIdx_eq_take_drop_succ,zdz]
structure FitK (bs:List Nat) (rs:List Rq):Prop where
 words:∀ x ∈ bs,x < 2 ^ 64
 reqs:∀ r ∈ rs,r.ok
 there:∀ r ∈ rs,0≤r.block∧r.block < bs.length
theorem zig {α:Type} (l:List α) (d:α) (k:Nat) (h:k < l.length):l.getD k d ∈ l:=by simp [List.getD,h]
theorem FitK.erase {bs:List Nat} {rs:List Rq} (h:FitK bs rs) (k:Nat):FitK bs (rs.eraseIdx k):=⟨h.words,fun r hr=>h.reqs r (List.mem_of_mem_eraseIdx hr),fun r hr=>h.there r (List.mem_of_mem_eraseIdx hr)⟩
theorem FitK.add {bs:List Nat} {rs:List Rq} (h:FitK bs rs) {r:Rq} (hr:r.ok) (hb:0≤r.block∧r.block < bs.length):FitK bs (rs++[r]):=⟨h.words,fun q hq=>by
 rcases List.mem_append.1 hq with hq | hq
 ·exact h.reqs q hq
 ·rw [List.mem_singleton] at hq;rw [hq];exact hr,fun q hq=>by
 rcases List.mem_append.1 hq with hq | hq
 ·exact h.there q hq
 ·rw [List.mem_singleton] at hq;rw [hq];exact hb⟩
theorem FitK.set {bs:List Nat} {rs:List Rq} (h:FitK bs rs) (k x:Nat) (hx:x < 2 ^ 64):FitK (bs.set k x) rs:=⟨fun y hy=>by
 rcases List.mem_or_eq_of_mem_set hy with hy | hy
 ·exact h.words y hy
 ·rw [hy];exact hx,h.reqs,fun r hr=>by rw [List.length_set];exact h.there r hr⟩
def disk (bd:Nat) (v1 v2:Value) (bs:List Nat) (rs:List Rq) (us:List Thing):List Thing:=
 boxOf bd #[v1,v2] 174::rowOf 38 1 v1 bs.length (uwK bs)::rowOf 142 4 v2 rs.length (rqs rs)::us
def Dsk (W w:World) (bd:Nat) (v1 v2:Value) (bs:List Nat) (rs:List Rq) (us:List Thing):Prop:=Sep W w (disk bd v1 v2 bs rs us)
def Db (W w:World) (bd:Nat) (bs:List Nat) (rs:List Rq) (us:List Thing):Prop:=Hid (∃ v1 v2,Dsk W w bd v1 v2 bs rs us∧FitK bs rs)
section
variable {W w w' : World} {x y x' y' : Thing} {us : List Thing}
theorem Sep.twoK (h:Sep W w (x::y::us)) (a:Away (fun k=>x.own k∨y.own k) w w') (hx:x'.holds w') (hy:y'.holds w') (nx:∀ k,x'.own k→x.own k) (ny:∀ k,y'.own k→y.own k∨w.heap.size≤k):Sep W w' (x'::y'::us):=by
 have q:=Hid.out h
 have qx:=q.all x (by simp)
 have qy:=q.all y (by simp)
 have p1:=List.pairwise_cons.1 q.apart
 have p2:=List.pairwise_cons.1 p1.2
 refine ⟨fun t ht=>?_,?_,a.below q.up (fun k hk=>hk.elim (qx.2 k) (qy.2 k))⟩
 ·rcases List.mem_cons.1 ht with rfl | ht
  ·exact ⟨hx,fun k hk=>qx.2 k (nx k hk)⟩
  rcases List.mem_cons.1 ht with rfl | ht
  ·exact ⟨hy,fun k hk=>(ny k hk).elim (qy.2 k) (fun h1=>Nat.le_trans q.up.size h1)⟩
  ·have qt:=q.all t (by simp [ht])
   refine ⟨t.local_ w w' qt.1 (fun k hk=>a.block k (t.lt w qt.1 k hk) (fun ho=>?_)),qt.2⟩
   exact ho.elim (fun ho=>p1.1 t (by simp [ht]) k ho hk) (fun ho=>p2.1 t ht k ho hk)
 ·refine List.pairwise_cons.2 ⟨fun t ht k hk htk=>?_,List.pairwise_cons.2 ⟨fun t ht k hk htk=>?_,p2.2⟩⟩
  ·rcases List.mem_cons.1 ht with rfl | ht
   ·exact (ny k htk).elim (p1.1 y (by simp) k (nx k hk)) (fun h1=>absurd (x.lt w qx.1 k (nx k hk)) (by omega))
   ·exact p1.1 t (by simp [ht]) k (nx k hk) htk
  ·have qt:=q.all t (by simp [ht])
   exact (ny k hk).elim (fun ho=>p2.1 t ht k ho htk) (fun h1=>absurd (t.lt w qt.1 k htk) (by omega))
variable {bd : Nat} {v1 v2 v1' v2' : Value} {bs bs' : List Nat} {rs rs' : List Rq}
theorem Dsk.head (h:Dsk W w bd v1 v2 bs rs us):Box w bd #[v1,v2] 174:=Sep.box h (by simp [disk])
theorem Dsk.row1 (h:Dsk W w bd v1 v2 bs rs us):w.ownsRow W.heap.size 38 1 v1 bs.length (uwK bs):=Sep.row h (by simp [disk])
theorem Dsk.row2 (h:Dsk W w bd v1 v2 bs rs us):w.ownsRow W.heap.size 142 4 v2 rs.length (rqs rs):=Sep.row h (by simp [disk])
theorem Dsk.up (h:Dsk W w bd v1 v2 bs rs us):Below W.heap.size W w:=Sep.out h
theorem Dsk.below (h:Dsk W w bd v1 v2 bs rs us) (b:Below w.heap.size w w'):Dsk W w' bd v1 v2 bs rs us:=Sep.below h b
theorem Dsk.ne1 (h:Dsk W w bd v1 v2 bs rs us):v1.ownBlock≠some bd:=fun e=>by
 have q:=(List.pairwise_cons.1 (Hid.out h).apart).1 (rowOf 38 1 v1 bs.length (uwK bs)) (by simp)
 exact q bd rfl e
theorem Dsk.ne2 (h:Dsk W w bd v1 v2 bs rs us):v2.ownBlock≠some bd:=fun e=>by
 have q:=(List.pairwise_cons.1 (Hid.out h).apart).1 (rowOf 142 4 v2 rs.length (rqs rs)) (by simp)
 exact q bd rfl e
theorem Dsk.set1 (h:Dsk W w bd v1 v2 bs rs us) (a:Away (fun k=>v1.ownBlock=some k) w w') (ho:w'.ownsRow W.heap.size 38 1 v1 bs'.length (uwK bs')):Dsk W w' bd v1 v2 bs' rs us:=
 Sep.turn (us1:=[boxOf bd #[v1,v2] 174]) (t:=rowOf 38 1 v1 bs.length (uwK bs)) (t':=rowOf 38 1 v1 bs'.length (uwK bs')) h a (zam ho (Nat.zero_le _)) (fun k hk=>.inl hk)
theorem Dsk.set2 (h:Dsk W w bd v1 v2 bs rs us) (a:Away (fun k=>k=bd∨v2.ownBlock=some k) w w') (hb:Box w' bd #[v1,v2'] 174) (ho:w'.ownsRow W.heap.size 142 4 v2' rs'.length (rqs rs')) (hf:From w v2 v2'):Dsk W w' bd v1 v2' bs rs' us:=by
 have p:=Sep.perm h (us:=boxOf bd #[v1,v2] 174::rowOf 142 4 v2 rs.length (rqs rs)::rowOf 38 1 v1 bs.length (uwK bs)::us) ((List.Perm.swap _ _ _).cons _)
 have q:=Sep.twoK (x':=boxOf bd #[v1,v2'] 174) (y':=rowOf 142 4 v2' rs'.length (rqs rs')) p a hb (zam ho (Nat.zero_le _)) (fun k hk=>hk) hf
 exact Sep.perm q ((List.Perm.swap _ _ _).cons _)
theorem Db.out (h:Db W w bd bs rs us):Below W.heap.size W w:=by
 obtain ⟨v1,v2,t,_⟩:=Hid.out h
 exact t.up
theorem Db.fit (h:Db W w bd bs rs us):FitK bs rs:=by
 obtain ⟨v1,v2,_,f⟩:=Hid.out h
 exact f
theorem Db.below (h:Db W w bd bs rs us) (b:Below w.heap.size w w'):Db W w' bd bs rs us:=by
 obtain ⟨v1,v2,t,f⟩:=Hid.out h
 exact ⟨v1,v2,t.below b,f⟩
end
end Dk
namespace Go.Proofs.YtglhhlfopccmaaaGreat
open Go.RowKit Go.Lib
theorem zfu {P:Program} (w:World) (t e ty:TypeId) (z:Value) (zs:List Value) (ht:P.underlying t=some (.slice e)) (hv:∀ w,(zeroValue e).run P w=.ok z w) (hz:(Builtin.zeroCells z.cells 1).toList=zs) (h1:∀ u ∈ zs,u.oneCell'=true) (b o c:Nat)
  (hc:∀ j,j < zs.length→(w.cell? ⟨b,o+j,none⟩).isSome=true) (hf:∀ j,j < zs.length→w.frozen? ⟨b,o+j,none⟩=false) :
  (Builtin.clear_ #[t] ty #[.slice (some ⟨b,o,none⟩) 1 c]).run P w=.ok (.tuple #[]) (w.setCells b o zs):=by
 have hst:=run_storeCells_cells (P:=P) b o zs 0 w (by simpa using hc) (by simpa using hf) h1
 simp only [Nat.add_zero] at hst
 simp [Builtin.clear_,run_underlying ht,hv,hz,hst]
theorem zjw {w:World} {base b n cap s:Nat} {cur:Array Value} {t:TypeId} {vs:List Value} (h:Dk.Box w b cur t) (hb:base≤b) (hc:cur.size=cap*s) (hm:cap≤maxLen) (hn:vs.length=n*s) (hl:n≤cap) (hv:∀ j,j < n*s→cur[j]? = vs[j]?):w.ownsRow base t s (.slice (some ⟨b,0,none⟩) n cap) n vs:=by
 refine ⟨hn,.inr ⟨b,cap,cur,rfl,hb,h.heap,hl,hm,hc,?_⟩⟩
 apply List.ext_getElem?
 intro j
 rw [List.getElem?_take]
 by_cases hj:j < n*s
 ·rw [if_pos hj,Array.getElem?_toList];exact hv j hj
 ·rw [if_neg hj,List.getElem?_eq_none (by omega)]
theorem info27K:(Tryz.prog.info? 38).map (fun i=>(i.zero,i.size,i.bytes))=some (some (.int .u64 0),1,8):=by kernel_rfl
theorem info29:(Tryz.prog.info? 142).map (fun i=>(i.zero,i.size,i.bytes))=some (some (.agg #[.int .i64 0,.int .i64 0,.bool false,.int .u64 0]),4,32):=by kernel_rfl
theorem zli (B:Nat) (v:Value) (xs:List Value) (n k:Nat) (w:World) (h:w.ownsRow B 142 4 v (n+1) xs) (hk:k≤n) (h1:∀ u ∈ xs,u.oneCell'=true) :
  Calls Tryz.prog 132 #[v,.int .i64 (k:Int),.int .i64 ((k:Int)+1)] w fun e w'=>∃ v',e=.returned v'∧w'.ownsRow B 142 4 v' n (xs.take (k*4)++xs.drop ((k+1)*4))∧w.grownBy w' v.ownBlock∧v'.ownBlock=v.ownBlock:=by
 obtain ⟨hl,⟨_,h2⟩ | ⟨g,cap,cur,rfl,hb,hg,hn,hm,hs,ht⟩⟩:=id h
 ·omega
 obtain ⟨cs,ecs⟩:∃ cs,cs=xs.drop ((k+1)*4):=⟨_,rfl⟩
 have hcl:cs.length=(n - k)*4:=by rw [ecs,List.length_drop];omega
 have hbx:Dk.Box w g cur 142:=⟨hg⟩
 have hm':=hm
 unfold maxLen at hm'
 obtain ⟨i0,hi0,hz0,hz1,hz2⟩:=info_parts info29
 have hxs:∀ j,j < (n+1)*4→cur[j]? = xs[j]?:=fun j hj=>by
  rw [← ht,List.getElem?_take,if_pos hj,Array.getElem?_toList]
 have hcur:∀ j u,cs[j]? = some u→cur[(k+1)*4+j]? = some u:=fun j u hj=>by
  have hj':j < cs.length:=(List.getElem?_eq_some_iff.1 hj).1
  rw [hxs _ (by omega),← hj,ecs,List.getElem?_drop]
 obtain ⟨A,hA,hsrc⟩:∃ A:Addr,(if cap=k+1 then some (⟨g,0,none⟩:Addr) else some ⟨g,(k+1)*4,none⟩)=some A∧Hid (∀ t u,cs[t]? = some u→w.drew.cell? (A.add t)=some u):=by
  by_cases h:cap=k+1
  ·refine ⟨⟨g,0,none⟩,by simp [h],fun t u hu=>?_⟩
   have:=(List.getElem?_eq_some_iff.1 hu).1
   omega
  ·refine ⟨⟨g,(k+1)*4,none⟩,by simp [h],fun t u hu=>?_⟩
   rw [Addr.add_lit,hbx.drew.cell]
   exact hcur t u hu
 have s1:Hid (cs.length=(n - k)*4):=hcl
 have s2:Hid (∀ u ∈ cs,u.oneCell'=true):=fun u hu=>h1 u (List.mem_of_mem_drop (ecs ▸ hu))
 have s3:Hid (∀ t,t < cs.length→(w.drew.cell? ⟨g,0+k*4+t,none⟩).isSome=true∧w.drew.frozen? ⟨g,0+k*4+t,none⟩=false):=by
  intro t ht
  refine ⟨?_,hbx.drew.frozen _⟩
  rw [hbx.drew.cell,Array.getElem?_eq_getElem (by omega)]
  rfl
 obtain ⟨W1,hW1⟩:∃ W1,W1=w.drew.setCells g (0+k*4) cs:=⟨_,rfl⟩
 have b1:Dk.Box W1 g (Dk.putAt cur (0+k*4) cs) 142:=by rw [hW1];exact Dk.Box.sets (w:=w) cs cur _ _ hbx.drew
 have g1:w.grownBy W1 (some g):=by rw [hW1];exact Dk.zao (w':=w) _ _ _ (Dk.zb5 (Dk.zh (Below.refl _ _)))
 have hclr:∀ ty,(Builtin.clear_ #[172] ty #[.slice (some ⟨g,n*4,none⟩) 1 (cap - n)]).run Tryz.prog W1=.ok (.tuple #[]) (W1.setCells g (n*4) [.int .i64 0,.int .i64 0,.bool false,.int .u64 0]):=
  fun ty=>zfu W1 172 142 ty (.agg #[.int .i64 0,.int .i64 0,.bool false,.int .u64 0]) [.int .i64 0,.int .i64 0,.bool false,.int .u64 0] Tryz.underlying172 Tryz.zeroValue142 (by simp [Builtin.zeroCells,Value.cells] <;> rfl) (by intro u hu;simp only [List.mem_cons,List.not_mem_nil,or_false] at hu;rcases hu with rfl | rfl | rfl | rfl <;> rfl) g (n*4) _ (fun j hj=>by
   simp only [List.length_cons,List.length_nil] at hj
   rw [b1.cell,Array.getElem?_eq_getElem (by rw [Dk.zy];omega)]
   rfl) (fun j hj=>b1.frozen _)
 have fin:(W1.setCells g (n*4) [.int .i64 0,.int .i64 0,.bool false,.int .u64 0]).ownsRow B 142 4 (.slice (some ⟨g,0,none⟩) n cap) n (xs.take (k*4)++cs)∧w.grownBy (W1.setCells g (n*4) [.int .i64 0,.int .i64 0,.bool false,.int .u64 0]) (some g):=by
  refine ⟨zjw (Dk.Box.sets (w:=w) _ _ _ _ b1) hb (by rw [Dk.zy,Dk.zy];exact hs) hm (by rw [List.length_append,List.length_take];omega) (by omega) ?_,Dk.zao (w':=w) _ _ _ g1⟩
  intro j hj
  rw [Dk.zaz _ _ _ (by rw [Dk.zy];simp;omega),if_neg (by omega),Dk.zaz _ _ _ (by omega)]
  by_cases hjk:j < k*4
  ·rw [if_neg (by omega),List.getElem?_append_left (by rw [List.length_take];omega),List.getElem?_take,if_pos hjk]
   exact hxs j (by omega)
  ·rw [if_pos (by omega),List.getElem?_append_right (by rw [List.length_take];omega),List.length_take]
   congr 1
   omega
 rw [← ecs]
 have HF:Hid _:=fin
 have hW:Hid (W1=w.drew.setCells g (0+k*4) cs):=hW1
 have hkn:Hid (k+(n - k)=n):=by show _=_;omega
 have hic:n+1≤cap:=hn
 have hnc:n≤cap:=by omega
 have mixed:Tryz.prog.follows Departure.mixedOrders=true:=by kernel_rfl
 have hn1:(k:Int)+1≤(n:Int)+1:=by omega
 have hn2:(k:Int)≤(k:Int)+1:=by omega
 have hk0:(0:Int)≤(k:Int)+1:=by omega
 have hkc:k≤cap:=by omega
 clear fin hW1 b1 g1 hcur hbx ht hs hg hm hl h h1 hcl ecs hxs
 go_enter Tryz.func132,Tryz.ntmps132
 go_wp2_with fail
 go_region_law_o (refine step_append_room rfl (.tmp 22) (.tmp 25) 172 rfl 142 i0 4 Tryz.underlying172 hi0 hz1 g 0 k cap (by simp [Act.eval,Act.put]) A (n - k) (cap - (k+1)) cs (by simp [Act.eval,Act.put]) s1.out hsrc.out s2.out (by omega) s3.out ?_;rw [← hW.out,hkn.out])
 go_wp2
 go_ret
 exact ⟨_,rfl,HF.out.1,HF.out.2,rfl⟩
end Go.Proofs.YtglhhlfopccmaaaGreat
