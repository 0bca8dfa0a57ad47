import Derived.Test.YtpnajphbjfehnaaGreatLn14
import Derived.Maps.RangeWalk
import Derived.Maps.OwnSet
set_option linter.unusedSimpArgs false
set_option linter.unusedVariables false
set_option linter.unnecessarySimpa false
set_option maxHeartbeats 8000000
set_option maxRecDepth 100000
namespace Go.Proofs.YtpnajphbjfehnaaGreat
open Go.RowKit Go.Maps
theorem law3W:Keyed Tryz.prog 3:=int_keyed Tryz.underlying3
def ToldW (w:World) (bm M:Nat) (L:List (Int × Int)):Prop:=∃ (D:DataW Unit) (n:Nat),n≤M∧w.ownsMap Tryz.prog 3 (plainElem Tryz.prog 3) bm n D∧Dk.Tells D L
theorem ToldW.lt {w:World} {bm M:Nat} {L:List (Int × Int)} (h:ToldW w bm M L):bm < w.heap.size:=by
 obtain ⟨D,n,_,h,_⟩:=h
 exact h.lt
theorem ToldW.of_block {w w':World} {bm M:Nat} {L:List (Int × Int)} (h:ToldW w bm M L) (e:w'.heap[bm]? = w.heap[bm]?):ToldW w' bm M L:=by
 obtain ⟨D,n,hn,⟨es,clock,hb,r⟩,ht⟩:=h
 exact ⟨D,n,hn,⟨es,clock,e.trans hb,r⟩,ht⟩
structure WH (B M:Nat) (w:World) (bd bm:Nat) (now:Int) (L:List (Int × Int)):Prop where
 base:B≤bd
 baseM:B≤bm
 lo:0≤now
 hi:now≤1099511627776
 head:Dk.Box w bd #[.int .i64 now,.map (some bm)] 176
 map:ToldW w bm M L
 wf:∀ p ∈ L,Dk.i64 p.1∧Dk.i64 p.2
def AtW (bd bm:Nat) (k:Nat):Prop:=k=bd∨k=bm
theorem WH.at {B M:Nat} {w:World} {bd bm:Nat} {now:Int} {L:List (Int × Int)} (h:WH B M w bd bm now L):∀ k,AtW bd bm k→B≤k:=fun k hk=>hk.elim (fun e=>by rw [e];exact h.base) (fun e=>by rw [e];exact h.baseM)
theorem WH.ne {B M:Nat} {w:World} {bd bm:Nat} {now:Int} {L:List (Int × Int)} (h:WH B M w bd bm now L):bd≠bm:=fun e=>by
 obtain ⟨D,n,_,⟨es,clock,hb,_⟩,_⟩:=h.map
 have:=h.head.heap
 rw [e,hb] at this
 cases this
theorem WH.away {S:Nat→Prop} {B M:Nat} {w w':World} {bd bm:Nat} {now:Int} {L:List (Int × Int)} (h:WH B M w bd bm now L) (a:Dk.Away S w w') (hd:¬ S bd) (hm:¬ S bm):WH B M w' bd bm now L:=
 ⟨h.base,h.baseM,h.lo,h.hi,h.head.away a hd,h.map.of_block (a.block bm h.map.lt hm),h.wf⟩
theorem WH.up {B M:Nat} {w w':World} {bd bm:Nat} {now:Int} {L:List (Int × Int)} (h:WH B M w bd bm now L) (u:Below w.heap.size w w'):WH B M w' bd bm now L:=h.away (S:=fun _=>False) (Dk.Away.of_up u) id id
theorem wf_ofW {x:Int} (h:Dk.i64 x):(Lit.int .i64 x).wf=true:=by
 unfold Dk.i64 at h
 exact WalkArith.wf_i64 (by omega)
theorem New_anyW (w:World):Calls Tryz.prog 40 #[] w fun e w'=>e=.returned (.pointer (some ⟨w.heap.size+1,0,none⟩))∧WH w.heap.size 0 w' (w.heap.size+1) w.heap.size 0 []∧Below w.heap.size w w':=by
 have hmm:=@run_makeMap Tryz.prog
 obtain ⟨W1,e1⟩:∃ W1,W1=w.alloc (.map #[] 0):=⟨_,rfl⟩
 obtain ⟨W2,e2⟩:∃ W2,W2=W1.alloc (.cells #[.int .i64 0,.map (some w.heap.size)] 176):=⟨_,rfl⟩
 have hs:W1.heap.size=w.heap.size+1:=by rw [e1,World.size_alloc]
 have u2:Below w.heap.size w W2:=by rw [e2,e1];exact Dk.zb (Dk.zb (Below.refl _ _) _) _
 have o1:W1.ownsMap Tryz.prog 3 (plainElem (H:=Unit) Tryz.prog 3) w.heap.size 0 (.map []):=by rw [e1];exact World.ownsMap_made w Tryz.prog 3 _
 have o2:W2.ownsMap Tryz.prog 3 (plainElem (H:=Unit) Tryz.prog 3) w.heap.size 0 (.map []):=by rw [e2];exact o1.alloc _
 have b2:Dk.Box W2 (w.heap.size+1) #[.int .i64 0,.map (some w.heap.size)] 176:=by rw [e2,← hs];exact Dk.Box.new W1 _ 176
 have hw:WH w.heap.size 0 W2 (w.heap.size+1) w.heap.size 0 []:=⟨by omega,Nat.le_refl _,by omega,by omega,b2,⟨_,0,Nat.le_refl _,o2,Dk.Tells.empty⟩,fun p hp=>by cases hp⟩
 rw [e1] at e2
 have HW:Hid _:=hw
 have HU:Hid _:=u2
 have HE:Hid _:=e2
 clear hw u2 o1 o2 b2 hs e1 e2
 go_enter Tryz.func40,Tryz.ntmps40
 go_wp2
 go_ret
 rw [← HE.out]
 exact ⟨rfl,HW.out,HU.out⟩
section
variable {B M : Nat} {w : World} {bd bm : Nat} {now : Int} {L : List (Int × Int)}
theorem WH.put (h:WH B M w bd bm now L) {x c:Int} (hi:Dk.i64 x) (hc:Dk.i64 c) (hx:x ∉ Dk.keysOf L) (hM:M < 100000) (q:Nat) :
  ∃ w',(Instr.mapUpdate 165 (.map (some bm)) (.int .i64 x) (.int .i64 c)).run Tryz.prog (w.drewN q)=.ok () w'∧WH B (M+1) w' bd bm now (L++[(x,c)])∧Dk.Away (AtW bd bm) w w':=by
 have h':=h.up (Dk.zy (Below.refl _ _) q)
 obtain ⟨D,n,hn,ho,ht⟩:=h'.map
 obtain ⟨w',hr,ho',hg⟩:=ho.update law3W Tryz.underlying165 (by unfold maxLen;omega) (keyOf_int_mk Tryz.underlying3 (wf_ofW hi)) (plainElem_int Tryz.underlying3 (wf_ofW hc))
 have ne:=h.ne
 refine ⟨w',hr,⟨h.base,h.baseM,h.lo,h.hi,h'.head.far hg ne,⟨_,n+1,by omega,ho',ht.put hx⟩,fun p hp=>?_⟩,?_⟩
 ·rcases List.mem_append.1 hp with hp | hp
  ·exact h.wf p hp
  ·rw [List.mem_singleton] at hp
   rw [hp]
   exact ⟨hi,hc⟩
 ·exact (Dk.Away.of_up (Dk.zy (Below.refl _ _) q)).trans (Dk.Away.zar (S:=AtW bd bm) hg (fun k hk=>.inl (.inr (Option.some.inj hk).symm))) (fun k hk=>.inl hk)
end
end Go.Proofs.YtpnajphbjfehnaaGreat
namespace Dk
open Go Go.RowKit
abbrev uwT (xs:List Nat):List Value:=xs.map (fun n=>Value.int .u64 (n:Nat))
def prs:List (Int × Nat)→List Value
 | []=>[]
 | p::r=>[Value.int .i64 p.1,.int .u64 (p.2:Nat)]++prs r
structure FitT (ws:List Nat) (ps:List (Int × Nat)) (gs:List Int):Prop where
 ws:∀ x ∈ ws,x < 2 ^ 64
 ps:∀ p ∈ ps,i64 p.1∧p.2 < 2 ^ 64
 gs:∀ x ∈ gs,i64 x
def tube (bt:Nat) (room:Int) (v1 v2 v3:Value) (ws:List Nat) (ps:List (Int × Nat)) (gs:List Int) (us:List Thing):List Thing:=
 boxOf bt #[.int .i64 room,v1,v2,v3] 179::rowOf 73 1 v1 ws.length (uwT ws)::rowOf 344 2 v2 ps.length (prs ps)::rowOf 3 1 v3 gs.length (is gs)::us
def Tub (W w:World) (bt:Nat) (room:Int) (v1 v2 v3:Value) (ws:List Nat) (ps:List (Int × Nat)) (gs:List Int) (us:List Thing):Prop:=Sep W w (tube bt room v1 v2 v3 ws ps gs us)
def Tb (W w:World) (bt:Nat) (room:Int) (ws:List Nat) (ps:List (Int × Nat)) (gs:List Int) (us:List Thing):Prop:=Hid (∃ v1 v2 v3,Tub W w bt room v1 v2 v3 ws ps gs us∧FitT ws ps gs)
section
variable {W w w' : World} {x y x' y' : Thing} {us : List Thing}
theorem Sep.twoT (h:Sep W w (x::y::us)) (a:Away (fun k=>x.own k∨y.own k) w w') (hx:x'.holds w') (hy:y'.holds w') (nx:∀ k,x'.own k→x.own k) (ny:∀ k,y'.own k→y.own k∨w.heap.size≤k):Sep W w' (x'::y'::us):=by
 have q:=Hid.out h
 have qx:=q.all x (by simp)
 have qy:=q.all y (by simp)
 have p1:=List.pairwise_cons.1 q.apart
 have p2:=List.pairwise_cons.1 p1.2
 refine ⟨fun t ht=>?_,?_,a.below q.up (fun k hk=>hk.elim (qx.2 k) (qy.2 k))⟩
 ·rcases List.mem_cons.1 ht with rfl | ht
  ·exact ⟨hx,fun k hk=>qx.2 k (nx k hk)⟩
  rcases List.mem_cons.1 ht with rfl | ht
  ·exact ⟨hy,fun k hk=>(ny k hk).elim (qy.2 k) (fun h1=>Nat.le_trans q.up.size h1)⟩
  ·have qt:=q.all t (by simp [ht])
   refine ⟨t.local_ w w' qt.1 (fun k hk=>a.block k (t.lt w qt.1 k hk) (fun ho=>?_)),qt.2⟩
   exact ho.elim (fun ho=>p1.1 t (by simp [ht]) k ho hk) (fun ho=>p2.1 t ht k ho hk)
 ·refine List.pairwise_cons.2 ⟨fun t ht k hk htk=>?_,List.pairwise_cons.2 ⟨fun t ht k hk htk=>?_,p2.2⟩⟩
  ·rcases List.mem_cons.1 ht with rfl | ht
   ·exact (ny k htk).elim (p1.1 y (by simp) k (nx k hk)) (fun h1=>absurd (x.lt w qx.1 k (nx k hk)) (by omega))
   ·exact p1.1 t (by simp [ht]) k (nx k hk) htk
  ·have qt:=q.all t (by simp [ht])
   exact (ny k hk).elim (fun ho=>p2.1 t ht k ho htk) (fun h1=>absurd (t.lt w qt.1 k htk) (by omega))
variable {bt : Nat} {room : Int} {v1 v2 v3 v1' v2' v3' : Value} {ws ws' : List Nat} {ps ps' : List (Int × Nat)} {gs gs' : List Int}
theorem Tub.head (h:Tub W w bt room v1 v2 v3 ws ps gs us):Box w bt #[.int .i64 room,v1,v2,v3] 179:=Sep.box h (by simp [tube])
theorem Tub.row1 (h:Tub W w bt room v1 v2 v3 ws ps gs us):w.ownsRow W.heap.size 73 1 v1 ws.length (uwT ws):=Sep.row h (by simp [tube])
theorem Tub.up (h:Tub W w bt room v1 v2 v3 ws ps gs us):Below W.heap.size W w:=Sep.out h
theorem Tub.below (h:Tub W w bt room v1 v2 v3 ws ps gs us) (b:Below w.heap.size w w'):Tub W w' bt room v1 v2 v3 ws ps gs us:=Sep.below h b
theorem Tub.set1 (h:Tub W w bt room v1 v2 v3 ws ps gs us) (a:Away (fun k=>k=bt∨v1.ownBlock=some k) w w') (hb:Box w' bt #[.int .i64 room,v1',v2,v3] 179) (ho:w'.ownsRow W.heap.size 73 1 v1' ws'.length (uwT ws')) (hf:From w v1 v1'):Tub W w' bt room v1' v2 v3 ws' ps gs us:=
 Sep.twoT (x':=boxOf bt #[.int .i64 room,v1',v2,v3] 179) (y':=rowOf 73 1 v1' ws'.length (uwT ws')) h a hb (zx ho (Nat.zero_le _)) (fun k hk=>hk) hf
theorem Tb.out (h:Tb W w bt room ws ps gs us):Below W.heap.size W w:=by
 obtain ⟨v1,v2,v3,t,_⟩:=Hid.out h
 exact t.up
theorem Tb.below (h:Tb W w bt room ws ps gs us) (b:Below w.heap.size w w'):Tb W w' bt room ws ps gs us:=by
 obtain ⟨v1,v2,v3,t,f⟩:=Hid.out h
 exact ⟨v1,v2,v3,t.below b,f⟩
end
end Dk
