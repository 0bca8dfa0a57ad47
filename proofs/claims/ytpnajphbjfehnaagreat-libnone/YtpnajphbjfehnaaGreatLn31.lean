import Derived.Test.YtpnajphbjfehnaaGreatLn30
set_option linter.unusedSimpArgs false
set_option linter.unusedVariables false
set_option linter.unnecessarySimpa false
set_option maxHeartbeats 8000000
set_option maxRecDepth 100000
namespace Dk
open Go Go.RowKit
theorem zg4 (p:Int):nRows p≤64:=by unfold nRows;omega
theorem R0.blank {b:Nat} {V:Value} (ds:List (Nat × Value × List Int)) {n:Nat} (h:ds.map (fun d=>d.2.2)=List.replicate n []):R0 b (List.replicate n []) (boxOf b #[V] 149::rowOf 146 1 V ds.length (ptrs ds)::dqs ds):=⟨V,ds,h.symm,rfl⟩
end Dk
namespace Go.Proofs.YtpnajphbjfehnaaGreat
open Go.RowKit
theorem infoD:(Tryz.prog.info? 146).map (fun i=>(i.zero,i.size,i.bytes))=some (some (.pointer none),1,8):=by kernel_rfl
theorem KD:Dk.SlK Tryz.prog 147 146 (.pointer none) 1 8:=⟨Tryz.underlying147,infoD,rfl,by decide,by decide⟩
theorem New_rows {W w:World} {us:List Dk.Thing} (s:Dk.Sep W w us) (p:Int) (hi:Dk.i64 p):Calls Tryz.prog 43 #[.int .i64 p] w fun e w'=>∃ b ts,e=.returned (.pointer (some ⟨b,0,none⟩))∧Dk.R0 b (List.replicate (Dk.nRows p) []) ts∧Dk.Sep W w' (us++ts):=by
 have hn64:=Dk.zg4 p
 have e2:min (max p 0) 64=((Dk.nRows p:Nat):Int):=by unfold Dk.nRows;omega
 generalize Dk.nRows p=n at hn64 e2 ⊢
 obtain ⟨w1,ew1⟩:∃ w1,w1=w.alloc (.cells #[.slice none 0 0] 149):=⟨_,rfl⟩
 have s1:=s.newBox ew1
 have H1:Hid _:=ew1.symm
 have H2:Hid _:=e2
 generalize hb:w.heap.size=b at s1
 clear ew1 e2
 go_enter Tryz.func43,Tryz.ntmps43
 go_wp2_with fail
 rw [H1.out,H2.out]
 have start:∃ V ds,ds.length=0∧ds.map (fun d:Nat × Value × List Int=>d.2.2)=List.replicate 0 []∧Dk.Sep W w1 (us++(Dk.boxOf b #[V] 149::Dk.rowOf 146 1 V ds.length (Dk.ptrs ds)::Dk.dqs ds)):=by
  refine ⟨.slice none 0 0,[],rfl,rfl,?_⟩
  have q:=(s1.add (t:=Dk.rowOf 146 1 (.slice none 0 0) 0 []) (Below.refl _ _) (World.ownsRow_nil _ _ _ _) (fun k hk=>by simp [Dk.rowOf,Value.ownBlock] at hk))
  refine q.perm ?_
  refine List.Perm.trans (List.Perm.swap _ _ _) ?_
  exact List.perm_append_comm (l₁:=[_,_])
 have HS:Hid _:=start
 clear start s1 s H1 H2 hi hb
 go_loopw [9] (fun i w'=>∃ k:Nat,k≤n∧i=.int .i64 k∧Hid (∃ V ds,ds.length=k∧ds.map (fun d:Nat × Value × List Int=>d.2.2)=List.replicate k []∧Dk.Sep W w' (us++(Dk.boxOf b #[V] 149::Dk.rowOf 146 1 V ds.length (Dk.ptrs ds)::Dk.dqs ds)))) (fun i w'=>n - (RowKit.intOf i).toNat)
 case atStart=>exact ⟨0,Nat.zero_le _,rfl,HS.out⟩
 case round=>
  obtain ⟨k,hkn,rfl,HR⟩:=hrel
  obtain ⟨V,ds,hd1,hd2,hs⟩:=HR.out
  by_cases hlt:k < n
  ·have s0:=hs.below (Dk.zm (Below.refl _ _))
   obtain ⟨A,C,eV,_,_⟩:=Dk.zf (s0.row (e:=146) (s:=1) (v:=V) (n:=ds.length) (xs:=Dk.ptrs ds) (by simp))
   rw [hd1] at eV
   have c0:wr.drew.cell? ⟨b,0,none⟩=some (.slice A k C):=by rw [← eV];exact (s0.box (b:=b) (cs:=#[V]) (t:=149) (by simp)).cell 0
   have KN:=New_anyD wr.drew
   have fin:∀ w2,Dk.DQ wr.drew.heap.size w2 wr.drew.heap.size (.slice none 0 0) []→Below wr.drew.heap.size wr.drew w2→∃ A' n' C' w3,w2.cell? ⟨b,0,none⟩=some (.slice A k C)∧(w2.alloc (.cells #[.pointer (some ⟨wr.drew.heap.size,0,none⟩)] 146)).cell? ⟨b,0,none⟩=some (.slice A k C)∧
     (Builtin.append_ #[147,147] 147 #[.slice A k C,.slice (some ⟨w2.heap.size,0,none⟩) 1 1]).run Tryz.prog (w2.alloc (.cells #[.pointer (some ⟨wr.drew.heap.size,0,none⟩)] 146))=.ok (.slice A' n' C') w3∧
     w3.cell? ⟨b,0,none⟩=some (.slice A k C)∧w3.frozen? ⟨b,0,none⟩=false∧
     ∃ V ds,ds.length=k+1∧ds.map (fun d:Nat × Value × List Int=>d.2.2)=List.replicate (k+1) []∧Dk.Sep W (w3.setCell ⟨b,0,none⟩ (.slice A' n' C')) (us++(Dk.boxOf b #[V] 149::Dk.rowOf 146 1 V ds.length (Dk.ptrs ds)::Dk.dqs ds)):=by
    intro w2 hD u
    have t1:=s0.add (t:=Dk.dqT wr.drew.heap.size (.slice none 0 0) []) u ⟨Nat.zero_le _,hD.head,World.ownsRow_nil _ _ _ _,hD.ne,hD.wf⟩ (fun j hj=>hj.elim (fun e=>by omega) (fun e=>by simp [Value.ownBlock] at e))
    have b2:w2.cell? ⟨b,0,none⟩=some (.slice A k C):=by rw [← eV];exact (t1.box (b:=b) (cs:=#[V]) (t:=149) (by simp)).cell 0
    have t2:Dk.Sep W w2 ((Dk.dqT wr.drew.heap.size (.slice none 0 0) []::us++[Dk.boxOf b #[V] 149])++Dk.rowOf 146 1 V ds.length (Dk.ptrs ds)::Dk.dqs ds):=by simpa using t1
    obtain ⟨v',w3,hr,t3,hne⟩:=Dk.Sep.append (ty:=147) (x:=.pointer (some ⟨wr.drew.heap.size,0,none⟩)) KD t2 rfl (by omega)
    obtain ⟨A',C',ev,_,_⟩:=Dk.zf (t3.row (e:=146) (s:=1) (v:=v') (n:=ds.length+1) (xs:=Dk.ptrs ds++[.pointer (some ⟨wr.drew.heap.size,0,none⟩)]) (by simp))
    have bx:=t3.box (b:=b) (cs:=#[V]) (t:=149) (by simp)
    have t4:Dk.Sep W w3 ((Dk.dqT wr.drew.heap.size (.slice none 0 0) []::us)++Dk.boxOf b #[V] 149::(Dk.rowOf 146 1 v' (ds.length+1) (Dk.ptrs ds++[.pointer (some ⟨wr.drew.heap.size,0,none⟩)])::Dk.dqs ds)):=by simpa using t3
    have t5:=t4.setBox (o:=0) v'
    subst ev
    refine ⟨A',_,C',w3,b2,Lib.cell?_alloc_some _ b2,by rw [← eV];exact hr,by rw [← eV];exact bx.cell 0,bx.frozen 0,.slice A' (ds.length+1) C',ds++[(wr.drew.heap.size,.slice none 0 0,[])],by simp [hd1],by rw [List.map_append,hd2,List.replicate_succ'];rfl,?_⟩
    have eL:us++(Dk.boxOf b #[.slice A' (ds.length+1) C'] 149::Dk.rowOf 146 1 (.slice A' (ds.length+1) C') (ds++[(wr.drew.heap.size,Value.slice none 0 0,([]:List Int))]).length (Dk.ptrs (ds++[(wr.drew.heap.size,Value.slice none 0 0,[])]))::Dk.dqs (ds++[(wr.drew.heap.size,Value.slice none 0 0,[])])) =
      (us++(Dk.boxOf b #[.slice A' (ds.length+1) C'] 149::Dk.rowOf 146 1 (.slice A' (ds.length+1) C') (ds.length+1) (Dk.ptrs ds++[.pointer (some ⟨wr.drew.heap.size,0,none⟩)])::Dk.dqs ds))++[Dk.dqT wr.drew.heap.size (.slice none 0 0) []]:=by simp [Dk.dqs,Dk.ptrs]
    rw [eL]
    exact t5.perm (List.perm_append_comm (l₁:=[_]))
   have HF:Hid _:=fin
   have ew:wr.drew.heap.size=wr.heap.size:=rfl
   generalize wr.drew.heap.size=nb at *
   clear fin hs s0 hd1 hd2 HR eV
   go_wp2_with fail
   refine Dk.zbf (z:=10) (S:=fun w'=>w'.cell? ⟨b,0,none⟩=some (.slice A k C)) [0,1,2,3,4] [5,6,7,8,9,10] (by kernel_rfl) (by kernel_rfl) (by kernel_rfl) c0 ?_
   refine Dk.za (v:=.pointer (some ⟨b,0,none⟩)) rfl rfl (fun w' hw'=>by go_simp) ?_
   simp only [zD]
   refine Dk.za (v:=.pointer (some ⟨b,0,none⟩)) rfl rfl (fun w' hw'=>by go_simp) ?_
   simp only [zD]
   refine Dk.za (v:=.pointer (some ⟨b,0,none⟩)) rfl rfl (fun w' hw'=>by go_simp) ?_
   simp only [zD]
   refine Dk.za (v:=.pointer (some ⟨b,0,none⟩)) rfl rfl (fun w' hw'=>by go_simp) ?_
   simp only [zD]
   refine Dk.za (v:=.slice A k C) rfl rfl (fun w' hw'=>by go_simp) ?_
   simp only [zD]
   refine Dk.zhy (f:=80) (args:=#[]) rfl rfl (by go_simp) ?_
   refine KN.mono ?_
   rintro e w2 ⟨rfl,hD,u,hzz⟩
   clear hzz
   obtain ⟨A',n',C',w3,b2,b2',hr,b3,f3,hfin⟩:=HF.out w2 hD u
   have HE:Hid _:=hfin
   have HR3:Hid _:=hr
   clear hfin hD u KN HF hr c0
   refine ⟨_,rfl,fun _=>b2,?_⟩
   simp only [zD]
   obtain ⟨w2a,e2a⟩:∃ w2a,w2a=w2.alloc (.cells #[.pointer (some ⟨nb,0,none⟩)] 146):=⟨_,rfl⟩
   rw [← e2a] at b2'
   refine Dk.zaa (v:=.slice (some ⟨w2.heap.size,0,none⟩) 1 1) (w':=w2a) rfl rfl (by rw [e2a];go_simp) (fun _=>b2') ?_
   simp only [zD]
   have r3:=HR3.out
   rw [← e2a] at r3
   refine Dk.zaa (v:=.slice A' n' C') (w':=w3) rfl rfl (by simp only [execOp,resolve,invoke,builtin];simp [Act.eval,r3]) (fun _=>b3) ?_
   simp only [zD]
   refine Dk.zaa (v:=.pointer (some ⟨b,0,none⟩)) (w':=w3) rfl rfl (by go_simp) (fun _=>b3) ?_
   simp only [zD]
   refine Dk.zaa (v:=.pointer (some ⟨b,0,none⟩)) (w':=w3) rfl rfl (by go_simp) (fun _=>b3) ?_
   simp only [zD]
   refine Dk.zdu (w':=w3.setCell ⟨b,0,none⟩ (.slice A' n' C')) rfl rfl (by go_simp) (fun h=>absurd rfl h) ?_
   simp only [zD]
   rename_i hK
   refine hK _ _ ?_
   clear hK r3 e2a HR3 b2' b2 b3 f3
   go_wp2_with fail
   go_roundw
   case rel=>exact ⟨k+1,by omega,by go_num,HE.out⟩
   case measure=>simp [RowKit.intOf];omega
  ·obtain rfl:k=n:=by omega
   have HL:Hid _:=Dk.R0.blank (b:=b) (V:=V) ds hd2
   have HZ:Hid _:=hs
   clear hs hd1 hd2 HR
   go_wp2
   go_ret
   exact ⟨b,_,rfl,HL.out,HZ.out⟩
theorem rowsR:RowsI Dk.R0:={
 new:=fun s p hp=>New_rows s p hp
 add:=fun hR s hF hN p t _ ht=>Add_anyR hR s hF hN p t ht
 pick:=fun hR s hF hN p _=>Pick_any hR s hF hN p
 where_:=fun {_ w _ _ rs _ ts} hR s hF hN t _=>(zet hR s hF hN t).mono fun e w' h=>⟨Dk.whereT rs t,h.1,fun hl=>by unfold Dk.whereT;rw [if_pos hl],by
  have h1:=hF.rows
  unfold Dk.whereT Dk.i64
  split <;> omega,ts,hR,s.below h.2⟩
 empty:=fun {_ _ _ _ _ _ ts} hR s hF hN=>(zif hR s hF hN).mono fun e w' h=>⟨h.1,ts,hR,s.below h.2⟩
 row:=fun hR s hF hN p _=>Row_any hR s hF hN p
 add_nil:=fun w p t=>(Add_nil p t w).mono fun e w' h=>⟨h.1,by rw [h.2];exact Below.refl _ _⟩
 pick_nil:=fun w p=>(Pick_nil p w).mono fun e w' h=>⟨h.1,by rw [h.2];exact Below.refl _ _⟩
 where_nil:=fun w t=>(ziv t w).mono fun e w' h=>⟨⟨0,h.1⟩,by rw [h.2];exact Below.refl _ _⟩
 empty_nil:=fun w=>(zig w).mono fun e w' h=>⟨h.1,by rw [h.2];exact Below.refl _ _⟩
 row_nil:=fun w p=>(Row_nil p w).mono fun e w' h=>⟨⟨none,0,h.1⟩,by rw [h.2];exact Below.refl _ _⟩ }
end Go.Proofs.YtpnajphbjfehnaaGreat
namespace Dk
open Go Go.RowKit
theorem cell_of {w w':World} {k o:Nat} (h:w'.heap[k]? = w.heap[k]?):w'.cell? ⟨k,o,none⟩=w.cell? ⟨k,o,none⟩:=by
 unfold World.cell?
 simp only [h]
theorem lt_of {w w':World} {k:Nat} (h:w'.heap[k]? = w.heap[k]?) (hk:k < w.heap.size):k < w'.heap.size:=by
 rw [Array.getElem?_eq_getElem hk] at h
 exact (Array.getElem?_eq_some_iff.1 h).1
def evT (A:Option Addr) (L C:Nat) (es:List Ev):Thing:={
 own:=fun k=>∃ o,A=some ⟨k,o,none⟩
 holds:=fun w=>SlE w.heap.size w A L C es∧∀ k o,A=some ⟨k,o,none⟩→k < w.heap.size
 local_:=fun w w' h hk=>⟨⟨h.1.len,h.1.cap,h.1.max,h.1.wf,fun h0=>by
  obtain ⟨b,o,e,hb,hc⟩:=h.1.cells h0
  have hh:=hk b ⟨o,e⟩
  exact ⟨b,o,e,lt_of hh hb,fun i hi j hj=>(cell_of hh).trans (hc i hi j hj)⟩⟩,fun k o e=>lt_of (hk k ⟨o,e⟩) (h.2 k o e)⟩
 lt:=fun w h k ⟨o,e⟩=>h.2 k o e }
section
variable {W w w' : World} {t t' : Thing} {ts us us1 us2 : List Thing}
theorem Sep.toEv {e:TypeId} {A:Option Addr} {n C:Nat} {es:List Ev} (h:Sep W w (us1++rowOf e 3 (.slice A n C) n (evs es)::us2)) (hn:es.length=n) (hx:∀ x ∈ es,x.ok):Sep W w (us1++evT A n C es::us2):=by
 have hr:=h.get (t:=rowOf e 3 (.slice A n C) n (evs es)) (by simp)
 obtain ⟨A',C',ev,hE⟩:=zg6 hr hn hx
 cases ev
 refine h.turn (Away.refl _ _) ⟨hE,fun k o e1=>?_⟩ (fun k hk=>.inl ?_)
 ·subst e1
  obtain ⟨_,⟨e0,_⟩ | ⟨g,cap,cur,e0,hb,hg,_⟩⟩:=hr
  ·cases e0
  ·cases e0
   exact (Array.getElem?_eq_some_iff.1 hg).1
 ·obtain ⟨o,rfl⟩:=hk
  rfl
theorem Sep.nilEv (h:Sep W w ts):Sep W w (evT none 0 0 []::ts):=
 h.add (Below.refl _ _) ⟨SlE.none_ rfl (Nat.zero_le _),fun k o e=>by cases e⟩ (fun k ⟨o,e⟩=>by cases e)
theorem Sep.swap (h:Sep W w (t::t'::ts)):Sep W w (t'::t::ts):=h.perm (List.Perm.swap _ _ _)
theorem Sep.tail (h:Sep W w (t::ts)):Sep W w ts:=h.sub (List.sublist_cons_self _ _)
end
theorem zf1:∀ (n:Nat) (l:List Int),l.Nodup→(∀ x ∈ l,0≤x∧x < n)→l.length≤n
 | 0,l,_,h=>by
  cases l with
  | nil=>exact Nat.le_refl _
  | cons x r=>have:=h x (List.mem_cons_self ..);omega
 | n+1,l,hn,h=>by
  by_cases hm:(n:Int) ∈ l
  ·have h1:=List.length_erase_of_mem hm
   have h2:=zf1 n (l.erase n) (hn.erase _) (fun x hx=>by
    have:=(hn.mem_erase_iff).1 hx
    have h3:=h x this.2
    have h4:=this.1
    omega)
   omega
  ·have h2:=zf1 n l hn (fun x hx=>by
    have h3:=h x hx
    have:x≠n:=fun e=>hm (e ▸ hx)
    omega)
   omega
theorem few_add {rs:List (List Int)} {p t:Int} (h:Few 16 rs) (hr:∀ x ∈ rs.flatten,0≤x∧x < 16) (ht:0≤t∧t < 16):Few 16 (addTo rs p t)∧∀ x ∈ (addTo rs p t).flatten,0≤x∧x < 16:=by
 have h1:=h.add (p:=p) (t:=t) (by omega)
 have h2:∀ x ∈ (addTo rs p t).flatten,0≤x∧x < 16:=by
  by_cases hc:canAdd rs p t=true
  ·intro x hx
   rcases List.mem_cons.1 ((zdk hc).mem_iff.1 hx) with rfl | hx
   ·exact ht
   ·exact hr x hx
  ·have e:addTo rs p t=rs:=by unfold addTo;rw [if_neg hc]
   rw [e]
   exact hr
 exact ⟨⟨h1.rows,zf1 16 _ h1.nodup h2,h1.nodup,h1.wf⟩,h2⟩
structure Ve where
 m:Int
 t:Int
 A:Option Addr
 L:Nat
 C:Nat
 es:List Ev
abbrev Ve.cells (v:Ve):List Value:=[.int .i64 v.m,.int .i64 v.t,.slice v.A v.L v.C]
abbrev Ve.v (v:Ve):Value:=.agg #[.int .i64 v.m,.int .i64 v.t,.slice v.A v.L v.C]
def Ve.thing (v:Ve):Thing:=evT v.A v.L v.C v.es
def Ve.zero:Ve:=⟨0,0,none,0,0,[]⟩
def ves:List Ve→List Value
 | []=>[]
 | r::l=>r.cells++ves l
theorem zae:∀ rs,(ves rs).length=rs.length*3
 | []=>rfl
 | p::r=>by rw [ves,List.length_append,zae r,List.length_cons];simp [Ve.cells];omega
theorem zbk:∀ ps qs,ves (ps++qs)=ves ps++ves qs
 | [],qs=>rfl
 | p::r,qs=>by rw [List.cons_append,ves,ves,zbk r,List.append_assoc]
theorem zhb {vs1 vs2:List Ve} {v:Ve} {k j:Nat} (hk:vs1.length=k) (hj:j < 3):(ves (vs1++v::vs2))[k*3+j]? = v.cells[j]?:=by
 subst hk
 rw [zbk,List.getElem?_append_right (by rw [zae];omega),zae,show vs1.length*3+j - vs1.length*3=j by omega,ves,List.getElem?_append_left (by simp [Ve.cells];omega)]
theorem zdd {vs1 vs2:List Ve} {v v':Ve} {k j:Nat} (hk:vs1.length=k) (hj:j < 3) (x:Value) (hx:v'.cells=v.cells.set j x):(ves (vs1++v::vs2)).set (k*3+j) x=ves (vs1++v'::vs2):=by
 subst hk
 rw [zbk,List.set_append_right _ _ (by rw [zae];omega),zae,show vs1.length*3+j - vs1.length*3=j by omega,ves,List.set_append_left _ _ (by simp [Ve.cells];omega),zbk,ves,hx]
theorem perm3 {α:Type} (a b c:α) {X Y:List α} (p:X.Perm Y):(a::b::c::X).Perm (c::a::b::Y):=(((p.cons c).cons b).cons a).trans (((List.Perm.swap c b Y).cons a).trans (List.Perm.swap c a (b::Y)))
theorem perm4 {α:Type} (a b c x:α) {X Z:List α} (p:X.Perm (x::Z)):(a::b::c::X).Perm (x::a::b::c::Z):=(((p.cons c).cons b).cons a).trans (List.perm_middle (l₁:=[a,b,c]))
structure Lb (σ:Type) where
 sp:Nat
 rb:Nat
 vb:Nat
 vC:Nat
 vs:List Ve
 wA:Option Addr
 wL:Nat
 wC:Nat
 ws:List Ev
 lk:Bool
 rows:List (List Int)
 rts:List Thing
 s:σ
 sts:List Thing
section
variable {σ : Type}
abbrev Lb.cells (l:Lb σ):Array Value:=#[.pointer (some ⟨l.sp,0,none⟩),.pointer (some ⟨l.rb,0,none⟩),.slice (some ⟨l.vb,0,none⟩) l.vs.length l.vC,.slice l.wA l.wL l.wC,.bool l.lk]
def Lb.head (b:Nat) (l:Lb σ):List Thing:=boxOf b l.cells 104::boxOf l.vb (ves l.vs).toArray 55::evT l.wA l.wL l.wC l.ws::l.vs.map Ve.thing
structure LBd (S0:Nat→σ→List Thing→Prop) (W w:World) (b:Nat) (l:Lb σ) (us:List Thing):Prop where
 rows:R0 l.rb l.rows l.rts
 sp:S0 l.sp l.s l.sts
 few:Few 16 l.rows
 rng:∀ x ∈ l.rows.flatten,0≤x∧x < 16
 n64:l.vs.length≤64
 vC:l.vs.length≤l.vC∧l.vC≤maxLen
 vwf:∀ v ∈ l.vs,i64 v.m∧i64 v.t
 sep:Sep W w (l.head b++(l.rts++(l.sts++us)))
def LB (S0:Nat→σ→List Thing→Prop) (W w:World) (b:Nat) (l:Lb σ) (us:List Thing):Prop:=Hid (LBd S0 W w b l us)
variable {S0 : Nat → σ → List Thing → Prop} {W w w' : World} {b : Nat} {l : Lb σ} {us us' : List Thing} {t t' : Thing}
theorem LB.up (h:LB S0 W w b l us):Below W.heap.size W w:=(Hid.out h).sep.out
theorem LB.box (h:LB S0 W w b l us):Box w b l.cells 104:=(Hid.out h).sep.box (by simp [Lb.head])
theorem LB.vbox (h:LB S0 W w b l us):Box w l.vb (ves l.vs).toArray 55:=(Hid.out h).sep.box (by simp [Lb.head])
theorem LB.wt (h:LB S0 W w b l us):SlE w.heap.size w l.wA l.wL l.wC l.ws:=((Hid.out h).sep.get (t:=evT l.wA l.wL l.wC l.ws) (by simp [Lb.head])).1
theorem LB.below (h:LB S0 W w b l us) (u:Below w.heap.size w w'):LB S0 W w' b l us:=by
 have q:=Hid.out h
 exact ⟨q.rows,q.sp,q.few,q.rng,q.n64,q.vC,q.vwf,q.sep.below u⟩
theorem LB.onto (h:LB S0 W w b l us) (s:Sep w w' [t]):LB S0 W w' b l (t::us):=by
 have q:=Hid.out h
 refine ⟨q.rows,q.sp,q.few,q.rng,q.n64,q.vC,q.vwf,(q.sep.onto s).perm ?_⟩
 rw [← List.append_assoc,← List.append_assoc,← List.append_assoc,← List.append_assoc]
 exact List.perm_middle.symm
theorem LB.move (h:LB S0 W w b l us) (f:∀ ts,Sep W w (ts++us)→Sep W w' (ts++us')):LB S0 W w' b l us':=by
 have q:=Hid.out h
 have s:=q.sep
 rw [← List.append_assoc,← List.append_assoc] at s
 refine ⟨q.rows,q.sp,q.few,q.rng,q.n64,q.vC,q.vwf,?_⟩
 rw [← List.append_assoc,← List.append_assoc]
 exact f _ s
theorem LB.perm (h:LB S0 W w b l us) (p:us.Perm us'):LB S0 W w b l us':=h.move fun ts s=>s.perm (p.append_left ts)
theorem LB.sub (h:LB S0 W w b l us) (p:us'.Sublist us):LB S0 W w b l us':=h.move fun ts s=>s.sub (p.append_left ts)
theorem LB.drop (h:LB S0 W w b l (t::us)):LB S0 W w b l us:=h.sub (List.sublist_cons_self _ _)
theorem LB.swap (h:LB S0 W w b l (t::t'::us)):LB S0 W w b l (t'::t::us):=h.perm (List.Perm.swap _ _ _)
theorem LB.newBox {cs:Array Value} {e:TypeId} (h:LB S0 W w b l us) (ew:w'=w.alloc (.cells cs e)):LB S0 W w' b l (boxOf w.heap.size cs e::us):=
 h.onto ((Sep.begin (Below.refl w.heap.size w)).newBox ew)
theorem LB.get (h:LB S0 W w b l us) (ht:t ∈ us):t.holds w:=(Hid.out h).sep.get (by simp [ht])
theorem LB.toEv {e:TypeId} {A:Option Addr} {n C:Nat} {es:List Ev} (h:LB S0 W w b l (rowOf e 3 (.slice A n C) n (evs es)::us)) (hn:es.length=n) (hx:∀ x ∈ es,x.ok):LB S0 W w b l (evT A n C es::us):=h.move fun ts s=>s.toEv hn hx
theorem LB.nilEv (h:LB S0 W w b l us):LB S0 W w b l (evT none 0 0 []::us):=h.onto ((Sep.begin (Below.refl w.heap.size w)).nilEv)
theorem LB.setRow {c:Nat} {cs:Array Value} {e:TypeId} {us1 us2:List Thing} (h:LB S0 W w b l (us1++boxOf c cs e::us2)) (cs':Array Value):LB S0 W (w.setRow c cs') b l (us1++boxOf c cs' e::us2):=h.move fun ts s=>by
 rw [← List.append_assoc] at s ⊢
 exact s.turn (t':=boxOf c cs' e) ⟨rfl,rfl,rfl,by simp [World.setRow],fun k hk hn=>setRow_other w c k cs' (fun e0=>hn e0)⟩ (s.box (b:=c) (cs:=cs) (t:=e) (by simp)).row (fun k hk=>.inl hk)
theorem LB.ints {e:TypeId} {A:Option Addr} {n C:Nat} {xs:List Int} (h:LB S0 W w b l us) (ht:rowOf e 1 (.slice A n C) n (is xs) ∈ us) (hn:xs.length=n) (hx:∀ x ∈ xs,i64 x):SlI w.heap.size w A n C xs:=Sep.ints (Hid.out h).sep (List.mem_append.2 (.inr (List.mem_append.2 (.inr (List.mem_append.2 (.inr ht)))))) hn hx
structure At1 (l:Lb σ) (k:Nat) (v:Ve) (vs1 vs2:List Ve):Prop where
 eq:l.vs=vs1++v::vs2
 len:vs1.length=k
theorem Lb.split (l:Lb σ) {k:Nat} (hk:k < l.vs.length):∃ vs1 vs2,At1 l k (l.vs.getD k Ve.zero) vs1 vs2:=by
 refine ⟨l.vs.take k,l.vs.drop (k+1),?_,by rw [List.length_take];omega⟩
 have e:l.vs.getD k Ve.zero=l.vs[k]:=by simp [List.getD,hk]
 rw [e,List.getElem_cons_drop,List.take_append_drop]
theorem At1.set {k:Nat} {v:Ve} {vs1 vs2:List Ve} (h:At1 l k v vs1 vs2) (v':Ve):l.vs.set k v'=vs1++v'::vs2:=by
 rw [h.eq,← h.len,List.set_append_right _ _ (Nat.le_refl _),Nat.sub_self]
 rfl
theorem At1.lt {k:Nat} {v:Ve} {vs1 vs2:List Ve} (h:At1 l k v vs1 vs2):k < l.vs.length:=by
 rw [h.eq,List.length_append,List.length_cons,h.len]
 omega
theorem LB.vcell (h:LB S0 W w b l us) {k:Nat} (hk:k < l.vs.length):w.cell? ⟨l.vb,k*3,none⟩=some (.int .i64 (l.vs.getD k Ve.zero).m)∧w.cell? ⟨l.vb,k*3+1,none⟩=some (.int .i64 (l.vs.getD k Ve.zero).t)∧w.cell? ⟨l.vb,k*3+2,none⟩=some (.slice (l.vs.getD k Ve.zero).A (l.vs.getD k Ve.zero).L (l.vs.getD k Ve.zero).C):=by
 obtain ⟨vs1,vs2,ha⟩:=l.split hk
 have hb:=h.vbox
 generalize l.vs.getD k Ve.zero=v at *
 rw [ha.eq] at hb
 refine ⟨?_,?_,?_⟩
 ·rw [hb.cell,List.getElem?_toArray];exact zhb (j:=0) ha.len (by omega)
 ·rw [hb.cell,List.getElem?_toArray];exact zhb (j:=1) ha.len (by omega)
 ·rw [hb.cell,List.getElem?_toArray];exact zhb (j:=2) ha.len (by omega)
theorem LB.there (h:LB S0 W w b l us) {k:Nat} (hk:k < l.vs.length):w.there l.vb (k*3) 3:=fun j hj=>by
 refine ⟨?_,h.vbox.frozen _⟩
 rw [h.vbox.cell,List.getElem?_toArray,List.getElem?_eq_getElem (by rw [zae];omega)]
 rfl
theorem LB.ev (h:LB S0 W w b l us) {k:Nat} (hk:k < l.vs.length):SlE w.heap.size w (l.vs.getD k Ve.zero).A (l.vs.getD k Ve.zero).L (l.vs.getD k Ve.zero).C (l.vs.getD k Ve.zero).es:=by
 have e:l.vs.getD k Ve.zero=l.vs[k]:=by simp [List.getD,hk]
 have hm:l.vs[k] ∈ l.vs:=List.getElem_mem hk
 rw [← e] at hm
 exact ((Hid.out h).sep.get (t:=(l.vs.getD k Ve.zero).thing) (by
  simp only [Lb.head,List.mem_append,List.mem_cons,List.mem_map]
  exact .inl (.inr (.inr (.inr ⟨_,hm,rfl⟩))))).1
theorem LB.wf (h:LB S0 W w b l us) {k:Nat} (hk:k < l.vs.length):i64 (l.vs.getD k Ve.zero).m∧i64 (l.vs.getD k Ve.zero).t:=by
 have e:l.vs.getD k Ve.zero=l.vs[k]:=by simp [List.getD,hk]
 rw [e]
 exact (Hid.out h).vwf _ (List.getElem_mem hk)
theorem LB.n64 (h:LB S0 W w b l us):l.vs.length≤64:=(Hid.out h).n64
theorem LB.vC (h:LB S0 W w b l us):l.vs.length≤l.vC∧l.vC≤maxLen:=(Hid.out h).vC
theorem LB.setLk (h:LB S0 W w b l us) (x:Bool):LB S0 W (w.setCell ⟨b,4,none⟩ (.bool x)) b { l with lk:=x } us:=by
 have q:=Hid.out h
 exact ⟨q.rows,q.sp,q.few,q.rng,q.n64,q.vC,q.vwf,Sep.setBox (us1:=[]) q.sep (.bool x)⟩
theorem LB.setW {A:Option Addr} {L C:Nat} {es:List Ev} (h:LB S0 W w b l (evT A L C es::us)):LB S0 W (w.setCell ⟨b,3,none⟩ (.slice A L C)) b { l with wA:=A,wL:=L,wC:=C,ws:=es } us:=by
 have q:=Hid.out h
 have s:=Sep.setBox (us1:=[]) (o:=3) q.sep (.slice A L C)
 refine ⟨q.rows,q.sp,q.few,q.rng,q.n64,q.vC,q.vwf,?_⟩
 have s1:Sep W (w.setCell ⟨b,3,none⟩ (.slice A L C)) (boxOf b (l.cells.setIfInBounds 3 (.slice A L C)) 104::boxOf l.vb (ves l.vs).toArray 55::evT A L C es::(l.vs.map Ve.thing++(l.rts++(l.sts++us)))):=by
  refine (s.perm (us:=evT l.wA l.wL l.wC l.ws::(boxOf b (l.cells.setIfInBounds 3 (.slice A L C)) 104::boxOf l.vb (ves l.vs).toArray 55::evT A L C es::(l.vs.map Ve.thing++(l.rts++(l.sts++us))))) ?_).tail
  have p:(l.vs.map Ve.thing++(l.rts++(l.sts++evT A L C es::us))).Perm (evT A L C es::(l.vs.map Ve.thing++(l.rts++(l.sts++us)))):=by
   have p1:(l.sts++evT A L C es::us).Perm (evT A L C es::(l.sts++us)):=List.perm_middle
   have p2:(l.rts++(l.sts++evT A L C es::us)).Perm (evT A L C es::(l.rts++(l.sts++us))):=(p1.append_left _).trans List.perm_middle
   exact (p2.append_left _).trans List.perm_middle
  show (boxOf b _ _::boxOf l.vb _ _::evT l.wA l.wL l.wC l.ws::(l.vs.map Ve.thing++(l.rts++(l.sts++evT A L C es::us)))).Perm _
  exact perm3 _ _ _ p
 exact s1
theorem LB.setM (h:LB S0 W w b l us) {k:Nat} (hk:k < l.vs.length) {m:Int} (hm:i64 m):LB S0 W (w.setCell ⟨l.vb,k*3,none⟩ (.int .i64 m)) b { l with vs:=l.vs.set k { l.vs.getD k Ve.zero with m:=m } } us:=by
 have q:=Hid.out h
 have hw:=h.wf hk
 obtain ⟨vs1,vs2,ha⟩:=l.split hk
 generalize l.vs.getD k Ve.zero=v at *
 have es:=ha.set { v with m:=m }
 have s:=Sep.setBox (us1:=[_]) (o:=k*3) q.sep (.int .i64 m)
 refine ⟨q.rows,q.sp,q.few,q.rng,by rw [List.length_set];exact q.n64,by rw [List.length_set];exact q.vC,fun x hx=>?_,?_⟩
 ·rcases List.mem_or_eq_of_mem_set hx with hx | rfl
  ·exact q.vwf x hx
  ·exact ⟨hm,hw.2⟩
 ·have e1:(ves l.vs).toArray.setIfInBounds (k*3) (.int .i64 m)=(ves (l.vs.set k { v with m:=m })).toArray:=by
   rw [List.setIfInBounds_toArray,es,ha.eq]
   exact congrArg List.toArray (zdd (j:=0) ha.len (by omega) _ rfl)
  have e2:l.vs.map Ve.thing=(l.vs.set k { v with m:=m }).map Ve.thing:=by
   rw [es,ha.eq]
   simp [Ve.thing]
  have e3:(l.vs.set k { v with m:=m }).length=l.vs.length:=List.length_set
  rw [e1,e2] at s
  unfold Lb.head Lb.cells
  simp only [e3]
  exact s
theorem LB.setV {A:Option Addr} {L C:Nat} {es:List Ev} (h:LB S0 W w b l (evT A L C es::us)) {k:Nat} (hk:k < l.vs.length) {m t:Int} (hm:i64 m) (ht:i64 t):LB S0 W (w.setCells l.vb (k*3) [.int .i64 m,.int .i64 t,.slice A L C]) b { l with vs:=l.vs.set k ⟨m,t,A,L,C,es⟩ } us:=by
 have q:=Hid.out h
 obtain ⟨vs1,vs2,ha⟩:=l.split hk
 generalize l.vs.getD k Ve.zero=v at *
 have e:=ha.set ⟨m,t,A,L,C,es⟩
 have s1:=Sep.setBox (us1:=[_]) (o:=k*3) q.sep (.int .i64 m)
 have s2:=Sep.setBox (us1:=[_]) (o:=k*3+1) s1 (.int .i64 t)
 have s3:=Sep.setBox (us1:=[_]) (o:=k*3+1+1) s2 (.slice A L C)
 refine ⟨q.rows,q.sp,q.few,q.rng,by rw [List.length_set];exact q.n64,by rw [List.length_set];exact q.vC,fun x hx=>?_,?_⟩
 ·rcases List.mem_or_eq_of_mem_set hx with hx | rfl
  ·exact q.vwf x hx
  ·exact ⟨hm,ht⟩
 ·have e1:(((ves l.vs).toArray.setIfInBounds (k*3) (.int .i64 m)).setIfInBounds (k*3+1) (.int .i64 t)).setIfInBounds (k*3+1+1) (.slice A L C)=(ves (l.vs.set k ⟨m,t,A,L,C,es⟩)).toArray:=by
   rw [List.setIfInBounds_toArray,List.setIfInBounds_toArray,List.setIfInBounds_toArray,e,ha.eq]
   refine congrArg List.toArray ?_
   have a1:=zdd (v:=v) (v':={ v with m:=m }) (j:=0) (k:=k) (vs1:=vs1) (vs2:=vs2) ha.len (by omega) (.int .i64 m) rfl
   have a2:=zdd (v:={ v with m:=m }) (v':={ v with m:=m,t:=t }) (j:=1) (k:=k) (vs1:=vs1) (vs2:=vs2) ha.len (by omega) (.int .i64 t) rfl
   have a3:=zdd (v:={ v with m:=m,t:=t }) (v':=⟨m,t,A,L,C,es⟩) (j:=2) (k:=k) (vs1:=vs1) (vs2:=vs2) ha.len (by omega) (.slice A L C) rfl
   rw [Nat.add_zero] at a1
   simp only [List.toList_toArray]
   rw [a1,a2]
   exact a3
  rw [e1] at s3
  have e3:(l.vs.set k ⟨m,t,A,L,C,es⟩).length=l.vs.length:=List.length_set
  unfold Lb.head Lb.cells
  simp only [e3]
  refine (s3.perm (us:=v.thing::(boxOf b l.cells 104::boxOf l.vb (ves (l.vs.set k ⟨m,t,A,L,C,es⟩)).toArray 55::evT l.wA l.wL l.wC l.ws::((l.vs.set k ⟨m,t,A,L,C,es⟩).map Ve.thing++(l.rts++(l.sts++us))))) ?_).tail
  show (boxOf b _ _::boxOf l.vb _ _::evT l.wA l.wL l.wC l.ws::(l.vs.map Ve.thing++(l.rts++(l.sts++evT A L C es::us)))).Perm _
  have p1:(l.rts++(l.sts++evT A L C es::us)).Perm (evT A L C es::(l.rts++(l.sts++us))):=(List.Perm.append_left _ List.perm_middle).trans List.perm_middle
  refine perm4 _ _ _ _ ?_
  rw [e,ha.eq,List.map_append,List.map_append,List.map_cons,List.map_cons,List.append_assoc,List.append_assoc,List.cons_append,List.cons_append]
  exact List.perm_middle.trans ((List.Perm.append_left _ ((p1.append_left _).trans List.perm_middle)).cons _)
theorem LB.setE (h:LB S0 W w b l us) {k g o o' L C:Nat} (hk:k < l.vs.length) (hA:(l.vs.getD k Ve.zero).A=some ⟨g,o,none⟩) (hL:(l.vs.getD k Ve.zero).L=L+1) (hC:(l.vs.getD k Ve.zero).C=C+1) (ho:o'=o+3∨(L=0∧o'=o)):LB S0 W (w.setCell ⟨l.vb,k*3+2,none⟩ (.slice (some ⟨g,o',none⟩) L C)) b { l with vs:=l.vs.set k { l.vs.getD k Ve.zero with A:=some ⟨g,o',none⟩,L:=L,C:=C,es:=(l.vs.getD k Ve.zero).es.tail } } us:=by
 have q:=Hid.out h
 have hw:=h.wf hk
 have hE:=h.ev hk
 obtain ⟨vs1,vs2,ha⟩:=l.split hk
 generalize l.vs.getD k Ve.zero=v at *
 obtain ⟨m,t,A,L',C',es⟩:=v
 dsimp only at hA hL hC hw hE ⊢
 subst hA hL hC
 have e:=ha.set ⟨m,t,some ⟨g,o',none⟩,L,C,es.tail⟩
 have s:=Sep.setBox (us1:=[_]) (o:=k*3+2) q.sep (.slice (some ⟨g,o',none⟩) L C)
 have e1:(ves l.vs).toArray.setIfInBounds (k*3+2) (.slice (some ⟨g,o',none⟩) L C)=(ves (l.vs.set k ⟨m,t,some ⟨g,o',none⟩,L,C,es.tail⟩)).toArray:=by
  rw [List.setIfInBounds_toArray,e,ha.eq]
  exact congrArg List.toArray (zdd (j:=2) ha.len (by omega) _ rfl)
 rw [e1] at s
 have tl:∀ w,SlE w.heap.size w (some ⟨g,o,none⟩) (L+1) (C+1) es→SlE w.heap.size w (some ⟨g,o',none⟩) L C es.tail:=fun w hE=>by
  rcases ho with rfl | ⟨rfl,rfl⟩
  ·have hE1:=hE.drop (k:=1) (by omega)
   rw [Nat.one_mul,Nat.add_sub_cancel,Nat.add_sub_cancel,List.drop_one] at hE1
   exact hE1
  ·have h1:=hE.len
   have h2:=hE.max
   exact SlE.none_ (List.eq_nil_of_length_eq_zero (by rw [List.length_tail];omega)) (by omega)
 have e0:l.vs.map Ve.thing=vs1.map Ve.thing++evT (some ⟨g,o,none⟩) (L+1) (C+1) es::vs2.map Ve.thing:=by
  rw [ha.eq,List.map_append,List.map_cons]
  rfl
 have e2:(l.vs.set k ⟨m,t,some ⟨g,o',none⟩,L,C,es.tail⟩).map Ve.thing=vs1.map Ve.thing++evT (some ⟨g,o',none⟩) L C es.tail::vs2.map Ve.thing:=by
  rw [e,List.map_append,List.map_cons]
  rfl
 refine ⟨q.rows,q.sp,q.few,q.rng,by rw [List.length_set];exact q.n64,by rw [List.length_set];exact q.vC,fun x hx=>?_,?_⟩
 ·rcases List.mem_or_eq_of_mem_set hx with hx | rfl
  ·exact q.vwf x hx
  ·exact hw
 ·have e3:(l.vs.set k ⟨m,t,some ⟨g,o',none⟩,L,C,es.tail⟩).length=l.vs.length:=List.length_set
  unfold Lb.head Lb.cells
  simp only [e3]
  rw [e2]
  rw [e0] at s
  have s':Sep W (w.setCell ⟨l.vb,k*3+2,none⟩ (.slice (some ⟨g,o',none⟩) L C)) ((boxOf b l.cells 104::boxOf l.vb (ves (l.vs.set k ⟨m,t,some ⟨g,o',none⟩,L,C,es.tail⟩)).toArray 55::evT l.wA l.wL l.wC l.ws::vs1.map Ve.thing)++evT (some ⟨g,o,none⟩) (L+1) (C+1) es::(vs2.map Ve.thing++(l.rts++(l.sts++us)))):=by
   have e9:∀ a1 a2 a3:Thing,∀ l1 l2 l3:List Thing,∀ x:Thing,[a1]++a2::(a3::(l1++x::l2)++l3)=(a1::a2::a3::l1)++x::(l2++l3):=by intros;simp
   rw [← e9]
   exact s
  have hb:=s'.get (t:=evT (some ⟨g,o,none⟩) (L+1) (C+1) es) (by simp)
  have hE2:=tl _ hb.1
  have s2:=s'.turn (t':=evT (some ⟨g,o',none⟩) L C es.tail) (Away.refl _ _) ⟨hE2,fun k o' e5=>by
   cases e5
   exact hb.2 _ _ rfl⟩ (fun k ⟨o',e5⟩=>.inl ⟨o,by cases e5;rfl⟩)
  have e9:∀ a1 a2 a3:Thing,∀ l1 l2 l3:List Thing,∀ x:Thing,(a1::a2::a3::l1)++x::(l2++l3)=a1::a2::a3::(l1++x::l2)++l3:=by intros;simp
  rw [e9] at s2
  exact s2
theorem LB.rowsOut (h:LB S0 W w b l us):∃ ts,R0 l.rb l.rows l.rts∧Few 16 l.rows∧(∀ x ∈ l.rows.flatten,0≤x∧x < 16)∧Sep W w (ts++l.rts)∧∀ w' rows' rts',R0 l.rb rows' rts'→Few 16 rows'→(∀ x ∈ rows'.flatten,0≤x∧x < 16)→Sep W w' (ts++rts')→LB S0 W w' b { l with rows:=rows',rts:=rts' } us:=by
 have q:=Hid.out h
 refine ⟨l.head b++(l.sts++us),q.rows,q.few,q.rng,q.sep.perm ?_,fun w' rows' rts' hR hF hg s=>?_⟩
 ·rw [List.append_assoc]
  exact List.Perm.append_left _ List.perm_append_comm
 ·refine ⟨hR,q.sp,hF,hg,q.n64,q.vC,q.vwf,s.perm ?_⟩
  rw [List.append_assoc]
  exact List.Perm.append_left _ List.perm_append_comm
theorem LB.spOut (h:LB S0 W w b l us):∃ ts,S0 l.sp l.s l.sts∧Sep W w (ts++l.sts)∧∀ w' s' sts' vs,S0 l.sp s' sts'→Sep W w' (vs++(ts++sts'))→LB S0 W w' b { l with s:=s',sts:=sts' } (vs++us):=by
 have q:=Hid.out h
 refine ⟨l.head b++(l.rts++us),q.sp,q.sep.perm ?_,fun w' s' sts' vs hR s=>?_⟩
 ·rw [List.append_assoc,List.append_assoc]
  exact List.Perm.append_left _ (List.Perm.append_left _ List.perm_append_comm)
 ·refine ⟨q.rows,hR,q.few,q.rng,q.n64,q.vC,q.vwf,s.perm ?_⟩
  have p1:(vs++(l.head b++(l.rts++us)++sts')).Perm (l.head b++(l.rts++us)++sts'++vs):=List.perm_append_comm
  refine p1.trans ?_
  rw [List.append_assoc,List.append_assoc,List.append_assoc]
  refine List.Perm.append_left _ (List.Perm.append_left _ ?_)
  exact List.perm_append_comm.trans (by rw [List.append_assoc])
end
structure Vw where
 m:Int
 t:Int
 es:List Ev
def Vw.zero:Vw:=⟨0,0,[]⟩
def Ve.st (v:Ve):Vw:=⟨v.m,v.t,v.es⟩
structure Ls (σ:Type) where
 vs:List Vw
 ws:List Ev
 lk:Bool
 rows:List (List Int)
 s:σ
 sp:Nat
 rb:Nat
section
variable {σ : Type}
def Lb.st (l:Lb σ):Ls σ:=⟨l.vs.map Ve.st,l.ws,l.lk,l.rows,l.s,l.sp,l.rb⟩
def Ls.at (x:Ls σ) (k:Nat):Vw:=x.vs.getD k Vw.zero
def Ls.isP (x:Ls σ) (p:Int):Bool:=decide (0≤p) && decide (p < x.vs.length)
def Ls.has (x:Ls σ) (p:Int):Bool:=x.isP p && (x.at p.toNat).m != 0
def Ls.setV (x:Ls σ) (k:Nat) (v:Vw):Ls σ:={ x with vs:=x.vs.set k v }
def Ls.zax (x:Ls σ) (k:Nat) (m:Int):Ls σ:=if x.lk=true then x else { x with lk:=true,vs:=x.vs.set k { x.at k with m:=m } }
def Ls.end_ (x:Ls σ) (k:Nat) (v:Vw):Ls σ:={ x with lk:=false,vs:=x.vs.set k v }
def comeR (k:Int) (ts:List Int) (rs:List (List Int)):List (List Int):=ts.foldl (fun rs t=>addTo rs k t) rs
def Ls.come (x:Ls σ) (k:Nat) (ts:List Int):Ls σ:={ x with rows:=comeR k ts x.rows }
def unbl (ts:List Int):List Ev:=ts.map fun t=>⟨3,t,0⟩
theorem Lb.zaw (l:Lb σ) (k:Nat):l.st.at k=(l.vs.getD k Ve.zero).st:=by
 unfold Ls.at Lb.st
 rw [show Vw.zero=Ve.zero.st from rfl]
 simp only [List.getD_eq_getElem?_getD,List.getElem?_map]
 cases l.vs[k]? <;> rfl
theorem Lb.zab (l:Lb σ):l.st.vs.length=l.vs.length:=List.length_map _
theorem Lb.zda (l:Lb σ) (k:Nat) (v:Ve):Lb.st { l with vs:=l.vs.set k v }=l.st.setV k v.st:=by
 unfold Lb.st Ls.setV
 simp only [List.map_set]
structure Efx where
 woken:List Int
 st:Bool
 en:Bool
 ye:Bool
structure SpF (σ:Type) where
 ready:σ→List Int
 cls:σ→Int→Int
 run:σ→Int→Int→σ
 eff:σ→Int→Int→Efx
 err:σ→Int→Int→Int
 ok:σ→Prop
abbrev efv (A:Option Addr) (C:Nat) (e:Efx):Value:=.agg #[.slice A e.woken.length C,.bool e.st,.bool e.en,.bool e.ye]
def Few16 (ts:List Int):Prop:=ts.length≤64∧∀ t ∈ ts,0≤t∧t < 16
theorem Few16.i64 {ts:List Int} (h:Few16 ts):∀ t ∈ ts,i64 t:=fun t ht=>by
 have:=h.2 t ht
 unfold Dk.i64
 omega
end
end Dk
namespace Go.Proofs.YtpnajphbjfehnaaGreat
open Go.RowKit Go.Lib
structure SpaceI {σ:Type} (F:Dk.SpF σ) (S0:Nat→σ→List Dk.Thing→Prop):Prop where
 ready:∀ {W w:World} {us ts:List Dk.Thing} {b:Nat} {s:σ},S0 b s ts→Dk.Sep W w (us++ts)→F.ok s→Calls Tryz.prog 30 #[.pointer (some ⟨b,0,none⟩)] w fun e w'=>∃ A C,e=.returned (.slice A (F.ready s).length C)∧∃ ts',S0 b s ts'∧Dk.Sep W w' ([Dk.rowOf 3 1 (.slice A (F.ready s).length C) (F.ready s).length (Dk.is (F.ready s))]++(us++ts'))
 class_:∀ {W w:World} {us ts:List Dk.Thing} {b:Nat} {s:σ},S0 b s ts→Dk.Sep W w (us++ts)→F.ok s→∀ t:Int,Dk.i64 t→Calls Tryz.prog 121 #[.pointer (some ⟨b,0,none⟩),.int .i64 t] w fun e w'=>e=.returned (.int .i64 (F.cls s t))∧∃ ts',S0 b s ts'∧Dk.Sep W w' ([]++(us++ts'))
 run:∀ {W w:World} {us ts:List Dk.Thing} {b:Nat} {s:σ},S0 b s ts→Dk.Sep W w (us++ts)→F.ok s→∀ t c:Int,Dk.i64 t→Dk.i64 c→Calls Tryz.prog 142 #[.pointer (some ⟨b,0,none⟩),.int .i64 t,.int .i64 c] w fun e w'=>∃ A C,e=.returned (.tuple #[Dk.efv A C (F.eff s t c),.int .i64 (F.err s t c)])∧∃ ts',S0 b (F.run s t c) ts'∧Dk.Sep W w' ([Dk.rowOf 3 1 (.slice A (F.eff s t c).woken.length C) (F.eff s t c).woken.length (Dk.is (F.eff s t c).woken)]++(us++ts'))
 few:∀ s,F.ok s→Dk.Few16 (F.ready s)∧∀ t c,Dk.Few16 (F.eff s t c).woken
section
variable {σ : Type} {F : Dk.SpF σ} {S0 : Nat → σ → List Dk.Thing → Prop} {W w w' : World} {b : Nat} {l : Dk.Lb σ} {us : List Dk.Thing}
theorem zdr (p:Int) (w:World):Calls Tryz.prog 59 #[.pointer none,.int .i64 p] w fun e w'=>e=.returned (.bool false)∧w'=w:=by
 go_enter Tryz.func59,Tryz.ntmps59
 go_wp2_with fail
 go_ret
 exact ⟨rfl,rfl⟩
theorem zb5 (h:Dk.LB S0 W w b l us) (p:Int):Calls Tryz.prog 59 #[.pointer (some ⟨b,0,none⟩),.int .i64 p] w fun e w'=>e=.returned (.bool (l.st.isP p))∧w'=w:=by
 have c2:w.cell? ⟨b,2,none⟩=some (.slice (some ⟨l.vb,0,none⟩) l.vs.length l.vC):=h.box.cell 2
 have e0:l.st.isP p=(decide ((0:Int)≤p) && decide (p < (l.vs.length:Int))):=by unfold Dk.Ls.isP;rw [l.zab]
 rw [e0]
 clear h e0
 generalize l.vs.length=n at *
 by_cases h0:0≤p
 ·have h1:decide ((0:Int)≤p)=true:=decide_eq_true h0
  rw [h1,Bool.true_and]
  generalize hr:decide (p < (n:Int))=r
  go_enter Tryz.func59,Tryz.ntmps59
  go_wp2_with fail
  go_ret
  exact ⟨by simp [hr],rfl⟩
 ·have h1:decide ((0:Int)≤p)=false:=decide_eq_false h0
  rw [h1,Bool.false_and]
  go_enter Tryz.func59,Tryz.ntmps59
  go_wp2_with fail
  go_ret
  exact ⟨rfl,rfl⟩
theorem zeb (p:Int) (w:World):Calls Tryz.prog 57 #[.pointer none,.int .i64 p] w fun e w'=>e=.returned (.bool false)∧w'=w:=by
 go_enter Tryz.func57,Tryz.ntmps57
 go_wp2_with (go_at_call 59;refine (zdr p w).mono ?_;rintro e w' ⟨rfl,hw'⟩;subst w')
 go_ret
 exact ⟨rfl,rfl⟩
theorem isP_nat {x:Dk.Ls σ} {p:Int} (h:x.isP p=true):∃ k:Nat,p=k∧k < x.vs.length:=by
 unfold Dk.Ls.isP at h
 simp at h
 exact ⟨p.toNat,by omega,by omega⟩
theorem zbx (h:Dk.LB S0 W w b l us) (p:Int):Calls Tryz.prog 57 #[.pointer (some ⟨b,0,none⟩),.int .i64 p] w fun e w'=>e=.returned (.bool (l.st.has p))∧w'=w:=by
 have K:=zb5 h p
 cases hp:l.st.isP p with
 | false=>
  rw [hp] at K
  have e0:l.st.has p=false:=by unfold Dk.Ls.has;rw [hp];rfl
  rw [e0]
  clear h e0 hp
  go_enter Tryz.func57,Tryz.ntmps57
  go_wp2_with (go_at_call 59;refine K.mono ?_;rintro e w' ⟨rfl,hw'⟩;subst w')
  go_ret
  exact ⟨rfl,rfl⟩
 | true=>
  rw [hp] at K
  obtain ⟨k,rfl,hk⟩:=isP_nat hp
  rw [l.zab] at hk
  have e0:l.st.has (k:Int)=((l.vs.getD k Dk.Ve.zero).m != 0):=by
   unfold Dk.Ls.has
   rw [hp,Bool.true_and,Int.toNat_natCast,l.zaw]
   rfl
  rw [e0]
  have c2:w.cell? ⟨b,2,none⟩=some (.slice (some ⟨l.vb,0,none⟩) l.vs.length l.vC):=h.box.cell 2
  have c0:=(h.vcell hk).1
  generalize (l.vs.getD k Dk.Ve.zero).m=m at *
  generalize l.vs.length=n at *
  clear h e0 hp
  go_enter Tryz.func57,Tryz.ntmps57
  go_wp2_with (go_at_call 59;refine K.mono ?_;rintro e w' ⟨rfl,hw'⟩;subst w')
  go_ret
  exact ⟨by simp,rfl⟩
theorem zas (m t:Int) (w:World):Calls Tryz.prog 122 #[.int .i64 m,.int .i64 t] w fun e w'=>e=.returned (Dk.vv m t none 0 0)∧Below w.heap.size w w':=by
 obtain ⟨W1,e1⟩:∃ W,W=w.alloc (.cells #[.int .i64 0,.int .i64 0,.slice none 0 0] 55):=⟨_,rfl⟩
 have u1:Below w.heap.size w W1:=by rw [e1];exact Dk.zb (Below.refl _ _) _
 have b1:Dk.Box W1 w.heap.size #[.int .i64 0,.int .i64 0,.slice none 0 0] 55:=by rw [e1];exact Dk.Box.new _ _ _
 obtain ⟨W2,e2⟩:∃ W,W=W1.setRow w.heap.size #[.int .i64 m,.int .i64 t,.slice none 0 0]:=⟨_,rfl⟩
 have b2:Dk.Box W2 w.heap.size #[.int .i64 m,.int .i64 t,.slice none 0 0] 55:=by rw [e2];exact b1.row
 have HU:Hid (Below w.heap.size w W2):=by rw [e2];exact ⟨u1.os,u1.tape,u1.output,by simp [World.setRow];exact u1.size,fun k hk=>(setRow_other W1 w.heap.size k _ (by omega)).trans (u1.block k hk)⟩
 have HB:Hid _:=b1
 have HB2:Hid _:=b2
 have H1:Hid _:=e1.symm
 have H2:Hid _:=e2.symm
 clear e1 e2 b1 b2 u1
 go_enter Tryz.func122,Tryz.ntmps122
 go_wp2_with (first | (rw [H1.out];clear H1) | (refine wpList_store_row rfl 55 _ _ rfl w.heap.size #[.int .i64 m,.int .i64 t,.slice none 0 0] rfl rfl 55 _ HB.out.heap zz rfl (zah _ _ _ _ _) ?_;rw [H2.out];clear HB H2))
 (try simp only [Exit.inBlock,Exit.then])
 refine bodyPost_ret (results_cell_row rfl _ _ w.heap.size 55 #[.int .i64 m,.int .i64 t,.slice none 0 0] (0,0) _ rfl HB2.out.heap Tryz.underlying55 rfl zz) rfl ?_
 exact ⟨rfl,HU.out⟩
theorem zft (h:Dk.LB S0 W w b l us) {k:Nat} (hk:k < l.vs.length) {m:Int} (hm:Dk.i64 m):Calls Tryz.prog 97 #[.pointer (some ⟨b,0,none⟩),.int .i64 (k:Int),.int .i64 m] w fun e w'=>e=.returned (.tuple #[])∧∃ l':Dk.Lb σ,l'.st=l.st.zax k m∧Dk.LB S0 W w' b l' us:=by
 have c4:w.cell? ⟨b,4,none⟩=some (.bool l.lk):=h.box.cell 4
 have f4:=h.box.frozen 4
 cases hl:l.lk with
 | true=>
  rw [hl] at c4
  have HL:Hid (∃ l':Dk.Lb σ,l'.st=l.st.zax k m∧Dk.LB S0 W w b l' us):=⟨l,by unfold Dk.Ls.zax;rw [if_pos (show l.st.lk=true from hl)],h⟩
  clear h hl hk hm
  go_enter Tryz.func97,Tryz.ntmps97
  go_wp2_with fail
  exact bodyPost_ret (results_none rfl _ _ _) rfl ⟨rfl,HL.out⟩
 | false=>
  rw [hl] at c4
  have h2:=h.setLk true
  obtain ⟨W2,e2⟩:∃ W2,W2=w.setCell ⟨b,4,none⟩ (.bool true):=⟨_,rfl⟩
  rw [← e2] at h2
  have c2:W2.cell? ⟨b,2,none⟩=some (.slice (some ⟨l.vb,0,none⟩) l.vs.length l.vC):=h2.box.cell 2
  have ck:=(h2.vcell hk).1
  have fk:=h2.vbox.frozen (k*3)
  have h3:=h2.setM hk hm
  obtain ⟨W3,e3⟩:∃ W3,W3=W2.setCell ⟨l.vb,k*3,none⟩ (.int .i64 m):=⟨_,rfl⟩
  rw [← e3] at h3
  have HL:Hid (∃ l':Dk.Lb σ,l'.st=l.st.zax k m∧Dk.LB S0 W W3 b l' us):=⟨_,by
   unfold Dk.Ls.zax
   rw [if_neg (by rw [show l.st.lk=false from hl];decide)]
   rw [Dk.Lb.zaw]
   exact Dk.Lb.zda { l with lk:=true } k _,h3⟩
  dsimp only at c2 ck fk e3
  have H2:Hid _:=e2.symm
  have H3:Hid _:=e3.symm
  have i1:(k:Int) < (l.vs.length:Int):=by omega
  generalize l.vs.length=n at *
  generalize (l.vs.getD k Dk.Ve.zero).m=m0 at *
  clear h hl h2 h3 e2 e3 hk hm
  go_enter Tryz.func97,Tryz.ntmps97
  go_wp2_with (first | (rw [H2.out];clear H2) | (rw [H3.out];clear H3))
  go_end0
  exact ⟨rfl,HL.out⟩
theorem zd7 {A:Option Addr} {L C:Nat} {es:List Dk.Ev} (h:Dk.LB S0 W w b l (Dk.evT A L C es::us)) {k:Nat} (hk:k < l.vs.length) {m t:Int} (hm:Dk.i64 m) (ht:Dk.i64 t):Calls Tryz.prog 118 #[.pointer (some ⟨b,0,none⟩),.int .i64 (k:Int),Dk.vv m t A L C] w fun e w'=>e=.returned (.tuple #[])∧∃ l':Dk.Lb σ,l'.st=l.st.end_ k ⟨m,t,es⟩∧Dk.LB S0 W w' b l' us:=by
 obtain ⟨W1,e1⟩:∃ W,W=w.alloc (.cells #[.int .i64 m,.int .i64 t,.slice A L C] 55):=⟨_,rfl⟩
 have h1:=(h.newBox e1)
 have c4:W1.cell? ⟨b,4,none⟩=some (.bool l.lk):=h1.box.cell 4
 have f4:=h1.box.frozen 4
 have h2:=h1.setLk false
 obtain ⟨W2,e2⟩:∃ W2,W2=W1.setCell ⟨b,4,none⟩ (.bool false):=⟨_,rfl⟩
 rw [← e2] at h2
 have hd:=h2.below (Dk.zm (Below.refl W2.heap.size W2))
 have c2:W2.drew.cell? ⟨b,2,none⟩=some (.slice (some ⟨l.vb,0,none⟩) l.vs.length l.vC):=hd.box.cell 2
 have bb:Dk.Box W2.drew w.heap.size #[.int .i64 m,.int .i64 t,.slice A L C] 55:=hd.get (t:=Dk.boxOf _ _ _) (by simp)
 have ht2:=hd.there hk
 have h3:=hd.swap.setV hk hm ht
 have d2:(W2.drew.setCells l.vb (k*3) [.int .i64 m,.int .i64 t,.slice A L C]).cell? ⟨b,2,none⟩=some (.slice (some ⟨l.vb,0,none⟩) (l.vs.set k _).length l.vC):=h3.box.cell 2
 rw [List.length_set] at d2
 have db:Dk.Box (W2.drew.setCells l.vb (k*3) [.int .i64 m,.int .i64 t,.slice A L C]) w.heap.size #[.int .i64 m,.int .i64 t,.slice A L C] 55:=h3.get (t:=Dk.boxOf _ _ _) (by simp)
 have HL:Hid (∃ l':Dk.Lb σ,l'.st=l.st.end_ k ⟨m,t,es⟩∧Dk.LB S0 W (W2.drew.setCells l.vb (k*3) [.int .i64 m,.int .i64 t,.slice A L C]) b l' us):=⟨_,Dk.Lb.zda { l with lk:=false } k _,h3.drop⟩
 have H1:Hid _:=e1.symm
 have H2:Hid _:=e2.symm
 have HT:Hid (W2.drew.there l.vb (k*3) 3):=ht2
 have i1:(k:Int) < (l.vs.length:Int):=by omega
 generalize l.vs.length=n at *
 have HX:Hid _:=And.intro c2 bb
 have HY:Hid _:=And.intro d2 db
 clear h h1 h2 h3 hd e1 e2 hk hm ht bb ht2 c2 d2 db
 go_enter Tryz.func118,Tryz.ntmps118
 go_wp2_with (first | (rw [H1.out];clear H1) | (rw [H2.out];clear H2))
 refine Dk.zq (S:=fun w'=>w'.cell? ⟨b,2,none⟩=some (.slice (some ⟨l.vb,0,none⟩) n l.vC)∧Dk.Box w' w.heap.size #[.int .i64 m,.int .i64 t,.slice A L C] 55) [(true,0),(true,1),(true,2),(true,3),(true,4),(true,5),(true,6),(false,7)] (by kernel_rfl) (by kernel_rfl) (by kernel_rfl) rfl HX.out ?_
 iterate 5 (refine Dk.zj rfl rfl (fun w' hw'=>by have q0:=hw'.1;go_simp;try rfl) ?_;simp only [zD])
 refine Dk.zj (v:=Dk.vv m t A L C) rfl rfl (fun w' hw'=>by have q0:=hw'.2.cell 0;have q1:=hw'.2.cell 1;have q2:=hw'.2.cell 2;go_simp) ?_
 simp only [zD]
 refine Dk.zj (v:=.pointer (some ⟨l.vb,k*3,none⟩)) rfl rfl (fun w' hw'=>by go_simp) ?_
 simp only [zD]
 refine Dk.zaq rfl rfl ?_
 refine wp_store_mid 55 _ _ rfl l.vb (k*3) #[.int .i64 m,.int .i64 t,.slice A L C] rfl rfl HT.out zz (zah _ _ _ _ _) ?_
 refine ⟨HY.out,?_⟩
 simp only [zD]
 show NoPanic _ Exit.normal _ _
 refine NoPanic.normal ?_
 go_end0
 exact ⟨rfl,HL.out⟩
end
end Go.Proofs.YtpnajphbjfehnaaGreat
namespace Dk
open Go Go.RowKit
section
variable {σ : Type}
abbrev didv (cm:Bool) (t:Int) (A:Option Addr) (C:Nat) (e:Efx):Value:=.agg #[.bool cm,.int .i64 t,.slice A e.woken.length C,.bool e.st,.bool e.en,.bool e.ye]
def Ls.procs (x:Ls σ):List Nat:=(List.range x.vs.length).filter fun k=>(x.at k).m != 0
def Ls.tell (x:Ls σ) (es:List Ev):Ls σ:=if es=[] then x else match x.procs with
 | []=>{ x with ws:=x.ws++es }
 | k::_=>x.setV k ⟨1,-1,stripV (x.at k).m (x.at k).t (x.at k).es++es⟩
def Ls.small (x:Ls σ):Prop:=x.ws.length≤1000000∧∀ v ∈ x.vs,v.es.length≤1000000
theorem zhn (k:Int) (ts:List Int) (rs:List (List Int)) (j:Nat) (hj:j < ts.length):comeR k (ts.take (j+1)) rs=addTo (comeR k (ts.take j) rs) k (ts.getD j 0):=by
 unfold comeR
 rw [List.take_succ_eq_append_getElem hj,List.foldl_append]
 simp [List.getD,hj]
theorem zkr (ts:List Int) (j:Nat) (hj:j < ts.length):unbl (ts.take (j+1))=unbl (ts.take j)++[⟨3,ts.getD j 0,0⟩]:=by
 unfold unbl
 rw [List.take_succ_eq_append_getElem hj,List.map_append]
 simp [List.getD,hj]
theorem zbj (ts:List Int):(unbl ts).length=ts.length:=List.length_map _
end
end Dk
namespace Go.Proofs.YtpnajphbjfehnaaGreat
open Go.RowKit Go.Lib
theorem eff_size:(Tryz.prog.info? 43).map (·.size)=some 4:=by kernel_rfl
theorem zjh (A:Option Addr) (n C:Nat) (x y z:Bool):(#[.slice A n C,.bool x,.bool y,.bool z]:Array Value).all (·.oneCell')=true:=by simp [Value.oneCell']
theorem zc:(Tryz.prog.info? 45).map (·.size)=some 6:=by kernel_rfl
theorem zh (c:Bool) (t:Int) (A:Option Addr) (n C:Nat) (x y z:Bool):(#[.bool c,.int .i64 t,.slice A n C,.bool x,.bool y,.bool z]:Array Value).all (·.oneCell')=true:=by simp [Value.oneCell']
section
variable {σ : Type} {F : Dk.SpF σ} {S0 : Nat → σ → List Dk.Thing → Prop} {W w w' : World} {b : Nat} {l : Dk.Lb σ} {us : List Dk.Thing}
theorem zd3 (I:SpaceI F S0) (h:Dk.LB S0 W w b l us) (hok:F.ok l.s) {t c:Int} (ht:Dk.i64 t) (hc:Dk.i64 c):Calls Tryz.prog 119 #[.pointer (some ⟨b,0,none⟩),.int .i64 t,.int .i64 c] w fun e w'=>∃ A C,e=.returned (Dk.didv true t A C (F.eff l.s t c))∧∃ l':Dk.Lb σ,l'.st={ l.st with s:=F.run l.s t c }∧Dk.LB S0 W w' b l' (Dk.rowOf 3 1 (.slice A (F.eff l.s t c).woken.length C) (F.eff l.s t c).woken.length (Dk.is (F.eff l.s t c).woken)::us):=by
 obtain ⟨W1,e1⟩:∃ W,W=w.alloc (.cells #[.bool false,.int .i64 0,.slice none 0 0,.bool false,.bool false,.bool false] 45):=⟨_,rfl⟩
 have h1:=h.newBox e1
 have c0:W1.cell? ⟨b,0,none⟩=some (.pointer (some ⟨l.sp,0,none⟩)):=h1.box.cell 0
 obtain ⟨ts,hS,s1,back⟩:=h1.spOut
 have K:=I.run hS s1 hok t c ht hc
 generalize F.eff l.s t c=E at *
 generalize F.err l.s t c=er at *
 generalize hq:F.run l.s t c=q at *
 have HB:Hid _:=back
 have H1:Hid _:=e1.symm
 clear e1 h h1 hS s1 back hok ht hc
 go_enter Tryz.func119,Tryz.ntmps119
 go_wp2_with (rw [H1.out];clear H1)
 refine K.mono ?_
 rintro e w2 ⟨A,C,rfl,sts',hS',s2⟩
 have h2:=HB.out w2 q sts' _ hS' s2
 obtain ⟨W3,e3⟩:∃ W,W=w2.alloc (.cells #[.slice none 0 0,.bool false,.bool false,.bool false] 43):=⟨_,rfl⟩
 have h3:=h2.newBox e3
 have b3:Dk.Box W3 w2.heap.size #[.slice none 0 0,.bool false,.bool false,.bool false] 43:=h3.get (t:=Dk.boxOf _ _ _) (by simp)
 have h4:=Dk.LB.setRow (us1:=[]) h3 #[.slice A E.woken.length C,.bool E.st,.bool E.en,.bool E.ye]
 obtain ⟨W4,e4⟩:∃ W,W=W3.setRow w2.heap.size #[.slice A E.woken.length C,.bool E.st,.bool E.en,.bool E.ye]:=⟨_,rfl⟩
 rw [← e4] at h4
 have b4:Dk.Box W4 w2.heap.size #[.slice A E.woken.length C,.bool E.st,.bool E.en,.bool E.ye] 43:=h4.get (t:=Dk.boxOf _ _ _) (by simp)
 have d0:W4.cell? ⟨w2.heap.size,0,none⟩=some (.slice A E.woken.length C):=b4.cell 0
 have d1:W4.cell? ⟨w2.heap.size,1,none⟩=some (.bool E.st):=b4.cell 1
 have d2:W4.cell? ⟨w2.heap.size,2,none⟩=some (.bool E.en):=b4.cell 2
 have d3:W4.cell? ⟨w2.heap.size,3,none⟩=some (.bool E.ye):=b4.cell 3
 have a4:Dk.Box W4 w.heap.size #[.bool false,.int .i64 0,.slice none 0 0,.bool false,.bool false,.bool false] 45:=h4.get (t:=Dk.boxOf _ _ _) (by simp)
 have h5:=Dk.LB.setRow (us1:=[_,_]) h4 #[.bool true,.int .i64 t,.slice A E.woken.length C,.bool E.st,.bool E.en,.bool E.ye]
 obtain ⟨W5,e5⟩:∃ W,W=W4.setRow w.heap.size #[.bool true,.int .i64 t,.slice A E.woken.length C,.bool E.st,.bool E.en,.bool E.ye]:=⟨_,rfl⟩
 rw [← e5] at h5
 have b5:Dk.Box W5 w.heap.size #[.bool true,.int .i64 t,.slice A E.woken.length C,.bool E.st,.bool E.en,.bool E.ye] 45:=h5.get (t:=Dk.boxOf _ _ _) (by simp)
 have HL:Hid (∃ l':Dk.Lb σ,l'.st={ l.st with s:=q }∧Dk.LB S0 W W5 b l' (Dk.rowOf 3 1 (.slice A E.woken.length C) E.woken.length (Dk.is E.woken)::us)):=⟨_,rfl,h5.sub ((((List.Sublist.refl us).cons _).cons_cons _).cons _)⟩
 have HB3:Hid _:=b3
 have HB4:Hid _:=a4
 have HB5:Hid _:=b5
 have H3:Hid _:=e3.symm
 have H4:Hid _:=e4.symm
 have H5:Hid _:=e5.symm
 clear HB hS' s2 h2 h3 h4 h5 e3 e4 e5 b3 b4 a4 b5 K
 go_wp2_with (first | (rw [H3.out];clear H3) | (refine wpList_store_row rfl 43 _ _ rfl w2.heap.size #[.slice A E.woken.length C,.bool E.st,.bool E.en,.bool E.ye] rfl rfl 43 _ HB3.out.heap eff_size rfl (zjh _ _ _ _ _ _) ?_;rw [H4.out];clear HB3 H4) | (refine wpList_store_row rfl 45 _ _ rfl w.heap.size #[.bool true,.int .i64 t,.slice A E.woken.length C,.bool E.st,.bool E.en,.bool E.ye] rfl rfl 45 _ HB4.out.heap zc rfl (zh _ _ _ _ _ _ _ _) ?_;rw [H5.out];clear HB4 H5))
 (try simp only [Exit.inBlock,Exit.then])
 refine bodyPost_ret (results_cell_row rfl _ _ w.heap.size 45 #[.bool true,.int .i64 t,.slice A E.woken.length C,.bool E.st,.bool E.en,.bool E.ye] (0,0) _ rfl HB5.out.heap Tryz.underlying45 rfl zc) rfl ?_
 exact ⟨_,_,rfl,HL.out⟩
theorem zdl (h:Dk.LB S0 W w b l us) {A:Option Addr} {n C k:Nat} {ts:List Int} (hk:k < 64) (hT:Dk.rowOf 3 1 (.slice A n C) n (Dk.is ts) ∈ us) (hn:ts.length=n) (hx:∀ t ∈ ts,0≤t∧t < 16):Calls Tryz.prog 120 #[.pointer (some ⟨b,0,none⟩),.int .i64 (k:Int),.slice A n C] w fun e w'=>e=.returned (.tuple #[])∧∃ l':Dk.Lb σ,l'.st=l.st.come k ts∧Dk.LB S0 W w' b l' us:=by
 have hi:∀ t ∈ ts,Dk.i64 t:=fun t ht=>by have:=hx t ht;unfold Dk.i64;omega
 have hmx:=(h.ints hT hn hi).max
 have hcp:=(h.ints hT hn hi).cap
 unfold maxLen at hmx
 have HH:Hid _:=h
 have HT:Hid _:=hT
 have HI:Hid (∀ t ∈ ts,Dk.i64 t):=hi
 have HX:Hid (∀ t ∈ ts,0≤t∧t < 16):=hx
 clear h hT hi hx
 go_enter Tryz.func120,Tryz.ntmps120
 go_wp2_with fail
 go_loopw [10] (fun i w'=>∃ j:Nat,j≤n∧i=.int .i64 j∧Hid (∃ l':Dk.Lb σ,l'.st=l.st.come k (ts.take j)∧Dk.LB S0 W w' b l' us)) (fun i w'=>n - (RowKit.intOf i).toNat)
 case atStart=>exact ⟨0,Nat.zero_le _,rfl,l,rfl,HH.out⟩
 case round=>
  obtain ⟨j,hj,rfl,hL⟩:=hrel
  obtain ⟨l1,hl1,h1⟩:=Hid.out hL
  have h1':=h1
  clear HH
  by_cases hlt:j < n
  ·have hI:=h1.ints HT.out hn HI.out
   obtain ⟨g,o,rfl,hc⟩:=Dk.zeq hI j hlt
   have cj:=hc wr (Below.refl _ _)
   have hxx:=HX.out (ts.getD j 0) (by simp [List.getD,show j < ts.length by omega])
   have es:=Dk.zhn k ts l.rows j (by omega)
   generalize ts.getD j 0=x at *
   have c1:wr.cell? ⟨b,1,none⟩=some (.pointer (some ⟨l1.rb,0,none⟩)):=h1.box.cell 1
   obtain ⟨us',hR,hF,hg,s1,back⟩:=h1.rowsOut
   have K:=rowsR.add hR s1 hF (by omega) (k:Int) x (by unfold Dk.i64;omega) (by unfold Dk.i64;omega)
   have hf':=Dk.few_add (p:=(k:Int)) (t:=x) hF hg hxx
   have HB:Hid _:=back
   have HE:Hid _:=es
   have HL1:Hid _:=hl1
   have HF:Hid _:=hf'
   clear hI hc hxx es h1 h1' hR hF hg s1 back hl1 hf' hL
   go_wp2_with fail
   refine K.mono ?_
   rintro e w2 ⟨rfl,rts',hR',s2⟩
   have h2:=HB.out w2 _ rts' hR' HF.out.1 HF.out.2 s2
   have HZ:Hid (∃ l':Dk.Lb σ,l'.st=l.st.come k (ts.take (j+1))∧Dk.LB S0 W w2 b l' us):=⟨_,by
    have e1:=HL1.out
    unfold Dk.Lb.st Dk.Ls.come at e1 ⊢
    simp only [Dk.Ls.mk.injEq] at e1 ⊢
    rw [HE.out,← e1.2.2.2.1]
    exact ⟨e1.1,e1.2.1,e1.2.2.1,rfl,e1.2.2.2.2⟩,h2⟩
   clear K HB HL1 HF HE hR' s2 h2
   go_wp2_with fail
   go_roundw
   case rel=>exact ⟨j+1,by omega,by go_num,HZ.out⟩
   case measure=>simp [RowKit.intOf];omega
  ·obtain rfl:j=n:=by omega
   rw [List.take_of_length_le (by omega)] at hl1
   have HZ:Hid (∃ l':Dk.Lb σ,l'.st=l.st.come k ts∧Dk.LB S0 W wr b l' us):=⟨l1,hl1,h1⟩
   clear h1 h1' hl1 hL HT HI HX
   go_wp2_with fail
   go_end0
   exact ⟨rfl,HZ.out⟩
end
end Go.Proofs.YtpnajphbjfehnaaGreat
