import Derived.Test.YtglhhlfopccmaaaGreatOn42
import Derived.ChangeKeysEq
set_option linter.unusedSimpArgs false
set_option linter.unusedVariables false
set_option linter.unnecessarySimpa false
set_option maxHeartbeats 8000000
set_option maxRecDepth 100000
namespace Dk
open Go Go.RowKit
structure SlC (w:World) (A:Option Addr) (n C s:Nat) (xs:List Value):Prop where
 len:xs.length=n*s
 cap:n≤C
 max:C≤maxLen
 cells:0 < n→∃ b o,A=some ⟨b,o,none⟩∧b < w.heap.size∧∀ j u,xs[j]? = some u→w.cell? ⟨b,o+j,none⟩=some u
theorem SlC.below {w w':World} {A:Option Addr} {n C s:Nat} {xs:List Value} (h:SlC w A n C s xs) (u:Below w.heap.size w w'):SlC w' A n C s xs:=⟨h.len,h.cap,h.max,fun h0=>by
 obtain ⟨b,o,e,hb,hc⟩:=h.cells h0
 exact ⟨b,o,e,Nat.lt_of_lt_of_le hb u.size,fun j v hj=>by rw [u.cell hb];exact hc j v hj⟩⟩
theorem SlC.take {w:World} {A:Option Addr} {n C s:Nat} {xs:List Value} (h:SlC w A n C s xs) {m:Nat} (hm:m≤n):SlC w A m C s (xs.take (m*s)):=⟨by
 rw [List.length_take,h.len]
 have:=Nat.mul_le_mul_right s hm
 omega,by have:=h.cap;omega,h.max,fun h0=>by
 obtain ⟨b,o,e,hb,hc⟩:=h.cells (by omega)
 refine ⟨b,o,e,hb,fun j u hj=>hc j u ?_⟩
 rw [List.getElem?_take] at hj
 split at hj
 ·exact hj
 ·cases hj⟩
end Dk
namespace Go.Proofs.YtglhhlfopccmaaaGreat
open Go.RowKit Go.Lib
section
variable {W w w' : World}
theorem Sep.rewrite {W w:World} {us1 us2:List Dk.Thing} {b:Nat} {cs:Array Value} {e:TypeId} (h:Dk.Sep W w (us1++Dk.boxOf b cs e::us2)) (cs':Array Value):Dk.Sep W (w.setRow b cs') (us1++Dk.boxOf b cs' e::us2):=
 Dk.Sep.turn h (Dk.Away.rowK (S:=(Dk.boxOf b cs e).own) (Dk.Away.refl _ _) (.inl rfl) _) ((h.box (b:=b) (cs:=cs) (t:=e) (by simp)).row) (fun k hk=>.inl hk)
end
end Go.Proofs.YtglhhlfopccmaaaGreat
namespace Dk
open Go Go.RowKit
theorem run_no {q:Sp} {slot ch:Int} (h:(q.run slot ch).2.2≠0):(q.run slot ch).1=q∧(q.run slot ch).2.1=Eff.none:=by
 unfold Sp.run at h ⊢
 dsimp only at h ⊢
 split
 ·exact ⟨rfl,rfl⟩
 split
 ·exact ⟨rfl,rfl⟩
 ·rename_i h1 h2
  rw [if_neg h1,if_neg h2] at h
  repeat' split at h
  all_goals exact absurd rfl h
end Dk
namespace Go.Proofs.YtglhhlfopccmaaaGreat
open Go.RowKit Go.Lib
section
variable {W w w' : World} {L L1 L2 : Dk.Loc} {q q0 q1 q2 : Dk.Sp} {k k1 k2 N R j : Nat} {us us' t2 : List Dk.Thing}
theorem Lives.mono {N' k' R':Nat} (h:Lives W w L q0 q N k R us) (hN:N≤N') (hk:k≤k') (hR:R≤R'):Lives W w L q0 q N' k' R' us:=⟨h.cor.mono hk,h.life.mono hN,h.dims,Nat.le_trans h.recs hR⟩
def Goes (W w:World) (L:Dk.Loc) (q0 q:Dk.Sp) (j:Nat) (us:List Dk.Thing):Prop:=Lives W w L q0 q j (j+1) (200*j) us
theorem run_goes (h:Goes W w L q0 q j us) (b:Dk.Born q0) (hj:j≤150) (slot ch:Int) (hch:Dk.i64 ch) :
  Calls Tryz.prog 28 #[.pointer (some ⟨L.b,0,none⟩),.int .i64 slot,.int .i64 ch] w fun e w'=>∃ A C,e=.returned (.tuple #[eff A (q.run slot ch).2.1.woken.length C (q.run slot ch).2.1.stopped (q.run slot ch).2.1.ended (q.run slot ch).2.1.yielded,.int .i64 (q.run slot ch).2.2])∧Goes W w' L q0 (q.run slot ch).1 (j+1) (Dk.rowOf 3 1 (.slice A (q.run slot ch).2.1.woken.length C) (q.run slot ch).2.1.woken.length (Dk.is (q.run slot ch).2.1.woken)::us):=by
 refine (run_lives h b (by omega) (by omega) (by omega) slot hch).mono ?_
 rintro e w' ⟨A,C,he,h'⟩
 exact ⟨A,C,he,h'.mono (Nat.le_refl _) (Nat.le_refl _) (by omega)⟩
theorem done_goes (h:Goes W w L q0 q j us) (b:Dk.Born q0) (hj:j≤150) (ch:Int) (hch:Dk.i64 ch) :
  Calls Tryz.prog 29 #[.pointer (some ⟨L.b,0,none⟩),.int .i64 ch] w fun e w'=>∃ A C,e=.returned (.tuple #[eff A (q.done ch).2.1.woken.length C false false false,.int .i64 (q.done ch).2.2])∧Goes W w' L q0 (q.done ch).1 (j+1) (Dk.rowOf 3 1 (.slice A (q.done ch).2.1.woken.length C) (q.done ch).2.1.woken.length (Dk.is (q.done ch).2.1.woken)::us):=by
 refine (done_lives h b (by omega) (by omega) (by omega) ch hch).mono ?_
 rintro e w' ⟨A,C,he,h'⟩
 exact ⟨A,C,he,h'.mono (by omega) (by omega) (by omega)⟩
theorem tick_goes (h:Goes W w L q0 q j us) (b:Dk.Born q0) (hj:j≤150) :
  Calls Tryz.prog 30 #[.pointer (some ⟨L.b,0,none⟩)] w fun e w'=>∃ A C,e=.returned (eff A q.tick.2.woken.length C false false false)∧Goes W w' L q0 q.tick.1 (j+1) (Dk.rowOf 3 1 (.slice A q.tick.2.woken.length C) q.tick.2.woken.length (Dk.is q.tick.2.woken)::us):=by
 refine (tick_lives h b (by omega) (by omega) (by omega)).mono ?_
 rintro e w' ⟨A,C,he,h'⟩
 exact ⟨A,C,he,h'.mono (by omega) (by omega) (by omega)⟩
theorem Goes.with (h:Goes W w L q0 q j us) (c:Cor W w L q (j+1) us→Cor W w' L q (j+1) us'):Goes W w' L q0 q j us':=Lives.with h c
def Beside (W:World) (L:Dk.Loc) (q:Dk.Sp) (k:Nat) (ts:List Dk.Thing):Prop:=∀ w us,Dk.Sep W w (us++ts)→Cor W w L q k us
theorem swap (c:Cor W w L1 q1 k1 (us++t2)) (f:Beside W L2 q2 k2 t2):∃ t1,Cor W w L2 q2 k2 (us++t1)∧Beside W L1 q1 k1 t1:=by
 obtain ⟨t1,hs,hf⟩:=c.opened
 refine ⟨t1,f _ _ (hs.perm ?_),hf⟩
 rw [List.append_assoc,List.append_assoc]
 exact List.Perm.append_left us List.perm_append_comm
def Twin (W w:World) (L1 L2:Dk.Loc) (q0 q:Dk.Sp) (j:Nat) (us:List Dk.Thing):Prop:=∃ t2,Goes W w L1 q0 q j (us++t2)∧Beside W L2 q (j+1) t2
theorem Twin.with (h:Twin W w L1 L2 q0 q j us) (c:∀ q k t2,Cor W w L1 q k (us++t2)→Cor W w' L1 q k (us'++t2)):Twin W w' L1 L2 q0 q j us':=by
 obtain ⟨t2,h1,h2⟩:=h
 exact ⟨t2,h1.with (c _ _ _),h2⟩
theorem Twin.swap (h:Twin W w L1 L2 q0 q j us):Twin W w L2 L1 q0 q j us:=by
 obtain ⟨t2,h1,h2⟩:=h
 obtain ⟨t1,c,f⟩:=Proofs.YtglhhlfopccmaaaGreat.swap h1.cor h2
 exact ⟨t1,⟨c,h1.life,h1.dims,h1.recs⟩,f⟩
def Half2 (W w:World) (L1 L2:Dk.Loc) (q0 q q':Dk.Sp) (j:Nat) (us:List Dk.Thing):Prop:=∃ t2,Goes W w L1 q0 q' (j+1) (us++t2)∧Beside W L2 q (j+1) t2∧Dk.Life j q∧Dk.Dims q0 q∧q.recs.length≤200*j
theorem Half2.with (h:Half2 W w L1 L2 q0 q q1 j us) (c:∀ q k t2,Cor W w L1 q k (us++t2)→Cor W w' L1 q k (us'++t2)):Half2 W w' L1 L2 q0 q q1 j us':=by
 obtain ⟨t2,h1,h2⟩:=h
 exact ⟨t2,h1.with (c _ _ _),h2⟩
theorem Half2.same (h:Half2 W w L1 L2 q0 q q j us):Twin W w L1 L2 q0 q (j+1) us:=by
 obtain ⟨t2,h1,h2,_⟩:=h
 exact ⟨t2,h1,fun w us s=>(h2 w us s).mono (by omega)⟩
end
section
variable {W w w' : World} {L L1 L2 : Dk.Loc} {q q0 q1 q2 : Dk.Sp} {j : Nat} {us us' : List Dk.Thing}
theorem Twin.out (h:Twin W w L1 L2 q0 q j us):Below W.heap.size W w:=by
 obtain ⟨t2,h1,_⟩:=h
 exact h1.cor.out
theorem Twin.box {a:Nat} {cs:Array Value} {e:TypeId} (h:Twin W w L1 L2 q0 q j us) (ht:Dk.boxOf a cs e ∈ us):Dk.Box w a cs e:=by
 obtain ⟨t2,h1,_⟩:=h
 exact h1.cor.box (List.mem_append_left _ ht)
theorem Half2.box {a:Nat} {cs:Array Value} {e:TypeId} (h:Half2 W w L1 L2 q0 q q1 j us) (ht:Dk.boxOf a cs e ∈ us):Dk.Box w a cs e:=by
 obtain ⟨t2,h1,_⟩:=h
 exact h1.cor.box (List.mem_append_left _ ht)
theorem Twin.newBox {cs:Array Value} {e:TypeId} (h:Twin W w L1 L2 q0 q j us) (ew:w'=w.alloc (.cells cs e)):Twin W w' L1 L2 q0 q j (Dk.boxOf w.heap.size cs e::us):=h.with fun _ _ _ c=>c.newBox ew
theorem Half2.newBox {cs:Array Value} {e:TypeId} (h:Half2 W w L1 L2 q0 q q1 j us) (ew:w'=w.alloc (.cells cs e)):Half2 W w' L1 L2 q0 q q1 j (Dk.boxOf w.heap.size cs e::us):=h.with fun _ _ _ c=>c.newBox ew
theorem Twin.drop {t:Dk.Thing} (h:Twin W w L1 L2 q0 q j (t::us)):Twin W w L1 L2 q0 q j us:=h.with fun _ _ _ c=>c.drop
theorem Half2.drop {t:Dk.Thing} (h:Half2 W w L1 L2 q0 q q1 j (t::us)):Half2 W w L1 L2 q0 q q1 j us:=h.with fun _ _ _ c=>c.drop
end
section
variable {W w w' : World} {L L1 L2 : Dk.Loc} {q q0 q1 q2 : Dk.Sp} {j : Nat} {us us' : List Dk.Thing}
theorem goes_records (h:Goes W w L q0 q j us) (hj:j≤150) :
  Calls Tryz.prog 25 #[.pointer (some ⟨L.b,0,none⟩)] w fun e w'=>∃ A C,e=.returned (.slice A q.recs.length C)∧Goes W w' L q0 q j (Dk.rowOf 74 6 (.slice A q.recs.length C) q.recs.length (q.recs.flatMap Dk.Rec.cells)::us):=by
 refine (Records_any h.cor (by have:=h.recs;omega)).mono ?_
 rintro e w' ⟨A,C,he,h'⟩
 exact ⟨A,C,he,h.with fun _=>h'⟩
theorem goes_ready (h:Goes W w L q0 q j us) (b:Dk.Born q0) :
  Calls Tryz.prog 22 #[.pointer (some ⟨L.b,0,none⟩)] w fun e w'=>∃ A C,e=.returned (.slice A q.ready.length C)∧Goes W w' L q0 q j (Dk.rowOf 3 1 (.slice A q.ready.length C) q.ready.length (Dk.is q.ready)::us):=by
 refine (Ready_any h.cor (by rw [h.dims.sl];exact b.h16)).mono ?_
 rintro e w' ⟨A,C,he,h'⟩
 exact ⟨A,C,he,h.with fun _=>h'⟩
theorem Twin.row {e:TypeId} {s m:Nat} {v:Value} {xs:List Value} (h:Twin W w L1 L2 q0 q j us) (ht:Dk.rowOf e s v m xs ∈ us):w.ownsRow W.heap.size e s v m xs:=by
 obtain ⟨t2,h1,_⟩:=h
 exact h1.cor.row (List.mem_append_left _ ht)
theorem Twin.below (h:Twin W w L1 L2 q0 q j us) (u:Below w.heap.size w w'):Twin W w' L1 L2 q0 q j us:=h.with fun _ _ _ c=>c.below u
end
end Go.Proofs.YtglhhlfopccmaaaGreat
namespace Dk
open Go Go.RowKit
structure Cell where
 L:Loc
 q0:Sp
 q:Sp
def Cell.ptr (c:Cell):Value:=.pointer (some ⟨c.L.b,0,none⟩)
def Cell.go (c:Cell) (q:Sp):Cell:={ c with q:=q }
theorem flatten_perm {α:Type}:∀ (l:List (List α)) (i:Nat) (x:List α),l[i]? = some x→l.flatten.Perm (x++(l.eraseIdx i).flatten)
 | [],i,x,h=>by simp at h
 | y::l,0,x,h=>by
  simp at h
  subst h
  exact List.Perm.refl _
 | y::l,i+1,x,h=>by
  have ih:=flatten_perm l i x (by simpa using h)
  rw [List.flatten_cons,List.eraseIdx_cons_succ,List.flatten_cons]
  exact (List.Perm.append_left y ih).trans (List.perm_append_comm_assoc _ _ _)
end Dk
namespace Go.Proofs.YtglhhlfopccmaaaGreat
open Go.RowKit Go.Lib
structure Fine1 (W:World) (j:Nat) (c:Dk.Cell) (ps:List Dk.Thing):Prop where
 lies:Beside W c.L c.q (j+1) ps
 born:Dk.Born c.q0
 life:Dk.Life j c.q
 dims:Dk.Dims c.q0 c.q
 recs:c.q.recs.length≤200*j
theorem Fine1.le {W:World} {j j':Nat} {c:Dk.Cell} {ps:List Dk.Thing} (h:Fine1 W j c ps) (hj:j≤j'):Fine1 W j' c ps:=
 ⟨fun w us s=>(h.lies w us s).mono (by omega),h.born,h.life.mono hj,h.dims,by have:=h.recs;omega⟩
def Many (W w:World) (cs:List Dk.Cell) (lev:Nat→Nat) (us:List Dk.Thing):Prop:=∃ pss:List (List Dk.Thing),pss.length=cs.length∧Dk.Sep W w (us++pss.flatten)∧∀ (i:Nat) c ps,cs[i]? = some c→pss[i]? = some ps→Fine1 W (lev i) c ps
section
variable {W w w' : World} {cs : List Dk.Cell} {j lev lev' : Nat → Nat} {us us' : List Dk.Thing}
theorem Many.out (h:Many W w cs j us):Below W.heap.size W w:=by
 obtain ⟨pss,_,s,_⟩:=h
 exact s.out
theorem Many.map (h:Many W w cs j us) (f:∀ ts,Dk.Sep W w (us++ts)→Dk.Sep W w' (us'++ts)):Many W w' cs j us':=by
 obtain ⟨pss,hl,s,hf⟩:=h
 exact ⟨pss,hl,f _ s,hf⟩
theorem Many.below (h:Many W w cs j us) (u:Below w.heap.size w w'):Many W w' cs j us:=h.map fun _ s=>s.below u
theorem Many.drop {t:Dk.Thing} (h:Many W w cs j (t::us)):Many W w cs j us:=h.map fun _ s=>s.sub (List.sublist_cons_self _ _)
theorem Many.newBox {ce:Array Value} {e:TypeId} (h:Many W w cs j us) (ew:w'=w.alloc (.cells ce e)):Many W w' cs j (Dk.boxOf w.heap.size ce e::us):=h.map fun _ s=>s.newBox ew
theorem Many.box {a:Nat} {ce:Array Value} {e:TypeId} (h:Many W w cs j us) (ht:Dk.boxOf a ce e ∈ us):Dk.Box w a ce e:=by
 obtain ⟨pss,_,s,_⟩:=h
 exact s.box (List.mem_append_left _ ht)
theorem Many.row {e:TypeId} {s m:Nat} {v:Value} {xs:List Value} (h:Many W w cs j us) (ht:Dk.rowOf e s v m xs ∈ us):w.ownsRow W.heap.size e s v m xs:=by
 obtain ⟨pss,_,s,_⟩:=h
 exact s.row (List.mem_append_left _ ht)
theorem Many.perm (h:Many W w cs j us) (p:us.Perm us'):Many W w cs j us':=h.map fun _ s=>s.perm (p.append_right _)
theorem Many.begin (s:Dk.Sep W w us):Many W w [] j us:=⟨[],rfl,by simpa using s,fun i c ps h=>by simp at h⟩
theorem Many.snoc {L:Dk.Loc} {q0:Dk.Sp} (h:Many W w cs (fun _=>0) us) (b:Dk.Born q0) (f:∀ ts,Dk.Sep W w (us++ts)→Lives W w' L q0 q0 0 1 0 (us++ts)):Many W w' (cs++[⟨L,q0,q0⟩]) (fun _=>0) us:=by
 obtain ⟨pss,hl,s,hf⟩:=h
 have hL:=f _ s
 obtain ⟨ps,s2,fl⟩:=hL.cor.opened
 refine ⟨pss++[ps],by simp [hl],?_,fun i c qs hc hq=>?_⟩
 ·rw [List.flatten_append,List.flatten_singleton,← List.append_assoc]
  exact s2
 ·by_cases hi:i < cs.length
  ·rw [List.getElem?_append_left hi] at hc
   rw [List.getElem?_append_left (by omega)] at hq
   exact hf i c qs hc hq
  ·have hic:=(List.getElem?_eq_some_iff.1 hc).1
   simp at hic
   obtain rfl:i=cs.length:=by omega
   rw [List.getElem?_append_right (by omega),Nat.sub_self] at hc
   rw [List.getElem?_append_right (by omega),show cs.length - pss.length=0 by omega] at hq
   cases hc
   cases hq
   exact ⟨fl,b,hL.life,hL.dims,by have:=hL.recs;omega⟩
theorem Many.at (h:Many W w cs j us) {i:Nat} {c:Dk.Cell} (hc:cs[i]? = some c):∃ rest,Goes W w c.L c.q0 c.q (j i) (us++rest)∧Dk.Born c.q0∧
  (∀ w' us' q',Goes W w' c.L c.q0 q' (j i+1) (us'++rest)→Many W w' (cs.set i (c.go q')) (Dk.upd j i (j i+1)) us')∧(∀ w' us',Goes W w' c.L c.q0 c.q (j i) (us'++rest)→Many W w' cs j us'):=by
 obtain ⟨pss,hl,s,hf⟩:=h
 have hil:=(List.getElem?_eq_some_iff.1 hc).1
 obtain ⟨ps,hps⟩:∃ ps,pss[i]? = some ps:=⟨_,List.getElem?_eq_getElem (by omega)⟩
 have F:=hf i c ps hc hps
 have key:∀ w' us',Dk.Sep W w' (us'++pss.flatten)→Dk.Sep W w' ((us'++(pss.eraseIdx i).flatten)++ps):=fun w' us' s=>s.perm (by
  refine (List.Perm.append_left us' (Dk.flatten_perm pss i ps hps)).trans ?_
  rw [List.append_assoc]
  exact List.Perm.append_left us' List.perm_append_comm)
 refine ⟨(pss.eraseIdx i).flatten,⟨F.lies _ _ (key _ _ s),F.life,F.dims,F.recs⟩,F.born,fun w' us' q' hG=>?_,fun w' us' hG=>?_⟩
 ·obtain ⟨ps',s',f'⟩:=hG.cor.opened
  refine ⟨pss.set i ps',by rw [List.length_set,List.length_set,hl],?_,fun k d qs hd hq=>?_⟩
  ·have hp:=Dk.flatten_perm (pss.set i ps') i ps' (List.getElem?_set_self (by omega))
   rw [List.eraseIdx_set_eq] at hp
   refine s'.perm ?_
   rw [List.append_assoc]
   exact List.Perm.append_left us' (List.perm_append_comm.trans hp.symm)
  ·by_cases hk:i=k
   ·subst hk
    rw [List.getElem?_set_self hil] at hd
    rw [List.getElem?_set_self (by omega)] at hq
    cases hd
    cases hq
    rw [Dk.upd_same]
    exact ⟨f',F.born,hG.life,hG.dims,hG.recs⟩
   ·rw [List.getElem?_set_ne hk] at hd hq
    rw [Dk.upd_ne _ _ (Ne.symm hk)]
    exact hf k d qs hd hq
 ·obtain ⟨ps',s',f'⟩:=hG.cor.opened
  refine ⟨pss.set i ps',by rw [List.length_set,hl],?_,fun k d qs hd hq=>?_⟩
  ·have hp:=Dk.flatten_perm (pss.set i ps') i ps' (List.getElem?_set_self (by omega))
   rw [List.eraseIdx_set_eq] at hp
   refine s'.perm ?_
   rw [List.append_assoc]
   exact List.Perm.append_left us' (List.perm_append_comm.trans hp.symm)
  ·by_cases hk:i=k
   ·subst hk
    rw [hc] at hd
    rw [List.getElem?_set_self (by omega)] at hq
    cases hd
    cases hq
    exact ⟨f',F.born,hG.life,hG.dims,hG.recs⟩
   ·rw [List.getElem?_set_ne hk] at hq
    exact hf k d qs hd hq
theorem Many.le (h:Many W w cs lev us) (hl:∀ i,lev i≤lev' i):Many W w cs lev' us:=by
 obtain ⟨pss,h1,s,hf⟩:=h
 exact ⟨pss,h1,s,fun i c ps hc hp=>(hf i c ps hc hp).le (hl i)⟩
end
def OneM (W w:World) (b:Nat) (cs:List Dk.Cell) (j:Nat→Nat) (us:List Dk.Thing):Prop:=∃ v,Many W w cs j (Dk.boxOf b #[v] 152::Dk.rowOf 27 1 v cs.length (cs.map Dk.Cell.ptr)::us)
theorem SpaceO_nil (n:Int) (w:World):Calls Tryz.prog 42 #[.pointer none,.int .i64 n] w fun e w'=>e=.returned (.pointer none)∧w'=w:=by
 go_enter Tryz.func42,Tryz.ntmps42
 go_wp2_with fail
 go_ret
 exact ⟨rfl,rfl⟩
theorem SpaceO_low (b:Nat) (n:Int) (w:World) (hn:n < 0):Calls Tryz.prog 42 #[.pointer (some ⟨b,0,none⟩),.int .i64 n] w fun e w'=>e=.returned (.pointer none)∧w'=w:=by
 go_enter Tryz.func42,Tryz.ntmps42
 go_wp2_with fail
 go_ret
 exact ⟨rfl,rfl⟩
theorem SpaceO_high (b:Nat) (A:Option Addr) (m C:Nat) (n:Nat) (w:World) (hc:w.cell? ⟨b,0,none⟩=some (.slice A m C)) (hn:m≤n):Calls Tryz.prog 42 #[.pointer (some ⟨b,0,none⟩),.int .i64 (n:Int)] w fun e w'=>e=.returned (.pointer none)∧w'=w:=by
 have h0:¬ ((n:Int) < 0):=by omega
 have h1:(m:Int)≤(n:Int):=by omega
 go_enter Tryz.func42,Tryz.ntmps42
 go_wp2_with fail
 go_ret
 exact ⟨rfl,rfl⟩
theorem SpaceO_in (b g m C n:Nat) (v:Value) (w:World) (hc:w.cell? ⟨b,0,none⟩=some (.slice (some ⟨g,0,none⟩) m C)) (hv:w.cell? ⟨g,n,none⟩=some v) (hn:n < m):Calls Tryz.prog 42 #[.pointer (some ⟨b,0,none⟩),.int .i64 (n:Int)] w fun e w'=>e=.returned v∧w'=w:=by
 have h0:¬ ((n:Int) < 0):=by omega
 have h1:¬ ((m:Int)≤(n:Int)):=by omega
 have h2:(n:Int) < (m:Int):=by omega
 have h3:(0:Int)≤(n:Int):=by omega
 go_enter Tryz.func42,Tryz.ntmps42
 go_wp2_with fail
 go_ret
 exact ⟨rfl,rfl⟩
section
variable {W w w' : World} {b : Nat} {j : Nat → Nat} {cs : List Dk.Cell} {us : List Dk.Thing}
theorem SpaceO_yes (h:OneM W w b cs j us) {k:Nat} {c:Dk.Cell} (hc:cs[k]? = some c):Calls Tryz.prog 42 #[.pointer (some ⟨b,0,none⟩),.int .i64 (k:Int)] w fun e w'=>e=.returned c.ptr∧w'=w:=by
 obtain ⟨v,hM⟩:=h
 have hkl:=(List.getElem?_eq_some_iff.1 hc).1
 obtain ⟨g,C,x,ev,_,_,hx,hcell,_,_⟩:=Dk.row_cell1 (hM.row (e:=27) (s:=1) (v:=v) (m:=cs.length) (xs:=cs.map Dk.Cell.ptr) (by simp)) hkl
 rw [List.getElem?_map,hc] at hx
 cases hx
 have hb:=(hM.box (a:=b) (ce:=#[v]) (e:=152) (by simp)).cell 0
 rw [ev] at hb
 exact SpaceO_in b g cs.length C k _ w hb hcell hkl
theorem SpaceO_no (h:OneM W w b cs j us) (n:Int) (hn:n < 0∨(cs.length:Int)≤n):Calls Tryz.prog 42 #[.pointer (some ⟨b,0,none⟩),.int .i64 n] w fun e w'=>e=.returned (.pointer none)∧w'=w:=by
 by_cases h0:n < 0
 ·exact SpaceO_low b n w h0
 ·obtain ⟨v,hM⟩:=h
  obtain ⟨A,C,ev,_,_⟩:=Dk.owns_slice (hM.row (e:=27) (s:=1) (v:=v) (m:=cs.length) (xs:=cs.map Dk.Cell.ptr) (by simp))
  have hb:=(hM.box (a:=b) (ce:=#[v]) (e:=152) (by simp)).cell 0
  rw [ev] at hb
  obtain ⟨m,rfl⟩:∃ m:Nat,n=m:=⟨n.toNat,by omega⟩
  exact SpaceO_high b A cs.length C m w hb (by omega)
end
end Go.Proofs.YtglhhlfopccmaaaGreat
namespace Dk
theorem set_map {cs:List Cell} {i:Nat} {c:Cell} {c':Cell} (hc:cs[i]? = some c) (hp:c'.ptr=c.ptr):(cs.set i c').map Cell.ptr=cs.map Cell.ptr:=by
 rw [List.map_set,hp]
 apply List.ext_getElem?
 intro k
 by_cases h:i=k
 ·subst h
  have hl:=(List.getElem?_eq_some_iff.1 hc).1
  rw [List.getElem?_set_self (by simpa using hl),List.getElem?_map,hc]
  rfl
 ·rw [List.getElem?_set_ne h]
end Dk
namespace Go.Proofs.YtglhhlfopccmaaaGreat
open Go.RowKit Go.Lib
section
variable {W w w' : World} {b : Nat} {j : Nat → Nat} {cs : List Dk.Cell} {us us' : List Dk.Thing}
theorem OneM.at (h:OneM W w b cs j us) {i:Nat} {c:Dk.Cell} (hc:cs[i]? = some c):∃ rest,Goes W w c.L c.q0 c.q (j i) (us++rest)∧Dk.Born c.q0∧
  (∀ w' us' q',Goes W w' c.L c.q0 q' (j i+1) (us'++rest)→OneM W w' b (cs.set i (c.go q')) (Dk.upd j i (j i+1)) us')∧(∀ w' us',Goes W w' c.L c.q0 c.q (j i) (us'++rest)→OneM W w' b cs j us'):=by
 obtain ⟨v,hM⟩:=h
 obtain ⟨rest,h1,h2,h3,h4⟩:=hM.at hc
 have mv:∀ (u r:List Dk.Thing) (x y:Dk.Thing),(u++([x,y]++r)).Perm ((x::y::u)++r):=fun u r x y=>(List.perm_append_comm_assoc u [x,y] r)
 refine ⟨[Dk.boxOf b #[v] 152,Dk.rowOf 27 1 v cs.length (cs.map Dk.Cell.ptr)]++rest,h1.with (fun c=>c.perm (mv _ _ _ _).symm),h2,fun w' us' q' hG=>⟨v,?_⟩,fun w' us' hG=>⟨v,?_⟩⟩
 ·rw [List.length_set,Dk.set_map (c':=c.go q') hc rfl]
  exact h3 w' _ q' (hG.with (fun c=>c.perm (mv _ _ _ _)))
 ·exact h4 w' _ (hG.with (fun c=>c.perm (mv _ _ _ _)))
theorem OneM.with (h:OneM W w b cs j us) (f:∀ v ts,Dk.Sep W w (us++(Dk.boxOf b #[v] 152::Dk.rowOf 27 1 v cs.length (cs.map Dk.Cell.ptr)::ts))→Dk.Sep W w' (us'++(Dk.boxOf b #[v] 152::Dk.rowOf 27 1 v cs.length (cs.map Dk.Cell.ptr)::ts))):OneM W w' b cs j us':=by
 obtain ⟨v,hM⟩:=h
 refine ⟨v,hM.map fun ts s=>?_⟩
 have mv:∀ (u r:List Dk.Thing) (x y:Dk.Thing),(u++([x,y]++r)).Perm ((x::y::u)++r):=fun u r x y=>(List.perm_append_comm_assoc u [x,y] r)
 exact (f v ts (s.perm (mv us ts _ _).symm)).perm (mv us' ts _ _)
theorem OneM.newBox {ce:Array Value} {e:TypeId} (h:OneM W w b cs j us) (ew:w'=w.alloc (.cells ce e)):OneM W w' b cs j (Dk.boxOf w.heap.size ce e::us):=h.with fun _ _ s=>s.newBox ew
theorem OneM.drop {t:Dk.Thing} (h:OneM W w b cs j (t::us)):OneM W w b cs j us:=h.with fun _ _ s=>s.sub (List.sublist_cons_self _ _)
theorem OneM.below (h:OneM W w b cs j us) (u:Below w.heap.size w w'):OneM W w' b cs j us:=h.with fun _ _ s=>s.below u
theorem OneM.box {a:Nat} {ce:Array Value} {e:TypeId} (h:OneM W w b cs j us) (ht:Dk.boxOf a ce e ∈ us):Dk.Box w a ce e:=by
 obtain ⟨v,hM⟩:=h
 exact hM.box (List.mem_cons_of_mem _ (List.mem_cons_of_mem _ ht))
theorem OneM.row {e:TypeId} {s m:Nat} {v:Value} {xs:List Value} (h:OneM W w b cs j us) (ht:Dk.rowOf e s v m xs ∈ us):w.ownsRow W.heap.size e s v m xs:=by
 obtain ⟨v,hM⟩:=h
 exact hM.row (List.mem_cons_of_mem _ (List.mem_cons_of_mem _ ht))
theorem OneM.out (h:OneM W w b cs j us):Below W.heap.size W w:=by
 obtain ⟨v,hM⟩:=h
 exact hM.out
theorem DoRun_no (h:OneM W w b cs j us) (asp ath ach:Int) (hs:asp < 0∨(cs.length:Int)≤asp) :
  Calls Tryz.prog 36 #[.pointer (some ⟨b,0,none⟩),.agg #[.int .i64 1,.int .i64 asp,.int .i64 ath,.int .i64 ach]] w fun e w'=>e=.returned (.int .i64 1)∧OneM W w' b cs j us:=by
 obtain ⟨W1,e1⟩:∃ W1,W1=w.alloc (.cells #[.int .i64 1,.int .i64 asp,.int .i64 ath,.int .i64 ach] 88):=⟨_,rfl⟩
 have h1:=h.newBox e1
 have c1:=(h1.box (a:=w.heap.size) (ce:=#[.int .i64 1,.int .i64 asp,.int .i64 ath,.int .i64 ach]) (e:=88) (by simp)).cell
 have hd:=h1.below (Dk.up_drew (Below.refl _ _))
 have H1:Hid _:=e1.symm
 have HM:Hid (OneM W W1.drew b cs j (Dk.boxOf w.heap.size #[.int .i64 1,.int .i64 asp,.int .i64 ath,.int .i64 ach] 88::us)):=hd
 clear e1 h h1
 go_enter Tryz.func36,Tryz.ntmps36
 go_upto_region 6 with (rw [H1.out];clear H1)
 obtain ⟨S,eS⟩:∃ S:World→Prop,S=fun w'=>∀ o,w'.cell? ⟨w.heap.size,o,none⟩=(#[.int .i64 1,.int .i64 asp,.int .i64 ath,.int .i64 ach]:Array Value)[o]?:=⟨_,rfl⟩
 have S0:S W1.drew:=by rw [eS];exact (hd.box (a:=w.heap.size) (ce:=#[.int .i64 1,.int .i64 asp,.int .i64 ath,.int .i64 ach]) (e:=88) (by simp)).cell
 have SB:∀ w',S w'→True∧∀ o,w'.cell? ⟨w.heap.size,o,none⟩=(#[.int .i64 1,.int .i64 asp,.int .i64 ath,.int .i64 ach]:Array Value)[o]?:=fun w' h=>by rw [eS] at h;exact ⟨trivial,h⟩
 clear eS hd c1
 refine Dk.wp_region_tree (S:=S) [] [0,1,2,4,5,6,7] [8,9,10,11,12] 6 (by kernel_rfl) (by kernel_rfl) (by kernel_rfl) (by kernel_rfl) rfl S0 _ ?_ (fun a' h=>h)
 refine Dk.held_step (v:=.pointer (some ⟨b,0,none⟩)) rfl rfl (fun w' hw'=>by go_simp) ?_
 simp only [Act.put,zA,zB,zC]
 refine Dk.held_step (v:=.pointer (some ⟨w.heap.size,1,none⟩)) rfl rfl (fun w' hw'=>by go_simp) ?_
 simp only [Act.put,zA,zB,zC]
 refine Dk.held_step (v:=.int .i64 asp) rfl rfl (fun w' hw'=>by obtain ⟨_,c⟩:=SB _ hw';go_simp) ?_
 simp only [Act.put,zA,zB,zC]
 refine Dk.held_step (v:=.pointer (some ⟨w.heap.size,2,none⟩)) rfl rfl (fun w' hw'=>by go_simp) ?_
 simp only [Act.put,zA,zB,zC]
 refine Dk.held_step (v:=.int .i64 ath) rfl rfl (fun w' hw'=>by obtain ⟨_,c⟩:=SB _ hw';go_simp) ?_
 simp only [Act.put,zA,zB,zC]
 refine Dk.held_step (v:=.pointer (some ⟨w.heap.size,3,none⟩)) rfl rfl (fun w' hw'=>by go_simp) ?_
 simp only [Act.put,zA,zB,zC]
 refine Dk.held_step (v:=.int .i64 ach) rfl rfl (fun w' hw'=>by obtain ⟨_,c⟩:=SB _ hw';go_simp) ?_
 simp only [Act.put,zA,zB,zC]
 refine Dk.treeY (rs:=[3]) (by kernel_rfl) (by simp) ?_
 intro i hi
 simp only [List.mem_cons,List.not_mem_nil,or_false] at hi
 subst hi
 refine Dk.op_call (some 16) rfl rfl rfl (f:=42) (args:=#[.pointer (some ⟨b,0,none⟩),.int .i64 asp]) (by go_simp) ?_
 refine (SpaceO_no HM.out asp hs).mono ?_
 rintro e w2 ⟨rfl,ew⟩
 subst w2
 refine ⟨_,rfl,fun _=>S0,?_⟩
 simp only [Act.put,zA,zB,zC]
 refine Dk.treeY (rs:=[8]) (by kernel_rfl) (by simp) ?_
 intro i hi
 simp only [List.mem_cons,List.not_mem_nil,or_false] at hi
 subst hi
 refine Dk.op_call (some 21) rfl rfl rfl (f:=28) (args:=#[.pointer none,.int .i64 ath,.int .i64 ach]) (by go_simp) ?_
 refine (RunC_nil ath ach _).mono ?_
 rintro e w3 ⟨rfl,u3⟩
 have hN:=(HM.out.below u3).drop
 refine ⟨_,rfl,fun h=>absurd (by decide) h,?_⟩
 simp only [Act.put,zA,zB,zC]
 refine Dk.freeY_then (by kernel_rfl) (fun c a w h=>h) _ 0 _ [9,10,11,12] _ _ (by kernel_rfl) ?_ (fun a' h=>h)
 refine Dk.held_step (v:=.tuple #[eff none 0 0 false false false,.int .i64 1]) rfl rfl (fun w' hw'=>by go_simp) ?_
 simp only [Act.put,zA,zB,zC]
 refine Dk.held_step (v:=eff none 0 0 false false false) rfl rfl (fun w' hw'=>by go_simp) ?_
 simp only [Act.put,zA,zB,zC]
 refine Dk.held_step (v:=.int .i64 1) rfl rfl (fun w' hw'=>by go_simp) ?_
 simp only [Act.put,zA,zB,zC]
 refine Dk.held_step (v:=.int .i64 1) rfl rfl (fun w' hw'=>by go_simp) ?_
 simp only [Act.put,zA,zB,zC]
 refine ⟨by kernel_rfl,?_⟩
 show NoPanic _ Exit.normal _ _
 refine NoPanic.normal ?_
 have HN:Hid (OneM _ _ _ _ _ _):=hN
 clear hN HM
 go_wp2_with fail
 go_ret
 exact ⟨rfl,HN.out⟩
theorem DoRun_yes (h:OneM W w b cs j us) (ath ach:Int) (k:Nat) (c:Dk.Cell) (hc:cs[k]? = some c) (hj:j k≤150) (i2:Dk.i64 ach) :
  Calls Tryz.prog 36 #[.pointer (some ⟨b,0,none⟩),.agg #[.int .i64 1,.int .i64 (k:Int),.int .i64 ath,.int .i64 ach]] w fun e w'=>e=.returned (.int .i64 (c.q.run ath ach).2.2)∧OneM W w' b (cs.set k (c.go (c.q.run ath ach).1)) (Dk.upd j k (j k+1)) us:=by
 obtain ⟨W1,e1⟩:∃ W1,W1=w.alloc (.cells #[.int .i64 1,.int .i64 (k:Int),.int .i64 ath,.int .i64 ach] 88):=⟨_,rfl⟩
 have h1:=h.newBox e1
 have c1:=(h1.box (a:=w.heap.size) (ce:=#[.int .i64 1,.int .i64 (k:Int),.int .i64 ath,.int .i64 ach]) (e:=88) (by simp)).cell
 have hd:=h1.below (Dk.up_drew (Below.refl _ _))
 have H1:Hid _:=e1.symm
 have HM:Hid (OneM W W1.drew b cs j (Dk.boxOf w.heap.size #[.int .i64 1,.int .i64 (k:Int),.int .i64 ath,.int .i64 ach] 88::us)):=hd
 clear e1 h h1
 go_enter Tryz.func36,Tryz.ntmps36
 go_upto_region 6 with (rw [H1.out];clear H1)
 obtain ⟨S,eS⟩:∃ S:World→Prop,S=fun w'=>∀ o,w'.cell? ⟨w.heap.size,o,none⟩=(#[.int .i64 1,.int .i64 (k:Int),.int .i64 ath,.int .i64 ach]:Array Value)[o]?:=⟨_,rfl⟩
 have S0:S W1.drew:=by rw [eS];exact (hd.box (a:=w.heap.size) (ce:=#[.int .i64 1,.int .i64 (k:Int),.int .i64 ath,.int .i64 ach]) (e:=88) (by simp)).cell
 have SB:∀ w',S w'→True∧∀ o,w'.cell? ⟨w.heap.size,o,none⟩=(#[.int .i64 1,.int .i64 (k:Int),.int .i64 ath,.int .i64 ach]:Array Value)[o]?:=fun w' h=>by rw [eS] at h;exact ⟨trivial,h⟩
 clear eS hd c1
 refine Dk.wp_region_tree (S:=S) [] [0,1,2,4,5,6,7] [8,9,10,11,12] 6 (by kernel_rfl) (by kernel_rfl) (by kernel_rfl) (by kernel_rfl) rfl S0 _ ?_ (fun a' h=>h)
 refine Dk.held_step (v:=.pointer (some ⟨b,0,none⟩)) rfl rfl (fun w' hw'=>by go_simp) ?_
 simp only [Act.put,zA,zB,zC]
 refine Dk.held_step (v:=.pointer (some ⟨w.heap.size,1,none⟩)) rfl rfl (fun w' hw'=>by go_simp) ?_
 simp only [Act.put,zA,zB,zC]
 refine Dk.held_step (v:=.int .i64 (k:Int)) rfl rfl (fun w' hw'=>by obtain ⟨_,c⟩:=SB _ hw';go_simp) ?_
 simp only [Act.put,zA,zB,zC]
 refine Dk.held_step (v:=.pointer (some ⟨w.heap.size,2,none⟩)) rfl rfl (fun w' hw'=>by go_simp) ?_
 simp only [Act.put,zA,zB,zC]
 refine Dk.held_step (v:=.int .i64 ath) rfl rfl (fun w' hw'=>by obtain ⟨_,c⟩:=SB _ hw';go_simp) ?_
 simp only [Act.put,zA,zB,zC]
 refine Dk.held_step (v:=.pointer (some ⟨w.heap.size,3,none⟩)) rfl rfl (fun w' hw'=>by go_simp) ?_
 simp only [Act.put,zA,zB,zC]
 refine Dk.held_step (v:=.int .i64 ach) rfl rfl (fun w' hw'=>by obtain ⟨_,c⟩:=SB _ hw';go_simp) ?_
 simp only [Act.put,zA,zB,zC]
 refine Dk.treeY (rs:=[3]) (by kernel_rfl) (by simp) ?_
 intro i hi
 simp only [List.mem_cons,List.not_mem_nil,or_false] at hi
 subst hi
 refine Dk.op_call (some 16) rfl rfl rfl (f:=42) (args:=#[.pointer (some ⟨b,0,none⟩),.int .i64 (k:Int)]) (by go_simp) ?_
 refine (SpaceO_yes HM.out hc).mono ?_
 rintro e w2 ⟨rfl,ew⟩
 subst w2
 refine ⟨_,rfl,fun _=>S0,?_⟩
 simp only [Act.put,zA,zB,zC]
 refine Dk.treeY (rs:=[8]) (by kernel_rfl) (by simp) ?_
 intro i hi
 simp only [List.mem_cons,List.not_mem_nil,or_false] at hi
 subst hi
 refine Dk.op_call (some 21) rfl rfl rfl (f:=28) (args:=#[.pointer (some ⟨c.L.b,0,none⟩),.int .i64 ath,.int .i64 ach]) (by unfold Dk.Cell.ptr;go_simp) ?_
 obtain ⟨rest,hG,hB,hcl,_⟩:=HM.out.at hc
 refine (run_goes hG hB hj ath ach i2).mono ?_
 rintro e w3 ⟨A3,C3,rfl,h3⟩
 have hN:=hcl w3 us _ (h3.with (fun c=>c.drop.drop))
 refine ⟨_,rfl,fun h=>absurd (by decide) h,?_⟩
 simp only [Act.put,zA,zB,zC]
 refine Dk.freeY_then (by kernel_rfl) (fun c a w h=>h) _ 0 _ [9,10,11,12] _ _ (by kernel_rfl) ?_ (fun a' h=>h)
 refine Dk.held_step (v:=.tuple #[eff A3 (c.q.run ath ach).2.1.woken.length C3 (c.q.run ath ach).2.1.stopped (c.q.run ath ach).2.1.ended (c.q.run ath ach).2.1.yielded,.int .i64 (c.q.run ath ach).2.2]) rfl rfl (fun w' hw'=>by go_simp) ?_
 simp only [Act.put,zA,zB,zC]
 refine Dk.held_step (v:=eff A3 (c.q.run ath ach).2.1.woken.length C3 (c.q.run ath ach).2.1.stopped (c.q.run ath ach).2.1.ended (c.q.run ath ach).2.1.yielded) rfl rfl (fun w' hw'=>by go_simp) ?_
 simp only [Act.put,zA,zB,zC]
 refine Dk.held_step (v:=.int .i64 (c.q.run ath ach).2.2) rfl rfl (fun w' hw'=>by go_simp) ?_
 simp only [Act.put,zA,zB,zC]
 refine Dk.held_step (v:=.int .i64 (c.q.run ath ach).2.2) rfl rfl (fun w' hw'=>by go_simp) ?_
 simp only [Act.put,zA,zB,zC]
 refine ⟨by kernel_rfl,?_⟩
 show NoPanic _ Exit.normal _ _
 refine NoPanic.normal ?_
 have HN:Hid (OneM _ _ _ _ _ _):=hN
 clear hN HM
 go_wp2_with fail
 go_ret
 exact ⟨rfl,HN.out⟩
end
end Go.Proofs.YtglhhlfopccmaaaGreat
namespace Dk
def Cell.tick (c:Cell):Cell:=c.go c.q.tick.1
def tickk (cs:List Cell) (k:Nat):List Cell:=(cs.take k).map Cell.tick++cs.drop k
theorem tickk_at {cs:List Cell} {k:Nat} {c:Cell} (h:cs[k]? = some c):(tickk cs k)[k]? = some c:=by
 have hl:=(List.getElem?_eq_some_iff.1 h).1
 unfold tickk
 rw [List.getElem?_append_right (by simp;omega),List.length_map,List.length_take,List.getElem?_drop,show k+(k - min k cs.length)=k by omega]
 exact h
theorem tickk_next {cs:List Cell} {k:Nat} {c:Cell} (h:cs[k]? = some c):(tickk cs k).set k c.tick=tickk cs (k+1):=by
 have hl:=(List.getElem?_eq_some_iff.1 h).1
 have e:=(List.getElem?_eq_some_iff.1 h).2
 unfold tickk
 rw [List.set_append_right _ _ (by simp;omega),List.length_map,List.length_take,show k - min k cs.length=0 by omega,List.drop_eq_getElem_cons hl,e,List.set_cons_zero,List.take_add_one,h,List.map_append,List.append_assoc]
 rfl
theorem tickk_all (cs:List Cell):tickk cs cs.length=cs.map Cell.tick:=by unfold tickk;simp
theorem tickk_zero (cs:List Cell):tickk cs 0=cs:=by unfold tickk;simp
theorem tick_ptr (cs:List Cell):(cs.map Cell.tick).map Cell.ptr=cs.map Cell.ptr:=by rw [List.map_map];rfl
end Dk
namespace Go.Proofs.YtglhhlfopccmaaaGreat
open Go.RowKit Go.Lib
section
variable {W w w' : World} {b : Nat} {j : Nat → Nat} {cs : List Dk.Cell} {us us' : List Dk.Thing}
theorem tickO_any (h:OneM W w b cs j us) (hj:∀ i,j i≤150) (h8:cs.length≤8) :
  Calls Tryz.prog 72 #[.pointer (some ⟨b,0,none⟩)] w fun e w'=>e=.returned (.tuple #[])∧OneM W w' b (cs.map Dk.Cell.tick) (fun i=>j i+1) us:=by
 obtain ⟨v,hM⟩:=h
 obtain ⟨A,C,ev,hc1,hc2⟩:=Dk.owns_slice (hM.row (e:=27) (s:=1) (v:=v) (m:=cs.length) (xs:=cs.map Dk.Cell.ptr) (by simp))
 have hb:=(hM.box (a:=b) (ce:=#[v]) (e:=152) (by simp)).cell 0
 subst ev
 obtain ⟨n,hn⟩:∃ n,n=cs.length:=⟨_,rfl⟩
 have h0:Many W w (Dk.tickk cs 0) j (Dk.boxOf b #[.slice A n C] 152::Dk.rowOf 27 1 (.slice A n C) n (cs.map Dk.Cell.ptr)::us):=by rw [Dk.tickk_zero,hn];exact hM
 have HM:Hid (Many W w (Dk.tickk cs 0) j (Dk.boxOf b #[.slice A n C] 152::Dk.rowOf 27 1 (.slice A n C) n (cs.map Dk.Cell.ptr)::us)):=h0
 rw [← hn] at hb h8 hc1
 unfold maxLen at hc2
 have HN:Hid (n=cs.length):=hn
 have HJ:Hid (∀ i,j i≤150):=hj
 clear h0 hM hn hj
 go_enter Tryz.func72,Tryz.ntmps72
 go_wp2_with fail
 go_loopw [9] (fun i w'=>∃ k:Nat,i=.int .i64 k∧k≤n∧Many W w' (Dk.tickk cs k) (fun i=>if i < k then j i+1 else j i) (Dk.boxOf b #[.slice A n C] 152::Dk.rowOf 27 1 (.slice A n C) n (cs.map Dk.Cell.ptr)::us)) (fun i w'=>n - (intOf i).toNat)
 case atStart=>exact ⟨0,rfl,Nat.zero_le _,HM.out.le (fun i=>by simp)⟩
 case round=>
  obtain ⟨k,rfl,hk,hM⟩:=hrel
  clear HM
  by_cases hlt:k < n
  ·have hkl:k < cs.length:=by have:=HN.out;omega
   obtain ⟨c,hc⟩:∃ c,cs[k]? = some c:=⟨_,List.getElem?_eq_getElem hkl⟩
   obtain ⟨g,C',x,ev,_,_,hx,hcell,_,_⟩:=Dk.row_cell1 (hM.row (e:=27) (s:=1) (v:=.slice A n C) (m:=n) (xs:=cs.map Dk.Cell.ptr) (by simp)) hlt
   rw [List.getElem?_map,hc] at hx
   cases hx
   injection ev with e1 e2 e3
   subst e1
   unfold Dk.Cell.ptr at hcell
   obtain ⟨rest,hG,hB,hcl,_⟩:=hM.at (Dk.tickk_at hc)
   have hlev:(if k < k then j k+1 else j k)=j k:=by simp
   rw [hlev] at hG hcl
   have K:=tick_goes hG hB (HJ.out k)
   have HCL:Hid (∀ w' us',Goes W w' c.L c.q0 c.q.tick.1 (j k+1) (us'++rest)→Many W w' (Dk.tickk cs (k+1)) (fun i=>if i < k+1 then j i+1 else j i) us'):=fun w' us' g=>by
    have:=hcl w' us' _ g
    rw [show c.go c.q.tick.1=c.tick from rfl,Dk.tickk_next hc] at this
    refine this.le fun i=>?_
    unfold Dk.upd
    by_cases h1:i=k
    ·subst h1;simp
    ·rw [if_neg h1]
     by_cases h2:i < k
     ·simp [h2,show i < k+1 by omega]
     ·simp [h2,show ¬ i < k+1 by omega]
   have k1:(k:Int) < (n:Int):=by omega
   have k2:(0:Int)≤(k:Int):=by omega
   clear hM hG hcl hlev e2 e3 hc
   go_wp2_with fail
   refine K.mono ?_
   rintro e w2 ⟨A2,C2,rfl,h2⟩
   have hN:=HCL.out w2 _ (h2.with (fun c=>c.drop))
   clear K h2 hcell
   go_wp2_with fail
   go_roundw
   case rel=>exact ⟨k+1,by go_num,by omega,hN⟩
   case measure=>simp [intOf];omega
  ·obtain rfl:k=n:=by omega
   have z1:decide ((k:Int) < (k:Int))=false:=decide_eq_false (by omega)
   have fin:OneM W wr b (cs.map Dk.Cell.tick) (fun i=>j i+1) us:=by
    have hn:=HN.out
    rw [show Dk.tickk cs k=cs.map Dk.Cell.tick by rw [hn];exact Dk.tickk_all cs] at hM
    refine ⟨.slice A k C,?_⟩
    rw [List.length_map,Dk.tick_ptr,← hn]
    exact hM.le fun i=>by split <;> omega
   have HF:Hid (OneM W wr b (cs.map Dk.Cell.tick) (fun i=>j i+1) us):=fin
   clear hM fin
   go_wp2_with fail
   go_end0
   exact ⟨rfl,HF.out⟩
theorem DoTick (h:OneM W w b cs j us) (asp ath ach:Int) (hj:∀ i,j i≤150) (h8:cs.length≤8) :
  Calls Tryz.prog 36 #[.pointer (some ⟨b,0,none⟩),.agg #[.int .i64 3,.int .i64 asp,.int .i64 ath,.int .i64 ach]] w fun e w'=>e=.returned (.int .i64 0)∧OneM W w' b (cs.map Dk.Cell.tick) (fun i=>j i+1) us:=by
 obtain ⟨W1,e1⟩:∃ W1,W1=w.alloc (.cells #[.int .i64 3,.int .i64 asp,.int .i64 ath,.int .i64 ach] 88):=⟨_,rfl⟩
 have h1:=h.newBox e1
 have c1:=(h1.box (a:=w.heap.size) (ce:=#[.int .i64 3,.int .i64 asp,.int .i64 ath,.int .i64 ach]) (e:=88) (by simp)).cell
 have H1:Hid _:=e1.symm
 have K:=tickO_any h1 hj h8
 clear e1 h h1
 go_enter Tryz.func36,Tryz.ntmps36
 go_wp2_with (rw [H1.out];clear H1)
 refine K.mono ?_
 rintro e w2 ⟨rfl,h2⟩
 have HN:Hid (OneM W w2 b (cs.map Dk.Cell.tick) (fun i=>j i+1) us):=h2.drop
 clear K h2 c1
 go_wp2_with fail
 go_ret
 exact ⟨rfl,HN.out⟩
theorem DoO_nil (ak asp ath ach:Int) (w:World) :
  Calls Tryz.prog 36 #[.pointer none,.agg #[.int .i64 ak,.int .i64 asp,.int .i64 ath,.int .i64 ach]] w fun e w'=>e=.returned (.int .i64 1)∧Below w.heap.size w w':=by
 obtain ⟨W1,e1⟩:∃ W1,W1=w.alloc (.cells #[.int .i64 ak,.int .i64 asp,.int .i64 ath,.int .i64 ach] 88):=⟨_,rfl⟩
 have HU:Hid (Below w.heap.size w W1):=by rw [e1];exact Dk.up_alloc (Below.refl _ _) _
 have H1:Hid _:=e1.symm
 clear e1
 go_enter Tryz.func36,Tryz.ntmps36
 go_wp2_with (rw [H1.out];clear H1)
 go_ret
 exact ⟨rfl,HU.out⟩
end
theorem ReadyO_nil (n:Int) (w:World):Calls Tryz.prog 40 #[.pointer none,.int .i64 n] w fun e w'=>e=.returned (.slice none 0 0)∧w'=w:=by
 go_enter Tryz.func40,Tryz.ntmps40
 go_wp2_with fail
 refine (SpaceO_nil n w).mono ?_
 rintro e w7 ⟨rfl,ew⟩
 subst w7
 go_wp2_with fail
 refine (Ready_nil w).mono ?_
 rintro e w7 ⟨rfl,ew⟩
 subst w7
 go_wp2_with fail
 go_ret
 exact ⟨rfl,rfl⟩
theorem RecordsO_nil (n:Int) (w:World):Calls Tryz.prog 38 #[.pointer none,.int .i64 n] w fun e w'=>e=.returned (.slice none 0 0)∧w'=w:=by
 go_enter Tryz.func38,Tryz.ntmps38
 go_wp2_with fail
 refine (SpaceO_nil n w).mono ?_
 rintro e w7 ⟨rfl,ew⟩
 subst w7
 go_wp2_with fail
 refine (Records_nil w).mono ?_
 rintro e w7 ⟨rfl,ew⟩
 subst w7
 go_wp2_with fail
 go_ret
 exact ⟨rfl,rfl⟩
theorem MemoryO_nil (n:Int) (w:World):Calls Tryz.prog 39 #[.pointer none,.int .i64 n] w fun e w'=>e=.returned (.slice none 0 0)∧w'=w:=by
 go_enter Tryz.func39,Tryz.ntmps39
 go_wp2_with fail
 refine (SpaceO_nil n w).mono ?_
 rintro e w7 ⟨rfl,ew⟩
 subst w7
 go_wp2_with fail
 refine (Memory_nil w).mono ?_
 rintro e w7 ⟨rfl,ew⟩
 subst w7
 go_wp2_with fail
 go_ret
 exact ⟨rfl,rfl⟩
section
variable {W w w' : World} {b : Nat} {j : Nat → Nat} {cs : List Dk.Cell} {us us' : List Dk.Thing}
theorem ReadyO_yes (h:OneM W w b cs j us) {k:Nat} {c:Dk.Cell} (hc:cs[k]? = some c):Calls Tryz.prog 40 #[.pointer (some ⟨b,0,none⟩),.int .i64 (k:Int)] w fun e w'=>∃ A C,e=.returned (.slice A c.q.ready.length C)∧OneM W w' b cs j (Dk.rowOf 3 1 (.slice A c.q.ready.length C) c.q.ready.length (Dk.is c.q.ready)::us):=by
 have K:=SpaceO_yes h hc
 obtain ⟨rest,hG,hB,_,hcl⟩:=h.at hc
 have K2:=goes_ready hG hB
 have HCL:Hid (∀ w' us',Goes W w' c.L c.q0 c.q (j k) (us'++rest)→OneM W w' b cs j us'):=hcl
 unfold Dk.Cell.ptr at K
 clear h hG hcl
 go_enter Tryz.func40,Tryz.ntmps40
 go_wp2_with fail
 refine K.mono ?_
 rintro e w7 ⟨rfl,ew⟩
 subst w7
 go_wp2_with fail
 refine K2.mono ?_
 rintro e w2 ⟨A,C,rfl,h2⟩
 have hN:=HCL.out w2 (Dk.rowOf 3 1 (.slice A c.q.ready.length C) c.q.ready.length (Dk.is c.q.ready)::us) h2
 have HN:Hid (OneM W w2 b cs j (Dk.rowOf 3 1 (.slice A c.q.ready.length C) c.q.ready.length (Dk.is c.q.ready)::us)):=hN
 clear hN h2 K K2
 go_wp2_with fail
 go_ret
 exact ⟨A,C,rfl,HN.out⟩
theorem RecordsO_yes (h:OneM W w b cs j us) {k:Nat} {c:Dk.Cell} (hc:cs[k]? = some c) (hj:j k≤150):Calls Tryz.prog 38 #[.pointer (some ⟨b,0,none⟩),.int .i64 (k:Int)] w fun e w'=>∃ A C,e=.returned (.slice A c.q.recs.length C)∧OneM W w' b cs j (Dk.rowOf 74 6 (.slice A c.q.recs.length C) c.q.recs.length (c.q.recs.flatMap Dk.Rec.cells)::us):=by
 have K:=SpaceO_yes h hc
 obtain ⟨rest,hG,hB,_,hcl⟩:=h.at hc
 have K2:=goes_records hG hj
 have HCL:Hid (∀ w' us',Goes W w' c.L c.q0 c.q (j k) (us'++rest)→OneM W w' b cs j us'):=hcl
 unfold Dk.Cell.ptr at K
 clear h hG hcl
 go_enter Tryz.func38,Tryz.ntmps38
 go_wp2_with fail
 refine K.mono ?_
 rintro e w7 ⟨rfl,ew⟩
 subst w7
 go_wp2_with fail
 refine K2.mono ?_
 rintro e w2 ⟨A,C,rfl,h2⟩
 have hN:=HCL.out w2 (Dk.rowOf 74 6 (.slice A c.q.recs.length C) c.q.recs.length (c.q.recs.flatMap Dk.Rec.cells)::us) h2
 have HN:Hid (OneM W w2 b cs j (Dk.rowOf 74 6 (.slice A c.q.recs.length C) c.q.recs.length (c.q.recs.flatMap Dk.Rec.cells)::us)):=hN
 clear hN h2 K K2
 go_wp2_with fail
 go_ret
 exact ⟨A,C,rfl,HN.out⟩
end
end Go.Proofs.YtglhhlfopccmaaaGreat
namespace Dk
open Go Go.RowKit
structure SlP (B:Nat) (w:World) (A:Option Addr) (L C:Nat) (ps:List (Sh × Prg)):Prop where
 len:ps.length=L
 cap:L≤C
 max:C≤maxLen
 cells:0 < L→∃ b o,A=some ⟨b,o,none⟩∧b < B∧∀ k x,ps[k]? = some x→PrgAt B w x.1 x.2∧
  w.cell? ⟨b,o+k*8,none⟩=some (.slice x.1.fA x.1.fL x.1.fC)∧w.cell? ⟨b,o+k*8+1,none⟩=some (.int .i64 x.2.words)∧w.cell? ⟨b,o+k*8+2,none⟩=some (.int .i64 x.2.mutexes)∧w.cell? ⟨b,o+k*8+3,none⟩=some (.int .i64 x.2.conds)∧
  w.cell? ⟨b,o+k*8+4,none⟩=some (.slice x.1.sA x.1.sL x.1.sC)∧w.cell? ⟨b,o+k*8+5,none⟩=some (.slice x.1.pA x.1.pL x.1.pC)∧w.cell? ⟨b,o+k*8+6,none⟩=some (.int .i64 x.2.blocks)∧w.cell? ⟨b,o+k*8+7,none⟩=some (.int .i64 x.2.prio)
def firstBad:List (Sh × Prg)→Int
 | []=>0
 | x::r=>if check x.2=0 then firstBad r else check x.2
end Dk
namespace Go.Proofs.YtglhhlfopccmaaaGreat
open Go.RowKit Go.Lib
theorem infoSpP:(Tryz.prog.info? 27).map (fun i=>(i.zero,i.size,i.bytes))=some (some (.pointer none),1,8):=by kernel_rfl
theorem KSpP:Dk.SlK Tryz.prog 150 27 (.pointer none) 1 8:=⟨Tryz.underlying150,infoSpP,rfl,by decide,by decide⟩
section
variable {W w w' : World} {us : List Dk.Thing} {cs : List Dk.Cell} {lev : Nat → Nat}
theorem Many.setRow {a:Nat} {ce ce':Array Value} {e:TypeId} (h:Many W w cs lev (Dk.boxOf a ce e::us)) (ew:w'=w.setRow a ce'):Many W w' cs lev (Dk.boxOf a ce' e::us):=h.map fun _ s=>sep_setRow s ew
theorem NewC_many {B:Nat} (h:Many W w cs (fun _=>0) us) (s:Dk.Sh) (p:Dk.Prg) (hp:Dk.PrgAt B w s p) (hB:B≤w.heap.size) (hk:Dk.check p=0) :
  Calls Tryz.prog 12 #[Dk.pv s p] w fun e w'=>∃ L:Dk.Loc,e=.returned (.tuple #[.pointer (some ⟨L.b,0,none⟩),.int .i64 0])∧Many W w' (cs++[⟨L,Dk.Sp.fresh p,Dk.Sp.fresh p⟩]) (fun _=>0) us:=by
 obtain ⟨pss,hl,hs,hf⟩:=h
 refine (NewC_yes hs s p hp hB hk).mono ?_
 rintro e w' ⟨L,rfl,hL⟩
 have b:=born_of hp hk
 generalize Dk.Sp.fresh p=q0 at *
 refine ⟨L,rfl,?_⟩
 obtain ⟨ps,s2,fl⟩:=hL.cor.opened
 refine ⟨pss++[ps],by simp [hl],?_,fun i c qs hc hq=>?_⟩
 ·rw [List.flatten_append,List.flatten_singleton,← List.append_assoc]
  exact s2
 ·by_cases hi:i < cs.length
  ·rw [List.getElem?_append_left hi] at hc
   rw [List.getElem?_append_left (by omega)] at hq
   exact hf i c qs hc hq
  ·have hic:=(List.getElem?_eq_some_iff.1 hc).1
   simp at hic
   obtain rfl:i=cs.length:=by omega
   rw [List.getElem?_append_right (by omega),Nat.sub_self] at hc
   rw [List.getElem?_append_right (by omega),show cs.length - pss.length=0 by omega] at hq
   cases hc
   cases hq
   exact ⟨fl,b,hL.life,hL.dims,by have:=hL.recs;omega⟩
theorem NewO_few {A:Option Addr} {L C:Nat} (w:World) (hL:L < 1∨8 < L) (hm:L≤C∧C≤maxLen) :
  Calls Tryz.prog 33 #[.slice A L C] w fun e w'=>e=.returned (.tuple #[.pointer none,.int .i64 1])∧w'=w:=by
 obtain ⟨h1,h2⟩:=hm
 unfold maxLen at h2
 rcases hL with hL | hL
 ·have l1:(L:Int) < 1:=by omega
  go_enter Tryz.func33,Tryz.ntmps33
  go_wp2_with fail
  go_ret2
  exact ⟨rfl,rfl⟩
 ·have l1:¬ (L:Int) < 1:=by omega
  have l2:(8:Int) < (L:Int):=by omega
  go_enter Tryz.func33,Tryz.ntmps33
  go_wp2_with fail
  go_ret2
  exact ⟨rfl,rfl⟩
theorem NewO_t {B:Nat} {A:Option Addr} {L C:Nat} {ps:List (Dk.Sh × Dk.Prg)} (w:World) (h:Dk.SlP B w A L C ps) (hB:B≤w.heap.size) (hL:1≤L∧L≤8) :
  Calls Tryz.prog 33 #[.slice A L C] w fun e w'=>(Dk.firstBad ps≠0∧e=.returned (.tuple #[.pointer none,.int .i64 (Dk.firstBad ps)])∧Below w.heap.size w w')∨(Dk.firstBad ps=0∧∃ b cs,e=.returned (.tuple #[.pointer (some ⟨b,0,none⟩),.int .i64 0])∧OneM w w' b cs (fun _=>0) []∧cs.map Dk.Cell.q=ps.map (fun x=>Dk.Sp.fresh x.2)∧cs.map Dk.Cell.q0=ps.map (fun x=>Dk.Sp.fresh x.2)):=by
 obtain ⟨W1,e1⟩:∃ W1,W1=w.alloc (.cells #[.slice none 0 0] 152):=⟨_,rfl⟩
 have s1:=((Dk.Sep.begin (Below.refl w.heap.size w)).newBox e1).nil 27 1
 have m1:Many w W1 [] (fun _=>0) (Dk.boxOf w.heap.size #[.slice none 0 0] 152::Dk.rowOf 27 1 (.slice none 0 0) 0 []::[]):=Many.begin (s1.perm (List.Perm.swap _ _ _))
 have o1:OneM w W1 w.heap.size [] (fun _=>0) []:=⟨.slice none 0 0,m1⟩
 have H1:Hid _:=e1.symm
 have HO:Hid (OneM w W1 w.heap.size [] (fun _=>0) []):=o1
 have HP:Hid (Dk.SlP B w A L C ps):=h
 have HB:Hid (B≤w.heap.size):=hB
 have hcap:=h.cap
 have hmax:=h.max
 unfold maxLen at hmax
 obtain ⟨l1,l2⟩:=hL
 have l3:¬ (L:Int) < 1:=by omega
 have l4:¬ (8:Int) < (L:Int):=by omega
 clear e1 s1 m1 o1 h hB
 go_enter Tryz.func33,Tryz.ntmps33
 go_wp2_with (rw [H1.out];clear H1)
 have HS1:Hid (Below w.heap.size w W1):=HO.out.out
 go_loopw [21] (fun i w'=>∃ (j:Nat) (cs:List Dk.Cell),i=.int .i64 j∧j≤L∧Hid (Dk.firstBad ps=Dk.firstBad (ps.drop j))∧OneM w w' w.heap.size cs (fun _=>0) []∧Hid (cs.map Dk.Cell.q=(ps.take j).map (fun x=>Dk.Sp.fresh x.2))∧Hid (cs.map Dk.Cell.q0=(ps.take j).map (fun x=>Dk.Sp.fresh x.2))) (fun i w'=>L - (intOf i).toNat)
 case atStart=>exact ⟨0,[],rfl,by omega,rfl,HO.out,rfl,rfl⟩
 case round=>
  obtain ⟨j,cs,rfl,hj,hbad,hO,hq,hq0⟩:=hrel
  clear HO
  by_cases hlt:j < L
  ·have hlp:j < ps.length:=by rw [HP.out.len];exact hlt
   obtain ⟨x,hx⟩:∃ x,ps[j]? = some x:=⟨_,List.getElem?_eq_getElem hlp⟩
   have ed:ps.drop j=x::ps.drop (j+1):=by
    rw [List.drop_eq_getElem_cons hlp]
    rw [List.getElem?_eq_getElem hlp] at hx
    cases hx
    rfl
   have et:(ps.take (j+1)).map (fun x=>Dk.Sp.fresh x.2)=(ps.take j).map (fun x=>Dk.Sp.fresh x.2)++[Dk.Sp.fresh x.2]:=by
    rw [List.take_add_one,hx,List.map_append]
    rfl
   obtain ⟨b,o,ea,hb,hc⟩:=HP.out.cells (by omega)
   obtain ⟨hp,k0,k1,k2,k3,k4,k5,k6,k7⟩:=hc j x hx
   have u0:=hO.out
   have hB':=HB.out
   have hjc:cs.length=j:=by
    have h1:=congrArg List.length hq.out
    simp at h1
    omega
   obtain ⟨v,hM⟩:=hO
   obtain ⟨A1,C1,ev,_,_⟩:=Dk.owns_slice (hM.row (e:=27) (s:=1) (v:=v) (m:=cs.length) (xs:=cs.map Dk.Cell.ptr) (by simp))
   subst ev
   obtain ⟨s,p⟩:=x
   have SB:∀ w',Below w.heap.size w w'→w'.cell? ⟨b,o+j*8,none⟩=some (.slice s.fA s.fL s.fC)∧w'.cell? ⟨b,o+j*8+1,none⟩=some (.int .i64 p.words)∧w'.cell? ⟨b,o+j*8+2,none⟩=some (.int .i64 p.mutexes)∧w'.cell? ⟨b,o+j*8+3,none⟩=some (.int .i64 p.conds)∧
     w'.cell? ⟨b,o+j*8+4,none⟩=some (.slice s.sA s.sL s.sC)∧w'.cell? ⟨b,o+j*8+5,none⟩=some (.slice s.pA s.pL s.pC)∧w'.cell? ⟨b,o+j*8+6,none⟩=some (.int .i64 p.blocks)∧w'.cell? ⟨b,o+j*8+7,none⟩=some (.int .i64 p.prio):=fun w' u=>by
    have hbw:b < w.heap.size:=by omega
    exact ⟨(u.cell hbw).trans k0,(u.cell hbw).trans k1,(u.cell hbw).trans k2,(u.cell hbw).trans k3,(u.cell hbw).trans k4,(u.cell hbw).trans k5,(u.cell hbw).trans k6,(u.cell hbw).trans k7⟩
   have i1:(j:Int) < (L:Int):=by omega
   have hbad':Dk.firstBad ps=if Dk.check p=0 then Dk.firstBad (ps.drop (j+1)) else Dk.check p:=by
    have h1:=hbad.out
    rw [ed] at h1
    exact h1
   have HJ:Hid (j+1≤L):=hlt
   have HET:Hid _:=et
   have HCJ:Hid (cs.length=j):=hjc
   have hcn:cs.length≤8:=by omega
   have hpr:=hp.below u0 hB'
   have hBr:B≤wr.heap.size:=Nat.le_trans hB' u0.size
   obtain ⟨c0,c1,c2,c3,c4,c5,c6,c7⟩:=SB wr u0
   obtain ⟨W2,e2⟩:∃ W2,W2=wr.alloc (.cells #[.slice s.fA s.fL s.fC,.int .i64 p.words,.int .i64 p.mutexes,.int .i64 p.conds,.slice s.sA s.sL s.sC,.slice s.pA s.pL s.pC,.int .i64 p.blocks,.int .i64 p.prio] 25):=⟨_,rfl⟩
   have u2:Below wr.heap.size wr W2:=by rw [e2];exact Dk.up_alloc (Below.refl _ _) _
   have hM2:=hM.newBox e2
   have hp2:=hpr.below u2 hBr
   have hB2:B≤W2.heap.size:=Nat.le_trans hBr u2.size
   have cb:=(hM2.box (a:=wr.heap.size) (ce:=#[.slice s.fA s.fL s.fC,.int .i64 p.words,.int .i64 p.mutexes,.int .i64 p.conds,.slice s.sA s.sL s.sC,.slice s.pA s.pL s.pC,.int .i64 p.blocks,.int .i64 p.prio]) (e:=25) (by simp)).cell
   have H2:Hid _:=e2.symm
   by_cases hk:Dk.check p=0
   ·have K:=NewC_many hM2 s p hp2 hB2 hk
    rw [if_pos hk] at hbad'
    have HBD:Hid _:=hbad'
    generalize hnn:cs.length=n at *
    clear k0 k1 k2 k3 k4 k5 k6 k7 hc hx hp ed et hM u0 hjc hM2 hp2 hB2 hk e2 u2 hpr hBr hbad hbad' SB hB' hb hlt hlp
    subst ea
    go_wp2_with (rw [H2.out];clear H2)
    refine K.mono ?_
    rintro e w3 ⟨M,rfl,hM3⟩
    clear K cb c0 c1 c2 c3 c4 c5 c6 c7
    obtain ⟨pss,hl,hs,hf⟩:=hM3.drop
    obtain ⟨v',w4,hrun,h4,_⟩:=Dk.Sep.appendK (us1:=[Dk.boxOf w.heap.size #[.slice A1 n C1] 152]) (us2:=pss.flatten) KSpP hs [.pointer (some ⟨M.b,0,none⟩)] rfl (by simp [Value.oneCell']) (by omega)
    obtain ⟨A2,C2,ev',_,_⟩:=Dk.owns_slice (h4.row (e:=27) (s:=1) (v:=v') (n:=n+1) (xs:=cs.map Dk.Cell.ptr++[.pointer (some ⟨M.b,0,none⟩)]) (by simp))
    subst ev'
    have b4:Dk.Box w4 w.heap.size #[.slice A1 n C1] 152:=h4.box (by simp)
    have d4:w4.cell? ⟨w.heap.size,0,none⟩=some (.slice A1 n C1):=b4.cell 0
    have f4:=b4.frozen 0
    have d3:w3.cell? ⟨w.heap.size,0,none⟩=some (.slice A1 n C1):=(hs.box (b:=w.heap.size) (cs:=#[.slice A1 n C1]) (t:=152) (by simp)).cell 0
    have h5:=Dk.Sep.setBox (us1:=[]) (o:=0) h4 (.slice A2 (n+1) C2)
    have hO':OneM w (w4.setCell ⟨w.heap.size,0,none⟩ (.slice A2 (n+1) C2)) w.heap.size (cs++[⟨M,Dk.Sp.fresh p,Dk.Sp.fresh p⟩]) (fun _=>0) []:=by
     refine ⟨.slice A2 (n+1) C2,pss,hl,?_,hf⟩
     rw [List.length_append,List.map_append,hnn]
     exact h5
    have HO':Hid _:=hO'
    clear hO' h5 h4 b4 hf hs hl hM3
    go_wp2_with (at_builtin;refine Lib.wpList_append_run _ rfl _ _ _ _ rfl _ _ rfl rfl _ _ hrun ?_)
    go_roundw
    case rel=>exact ⟨j+1,_,by go_num,HJ.out,HBD.out,HO'.out,by rw [HET.out,List.map_append,hq.out];rfl,by rw [HET.out,List.map_append,hq0.out];rfl⟩
    case measure=>
     have:=HJ.out
     simp [intOf];omega
   ·have K:=NewC_no s p W2 hp2 hB2 hk
    rw [if_neg hk] at hbad'
    have HU:Hid (Below w.heap.size w W2):=hM2.out
    have hne:(Dk.check p != 0)=true:=by simp [hk]
    have HBD:Hid _:=hbad'
    have HK:Hid _:=hk
    clear k0 k1 k2 k3 k4 k5 k6 k7 hc hx hp ed et hM u0 hjc hM2 hp2 hB2 hk e2 u2 hpr hBr hbad hbad' SB hB' hb hlt hlp
    generalize Dk.check p=z at *
    subst ea
    go_wp2_with (rw [H2.out];clear H2)
    refine K.mono ?_
    rintro e w3 ⟨rfl,u3⟩
    clear K cb c0 c1 c2 c3 c4 c5 c6 c7
    go_wp2_with fail
    go_ret2
    have e1:=HBD.out
    exact Or.inl ⟨by rw [e1];exact HK.out,by rw [e1];rfl,Dk.up_call HU.out u3⟩
  ·obtain rfl:j=L:=by omega
   have z1:decide ((j:Int) < (j:Int))=false:=decide_eq_false (by omega)
   have e1:ps.take j=ps:=List.take_of_length_le (by have:=HP.out.len;omega)
   have e2:ps.drop j=[]:=List.drop_of_length_le (by have:=HP.out.len;omega)
   have hq':=hq.out
   have hq0':=hq0.out
   have hbad':=hbad.out
   rw [e1] at hq' hq0'
   rw [e2] at hbad'
   have HF:Hid (Dk.firstBad ps=0∧∃ cs,OneM w wr w.heap.size cs (fun _=>0) []∧cs.map Dk.Cell.q=ps.map (fun x=>Dk.Sp.fresh x.2)∧cs.map Dk.Cell.q0=ps.map (fun x=>Dk.Sp.fresh x.2)):=⟨hbad',cs,hO,hq',hq0'⟩
   clear hq hq0 hbad hO hq' hq0' hbad' e1 e2
   go_wp2_with fail
   go_ret2
   obtain ⟨hz,cs',hO',hq',hq0'⟩:=HF.out
   exact Or.inr ⟨hz,_,cs',rfl,hO',hq',hq0'⟩
end
end Go.Proofs.YtglhhlfopccmaaaGreat
