import Derived.Test.YtglhhlfopccmaaaGreatOr41
set_option linter.unusedSimpArgs false
set_option linter.unusedVariables false
set_option linter.unnecessarySimpa false
set_option maxHeartbeats 8000000
set_option maxRecDepth 100000
namespace Dk
open Go Go.RowKit
def Sp.fresh (p:Prg):Sp:=(({ Sp.blank p with tubes:=p.pipes.map fun r=>⟨r,[],[],[]⟩ }:Sp).begin 0 0).1
structure Fits (p:Prg):Prop where
 fl:p.funcs.length≤8
 f1:1≤p.funcs.length
 cl:∀ c ∈ p.funcs,c.length≤256
 wd:0≤p.words∧p.words≤64
 mx:0≤p.mutexes∧p.mutexes≤4
 cv:0≤p.conds∧p.conds≤4
 sm:p.sems.length≤4
 sv:∀ x ∈ p.sems,0≤x∧x≤1048576
 pp:p.pipes.length≤4
 pv:∀ x ∈ p.pipes,1≤x∧x≤8
 bk:0≤p.blocks∧p.blocks≤64
 snd:∀ c ∈ p.funcs,∀ i ∈ c,soundB p i=true
theorem zfd {p:Prg} (h:check p=0):Fits p:=by
 obtain ⟨h1,h2,h3⟩:=Go.Proofs.YtglhhlfopccmaaaGreat.fit_of h
 unfold codeFitsB withinB at h1
 unfold objectsFitB withinB allWithinB at h2
 unfold allSoundB at h3
 simp only [Bool.and_eq_true,decide_eq_true_eq,List.all_eq_true] at h1 h2 h3
 obtain ⟨⟨f1,fl⟩,cl⟩:=h1
 obtain ⟨⟨⟨⟨⟨⟨⟨⟨wd,mx⟩,cv⟩,sm⟩,sv⟩,pp⟩,pv⟩,bk⟩,pr⟩:=h2
 refine ⟨by omega,by omega,cl,wd,mx,cv,sm,fun x hx=>?_,pp,fun x hx=>?_,bk,h3⟩
 ·have:=sv x hx;unfold withinB at this;simpa using this
 ·have:=pv x hx;unfold withinB at this;simpa using this
theorem zo6 {x:Int} (hx:i64 x) {n:Int} (hn:n≤1000) (h:u64 x < n):0≤x∧x < n:=by
 unfold u64 at h
 unfold i64 at hx
 omega
theorem may1 {p:Prg} {x:Int} (hx:i64 x) (h:mayB p 1 (u64 x)=true):0≤x∧x < 8:=by
 unfold mayB choices at h
 simp at h
 exact zo6 hx (by omega) (by omega)
theorem may0 {p:Prg} {x:Int} (hx:i64 x) (h:mayB p 0 (u64 x)=true):0≤x∧x < 1:=by
 unfold mayB choices at h
 simp at h
 exact zo6 hx (by omega) (by omega)
theorem mayN {p:Prg} {x:Int} {n:Nat} (x5:x=4∨x=5∨x=6∨x=7∨x=8) (h:mayB p x (n:Int)=true):(n:Int) < max 0 (choices p x):=by
 unfold mayB at h
 rw [Bool.or_eq_true,decide_eq_true_eq,beq_iff_eq] at h
 rcases h with h | h
 ·omega
 ·exact h
theorem mayC {p:Prg} {x:Int} (hx:i64 x) (hm:p.mutexes≤4) (h:mayB p 5 (u64 x)=true):0≤x∧x < max 0 p.mutexes:=by
 unfold mayB choices at h
 simp at h
 have:u64 x < max 0 p.mutexes:=by omega
 exact zo6 hx (by omega) this
theorem zot (p:Prg) (F:Fits p):(start p.mutexes p.conds p.sems).owner.length=p.mutexes.toNat∧(start p.mutexes p.conds p.sems).conds.length=p.conds.toNat∧(start p.mutexes p.conds p.sems).count.length=p.sems.length:=by
 have h1:=F.mx
 have h2:=F.cv
 have h3:=F.sm
 unfold start lim
 simp only [List.length_replicate,List.length_map,List.length_take]
 refine ⟨?_,?_,by omega⟩ <;> (split <;> (try split) <;> omega)
theorem formK (op:Int):((form op).1.1=0∨(form op).1.1=1)∧((form op).1.2.1=0∨(form op).1.2.1=1)∧(op≠27→(form op).1.2.2.1=0∨(form op).1.2.2.1=1)∧((form op).2=true→1≤op∧op≤38):=by
 unfold form
 by_cases h0:op=1
 ·rw [if_pos h0]
  exact ⟨by decide,by decide,fun _=>by decide,fun _=>by omega⟩
 rw [if_neg h0]
 by_cases h1:op=2∨op=14∨op=15∨op=18∨op=19∨op=21∨op=33∨op=34
 ·rw [if_pos h1]
  exact ⟨by decide,by decide,fun _=>by decide,fun _=>by omega⟩
 rw [if_neg h1]
 by_cases h2:3≤op∧op≤13
 ·rw [if_pos h2]
  exact ⟨by decide,by decide,fun _=>by decide,fun _=>by omega⟩
 rw [if_neg h2]
 by_cases h3:op=16
 ·rw [if_pos h3]
  exact ⟨by decide,by decide,fun _=>by decide,fun _=>by omega⟩
 rw [if_neg h3]
 by_cases h4:op=17
 ·rw [if_pos h4]
  exact ⟨by decide,by decide,fun _=>by decide,fun _=>by omega⟩
 rw [if_neg h4]
 by_cases h5:op=20
 ·rw [if_pos h5]
  exact ⟨by decide,by decide,fun _=>by decide,fun _=>by omega⟩
 rw [if_neg h5]
 by_cases h6:op=22∨op=23∨op=32∨op=37∨op=38
 ·rw [if_pos h6]
  exact ⟨by decide,by decide,fun _=>by decide,fun _=>by omega⟩
 rw [if_neg h6]
 by_cases h7:op=24
 ·rw [if_pos h7]
  exact ⟨by decide,by decide,fun _=>by decide,fun _=>by omega⟩
 rw [if_neg h7]
 by_cases h8:op=25∨op=26
 ·rw [if_pos h8]
  exact ⟨by decide,by decide,fun _=>by decide,fun _=>by omega⟩
 rw [if_neg h8]
 by_cases h9:op=27
 ·rw [if_pos h9]
  exact ⟨by decide,by decide,fun h=>absurd h9 h,fun _=>by omega⟩
 rw [if_neg h9]
 by_cases h10:op=28∨op=29
 ·rw [if_pos h10]
  exact ⟨by decide,by decide,fun _=>by decide,fun _=>by omega⟩
 rw [if_neg h10]
 by_cases h11:op=30∨op=31
 ·rw [if_pos h11]
  exact ⟨by decide,by decide,fun _=>by decide,fun _=>by omega⟩
 rw [if_neg h11]
 by_cases h12:op=35∨op=36
 ·rw [if_pos h12]
  exact ⟨by decide,by decide,fun _=>by decide,fun _=>by omega⟩
 rw [if_neg h12]
 exact ⟨by decide,by decide,fun _=>by decide,fun h=>absurd h (by decide)⟩
theorem form1 (op:Int):(form op).1.1=0∨(form op).1.1=1:=(formK op).1
theorem form2 (op:Int):(form op).1.2.1=0∨(form op).1.2.1=1:=(formK op).2.1
theorem form3 (op:Int) (h:op≠27):(form op).1.2.2.1=0∨(form op).1.2.2.1=1:=(formK op).2.2.1 h
theorem form_op {op:Int} (h:(form op).2=true):1≤op∧op≤38:=(formK op).2.2.2 h
theorem may01 {p:Prg} {x k:Int} (hx:i64 x) (hk:k=0∨k=1) (h:mayB p k (u64 x)=true):0≤x∧x < 8:=by
 rcases hk with rfl | rfl
 ·have:=may0 hx h;omega
 ·exact may1 hx h
theorem insFit {p:Prg} (F:Fits p) {q:Sp} (hg:q.gates.owner.length=p.mutexes.toNat∧q.gates.conds.length=p.conds.toNat∧q.gates.count.length=p.sems.length) (ht:q.tubes.length=p.pipes.length) {i:Ins} (ok:i.ok) (hs:soundB p i=true):q.InsFit i:=by
 obtain ⟨g1,g2,g3⟩:=hg
 have hmx:=F.mx
 have hcv:=F.cv
 have hsm:=F.sm
 have hpp:=F.pp
 obtain ⟨op,a,b,c,n⟩:=i
 obtain ⟨o0,oa,ob,oc,on⟩:=id ok
 dsimp only at o0 oa ob oc on
 unfold soundB at hs
 simp only [Bool.and_eq_true] at hs
 obtain ⟨⟨⟨⟨hop,ha⟩,hb⟩,hc⟩,hn⟩:=hs
 have key:=form_op hop
 have fa:=may01 oa (form1 op) ha
 have fb:=may01 ob (form2 op) hb
 have fc:op≠27→0≤c∧c < 8:=fun h=>may01 oc (form3 op h) hc
 have hN:25≤op∧op≤31∨op=35∨op=36→(n:Int) < max 0 (choices p (form op).1.2.2.2):=fun h=>by
  refine mayN ?_ hn
  have h':op=25∨op=26∨op=27∨op=28∨op=29∨op=30∨op=31∨op=35∨op=36:=by omega
  rcases h' with rfl | rfl | rfl | rfl | rfl | rfl | rfl | rfl | rfl <;> decide
 have c5:choices p 5=p.mutexes:=rfl
 have c6:choices p 6=p.conds:=rfl
 have c7:choices p 7=p.sems.length:=rfl
 have c8:choices p 8=p.pipes.length:=rfl
 refine ⟨ok,fa,fb,key,fun h19=>?_,fun h=>⟨?_,fun h=>?_,fun h=>?_,fun h=>?_,fun h=>?_⟩,fun h=>?_⟩
 ·dsimp only at h19
  obtain ⟨c0,c8⟩:=fc (by omega)
  unfold codeB regs
  simp only [Bool.and_eq_true,List.all_eq_true]
  refine ⟨by unfold withinB;simp;omega,fun r hr=>?_⟩
  have hr':=List.mem_of_mem_take hr
  simp only [List.mem_cons,List.not_mem_nil,or_false] at hr'
  rw [zco]
  rcases hr' with rfl | rfl | rfl
  ·exact fa
  ·exact fb
  ·exact ⟨c0,c8⟩
 ·dsimp only at h ⊢
  have h1:=hN (.inl h)
  have h':op=25∨op=26∨op=27∨op=28∨op=29∨op=30∨op=31:=by omega
  rcases h' with rfl | rfl | rfl | rfl | rfl | rfl | rfl
  ·rw [show (form 25).1.2.2.2=5 from by decide,c5] at h1;omega
  ·rw [show (form 26).1.2.2.2=5 from by decide,c5] at h1;omega
  ·rw [show (form 27).1.2.2.2=6 from by decide,c6] at h1;omega
  ·rw [show (form 28).1.2.2.2=6 from by decide,c6] at h1;omega
  ·rw [show (form 29).1.2.2.2=6 from by decide,c6] at h1;omega
  ·rw [show (form 30).1.2.2.2=7 from by decide,c7] at h1;omega
  ·rw [show (form 31).1.2.2.2=7 from by decide,c7] at h1;omega
 ·dsimp only at h ⊢
  have h1:=hN (by omega)
  rcases h with rfl | rfl
  ·rw [show (form 25).1.2.2.2=5 from by decide,c5] at h1;omega
  ·rw [show (form 26).1.2.2.2=5 from by decide,c5] at h1;omega
 ·dsimp only at h ⊢
  have h1:=hN (by omega)
  rcases h with rfl | rfl | rfl
  ·rw [show (form 27).1.2.2.2=6 from by decide,c6] at h1;omega
  ·rw [show (form 28).1.2.2.2=6 from by decide,c6] at h1;omega
  ·rw [show (form 29).1.2.2.2=6 from by decide,c6] at h1;omega
 ·dsimp only at h ⊢
  subst h
  rw [show (form 27).1.2.2.1=5 from by decide] at hc
  have:=mayC oc hmx.2 hc
  omega
 ·dsimp only at h ⊢
  have h1:=hN (by omega)
  rcases h with rfl | rfl
  ·rw [show (form 30).1.2.2.2=7 from by decide,c7] at h1;omega
  ·rw [show (form 31).1.2.2.2=7 from by decide,c7] at h1;omega
 ·dsimp only at h ⊢
  have h1:=hN (.inr h)
  rcases h with rfl | rfl
  ·rw [show (form 35).1.2.2.2=8 from by decide,c8] at h1;omega
  ·rw [show (form 36).1.2.2.2=8 from by decide,c8] at h1;omega
open Go
def lastR (h:Nat) (l:List Rec):Option Rec:=(l.filter fun r=>r.thread == h).getLast?
theorem zk3 (h:Nat) (l:List Rec) (r:Rec):lastR h (l++[r])=if r.thread=h then some r else lastR h l:=by
 unfold lastR
 rw [List.filter_append]
 by_cases e:r.thread=h
 ·rw [if_pos e,List.filter_cons_of_pos (by simpa using e),List.filter_nil,List.getLast?_concat]
 ·rw [if_neg e,List.filter_cons_of_neg (by simpa using e),List.filter_nil,List.append_nil]
def GoodR (l:List Rec):Prop:=∀ pre s post,l=pre++s::post→∀ r,lastR s.thread pre=some r→r.fin=false→s.fin=true∧s.op=r.op∧s.x=0∧s.result=0
theorem GoodR.snoc {l:List Rec} (h:GoodR l) {s:Rec} (hs:∀ r,lastR s.thread l=some r→r.fin=false→s.fin=true∧s.op=r.op∧s.x=0∧s.result=0):GoodR (l++[s]):=fun pre t post e=>by
 rcases List.eq_nil_or_concat post with rfl | ⟨post,u,rfl⟩
 ·obtain ⟨rfl,e2⟩:=List.append_inj' e rfl
  obtain rfl:s=t:=by simpa using e2
  exact hs
 ·have e':l++[s]=(pre++t::post)++[u]:=by simpa using e
  obtain ⟨e1,-⟩:=List.append_inj' e' rfl
  exact h pre t post e1
theorem hd_inj {st:StS} {n m:Nat} (hn:n < 16) (hm:m < 16) (e:hd st n=hd st m):n=m:=by
 have h1:=hd_mod (st:=st) (k:=n) (by omega)
 have h2:=hd_mod (st:=st) (k:=m) (by omega)
 rw [e] at h1
 omega
structure Seen (but:Nat→Prop) (q:Sp):Prop where
 good:GoodR q.recs
 last:∀ h r,lastR h q.recs=some r→r.fin=false→∃ n,n < 16∧¬ but n∧us q.st n=true∧q.hnd n=h∧(q.thr n).why≠0∧(q.thr n).why≠9∧(q.thr n).ins.op=r.op
theorem Seen.mono {b b':Nat→Prop} {q:Sp} (h:Seen b q) (hb:∀ n,b' n→b n):Seen b' q:=⟨h.good,fun x r e f=>by
 obtain ⟨n,h1,h2,h3⟩:=h.last x r e f
 exact ⟨n,h1,fun e=>h2 (hb n e),h3⟩⟩
theorem Seen.end_ {b:Nat→Prop} {q:Sp} (h:Seen b q):Seen (fun _=>False) q:=h.mono fun _=>False.elim
section
variable {b : Nat → Prop} {q : Sp}
theorem Seen.turn {q':Sp} (h:Seen b q) (hr:q'.recs=q.recs) (hk:∀ n,n < 16→¬ b n→us q.st n=true→(q.thr n).why≠0→(q.thr n).why≠9→us q'.st n=true∧hd q'.st n=hd q.st n∧(q'.thr n).why≠0∧(q'.thr n).why≠9∧(q'.thr n).ins.op=(q.thr n).ins.op):Seen b q':=⟨by rw [hr];exact h.good,fun x r e f=>by
 rw [hr] at e
 obtain ⟨m,h1,h2,h3,h4,h5,h6,h7⟩:=h.last x r e f
 obtain ⟨k1,k2,k3,k4,k5⟩:=hk m h1 h2 h3 h5 h6
 refine ⟨m,h1,h2,k1,?_,k3,k4,k5.trans h7⟩
 unfold Sp.hnd at h4 ⊢
 rw [if_pos h3] at h4
 rw [if_pos k1,k2,h4]⟩
theorem Seen.setT (h:Seen b q) (n:Nat) (t:Thr) (ht:¬ b n→(q.thr n).why≠0→(q.thr n).why≠9→t.why≠0∧t.why≠9∧t.ins.op=(q.thr n).ins.op):Seen b (q.setT n t):=h.turn rfl fun m hm hb hu h0 h9=>by
 refine ⟨hu,rfl,?_⟩
 unfold Sp.setT
 dsimp only
 by_cases e:m=n
 ·subst e
  rw [upd_same]
  exact ht hb h0 h9
 ·rw [upd_ne _ _ e]
  exact ⟨h0,h9,rfl⟩
theorem Seen.free (h:Seen b q) (h16:q.st.length=16) (n:Nat) (hn:n < 16) (hb:b n∨(q.thr n).why=0∨(q.thr n).why=9):Seen b (q.free n):=h.turn rfl fun m hm hbm hu h0 h9=>by
 have hne:m≠n:=fun e=>by
  subst e
  rcases hb with hb | hb | hb
  ·exact hbm hb
  ·exact h0 hb
  ·exact h9 hb
 refine ⟨?_,?_,h0,h9,rfl⟩
 ·show us (freed q.st (q.hnd n)) m=true
  unfold freed
  split
  ·exact hu
  ·rename_i k e
   obtain ⟨e1,e2,e3,e4⟩:=zbs e
   rw [us_put _ _ _ _ _ e3]
   have hk:k=n:=by
    unfold Sp.hnd at e2
    by_cases hun:us q.st n=true
    ·rw [if_pos hun] at e2
     exact hd_inj (by omega) hn e2
    ·rw [if_neg hun] at e2
     unfold hd at e2
     omega
   rw [if_neg (by omega)]
   exact hu
 ·show hd (freed q.st (q.hnd n)) m=hd q.st m
  unfold hd
  rw [freed_tk]
theorem Seen.wake1 (h:Seen (fun _=>False) q) (p:Int × Nat) (hp:InR p.1):Seen (fun _=>False) (q.wake1 p):=by
 obtain ⟨x,v⟩:=p
 have hx:x.toNat < 16:=by unfold InR at hp;dsimp only at hp;omega
 dsimp only at hp
 have key:∀ m,m < 16→us q.st m=true→q.hnd m=q.hnd x.toNat→m=x.toNat:=fun m hm hu e=>by
  unfold Sp.hnd at e
  rw [if_pos hu] at e
  split at e
  ·exact hd_inj hm hx e
  ·unfold hd at e;omega
 refine ⟨h.good.snoc fun s e f=>?_,fun y s e f=>?_⟩
 ·obtain ⟨m,h1,h2,h3,h4,h5,h6,h7⟩:=h.last _ s e f
  obtain rfl:=key m h1 h3 h4
  exact ⟨rfl,h7,rfl,rfl⟩
 ·rw [show (q.wake1 (x,v)).recs=q.recs++[⟨q.hnd x.toNat,(q.thr x.toNat).ins.op,0,v,0,true⟩] from rfl,zk3] at e
  split at e
  ·obtain rfl:=Option.some.inj e
   cases f
  ·rename_i ne
   obtain ⟨m,h1,h2,h3,h4,h5⟩:=h.last y s e f
   refine ⟨m,h1,id,h3,h4,?_⟩
   have hne:m≠x.toNat:=fun e=>ne (by rw [← h4,e])
   show (upd q.thr x.toNat _ m).why≠0∧(upd q.thr x.toNat _ m).why≠9∧(upd q.thr x.toNat _ m).ins.op=s.op
   rw [upd_ne _ _ hne]
   exact h5
end
theorem Seen.wake:∀ (l:List (Int × Nat)) {q:Sp} (h:Seen (fun _=>False) q) (hl:∀ p ∈ l,InR p.1),Seen (fun _=>False) (q.wake l)
 | [],q,h,_=>h
 | p::l,q,h,hl=>Seen.wake l (h.wake1 p (hl p (List.mem_cons_self ..))) (fun x hx=>hl x (List.mem_cons_of_mem _ hx))
section
variable {q : Sp} {n : Nat}
theorem Seen.fin (h:Seen (·=n) q) (hn:n < 16) (h16:q.st.length=16) (hj:InR (q.thr n).joiner) (v:Nat):Seen (fun _=>False) (q.fin n v).1:=by
 unfold Sp.fin
 split
 ·exact (h.free h16 n hn (.inl rfl)).end_
 split
 ·exact Seen.wake _ (h.free h16 n hn (.inl rfl)).end_ (fun p hp=>by rw [List.mem_singleton] at hp;rw [hp];exact hj)
 ·exact (h.setT n _ fun hb=>absurd rfl hb).end_
end
theorem zc1 (p:Prg):Sp.fresh p=({ Sp.blank p with tubes:=p.pipes.map fun r=>⟨r,[],[],[]⟩,st:=taken (Dk.blank 16) }:Sp).setT 0 (Thr.new 0 0):=rfl
theorem zk0 {p:Prg} (F:Fits p):Life 0 (Sp.fresh p):=by
 rw [zc1]
 refine Life.setT (q:={ Sp.blank p with tubes:=p.pipes.map fun r=>⟨r,[],[],[]⟩,st:=taken (Dk.blank 16) }) ?_ 0 (ThrOk.new 0 (by unfold i64;omega) 0 (by omega))
 refine ⟨fun m=>⟨⟨0,by omega,rfl⟩,zaj,⟨⟨by show _≤(0:Int);omega,by show (0:Int)≤_;omega⟩,⟨by show _≤(0:Int);omega,by show (0:Int)≤_;omega⟩,fun k=>by show (0:Nat) < _;omega⟩,by show (0:Nat) < _;omega⟩,fun t ht=>?_,fun r hr=>absurd hr (by simp [Sp.blank]),by simp [Sp.blank],fun x hx=>absurd hx (by simp [Sp.blank,keysOf]),by simp [Sp.blank],fun x hx=>?_,fun x hx=>?_⟩
 ·obtain ⟨r,_,rfl⟩:=List.mem_map.1 ht
  exact ⟨⟨by simp,by simp,by simp⟩,fun x hx=>absurd hx (by simp),fun x hx=>absurd hx (by simp),fun x hx=>absurd hx (by simp)⟩
 ·rw [(List.mem_replicate.1 hx).2];omega
 ·rw [(List.mem_replicate.1 hx).2];omega
theorem zkz {p:Prg} (F:Fits p) (hc:∀ c ∈ p.funcs,∀ i ∈ c,i.ok):Born (Sp.fresh p):=by
 refine ⟨fun c h=>⟨by have:=F.cl c h;omega,fun i hi=>insFit F (zot p F) (by rw [zc1];simp [Sp.setT]) (hc c h i hi) (F.snd c h i hi)⟩,?_,?_,?_⟩
 ·rw [zc1]
  have:=F.wd
  simp [Sp.setT,Sp.blank]
  omega
 ·rw [zc1]
  have:=Go.Proofs.YtglhhlfopccmaaaGreat.Dk.zg5 p.blocks
  simp [Sp.setT,Sp.blank]
  omega
 ·rfl
end Dk
namespace Go.Proofs.YtglhhlfopccmaaaGreat
open Go.RowKit Go.Lib
section
variable {W w w' : World} {us : List Dk.Thing}
theorem NewC_no {B:Nat} (s:Dk.Sh) (p:Dk.Prg) (w:World) (hp:Dk.PrgAt B w s p) (hB:B≤w.heap.size) (hk:Dk.check p≠0) :
  Calls Tryz.prog 12 #[Dk.pv s p] w fun e w'=>e=.returned (.tuple #[.pointer none,.int .i64 (Dk.check p)])∧Below w.heap.size w w':=by
 obtain ⟨W1,e1⟩:∃ W1,W1=w.alloc (.cells #[.slice s.fA s.fL s.fC,.int .i64 p.words,.int .i64 p.mutexes,.int .i64 p.conds,.slice s.sA s.sL s.sC,.slice s.pA s.pL s.pC,.int .i64 p.blocks,.int .i64 p.prio] 25):=⟨_,rfl⟩
 have b1:Dk.Box W1 w.heap.size #[.slice s.fA s.fL s.fC,.int .i64 p.words,.int .i64 p.mutexes,.int .i64 p.conds,.slice s.sA s.sL s.sC,.slice s.pA s.pL s.pC,.int .i64 p.blocks,.int .i64 p.prio] 25:=by rw [e1];exact Dk.Box.new _ _ _
 have u1:Below w.heap.size w W1:=by rw [e1];exact Dk.zb (Below.refl _ _) _
 have K:=zgw B s p W1 (hp.below u1 hB) (Nat.le_trans hB u1.size)
 have H1:Hid _:=e1.symm
 have c1:=b1.cell
 have HU:Hid (Below w.heap.size w W1):=u1
 have hne:(!decide (Dk.check p=0))=true:=by simp [hk]
 generalize Dk.check p=z at *
 clear e1 u1 b1
 go_enter Tryz.func12,Tryz.ntmps12
 go_wp2_with (rw [H1.out];clear H1)
 refine K.mono ?_
 rintro e w2 ⟨rfl,u2⟩
 have u3:Below w.heap.size w w2:=Dk.zk HU.out u2
 clear K c1 u2
 go_wp2_with fail
 go_ret2
 exact ⟨rfl,u3⟩
theorem NewC_yes {B:Nat} (h:Dk.Sep W w us) (s:Dk.Sh) (p:Dk.Prg) (hp:Dk.PrgAt B w s p) (hB:B≤w.heap.size) (hk:Dk.check p=0) :
  Calls Tryz.prog 12 #[Dk.pv s p] w fun e w'=>∃ L:Dk.Loc,e=.returned (.tuple #[.pointer (some ⟨L.b,0,none⟩),.int .i64 0])∧Lives W w' L (Dk.Sp.fresh p) (Dk.Sp.fresh p) 0 1 0 us:=by
 have F:=Dk.zfd hk
 refine (NewC_t s p w hp hB hk ⟨F.fl,F.cl,F.wd.1,F.wd.2,F.pp⟩).mono ?_
 rintro e w' ⟨L,rfl,hC⟩
 exact ⟨L,rfl,Cor.rebase h hC,Dk.zk0 F,Dk.Dims.refl _,by simp [Dk.zc1,Dk.Sp.setT,Dk.Sp.blank]⟩
theorem born_of {B:Nat} {s:Dk.Sh} {p:Dk.Prg} (hp:Dk.PrgAt B w s p) (hk:Dk.check p=0):Dk.Born (Dk.Sp.fresh p):=Dk.zkz (Dk.zfd hk) hp.funcs.oks
end
theorem copy_big {ty e:TypeId} {z:Value} {s bytes:Nat} (K:Dk.SlK Tryz.prog ty e z s bytes) (hn:∀ w,(Builtin.append_ #[ty,ty] ty #[.slice none 0 0,.slice none 0 0]).run Tryz.prog w=.ok (.slice none 0 0) w) (B:Nat) (v:Value) (n:Nat) (xs:List Value) (w:World) (h:w.ownsRow B e s v n xs) (h1:∀ u ∈ xs,u.oneCell'=true) (hl:n≤90000) :
  ∃ v' w',(Builtin.append_ #[ty,ty] ty #[.slice none 0 0,v]).run Tryz.prog w=.ok v' w'∧w'.ownsRow w.heap.size e s v' n xs∧Below w.heap.size w w':=by
 obtain ⟨hx,⟨rfl,h0⟩ | ⟨g,cap,cur,rfl,hb,hg,hn,hm,hs,ht⟩⟩:=id h
 ·subst h0
  obtain rfl:xs=[]:=List.eq_nil_of_length_eq_zero (by simpa using hx)
  exact ⟨_,w,hn w,World.ownsRow_nil _ _ _ _,Below.refl _ _⟩
 ·obtain ⟨v',w',hr,ho,hg,_,_⟩:=K.append w.heap.size ty (.slice none 0 0) [] 0 w (World.ownsRow_nil _ _ _ _) ⟨g,0,none⟩ n cap xs hx (h.cells (g:=g) rfl) h1 (by omega) (Nat.le_refl _)
  rw [Nat.zero_add,List.nil_append] at ho
  exact ⟨v',w',hr,ho,⟨hg.os,hg.tape,hg.output,hg.size,fun k hk=>hg.block k hk (by simp [Value.ownBlock])⟩⟩
theorem nilsRec (w:World):(Builtin.append_ #[49,49] 49 #[.slice none 0 0,.slice none 0 0]).run Tryz.prog w=.ok (.slice none 0 0) w:=by
 obtain ⟨i0,hi0,_,_,_⟩:=info_parts infoRec
 simp [Builtin.append_,run_underlying Tryz.underlying49,sizeOf,typeInfo,hi0,Builtin.lenOf,run_firstCells_none,go_sem]
section
variable {W w w' : World} {L : Dk.Loc} {q : Dk.Sp} {k n : Nat} {us us' us1 us2 : List Dk.Thing} {t : Dk.Thing}
theorem zia (w:World):Calls Tryz.prog 25 #[.pointer none] w fun e w'=>e=.returned (.slice none 0 0)∧w'=w:=by
 go_enter Tryz.func25,Tryz.ntmps25
 go_wp2
 go_ret
 exact ⟨rfl,rfl⟩
theorem zh9 (h:Cor W w L q k us) (hl:q.recs.length≤90000) :
  Calls Tryz.prog 25 #[.pointer (some ⟨L.b,0,none⟩)] w fun e w'=>∃ A C,e=.returned (.slice A q.recs.length C)∧Cor W w' L q k (Dk.rowOf 74 6 (.slice A q.recs.length C) q.recs.length (q.recs.flatMap Dk.Rec.cells)::us):=by
 obtain ⟨vm,vr,hb,hm,hr⟩:=h.head
 have c334:w.cell? ⟨L.b,334,none⟩=some vr:=by rw [hb.cell,List.getElem?_toArray];exact Dk.zan L q.thr vm vr (j:=4)
 obtain ⟨v',w',hrun,ho,hu⟩:=copy_big KRec nilsRec W.heap.size vr _ _ w hr (Dk.zjp zog _) hl
 obtain ⟨A,C,ev,_,_⟩:=Dk.zc hr
 obtain ⟨A',C',ev',_,_⟩:=Dk.zc ho
 subst ev ev'
 have h2:=h.addRow hu ho
 generalize q.recs.length=n at *
 generalize q.recs.flatMap Dk.Rec.cells=xs at *
 clear hb hm hr h ho hu hl
 go_enter Tryz.func25,Tryz.ntmps25
 go_wp2_with (at_builtin;refine Lib.wpList_append_run _ rfl _ _ _ _ rfl _ _ rfl rfl _ _ hrun ?_)
 go_ret
 exact ⟨A',C',rfl,h2⟩
end
end Go.Proofs.YtglhhlfopccmaaaGreat
namespace Dk
def Sp.ready (q:Sp):List Int:=(usl q.st 16).filter fun x=>(q.thr x.toNat).why == 0
end Dk
namespace Go.Proofs.YtglhhlfopccmaaaGreat
open Go.RowKit Go.Lib
section
variable {W w w' : World} {L : Dk.Loc} {q : Dk.Sp} {k n : Nat} {us us' us1 us2 : List Dk.Thing} {t : Dk.Thing}
theorem zme (w:World):Calls Tryz.prog 22 #[.pointer none] w fun e w'=>e=.returned (.slice none 0 0)∧w'=w:=by
 go_enter Tryz.func22,Tryz.ntmps22
 go_wp2
 go_ret
 exact ⟨rfl,rfl⟩
theorem zmd (h:Cor W w L q k us) (h16:q.st.length=16) :
  Calls Tryz.prog 22 #[.pointer (some ⟨L.b,0,none⟩)] w fun e w'=>∃ A C,e=.returned (.slice A q.ready.length C)∧Cor W w' L q k (Dk.rowOf 3 1 (.slice A q.ready.length C) q.ready.length (Dk.is q.ready)::us):=by
 obtain ⟨ks,hks,hT,_⟩:=h.slots
 have c9:=h.slotPtr
 have K:=Used_any L.bt L.bs ks q.st w hT
 rw [h16] at K
 have HH:Hid (Cor W w L q k us):=h
 have hml:(Dk.usl q.st 16).length≤16:=Dk.zjb q.st 16
 have hmem:∀ x ∈ Dk.usl q.st 16,∃ j:Nat,x=j∧j < 16:=fun x hx=>by obtain ⟨j,e,hj,_⟩:=Dk.zjc hx;exact ⟨j,e,hj⟩
 unfold Dk.Sp.ready
 generalize Dk.usl q.st 16=xs at *
 have HM:Hid (∀ x ∈ xs,∃ j:Nat,x=j∧j < 16):=hmem
 obtain ⟨m,em⟩:∃ m,m=xs.length:=⟨_,rfl⟩
 rw [← em] at K hml
 have EM:Hid _:=em
 clear em hmem h hT h16
 go_enter Tryz.func22,Tryz.ntmps22
 go_wp2_with fail
 refine K.mono ?_
 rintro e w1 ⟨A,C,rfl,hS,u1⟩
 have h1:=HH.out.below u1
 have HS:Hid (Dk.SlI w1.heap.size w1 A m C xs):=hS
 have HC:Hid (Cor W w1 L q k us):=h1
 have s0:Dk.Sep w1 w1 [Dk.rowOf 3 1 (.slice none 0 0) 0 (Dk.is [])]:=(Dk.Sep.begin (Below.refl _ _)).addRow (Below.refl _ _) (World.ownsRow_nil _ _ _ _)
 clear K c9 hS h1 HH u1
 go_wp2_with fail
 go_loopw [3,14] (fun v i w'=>∃ (j o:Nat) (A':Option Addr) (C':Nat),j≤m∧o≤j∧i=.int .i64 j∧v=.slice A' o C'∧Dk.Sep w1 w' [Dk.rowOf 3 1 (.slice A' o C') o (Dk.is ((xs.take j).filter fun x=>(q.thr x.toNat).why == 0))]) (fun v i w'=>m - (intOf i).toNat)
 case atStart=>exact ⟨0,0,none,0,Nat.zero_le _,Nat.le_refl _,rfl,rfl,by simpa using s0⟩
 case round=>
  obtain ⟨j,o,A',C',hj,ho,rfl,rfl,hs⟩:=hrel
  clear s0
  by_cases hlt:j < m
  ·have hlt':j < xs.length:=by have:=EM.out;omega
   obtain ⟨x,ex⟩:∃ x,xs[j]? = some x:=⟨_,List.getElem?_eq_getElem hlt'⟩
   obtain ⟨y,rfl,hy⟩:=HM.out x (List.mem_of_getElem? ex)
   obtain ⟨b,o2,rfl,hb,hc⟩:=HS.out.cells (by omega)
   have hc':=hc j hlt
   rw [List.getD_eq_getElem?_getD,ex] at hc'
   have c1:wr.cell? ⟨b,o2+j,none⟩=some (.int .i64 (y:Int)):=by rw [hs.out.cell (by show b < w1.heap.size;exact hb)];exact hc'
   have hCr:=HC.out.below hs.out
   have c2:wr.cell? ⟨L.b,10+y*20+10,none⟩=some (.int .i64 (q.thr y).why):=hCr.cellAt hy 10 (by omega)
   have i1:(y:Int) < 16:=by omega
   have i2:(0:Int)≤(y:Int):=by omega
   have et:xs.take (j+1)=xs.take j++[(y:Int)]:=by rw [List.take_add_one,ex];rfl
   have ET:Hid _:=et
   have EX:Hid _:=ex
   clear et ex hc hc' hCr
   by_cases hw:(q.thr y).why=0
   ·rw [hw] at c2
    have hF:(xs.take (j+1)).filter (fun x=>(q.thr x.toNat).why == 0)=(xs.take j).filter (fun x=>(q.thr x.toNat).why == 0)++[(y:Int)]:=by
     rw [ET.out,List.filter_append]
     simp [hw]
    obtain ⟨v',w4,hrun,h4,_⟩:=Dk.Sep.appendK (us1:=[]) (us2:=[]) K26T hs [.int .i64 (y:Int)] rfl (by simp [Value.oneCell']) (by omega)
    have e4:Dk.is ((xs.take j).filter fun x=>(q.thr x.toNat).why == 0)++[.int .i64 (y:Int)]=Dk.is ((xs.take (j+1)).filter fun x=>(q.thr x.toNat).why == 0):=by rw [hF];simp
    rw [e4] at h4
    obtain ⟨Av',Cv',ev',_,_⟩:=Dk.zc (h4.row (e:=3) (s:=1) (v:=v') (n:=o+1) (xs:=Dk.is ((xs.take (j+1)).filter fun x=>(q.thr x.toNat).why == 0)) (by simp))
    subst ev'
    have HF:Hid _:=hF
    clear hs hF e4 hw
    go_wp2_with (at_builtin;refine Lib.wpList_append_run _ rfl _ _ _ _ rfl _ _ rfl rfl _ _ hrun ?_)
    go_roundw
    case rel=>exact ⟨j+1,o+1,Av',Cv',by omega,by omega,by go_num,rfl,h4⟩
    case measure=>simp [intOf];omega
   ·have hF:(xs.take (j+1)).filter (fun x=>(q.thr x.toNat).why == 0)=(xs.take j).filter (fun x=>(q.thr x.toNat).why == 0):=by
     rw [ET.out,List.filter_append]
     simp [hw]
    rw [← hF] at hs
    have HW:Hid (¬ (q.thr y).why=0):=hw
    generalize (q.thr y).why=wy at *
    clear hF HW
    go_wp2_with fail
    go_roundw
    case rel=>exact ⟨j+1,o,A',C',by omega,by omega,by go_num,rfl,hs⟩
    case measure=>simp [intOf];omega
  ·obtain rfl:j=m:=by omega
   have z1:decide ((j:Int) < (j:Int))=false:=decide_eq_false (by omega)
   have e:xs.take j=xs:=List.take_of_length_le (by have:=EM.out;omega)
   rw [e] at hs
   have hr:=hs.row (e:=3) (s:=1) (v:=.slice A' o C') (n:=o) (xs:=Dk.is (xs.filter fun x=>(q.thr x.toNat).why == 0)) (by simp)
   have ho2:o=(xs.filter fun x=>(q.thr x.toNat).why == 0).length:=by
    have:=hr.1
    simpa using this.symm
   have hC:=HC.out.addRow hs.out hr
   generalize eY:(xs.filter fun x=>(q.thr x.toNat).why == 0)=ys at *
   have EY:Hid _:=eY
   subst ho2
   clear hs hr e eY
   go_wp2_with fail
   go_ret
   exact ⟨A',C',by rw [EY.out];rfl,by rw [EY.out];exact hC⟩
end
theorem lit_one (w w':World) (x:Int) (hx:Dk.i64 x) (e:w'=w.alloc (.cells #[.int .i64 x] 3)):Dk.SlI w'.heap.size w' (some ⟨w.heap.size,0,none⟩) 1 1 [x]:=by
 have b6:Dk.Box w' w.heap.size #[.int .i64 x] 3:=by rw [e];exact Dk.Box.new _ _ _
 exact ⟨rfl,Nat.le_refl _,by unfold maxLen;omega,fun y hy=>by simp at hy;rw [hy];exact hx,fun _=>⟨_,0,rfl,b6.lt,fun k hk=>by
  obtain rfl:k=0:=by omega
  exact b6.cell 0⟩⟩
theorem i64_of (x:Int) (h:-1000000≤x∧x≤1000000):Dk.i64 x:=by unfold Dk.i64;omega
section
variable {W w w' : World} {L : Dk.Loc} {q q0 : Dk.Sp} {k N R : Nat} {us us' : List Dk.Thing}
theorem Lives.with (h:Lives W w L q0 q N k R us) (c:Cor W w L q k us→Cor W w' L q k us'):Lives W w' L q0 q N k R us':=⟨c h.cor,h.life,h.dims,h.recs⟩
end
end Go.Proofs.YtglhhlfopccmaaaGreat
namespace Dk
open Go Go.RowKit
theorem zom {q:Sp} {slot ch:Int} (h:(q.run slot ch).2.2≠0):(q.run slot ch).1=q∧(q.run slot ch).2.1=Eff.none:=by
 unfold Sp.run at h ⊢
 dsimp only at h ⊢
 split
 ·exact ⟨rfl,rfl⟩
 split
 ·exact ⟨rfl,rfl⟩
 ·rename_i h1 h2
  rw [if_neg h1,if_neg h2] at h
  repeat' split at h
  all_goals exact absurd rfl h
theorem done_no {q:Sp} {k:Int} (h:(q.done k).2.2≠0):(q.done k).1=q∧(q.done k).2.1=Eff.none:=by
 unfold Sp.done at h ⊢
 split
 ·exact ⟨rfl,rfl⟩
 ·rename_i h1
  rw [if_neg h1] at h
  exact absurd rfl h
end Dk
namespace Go.Proofs.YtglhhlfopccmaaaGreat
open Go.RowKit Go.Lib
section
variable {W w w' : World} {L L1 L2 : Dk.Loc} {q q0 q1 q2 : Dk.Sp} {k k1 k2 N R j : Nat} {us us' t2 : List Dk.Thing}
theorem Lives.mono {N' k' R':Nat} (h:Lives W w L q0 q N k R us) (hN:N≤N') (hk:k≤k') (hR:R≤R'):Lives W w L q0 q N' k' R' us:=⟨h.cor.mono hk,h.life.mono hN,h.dims,Nat.le_trans h.recs hR⟩
def Goes (W w:World) (L:Dk.Loc) (q0 q:Dk.Sp) (j:Nat) (us:List Dk.Thing):Prop:=Lives W w L q0 q j (j+1) (200*j) us
theorem run_goes (h:Goes W w L q0 q j us) (b:Dk.Born q0) (hj:j≤150) (slot ch:Int) (hch:Dk.i64 ch) :
  Calls Tryz.prog 28 #[.pointer (some ⟨L.b,0,none⟩),.int .i64 slot,.int .i64 ch] w fun e w'=>∃ A C,e=.returned (.tuple #[eff A (q.run slot ch).2.1.woken.length C (q.run slot ch).2.1.stopped (q.run slot ch).2.1.ended (q.run slot ch).2.1.yielded,.int .i64 (q.run slot ch).2.2])∧Goes W w' L q0 (q.run slot ch).1 (j+1) (Dk.rowOf 3 1 (.slice A (q.run slot ch).2.1.woken.length C) (q.run slot ch).2.1.woken.length (Dk.is (q.run slot ch).2.1.woken)::us):=by
 refine (zol h b (by omega) (by omega) (by omega) slot hch).mono ?_
 rintro e w' ⟨A,C,he,h'⟩
 exact ⟨A,C,he,h'.mono (Nat.le_refl _) (Nat.le_refl _) (by omega)⟩
theorem znh (h:Goes W w L q0 q j us) (b:Dk.Born q0) (hj:j≤150) (ch:Int) (hch:Dk.i64 ch) :
  Calls Tryz.prog 29 #[.pointer (some ⟨L.b,0,none⟩),.int .i64 ch] w fun e w'=>∃ A C,e=.returned (.tuple #[eff A (q.done ch).2.1.woken.length C false false false,.int .i64 (q.done ch).2.2])∧Goes W w' L q0 (q.done ch).1 (j+1) (Dk.rowOf 3 1 (.slice A (q.done ch).2.1.woken.length C) (q.done ch).2.1.woken.length (Dk.is (q.done ch).2.1.woken)::us):=by
 refine (zkw h b (by omega) (by omega) (by omega) ch hch).mono ?_
 rintro e w' ⟨A,C,he,h'⟩
 exact ⟨A,C,he,h'.mono (by omega) (by omega) (by omega)⟩
theorem zox (h:Goes W w L q0 q j us) (b:Dk.Born q0) (hj:j≤150) :
  Calls Tryz.prog 30 #[.pointer (some ⟨L.b,0,none⟩)] w fun e w'=>∃ A C,e=.returned (eff A q.tick.2.woken.length C false false false)∧Goes W w' L q0 q.tick.1 (j+1) (Dk.rowOf 3 1 (.slice A q.tick.2.woken.length C) q.tick.2.woken.length (Dk.is q.tick.2.woken)::us):=by
 refine (zlq h b (by omega) (by omega) (by omega)).mono ?_
 rintro e w' ⟨A,C,he,h'⟩
 exact ⟨A,C,he,h'.mono (by omega) (by omega) (by omega)⟩
theorem Goes.with (h:Goes W w L q0 q j us) (c:Cor W w L q (j+1) us→Cor W w' L q (j+1) us'):Goes W w' L q0 q j us':=Lives.with h c
def Beside (W:World) (L:Dk.Loc) (q:Dk.Sp) (k:Nat) (ts:List Dk.Thing):Prop:=∀ w us,Dk.Sep W w (us++ts)→Cor W w L q k us
def Twin (W w:World) (L1 L2:Dk.Loc) (q0 q:Dk.Sp) (j:Nat) (us:List Dk.Thing):Prop:=∃ t2,Goes W w L1 q0 q j (us++t2)∧Beside W L2 q (j+1) t2
theorem Twin.with (h:Twin W w L1 L2 q0 q j us) (c:∀ q k t2,Cor W w L1 q k (us++t2)→Cor W w' L1 q k (us'++t2)):Twin W w' L1 L2 q0 q j us':=by
 obtain ⟨t2,h1,h2⟩:=h
 exact ⟨t2,h1.with (c _ _ _),h2⟩
def Half2 (W w:World) (L1 L2:Dk.Loc) (q0 q q':Dk.Sp) (j:Nat) (us:List Dk.Thing):Prop:=∃ t2,Goes W w L1 q0 q' (j+1) (us++t2)∧Beside W L2 q (j+1) t2∧Dk.Life j q∧Dk.Dims q0 q∧q.recs.length≤200*j
theorem Half2.with (h:Half2 W w L1 L2 q0 q q1 j us) (c:∀ q k t2,Cor W w L1 q k (us++t2)→Cor W w' L1 q k (us'++t2)):Half2 W w' L1 L2 q0 q q1 j us':=by
 obtain ⟨t2,h1,h2⟩:=h
 exact ⟨t2,h1.with (c _ _ _),h2⟩
end
section
variable {W w w' : World} {L L1 L2 : Dk.Loc} {q q0 q1 q2 : Dk.Sp} {j : Nat} {us us' : List Dk.Thing}
theorem Twin.out (h:Twin W w L1 L2 q0 q j us):Below W.heap.size W w:=by
 obtain ⟨t2,h1,_⟩:=h
 exact h1.cor.out
end
end Go.Proofs.YtglhhlfopccmaaaGreat
namespace Dk
theorem zj3 {q:Sp} {x:Int} (h:x ∈ q.ready):∃ n:Nat,x=n∧n < 16∧us q.st n=true∧(q.thr n).why=0:=by
 unfold Sp.ready at h
 rw [List.mem_filter] at h
 obtain ⟨j,e,hj,hu⟩:=zjc h.1
 subst e
 exact ⟨j,rfl,hj,hu,by simpa using h.2⟩
theorem zoe {q:Sp}:∀ x ∈ q.ready,i64 x:=fun x hx=>by
 obtain ⟨n,rfl,hn,_⟩:=zj3 hx
 unfold i64
 omega
end Dk
namespace Go.Proofs.YtglhhlfopccmaaaGreat
open Go.RowKit Go.Lib
section
variable {W w w' : World} {L L1 L2 : Dk.Loc} {q q0 q1 q2 : Dk.Sp} {j : Nat} {us us' : List Dk.Thing}
theorem zhf (h:Goes W w L q0 q j us) (hj:j≤150) :
  Calls Tryz.prog 25 #[.pointer (some ⟨L.b,0,none⟩)] w fun e w'=>∃ A C,e=.returned (.slice A q.recs.length C)∧Goes W w' L q0 q j (Dk.rowOf 74 6 (.slice A q.recs.length C) q.recs.length (q.recs.flatMap Dk.Rec.cells)::us):=by
 refine (zh9 h.cor (by have:=h.recs;omega)).mono ?_
 rintro e w' ⟨A,C,he,h'⟩
 exact ⟨A,C,he,h.with fun _=>h'⟩
theorem zk1 (h:Goes W w L q0 q j us) (b:Dk.Born q0) :
  Calls Tryz.prog 22 #[.pointer (some ⟨L.b,0,none⟩)] w fun e w'=>∃ A C,e=.returned (.slice A q.ready.length C)∧Goes W w' L q0 q j (Dk.rowOf 3 1 (.slice A q.ready.length C) q.ready.length (Dk.is q.ready)::us):=by
 refine (zmd h.cor (by rw [h.dims.sl];exact b.h16)).mono ?_
 rintro e w' ⟨A,C,he,h'⟩
 exact ⟨A,C,he,h.with fun _=>h'⟩
theorem zhw {e:TypeId} {A:Option Addr} {C B:Nat} {xs:List Int} (h:w.ownsRow B e 1 (.slice A xs.length C) xs.length (Dk.is xs)) (hx:∀ x ∈ xs,Dk.i64 x):Dk.SlI w.heap.size w A xs.length C xs:=by
 obtain ⟨A',C',ev,h'⟩:=Dk.zbg h hx
 injection ev with e1 e2 e3
 subst e1 e3
 exact h'
end
end Go.Proofs.YtglhhlfopccmaaaGreat
namespace Dk
open Go Go.RowKit
structure Cell where
 L:Loc
 q0:Sp
 q:Sp
def Cell.ptr (c:Cell):Value:=.pointer (some ⟨c.L.b,0,none⟩)
def Cell.go (c:Cell) (q:Sp):Cell:={ c with q:=q }
theorem zbk {α:Type}:∀ (l:List (List α)) (i:Nat) (x:List α),l[i]? = some x→l.flatten.Perm (x++(l.eraseIdx i).flatten)
 | [],i,x,h=>by simp at h
 | y::l,0,x,h=>by
  simp at h
  subst h
  exact List.Perm.refl _
 | y::l,i+1,x,h=>by
  have ih:=zbk l i x (by simpa using h)
  rw [List.flatten_cons,List.eraseIdx_cons_succ,List.flatten_cons]
  exact (List.Perm.append_left y ih).trans (List.perm_append_comm_assoc _ _ _)
end Dk
namespace Go.Proofs.YtglhhlfopccmaaaGreat
open Go.RowKit Go.Lib
structure Fine1 (W:World) (j:Nat) (c:Dk.Cell) (ps:List Dk.Thing):Prop where
 lies:Beside W c.L c.q (j+1) ps
 born:Dk.Born c.q0
 life:Dk.Life j c.q
 dims:Dk.Dims c.q0 c.q
 recs:c.q.recs.length≤200*j
theorem Fine1.le {W:World} {j j':Nat} {c:Dk.Cell} {ps:List Dk.Thing} (h:Fine1 W j c ps) (hj:j≤j'):Fine1 W j' c ps:=
 ⟨fun w us s=>(h.lies w us s).mono (by omega),h.born,h.life.mono hj,h.dims,by have:=h.recs;omega⟩
def Many (W w:World) (cs:List Dk.Cell) (lev:Nat→Nat) (us:List Dk.Thing):Prop:=∃ pss:List (List Dk.Thing),pss.length=cs.length∧Dk.Sep W w (us++pss.flatten)∧∀ (i:Nat) c ps,cs[i]? = some c→pss[i]? = some ps→Fine1 W (lev i) c ps
section
variable {W w w' : World} {cs : List Dk.Cell} {j lev lev' : Nat → Nat} {us us' : List Dk.Thing}
theorem Many.out (h:Many W w cs j us):Below W.heap.size W w:=by
 obtain ⟨pss,_,s,_⟩:=h
 exact s.out
theorem Many.map (h:Many W w cs j us) (f:∀ ts,Dk.Sep W w (us++ts)→Dk.Sep W w' (us'++ts)):Many W w' cs j us':=by
 obtain ⟨pss,hl,s,hf⟩:=h
 exact ⟨pss,hl,f _ s,hf⟩
theorem Many.drop {t:Dk.Thing} (h:Many W w cs j (t::us)):Many W w cs j us:=h.map fun _ s=>s.sub (List.sublist_cons_self _ _)
theorem Many.newBox {ce:Array Value} {e:TypeId} (h:Many W w cs j us) (ew:w'=w.alloc (.cells ce e)):Many W w' cs j (Dk.boxOf w.heap.size ce e::us):=h.map fun _ s=>s.newBox ew
theorem Many.box {a:Nat} {ce:Array Value} {e:TypeId} (h:Many W w cs j us) (ht:Dk.boxOf a ce e ∈ us):Dk.Box w a ce e:=by
 obtain ⟨pss,_,s,_⟩:=h
 exact s.box (List.mem_append_left _ ht)
theorem Many.row {e:TypeId} {s m:Nat} {v:Value} {xs:List Value} (h:Many W w cs j us) (ht:Dk.rowOf e s v m xs ∈ us):w.ownsRow W.heap.size e s v m xs:=by
 obtain ⟨pss,_,s,_⟩:=h
 exact s.row (List.mem_append_left _ ht)
theorem Many.begin (s:Dk.Sep W w us):Many W w [] j us:=⟨[],rfl,by simpa using s,fun i c ps h=>by simp at h⟩
theorem Many.snoc {L:Dk.Loc} {q0:Dk.Sp} (h:Many W w cs (fun _=>0) us) (b:Dk.Born q0) (f:∀ ts,Dk.Sep W w (us++ts)→Lives W w' L q0 q0 0 1 0 (us++ts)):Many W w' (cs++[⟨L,q0,q0⟩]) (fun _=>0) us:=by
 obtain ⟨pss,hl,s,hf⟩:=h
 have hL:=f _ s
 obtain ⟨ps,s2,fl⟩:=hL.cor.opened
 refine ⟨pss++[ps],by simp [hl],?_,fun i c qs hc hq=>?_⟩
 ·rw [List.flatten_append,List.flatten_singleton,← List.append_assoc]
  exact s2
 ·by_cases hi:i < cs.length
  ·rw [List.getElem?_append_left hi] at hc
   rw [List.getElem?_append_left (by omega)] at hq
   exact hf i c qs hc hq
  ·have hic:=(List.getElem?_eq_some_iff.1 hc).1
   simp at hic
   obtain rfl:i=cs.length:=by omega
   rw [List.getElem?_append_right (by omega),Nat.sub_self] at hc
   rw [List.getElem?_append_right (by omega),show cs.length - pss.length=0 by omega] at hq
   cases hc
   cases hq
   exact ⟨fl,b,hL.life,hL.dims,by have:=hL.recs;omega⟩
theorem Many.at (h:Many W w cs j us) {i:Nat} {c:Dk.Cell} (hc:cs[i]? = some c):∃ rest,Goes W w c.L c.q0 c.q (j i) (us++rest)∧Dk.Born c.q0∧
  (∀ w' us' q',Goes W w' c.L c.q0 q' (j i+1) (us'++rest)→Many W w' (cs.set i (c.go q')) (Dk.upd j i (j i+1)) us')∧(∀ w' us',Goes W w' c.L c.q0 c.q (j i) (us'++rest)→Many W w' cs j us'):=by
 obtain ⟨pss,hl,s,hf⟩:=h
 have hil:=(List.getElem?_eq_some_iff.1 hc).1
 obtain ⟨ps,hps⟩:∃ ps,pss[i]? = some ps:=⟨_,List.getElem?_eq_getElem (by omega)⟩
 have F:=hf i c ps hc hps
 have key:∀ w' us',Dk.Sep W w' (us'++pss.flatten)→Dk.Sep W w' ((us'++(pss.eraseIdx i).flatten)++ps):=fun w' us' s=>s.perm (by
  refine (List.Perm.append_left us' (Dk.zbk pss i ps hps)).trans ?_
  rw [List.append_assoc]
  exact List.Perm.append_left us' List.perm_append_comm)
 refine ⟨(pss.eraseIdx i).flatten,⟨F.lies _ _ (key _ _ s),F.life,F.dims,F.recs⟩,F.born,fun w' us' q' hG=>?_,fun w' us' hG=>?_⟩
 ·obtain ⟨ps',s',f'⟩:=hG.cor.opened
  refine ⟨pss.set i ps',by rw [List.length_set,List.length_set,hl],?_,fun k d qs hd hq=>?_⟩
  ·have hp:=Dk.zbk (pss.set i ps') i ps' (List.getElem?_set_self (by omega))
   rw [List.eraseIdx_set_eq] at hp
   refine s'.perm ?_
   rw [List.append_assoc]
   exact List.Perm.append_left us' (List.perm_append_comm.trans hp.symm)
  ·by_cases hk:i=k
   ·subst hk
    rw [List.getElem?_set_self hil] at hd
    rw [List.getElem?_set_self (by omega)] at hq
    cases hd
    cases hq
    rw [Dk.upd_same]
    exact ⟨f',F.born,hG.life,hG.dims,hG.recs⟩
   ·rw [List.getElem?_set_ne hk] at hd hq
    rw [Dk.upd_ne _ _ (Ne.symm hk)]
    exact hf k d qs hd hq
 ·obtain ⟨ps',s',f'⟩:=hG.cor.opened
  refine ⟨pss.set i ps',by rw [List.length_set,hl],?_,fun k d qs hd hq=>?_⟩
  ·have hp:=Dk.zbk (pss.set i ps') i ps' (List.getElem?_set_self (by omega))
   rw [List.eraseIdx_set_eq] at hp
   refine s'.perm ?_
   rw [List.append_assoc]
   exact List.Perm.append_left us' (List.perm_append_comm.trans hp.symm)
  ·by_cases hk:i=k
   ·subst hk
    rw [hc] at hd
    rw [List.getElem?_set_self (by omega)] at hq
    cases hd
    cases hq
    exact ⟨f',F.born,hG.life,hG.dims,hG.recs⟩
   ·rw [List.getElem?_set_ne hk] at hq
    exact hf k d qs hd hq
theorem Many.le (h:Many W w cs lev us) (hl:∀ i,lev i≤lev' i):Many W w cs lev' us:=by
 obtain ⟨pss,h1,s,hf⟩:=h
 exact ⟨pss,h1,s,fun i c ps hc hp=>(hf i c ps hc hp).le (hl i)⟩
end
def OneM (W w:World) (b:Nat) (cs:List Dk.Cell) (j:Nat→Nat) (us:List Dk.Thing):Prop:=∃ v,Many W w cs j (Dk.boxOf b #[v] 152::Dk.rowOf 27 1 v cs.length (cs.map Dk.Cell.ptr)::us)
theorem zkk (b:Nat) (n:Int) (w:World) (hn:n < 0):Calls Tryz.prog 42 #[.pointer (some ⟨b,0,none⟩),.int .i64 n] w fun e w'=>e=.returned (.pointer none)∧w'=w:=by
 go_enter Tryz.func42,Tryz.ntmps42
 go_wp2_with fail
 go_ret
 exact ⟨rfl,rfl⟩
theorem zib (b:Nat) (A:Option Addr) (m C:Nat) (n:Nat) (w:World) (hc:w.cell? ⟨b,0,none⟩=some (.slice A m C)) (hn:m≤n):Calls Tryz.prog 42 #[.pointer (some ⟨b,0,none⟩),.int .i64 (n:Int)] w fun e w'=>e=.returned (.pointer none)∧w'=w:=by
 have h0:¬ ((n:Int) < 0):=by omega
 have h1:(m:Int)≤(n:Int):=by omega
 go_enter Tryz.func42,Tryz.ntmps42
 go_wp2_with fail
 go_ret
 exact ⟨rfl,rfl⟩
theorem zmh (b g m C n:Nat) (v:Value) (w:World) (hc:w.cell? ⟨b,0,none⟩=some (.slice (some ⟨g,0,none⟩) m C)) (hv:w.cell? ⟨g,n,none⟩=some v) (hn:n < m):Calls Tryz.prog 42 #[.pointer (some ⟨b,0,none⟩),.int .i64 (n:Int)] w fun e w'=>e=.returned v∧w'=w:=by
 have h0:¬ ((n:Int) < 0):=by omega
 have h1:¬ ((m:Int)≤(n:Int)):=by omega
 have h2:(n:Int) < (m:Int):=by omega
 have h3:(0:Int)≤(n:Int):=by omega
 go_enter Tryz.func42,Tryz.ntmps42
 go_wp2_with fail
 go_ret
 exact ⟨rfl,rfl⟩
section
variable {W w w' : World} {b : Nat} {j : Nat → Nat} {cs : List Dk.Cell} {us : List Dk.Thing}
theorem zcb (h:OneM W w b cs j us) {k:Nat} {c:Dk.Cell} (hc:cs[k]? = some c):Calls Tryz.prog 42 #[.pointer (some ⟨b,0,none⟩),.int .i64 (k:Int)] w fun e w'=>e=.returned c.ptr∧w'=w:=by
 obtain ⟨v,hM⟩:=h
 have hkl:=(List.getElem?_eq_some_iff.1 hc).1
 obtain ⟨g,C,x,ev,_,_,hx,hcell,_,_⟩:=Dk.zay (hM.row (e:=27) (s:=1) (v:=v) (m:=cs.length) (xs:=cs.map Dk.Cell.ptr) (by simp)) hkl
 rw [List.getElem?_map,hc] at hx
 cases hx
 have hb:=(hM.box (a:=b) (ce:=#[v]) (e:=152) (by simp)).cell 0
 rw [ev] at hb
 exact zmh b g cs.length C k _ w hb hcell hkl
theorem zcu (h:OneM W w b cs j us) (n:Int) (hn:n < 0∨(cs.length:Int)≤n):Calls Tryz.prog 42 #[.pointer (some ⟨b,0,none⟩),.int .i64 n] w fun e w'=>e=.returned (.pointer none)∧w'=w:=by
 by_cases h0:n < 0
 ·exact zkk b n w h0
 ·obtain ⟨v,hM⟩:=h
  obtain ⟨A,C,ev,_,_⟩:=Dk.zc (hM.row (e:=27) (s:=1) (v:=v) (m:=cs.length) (xs:=cs.map Dk.Cell.ptr) (by simp))
  have hb:=(hM.box (a:=b) (ce:=#[v]) (e:=152) (by simp)).cell 0
  rw [ev] at hb
  obtain ⟨m,rfl⟩:∃ m:Nat,n=m:=⟨n.toNat,by omega⟩
  exact zib b A cs.length C m w hb (by omega)
end
end Go.Proofs.YtglhhlfopccmaaaGreat
