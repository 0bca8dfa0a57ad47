import Derived.Test.YtglhhlfopccmaaaGreatOw41
set_option linter.unusedSimpArgs false
set_option linter.unusedVariables false
set_option linter.unnecessarySimpa false
set_option maxHeartbeats 8000000
set_option maxRecDepth 100000
namespace Dk
open Go Go.RowKit
def Sp.fresh (p:Prg):Sp:=(({ Sp.blank p with tubes:=p.pipes.map fun r=>⟨r,[],[],[]⟩ }:Sp).begin 0 0).1
structure Fits (p:Prg):Prop where
 fl:p.funcs.length≤8
 f1:1≤p.funcs.length
 cl:∀ c ∈ p.funcs,c.length≤256
 wd:0≤p.words∧p.words≤64
 mx:0≤p.mutexes∧p.mutexes≤4
 cv:0≤p.conds∧p.conds≤4
 sm:p.sems.length≤4
 sv:∀ x ∈ p.sems,0≤x∧x≤1048576
 pp:p.pipes.length≤4
 pv:∀ x ∈ p.pipes,1≤x∧x≤8
 bk:0≤p.blocks∧p.blocks≤64
 snd:∀ c ∈ p.funcs,∀ i ∈ c,soundB p i=true
theorem zf2 {p:Prg} (h:check p=0):Fits p:=by
 obtain ⟨h1,h2,h3⟩:=Go.Proofs.YtglhhlfopccmaaaGreat.fit_of h
 unfold codeFitsB withinB at h1
 unfold objectsFitB withinB allWithinB at h2
 unfold allSoundB at h3
 simp only [Bool.and_eq_true,decide_eq_true_eq,List.all_eq_true] at h1 h2 h3
 obtain ⟨⟨f1,fl⟩,cl⟩:=h1
 obtain ⟨⟨⟨⟨⟨⟨⟨⟨wd,mx⟩,cv⟩,sm⟩,sv⟩,pp⟩,pv⟩,bk⟩,pr⟩:=h2
 refine ⟨by omega,by omega,cl,wd,mx,cv,sm,fun x hx=>?_,pp,fun x hx=>?_,bk,h3⟩
 ·have:=sv x hx;unfold withinB at this;simpa using this
 ·have:=pv x hx;unfold withinB at this;simpa using this
theorem zqe {x:Int} (hx:i64 x) {n:Int} (hn:n≤1000) (h:u64 x < n):0≤x∧x < n:=by
 unfold u64 at h
 unfold i64 at hx
 omega
theorem may1 {p:Prg} {x:Int} (hx:i64 x) (h:mayB p 1 (u64 x)=true):0≤x∧x < 8:=by
 unfold mayB choices at h
 simp at h
 exact zqe hx (by omega) (by omega)
theorem may0 {p:Prg} {x:Int} (hx:i64 x) (h:mayB p 0 (u64 x)=true):0≤x∧x < 1:=by
 unfold mayB choices at h
 simp at h
 exact zqe hx (by omega) (by omega)
theorem mayN {p:Prg} {x:Int} {n:Nat} (x5:x=4∨x=5∨x=6∨x=7∨x=8) (h:mayB p x (n:Int)=true):(n:Int) < max 0 (choices p x):=by
 unfold mayB at h
 rw [Bool.or_eq_true,decide_eq_true_eq,beq_iff_eq] at h
 rcases h with h | h
 ·omega
 ·exact h
theorem mayC {p:Prg} {x:Int} (hx:i64 x) (hm:p.mutexes≤4) (h:mayB p 5 (u64 x)=true):0≤x∧x < max 0 p.mutexes:=by
 unfold mayB choices at h
 simp at h
 have:u64 x < max 0 p.mutexes:=by omega
 exact zqe hx (by omega) this
theorem zp1 (p:Prg) (F:Fits p):(start p.mutexes p.conds p.sems).owner.length=p.mutexes.toNat∧(start p.mutexes p.conds p.sems).conds.length=p.conds.toNat∧(start p.mutexes p.conds p.sems).count.length=p.sems.length:=by
 have h1:=F.mx
 have h2:=F.cv
 have h3:=F.sm
 unfold start lim
 simp only [List.length_replicate,List.length_map,List.length_take]
 refine ⟨?_,?_,by omega⟩ <;> (split <;> (try split) <;> omega)
theorem formK (op:Int):((form op).1.1=0∨(form op).1.1=1)∧((form op).1.2.1=0∨(form op).1.2.1=1)∧(op≠27→(form op).1.2.2.1=0∨(form op).1.2.2.1=1)∧((form op).2=true→1≤op∧op≤38):=by
 unfold form
 by_cases h0:op=1
 ·rw [if_pos h0]
  exact ⟨by decide,by decide,fun _=>by decide,fun _=>by omega⟩
 rw [if_neg h0]
 by_cases h1:op=2∨op=14∨op=15∨op=18∨op=19∨op=21∨op=33∨op=34
 ·rw [if_pos h1]
  exact ⟨by decide,by decide,fun _=>by decide,fun _=>by omega⟩
 rw [if_neg h1]
 by_cases h2:3≤op∧op≤13
 ·rw [if_pos h2]
  exact ⟨by decide,by decide,fun _=>by decide,fun _=>by omega⟩
 rw [if_neg h2]
 by_cases h3:op=16
 ·rw [if_pos h3]
  exact ⟨by decide,by decide,fun _=>by decide,fun _=>by omega⟩
 rw [if_neg h3]
 by_cases h4:op=17
 ·rw [if_pos h4]
  exact ⟨by decide,by decide,fun _=>by decide,fun _=>by omega⟩
 rw [if_neg h4]
 by_cases h5:op=20
 ·rw [if_pos h5]
  exact ⟨by decide,by decide,fun _=>by decide,fun _=>by omega⟩
 rw [if_neg h5]
 by_cases h6:op=22∨op=23∨op=32∨op=37∨op=38
 ·rw [if_pos h6]
  exact ⟨by decide,by decide,fun _=>by decide,fun _=>by omega⟩
 rw [if_neg h6]
 by_cases h7:op=24
 ·rw [if_pos h7]
  exact ⟨by decide,by decide,fun _=>by decide,fun _=>by omega⟩
 rw [if_neg h7]
 by_cases h8:op=25∨op=26
 ·rw [if_pos h8]
  exact ⟨by decide,by decide,fun _=>by decide,fun _=>by omega⟩
 rw [if_neg h8]
 by_cases h9:op=27
 ·rw [if_pos h9]
  exact ⟨by decide,by decide,fun h=>absurd h9 h,fun _=>by omega⟩
 rw [if_neg h9]
 by_cases h10:op=28∨op=29
 ·rw [if_pos h10]
  exact ⟨by decide,by decide,fun _=>by decide,fun _=>by omega⟩
 rw [if_neg h10]
 by_cases h11:op=30∨op=31
 ·rw [if_pos h11]
  exact ⟨by decide,by decide,fun _=>by decide,fun _=>by omega⟩
 rw [if_neg h11]
 by_cases h12:op=35∨op=36
 ·rw [if_pos h12]
  exact ⟨by decide,by decide,fun _=>by decide,fun _=>by omega⟩
 rw [if_neg h12]
 exact ⟨by decide,by decide,fun _=>by decide,fun h=>absurd h (by decide)⟩
theorem form1 (op:Int):(form op).1.1=0∨(form op).1.1=1:=(formK op).1
theorem form2 (op:Int):(form op).1.2.1=0∨(form op).1.2.1=1:=(formK op).2.1
theorem form3 (op:Int) (h:op≠27):(form op).1.2.2.1=0∨(form op).1.2.2.1=1:=(formK op).2.2.1 h
theorem form_op {op:Int} (h:(form op).2=true):1≤op∧op≤38:=(formK op).2.2.2 h
theorem may01 {p:Prg} {x k:Int} (hx:i64 x) (hk:k=0∨k=1) (h:mayB p k (u64 x)=true):0≤x∧x < 8:=by
 rcases hk with rfl | rfl
 ·have:=may0 hx h;omega
 ·exact may1 hx h
theorem insFit {p:Prg} (F:Fits p) {q:Sp} (hg:q.gates.owner.length=p.mutexes.toNat∧q.gates.conds.length=p.conds.toNat∧q.gates.count.length=p.sems.length) (ht:q.tubes.length=p.pipes.length) {i:Ins} (ok:i.ok) (hs:soundB p i=true):q.InsFit i:=by
 obtain ⟨g1,g2,g3⟩:=hg
 have hmx:=F.mx
 have hcv:=F.cv
 have hsm:=F.sm
 have hpp:=F.pp
 obtain ⟨op,a,b,c,n⟩:=i
 obtain ⟨o0,oa,ob,oc,on⟩:=id ok
 dsimp only at o0 oa ob oc on
 unfold soundB at hs
 simp only [Bool.and_eq_true] at hs
 obtain ⟨⟨⟨⟨hop,ha⟩,hb⟩,hc⟩,hn⟩:=hs
 have key:=form_op hop
 have fa:=may01 oa (form1 op) ha
 have fb:=may01 ob (form2 op) hb
 have fc:op≠27→0≤c∧c < 8:=fun h=>may01 oc (form3 op h) hc
 have hN:25≤op∧op≤31∨op=35∨op=36→(n:Int) < max 0 (choices p (form op).1.2.2.2):=fun h=>by
  refine mayN ?_ hn
  have h':op=25∨op=26∨op=27∨op=28∨op=29∨op=30∨op=31∨op=35∨op=36:=by omega
  rcases h' with rfl | rfl | rfl | rfl | rfl | rfl | rfl | rfl | rfl <;> decide
 have c5:choices p 5=p.mutexes:=rfl
 have c6:choices p 6=p.conds:=rfl
 have c7:choices p 7=p.sems.length:=rfl
 have c8:choices p 8=p.pipes.length:=rfl
 refine ⟨ok,fa,fb,key,fun h19=>?_,fun h=>⟨?_,fun h=>?_,fun h=>?_,fun h=>?_,fun h=>?_⟩,fun h=>?_⟩
 ·dsimp only at h19
  obtain ⟨c0,c8⟩:=fc (by omega)
  unfold codeB regs
  simp only [Bool.and_eq_true,List.all_eq_true]
  refine ⟨by unfold withinB;simp;omega,fun r hr=>?_⟩
  have hr':=List.mem_of_mem_take hr
  simp only [List.mem_cons,List.not_mem_nil,or_false] at hr'
  rw [zc0]
  rcases hr' with rfl | rfl | rfl
  ·exact fa
  ·exact fb
  ·exact ⟨c0,c8⟩
 ·dsimp only at h ⊢
  have h1:=hN (.inl h)
  have h':op=25∨op=26∨op=27∨op=28∨op=29∨op=30∨op=31:=by omega
  rcases h' with rfl | rfl | rfl | rfl | rfl | rfl | rfl
  ·rw [show (form 25).1.2.2.2=5 from by decide,c5] at h1;omega
  ·rw [show (form 26).1.2.2.2=5 from by decide,c5] at h1;omega
  ·rw [show (form 27).1.2.2.2=6 from by decide,c6] at h1;omega
  ·rw [show (form 28).1.2.2.2=6 from by decide,c6] at h1;omega
  ·rw [show (form 29).1.2.2.2=6 from by decide,c6] at h1;omega
  ·rw [show (form 30).1.2.2.2=7 from by decide,c7] at h1;omega
  ·rw [show (form 31).1.2.2.2=7 from by decide,c7] at h1;omega
 ·dsimp only at h ⊢
  have h1:=hN (by omega)
  rcases h with rfl | rfl
  ·rw [show (form 25).1.2.2.2=5 from by decide,c5] at h1;omega
  ·rw [show (form 26).1.2.2.2=5 from by decide,c5] at h1;omega
 ·dsimp only at h ⊢
  have h1:=hN (by omega)
  rcases h with rfl | rfl | rfl
  ·rw [show (form 27).1.2.2.2=6 from by decide,c6] at h1;omega
  ·rw [show (form 28).1.2.2.2=6 from by decide,c6] at h1;omega
  ·rw [show (form 29).1.2.2.2=6 from by decide,c6] at h1;omega
 ·dsimp only at h ⊢
  subst h
  rw [show (form 27).1.2.2.1=5 from by decide] at hc
  have:=mayC oc hmx.2 hc
  omega
 ·dsimp only at h ⊢
  have h1:=hN (by omega)
  rcases h with rfl | rfl
  ·rw [show (form 30).1.2.2.2=7 from by decide,c7] at h1;omega
  ·rw [show (form 31).1.2.2.2=7 from by decide,c7] at h1;omega
 ·dsimp only at h ⊢
  have h1:=hN (.inr h)
  rcases h with rfl | rfl
  ·rw [show (form 35).1.2.2.2=8 from by decide,c8] at h1;omega
  ·rw [show (form 36).1.2.2.2=8 from by decide,c8] at h1;omega
open Go
def lastR (h:Nat) (l:List Rec):Option Rec:=(l.filter fun r=>r.thread == h).getLast?
theorem zma (h:Nat) (l:List Rec) (r:Rec):lastR h (l++[r])=if r.thread=h then some r else lastR h l:=by
 unfold lastR
 rw [List.filter_append]
 by_cases e:r.thread=h
 ·rw [if_pos e,List.filter_cons_of_pos (by simpa using e),List.filter_nil,List.getLast?_concat]
 ·rw [if_neg e,List.filter_cons_of_neg (by simpa using e),List.filter_nil,List.append_nil]
def GoodR (l:List Rec):Prop:=∀ pre s post,l=pre++s::post→∀ r,lastR s.thread pre=some r→r.fin=false→s.fin=true∧s.op=r.op∧s.x=0∧s.result=0
theorem GoodR.snoc {l:List Rec} (h:GoodR l) {s:Rec} (hs:∀ r,lastR s.thread l=some r→r.fin=false→s.fin=true∧s.op=r.op∧s.x=0∧s.result=0):GoodR (l++[s]):=fun pre t post e=>by
 rcases List.eq_nil_or_concat post with rfl | ⟨post,u,rfl⟩
 ·obtain ⟨rfl,e2⟩:=List.append_inj' e rfl
  obtain rfl:s=t:=by simpa using e2
  exact hs
 ·have e':l++[s]=(pre++t::post)++[u]:=by simpa using e
  obtain ⟨e1,-⟩:=List.append_inj' e' rfl
  exact h pre t post e1
theorem hd_inj {st:StS} {n m:Nat} (hn:n < 16) (hm:m < 16) (e:hd st n=hd st m):n=m:=by
 have h1:=hd_mod (st:=st) (k:=n) (by omega)
 have h2:=hd_mod (st:=st) (k:=m) (by omega)
 rw [e] at h1
 omega
structure Seen (but:Nat→Prop) (q:Sp):Prop where
 good:GoodR q.recs
 last:∀ h r,lastR h q.recs=some r→r.fin=false→∃ n,n < 16∧¬ but n∧us q.st n=true∧q.hnd n=h∧(q.thr n).why≠0∧(q.thr n).why≠9∧(q.thr n).ins.op=r.op
theorem Seen.mono {b b':Nat→Prop} {q:Sp} (h:Seen b q) (hb:∀ n,b' n→b n):Seen b' q:=⟨h.good,fun x r e f=>by
 obtain ⟨n,h1,h2,h3⟩:=h.last x r e f
 exact ⟨n,h1,fun e=>h2 (hb n e),h3⟩⟩
theorem Seen.end_ {b:Nat→Prop} {q:Sp} (h:Seen b q):Seen (fun _=>False) q:=h.mono fun _=>False.elim
section
variable {b : Nat → Prop} {q : Sp}
theorem Seen.turn {q':Sp} (h:Seen b q) (hr:q'.recs=q.recs) (hk:∀ n,n < 16→¬ b n→us q.st n=true→(q.thr n).why≠0→(q.thr n).why≠9→us q'.st n=true∧hd q'.st n=hd q.st n∧(q'.thr n).why≠0∧(q'.thr n).why≠9∧(q'.thr n).ins.op=(q.thr n).ins.op):Seen b q':=⟨by rw [hr];exact h.good,fun x r e f=>by
 rw [hr] at e
 obtain ⟨m,h1,h2,h3,h4,h5,h6,h7⟩:=h.last x r e f
 obtain ⟨k1,k2,k3,k4,k5⟩:=hk m h1 h2 h3 h5 h6
 refine ⟨m,h1,h2,k1,?_,k3,k4,k5.trans h7⟩
 unfold Sp.hnd at h4 ⊢
 rw [if_pos h3] at h4
 rw [if_pos k1,k2,h4]⟩
theorem Seen.setT (h:Seen b q) (n:Nat) (t:Thr) (ht:¬ b n→(q.thr n).why≠0→(q.thr n).why≠9→t.why≠0∧t.why≠9∧t.ins.op=(q.thr n).ins.op):Seen b (q.setT n t):=h.turn rfl fun m hm hb hu h0 h9=>by
 refine ⟨hu,rfl,?_⟩
 unfold Sp.setT
 dsimp only
 by_cases e:m=n
 ·subst e
  rw [upd_same]
  exact ht hb h0 h9
 ·rw [upd_ne _ _ e]
  exact ⟨h0,h9,rfl⟩
theorem Seen.free (h:Seen b q) (h16:q.st.length=16) (n:Nat) (hn:n < 16) (hb:b n∨(q.thr n).why=0∨(q.thr n).why=9):Seen b (q.free n):=h.turn rfl fun m hm hbm hu h0 h9=>by
 have hne:m≠n:=fun e=>by
  subst e
  rcases hb with hb | hb | hb
  ·exact hbm hb
  ·exact h0 hb
  ·exact h9 hb
 refine ⟨?_,?_,h0,h9,rfl⟩
 ·show us (freed q.st (q.hnd n)) m=true
  unfold freed
  split
  ·exact hu
  ·rename_i k e
   obtain ⟨e1,e2,e3,e4⟩:=zbo e
   rw [zqh _ _ _ _ _ e3]
   have hk:k=n:=by
    unfold Sp.hnd at e2
    by_cases hun:us q.st n=true
    ·rw [if_pos hun] at e2
     exact hd_inj (by omega) hn e2
    ·rw [if_neg hun] at e2
     unfold hd at e2
     omega
   rw [if_neg (by omega)]
   exact hu
 ·show hd (freed q.st (q.hnd n)) m=hd q.st m
  unfold hd
  rw [freed_tk]
theorem Seen.wake1 (h:Seen (fun _=>False) q) (p:Int × Nat) (hp:InR p.1):Seen (fun _=>False) (q.wake1 p):=by
 obtain ⟨x,v⟩:=p
 have hx:x.toNat < 16:=by unfold InR at hp;dsimp only at hp;omega
 dsimp only at hp
 have key:∀ m,m < 16→us q.st m=true→q.hnd m=q.hnd x.toNat→m=x.toNat:=fun m hm hu e=>by
  unfold Sp.hnd at e
  rw [if_pos hu] at e
  split at e
  ·exact hd_inj hm hx e
  ·unfold hd at e;omega
 refine ⟨h.good.snoc fun s e f=>?_,fun y s e f=>?_⟩
 ·obtain ⟨m,h1,h2,h3,h4,h5,h6,h7⟩:=h.last _ s e f
  obtain rfl:=key m h1 h3 h4
  exact ⟨rfl,h7,rfl,rfl⟩
 ·rw [show (q.wake1 (x,v)).recs=q.recs++[⟨q.hnd x.toNat,(q.thr x.toNat).ins.op,0,v,0,true⟩] from rfl,zma] at e
  split at e
  ·obtain rfl:=Option.some.inj e
   cases f
  ·rename_i ne
   obtain ⟨m,h1,h2,h3,h4,h5⟩:=h.last y s e f
   refine ⟨m,h1,id,h3,h4,?_⟩
   have hne:m≠x.toNat:=fun e=>ne (by rw [← h4,e])
   show (upd q.thr x.toNat _ m).why≠0∧(upd q.thr x.toNat _ m).why≠9∧(upd q.thr x.toNat _ m).ins.op=s.op
   rw [upd_ne _ _ hne]
   exact h5
end
theorem Seen.wake:∀ (l:List (Int × Nat)) {q:Sp} (h:Seen (fun _=>False) q) (hl:∀ p ∈ l,InR p.1),Seen (fun _=>False) (q.wake l)
 | [],q,h,_=>h
 | p::l,q,h,hl=>Seen.wake l (h.wake1 p (hl p (List.mem_cons_self ..))) (fun x hx=>hl x (List.mem_cons_of_mem _ hx))
section
variable {q : Sp} {n : Nat}
theorem Seen.fin (h:Seen (·=n) q) (hn:n < 16) (h16:q.st.length=16) (hj:InR (q.thr n).joiner) (v:Nat):Seen (fun _=>False) (q.fin n v).1:=by
 unfold Sp.fin
 split
 ·exact (h.free h16 n hn (.inl rfl)).end_
 split
 ·exact Seen.wake _ (h.free h16 n hn (.inl rfl)).end_ (fun p hp=>by rw [List.mem_singleton] at hp;rw [hp];exact hj)
 ·exact (h.setT n _ fun hb=>absurd rfl hb).end_
end
theorem zde (p:Prg):Sp.fresh p=({ Sp.blank p with tubes:=p.pipes.map fun r=>⟨r,[],[],[]⟩,st:=taken (Dk.blank 16) }:Sp).setT 0 (Thr.new 0 0):=rfl
theorem zl8 {p:Prg} (F:Fits p):Life 0 (Sp.fresh p):=by
 rw [zde]
 refine Life.setT (q:={ Sp.blank p with tubes:=p.pipes.map fun r=>⟨r,[],[],[]⟩,st:=taken (Dk.blank 16) }) ?_ 0 (ThrOk.new 0 (by unfold i64;omega) 0 (by omega))
 refine ⟨fun m=>⟨⟨0,by omega,rfl⟩,zan,⟨⟨by show _≤(0:Int);omega,by show (0:Int)≤_;omega⟩,⟨by show _≤(0:Int);omega,by show (0:Int)≤_;omega⟩,fun k=>by show (0:Nat) < _;omega⟩,by show (0:Nat) < _;omega⟩,fun t ht=>?_,fun r hr=>absurd hr (by simp [Sp.blank]),by simp [Sp.blank],fun x hx=>absurd hx (by simp [Sp.blank,keysOf]),by simp [Sp.blank],fun x hx=>?_,fun x hx=>?_⟩
 ·obtain ⟨r,_,rfl⟩:=List.mem_map.1 ht
  exact ⟨⟨by simp,by simp,by simp⟩,fun x hx=>absurd hx (by simp),fun x hx=>absurd hx (by simp),fun x hx=>absurd hx (by simp)⟩
 ·rw [(List.mem_replicate.1 hx).2];omega
 ·rw [(List.mem_replicate.1 hx).2];omega
theorem zl7 {p:Prg} (F:Fits p) (hc:∀ c ∈ p.funcs,∀ i ∈ c,i.ok):Born (Sp.fresh p):=by
 refine ⟨fun c h=>⟨by have:=F.cl c h;omega,fun i hi=>insFit F (zp1 p F) (by rw [zde];simp [Sp.setT]) (hc c h i hi) (F.snd c h i hi)⟩,?_,?_,?_⟩
 ·rw [zde]
  have:=F.wd
  simp [Sp.setT,Sp.blank]
  omega
 ·rw [zde]
  have:=Go.Proofs.YtglhhlfopccmaaaGreat.Dk.zh6 p.blocks
  simp [Sp.setT,Sp.blank]
  omega
 ·rfl
end Dk
namespace Go.Proofs.YtglhhlfopccmaaaGreat
open Go.RowKit Go.Lib
section
variable {W w w' : World} {us : List Dk.Thing}
theorem NewC_no {B:Nat} (s:Dk.Sh) (p:Dk.Prg) (w:World) (hp:Dk.PrgAt B w s p) (hB:B≤w.heap.size) (hk:Dk.check p≠0) :
  Calls Tryz.prog 12 #[Dk.pv s p] w fun e w'=>e=.returned (.tuple #[.pointer none,.int .i64 (Dk.check p)])∧Below w.heap.size w w':=by
 obtain ⟨W1,e1⟩:∃ W1,W1=w.alloc (.cells #[.slice s.fA s.fL s.fC,.int .i64 p.words,.int .i64 p.mutexes,.int .i64 p.conds,.slice s.sA s.sL s.sC,.slice s.pA s.pL s.pC,.int .i64 p.blocks,.int .i64 p.prio] 25):=⟨_,rfl⟩
 have b1:Dk.Box W1 w.heap.size #[.slice s.fA s.fL s.fC,.int .i64 p.words,.int .i64 p.mutexes,.int .i64 p.conds,.slice s.sA s.sL s.sC,.slice s.pA s.pL s.pC,.int .i64 p.blocks,.int .i64 p.prio] 25:=by rw [e1];exact Dk.Box.new _ _ _
 have u1:Below w.heap.size w W1:=by rw [e1];exact Dk.zb (Below.refl _ _) _
 have K:=zhw B s p W1 (hp.below u1 hB) (Nat.le_trans hB u1.size)
 have H1:Hid _:=e1.symm
 have c1:=b1.cell
 have HU:Hid (Below w.heap.size w W1):=u1
 have hne:(!decide (Dk.check p=0))=true:=by simp [hk]
 generalize Dk.check p=z at *
 clear e1 u1 b1
 go_enter Tryz.func12,Tryz.ntmps12
 go_wp2_with (rw [H1.out];clear H1)
 refine K.mono ?_
 rintro e w2 ⟨rfl,u2⟩
 have u3:Below w.heap.size w w2:=Dk.zi HU.out u2
 clear K c1 u2
 go_wp2_with fail
 go_ret2
 exact ⟨rfl,u3⟩
theorem zki {B:Nat} (h:Dk.Sep W w us) (s:Dk.Sh) (p:Dk.Prg) (hp:Dk.PrgAt B w s p) (hB:B≤w.heap.size) (hk:Dk.check p=0) :
  Calls Tryz.prog 12 #[Dk.pv s p] w fun e w'=>∃ L:Dk.Loc,e=.returned (.tuple #[.pointer (some ⟨L.b,0,none⟩),.int .i64 0])∧Lives W w' L (Dk.Sp.fresh p) (Dk.Sp.fresh p) 0 1 0 us:=by
 have F:=Dk.zf2 hk
 refine (NewC_t s p w hp hB hk ⟨F.fl,F.cl,F.wd.1,F.wd.2,F.pp⟩).mono ?_
 rintro e w' ⟨L,rfl,hC⟩
 exact ⟨L,rfl,Cor.rebase h hC,Dk.zl8 F,Dk.Dims.refl _,by simp [Dk.zde,Dk.Sp.setT,Dk.Sp.blank]⟩
theorem zn0 {B:Nat} {s:Dk.Sh} {p:Dk.Prg} (hp:Dk.PrgAt B w s p) (hk:Dk.check p=0):Dk.Born (Dk.Sp.fresh p):=Dk.zl7 (Dk.zf2 hk) hp.funcs.oks
end
end Go.Proofs.YtglhhlfopccmaaaGreat
namespace Dk
open Go Go.RowKit
theorem SlN.zit {B:Nat} {w:World} {b:Nat} {xs:List Ins} {t:TypeId} (h:Box w b (xs.flatMap Ins.cells).toArray t) (hb:b < B) (hl:xs.length≤1000) (ok:∀ x ∈ xs,x.ok):SlN B w (some ⟨b,0,none⟩) xs.length xs.length xs:=by
 refine ⟨rfl,Nat.le_refl _,by unfold maxLen;omega,ok,fun _=>⟨b,0,rfl,hb,fun k hk=>?_⟩⟩
 have hx:xs[k]? = some xs[k]:=List.getElem?_eq_getElem hk
 have key:∀ r,r < 5→w.cell? ⟨b,0+k*5+r,none⟩=(xs[k]).cells[r]?:=fun r hr=>by
  rw [Nat.zero_add,h.cell,List.getElem?_toArray]
  exact flat_get Ins.len xs k r _ hx hr
 rw [List.getD_eq_getElem?_getD,hx]
 exact ⟨key 0 (by omega),key 1 (by omega),key 2 (by omega),key 3 (by omega),key 4 (by omega)⟩
theorem SlI.zit {B:Nat} {w:World} {b:Nat} {xs:List Int} {t:TypeId} (h:Box w b (is xs).toArray t) (hb:b < B) (hl:xs.length≤1000) (ok:∀ x ∈ xs,i64 x):SlI B w (some ⟨b,0,none⟩) xs.length xs.length xs:=by
 refine ⟨rfl,Nat.le_refl _,by unfold maxLen;omega,ok,fun _=>⟨b,0,rfl,hb,fun k hk=>?_⟩⟩
 rw [Nat.zero_add,h.cell,List.getElem?_toArray,List.getD_eq_getElem?_getD,List.getElem?_eq_getElem hk]
 simp [is,hk]
end Dk
namespace Go.Proofs.YtglhhlfopccmaaaGreat
open Go.RowKit Go.Lib
def twoP (a b:List Dk.Ins):Dk.Prg:=⟨[a,b],4,1,1,[0],[1],2,0⟩
section
variable {W w w' : World} {us : List Dk.Thing}
theorem two_any {B:Nat} {A1 A2:Option Addr} {L1 C1 L2 C2:Nat} {a b:List Dk.Ins} (w:World) (hB:B≤w.heap.size) (h1:Dk.SlN B w A1 L1 C1 a) (h2:Dk.SlN B w A2 L2 C2 b) :
  Calls Tryz.prog 52 #[.slice A1 L1 C1,.slice A2 L2 C2] w fun e w'=>∃ s:Dk.Sh,e=.returned (Dk.pv s (twoP a b))∧Dk.PrgAt w'.heap.size w' s (twoP a b)∧Below w.heap.size w w':=by
 obtain ⟨W1,e1⟩:∃ W1,W1=w.alloc (.cells #[.slice none 0 0,.int .i64 0,.int .i64 0,.int .i64 0,.slice none 0 0,.slice none 0 0,.int .i64 0,.int .i64 0] 25):=⟨_,rfl⟩
 obtain ⟨W2,e2⟩:∃ W2,W2=W1.alloc (.cells #[.slice A1 L1 C1,.slice A2 L2 C2] 123):=⟨_,rfl⟩
 obtain ⟨W3,e3⟩:∃ W3,W3=W2.alloc (.cells #[.int .i64 0] 3):=⟨_,rfl⟩
 obtain ⟨W4,e4⟩:∃ W4,W4=W3.alloc (.cells #[.int .i64 1] 3):=⟨_,rfl⟩
 have s4:=((((Dk.Sep.begin (Below.refl w.heap.size w)).newBox e1).newBox e2).newBox e3).newBox e4
 have z1:W1.heap.size=w.heap.size+1:=by rw [e1];simp
 have z2:W2.heap.size=w.heap.size+1+1:=by rw [e2];simp [z1]
 have z3:W3.heap.size=w.heap.size+1+1+1:=by rw [e3];simp [z2]
 have z4:W4.heap.size=w.heap.size+1+1+1+1:=by rw [e4];simp [z3]
 have H1:Hid _:=e1.symm
 have H2:Hid _:=e2.symm
 have H3:Hid _:=e3.symm
 have H4:Hid _:=e4.symm
 rw [z1,z2,z3] at s4
 have HS:Hid (Dk.Sep w W4 _):=s4
 have HZ:Hid (W4.heap.size=w.heap.size+1+1+1+1):=z4
 have b0:Dk.Box W4 w.heap.size #[.slice none 0 0,.int .i64 0,.int .i64 0,.int .i64 0,.slice none 0 0,.slice none 0 0,.int .i64 0,.int .i64 0] 25:=s4.box (by simp)
 have HB:Hid _:=b0
 obtain ⟨PC,ePC⟩:∃ PC:Array Value,PC=#[.slice (some ⟨w.heap.size+1,0,none⟩) 2 2,.int .i64 4,.int .i64 1,.int .i64 1,.slice (some ⟨w.heap.size+1+1,0,none⟩) 1 1,.slice (some ⟨w.heap.size+1+1+1,0,none⟩) 1 1,.int .i64 2,.int .i64 0]:=⟨_,rfl⟩
 have s9:Dk.Sep w (W4.setRow w.heap.size PC) ([Dk.boxOf (w.heap.size+1+1+1) #[.int .i64 1] 3,Dk.boxOf (w.heap.size+1+1) #[.int .i64 0] 3,Dk.boxOf (w.heap.size+1) #[.slice A1 L1 C1,.slice A2 L2 C2] 123]++Dk.boxOf w.heap.size PC 25::[]):=
  Dk.Sep.turn (us1:=[_,_,_]) (us2:=[]) s4 (Dk.Away.rowK (S:=(Dk.boxOf w.heap.size #[.slice none 0 0,.int .i64 0,.int .i64 0,.int .i64 0,.slice none 0 0,.slice none 0 0,.int .i64 0,.int .i64 0] 25).own) (Dk.Away.refl _ _) (.inl rfl) _) b0.row (fun k hk=>.inl hk)
 have hz9:(W4.setRow w.heap.size PC).heap.size=w.heap.size+1+1+1+1:=by rw [← z4];simp [World.setRow]
 have u9:=s9.out
 have bx0:=s9.box (b:=w.heap.size) (cs:=PC) (t:=25) (by simp)
 have bx1:=s9.box (b:=w.heap.size+1) (cs:=#[.slice A1 L1 C1,.slice A2 L2 C2]) (t:=123) (by simp)
 have bx2:=s9.box (b:=w.heap.size+1+1) (cs:=#[.int .i64 0]) (t:=3) (by simp)
 have bx3:=s9.box (b:=w.heap.size+1+1+1) (cs:=#[.int .i64 1]) (t:=3) (by simp)
 have fin:Dk.PrgAt (W4.setRow w.heap.size PC).heap.size (W4.setRow w.heap.size PC) ⟨some ⟨w.heap.size+1,0,none⟩,2,2,some ⟨w.heap.size+1+1,0,none⟩,1,1,some ⟨w.heap.size+1+1+1,0,none⟩,1,1⟩ (twoP a b):=by
  have g1:=(h1.below u9 hB).more (B':=(W4.setRow w.heap.size PC).heap.size) (by omega)
  have g2:=(h2.below u9 hB).more (B':=(W4.setRow w.heap.size PC).heap.size) (by omega)
  have q2:=Dk.SlI.zit (B:=(W4.setRow w.heap.size PC).heap.size) (xs:=[0]) bx2 (by omega) (by simp) (by simp [Dk.i64])
  have q3:=Dk.SlI.zit (B:=(W4.setRow w.heap.size PC).heap.size) (xs:=[1]) bx3 (by omega) (by simp) (by simp [Dk.i64])
  refine ⟨⟨rfl,Nat.le_refl _,by unfold maxLen;show 2≤_;omega,fun _=>⟨w.heap.size+1,0,rfl,by omega,fun k hk=>?_⟩⟩,q2,q3,by unfold Dk.i64;simp [twoP],by unfold Dk.i64;simp [twoP],by unfold Dk.i64;simp [twoP],by unfold Dk.i64;simp [twoP],by unfold Dk.i64;simp [twoP]⟩
  have hk':k=0∨k=1:=by have:k < 2:=hk;omega
  rcases hk' with rfl | rfl
  ·exact ⟨A1,L1,C1,by rw [bx1.cell];rfl,g1⟩
  ·exact ⟨A2,L2,C2,by rw [bx1.cell];rfl,g2⟩
 have FIN:Hid (Dk.PrgAt (W4.setRow w.heap.size PC).heap.size (W4.setRow w.heap.size PC) ⟨some ⟨w.heap.size+1,0,none⟩,2,2,some ⟨w.heap.size+1+1,0,none⟩,1,1,some ⟨w.heap.size+1+1+1,0,none⟩,1,1⟩ (twoP a b)):=fin
 have HU9:Hid (Below w.heap.size w (W4.setRow w.heap.size PC)):=u9
 have d9:=bx0.cell
 have hall:PC.all (·.oneCell')=true:=by rw [ePC];simp [Value.oneCell']
 have hsz:(Tryz.prog.info? 25).map (·.size)=some PC.size:=by rw [ePC];exact sizePrg
 have hold:(#[.slice none 0 0,.int .i64 0,.int .i64 0,.int .i64 0,.slice none 0 0,.slice none 0 0,.int .i64 0,.int .i64 0]:Array Value).size=PC.size:=by rw [ePC];rfl
 have EP:Hid _:=ePC
 have HA:Hid (PC.all (·.oneCell')=true):=hall
 have HSZ:Hid ((Tryz.prog.info? 25).map (·.size)=some PC.size):=hsz
 have HOL:Hid ((#[.slice none 0 0,.int .i64 0,.int .i64 0,.int .i64 0,.slice none 0 0,.slice none 0 0,.int .i64 0,.int .i64 0]:Array Value).size=PC.size):=hold
 clear hall hsz hold
 generalize hWX:W4.setRow w.heap.size PC=WX at *
 have HWX:Hid (W4.setRow w.heap.size PC=WX):=hWX
 clear e1 e2 e3 e4 z4 s4 b0 s9 hz9 u9 bx0 bx1 bx2 bx3 fin h1 h2 hB hWX ePC
 go_enter Tryz.func52,Tryz.ntmps52
 go_wp2_with (first | (rw [H1.out];clear H1) | (rw [H2.out];clear H2) | (rw [H3.out];clear H3) | (rw [H4.out];clear H4) | (refine wpList_store_row rfl 25 _ _ rfl w.heap.size PC rfl (by rw [EP.out];rfl) 25 _ HB.out.heap HSZ.out HOL.out HA.out ?_;rw [HWX.out]))
 have dd:=d9
 rw [EP.out] at dd
 exact bodyPost_ret (v:=.agg #[.slice (some ⟨w.heap.size+1,0,none⟩) 2 2,.int .i64 4,.int .i64 1,.int .i64 1,.slice (some ⟨w.heap.size+1+1,0,none⟩) 1 1,.slice (some ⟨w.heap.size+1+1+1,0,none⟩) 1 1,.int .i64 2,.int .i64 0]) (by simp [results,Tryz.results52,go_sem,dd]) rfl ⟨⟨some ⟨w.heap.size+1,0,none⟩,2,2,some ⟨w.heap.size+1+1,0,none⟩,1,1,some ⟨w.heap.size+1+1+1,0,none⟩,1,1⟩,rfl,FIN.out,HU9.out⟩
end
theorem copy_big {ty e:TypeId} {z:Value} {s bytes:Nat} (K:Dk.SlK Tryz.prog ty e z s bytes) (hn:∀ w,(Builtin.append_ #[ty,ty] ty #[.slice none 0 0,.slice none 0 0]).run Tryz.prog w=.ok (.slice none 0 0) w) (B:Nat) (v:Value) (n:Nat) (xs:List Value) (w:World) (h:w.ownsRow B e s v n xs) (h1:∀ u ∈ xs,u.oneCell'=true) (hl:n≤90000) :
  ∃ v' w',(Builtin.append_ #[ty,ty] ty #[.slice none 0 0,v]).run Tryz.prog w=.ok v' w'∧w'.ownsRow w.heap.size e s v' n xs∧Below w.heap.size w w':=by
 obtain ⟨hx,⟨rfl,h0⟩ | ⟨g,cap,cur,rfl,hb,hg,hn,hm,hs,ht⟩⟩:=id h
 ·subst h0
  obtain rfl:xs=[]:=List.eq_nil_of_length_eq_zero (by simpa using hx)
  exact ⟨_,w,hn w,World.ownsRow_nil _ _ _ _,Below.refl _ _⟩
 ·obtain ⟨v',w',hr,ho,hg,_,_⟩:=K.append w.heap.size ty (.slice none 0 0) [] 0 w (World.ownsRow_nil _ _ _ _) ⟨g,0,none⟩ n cap xs hx (h.cells (g:=g) rfl) h1 (by omega) (Nat.le_refl _)
  rw [Nat.zero_add,List.nil_append] at ho
  exact ⟨v',w',hr,ho,⟨hg.os,hg.tape,hg.output,hg.size,fun k hk=>hg.block k hk (by simp [Value.ownBlock])⟩⟩
theorem nilsRec (w:World):(Builtin.append_ #[49,49] 49 #[.slice none 0 0,.slice none 0 0]).run Tryz.prog w=.ok (.slice none 0 0) w:=by
 obtain ⟨i0,hi0,_,_,_⟩:=info_parts infoRec
 simp [Builtin.append_,run_underlying Tryz.underlying49,sizeOf,typeInfo,hi0,Builtin.lenOf,run_firstCells_none,go_sem]
section
variable {W w w' : World} {L : Dk.Loc} {q : Dk.Sp} {k n : Nat} {us us' us1 us2 : List Dk.Thing} {t : Dk.Thing}
theorem zi8 (h:Cor W w L q k us) (hl:q.recs.length≤90000) :
  Calls Tryz.prog 25 #[.pointer (some ⟨L.b,0,none⟩)] w fun e w'=>∃ A C,e=.returned (.slice A q.recs.length C)∧Cor W w' L q k (Dk.rowOf 74 6 (.slice A q.recs.length C) q.recs.length (q.recs.flatMap Dk.Rec.cells)::us):=by
 obtain ⟨vm,vr,hb,hm,hr⟩:=h.head
 have c334:w.cell? ⟨L.b,334,none⟩=some vr:=by rw [hb.cell,List.getElem?_toArray];exact Dk.zaq L q.thr vm vr (j:=4)
 obtain ⟨v',w',hrun,ho,hu⟩:=copy_big KRec nilsRec W.heap.size vr _ _ w hr (Dk.zku zpp _) hl
 obtain ⟨A,C,ev,_,_⟩:=Dk.zc hr
 obtain ⟨A',C',ev',_,_⟩:=Dk.zc ho
 subst ev ev'
 have h2:=h.addRow hu ho
 generalize q.recs.length=n at *
 generalize q.recs.flatMap Dk.Rec.cells=xs at *
 clear hb hm hr h ho hu hl
 go_enter Tryz.func25,Tryz.ntmps25
 go_wp2_with (at_builtin;refine Lib.wpList_append_run _ rfl _ _ _ _ rfl _ _ rfl rfl _ _ hrun ?_)
 go_ret
 exact ⟨A',C',rfl,h2⟩
end
def tcells (hnd:Nat) (t:Dk.Thr):Array Value:=#[.int .u64 (hnd:Nat),.int .i64 t.why,.int .i64 t.f.fn,.int .i64 t.f.pc,.int .u64 (t.f.r 0:Nat),.int .u64 (t.f.r 1:Nat),.int .u64 (t.f.r 2:Nat),.int .u64 (t.f.r 3:Nat),.int .u64 (t.f.r 4:Nat),.int .u64 (t.f.r 5:Nat),.int .u64 (t.f.r 6:Nat),.int .u64 (t.f.r 7:Nat),.int .u64 (t.value:Nat)]
def tzero:Array Value:=#[.int .u64 0,.int .i64 0,.int .i64 0,.int .i64 0,.int .u64 0,.int .u64 0,.int .u64 0,.int .u64 0,.int .u64 0,.int .u64 0,.int .u64 0,.int .u64 0,.int .u64 0]
theorem sizeThread:(Tryz.prog.info? 41).map (·.size)=some 13:=by kernel_rfl
theorem zgm (h:Nat) (t:Dk.Thr):(tcells h t).all (·.oneCell')=true:=by simp [tcells,Value.oneCell']
section
variable {W w w' : World} {L : Dk.Loc} {q : Dk.Sp} {k n : Nat} {us us' us1 us2 : List Dk.Thing} {t : Dk.Thing}
theorem look_any (h:Cor W w L q k us) (hn:n < 16) (hnd:Nat) :
  Calls Tryz.prog 58 #[.pointer (some ⟨L.b,10+n*20,none⟩),.int .u64 (hnd:Nat)] w fun e w'=>e=.returned (.agg (tcells hnd (q.thr n)))∧Cor W w' L q k us:=by
 obtain ⟨W1,e1⟩:∃ W1,W1=w.alloc (.cells tzero 41):=⟨_,rfl⟩
 have h1:=(h.newBox e1).below (Dk.zh (Below.refl _ _))
 have b1:Dk.Box W1.drew w.heap.size tzero 41:=h1.box (by simp)
 have c:∀ j,j < 20→W1.drew.cell? ⟨L.b,10+n*20+j,none⟩=(q.thr n).cells[j]?:=fun j hj=>h1.cellAt hn j hj
 have HS:Hid (Dk.Box W1.drew w.heap.size tzero 41∧∀ j,j < 20→W1.drew.cell? ⟨L.b,10+n*20+j,none⟩=(q.thr n).cells[j]?):=⟨b1,c⟩
 have h2:=(h1.setRow (cs':=tcells hnd (q.thr n)) rfl).drop
 have hlt:w.heap.size≠L.b:=by have:=h.lt;omega
 have d0:=(b1.row (cs':=tcells hnd (q.thr n))).cell
 have H1:Hid (w.alloc (.cells #[.int .u64 0,.int .i64 0,.int .i64 0,.int .i64 0,.int .u64 0,.int .u64 0,.int .u64 0,.int .u64 0,.int .u64 0,.int .u64 0,.int .u64 0,.int .u64 0,.int .u64 0] 41)=W1):=e1.symm
 have H2:Hid (Cor W (W1.drew.setRow w.heap.size (tcells hnd (q.thr n))) L q k us):=h2
 have D0:Hid _:=d0
 clear h h1 e1 b1 c h2 d0
 generalize et:q.thr n=th at *
 have ET:Hid _:=et
 clear et
 go_enter Tryz.func58,Tryz.ntmps58
 go_wp2_with (rw [H1.out];clear H1)
 refine Dk.zf (S:=fun w'=>∀ j,j < 20→w'.cell? ⟨L.b,10+n*20+j,none⟩=th.cells[j]?) [0,1,2,3,4,5,6,7,8,9,10,11,12,13,14,15,16,17,18,19,20,21,22,23,24] [25] (by kernel_rfl) (by kernel_rfl) HS.out.2 ?_
 refine Dk.za (v:=.int .u64 (hnd:Nat)) rfl rfl (fun w' hw'=>by go_simp) ?_
 simp only [zD]
 refine Dk.za (v:=.pointer (some ⟨L.b,10+n*20,none⟩)) rfl rfl (fun w' hw'=>by go_simp) ?_
 simp only [zD]
 refine Dk.za (v:=.pointer (some ⟨L.b,10+n*20,none⟩)) rfl rfl (fun w' hw'=>by go_simp) ?_
 simp only [zD]
 refine Dk.za (v:=.pointer (some ⟨L.b,10+n*20+10,none⟩)) rfl rfl (fun w' hw'=>by go_simp) ?_
 simp only [zD]
 refine Dk.za (v:=.int .i64 th.why) rfl rfl (fun w' hw'=>by have c:w'.cell? ⟨L.b,10+n*20+10,none⟩=some (.int .i64 th.why):=hw' 10 (by omega);clear hw';go_simp) ?_
 simp only [zD]
 refine Dk.za (v:=.pointer (some ⟨L.b,10+n*20,none⟩)) rfl rfl (fun w' hw'=>by go_simp) ?_
 simp only [zD]
 refine Dk.za (v:=.pointer (some ⟨L.b,10+n*20,none⟩)) rfl rfl (fun w' hw'=>by go_simp) ?_
 simp only [zD]
 refine Dk.za (v:=.pointer (some ⟨L.b,10+n*20,none⟩)) rfl rfl (fun w' hw'=>by go_simp) ?_
 simp only [zD]
 refine Dk.za (v:=.pointer (some ⟨L.b,10+n*20,none⟩)) rfl rfl (fun w' hw'=>by go_simp) ?_
 simp only [zD]
 refine Dk.za (v:=.int .i64 th.f.fn) rfl rfl (fun w' hw'=>by have c:w'.cell? ⟨L.b,10+n*20,none⟩=some (.int .i64 th.f.fn):=hw' 0 (by omega);clear hw';go_simp) ?_
 simp only [zD]
 refine Dk.za (v:=.pointer (some ⟨L.b,10+n*20,none⟩)) rfl rfl (fun w' hw'=>by go_simp) ?_
 simp only [zD]
 refine Dk.za (v:=.pointer (some ⟨L.b,10+n*20,none⟩)) rfl rfl (fun w' hw'=>by go_simp) ?_
 simp only [zD]
 refine Dk.za (v:=.pointer (some ⟨L.b,10+n*20,none⟩)) rfl rfl (fun w' hw'=>by go_simp) ?_
 simp only [zD]
 refine Dk.za (v:=.pointer (some ⟨L.b,10+n*20+1,none⟩)) rfl rfl (fun w' hw'=>by go_simp) ?_
 simp only [zD]
 refine Dk.za (v:=.int .i64 th.f.pc) rfl rfl (fun w' hw'=>by have c:w'.cell? ⟨L.b,10+n*20+1,none⟩=some (.int .i64 th.f.pc):=hw' 1 (by omega);clear hw';go_simp) ?_
 simp only [zD]
 refine Dk.za (v:=.pointer (some ⟨L.b,10+n*20,none⟩)) rfl rfl (fun w' hw'=>by go_simp) ?_
 simp only [zD]
 refine Dk.za (v:=.pointer (some ⟨L.b,10+n*20,none⟩)) rfl rfl (fun w' hw'=>by go_simp) ?_
 simp only [zD]
 refine Dk.za (v:=.pointer (some ⟨L.b,10+n*20,none⟩)) rfl rfl (fun w' hw'=>by go_simp) ?_
 simp only [zD]
 refine Dk.za (v:=.pointer (some ⟨L.b,10+n*20+2,none⟩)) rfl rfl (fun w' hw'=>by go_simp) ?_
 simp only [zD]
 refine Dk.za (v:=.agg #[.int .u64 (th.f.r 0:Nat),.int .u64 (th.f.r 1:Nat),.int .u64 (th.f.r 2:Nat),.int .u64 (th.f.r 3:Nat),.int .u64 (th.f.r 4:Nat),.int .u64 (th.f.r 5:Nat),.int .u64 (th.f.r 6:Nat),.int .u64 (th.f.r 7:Nat)]) rfl rfl (fun w' hw'=>by have c0:w'.cell? ⟨L.b,10+n*20+2,none⟩=some (.int .u64 (th.f.r 0:Nat)):=hw' 2 (by omega);have c1:w'.cell? ⟨L.b,10+n*20+2+1,none⟩=some (.int .u64 (th.f.r 1:Nat)):=hw' 3 (by omega);have c2:w'.cell? ⟨L.b,10+n*20+2+2,none⟩=some (.int .u64 (th.f.r 2:Nat)):=hw' 4 (by omega);have c3:w'.cell? ⟨L.b,10+n*20+2+3,none⟩=some (.int .u64 (th.f.r 3:Nat)):=hw' 5 (by omega);have c4:w'.cell? ⟨L.b,10+n*20+2+4,none⟩=some (.int .u64 (th.f.r 4:Nat)):=hw' 6 (by omega);have c5:w'.cell? ⟨L.b,10+n*20+2+5,none⟩=some (.int .u64 (th.f.r 5:Nat)):=hw' 7 (by omega);have c6:w'.cell? ⟨L.b,10+n*20+2+6,none⟩=some (.int .u64 (th.f.r 6:Nat)):=hw' 8 (by omega);have c7:w'.cell? ⟨L.b,10+n*20+2+7,none⟩=some (.int .u64 (th.f.r 7:Nat)):=hw' 9 (by omega);clear hw';go_simp) ?_
 simp only [zD]
 refine Dk.za (v:=.pointer (some ⟨L.b,10+n*20,none⟩)) rfl rfl (fun w' hw'=>by go_simp) ?_
 simp only [zD]
 refine Dk.za (v:=.pointer (some ⟨L.b,10+n*20,none⟩)) rfl rfl (fun w' hw'=>by go_simp) ?_
 simp only [zD]
 refine Dk.za (v:=.pointer (some ⟨L.b,10+n*20+16,none⟩)) rfl rfl (fun w' hw'=>by go_simp) ?_
 simp only [zD]
 refine Dk.za (v:=.int .u64 (th.value:Nat)) rfl rfl (fun w' hw'=>by have c:w'.cell? ⟨L.b,10+n*20+16,none⟩=some (.int .u64 (th.value:Nat)):=hw' 16 (by omega);clear hw';go_simp) ?_
 simp only [zD]
 refine Dk.za (v:=.agg (tcells hnd th)) rfl rfl (fun w' hw'=>by unfold tcells;go_simp) ?_
 simp only [zD]
 refine Dk.zk rfl rfl ?_
 refine wp_store_row 41 _ _ rfl w.heap.size (tcells hnd th) rfl rfl 41 _ HS.out.1.heap sizeThread rfl (zgm _ _) ⟨?_,?_⟩
 ·intro j hj
  have:=H2.out.cellAt hn j hj
  rw [ET.out] at this
  exact this
 show NoPanic _ Exit.normal _ _
 refine NoPanic.normal ?_
 simp only [zD]
 rename_i hK
 refine hK _ _ ?_
 clear hK
 go_wp2_with fail
 have d0:=D0.out
 have h2:=H2.out
 clear D0 H2
 generalize W1.drew.setRow w.heap.size (tcells hnd th)=WX at *
 unfold tcells at d0
 exact bodyPost_ret (v:=.agg (tcells hnd th)) (by simp [results,Tryz.results58,go_sem,d0,tcells]) rfl ⟨rfl,h2⟩
end
section
variable {W w w' : World} {L : Dk.Loc} {q : Dk.Sp} {k n : Nat} {us us' us1 us2 : List Dk.Thing} {t : Dk.Thing}
theorem Look_yes (h:Cor W w L q k us) (hk:k≤100000) (hn:n < 16) (hu:Dk.us q.st n=true):Calls Tryz.prog 17 #[.pointer (some ⟨L.b,0,none⟩),.int .i64 (n:Int)] w fun e w'=>e=.returned (.tuple #[.agg (tcells (q.hnd n) (q.thr n)),.bool true])∧Cor W w' L q k us:=by
 obtain ⟨W1,e1⟩:∃ W1,W1=w.alloc (.cells #[.int .u64 0,.int .i64 0,.int .i64 0,.int .i64 0,.int .u64 0,.int .u64 0,.int .u64 0,.int .u64 0,.int .u64 0,.int .u64 0,.int .u64 0,.int .u64 0,.int .u64 0] 41):=⟨_,rfl⟩
 have h1:=h.newBox e1
 have K1:=zbl h1 hk n hn hu
 have K2:=zb6 h1 hk n
 have K3:=look_any h1 hn (q.hnd n)
 have H1:Hid _:=e1.symm
 clear e1 h h1 hu
 generalize q.hnd n=hd at *
 generalize q.thr n=th at *
 go_enter Tryz.func17,Tryz.ntmps17
 go_wp2_with (first | (rw [H1.out];clear H1) | (go_at_call 57;refine K1.mono ?_;rintro e w' ⟨rfl,ew⟩;subst w') | (go_at_call 59;refine K2.mono ?_;rintro e w' ⟨rfl,ew⟩;subst w'))
 refine K3.mono ?_
 rintro e w2 ⟨rfl,h2⟩
 have b2:Dk.Box w2 w.heap.size tzero 41:=h2.box (by simp [tzero])
 have h3:=(h2.setRow (cs':=tcells hd th) rfl).drop
 have d0:=(b2.row (cs':=tcells hd th)).cell
 have HB:Hid _:=b2
 clear K1 K2 K3 b2 h2
 go_wp2_with (refine wpList_store_row rfl 41 _ _ rfl w.heap.size (tcells hd th) rfl rfl 41 _ HB.out.heap sizeThread rfl (zgm _ _) ?_)
 generalize w2.setRow w.heap.size (tcells hd th)=WX at *
 unfold tcells at d0
 exact bodyPost_ret (v:=.tuple #[.agg (tcells hd th),.bool true]) (by simp [results,Tryz.results17,go_sem,d0,tcells]) rfl ⟨rfl,h3⟩
end
end Go.Proofs.YtglhhlfopccmaaaGreat
namespace Dk
def Sp.ready (q:Sp):List Int:=(usl q.st 16).filter fun x=>(q.thr x.toNat).why == 0
end Dk
namespace Go.Proofs.YtglhhlfopccmaaaGreat
open Go.RowKit Go.Lib
section
variable {W w w' : World} {L : Dk.Loc} {q : Dk.Sp} {k n : Nat} {us us' us1 us2 : List Dk.Thing} {t : Dk.Thing}
theorem zng (h:Cor W w L q k us) (h16:q.st.length=16) :
  Calls Tryz.prog 22 #[.pointer (some ⟨L.b,0,none⟩)] w fun e w'=>∃ A C,e=.returned (.slice A q.ready.length C)∧Cor W w' L q k (Dk.rowOf 3 1 (.slice A q.ready.length C) q.ready.length (Dk.is q.ready)::us):=by
 obtain ⟨ks,hks,hT,_⟩:=h.slots
 have c9:=h.slotPtr
 have K:=Used_any L.bt L.bs ks q.st w hT
 rw [h16] at K
 have HH:Hid (Cor W w L q k us):=h
 have hml:(Dk.usl q.st 16).length≤16:=Dk.zht q.st 16
 have hmem:∀ x ∈ Dk.usl q.st 16,∃ j:Nat,x=j∧j < 16:=fun x hx=>by obtain ⟨j,e,hj,_⟩:=Dk.zhu hx;exact ⟨j,e,hj⟩
 unfold Dk.Sp.ready
 generalize Dk.usl q.st 16=xs at *
 have HM:Hid (∀ x ∈ xs,∃ j:Nat,x=j∧j < 16):=hmem
 obtain ⟨m,em⟩:∃ m,m=xs.length:=⟨_,rfl⟩
 rw [← em] at K hml
 have EM:Hid _:=em
 clear em hmem h hT h16
 go_enter Tryz.func22,Tryz.ntmps22
 go_wp2_with fail
 refine K.mono ?_
 rintro e w1 ⟨A,C,rfl,hS,u1⟩
 have h1:=HH.out.below u1
 have HS:Hid (Dk.SlI w1.heap.size w1 A m C xs):=hS
 have HC:Hid (Cor W w1 L q k us):=h1
 have s0:Dk.Sep w1 w1 [Dk.rowOf 3 1 (.slice none 0 0) 0 (Dk.is [])]:=(Dk.Sep.begin (Below.refl _ _)).addRow (Below.refl _ _) (World.ownsRow_nil _ _ _ _)
 clear K c9 hS h1 HH u1
 go_wp2_with fail
 go_loopw [3,14] (fun v i w'=>∃ (j o:Nat) (A':Option Addr) (C':Nat),j≤m∧o≤j∧i=.int .i64 j∧v=.slice A' o C'∧Dk.Sep w1 w' [Dk.rowOf 3 1 (.slice A' o C') o (Dk.is ((xs.take j).filter fun x=>(q.thr x.toNat).why == 0))]) (fun v i w'=>m - (intOf i).toNat)
 case atStart=>exact ⟨0,0,none,0,Nat.zero_le _,Nat.le_refl _,rfl,rfl,by simpa using s0⟩
 case round=>
  obtain ⟨j,o,A',C',hj,ho,rfl,rfl,hs⟩:=hrel
  clear s0
  by_cases hlt:j < m
  ·have hlt':j < xs.length:=by have:=EM.out;omega
   obtain ⟨x,ex⟩:∃ x,xs[j]? = some x:=⟨_,List.getElem?_eq_getElem hlt'⟩
   obtain ⟨y,rfl,hy⟩:=HM.out x (List.mem_of_getElem? ex)
   obtain ⟨b,o2,rfl,hb,hc⟩:=HS.out.cells (by omega)
   have hc':=hc j hlt
   rw [List.getD_eq_getElem?_getD,ex] at hc'
   have c1:wr.cell? ⟨b,o2+j,none⟩=some (.int .i64 (y:Int)):=by rw [hs.out.cell (by show b < w1.heap.size;exact hb)];exact hc'
   have hCr:=HC.out.below hs.out
   have c2:wr.cell? ⟨L.b,10+y*20+10,none⟩=some (.int .i64 (q.thr y).why):=hCr.cellAt hy 10 (by omega)
   have i1:(y:Int) < 16:=by omega
   have i2:(0:Int)≤(y:Int):=by omega
   have et:xs.take (j+1)=xs.take j++[(y:Int)]:=by rw [List.take_add_one,ex];rfl
   have ET:Hid _:=et
   have EX:Hid _:=ex
   clear et ex hc hc' hCr
   by_cases hw:(q.thr y).why=0
   ·rw [hw] at c2
    have hF:(xs.take (j+1)).filter (fun x=>(q.thr x.toNat).why == 0)=(xs.take j).filter (fun x=>(q.thr x.toNat).why == 0)++[(y:Int)]:=by
     rw [ET.out,List.filter_append]
     simp [hw]
    obtain ⟨v',w4,hrun,h4,_⟩:=Dk.Sep.appendK (us1:=[]) (us2:=[]) K26T hs [.int .i64 (y:Int)] rfl (by simp [Value.oneCell']) (by omega)
    have e4:Dk.is ((xs.take j).filter fun x=>(q.thr x.toNat).why == 0)++[.int .i64 (y:Int)]=Dk.is ((xs.take (j+1)).filter fun x=>(q.thr x.toNat).why == 0):=by rw [hF];simp
    rw [e4] at h4
    obtain ⟨Av',Cv',ev',_,_⟩:=Dk.zc (h4.row (e:=3) (s:=1) (v:=v') (n:=o+1) (xs:=Dk.is ((xs.take (j+1)).filter fun x=>(q.thr x.toNat).why == 0)) (by simp))
    subst ev'
    have HF:Hid _:=hF
    clear hs hF e4 hw
    go_wp2_with (at_builtin;refine Lib.wpList_append_run _ rfl _ _ _ _ rfl _ _ rfl rfl _ _ hrun ?_)
    go_roundw
    case rel=>exact ⟨j+1,o+1,Av',Cv',by omega,by omega,by go_num,rfl,h4⟩
    case measure=>simp [intOf];omega
   ·have hF:(xs.take (j+1)).filter (fun x=>(q.thr x.toNat).why == 0)=(xs.take j).filter (fun x=>(q.thr x.toNat).why == 0):=by
     rw [ET.out,List.filter_append]
     simp [hw]
    rw [← hF] at hs
    have HW:Hid (¬ (q.thr y).why=0):=hw
    generalize (q.thr y).why=wy at *
    clear hF HW
    go_wp2_with fail
    go_roundw
    case rel=>exact ⟨j+1,o,A',C',by omega,by omega,by go_num,rfl,hs⟩
    case measure=>simp [intOf];omega
  ·obtain rfl:j=m:=by omega
   have z1:decide ((j:Int) < (j:Int))=false:=decide_eq_false (by omega)
   have e:xs.take j=xs:=List.take_of_length_le (by have:=EM.out;omega)
   rw [e] at hs
   have hr:=hs.row (e:=3) (s:=1) (v:=.slice A' o C') (n:=o) (xs:=Dk.is (xs.filter fun x=>(q.thr x.toNat).why == 0)) (by simp)
   have ho2:o=(xs.filter fun x=>(q.thr x.toNat).why == 0).length:=by
    have:=hr.1
    simpa using this.symm
   have hC:=HC.out.addRow hs.out hr
   generalize eY:(xs.filter fun x=>(q.thr x.toNat).why == 0)=ys at *
   have EY:Hid _:=eY
   subst ho2
   clear hs hr e eY
   go_wp2_with fail
   go_ret
   exact ⟨A',C',by rw [EY.out];rfl,by rw [EY.out];exact hC⟩
end
end Go.Proofs.YtglhhlfopccmaaaGreat
