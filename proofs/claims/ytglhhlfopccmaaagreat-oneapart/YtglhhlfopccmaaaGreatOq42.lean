import Derived.Test.YtglhhlfopccmaaaGreatOq41
set_option linter.unusedSimpArgs false
set_option linter.unusedVariables false
set_option linter.unnecessarySimpa false
set_option maxHeartbeats 8000000
set_option maxRecDepth 100000
namespace Dk
open Go Go.RowKit
def Sp.fresh (p:Prg):Sp:=(({ Sp.blank p with tubes:=p.pipes.map fun r=>⟨r,[],[],[]⟩ }:Sp).begin 0 0).1
structure Fits (p:Prg):Prop where
 fl:p.funcs.length≤8
 f1:1≤p.funcs.length
 cl:∀ c ∈ p.funcs,c.length≤256
 wd:0≤p.words∧p.words≤64
 mx:0≤p.mutexes∧p.mutexes≤4
 cv:0≤p.conds∧p.conds≤4
 sm:p.sems.length≤4
 sv:∀ x ∈ p.sems,0≤x∧x≤1048576
 pp:p.pipes.length≤4
 pv:∀ x ∈ p.pipes,1≤x∧x≤8
 bk:0≤p.blocks∧p.blocks≤64
 snd:∀ c ∈ p.funcs,∀ i ∈ c,za9 p i=true
theorem zhn {p:Prg} (h:check p=0):Fits p:=by
 obtain ⟨h1,h2,h3⟩:=Go.Proofs.YtglhhlfopccmaaaGreat.fit_of h
 unfold zay zh at h1
 unfold zo zh zad at h2
 unfold zb4 at h3
 simp only [Bool.and_eq_true,decide_eq_true_eq,List.all_eq_true] at h1 h2 h3
 obtain ⟨⟨f1,fl⟩,cl⟩:=h1
 obtain ⟨⟨⟨⟨⟨⟨⟨⟨wd,mx⟩,cv⟩,sm⟩,sv⟩,pp⟩,pv⟩,bk⟩,pr⟩:=h2
 refine ⟨by omega,by omega,cl,wd,mx,cv,sm,fun x hx=>?_,pp,fun x hx=>?_,bk,h3⟩
 ·have:=sv x hx;unfold zh at this;simpa using this
 ·have:=pv x hx;unfold zh at this;simpa using this
theorem ztd {x:Int} (hx:i64 x) {n:Int} (hn:n≤1000) (h:u64 x < n):0≤x∧x < n:=by
 unfold u64 at h
 unfold i64 at hx
 omega
theorem may1 {p:Prg} {x:Int} (hx:i64 x) (h:mayB p 1 (u64 x)=true):0≤x∧x < 8:=by
 unfold mayB choices at h
 simp at h
 exact ztd hx (by omega) (by omega)
theorem may0 {p:Prg} {x:Int} (hx:i64 x) (h:mayB p 0 (u64 x)=true):0≤x∧x < 1:=by
 unfold mayB choices at h
 simp at h
 exact ztd hx (by omega) (by omega)
theorem mayN {p:Prg} {x:Int} {n:Nat} (x5:x=4∨x=5∨x=6∨x=7∨x=8) (h:mayB p x (n:Int)=true):(n:Int) < max 0 (choices p x):=by
 unfold mayB at h
 rw [Bool.or_eq_true,decide_eq_true_eq,beq_iff_eq] at h
 rcases h with h | h
 ·omega
 ·exact h
theorem mayC {p:Prg} {x:Int} (hx:i64 x) (hm:p.mutexes≤4) (h:mayB p 5 (u64 x)=true):0≤x∧x < max 0 p.mutexes:=by
 unfold mayB choices at h
 simp at h
 have:u64 x < max 0 p.mutexes:=by omega
 exact ztd hx (by omega) this
theorem zsz (p:Prg) (F:Fits p):(start p.mutexes p.conds p.sems).owner.length=p.mutexes.toNat∧(start p.mutexes p.conds p.sems).conds.length=p.conds.toNat∧(start p.mutexes p.conds p.sems).count.length=p.sems.length:=by
 have h1:=F.mx
 have h2:=F.cv
 have h3:=F.sm
 unfold start lim
 simp only [List.length_replicate,List.length_map,List.length_take]
 refine ⟨?_,?_,by omega⟩ <;> (split <;> (try split) <;> omega)
theorem formK (op:Int):((form op).1.1=0∨(form op).1.1=1)∧((form op).1.2.1=0∨(form op).1.2.1=1)∧(op≠27→(form op).1.2.2.1=0∨(form op).1.2.2.1=1)∧((form op).2=true→1≤op∧op≤38):=by
 unfold form
 by_cases h0:op=1
 ·rw [if_pos h0]
  exact ⟨by decide,by decide,fun _=>by decide,fun _=>by omega⟩
 rw [if_neg h0]
 by_cases h1:op=2∨op=14∨op=15∨op=18∨op=19∨op=21∨op=33∨op=34
 ·rw [if_pos h1]
  exact ⟨by decide,by decide,fun _=>by decide,fun _=>by omega⟩
 rw [if_neg h1]
 by_cases h2:3≤op∧op≤13
 ·rw [if_pos h2]
  exact ⟨by decide,by decide,fun _=>by decide,fun _=>by omega⟩
 rw [if_neg h2]
 by_cases h3:op=16
 ·rw [if_pos h3]
  exact ⟨by decide,by decide,fun _=>by decide,fun _=>by omega⟩
 rw [if_neg h3]
 by_cases h4:op=17
 ·rw [if_pos h4]
  exact ⟨by decide,by decide,fun _=>by decide,fun _=>by omega⟩
 rw [if_neg h4]
 by_cases h5:op=20
 ·rw [if_pos h5]
  exact ⟨by decide,by decide,fun _=>by decide,fun _=>by omega⟩
 rw [if_neg h5]
 by_cases h6:op=22∨op=23∨op=32∨op=37∨op=38
 ·rw [if_pos h6]
  exact ⟨by decide,by decide,fun _=>by decide,fun _=>by omega⟩
 rw [if_neg h6]
 by_cases h7:op=24
 ·rw [if_pos h7]
  exact ⟨by decide,by decide,fun _=>by decide,fun _=>by omega⟩
 rw [if_neg h7]
 by_cases h8:op=25∨op=26
 ·rw [if_pos h8]
  exact ⟨by decide,by decide,fun _=>by decide,fun _=>by omega⟩
 rw [if_neg h8]
 by_cases h9:op=27
 ·rw [if_pos h9]
  exact ⟨by decide,by decide,fun h=>absurd h9 h,fun _=>by omega⟩
 rw [if_neg h9]
 by_cases h10:op=28∨op=29
 ·rw [if_pos h10]
  exact ⟨by decide,by decide,fun _=>by decide,fun _=>by omega⟩
 rw [if_neg h10]
 by_cases h11:op=30∨op=31
 ·rw [if_pos h11]
  exact ⟨by decide,by decide,fun _=>by decide,fun _=>by omega⟩
 rw [if_neg h11]
 by_cases h12:op=35∨op=36
 ·rw [if_pos h12]
  exact ⟨by decide,by decide,fun _=>by decide,fun _=>by omega⟩
 rw [if_neg h12]
 exact ⟨by decide,by decide,fun _=>by decide,fun h=>absurd h (by decide)⟩
theorem form1 (op:Int):(form op).1.1=0∨(form op).1.1=1:=(formK op).1
theorem form2 (op:Int):(form op).1.2.1=0∨(form op).1.2.1=1:=(formK op).2.1
theorem form3 (op:Int) (h:op≠27):(form op).1.2.2.1=0∨(form op).1.2.2.1=1:=(formK op).2.2.1 h
theorem form_op {op:Int} (h:(form op).2=true):1≤op∧op≤38:=(formK op).2.2.2 h
theorem may01 {p:Prg} {x k:Int} (hx:i64 x) (hk:k=0∨k=1) (h:mayB p k (u64 x)=true):0≤x∧x < 8:=by
 rcases hk with rfl | rfl
 ·have:=may0 hx h;omega
 ·exact may1 hx h
theorem insFit {p:Prg} (F:Fits p) {q:Sp} (hg:q.zi.owner.length=p.mutexes.toNat∧q.zi.conds.length=p.conds.toNat∧q.zi.count.length=p.sems.length) (ht:q.tubes.length=p.pipes.length) {i:Ins} (ok:i.ok) (hs:za9 p i=true):q.zee i:=by
 obtain ⟨g1,g2,g3⟩:=hg
 have hmx:=F.mx
 have hcv:=F.cv
 have hsm:=F.sm
 have hpp:=F.pp
 obtain ⟨op,a,b,c,n⟩:=i
 obtain ⟨o0,oa,ob,oc,on⟩:=id ok
 dsimp only at o0 oa ob oc on
 unfold za9 at hs
 simp only [Bool.and_eq_true] at hs
 obtain ⟨⟨⟨⟨hop,ha⟩,hb⟩,hc⟩,hn⟩:=hs
 have key:=form_op hop
 have fa:=may01 oa (form1 op) ha
 have fb:=may01 ob (form2 op) hb
 have fc:op≠27→0≤c∧c < 8:=fun h=>may01 oc (form3 op h) hc
 have hN:25≤op∧op≤31∨op=35∨op=36→(n:Int) < max 0 (choices p (form op).1.2.2.2):=fun h=>by
  refine mayN ?_ hn
  have h':op=25∨op=26∨op=27∨op=28∨op=29∨op=30∨op=31∨op=35∨op=36:=by omega
  rcases h' with rfl | rfl | rfl | rfl | rfl | rfl | rfl | rfl | rfl <;> decide
 have c5:choices p 5=p.mutexes:=rfl
 have c6:choices p 6=p.conds:=rfl
 have c7:choices p 7=p.sems.length:=rfl
 have c8:choices p 8=p.pipes.length:=rfl
 refine ⟨ok,fa,fb,key,fun h19=>?_,fun h=>⟨?_,fun h=>?_,fun h=>?_,fun h=>?_,fun h=>?_⟩,fun h=>?_⟩
 ·dsimp only at h19
  obtain ⟨c0,c8⟩:=fc (by omega)
  unfold zc1 regs
  simp only [Bool.and_eq_true,List.all_eq_true]
  refine ⟨by unfold zh;simp;omega,fun r hr=>?_⟩
  have hr':=List.mem_of_mem_take hr
  simp only [List.mem_cons,List.not_mem_nil,or_false] at hr'
  rw [zd8]
  rcases hr' with rfl | rfl | rfl
  ·exact fa
  ·exact fb
  ·exact ⟨c0,c8⟩
 ·dsimp only at h ⊢
  have h1:=hN (.inl h)
  have h':op=25∨op=26∨op=27∨op=28∨op=29∨op=30∨op=31:=by omega
  rcases h' with rfl | rfl | rfl | rfl | rfl | rfl | rfl
  ·rw [show (form 25).1.2.2.2=5 from by decide,c5] at h1;omega
  ·rw [show (form 26).1.2.2.2=5 from by decide,c5] at h1;omega
  ·rw [show (form 27).1.2.2.2=6 from by decide,c6] at h1;omega
  ·rw [show (form 28).1.2.2.2=6 from by decide,c6] at h1;omega
  ·rw [show (form 29).1.2.2.2=6 from by decide,c6] at h1;omega
  ·rw [show (form 30).1.2.2.2=7 from by decide,c7] at h1;omega
  ·rw [show (form 31).1.2.2.2=7 from by decide,c7] at h1;omega
 ·dsimp only at h ⊢
  have h1:=hN (by omega)
  rcases h with rfl | rfl
  ·rw [show (form 25).1.2.2.2=5 from by decide,c5] at h1;omega
  ·rw [show (form 26).1.2.2.2=5 from by decide,c5] at h1;omega
 ·dsimp only at h ⊢
  have h1:=hN (by omega)
  rcases h with rfl | rfl | rfl
  ·rw [show (form 27).1.2.2.2=6 from by decide,c6] at h1;omega
  ·rw [show (form 28).1.2.2.2=6 from by decide,c6] at h1;omega
  ·rw [show (form 29).1.2.2.2=6 from by decide,c6] at h1;omega
 ·dsimp only at h ⊢
  subst h
  rw [show (form 27).1.2.2.1=5 from by decide] at hc
  have:=mayC oc hmx.2 hc
  omega
 ·dsimp only at h ⊢
  have h1:=hN (by omega)
  rcases h with rfl | rfl
  ·rw [show (form 30).1.2.2.2=7 from by decide,c7] at h1;omega
  ·rw [show (form 31).1.2.2.2=7 from by decide,c7] at h1;omega
 ·dsimp only at h ⊢
  have h1:=hN (.inr h)
  rcases h with rfl | rfl
  ·rw [show (form 35).1.2.2.2=8 from by decide,c8] at h1;omega
  ·rw [show (form 36).1.2.2.2=8 from by decide,c8] at h1;omega
open Go
def zkd (h:Nat) (l:List Rec):Option Rec:=(l.filter fun r=>r.thread == h).getLast?
theorem ze3 (h:Nat) (l:List Rec) (r:Rec):zkd h (l++[r])=if r.thread=h then some r else zkd h l:=by
 unfold zkd
 rw [List.filter_append]
 by_cases e:r.thread=h
 ·rw [if_pos e,List.filter_cons_of_pos (by simpa using e),List.filter_nil,List.getLast?_concat]
 ·rw [if_neg e,List.filter_cons_of_neg (by simpa using e),List.filter_nil,List.append_nil]
def znw (l:List Rec):Prop:=∀ pre s post,l=pre++s::post→∀ r,zkd s.thread pre=some r→r.fin=false→s.fin=true∧s.op=r.op∧s.x=0∧s.result=0
theorem znw.nil:znw []:=fun pre s post e=>by simp at e
theorem znw.snoc {l:List Rec} (h:znw l) {s:Rec} (hs:∀ r,zkd s.thread l=some r→r.fin=false→s.fin=true∧s.op=r.op∧s.x=0∧s.result=0):znw (l++[s]):=fun pre t post e=>by
 rcases List.eq_nil_or_concat post with rfl | ⟨post,u,rfl⟩
 ·obtain ⟨rfl,e2⟩:=List.append_inj' e rfl
  obtain rfl:s=t:=by simpa using e2
  exact hs
 ·have e':l++[s]=(pre++t::post)++[u]:=by simpa using e
  obtain ⟨e1,-⟩:=List.append_inj' e' rfl
  exact h pre t post e1
theorem zj9 {st:StS} {n m:Nat} (hn:n < 16) (hm:m < 16) (e:hd st n=hd st m):n=m:=by
 have h1:=hd_mod (st:=st) (k:=n) (by omega)
 have h2:=hd_mod (st:=st) (k:=m) (by omega)
 rw [e] at h1
 omega
structure Seen (but:Nat→Prop) (q:Sp):Prop where
 good:znw q.recs
 last:∀ h r,zkd h q.recs=some r→r.fin=false→∃ n,n < 16∧¬ but n∧us q.st n=true∧q.hnd n=h∧(q.thr n).why≠0∧(q.thr n).why≠9∧(q.thr n).ins.op=r.op
theorem Seen.mono {b b':Nat→Prop} {q:Sp} (h:Seen b q) (hb:∀ n,b' n→b n):Seen b' q:=⟨h.good,fun x r e f=>by
 obtain ⟨n,h1,h2,h3⟩:=h.last x r e f
 exact ⟨n,h1,fun e=>h2 (hb n e),h3⟩⟩
theorem Seen.acts {q:Sp} (h:Seen (fun _=>False) q) (n:Nat) (hw:(q.thr n).why=0∨(q.thr n).why=9):Seen (·=n) q:=⟨h.good,fun x r e f=>by
 obtain ⟨m,h1,h2,h3,h4,h5,h6,h7⟩:=h.last x r e f
 refine ⟨m,h1,fun e=>?_,h3,h4,h5,h6,h7⟩
 subst e
 rcases hw with hw | hw
 ·exact h5 hw
 ·exact h6 hw⟩
theorem Seen.end_ {b:Nat→Prop} {q:Sp} (h:Seen b q):Seen (fun _=>False) q:=h.mono fun _=>False.elim
section
variable {b : Nat → Prop} {q : Sp}
theorem Seen.turn {q':Sp} (h:Seen b q) (hr:q'.recs=q.recs) (hk:∀ n,n < 16→¬ b n→us q.st n=true→(q.thr n).why≠0→(q.thr n).why≠9→us q'.st n=true∧hd q'.st n=hd q.st n∧(q'.thr n).why≠0∧(q'.thr n).why≠9∧(q'.thr n).ins.op=(q.thr n).ins.op):Seen b q':=⟨by rw [hr];exact h.good,fun x r e f=>by
 rw [hr] at e
 obtain ⟨m,h1,h2,h3,h4,h5,h6,h7⟩:=h.last x r e f
 obtain ⟨k1,k2,k3,k4,k5⟩:=hk m h1 h2 h3 h5 h6
 refine ⟨m,h1,h2,k1,?_,k3,k4,k5.trans h7⟩
 unfold Sp.hnd at h4 ⊢
 rw [if_pos h3] at h4
 rw [if_pos k1,k2,h4]⟩
theorem Seen.setT (h:Seen b q) (n:Nat) (t:Thr) (ht:¬ b n→(q.thr n).why≠0→(q.thr n).why≠9→t.why≠0∧t.why≠9∧t.ins.op=(q.thr n).ins.op):Seen b (q.setT n t):=h.turn rfl fun m hm hb hu h0 h9=>by
 refine ⟨hu,rfl,?_⟩
 unfold Sp.setT
 dsimp only
 by_cases e:m=n
 ·subst e
  rw [upd_same]
  exact ht hb h0 h9
 ·rw [upd_ne _ _ e]
  exact ⟨h0,h9,rfl⟩
theorem Seen.free (h:Seen b q) (h16:q.st.length=16) (n:Nat) (hn:n < 16) (hb:b n∨(q.thr n).why=0∨(q.thr n).why=9):Seen b (q.free n):=h.turn rfl fun m hm hbm hu h0 h9=>by
 have hne:m≠n:=fun e=>by
  subst e
  rcases hb with hb | hb | hb
  ·exact hbm hb
  ·exact h0 hb
  ·exact h9 hb
 refine ⟨?_,?_,h0,h9,rfl⟩
 ·show us (freed q.st (q.hnd n)) m=true
  unfold freed
  split
  ·exact hu
  ·rename_i k e
   obtain ⟨e1,e2,e3,e4⟩:=zb7 e
   rw [znl _ _ _ _ _ e3]
   have hk:k=n:=by
    unfold Sp.hnd at e2
    by_cases hun:us q.st n=true
    ·rw [if_pos hun] at e2
     exact zj9 (by omega) hn e2
    ·rw [if_neg hun] at e2
     unfold hd at e2
     omega
   rw [if_neg (by omega)]
   exact hu
 ·show hd (freed q.st (q.hnd n)) m=hd q.st m
  unfold hd
  rw [freed_tk]
theorem Seen.begin (h:Seen b q) (fn:Int) (w:Nat):Seen b (q.begin fn w).1:=by
 unfold Sp.begin
 split
 ·rename_i hl
  refine h.turn rfl fun m hm hbm hu h0 h9=>?_
  have hne:m≠least q.st:=fun e=>by
   have:=zdw hl
   rw [← e,hu] at this
   cases this
  refine ⟨?_,?_,?_⟩
  ·show us (taken q.st) m=true
   unfold taken
   rw [znl _ _ _ _ _ hl,if_neg hne]
   exact hu
  ·show hd (taken q.st) m=hd q.st m
   unfold taken hd
   rw [zs5 _ _ _ _ _ hl,if_neg hne]
  ·unfold Sp.setT
   dsimp only
   rw [upd_ne _ _ hne]
   exact ⟨h0,h9,rfl⟩
 ·exact h
theorem Seen.moved (h:Seen b q):∀ (l:List Int),Seen b (q.moved l):=fun l=>by
 induction l generalizing q with
 | nil=>exact h
 | cons x l ih=>exact ih (h.setT x.toNat { q.thr x.toNat with why:=1 } fun _ _ _=>⟨by show (1:Int)≠0;decide,by show (1:Int)≠9;decide,rfl⟩)
theorem Seen.tell {n:Nat} (h:Seen (·=n) q) (hn:n < 16) (hu:us q.st n=true) (r:Rec) (hr:r.fin=true):Seen (·=n) (q.tell n r):=by
 have hno:∀ s,zkd (q.hnd n) q.recs=some s→s.fin=false→False:=fun s e f=>by
  obtain ⟨m,h1,h2,h3,h4,h5⟩:=h.last _ s e f
  unfold Sp.hnd at h4
  rw [if_pos h3,if_pos hu] at h4
  exact h2 (zj9 h1 hn h4)
 refine ⟨h.good.snoc fun s e f=>(hno s e f).elim,fun x s e f=>?_⟩
 rw [show (q.tell n r).recs=q.recs++[{ r with thread:=q.hnd n }] from rfl,ze3] at e
 split at e
 ·obtain rfl:=Option.some.inj e
  rw [show ({ r with thread:=q.hnd n }:Rec).fin=r.fin from rfl,hr] at f
  cases f
 ·exact h.last x s e f
theorem Seen.stop {n:Nat} (h:Seen (·=n) q) (hn:n < 16) (hu:us q.st n=true) (t:Thr) (h0:t.why≠0) (h9:t.why≠9) (r:Rec) (hr:t.ins.op=r.op):Seen (fun _=>False) ((q.setT n t).tell n r):=by
 have hno:∀ s,zkd (q.hnd n) q.recs=some s→s.fin=false→False:=fun s e f=>by
  obtain ⟨m,h1,h2,h3,h4,h5⟩:=h.last _ s e f
  unfold Sp.hnd at h4
  rw [if_pos h3,if_pos hu] at h4
  exact h2 (zj9 h1 hn h4)
 refine ⟨h.good.snoc fun s e f=>(hno s e f).elim,fun x s e f=>?_⟩
 rw [show ((q.setT n t).tell n r).recs=q.recs++[{ r with thread:=q.hnd n }] from rfl,ze3] at e
 split at e
 ·rename_i ex
  obtain rfl:=Option.some.inj e
  refine ⟨n,hn,id,hu,ex,?_⟩
  show (upd q.thr n t n).why≠0∧(upd q.thr n t n).why≠9∧(upd q.thr n t n).ins.op=r.op
  rw [upd_same]
  exact ⟨h0,h9,hr⟩
 ·obtain ⟨m,h1,h2,h3,h4,h5⟩:=h.last x s e f
  refine ⟨m,h1,id,h3,h4,?_⟩
  show (upd q.thr n t m).why≠0∧(upd q.thr n t m).why≠9∧(upd q.thr n t m).ins.op=s.op
  rw [upd_ne _ _ h2]
  exact h5
theorem Seen.zhg (h:Seen (fun _=>False) q) (p:Int × Nat) (hp:InR p.1):Seen (fun _=>False) (q.zhg p):=by
 obtain ⟨x,v⟩:=p
 have hx:x.toNat < 16:=by unfold InR at hp;dsimp only at hp;omega
 dsimp only at hp
 have key:∀ m,m < 16→us q.st m=true→q.hnd m=q.hnd x.toNat→m=x.toNat:=fun m hm hu e=>by
  unfold Sp.hnd at e
  rw [if_pos hu] at e
  split at e
  ·exact zj9 hm hx e
  ·unfold hd at e;omega
 refine ⟨h.good.snoc fun s e f=>?_,fun y s e f=>?_⟩
 ·obtain ⟨m,h1,h2,h3,h4,h5,h6,h7⟩:=h.last _ s e f
  obtain rfl:=key m h1 h3 h4
  exact ⟨rfl,h7,rfl,rfl⟩
 ·rw [show (q.zhg (x,v)).recs=q.recs++[⟨q.hnd x.toNat,(q.thr x.toNat).ins.op,0,v,0,true⟩] from rfl,ze3] at e
  split at e
  ·obtain rfl:=Option.some.inj e
   cases f
  ·rename_i ne
   obtain ⟨m,h1,h2,h3,h4,h5⟩:=h.last y s e f
   refine ⟨m,h1,id,h3,h4,?_⟩
   have hne:m≠x.toNat:=fun e=>ne (by rw [← h4,e])
   show (upd q.thr x.toNat _ m).why≠0∧(upd q.thr x.toNat _ m).why≠9∧(upd q.thr x.toNat _ m).ins.op=s.op
   rw [upd_ne _ _ hne]
   exact h5
end
theorem Seen.wake:∀ (l:List (Int × Nat)) {q:Sp} (h:Seen (fun _=>False) q) (hl:∀ p ∈ l,InR p.1),Seen (fun _=>False) (q.wake l)
 | [],q,h,_=>h
 | p::l,q,h,hl=>Seen.wake l (h.zhg p (hl p (List.mem_cons_self ..))) (fun x hx=>hl x (List.mem_cons_of_mem _ hx))
section
variable {q : Sp} {n : Nat}
theorem zin {q:Sp} {own h:Nat} (e:(q.find own h).2=0):∃ k:Nat,(q.find own h).1=k∧us q.st k=true∧k≠own∧(q.thr k).det=false∧(q.thr k).joined=false∧hd q.st k=h:=by
 unfold Sp.find at e ⊢
 split at e
 ·cases e
 ·rename_i k hk
  obtain ⟨h1,h2,h3,h4⟩:=zb7 hk
  split at e
  ·cases e
  ·rename_i hne
   split at e
   ·cases e
   ·rename_i hj
    rw [if_neg hne,if_neg hj]
    refine ⟨k,rfl,h1,fun e=>hne (.inl e),?_,?_,h2⟩
    ·cases hd:(q.thr k).det
     ·rfl
     ·exact absurd (.inr hd) hne
    ·simpa using hj
theorem Seen.fin (h:Seen (·=n) q) (hn:n < 16) (h16:q.st.length=16) (hj:InR (q.thr n).joiner) (v:Nat):Seen (fun _=>False) (q.fin n v).1:=by
 unfold Sp.fin
 split
 ·exact (h.free h16 n hn (.inl rfl)).end_
 split
 ·exact Seen.wake _ (h.free h16 n hn (.inl rfl)).end_ (fun p hp=>by rw [List.mem_singleton] at hp;rw [hp];exact hj)
 ·exact (h.setT n _ fun hb=>absurd rfl hb).end_
theorem Seen.exit (h:Seen (·=n) q) (hn:n < 16) (hu:us q.st n=true) (h16:q.st.length=16) (hj:InR (q.thr n).joiner) (v:Nat):Seen (fun _=>False) (q.exit n v).1:=
 Seen.fin (h.tell hn hu _ rfl) hn h16 hj v
theorem Seen.plain (h:Seen (·=n) q) (hn:n < 16) (hu:us q.st n=true) (h16:q.st.length=16) (hj:InR (q.thr n).joiner) (i:Ins):Seen (fun _=>False) (q.plain n i).1:=by
 have hs:∀ a b e,Seen (·=n) (if zfa i.op then q.tell n (Sp.access i a b e) else q):=fun a b e=>by
  split
  ·exact h.tell hn hu _ (by unfold Sp.access;split <;> rfl)
  ·exact h
 unfold Sp.plain
 dsimp only
 split
 ·refine Seen.fin (hs _ _ _) hn ?_ ?_ _
  ·split <;> exact h16
  ·split <;> exact hj
 ·refine Seen.end_ (b:=(·=n)) (Seen.turn (hs (q.thr n).f (zat (q.thr n).f i q.mem) 0) rfl fun m hm hb hu h0 h9=>⟨hu,rfl,?_⟩)
  show (upd q.thr n _ m).why≠0∧(upd q.thr n _ m).why≠9∧(upd q.thr n _ m).ins.op=_
  rw [upd_ne _ _ hb]
  have e:∀ r,(if zfa i.op then q.tell n r else q).thr=q.thr:=fun r=>by split <;> rfl
  rw [e] at h0 h9 ⊢
  exact ⟨h0,h9,rfl⟩
theorem Seen.same {q':Sp} (h:Seen (·=n) q) (h1:q'.recs=q.recs) (h2:q'.st=q.st) (h3:q'.thr=q.thr):Seen (·=n) q':=h.turn h1 fun m _ _ hu h0 h9=>by
 rw [h2,h3]
 exact ⟨hu,rfl,h0,h9,rfl⟩
theorem Seen.deed (h:Seen (·=n) q) (h16:q.st.length=16) (i:Ins) (ch:Int):Seen (·=n) (q.deed n i ch).1:=by
  unfold Sp.deed
  dsimp only
  split
  · unfold Sp.spawn
    dsimp only
    split
    · exact (h.begin _ _).setT n _ fun hb=>absurd rfl hb
    · exact (h.begin _ _).setT n _ fun hb=>absurd rfl hb
  split
  · exact h.setT n _ fun hb=>absurd rfl hb
  split
  · unfold Sp.join
    dsimp only
    split
    · rename_i e
      obtain ⟨k,ek,hk,hne,_⟩:=zin e
      have hkl:=zex hk
      rw [h16] at hkl
      rw [ek,Int.toNat_natCast]
      split
      · rename_i e9
        refine (h.setT n _ fun hb=>absurd rfl hb).free h16 k hkl (.inr (.inr ?_))
        show (upd q.thr n _ k).why=9
        rw [upd_ne _ _ hne]
        exact e9
      · exact h.setT k _ fun _ h0 h9=>⟨h0,h9,rfl⟩
    · exact h
  split
  · unfold Sp.zco
    dsimp only
    split
    · rename_i e
      obtain ⟨k,ek,hk,hne,_⟩:=zin e
      have hkl:=zex hk
      rw [h16] at hkl
      rw [ek,Int.toNat_natCast]
      split
      · rename_i e9
        exact h.free h16 k hkl (.inr (.inr e9))
      · exact h.setT k _ fun _ h0 h9=>⟨h0,h9,rfl⟩
    · exact h
  split
  · unfold Sp.pass
    dsimp only
    repeat' split
    all_goals first
      | exact h.same rfl rfl rfl
      | (unfold Sp.signal
         dsimp only
         exact Seen.moved (Seen.same (q':={ q with zi:=(q.zi.signal i.n ch (i.op == 29)).1 }) h rfl rfl rfl) _)
  split
  · unfold Sp.ask Sp.askW
    repeat' split
    all_goals exact h.same rfl rfl rfl
  split
  · unfold Sp.ask Sp.askW
    repeat' split
    all_goals exact h.same rfl rfl rfl
  split
  · unfold Sp.put Sp.putW
    dsimp only
    repeat' split
    all_goals exact h.same rfl rfl rfl
  split
  · have hg:Seen (·=n) (q.getW n i.n).1:=by
      unfold Sp.getW
      dsimp only
      repeat' split
      all_goals exact h.same rfl rfl rfl
    unfold Sp.get
    dsimp only
    split
    · exact hg.setT n _ fun hb=>absurd rfl hb
    · exact hg
  split
  · unfold Sp.sleep
    repeat' split
    all_goals exact h.same rfl rfl rfl
  split
  · exact h
  · exact h
end
section
variable {q : Sp} {n : Nat}
theorem ztg {q:Sp} (h16:q.st.length=16) {k m:Nat} (hk:k < 16) (hne:m≠k):us (q.free k).st m=us q.st m:=by
 show us (freed q.st (q.hnd k)) m=us q.st m
 unfold freed
 split
 ·rfl
 ·rename_i j e
  obtain ⟨e1,e2,e3,e4⟩:=zb7 e
  rw [znl _ _ _ _ _ e3]
  have hj:j=k:=by
   unfold Sp.hnd at e2
   by_cases hun:us q.st k=true
   ·rw [if_pos hun] at e2
    exact zj9 (by omega) hk e2
   ·rw [if_neg hun] at e2
    unfold hd at e2
    omega
  rw [if_neg (by omega)]
theorem us_begin (q:Sp) (fn:Int) (w m:Nat):us (q.begin fn w).1.st m=if least q.st < q.st.length∧m=least q.st then true else us q.st m:=by
 unfold Sp.begin
 split
 ·rename_i hl
  show us (taken q.st) m=_
  unfold taken
  rw [znl _ _ _ _ _ hl]
  by_cases e:m=least q.st
  ·rw [if_pos e,if_pos ⟨hl,e⟩]
  ·rw [if_neg e,if_neg (fun h=>e h.2)]
 ·rename_i hl
  rw [if_neg (fun h=>hl h.1)]
theorem zm7:∀ (l:List Int) (q:Sp),(q.moved l).st=q.st
 | [],q=>rfl
 | x::l,q=>zm7 l _
theorem us_deed (h16:q.st.length=16) (hu:us q.st n=true) (i:Ins) (ch:Int):us (q.deed n i ch).1.st n=true:=by
  have hb:∀ fn w,us (q.begin fn w).1.st n=true:=fun fn w=>by
    rw [us_begin]
    split
    · rfl
    · exact hu
  unfold Sp.deed
  dsimp only
  split
  · unfold Sp.spawn
    dsimp only
    split <;> exact hb _ _
  split
  · exact hu
  split
  · unfold Sp.join
    dsimp only
    split
    · rename_i e
      obtain ⟨k,ek,hk,hne,_⟩:=zin e
      have hkl:=zex hk
      rw [h16] at hkl
      rw [ek,Int.toNat_natCast]
      split
      · rw [ztg (q:=q.setT n _) h16 hkl (Ne.symm hne)]
        exact hu
      · exact hu
    · exact hu
  split
  · unfold Sp.zco
    dsimp only
    split
    · rename_i e
      obtain ⟨k,ek,hk,hne,_⟩:=zin e
      have hkl:=zex hk
      rw [h16] at hkl
      rw [ek,Int.toNat_natCast]
      split
      · rw [ztg h16 hkl (Ne.symm hne)]
        exact hu
      · exact hu
    · exact hu
  split
  · unfold Sp.pass
    dsimp only
    repeat' split
    all_goals first
      | exact hu
      | (unfold Sp.signal
         dsimp only
         rw [zm7]
         exact hu)
  split
  · unfold Sp.ask Sp.askW
    repeat' split
    all_goals exact hu
  split
  · unfold Sp.ask Sp.askW
    repeat' split
    all_goals exact hu
  split
  · unfold Sp.put Sp.putW
    dsimp only
    repeat' split
    all_goals exact hu
  split
  · have hg:(q.getW n i.n).1.st=q.st:=by
      unfold Sp.getW
      dsimp only
      repeat' split
      all_goals rfl
    unfold Sp.get
    dsimp only
    split
    · show us (q.getW n i.n).1.st n=true
      rw [hg];exact hu
    · rw [hg];exact hu
  split
  · unfold Sp.sleep
    repeat' split
    all_goals exact hu
  split
  · exact hu
  · exact hu
theorem zm0 {c:Prop} [Decidable c] {a b:Int} (ha:a≠9) (hb:b≠9):(if c then a else b)≠9:=by split <;> assumption
theorem deed_why (q:Sp) (n:Nat) (i:Ins) (ch:Int):(q.deed n i ch).2.why≠9:=by
 have z0:(0:Int)≠9:=by decide
 have z1:(1:Int)≠9:=by decide
 have z2:(2:Int)≠9:=by decide
 have z3:(3:Int)≠9:=by decide
 have z4:(4:Int)≠9:=by decide
 have z5:(5:Int)≠9:=by decide
 have z6:(6:Int)≠9:=by decide
 have z7:(7:Int)≠9:=by decide
 have z8:(8:Int)≠9:=by decide
 unfold Sp.deed
 dsimp only
 split
 ·unfold Sp.spawn;dsimp only;split <;> exact z0
 split
 ·exact z0
 split
 ·unfold Sp.join;dsimp only;repeat' split
  all_goals first | exact z0 | exact z4
 split
 ·unfold Sp.zco;dsimp only;repeat' split
  all_goals exact z0
 split
 ·unfold Sp.pass;dsimp only
  split
  ·exact zm0 z1 z0
  split
  ·exact z0
  split
  ·exact zm0 z2 z0
  split
  ·exact zm0 z3 z0
  split
  ·exact z0
  ·exact z0
 split
 ·unfold Sp.ask Sp.askW;repeat' split
  all_goals first | exact z0 | exact z5
 split
 ·unfold Sp.ask Sp.askW;repeat' split
  all_goals first | exact z0 | exact z5
 split
 ·unfold Sp.put;dsimp only;exact zm0 z0 z7
 split
 ·unfold Sp.get;dsimp only;split
  ·exact z0
  ·exact z6
 split
 ·unfold Sp.sleep;repeat' split
  all_goals first | exact z0 | exact z8
 split
 ·exact z0
 ·exact z0
theorem Seen.act (h:Seen (·=n) q) (hn:n < 16) (hu:us q.st n=true) (h16:q.st.length=16) (i:Ins) (ch:Int) (hw:∀ p ∈ (q.deed n i ch).2.woken,InR p.1):Seen (fun _=>False) (q.act n i ch).1:=by
 have hd:=h.deed h16 i ch
 have hu':=us_deed h16 hu i ch
 have h9:=deed_why q n i ch
 unfold Sp.act
 dsimp only
 refine Seen.wake _ ?_ hw
 by_cases h0:(q.deed n i ch).2.why=0
 ·rw [if_pos h0,decide_eq_true h0]
  exact ((hd.setT n _ fun hb=>absurd rfl hb).tell hn hu' _ rfl).end_
 ·rw [if_neg h0,decide_eq_false h0]
  exact hd.stop hn hu' _ h0 h9 _ rfl
theorem Seen.run (h:Seen (fun _=>False) q) (W:q.Well) (slot ch:Int):Seen (fun _=>False) (q.run slot ch).1:=by
 unfold Sp.run
 dsimp only
 by_cases hu:q.zey slot=false
 ·rw [if_pos hu];exact h
 rw [if_neg hu]
 by_cases hw:(q.thr slot.toNat).why≠0
 ·rw [if_pos hw];exact h
 rw [if_neg hw]
 have hus:us q.st slot.toNat=true:=by
  have hu':q.zey slot=true:=by simpa using hu
  unfold Sp.zey at hu'
  simp only [Bool.and_eq_true] at hu'
  exact hu'.2
 have h16:slot.toNat < 16:=by
  have:=zex hus
  rw [W.h16] at this
  exact this
 have ha:=h.acts slot.toNat (.inl (Decidable.not_not.1 hw))
 by_cases hn:zcd q.prog (q.thr slot.toNat).f=false
 ·rw [if_pos hn]
  exact ha.exit h16 hus W.h16 (W.join _) 0
 rw [if_neg hn]
 by_cases h23:(zbl q.prog (q.thr slot.toNat).f).op=23
 ·rw [if_pos h23]
  refine Seen.exit (ha.setT slot.toNat _ fun hb=>absurd rfl hb) h16 hus W.h16 ?_ _
  show InR (upd q.thr slot.toNat _ slot.toNat).joiner
  rw [upd_same]
  exact W.join _
 rw [if_neg h23]
 by_cases hc:za7 (zbl q.prog (q.thr slot.toNat).f).op=1
 ·rw [if_pos hc]
  exact ha.plain h16 hus W.h16 (W.join _) _
 rw [if_neg hc]
 obtain ⟨d1,d2,d3,d4,d5,d6,d7⟩:=zq1 W h16 hus (zbl q.prog (q.thr slot.toNat).f) ch
 exact ha.act h16 hus W.h16 _ ch d3
end
theorem zem (p:Prg):Sp.fresh p=({ Sp.blank p with tubes:=p.pipes.map fun r=>⟨r,[],[],[]⟩,st:=taken (Dk.blank 16) }:Sp).setT 0 (Thr.new 0 0):=rfl
theorem zoj {p:Prg} (F:Fits p):Life 0 (Sp.fresh p):=by
 rw [zem]
 refine Life.setT (q:={ Sp.blank p with tubes:=p.pipes.map fun r=>⟨r,[],[],[]⟩,st:=taken (Dk.blank 16) }) ?_ 0 (zd1.new 0 (by unfold i64;omega) 0 (by omega))
 refine ⟨fun m=>⟨⟨0,by omega,rfl⟩,zax,⟨⟨by show _≤(0:Int);omega,by show (0:Int)≤_;omega⟩,⟨by show _≤(0:Int);omega,by show (0:Int)≤_;omega⟩,fun k=>by show (0:Nat) < _;omega⟩,by show (0:Nat) < _;omega⟩,fun t ht=>?_,fun r hr=>absurd hr (by simp [Sp.blank]),by simp [Sp.blank],fun x hx=>absurd hx (by simp [Sp.blank,keysOf]),by simp [Sp.blank],fun x hx=>?_,fun x hx=>?_⟩
 ·obtain ⟨r,_,rfl⟩:=List.mem_map.1 ht
  exact ⟨⟨by simp,by simp,by simp⟩,fun x hx=>absurd hx (by simp),fun x hx=>absurd hx (by simp),fun x hx=>absurd hx (by simp)⟩
 ·rw [(List.mem_replicate.1 hx).2];omega
 ·rw [(List.mem_replicate.1 hx).2];omega
theorem zoi {p:Prg} (F:Fits p) (hc:∀ c ∈ p.funcs,∀ i ∈ c,i.ok):Born (Sp.fresh p):=by
 refine ⟨fun c h=>⟨by have:=F.cl c h;omega,fun i hi=>insFit F (zsz p F) (by rw [zem];simp [Sp.setT]) (hc c h i hi) (F.snd c h i hi)⟩,?_,?_,?_⟩
 ·rw [zem]
  have:=F.wd
  simp [Sp.setT,Sp.blank]
  omega
 ·rw [zem]
  have:=Go.Proofs.YtglhhlfopccmaaaGreat.Dk.zjv p.blocks
  simp [Sp.setT,Sp.blank]
  omega
 ·rfl
end Dk
namespace Go.Proofs.YtglhhlfopccmaaaGreat
open Go.RowKit Go.Lib
section
variable {W w w' : World} {us : List Dk.zd}
theorem NewC_no {B:Nat} (s:Dk.Sh) (p:Dk.Prg) (w:World) (hp:Dk.zbb B w s p) (hB:B≤w.heap.size) (hk:Dk.check p≠0) :
  Calls Tryz.prog 12 #[Dk.pv s p] w fun e w'=>e=.returned (.tuple #[.pointer none,.int .i64 (Dk.check p)])∧Below w.heap.size w w':=by
 obtain ⟨W1,e1⟩:∃ W1,W1=w.alloc (.cells #[.slice s.fA s.fL s.fC,.int .i64 p.words,.int .i64 p.mutexes,.int .i64 p.conds,.slice s.sA s.sL s.sC,.slice s.pA s.pL s.pC,.int .i64 p.blocks,.int .i64 p.prio] 25):=⟨_,rfl⟩
 have b1:Dk.Box W1 w.heap.size #[.slice s.fA s.fL s.fC,.int .i64 p.words,.int .i64 p.mutexes,.int .i64 p.conds,.slice s.sA s.sL s.sC,.slice s.pA s.pL s.pC,.int .i64 p.blocks,.int .i64 p.prio] 25:=by rw [e1];exact Dk.Box.new _ _ _
 have u1:Below w.heap.size w W1:=by rw [e1];exact Dk.zc (Below.refl _ _) _
 have K:=zjf B s p W1 (hp.below u1 hB) (Nat.le_trans hB u1.size)
 have H1:Hid _:=e1.symm
 have c1:=b1.cell
 have HU:Hid (Below w.heap.size w W1):=u1
 have hne:(!decide (Dk.check p=0))=true:=by simp [hk]
 generalize Dk.check p=z at *
 clear e1 u1 b1
 go_enter Tryz.func12,Tryz.ntmps12
 go_wp2_with (rw [H1.out];clear H1)
 refine K.mono ?_
 rintro e w2 ⟨rfl,u2⟩
 have u3:Below w.heap.size w w2:=Dk.zr HU.out u2
 clear K c1 u2
 go_wp2_with fail
 go_ret2
 exact ⟨rfl,u3⟩
theorem zmj {B:Nat} (h:Dk.Sep W w us) (s:Dk.Sh) (p:Dk.Prg) (hp:Dk.zbb B w s p) (hB:B≤w.heap.size) (hk:Dk.check p=0) :
  Calls Tryz.prog 12 #[Dk.pv s p] w fun e w'=>∃ L:Dk.Loc,e=.returned (.tuple #[.pointer (some ⟨L.b,0,none⟩),.int .i64 0])∧zdd W w' L (Dk.Sp.fresh p) (Dk.Sp.fresh p) 0 1 0 us:=by
 have F:=Dk.zhn hk
 refine (NewC_t s p w hp hB hk ⟨F.fl,F.cl,F.wd.1,F.wd.2,F.pp⟩).mono ?_
 rintro e w' ⟨L,rfl,hC⟩
 exact ⟨L,rfl,Cor.rebase h hC,Dk.zoj F,Dk.Dims.refl _,by simp [Dk.zem,Dk.Sp.setT,Dk.Sp.blank]⟩
theorem zqq {B:Nat} {s:Dk.Sh} {p:Dk.Prg} (hp:Dk.zbb B w s p) (hk:Dk.check p=0):Dk.Born (Dk.Sp.fresh p):=Dk.zoi (Dk.zhn hk) hp.funcs.oks
end
theorem zmp {ty e:TypeId} {z:Value} {s bytes:Nat} (K:Dk.SlK Tryz.prog ty e z s bytes) (hn:∀ w,(Builtin.append_ #[ty,ty] ty #[.slice none 0 0,.slice none 0 0]).run Tryz.prog w=.ok (.slice none 0 0) w) (B:Nat) (v:Value) (n:Nat) (xs:List Value) (w:World) (h:w.ownsRow B e s v n xs) (h1:∀ u ∈ xs,u.oneCell'=true) (hl:n≤90000) :
  ∃ v' w',(Builtin.append_ #[ty,ty] ty #[.slice none 0 0,v]).run Tryz.prog w=.ok v' w'∧w'.ownsRow w.heap.size e s v' n xs∧Below w.heap.size w w':=by
 obtain ⟨hx,⟨rfl,h0⟩ | ⟨g,cap,cur,rfl,hb,hg,hn,hm,hs,ht⟩⟩:=id h
 ·subst h0
  obtain rfl:xs=[]:=List.eq_nil_of_length_eq_zero (by simpa using hx)
  exact ⟨_,w,hn w,World.ownsRow_nil _ _ _ _,Below.refl _ _⟩
 ·obtain ⟨v',w',hr,ho,hg,_,_⟩:=K.append w.heap.size ty (.slice none 0 0) [] 0 w (World.ownsRow_nil _ _ _ _) ⟨g,0,none⟩ n cap xs hx (h.cells (g:=g) rfl) h1 (by omega) (Nat.le_refl _)
  rw [Nat.zero_add,List.nil_append] at ho
  exact ⟨v',w',hr,ho,⟨hg.os,hg.tape,hg.output,hg.size,fun k hk=>hg.block k hk (by simp [Value.ownBlock])⟩⟩
theorem nilsRec (w:World):(Builtin.append_ #[49,49] 49 #[.slice none 0 0,.slice none 0 0]).run Tryz.prog w=.ok (.slice none 0 0) w:=by
 obtain ⟨i0,hi0,_,_,_⟩:=info_parts zro
 simp [Builtin.append_,run_underlying Tryz.underlying49,sizeOf,typeInfo,hi0,Builtin.lenOf,run_firstCells_none,go_sem]
theorem infoWord:(Tryz.prog.info? 38).map (fun i=>(i.zero,i.size,i.bytes))=some (some (.int .u64 0),1,8):=by kernel_rfl
theorem nilsWord (w:World):(Builtin.append_ #[55,55] 55 #[.slice none 0 0,.slice none 0 0]).run Tryz.prog w=.ok (.slice none 0 0) w:=by
 obtain ⟨i0,hi0,_,_,_⟩:=info_parts infoWord
 simp [Builtin.append_,run_underlying Tryz.underlying55,sizeOf,typeInfo,hi0,Builtin.lenOf,run_firstCells_none,go_sem]
section
variable {W w w' : World} {L : Dk.Loc} {q : Dk.Sp} {k n : Nat} {us us' us1 us2 : List Dk.zd} {t : Dk.zd}
theorem zk4 (h:Cor W w L q k us) (hl:q.recs.length≤90000) :
  Calls Tryz.prog 25 #[.pointer (some ⟨L.b,0,none⟩)] w fun e w'=>∃ A C,e=.returned (.slice A q.recs.length C)∧Cor W w' L q k (Dk.rowOf 74 6 (.slice A q.recs.length C) q.recs.length (q.recs.flatMap Dk.Rec.cells)::us):=by
 obtain ⟨vm,vr,hb,hm,hr⟩:=h.head
 have c334:w.cell? ⟨L.b,334,none⟩=some vr:=by rw [hb.cell,List.getElem?_toArray];exact Dk.za3 L q.thr vm vr (j:=4)
 obtain ⟨v',w',hrun,ho,hu⟩:=zmp KRec nilsRec W.heap.size vr _ _ w hr (Dk.zms zsh _) hl
 obtain ⟨A,C,ev,_,_⟩:=Dk.zf hr
 obtain ⟨A',C',ev',_,_⟩:=Dk.zf ho
 subst ev ev'
 have h2:=h.zbq hu ho
 generalize q.recs.length=n at *
 generalize q.recs.flatMap Dk.Rec.cells=xs at *
 clear hb hm hr h ho hu hl
 go_enter Tryz.func25,Tryz.ntmps25
 go_wp2_with (at_builtin;refine Lib.wpList_append_run _ rfl _ _ _ _ rfl _ _ rfl rfl _ _ hrun ?_)
 go_ret
 exact ⟨A',C',rfl,h2⟩
theorem znx (h:Cor W w L q k us) (hl:q.mem.length≤90000) :
  Calls Tryz.prog 27 #[.pointer (some ⟨L.b,0,none⟩)] w fun e w'=>∃ A C,e=.returned (.slice A q.mem.length C)∧Cor W w' L q k (Dk.rowOf 38 1 (.slice A q.mem.length C) q.mem.length (Dk.uwK q.mem)::us):=by
 obtain ⟨vm,vr,hb,hm,hr⟩:=h.head
 have c8:w.cell? ⟨L.b,8,none⟩=some vm:=by rw [hb.cell,List.getElem?_toArray];exact Dk.zb5 L q.thr vm vr (j:=8) (by omega)
 obtain ⟨v',w',hrun,ho,hu⟩:=zmp K25K nilsWord W.heap.size vm _ _ w hm (Dk.uw_oneK _) hl
 obtain ⟨A,C,ev,_,_⟩:=Dk.zf hm
 obtain ⟨A',C',ev',_,_⟩:=Dk.zf ho
 subst ev ev'
 have h2:=h.zbq hu ho
 generalize q.mem.length=n at *
 generalize Dk.uwK q.mem=xs at *
 clear hb hm hr h ho hu hl
 go_enter Tryz.func27,Tryz.ntmps27
 go_wp2_with (at_builtin;refine Lib.wpList_append_run _ rfl _ _ _ _ rfl _ _ rfl rfl _ _ hrun ?_)
 go_ret
 exact ⟨A',C',rfl,h2⟩
end
end Go.Proofs.YtglhhlfopccmaaaGreat
namespace Dk
def Sp.ready (q:Sp):List Int:=(usl q.st 16).filter fun x=>(q.thr x.toNat).why == 0
end Dk
namespace Go.Proofs.YtglhhlfopccmaaaGreat
open Go.RowKit Go.Lib
section
variable {W w w' : World} {L : Dk.Loc} {q : Dk.Sp} {k n : Nat} {us us' us1 us2 : List Dk.zd} {t : Dk.zd}
theorem zp2 (h:Cor W w L q k us) (h16:q.st.length=16) :
  Calls Tryz.prog 22 #[.pointer (some ⟨L.b,0,none⟩)] w fun e w'=>∃ A C,e=.returned (.slice A q.ready.length C)∧Cor W w' L q k (Dk.rowOf 3 1 (.slice A q.ready.length C) q.ready.length (Dk.is q.ready)::us):=by
 obtain ⟨ks,hks,hT,_⟩:=h.slots
 have c9:=h.zdm
 have K:=Used_any L.bt L.bs ks q.st w hT
 rw [h16] at K
 have HH:Hid (Cor W w L q k us):=h
 have hml:(Dk.usl q.st 16).length≤16:=Dk.zmb q.st 16
 have hmem:∀ x ∈ Dk.usl q.st 16,∃ j:Nat,x=j∧j < 16:=fun x hx=>by obtain ⟨j,e,hj,_⟩:=Dk.zmc hx;exact ⟨j,e,hj⟩
 unfold Dk.Sp.ready
 generalize Dk.usl q.st 16=xs at *
 have HM:Hid (∀ x ∈ xs,∃ j:Nat,x=j∧j < 16):=hmem
 obtain ⟨m,em⟩:∃ m,m=xs.length:=⟨_,rfl⟩
 rw [← em] at K hml
 have EM:Hid _:=em
 clear em hmem h hT h16
 go_enter Tryz.func22,Tryz.ntmps22
 go_wp2_with fail
 refine K.mono ?_
 rintro e w1 ⟨A,C,rfl,hS,u1⟩
 have h1:=HH.out.below u1
 have HS:Hid (Dk.SlI w1.heap.size w1 A m C xs):=hS
 have HC:Hid (Cor W w1 L q k us):=h1
 have s0:Dk.Sep w1 w1 [Dk.rowOf 3 1 (.slice none 0 0) 0 (Dk.is [])]:=(Dk.Sep.begin (Below.refl _ _)).zbq (Below.refl _ _) (World.ownsRow_nil _ _ _ _)
 clear K c9 hS h1 HH u1
 go_wp2_with fail
 go_loopw [3,14] (fun v i w'=>∃ (j o:Nat) (A':Option Addr) (C':Nat),j≤m∧o≤j∧i=.int .i64 j∧v=.slice A' o C'∧Dk.Sep w1 w' [Dk.rowOf 3 1 (.slice A' o C') o (Dk.is ((xs.take j).filter fun x=>(q.thr x.toNat).why == 0))]) (fun v i w'=>m - (intOf i).toNat)
 case atStart=>exact ⟨0,0,none,0,Nat.zero_le _,Nat.le_refl _,rfl,rfl,by simpa using s0⟩
 case round=>
  obtain ⟨j,o,A',C',hj,ho,rfl,rfl,hs⟩:=hrel
  clear s0
  by_cases hlt:j < m
  ·have hlt':j < xs.length:=by have:=EM.out;omega
   obtain ⟨x,ex⟩:∃ x,xs[j]? = some x:=⟨_,List.getElem?_eq_getElem hlt'⟩
   obtain ⟨y,rfl,hy⟩:=HM.out x (List.mem_of_getElem? ex)
   obtain ⟨b,o2,rfl,hb,hc⟩:=HS.out.cells (by omega)
   have hc':=hc j hlt
   rw [List.getD_eq_getElem?_getD,ex] at hc'
   have c1:wr.cell? ⟨b,o2+j,none⟩=some (.int .i64 (y:Int)):=by rw [hs.out.cell (by show b < w1.heap.size;exact hb)];exact hc'
   have hCr:=HC.out.below hs.out
   have c2:wr.cell? ⟨L.b,10+y*20+10,none⟩=some (.int .i64 (q.thr y).why):=hCr.cellAt hy 10 (by omega)
   have i1:(y:Int) < 16:=by omega
   have i2:(0:Int)≤(y:Int):=by omega
   have et:xs.take (j+1)=xs.take j++[(y:Int)]:=by rw [List.take_add_one,ex];rfl
   have ET:Hid _:=et
   have EX:Hid _:=ex
   clear et ex hc hc' hCr
   by_cases hw:(q.thr y).why=0
   ·rw [hw] at c2
    have hF:(xs.take (j+1)).filter (fun x=>(q.thr x.toNat).why == 0)=(xs.take j).filter (fun x=>(q.thr x.toNat).why == 0)++[(y:Int)]:=by
     rw [ET.out,List.filter_append]
     simp [hw]
    obtain ⟨v',w4,hrun,h4,_⟩:=Dk.Sep.zcu (us1:=[]) (us2:=[]) K26T hs [.int .i64 (y:Int)] rfl (by simp [Value.oneCell']) (by omega)
    have e4:Dk.is ((xs.take j).filter fun x=>(q.thr x.toNat).why == 0)++[.int .i64 (y:Int)]=Dk.is ((xs.take (j+1)).filter fun x=>(q.thr x.toNat).why == 0):=by rw [hF];simp
    rw [e4] at h4
    obtain ⟨Av',Cv',ev',_,_⟩:=Dk.zf (h4.row (e:=3) (s:=1) (v:=v') (n:=o+1) (xs:=Dk.is ((xs.take (j+1)).filter fun x=>(q.thr x.toNat).why == 0)) (by simp))
    subst ev'
    have HF:Hid _:=hF
    clear hs hF e4 hw
    go_wp2_with (at_builtin;refine Lib.wpList_append_run _ rfl _ _ _ _ rfl _ _ rfl rfl _ _ hrun ?_)
    go_roundw
    case rel=>exact ⟨j+1,o+1,Av',Cv',by omega,by omega,by go_num,rfl,h4⟩
    case measure=>simp [intOf];omega
   ·have hF:(xs.take (j+1)).filter (fun x=>(q.thr x.toNat).why == 0)=(xs.take j).filter (fun x=>(q.thr x.toNat).why == 0):=by
     rw [ET.out,List.filter_append]
     simp [hw]
    rw [← hF] at hs
    have HW:Hid (¬ (q.thr y).why=0):=hw
    generalize (q.thr y).why=wy at *
    clear hF HW
    go_wp2_with fail
    go_roundw
    case rel=>exact ⟨j+1,o,A',C',by omega,by omega,by go_num,rfl,hs⟩
    case measure=>simp [intOf];omega
  ·obtain rfl:j=m:=by omega
   have z1:decide ((j:Int) < (j:Int))=false:=decide_eq_false (by omega)
   have e:xs.take j=xs:=List.take_of_length_le (by have:=EM.out;omega)
   rw [e] at hs
   have hr:=hs.row (e:=3) (s:=1) (v:=.slice A' o C') (n:=o) (xs:=Dk.is (xs.filter fun x=>(q.thr x.toNat).why == 0)) (by simp)
   have ho2:o=(xs.filter fun x=>(q.thr x.toNat).why == 0).length:=by
    have:=hr.1
    simpa using this.symm
   have hC:=HC.out.zbq hs.out hr
   generalize eY:(xs.filter fun x=>(q.thr x.toNat).why == 0)=ys at *
   have EY:Hid _:=eY
   subst ho2
   clear hs hr e eY
   go_wp2_with fail
   go_ret
   exact ⟨A',C',by rw [EY.out];rfl,by rw [EY.out];exact hC⟩
end
theorem lit_one (w w':World) (x:Int) (hx:Dk.i64 x) (e:w'=w.alloc (.cells #[.int .i64 x] 3)):Dk.SlI w'.heap.size w' (some ⟨w.heap.size,0,none⟩) 1 1 [x]:=by
 have b6:Dk.Box w' w.heap.size #[.int .i64 x] 3:=by rw [e];exact Dk.Box.new _ _ _
 exact ⟨rfl,Nat.le_refl _,by unfold maxLen;omega,fun y hy=>by simp at hy;rw [hy];exact hx,fun _=>⟨_,0,rfl,b6.lt,fun k hk=>by
  obtain rfl:k=0:=by omega
  exact b6.cell 0⟩⟩
theorem i64_of (x:Int) (h:-1000000≤x∧x≤1000000):Dk.i64 x:=by unfold Dk.i64;omega
section
variable {W w w' : World} {L : Dk.Loc} {q q0 : Dk.Sp} {k N R : Nat} {us us' : List Dk.zd}
theorem zdd.with (h:zdd W w L q0 q N k R us) (c:Cor W w L q k us→Cor W w' L q k us'):zdd W w' L q0 q N k R us':=⟨c h.cor,h.life,h.dims,h.recs⟩
end
end Go.Proofs.YtglhhlfopccmaaaGreat
