import Derived.Test.YtpnajphbjfehnaaGreatLn26
set_option linter.unusedSimpArgs false
set_option linter.unusedVariables false
set_option linter.unnecessarySimpa false
set_option maxHeartbeats 8000000
set_option maxRecDepth 100000
namespace Dk
open Go
def lastR (h:Nat) (l:List Rec):Option Rec:=(l.filter fun r=>r.thread == h).getLast?
theorem zb6 (h:Nat) (l:List Rec) (r:Rec):lastR h (l++[r])=if r.thread=h then some r else lastR h l:=by
 unfold lastR
 rw [List.filter_append]
 by_cases e:r.thread=h
 ·rw [if_pos e,List.filter_cons_of_pos (by simpa using e),List.filter_nil,List.getLast?_concat]
 ·rw [if_neg e,List.filter_cons_of_neg (by simpa using e),List.filter_nil,List.append_nil]
def GoodR (l:List Rec):Prop:=∀ pre s post,l=pre++s::post→∀ r,lastR s.thread pre=some r→r.fin=false→s.fin=true∧s.op=r.op∧s.x=0∧s.result=0
theorem GoodR.nil:GoodR []:=fun pre s post e=>by simp at e
theorem GoodR.snoc {l:List Rec} (h:GoodR l) {s:Rec} (hs:∀ r,lastR s.thread l=some r→r.fin=false→s.fin=true∧s.op=r.op∧s.x=0∧s.result=0):GoodR (l++[s]):=fun pre t post e=>by
 rcases List.eq_nil_or_concat post with rfl | ⟨post,u,rfl⟩
 ·obtain ⟨rfl,e2⟩:=List.append_inj' e rfl
  obtain rfl:s=t:=by simpa using e2
  exact hs
 ·have e':l++[s]=(pre++t::post)++[u]:=by simpa using e
  obtain ⟨e1,-⟩:=List.append_inj' e' rfl
  exact h pre t post e1
theorem ze0 {st:StS} {n m:Nat} (hn:n < 16) (hm:m < 16) (e:hd st n=hd st m):n=m:=by
 have h1:=hd_mod (st:=st) (k:=n) (by omega)
 have h2:=hd_mod (st:=st) (k:=m) (by omega)
 rw [e] at h1
 omega
structure Seen (but:Nat→Prop) (q:Sp):Prop where
 good:GoodR q.recs
 last:∀ h r,lastR h q.recs=some r→r.fin=false→∃ n,n < 16∧¬ but n∧us q.st n=true∧q.hnd n=h∧(q.thr n).why≠0∧(q.thr n).why≠9∧(q.thr n).ins.op=r.op
theorem Seen.mono {b b':Nat→Prop} {q:Sp} (h:Seen b q) (hb:∀ n,b' n→b n):Seen b' q:=⟨h.good,fun x r e f=>by
 obtain ⟨n,h1,h2,h3⟩:=h.last x r e f
 exact ⟨n,h1,fun e=>h2 (hb n e),h3⟩⟩
theorem Seen.acts {q:Sp} (h:Seen (fun _=>False) q) (n:Nat) (hw:(q.thr n).why=0∨(q.thr n).why=9):Seen (·=n) q:=⟨h.good,fun x r e f=>by
 obtain ⟨m,h1,h2,h3,h4,h5,h6,h7⟩:=h.last x r e f
 refine ⟨m,h1,fun e=>?_,h3,h4,h5,h6,h7⟩
 subst e
 rcases hw with hw | hw
 ·exact h5 hw
 ·exact h6 hw⟩
theorem Seen.end_ {b:Nat→Prop} {q:Sp} (h:Seen b q):Seen (fun _=>False) q:=h.mono fun _=>False.elim
section
variable {b : Nat → Prop} {q : Sp}
theorem Seen.turn {q':Sp} (h:Seen b q) (hr:q'.recs=q.recs) (hk:∀ n,n < 16→¬ b n→us q.st n=true→(q.thr n).why≠0→(q.thr n).why≠9→us q'.st n=true∧hd q'.st n=hd q.st n∧(q'.thr n).why≠0∧(q'.thr n).why≠9∧(q'.thr n).ins.op=(q.thr n).ins.op):Seen b q':=⟨by rw [hr];exact h.good,fun x r e f=>by
 rw [hr] at e
 obtain ⟨m,h1,h2,h3,h4,h5,h6,h7⟩:=h.last x r e f
 obtain ⟨k1,k2,k3,k4,k5⟩:=hk m h1 h2 h3 h5 h6
 refine ⟨m,h1,h2,k1,?_,k3,k4,k5.trans h7⟩
 unfold Sp.hnd at h4 ⊢
 rw [if_pos h3] at h4
 rw [if_pos k1,k2,h4]⟩
theorem Seen.setT (h:Seen b q) (n:Nat) (t:Thr) (ht:¬ b n→(q.thr n).why≠0→(q.thr n).why≠9→t.why≠0∧t.why≠9∧t.ins.op=(q.thr n).ins.op):Seen b (q.setT n t):=h.turn rfl fun m hm hb hu h0 h9=>by
 refine ⟨hu,rfl,?_⟩
 unfold Sp.setT
 dsimp only
 by_cases e:m=n
 ·subst e
  rw [upd_same]
  exact ht hb h0 h9
 ·rw [upd_ne _ _ e]
  exact ⟨h0,h9,rfl⟩
theorem Seen.free (h:Seen b q) (h16:q.st.length=16) (n:Nat) (hn:n < 16) (hb:b n∨(q.thr n).why=0∨(q.thr n).why=9):Seen b (q.free n):=h.turn rfl fun m hm hbm hu h0 h9=>by
 have hne:m≠n:=fun e=>by
  subst e
  rcases hb with hb | hb | hb
  ·exact hbm hb
  ·exact h0 hb
  ·exact h9 hb
 refine ⟨?_,?_,h0,h9,rfl⟩
 ·show us (freed q.st (q.hnd n)) m=true
  unfold freed
  split
  ·exact hu
  ·rename_i k e
   obtain ⟨e1,e2,e3,e4⟩:=zay e
   rw [zha _ _ _ _ _ e3]
   have hk:k=n:=by
    unfold Sp.hnd at e2
    by_cases hun:us q.st n=true
    ·rw [if_pos hun] at e2
     exact ze0 (by omega) hn e2
    ·rw [if_neg hun] at e2
     unfold hd at e2
     omega
   rw [if_neg (by omega)]
   exact hu
 ·show hd (freed q.st (q.hnd n)) m=hd q.st m
  unfold hd
  rw [freed_tk]
theorem Seen.begin (h:Seen b q) (fn:Int) (w:Nat):Seen b (q.begin fn w).1:=by
 unfold Sp.begin
 split
 ·rename_i hl
  refine h.turn rfl fun m hm hbm hu h0 h9=>?_
  have hne:m≠least q.st:=fun e=>by
   have:=zbh hl
   rw [← e,hu] at this
   cases this
  refine ⟨?_,?_,?_⟩
  ·show us (taken q.st) m=true
   unfold taken
   rw [zha _ _ _ _ _ hl,if_neg hne]
   exact hu
  ·show hd (taken q.st) m=hd q.st m
   unfold taken hd
   rw [zkp _ _ _ _ _ hl,if_neg hne]
  ·unfold Sp.setT
   dsimp only
   rw [upd_ne _ _ hne]
   exact ⟨h0,h9,rfl⟩
 ·exact h
theorem Seen.moved (h:Seen b q):∀ (l:List Int),Seen b (q.moved l):=fun l=>by
 induction l generalizing q with
 | nil=>exact h
 | cons x l ih=>exact ih (h.setT x.toNat { q.thr x.toNat with why:=1 } fun _ _ _=>⟨by show (1:Int)≠0;decide,by show (1:Int)≠9;decide,rfl⟩)
theorem Seen.tell {n:Nat} (h:Seen (·=n) q) (hn:n < 16) (hu:us q.st n=true) (r:Rec) (hr:r.fin=true):Seen (·=n) (q.tell n r):=by
 have hno:∀ s,lastR (q.hnd n) q.recs=some s→s.fin=false→False:=fun s e f=>by
  obtain ⟨m,h1,h2,h3,h4,h5⟩:=h.last _ s e f
  unfold Sp.hnd at h4
  rw [if_pos h3,if_pos hu] at h4
  exact h2 (ze0 h1 hn h4)
 refine ⟨h.good.snoc fun s e f=>(hno s e f).elim,fun x s e f=>?_⟩
 rw [show (q.tell n r).recs=q.recs++[{ r with thread:=q.hnd n }] from rfl,zb6] at e
 split at e
 ·obtain rfl:=Option.some.inj e
  rw [show ({ r with thread:=q.hnd n }:Rec).fin=r.fin from rfl,hr] at f
  cases f
 ·exact h.last x s e f
theorem Seen.stop {n:Nat} (h:Seen (·=n) q) (hn:n < 16) (hu:us q.st n=true) (t:Thr) (h0:t.why≠0) (h9:t.why≠9) (r:Rec) (hr:t.ins.op=r.op):Seen (fun _=>False) ((q.setT n t).tell n r):=by
 have hno:∀ s,lastR (q.hnd n) q.recs=some s→s.fin=false→False:=fun s e f=>by
  obtain ⟨m,h1,h2,h3,h4,h5⟩:=h.last _ s e f
  unfold Sp.hnd at h4
  rw [if_pos h3,if_pos hu] at h4
  exact h2 (ze0 h1 hn h4)
 refine ⟨h.good.snoc fun s e f=>(hno s e f).elim,fun x s e f=>?_⟩
 rw [show ((q.setT n t).tell n r).recs=q.recs++[{ r with thread:=q.hnd n }] from rfl,zb6] at e
 split at e
 ·rename_i ex
  obtain rfl:=Option.some.inj e
  refine ⟨n,hn,id,hu,ex,?_⟩
  show (upd q.thr n t n).why≠0∧(upd q.thr n t n).why≠9∧(upd q.thr n t n).ins.op=r.op
  rw [upd_same]
  exact ⟨h0,h9,hr⟩
 ·obtain ⟨m,h1,h2,h3,h4,h5⟩:=h.last x s e f
  refine ⟨m,h1,id,h3,h4,?_⟩
  show (upd q.thr n t m).why≠0∧(upd q.thr n t m).why≠9∧(upd q.thr n t m).ins.op=s.op
  rw [upd_ne _ _ h2]
  exact h5
theorem Seen.wake1 (h:Seen (fun _=>False) q) (p:Int × Nat) (hp:InR p.1):Seen (fun _=>False) (q.wake1 p):=by
 obtain ⟨x,v⟩:=p
 have hx:x.toNat < 16:=by unfold InR at hp;dsimp only at hp;omega
 dsimp only at hp
 have key:∀ m,m < 16→us q.st m=true→q.hnd m=q.hnd x.toNat→m=x.toNat:=fun m hm hu e=>by
  unfold Sp.hnd at e
  rw [if_pos hu] at e
  split at e
  ·exact ze0 hm hx e
  ·unfold hd at e;omega
 refine ⟨h.good.snoc fun s e f=>?_,fun y s e f=>?_⟩
 ·obtain ⟨m,h1,h2,h3,h4,h5,h6,h7⟩:=h.last _ s e f
  obtain rfl:=key m h1 h3 h4
  exact ⟨rfl,h7,rfl,rfl⟩
 ·rw [show (q.wake1 (x,v)).recs=q.recs++[⟨q.hnd x.toNat,(q.thr x.toNat).ins.op,0,v,0,true⟩] from rfl,zb6] at e
  split at e
  ·obtain rfl:=Option.some.inj e
   cases f
  ·rename_i ne
   obtain ⟨m,h1,h2,h3,h4,h5⟩:=h.last y s e f
   refine ⟨m,h1,id,h3,h4,?_⟩
   have hne:m≠x.toNat:=fun e=>ne (by rw [← h4,e])
   show (upd q.thr x.toNat _ m).why≠0∧(upd q.thr x.toNat _ m).why≠9∧(upd q.thr x.toNat _ m).ins.op=s.op
   rw [upd_ne _ _ hne]
   exact h5
end
theorem Seen.wake:∀ (l:List (Int × Nat)) {q:Sp} (h:Seen (fun _=>False) q) (hl:∀ p ∈ l,InR p.1),Seen (fun _=>False) (q.wake l)
 | [],q,h,_=>h
 | p::l,q,h,hl=>Seen.wake l (h.wake1 p (hl p (List.mem_cons_self ..))) (fun x hx=>hl x (List.mem_cons_of_mem _ hx))
section
variable {q : Sp} {n : Nat}
theorem zd9 {q:Sp} {own h:Nat} (e:(q.find own h).2=0):∃ k:Nat,(q.find own h).1=k∧us q.st k=true∧k≠own∧(q.thr k).det=false∧(q.thr k).joined=false∧hd q.st k=h:=by
 unfold Sp.find at e ⊢
 split at e
 ·cases e
 ·rename_i k hk
  obtain ⟨h1,h2,h3,h4⟩:=zay hk
  split at e
  ·cases e
  ·rename_i hne
   split at e
   ·cases e
   ·rename_i hj
    rw [if_neg hne,if_neg hj]
    refine ⟨k,rfl,h1,fun e=>hne (.inl e),?_,?_,h2⟩
    ·cases hd:(q.thr k).det
     ·rfl
     ·exact absurd (.inr hd) hne
    ·simpa using hj
theorem Seen.fin (h:Seen (·=n) q) (hn:n < 16) (h16:q.st.length=16) (hj:InR (q.thr n).joiner) (v:Nat):Seen (fun _=>False) (q.fin n v).1:=by
 unfold Sp.fin
 split
 ·exact (h.free h16 n hn (.inl rfl)).end_
 split
 ·exact Seen.wake _ (h.free h16 n hn (.inl rfl)).end_ (fun p hp=>by rw [List.mem_singleton] at hp;rw [hp];exact hj)
 ·exact (h.setT n _ fun hb=>absurd rfl hb).end_
theorem Seen.exit (h:Seen (·=n) q) (hn:n < 16) (hu:us q.st n=true) (h16:q.st.length=16) (hj:InR (q.thr n).joiner) (v:Nat):Seen (fun _=>False) (q.exit n v).1:=
 Seen.fin (h.tell hn hu _ rfl) hn h16 hj v
theorem Seen.plain (h:Seen (·=n) q) (hn:n < 16) (hu:us q.st n=true) (h16:q.st.length=16) (hj:InR (q.thr n).joiner) (i:Ins):Seen (fun _=>False) (q.plain n i).1:=by
 have hs:∀ a b e,Seen (·=n) (if seenB i.op then q.tell n (Sp.access i a b e) else q):=fun a b e=>by
  split
  ·exact h.tell hn hu _ (by unfold Sp.access;split <;> rfl)
  ·exact h
 unfold Sp.plain
 dsimp only
 split
 ·refine Seen.fin (hs _ _ _) hn ?_ ?_ _
  ·split <;> exact h16
  ·split <;> exact hj
 ·refine Seen.end_ (b:=(·=n)) (Seen.turn (hs (q.thr n).f (doneF (q.thr n).f i q.mem) 0) rfl fun m hm hb hu h0 h9=>⟨hu,rfl,?_⟩)
  show (upd q.thr n _ m).why≠0∧(upd q.thr n _ m).why≠9∧(upd q.thr n _ m).ins.op=_
  rw [upd_ne _ _ hb]
  have e:∀ r,(if seenB i.op then q.tell n r else q).thr=q.thr:=fun r=>by split <;> rfl
  rw [e] at h0 h9 ⊢
  exact ⟨h0,h9,rfl⟩
theorem Seen.same {q':Sp} (h:Seen (·=n) q) (h1:q'.recs=q.recs) (h2:q'.st=q.st) (h3:q'.thr=q.thr):Seen (·=n) q':=h.turn h1 fun m _ _ hu h0 h9=>by
 rw [h2,h3]
 exact ⟨hu,rfl,h0,h9,rfl⟩
theorem Seen.deed (h:Seen (·=n) q) (h16:q.st.length=16) (i:Ins) (ch:Int):Seen (·=n) (q.deed n i ch).1:=by
  unfold Sp.deed
  dsimp only
  split
  · unfold Sp.spawn
    dsimp only
    split
    · exact (h.begin _ _).setT n _ fun hb=>absurd rfl hb
    · exact (h.begin _ _).setT n _ fun hb=>absurd rfl hb
  split
  · exact h.setT n _ fun hb=>absurd rfl hb
  split
  · unfold Sp.join
    dsimp only
    split
    · rename_i e
      obtain ⟨k,ek,hk,hne,_⟩:=zd9 e
      have hkl:=zcm hk
      rw [h16] at hkl
      rw [ek,Int.toNat_natCast]
      split
      · rename_i e9
        refine (h.setT n _ fun hb=>absurd rfl hb).free h16 k hkl (.inr (.inr ?_))
        show (upd q.thr n _ k).why=9
        rw [upd_ne _ _ hne]
        exact e9
      · exact h.setT k _ fun _ h0 h9=>⟨h0,h9,rfl⟩
    · exact h
  split
  · unfold Sp.detach
    dsimp only
    split
    · rename_i e
      obtain ⟨k,ek,hk,hne,_⟩:=zd9 e
      have hkl:=zcm hk
      rw [h16] at hkl
      rw [ek,Int.toNat_natCast]
      split
      · rename_i e9
        exact h.free h16 k hkl (.inr (.inr e9))
      · exact h.setT k _ fun _ h0 h9=>⟨h0,h9,rfl⟩
    · exact h
  split
  · unfold Sp.pass
    dsimp only
    repeat' split
    all_goals first
      | exact h.same rfl rfl rfl
      | (unfold Sp.signal
         dsimp only
         exact Seen.moved (Seen.same (q':={ q with gates:=(q.gates.signal i.n ch (i.op == 29)).1 }) h rfl rfl rfl) _)
  split
  · unfold Sp.ask Sp.askW
    repeat' split
    all_goals exact h.same rfl rfl rfl
  split
  · unfold Sp.ask Sp.askW
    repeat' split
    all_goals exact h.same rfl rfl rfl
  split
  · unfold Sp.put Sp.putW
    dsimp only
    repeat' split
    all_goals exact h.same rfl rfl rfl
  split
  · have hg:Seen (·=n) (q.getW n i.n).1:=by
      unfold Sp.getW
      dsimp only
      repeat' split
      all_goals exact h.same rfl rfl rfl
    unfold Sp.get
    dsimp only
    split
    · exact hg.setT n _ fun hb=>absurd rfl hb
    · exact hg
  split
  · unfold Sp.sleep
    repeat' split
    all_goals exact h.same rfl rfl rfl
  split
  · exact h
  · exact h
end
section
variable {q : Sp} {n : Nat}
theorem zku {q:Sp} (h16:q.st.length=16) {k m:Nat} (hk:k < 16) (hne:m≠k):us (q.free k).st m=us q.st m:=by
 show us (freed q.st (q.hnd k)) m=us q.st m
 unfold freed
 split
 ·rfl
 ·rename_i j e
  obtain ⟨e1,e2,e3,e4⟩:=zay e
  rw [zha _ _ _ _ _ e3]
  have hj:j=k:=by
   unfold Sp.hnd at e2
   by_cases hun:us q.st k=true
   ·rw [if_pos hun] at e2
    exact ze0 (by omega) hk e2
   ·rw [if_neg hun] at e2
    unfold hd at e2
    omega
  rw [if_neg (by omega)]
theorem us_begin (q:Sp) (fn:Int) (w m:Nat):us (q.begin fn w).1.st m=if least q.st < q.st.length∧m=least q.st then true else us q.st m:=by
 unfold Sp.begin
 split
 ·rename_i hl
  show us (taken q.st) m=_
  unfold taken
  rw [zha _ _ _ _ _ hl]
  by_cases e:m=least q.st
  ·rw [if_pos e,if_pos ⟨hl,e⟩]
  ·rw [if_neg e,if_neg (fun h=>e h.2)]
 ·rename_i hl
  rw [if_neg (fun h=>hl h.1)]
theorem zg3:∀ (l:List Int) (q:Sp),(q.moved l).st=q.st
 | [],q=>rfl
 | x::l,q=>zg3 l _
theorem us_deed (h16:q.st.length=16) (hu:us q.st n=true) (i:Ins) (ch:Int):us (q.deed n i ch).1.st n=true:=by
  have hb:∀ fn w,us (q.begin fn w).1.st n=true:=fun fn w=>by
    rw [us_begin]
    split
    · rfl
    · exact hu
  unfold Sp.deed
  dsimp only
  split
  · unfold Sp.spawn
    dsimp only
    split <;> exact hb _ _
  split
  · exact hu
  split
  · unfold Sp.join
    dsimp only
    split
    · rename_i e
      obtain ⟨k,ek,hk,hne,_⟩:=zd9 e
      have hkl:=zcm hk
      rw [h16] at hkl
      rw [ek,Int.toNat_natCast]
      split
      · rw [zku (q:=q.setT n _) h16 hkl (Ne.symm hne)]
        exact hu
      · exact hu
    · exact hu
  split
  · unfold Sp.detach
    dsimp only
    split
    · rename_i e
      obtain ⟨k,ek,hk,hne,_⟩:=zd9 e
      have hkl:=zcm hk
      rw [h16] at hkl
      rw [ek,Int.toNat_natCast]
      split
      · rw [zku h16 hkl (Ne.symm hne)]
        exact hu
      · exact hu
    · exact hu
  split
  · unfold Sp.pass
    dsimp only
    repeat' split
    all_goals first
      | exact hu
      | (unfold Sp.signal
         dsimp only
         rw [zg3]
         exact hu)
  split
  · unfold Sp.ask Sp.askW
    repeat' split
    all_goals exact hu
  split
  · unfold Sp.ask Sp.askW
    repeat' split
    all_goals exact hu
  split
  · unfold Sp.put Sp.putW
    dsimp only
    repeat' split
    all_goals exact hu
  split
  · have hg:(q.getW n i.n).1.st=q.st:=by
      unfold Sp.getW
      dsimp only
      repeat' split
      all_goals rfl
    unfold Sp.get
    dsimp only
    split
    · show us (q.getW n i.n).1.st n=true
      rw [hg];exact hu
    · rw [hg];exact hu
  split
  · unfold Sp.sleep
    repeat' split
    all_goals exact hu
  split
  · exact hu
  · exact hu
theorem zgu {c:Prop} [Decidable c] {a b:Int} (ha:a≠9) (hb:b≠9):(if c then a else b)≠9:=by split <;> assumption
theorem deed_why (q:Sp) (n:Nat) (i:Ins) (ch:Int):(q.deed n i ch).2.why≠9:=by
 have z0:(0:Int)≠9:=by decide
 have z1:(1:Int)≠9:=by decide
 have z2:(2:Int)≠9:=by decide
 have z3:(3:Int)≠9:=by decide
 have z4:(4:Int)≠9:=by decide
 have z5:(5:Int)≠9:=by decide
 have z6:(6:Int)≠9:=by decide
 have z7:(7:Int)≠9:=by decide
 have z8:(8:Int)≠9:=by decide
 unfold Sp.deed
 dsimp only
 split
 ·unfold Sp.spawn;dsimp only;split <;> exact z0
 split
 ·exact z0
 split
 ·unfold Sp.join;dsimp only;repeat' split
  all_goals first | exact z0 | exact z4
 split
 ·unfold Sp.detach;dsimp only;repeat' split
  all_goals exact z0
 split
 ·unfold Sp.pass;dsimp only
  split
  ·exact zgu z1 z0
  split
  ·exact z0
  split
  ·exact zgu z2 z0
  split
  ·exact zgu z3 z0
  split
  ·exact z0
  ·exact z0
 split
 ·unfold Sp.ask Sp.askW;repeat' split
  all_goals first | exact z0 | exact z5
 split
 ·unfold Sp.ask Sp.askW;repeat' split
  all_goals first | exact z0 | exact z5
 split
 ·unfold Sp.put;dsimp only;exact zgu z0 z7
 split
 ·unfold Sp.get;dsimp only;split
  ·exact z0
  ·exact z6
 split
 ·unfold Sp.sleep;repeat' split
  all_goals first | exact z0 | exact z8
 split
 ·exact z0
 ·exact z0
theorem Seen.act (h:Seen (·=n) q) (hn:n < 16) (hu:us q.st n=true) (h16:q.st.length=16) (i:Ins) (ch:Int) (hw:∀ p ∈ (q.deed n i ch).2.woken,InR p.1):Seen (fun _=>False) (q.act n i ch).1:=by
 have hd:=h.deed h16 i ch
 have hu':=us_deed h16 hu i ch
 have h9:=deed_why q n i ch
 unfold Sp.act
 dsimp only
 refine Seen.wake _ ?_ hw
 by_cases h0:(q.deed n i ch).2.why=0
 ·rw [if_pos h0,decide_eq_true h0]
  exact ((hd.setT n _ fun hb=>absurd rfl hb).tell hn hu' _ rfl).end_
 ·rw [if_neg h0,decide_eq_false h0]
  exact hd.stop hn hu' _ h0 h9 _ rfl
theorem Seen.run (h:Seen (fun _=>False) q) (W:q.Well) (slot ch:Int):Seen (fun _=>False) (q.run slot ch).1:=by
 unfold Sp.run
 dsimp only
 by_cases hu:q.usedB slot=false
 ·rw [if_pos hu];exact h
 rw [if_neg hu]
 by_cases hw:(q.thr slot.toNat).why≠0
 ·rw [if_pos hw];exact h
 rw [if_neg hw]
 have hus:us q.st slot.toNat=true:=by
  have hu':q.usedB slot=true:=by simpa using hu
  unfold Sp.usedB at hu'
  simp only [Bool.and_eq_true] at hu'
  exact hu'.2
 have h16:slot.toNat < 16:=by
  have:=zcm hus
  rw [W.h16] at this
  exact this
 have ha:=h.acts slot.toNat (.inl (Decidable.not_not.1 hw))
 by_cases hn:nextB q.prog (q.thr slot.toNat).f=false
 ·rw [if_pos hn]
  exact ha.exit h16 hus W.h16 (W.join _) 0
 rw [if_neg hn]
 by_cases h23:(nextI q.prog (q.thr slot.toNat).f).op=23
 ·rw [if_pos h23]
  refine Seen.exit (ha.setT slot.toNat _ fun hb=>absurd rfl hb) h16 hus W.h16 ?_ _
  show InR (upd q.thr slot.toNat _ slot.toNat).joiner
  rw [upd_same]
  exact W.join _
 rw [if_neg h23]
 by_cases hc:classOf (nextI q.prog (q.thr slot.toNat).f).op=1
 ·rw [if_pos hc]
  exact ha.plain h16 hus W.h16 (W.join _) _
 rw [if_neg hc]
 obtain ⟨d1,d2,d3,d4,d5,d6,d7⟩:=deedOk W h16 hus (nextI q.prog (q.thr slot.toNat).f) ch
 exact ha.act h16 hus W.h16 _ ch d3
theorem Seen.done (h:Seen (fun _=>False) q) (W:q.Well) (k:Int):Seen (fun _=>False) (q.done k).1:=by
 unfold Sp.done
 split
 ·exact h
 ·rename_i hl
  refine Seen.wake _ (h.turn (q':={ q with blocks:=_,asked:=_ }) rfl fun m _ _ hu h0 h9=>⟨hu,rfl,h0,h9,rfl⟩) fun p hp=>?_
  rw [List.mem_singleton] at hp
  rw [hp]
  exact zjo (p:=fun r:Rq=>InR r.who) W.ain zr _
end
open Go Go.RowKit
theorem zgp (p:Prg):Sp.fresh p=({ Sp.blank p with tubes:=p.pipes.map fun r=>⟨r,[],[],[]⟩,st:=taken (Dk.blank 16) }:Sp).setT 0 (Thr.new 0 0):=rfl
theorem zhr {p:Prg} (F:Fits p):Life 0 (Sp.fresh p):=by
 rw [zgp]
 refine Life.setT (q:={ Sp.blank p with tubes:=p.pipes.map fun r=>⟨r,[],[],[]⟩,st:=taken (Dk.blank 16) }) ?_ 0 (ThrOk.new 0 (by unfold i64;omega) 0 (by omega))
 refine ⟨fun m=>⟨⟨0,by omega,rfl⟩,zr,⟨⟨by show _≤(0:Int);omega,by show (0:Int)≤_;omega⟩,⟨by show _≤(0:Int);omega,by show (0:Int)≤_;omega⟩,fun k=>by show (0:Nat) < _;omega⟩,by show (0:Nat) < _;omega⟩,fun t ht=>?_,fun r hr=>absurd hr (by simp [Sp.blank]),by simp [Sp.blank],fun x hx=>absurd hx (by simp [Sp.blank,keysOf]),by simp [Sp.blank],fun x hx=>?_,fun x hx=>?_⟩
 ·obtain ⟨r,_,rfl⟩:=List.mem_map.1 ht
  exact ⟨⟨by simp,by simp,by simp⟩,fun x hx=>absurd hx (by simp),fun x hx=>absurd hx (by simp),fun x hx=>absurd hx (by simp)⟩
 ·rw [(List.mem_replicate.1 hx).2];omega
 ·rw [(List.mem_replicate.1 hx).2];omega
end Dk
namespace Go.Proofs.YtpnajphbjfehnaaGreat
open Go.RowKit Go.Lib
section
variable {W w w' : World} {us : List Dk.Thing}
theorem NewC_yes {B:Nat} (h:Dk.Sep W w us) (s:Dk.Sh) (p:Dk.Prg) (hp:Dk.PrgAt B w s p) (hB:B≤w.heap.size) (hk:Dk.check p=0) :
  Calls Tryz.prog 10 #[Dk.pv s p] w fun e w'=>∃ L:Dk.Loc,e=.returned (.tuple #[.pointer (some ⟨L.b,0,none⟩),.int .i64 0])∧Lives W w' L (Dk.Sp.fresh p) (Dk.Sp.fresh p) 0 1 0 us:=by
 have F:=Dk.zhq hk
 refine (NewC_t s p w hp hB hk ⟨F.fl,F.cl,F.wd.1,F.wd.2,F.pp⟩).mono ?_
 rintro e w' ⟨L,rfl,hC⟩
 exact ⟨L,rfl,Cor.rebase h hC,Dk.zhr F,Dk.Dims.refl _,by simp [Dk.zgp,Dk.Sp.setT,Dk.Sp.blank]⟩
end
theorem do_ok1 (f:Dk.Frm) (i:Dk.Ins) (m:List Nat) (L C:Nat) (w:World) (wb:Nat) (hf:f.ok) (hc:Dk.codeB i=true) (hx:Dk.faultB f i L=false) (hm:Dk.Box w wb (Dk.wc m) 73) (hL:m.length=L) (hmax:L≤maxLen) (hop:i.op=1) :
  Calls Tryz.prog 218 #[Dk.fv f,Dk.iv i,.slice (some ⟨wb,0,none⟩) L C] w fun e w'=>e=.returned (Dk.fv (Dk.doneF f i m))∧Below wb w w'∧Dk.Box w' wb (Dk.wc (Dk.doneM f i m)) 73:=by
 obtain ⟨ra,rb,rc⟩:=Dk.zje hc
 clear hc
 obtain ⟨op,a,b,c,n⟩:=i
 simp only at ra rb rc hop
 subst hop
 obtain ⟨a0,a8⟩:=ra (by decide)
 exact (do_set f a b c n _ L C w a0 a8).mono fun e w' ⟨he,hb⟩=>zki he hm hb
theorem zio (f:Dk.Frm) (i:Dk.Ins) (A:Option Addr) (L C:Nat) (m:List Nat) (w:World) (hf:f.ok) (hi:i.ok) (hc:Dk.codeB i=true) (hx:Dk.faultB f i L=false) (hr:Dk.Row 1 0 Dk.IsWord w.heap.size w A L C m) (hL:L≤1000) (hop:i.op=1) :
  Calls Tryz.prog 200 #[Dk.fv f,Dk.iv i,.slice A L C] w fun e w'=>PlainSaid f i m L e w w':=by
 have HOP:Hid _:=hop
 clear hop
 have hmf:∀ (fn:Fn) (first cap:Array Value) (w:World),(Instr.makeFunc fn first cap).run Tryz.prog w=.ok (.func fn first cap) w:=fun _ _ _ _=>rfl
 obtain ⟨X,e0⟩:∃ X,((((w.alloc (.cells #[.int .i64 f.fn,.int .i64 f.pc,.int .u64 (f.r 0:Nat),.int .u64 (f.r 1:Nat),.int .u64 (f.r 2:Nat),.int .u64 (f.r 3:Nat),.int .u64 (f.r 4:Nat),.int .u64 (f.r 5:Nat),.int .u64 (f.r 6:Nat),.int .u64 (f.r 7:Nat)] 89)).alloc (.cells #[.int .i64 i.op,.int .i64 i.a,.int .i64 i.b,.int .i64 i.c,.int .u64 (i.n:Nat)] 75)).alloc (.cells #[.int .i64 0,.int .i64 0,.int .u64 0,.int .u64 0,.int .u64 0,.int .u64 0,.int .u64 0,.int .u64 0,.int .u64 0,.int .u64 0] 89)).alloc (.cells #[.slice none 0 0] 78)).alloc (.cells #[.int .i64 0] 27)=X:=⟨_,rfl⟩
 obtain ⟨b1,b2,b3,b4,b5,u0,z0⟩:=five f i w X e0
 have c2:=b2.cell
 have hmk:=zh0 L hL
 have hlen:=hr.len
 go_enter_defers Tryz.func200,Tryz.ntmps200
 go_wp2_with fail
 try rw [e0]
 clear e0 c2
 refine (zeu i _ hi hc).mono ?_
 rintro e w1 ⟨rfl,hb⟩
 obtain ⟨X2,e2⟩:∃ X2,(w1.alloc (.cells (madeCells #[.int .u64 0] L) 73)).setCell ⟨w.heap.size+1+1+1,0,none⟩ (.slice (some ⟨w1.heap.size,0,none⟩) L L)=X2:=⟨_,rfl⟩
 obtain ⟨d1,d2,d3,d4,d5,dw,u2,hlt⟩:=copied f i w X w1 X2 A L C m hr hL b1 b2 b3 b4 b5 u0 hb e2
 have q1:(w1.alloc (.cells (madeCells #[.int .u64 0] L) 73)).cell? ⟨w.heap.size+1+1+1,0,none⟩=some (.slice none 0 0):=((b4.up hb).old _).cell 0
 have q2:=((b4.up hb).old (.cells (madeCells #[.int .u64 0] L) 73)).frozen 0
 have q4:X2.cell? ⟨w.heap.size+1+1+1,0,none⟩=some (.slice (some ⟨w1.heap.size,0,none⟩) L L):=d4.cell 0
 have hsrc:=row_src hr u2
 have hcs:(Dk.wc m).toList.length=L:=by simp [Dk.wc,hlen]
 have hcur:(madeCells #[.int .u64 0] L).toList.length=L:=by simp [size_madeCells]
 have hone:∀ v ∈ (Dk.wc m).toList,v.oneCell'=true:=by simp [Dk.wc,Value.oneCell']
 obtain ⟨cs,ecs⟩:∃ cs,cs=(Dk.wc m).toList:=⟨_,rfl⟩
 obtain ⟨cur,ecur⟩:∃ cur,cur=(madeCells #[.int .u64 0] L).toList:=⟨_,rfl⟩
 rw [← ecs] at hsrc hcs hone
 rw [← ecur] at hcur
 have hdw:X2.heap[w1.heap.size]? = some (.cells cur.toArray 73 (0,0)):=by rw [ecur];simpa using dw.heap
 have ECS:Hid _:=ecs
 have ECU:Hid _:=ecur
 have HDW:Hid _:=hdw
 have HSR:Hid _:=hsrc
 have HCS:Hid _:=hcs
 have HCU:Hid _:=hcur
 have HON:Hid _:=hone
 have HLT:Hid _:=hlt
 clear ecs ecur hdw hsrc hcs hcur hone dw b1 b2 b3 b4 b5 hlen z0 hlt
 go_wp2_with (first | (rw [e2];clear e2) | (refine wpList_copy_splice rfl _ _ 78 78 rfl 73 Tryz.underlying78 zkz _ _ _ _ _ _ rfl rfl w1.heap.size 0 cur 73 HDW.out cs (by rw [HCS.out];exact (Nat.min_self L).symm) (fun h=>⟨rfl,HSR.out h⟩) (by rw [HCS.out,HCU.out];omega) HON.out w1.heap.size X2 (Below.refl _ _) (Nat.le_refl _) ?_;intro X3 HG hb3))
 simp only [zD]
 have g1:=d1.below hb3 (by have:=HLT.out;omega)
 have g2:=d2.below hb3 (by have:=HLT.out;omega)
 have g3:=d3.below hb3 (by have:=HLT.out;omega)
 have g4:=d4.below hb3 (by have:=HLT.out;omega)
 have g5:=d5.below hb3 (by have:=HLT.out;omega)
 have gw:Dk.Box X3 w1.heap.size (Dk.wc m) 73:=⟨by
  have:=HG.out
  rw [zh7 _ _ (by rw [HCS.out,HCU.out])] at this
  rw [this,ECS.out]⟩
 have u3:Below w.heap.size w X3:=u2.trans (hb3.mono (by have:=HLT.out;omega))
 have hN:=HLT.out
 have hdo:=do_ok1 f i m L L X3.drew w1.heap.size hf hc hx gw.drew hr.len (by unfold maxLen;omega) HOP.out
 obtain ⟨fz,efz⟩:∃ fz,Dk.doneF f i m=fz:=⟨_,rfl⟩
 obtain ⟨mz,emz⟩:∃ mz,Dk.doneM f i m=mz:=⟨_,rfl⟩
 rw [efz,emz] at hdo
 have HDO:Hid _:=hdo
 have EFZ:Hid _:=efz
 have EMZ:Hid _:=emz
 clear hdo efz emz
 refine Dk.zav (S:=fun w'=>Dk.Box w' w.heap.size (Dk.fc f) 89∧Dk.Box w' (w.heap.size+1) (Dk.ic i) 75∧Dk.Box w' (w.heap.size+1+1+1) #[.slice (some ⟨w1.heap.size,0,none⟩) L L] 78) [0,1,2,4] [3,5,6,7] (by kernel_rfl) (by kernel_rfl) ⟨g1.drew,g2.drew,g4.drew⟩ ?_
 refine Dk.za (v:=Dk.fv f) rfl rfl (fun w' hw=>?_) ?_
 ·have c:=hw.1.cell
  go_simp
 simp only [zD]
 refine Dk.za (v:=Dk.iv i) rfl rfl (fun w' hw=>?_) ?_
 ·have c:=hw.2.1.cell
  go_simp
 simp only [zD]
 refine Dk.za (v:=.slice (some ⟨w1.heap.size,0,none⟩) L L) rfl rfl (fun w' hw=>?_) ?_
 ·have c:=hw.2.2.cell 0
  go_simp
 simp only [zD]
 refine Dk.za (v:=.slice (some ⟨w1.heap.size,0,none⟩) L L) rfl rfl (fun w' hw=>?_) ?_
 ·have c:=hw.2.2.cell 0
  go_simp
 simp only [zD]
 refine Dk.zan rfl rfl ?_
 refine zic (f:=218) (args:=#[Dk.fv f,Dk.iv i,.slice (some ⟨w1.heap.size,0,none⟩) L L]) (R:=fun w'=>Below w1.heap.size X3.drew w'∧Dk.Box w' w1.heap.size (Dk.wc mz) 73) ?_ HDO.out ?_
 ·go_simp
 rintro w2 ⟨v2,vw⟩
 have y1:=g1.drew.below v2 (by omega)
 have y2:=g2.drew.below v2 (by omega)
 have y3:=g3.drew.below v2 (by omega)
 have y4:=g4.drew.below v2 (by omega)
 have y5:=g5.drew.below v2 (by omega)
 have uu:Below w.heap.size w w2:=(Dk.zm u3).trans (v2.mono (by omega))
 refine ⟨⟨y1,y2,y4⟩,?_⟩
 simp only [zD]
 refine Dk.zan rfl rfl ?_
 refine wp_store_row 89 _ _ rfl (w.heap.size+1+1) (Dk.fc fz) rfl rfl 89 _ y3.heap zbw rfl (Dk.zbv _) ?_
 have t1:=y1.zao (b':=w.heap.size+1+1) (cs':=Dk.fc fz) (by omega)
 have t2:=y2.zao (b':=w.heap.size+1+1) (cs':=Dk.fc fz) (by omega)
 have t3:=y3.row (cs':=Dk.fc fz)
 have t4:=y4.zao (b':=w.heap.size+1+1) (cs':=Dk.fc fz) (by omega)
 have t5:=y5.zao (b':=w.heap.size+1+1) (cs':=Dk.fc fz) (by omega)
 have tw:=vw.zao (b':=w.heap.size+1+1) (cs':=Dk.fc fz) (by omega)
 have tu:=below_setRow (g:=w.heap.size+1+1) uu (by omega) (Dk.fc fz)
 generalize w2.setRow (w.heap.size+1+1) (Dk.fc fz)=w3 at *
 refine ⟨⟨t1,t2,t4⟩,?_⟩
 simp only [zD]
 refine Dk.zan rfl rfl ?_
 have s4:=t4.cell 0
 have f4:=t4.frozen 0
 refine zdy (w':=w3.setCell ⟨w.heap.size+1+1+1,0,none⟩ (.slice (some ⟨w1.heap.size,0,none⟩) L L)) ?_ ?_
 ·go_simp
 have r1:=t1.zk (b':=w.heap.size+1+1+1) (by omega) 0 (.slice (some ⟨w1.heap.size,0,none⟩) L L)
 have r2:=t2.zk (b':=w.heap.size+1+1+1) (by omega) 0 (.slice (some ⟨w1.heap.size,0,none⟩) L L)
 have r3:=t3.zk (b':=w.heap.size+1+1+1) (by omega) 0 (.slice (some ⟨w1.heap.size,0,none⟩) L L)
 have r4:Dk.Box _ _ #[.slice (some ⟨w1.heap.size,0,none⟩) L L] 78:=t4.set 0 (.slice (some ⟨w1.heap.size,0,none⟩) L L)
 have r5:=t5.zk (b':=w.heap.size+1+1+1) (by omega) 0 (.slice (some ⟨w1.heap.size,0,none⟩) L L)
 have rw':=tw.zk (b':=w.heap.size+1+1+1) (by omega) 0 (.slice (some ⟨w1.heap.size,0,none⟩) L L)
 have ru:=tu.setCell (p:=⟨w.heap.size+1+1+1,0,none⟩) (by show w.heap.size≤w.heap.size+1+1+1;omega) (.slice (some ⟨w1.heap.size,0,none⟩) L L)
 clear s4 f4
 generalize w3.setCell ⟨w.heap.size+1+1+1,0,none⟩ (.slice (some ⟨w1.heap.size,0,none⟩) L L)=w4 at *
 refine ⟨⟨r1,r2,r4⟩,?_⟩
 refine Dk.zan rfl rfl ?_
 have s5:=r5.cell 0
 have f5:=r5.frozen 0
 refine zdy (w':=w4.setCell ⟨w.heap.size+1+1+1+1,0,none⟩ (.int .i64 0)) ?_ ?_
 ·go_simp
 have x1:=r1.zk (b':=w.heap.size+1+1+1+1) (by omega) 0 (.int .i64 0)
 have x2:=r2.zk (b':=w.heap.size+1+1+1+1) (by omega) 0 (.int .i64 0)
 have x3:=r3.zk (b':=w.heap.size+1+1+1+1) (by omega) 0 (.int .i64 0)
 have x4:=r4.zk (b':=w.heap.size+1+1+1+1) (by omega) 0 (.int .i64 0)
 have x5:Dk.Box _ _ #[.int .i64 0] 27:=r5.set 0 (.int .i64 0)
 have xw:=rw'.zk (b':=w.heap.size+1+1+1+1) (by omega) 0 (.int .i64 0)
 have xu:=ru.setCell (p:=⟨w.heap.size+1+1+1+1,0,none⟩) (by show w.heap.size≤w.heap.size+1+1+1+1;omega) (.int .i64 0)
 clear s5 f5
 generalize w4.setCell ⟨w.heap.size+1+1+1+1,0,none⟩ (.int .i64 0)=w5 at *
 refine ⟨⟨x1,x2,x4⟩,?_⟩
 show NoPanic _ Exit.normal _ _
 refine NoPanic.normal ?_
 simp only [Act.put]
 go_wp2
 refine leaves_cons (f:=215) (args:=#[.pointer (some ⟨w.heap.size+1+1,0,none⟩),.pointer (some ⟨w.heap.size+1+1+1,0,none⟩),.pointer (some ⟨w.heap.size+1+1+1+1,0,none⟩)]) (by simp) (by simp [go_sem]) ?_
 refine (zhj _ _ _ _).mono ?_
 rintro e u' w6 ⟨rfl,rfl,rfl⟩
 have c6:=x3.cell
 have c7:w6.cell? ⟨w.heap.size+1+1+1,0,none⟩=some (.slice (some ⟨w1.heap.size,0,none⟩) L L):=x4.cell 0
 have c8:w6.cell? ⟨w.heap.size+1+1+1+1,0,none⟩=some (.int .i64 0):=x5.cell 0
 simp [Leaves,settle,results,Tryz.results200,go_sem,c6,c7,c8]
 exact ⟨_,by rw [EFZ.out],by rw [EMZ.out];exact xw,xu,by have:=HLT.out;omega⟩
section
variable {W w w' : World} {L : Dk.Loc} {q : Dk.Sp} {k n : Nat} {us us' us1 us2 : List Dk.Thing} {t : Dk.Thing}
theorem zkj (h:Cor W w L q k us) (mA:Option Addr) (mC:Nat) (c8:w.cell? ⟨L.b,8,none⟩=some (.slice mA q.mem.length mC)) (f:Dk.Frm) (i:Dk.Ins) (hf:f.ok) (hi:i.ok) (hc:Dk.codeB i=true) (hx:Dk.faultB f i q.mem.length=false) (hm:q.mem.length≤1000) (hop:i.op=1) :
  Calls Tryz.prog 200 #[Dk.fv f,Dk.iv i,.slice mA q.mem.length mC] w fun e w'=>∃ wb,e=.returned (.tuple #[Dk.fv (Dk.doneF f i q.mem),.slice (some ⟨wb,0,none⟩) q.mem.length q.mem.length,.int .i64 0])∧Cor W w' L q k (Dk.rowOf 73 1 (.slice (some ⟨wb,0,none⟩) q.mem.length q.mem.length) q.mem.length (Dk.uwK (Dk.doneM f i q.mem))::us)∧w'.cell? ⟨L.b,8,none⟩=some (.slice mA q.mem.length mC):=by
 refine (zio f i mA q.mem.length mC q.mem w hf hi hc hx (zkk (h.memIs c8) h.words) hm hop).mono ?_
 rintro e w' ⟨wb,rfl,hb,u,hw⟩
 refine ⟨wb,rfl,h.addRow u ?_,by rw [u.cell (by show L.b < _;exact h.lt)];exact c8⟩
 refine Dk.zel hb hw (by simp [Dk.zbt]) (by unfold maxLen;omega) (by simp [Dk.zbt]) (Nat.le_refl _) (fun j hj=>by simp)
theorem ze6 (h:Cor W w L q k us) (hk:k≤100000) (hn:n < 16) (i:Dk.Ins) (hf:(q.thr n).f.ok) (hi:(i:Dk.Ins).ok) (hm:q.mem.length≤1000) (hx:Dk.faultB (q.thr n).f i q.mem.length=false) (hc:Dk.codeB i=true) (hs:Dk.seenB i.op=false) (hop:i.op=1) :
  Calls Tryz.prog 175 #[.pointer (some ⟨L.b,0,none⟩),.int .i64 (n:Int),.agg #[.int .i64 i.op,.int .i64 i.a,.int .i64 i.b,.int .i64 i.c,.int .u64 (i.n:Nat)]] w fun e w'=>e=.returned (eff none 0 0 false false false)∧Cor W w' L { q with mem:=Dk.doneM (q.thr n).f i q.mem,thr:=Dk.upd q.thr n { q.thr n with f:=Dk.doneF (q.thr n).f i q.mem } } k us:=by
 obtain ⟨W1,e1⟩:∃ W1,W1=w.alloc (.cells #[.int .i64 i.op,.int .i64 i.a,.int .i64 i.b,.int .i64 i.c,.int .u64 (i.n:Nat)] 75):=⟨_,rfl⟩
 obtain ⟨W2,e2⟩:∃ W2,W2=W1.alloc (.cells #[.slice none 0 0,.bool false,.bool false,.bool false] 43):=⟨_,rfl⟩
 have z1:W1.heap.size=w.heap.size+1:=by rw [e1,World.size_alloc]
 have h2:=((h.newBox e1).newBox e2).swap
 have hd:=h2.below (Dk.zm (Below.refl _ _))
 obtain ⟨mA,mC,c8d,hrow⟩:=hd.memAt
 have KP:∀ w1 us',Cor W w1 L q k us'→w1.cell? ⟨L.b,8,none⟩=some (.slice mA q.mem.length mC)→Calls Tryz.prog 200 #[Dk.fv (q.thr n).f,.agg #[.int .i64 i.op,.int .i64 i.a,.int .i64 i.b,.int .i64 i.c,.int .u64 (i.n:Nat)],.slice mA q.mem.length mC] w1 fun e w'=>∃ wb,e=.returned (.tuple #[Dk.fv (Dk.doneF (q.thr n).f i q.mem),.slice (some ⟨wb,0,none⟩) q.mem.length q.mem.length,.int .i64 0])∧Cor W w' L q k (Dk.rowOf 73 1 (.slice (some ⟨wb,0,none⟩) q.mem.length q.mem.length) q.mem.length (Dk.uwK (Dk.doneM (q.thr n).f i q.mem))::us')∧w'.cell? ⟨L.b,8,none⟩=some (.slice mA q.mem.length mC):=fun w1 us' h1 c1=>zkj h1 mA mC c1 _ i hf hi hc hx hm hop
 have hmw:∀ x ∈ Dk.doneM (q.thr n).f i q.mem,x < 2 ^ 64:=zgn hf h.words
 have hml:(Dk.doneM (q.thr n).f i q.mem).length=q.mem.length:=Dk.zbt _ _ _
 have MK:∀ w' us',Cor W w' L q k us'→(w'.cell? ⟨L.b,10+n*20,none⟩=some (.int .i64 (q.thr n).f.fn)∧w'.cell? ⟨L.b,10+n*20+1,none⟩=some (.int .i64 (q.thr n).f.pc)∧w'.cell? ⟨L.b,10+n*20+2,none⟩=some (.int .u64 ((q.thr n).f.r 0:Nat))∧w'.cell? ⟨L.b,10+n*20+3,none⟩=some (.int .u64 ((q.thr n).f.r 1:Nat))∧w'.cell? ⟨L.b,10+n*20+4,none⟩=some (.int .u64 ((q.thr n).f.r 2:Nat))∧w'.cell? ⟨L.b,10+n*20+5,none⟩=some (.int .u64 ((q.thr n).f.r 3:Nat))∧w'.cell? ⟨L.b,10+n*20+6,none⟩=some (.int .u64 ((q.thr n).f.r 4:Nat))∧w'.cell? ⟨L.b,10+n*20+7,none⟩=some (.int .u64 ((q.thr n).f.r 5:Nat))∧w'.cell? ⟨L.b,10+n*20+8,none⟩=some (.int .u64 ((q.thr n).f.r 6:Nat))∧w'.cell? ⟨L.b,10+n*20+9,none⟩=some (.int .u64 ((q.thr n).f.r 7:Nat))):=fun w' us' h'=>⟨h'.cellAt hn 0 (by omega),h'.cellAt hn 1 (by omega),h'.cellAt hn 2 (by omega),h'.cellAt hn 3 (by omega),h'.cellAt hn 4 (by omega),h'.cellAt hn 5 (by omega),h'.cellAt hn 6 (by omega),h'.cellAt hn 7 (by omega),h'.cellAt hn 8 (by omega),h'.cellAt hn 9 (by omega)⟩
 have KS:=seen_any i.op
 have he:(Dk.Sp.setT q n { q.thr n with f:=Dk.doneF (q.thr n).f i q.mem }).thr=Dk.upd q.thr n { q.thr n with f:=Dk.doneF (q.thr n).f i q.mem }:=rfl
 have FIN:∀ w',Cor W w' L ({ q.setT n { q.thr n with f:=Dk.doneF (q.thr n).f i q.mem } with mem:=Dk.doneM (q.thr n).f i q.mem }) k us→Cor W w' L { q with mem:=Dk.doneM (q.thr n).f i q.mem,thr:=Dk.upd q.thr n { q.thr n with f:=Dk.doneF (q.thr n).f i q.mem } } k us:=fun w' h'=>h'
 have PUTF:∀ j,j < 20→({ q.thr n with f:=Dk.doneF (q.thr n).f i q.mem }:Dk.Thr).cells[j]? = if j < (Dk.fc (Dk.doneF (q.thr n).f i q.mem)).toList.length then (Dk.fc (Dk.doneF (q.thr n).f i q.mem)).toList[j]? else (q.thr n).cells[j]?:=fun j hj=>by
  have:j=0∨j=1∨j=2∨j=3∨j=4∨j=5∨j=6∨j=7∨j=8∨j=9∨j=10∨j=11∨j=12∨j=13∨j=14∨j=15∨j=16∨j=17∨j=18∨j=19:=by omega
  rcases this with rfl | rfl | rfl | rfl | rfl | rfl | rfl | rfl | rfl | rfl | rfl | rfl | rfl | rfl | rfl | rfl | rfl | rfl | rfl | rfl <;> rfl
 rw [hs] at KS
 generalize eF:Dk.doneF (q.thr n).f i q.mem=fz at *
 generalize eM:Dk.doneM (q.thr n).f i q.mem=mz at *
 generalize eT:({ q.thr n with f:=fz }:Dk.Thr)=tz at *
 generalize (q.thr n).f=f at *
 have hmz:mz.length=q.mem.length:=hml
 have i1:(n:Int) < 16:=by omega
 have i2:(0:Int)≤(n:Int):=by omega
 have H1:Hid _:=e1.symm
 have H2:Hid _:=e2.symm
 have HP:Hid _:=PUTF
 have HZ:Hid (mz.length=q.mem.length):=hmz
 clear h h2 e1 e2 z1 hrow eF eM eT he hml hmz PUTF hx hc hs hi hf hop
 go_enter Tryz.func175,Tryz.ntmps175
 go_upto_region 2 with (first | (rw [H1.out];clear H1) | (rw [H2.out];clear H2))
 go_cut [8,9,10] from 16 to 57 (fun v8 v9 v10 w'=>∃ bx wb,v8=.pointer (some ⟨bx,0,none⟩)∧v9=.slice (some ⟨wb,0,none⟩) q.mem.length q.mem.length∧v10=.int .i64 0∧Cor W w' L q k (Dk.boxOf bx (Dk.fc fz) 89::Dk.rowOf 73 1 (.slice (some ⟨wb,0,none⟩) q.mem.length q.mem.length) q.mem.length (Dk.uwK mz)::Dk.boxOf w.heap.size #[.int .i64 i.op,.int .i64 i.a,.int .i64 i.b,.int .i64 i.c,.int .u64 (i.n:Nat)] 75::Dk.boxOf W1.heap.size #[.slice none 0 0,.bool false,.bool false,.bool false] 43::us))
 case first=>
  refine Dk.zo (S:=fun w'=>Cor W w' L q k (Dk.boxOf w.heap.size #[.int .i64 i.op,.int .i64 i.a,.int .i64 i.b,.int .i64 i.c,.int .u64 (i.n:Nat)] 75::Dk.boxOf W1.heap.size #[.slice none 0 0,.bool false,.bool false,.bool false] 43::us)∧w'.cell? ⟨L.b,8,none⟩=some (.slice mA q.mem.length mC)) [] [0,1,2,3,4,5,6,7,8] [9,10,11,12,13,15,16,17] 9 (by kernel_rfl) (by kernel_rfl) (by kernel_rfl) (by kernel_rfl) rfl ⟨hd,c8d⟩ _ ?_ (fun a' h=>h)
  refine Dk.za (v:=.pointer (some ⟨L.b,10+n*20,none⟩)) rfl rfl (fun w' hw'=>by go_simp) ?_
  simp only [zD]
  refine Dk.za (v:=.pointer (some ⟨L.b,10+n*20,none⟩)) rfl rfl (fun w' hw'=>by go_simp) ?_
  simp only [zD]
  refine Dk.za (v:=.pointer (some ⟨L.b,10+n*20,none⟩)) rfl rfl (fun w' hw'=>by go_simp) ?_
  simp only [zD]
  refine Dk.za (v:=Dk.fv f) rfl rfl (fun w' hw'=>by obtain ⟨c0,c1,c2,c3,c4,c5,c6,c7,c8,c9⟩:=MK _ _ hw'.1;go_simp) ?_
  simp only [zD]
  refine Dk.za (v:=.agg #[.int .i64 i.op,.int .i64 i.a,.int .i64 i.b,.int .i64 i.c,.int .u64 (i.n:Nat)]) rfl rfl (fun w' hw'=>by have cb:=(hw'.1.box (a:=w.heap.size) (cs:=#[.int .i64 i.op,.int .i64 i.a,.int .i64 i.b,.int .i64 i.c,.int .u64 (i.n:Nat)]) (e:=75) (by simp)).cell;go_simp) ?_
  simp only [zD]
  refine Dk.za (v:=.pointer (some ⟨L.b,0,none⟩)) rfl rfl (fun w' hw'=>by go_simp) ?_
  simp only [zD]
  refine Dk.za (v:=.pointer (some ⟨L.b,0,none⟩)) rfl rfl (fun w' hw'=>by go_simp) ?_
  simp only [zD]
  refine Dk.za (v:=.pointer (some ⟨L.b,8,none⟩)) rfl rfl (fun w' hw'=>by go_simp) ?_
  simp only [zD]
  refine Dk.za (v:=.slice mA q.mem.length mC) rfl rfl (fun w' hw'=>by have c8:=hw'.2;go_simp) ?_
  simp only [zD]
  generalize W2.drew=WD at *
  refine Dk.treeY (rs:=[9,14]) (by kernel_rfl) (by simp) ?_
  intro i hi
  simp only [List.mem_cons,List.not_mem_nil,or_false] at hi
  rcases hi with rfl | rfl
  ·refine Dk.zp (some 26) rfl rfl rfl (f:=200) (args:=#[Dk.fv f,.agg #[.int .i64 i.op,.int .i64 i.a,.int .i64 i.b,.int .i64 i.c,.int .u64 (i.n:Nat)],.slice mA q.mem.length mC]) (by go_simp) ?_
   refine (KP _ _ hd c8d).mono ?_
   rintro e w2 ⟨wb,rfl,h2,c2⟩
   refine ⟨_,rfl,fun h=>absurd (by decide) h,?_⟩
   simp only [zD]
   refine Dk.zt (by kernel_rfl) (fun c a w h=>h) _ 4 _ [10,11,12,13] _ _ (by kernel_rfl) ?_ (fun a' h=>h)
   refine Dk.za (v:=.tuple #[Dk.fv fz,.slice (some ⟨wb,0,none⟩) q.mem.length q.mem.length,.int .i64 0]) rfl rfl (fun w' hw'=>by go_simp) ?_
   simp only [zD]
   refine Dk.za (v:=Dk.fv fz) rfl rfl (fun w' hw'=>by go_simp) ?_
   simp only [zD]
   refine Dk.za (v:=.slice (some ⟨wb,0,none⟩) q.mem.length q.mem.length) rfl rfl (fun w' hw'=>by go_simp) ?_
   simp only [zD]
   refine Dk.za (v:=.int .i64 0) rfl rfl (fun w' hw'=>by go_simp) ?_
   simp only [zD]
   refine Dk.treeY (rs:=[14]) (by kernel_rfl) (by simp) ?_
   intro i hi
   simp only [List.mem_cons,List.not_mem_nil,or_false] at hi
   subst hi
   obtain ⟨w3,ew3⟩:∃ w3,w3=w2.alloc (.cells #[.int .i64 0,.int .i64 0,.int .u64 0,.int .u64 0,.int .u64 0,.int .u64 0,.int .u64 0,.int .u64 0,.int .u64 0,.int .u64 0] 89):=⟨_,rfl⟩
   refine Dk.ze (v:=.pointer (some ⟨w2.heap.size,0,none⟩)) (w':=w3) (some 8) rfl rfl rfl (by rw [ew3];go_simp) ⟨fun _=>⟨(h2.drop.newBox ew3).drop,by rw [ew3];exact Lib.cell?_alloc_some _ c2⟩,?_⟩
   simp only [zD]
   have q3:=h2.newBox ew3
   refine Dk.zs [15,16,17] _ _ _ (by kernel_rfl) ?_
   refine Dk.zag rfl rfl ?_
   have HB:Dk.Box w3 (w2.heap.size) #[.int .i64 0,.int .i64 0,.int .u64 0,.int .u64 0,.int .u64 0,.int .u64 0,.int .u64 0,.int .u64 0,.int .u64 0,.int .u64 0] 89:=q3.box (by simp)
   refine wp_store_row 89 _ _ rfl w2.heap.size (Dk.fc fz) rfl rfl 89 _ HB.heap zbw rfl (Dk.zbv _) ⟨fun h=>absurd (by decide) h,?_⟩
   simp only [zD]
   refine Dk.zi (v:=.slice (some ⟨wb,0,none⟩) q.mem.length q.mem.length) (w':=w3.setRow w2.heap.size (Dk.fc fz)) (some 9) rfl rfl rfl (by go_simp) (fun h=>absurd (by decide) h) ?_
   simp only [zD]
   refine Dk.zi (v:=.int .i64 0) (w':=w3.setRow w2.heap.size (Dk.fc fz)) (some 10) rfl rfl rfl (by go_simp) (fun h=>absurd (by decide) h) ?_
   simp only [zD]
   show NoPanic _ Exit.normal _ _
   refine NoPanic.normal ?_
   rename_i hK
   refine hK _ _ ?_
   go_meet
   exact ⟨w2.heap.size,wb,rfl,rfl,rfl,q3.setRow rfl⟩
  ·obtain ⟨w3,ew3⟩:∃ w3,w3=WD.alloc (.cells #[.int .i64 0,.int .i64 0,.int .u64 0,.int .u64 0,.int .u64 0,.int .u64 0,.int .u64 0,.int .u64 0,.int .u64 0,.int .u64 0] 89):=⟨_,rfl⟩
   refine Dk.ze (v:=.pointer (some ⟨WD.heap.size,0,none⟩)) (w':=w3) (some 8) rfl rfl rfl (by rw [ew3];go_simp) ⟨fun _=>⟨(hd.newBox ew3).drop,by rw [ew3];exact Lib.cell?_alloc_some _ c8d⟩,?_⟩
   simp only [zD]
   have q3:=hd.newBox ew3
   have c83:w3.cell? ⟨L.b,8,none⟩=some (.slice mA q.mem.length mC):=by rw [ew3];exact Lib.cell?_alloc_some _ c8d
   refine Dk.treeY (rs:=[9]) (by kernel_rfl) (by simp) ?_
   intro i hi
   simp only [List.mem_cons,List.not_mem_nil,or_false] at hi
   subst hi
   refine Dk.zp (some 26) rfl rfl rfl (f:=200) (args:=#[Dk.fv f,.agg #[.int .i64 i.op,.int .i64 i.a,.int .i64 i.b,.int .i64 i.c,.int .u64 (i.n:Nat)],.slice mA q.mem.length mC]) (by go_simp) ?_
   refine (KP _ _ q3 c83).mono ?_
   rintro e w2 ⟨wb,rfl,q2,c2⟩
   refine ⟨_,rfl,fun h=>absurd (by decide) h,?_⟩
   simp only [zD]
   refine Dk.zt (by kernel_rfl) (fun c a w h=>h) _ 3 _ [10,11,12,13] _ _ (by kernel_rfl) ?_ (fun a' h=>h)
   refine Dk.za (v:=.tuple #[Dk.fv fz,.slice (some ⟨wb,0,none⟩) q.mem.length q.mem.length,.int .i64 0]) rfl rfl (fun w' hw'=>by go_simp) ?_
   simp only [zD]
   refine Dk.za (v:=Dk.fv fz) rfl rfl (fun w' hw'=>by go_simp) ?_
   simp only [zD]
   refine Dk.za (v:=.slice (some ⟨wb,0,none⟩) q.mem.length q.mem.length) rfl rfl (fun w' hw'=>by go_simp) ?_
   simp only [zD]
   refine Dk.za (v:=.int .i64 0) rfl rfl (fun w' hw'=>by go_simp) ?_
   simp only [zD]
   refine Dk.zs [15,16,17] _ _ _ (by kernel_rfl) ?_
   refine Dk.zag rfl rfl ?_
   have HB:Dk.Box w2 (WD.heap.size) #[.int .i64 0,.int .i64 0,.int .u64 0,.int .u64 0,.int .u64 0,.int .u64 0,.int .u64 0,.int .u64 0,.int .u64 0,.int .u64 0] 89:=q2.box (by simp)
   refine wp_store_row 89 _ _ rfl WD.heap.size (Dk.fc fz) rfl rfl 89 _ HB.heap zbw rfl (Dk.zbv _) ⟨fun h=>absurd (by decide) h,?_⟩
   simp only [zD]
   refine Dk.zi (v:=.slice (some ⟨wb,0,none⟩) q.mem.length q.mem.length) (w':=w2.setRow WD.heap.size (Dk.fc fz)) (some 9) rfl rfl rfl (by go_simp) (fun h=>absurd (by decide) h) ?_
   simp only [zD]
   refine Dk.zi (v:=.int .i64 0) (w':=w2.setRow WD.heap.size (Dk.fc fz)) (some 10) rfl rfl rfl (by go_simp) (fun h=>absurd (by decide) h) ?_
   simp only [zD]
   show NoPanic _ Exit.normal _ _
   refine NoPanic.normal ?_
   rename_i hK
   refine hK _ _ ?_
   go_meet
   exact ⟨WD.heap.size,wb,rfl,rfl,rfl,q2.swap.setRow rfl⟩
 case rest=>
  obtain ⟨bx,wb,rfl,rfl,rfl,hC⟩:=hcut
  have cb:=(hC.box (a:=bx) (cs:=Dk.fc fz) (e:=89) (by simp)).cell
  have ci:=(hC.box (a:=w.heap.size) (cs:=#[.int .i64 i.op,.int .i64 i.a,.int .i64 i.b,.int .i64 i.c,.int .u64 (i.n:Nat)]) (e:=75) (by simp)).cell
  have ht:wc.there L.b (10+n*20) 10:=hC.there hn 0 10 (by omega)
  obtain ⟨W3,e3⟩:∃ W3,W3=wc.setCells L.b (10+n*20) (Dk.fc fz).toList:=⟨_,rfl⟩
  have h3:=hC.putT hn tz (Dk.fc fz).toList (by simp) HP.out
  rw [← e3] at h3
  obtain ⟨A8,C8,c8,_⟩:=h3.memAt
  have f8:=h3.frozenAt 8
  obtain ⟨W4,e4⟩:∃ W4,W4=W3.setCell ⟨L.b,8,none⟩ (.slice (some ⟨wb,0,none⟩) q.mem.length q.mem.length):=⟨_,rfl⟩
  have h4:=Cor.setMem (m:=mz) (v:=.slice (some ⟨wb,0,none⟩) q.mem.length q.mem.length) (us:=Dk.boxOf w.heap.size #[.int .i64 i.op,.int .i64 i.a,.int .i64 i.b,.int .i64 i.c,.int .u64 (i.n:Nat)] 75::Dk.boxOf W1.heap.size #[.slice none 0 0,.bool false,.bool false,.bool false] 43::us) (by rw [HZ.out];exact h3.drop) hmw
  rw [← e4] at h4
  have b4:Dk.Box W4 W1.heap.size #[.slice none 0 0,.bool false,.bool false,.bool false] 43:=h4.box (by simp)
  have h5:=FIN _ ((h4.drop.setRow (cs':=#[.slice none 0 0,.bool false,.bool false,.bool false]) rfl).drop)
  have d0:=(b4.row (cs':=#[.slice none 0 0,.bool false,.bool false,.bool false])).cell
  have HB:Hid _:=b4
  have HT:Hid _:=ht
  have H3:Hid _:=e3.symm
  have H4:Hid _:=e4.symm
  clear hC h3 h4 b4 ht e3 e4 KP MK FIN hd c8d hmw
  go_wp2_with (first | (go_at_call 201;refine (KS _).mono ?_;rintro e w' ⟨rfl,ew⟩;subst w') | (refine wpList_store_mid rfl 89 _ _ rfl L.b (10+n*20) (Dk.fc fz) rfl rfl HT.out zbw (Dk.zbv _) ?_;rw [H3.out];clear H3) | (rw [H4.out];clear H4) | (refine wpList_store_row rfl 43 _ _ rfl W1.heap.size #[.slice none 0 0,.bool false,.bool false,.bool false] rfl rfl 43 _ HB.out.heap sizeEff rfl (zbd _ _ _ _ _ _) ?_))
  exact bodyPost_ret (v:=eff none 0 0 false false false) (by simp [results,Tryz.results175,go_sem,d0]) rfl ⟨rfl,h5⟩
theorem fin_one (h:Cor W w L q k us) (hk:k≤100000) (hn:n < 16) (v:Nat) (hd:(q.thr n).det=false) (hj:(q.thr n).joined=false) :
  Calls Tryz.prog 199 #[.pointer (some ⟨L.b,0,none⟩),.int .i64 (n:Int),.int .u64 (v:Nat)] w fun e w'=>∃ A C,e=.returned (eff A (q.fin n v).2.woken.length C false true false)∧Cor W w' L (q.fin n v).1 k (Dk.rowOf 3 1 (.slice A (q.fin n v).2.woken.length C) (q.fin n v).2.woken.length (Dk.is (q.fin n v).2.woken)::us):=by
 unfold Dk.Sp.fin
 rw [hd,hj]
 simp only [Bool.false_eq_true,if_false]
 refine (fin_none h hk hn v hd hj).mono ?_
 rintro e w' ⟨rfl,h'⟩
 exact ⟨none,0,rfl,h'.nil⟩
theorem exit_one (h:Cor W w L q k us) (hk:k≤100000) (hn:n < 16) (v:Nat) (hd:(q.thr n).det=false) (hj:(q.thr n).joined=false) (hl:q.recs.length≤70000) :
  Calls Tryz.prog 174 #[.pointer (some ⟨L.b,0,none⟩),.int .i64 (n:Int),.int .u64 (v:Nat)] w fun e w'=>∃ A C,e=.returned (eff A (q.exit n v).2.woken.length C false true false)∧Cor W w' L (q.exit n v).1 k (Dk.rowOf 3 1 (.slice A (q.exit n v).2.woken.length C) (q.exit n v).2.woken.length (Dk.is (q.exit n v).2.woken)::us):=by
 obtain ⟨W1,e1⟩:∃ W1,W1=w.alloc (.cells #[.slice none 0 0,.bool false,.bool false,.bool false] 43):=⟨_,rfl⟩
 have h1:=h.newBox e1
 have K:=tell_any h1 hk n ⟨0,23,v,0,0,true⟩ (by omega)
 unfold Dk.Sp.exit
 have hd':((q.tell n ⟨0,23,v,0,0,true⟩).thr n).det=false:=hd
 have hj':((q.tell n ⟨0,23,v,0,0,true⟩).thr n).joined=false:=hj
 have hl':(q.tell n ⟨0,23,v,0,0,true⟩).recs.length≤80000:=by simp [Dk.Sp.tell];omega
 generalize q.tell n ⟨0,23,v,0,0,true⟩=q1 at *
 generalize eW:(q1.fin n v).2.woken=wk
 have EW:Hid _:=eW
 clear eW
 have H1:Hid (w.alloc (.cells #[.slice none 0 0,.bool false,.bool false,.bool false] 43)=W1):=e1.symm
 clear h h1 e1 hd hj hl
 go_enter Tryz.func174,Tryz.ntmps174
 go_wp2_with (rw [H1.out];clear H1)
 refine K.mono ?_
 rintro e w2 ⟨rfl,h2⟩
 have K2:=fin_one h2 hk hn v hd' hj'
 rw [EW.out] at K2
 clear K h2 hd' hj' hl'
 go_wp2_with fail
 refine K2.mono ?_
 rintro e w3 ⟨A',C',rfl,h3⟩
 have h5:=h3.swap
 have b5:Dk.Box w3 w.heap.size #[.slice none 0 0,.bool false,.bool false,.bool false] 43:=h5.box (by simp)
 have h6:=(h5.setRow (cs':=#[.slice A' wk.length C',.bool false,.bool true,.bool false]) rfl).drop
 have d0:=(b5.row (cs':=#[.slice A' wk.length C',.bool false,.bool true,.bool false])).cell
 have HB:Hid (Dk.Box w3 w.heap.size #[.slice none 0 0,.bool false,.bool false,.bool false] 43):=b5
 clear K2 h3 h5 b5
 go_wp2_with (refine wpList_store_row rfl 43 _ _ rfl w.heap.size #[.slice A' wk.length C',.bool false,.bool true,.bool false] rfl rfl 43 _ HB.out.heap sizeEff rfl (zbd _ _ _ _ _ _) ?_)
 exact bodyPost_ret (v:=eff A' wk.length C' false true false) (by simp [results,Tryz.results174,go_sem,d0]) rfl ⟨A',C',rfl,h6⟩
end
end Go.Proofs.YtpnajphbjfehnaaGreat
