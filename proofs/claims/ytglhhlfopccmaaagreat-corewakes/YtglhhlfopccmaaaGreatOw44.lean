import Derived.Test.YtglhhlfopccmaaaGreatOw43
set_option linter.unusedSimpArgs false
set_option linter.unusedVariables false
set_option linter.unnecessarySimpa false
set_option maxHeartbeats 8000000
set_option maxRecDepth 100000
namespace Dk
open Go Go.RowKit
open Go.Proofs.YtglhhlfopccmaaaGreat.Dk (waitsT waitsK)
section
variable {q q' : Sp} {d : Deed} {n k : Nat} {i : Ins} {ch : Int}
theorem zcc (hu:us q.st n=true) (hw:(q.thr n).why=0) (S:St) (d:Deed) (hd:d.why≠9) (hb:d.begun=[]) (h:∀ x,S.cnt x+(d.woken.map Prod.fst).count x≤q.gates.cnt x+(if d.why≠0∧x=n then 1 else 0)) (hk:d.why=0∨∀ x,(d.woken.map Prod.fst).count x≤q.lists x:=by first | exact .inl rfl | exact .inr (fun x=>Nat.zero_le _)):Did q n ({ q with gates:=S },d):=
 zar rfl rfl hu hw hd hb (fun x=>zey x (h x)) hk
theorem ze5:∀ (l:List Int) (q:Sp),(∀ w ∈ l,q.blkN w.toNat)→(q.moved l).st=q.st∧(∀ x,(q.moved l).wt x=q.wt x)∧Stay q (q.moved l)∧(∀ m,(q.moved l).rc m=q.rc m)∧∀ m,¬ q.blkN m→(q.moved l).thr m=q.thr m
 | [],q,_=>⟨rfl,fun _=>rfl,Stay.refl q,fun _=>rfl,fun _ _=>rfl⟩
 | w::l,q,h=>by
  have hb:=h w (by simp)
  obtain ⟨t,et⟩:∃ t:Thr,{ q.thr w.toNat with why:=1 }=t:=⟨_,rfl⟩
  have ty:t.why=1:=by rw [← et]
  have tj:t.joined=(q.thr w.toNat).joined:=by rw [← et]
  have tr:t.joiner=(q.thr w.toNat).joiner:=by rw [← et]
  have e:q.moved (w::l)=(q.setT w.toNat t).moved l:=by rw [← et];rfl
  rw [e]
  clear et e
  have S1:Stay q (q.setT w.toNat t):=fun k hk=>by
   by_cases e:k=w.toNat
   ·exact ⟨hk.1,by rw [zp,if_pos e,ty];decide,by rw [zp,if_pos e,ty];decide⟩
   ·exact ⟨hk.1,by rw [zp,if_neg e];exact hk.2.1,by rw [zp,if_neg e];exact hk.2.2⟩
  obtain ⟨h1,h2,h3,h4,h5⟩:=ze5 l (q.setT w.toNat t) (fun x hx=>S1 _ (h x (by simp [hx])))
  refine ⟨h1,fun x=>by rw [h2,zb3 tj tr],S1.trans h3,fun m=>?_,fun m hm=>?_⟩
  ·rw [h4]
   by_cases e:m=w.toNat
   ·subst e
    have a1:q.rc w.toNat=0:=if_neg (fun hc=>hb.2.1 hc.2)
    have a2:(q.setT w.toNat t).rc w.toNat=0:=if_neg (fun hc=>by have:=hc.2;rw [zp,if_pos rfl,ty] at this;exact absurd this (by decide))
    rw [a1,a2]
   ·exact ze9 _ _ _ _ e
  ·have e:m≠w.toNat:=fun e=>hm (e ▸ hb)
   have hm':¬ (q.setT w.toNat t).blkN m:=fun hc=>hm ⟨hc.1,by have:=hc.2.1;rw [zp,if_neg e] at this;exact this,by have:=hc.2.2;rw [zp,if_neg e] at this;exact this⟩
   rw [h5 m hm',zp,if_neg e]
theorem zl1 (hF:Calm q []) (hu:us q.st n=true) (hw:(q.thr n).why=0) (c:Nat) (all:Bool) (d:Deed) (h0:d.why=0) (hb:d.begun=[]) (hk:d.woken=(q.signal c ch all).2.map fun w=>(w,0)):Did q n ((q.signal c ch all).1,d):=by
 unfold Sp.signal at hk ⊢
 dsimp only at hk ⊢
 obtain ⟨l,el⟩:∃ l,((q.gates.conds.getD c []).map Prod.fst).filter (fun w=>!(((q.gates.signal c ch all).1.conds.getD c []).map Prod.fst).contains w)=l:=⟨_,rfl⟩
 have hlb:∀ w ∈ l,q.blkN w.toNat:=fun w hw'=>by
  rw [← el] at hw'
  have hm:=(List.mem_filter.1 hw').1
  have h1:=zjg Prod.fst w q.gates.conds c
  have h2:=List.count_pos_iff.2 hm
  obtain ⟨k,e,_,hb⟩:=hF.blk w (by unfold Sp.wt Sp.lists St.cnt;simp only [List.count_nil];omega)
  rw [show w.toNat=k by omega]
  exact hb
 rw [el]
 clear el
 have h1:=ze5 l ({ q with gates:=(q.gates.signal c ch all).1 }:Sp) hlb
 obtain ⟨a1,a2,a3,a4,a5⟩:=h1
 refine ⟨by dsimp only;rw [a1];exact hu,by dsimp only;rw [a5 n (zjv hw)];exact hw,by rw [h0];decide,fun x=>?_,a3,fun m=>by dsimp only;rw [a4,hb];rfl,fun x hx=>by rw [hb] at hx;simp at hx,fun x=>?_⟩
 rotate_left
 ·have h2:=zf0 q.gates c ch all x
  dsimp only
  rw [hk,List.map_map,show (Prod.fst ∘ fun w:Int=>(w,(0:Nat)))=id from rfl,List.map_id]
  unfold Sp.wt Sp.lists
  omega
 dsimp only
 rw [a2,hk,List.map_map]
 have h2:=zf0 q.gates c ch all x
 have h3:List.map (Prod.fst ∘ fun w=>(w,(0:Nat))) (q.gates.signal c ch all).2=(q.gates.signal c ch all).2:=by
  rw [show (Prod.fst ∘ fun w:Int=>(w,(0:Nat)))=id from rfl,List.map_id]
 rw [h3]
 have h4:=zey (q:=q) (b:=0) x (by omega:(q.gates.signal c ch all).1.cnt x+(q.gates.signal c ch all).2.count x≤q.gates.cnt x+0)
 unfold Sp.wt
 rw [zg9 (q:=q) (q':=({ q with gates:=(q.gates.signal c ch all).1 }:Sp)) rfl rfl]
 omega
theorem did_pass (hF:Calm q []) (hu:us q.st n=true) (hw:(q.thr n).why=0):Did q n (q.pass n i ch):=by
 unfold Sp.pass
 dsimp only
 split
 ·refine zcc hu hw _ _ (by dsimp only;split <;> decide) rfl fun x=>?_
  have h1:=cnt_lock q.gates n i.n x
  have h2:=zox ((q.gates.lock n i.n).2.1=false∧(q.gates.lock n i.n).2.2=0) x n (if (q.gates.lock n i.n).2.1=false∧(q.gates.lock n i.n).2.2=0 then 1 else 0) (fun h=>by rw [if_pos h];decide)
  simp only [List.map_nil,List.count_nil]
  omega
 split
 ·refine zcc hu hw _ _ (by dsimp only;first | decide | (split <;> decide)) rfl fun x=>?_
  have h1:=zly q.gates n i.n ch x
  dsimp only
  rw [zg4]
  omega
 split
 ·refine zcc hu hw _ _ (by dsimp only;split <;> decide) rfl (fun x=>?_) (.inr fun x=>?_)
  ·have h1:=cnt_hold q.gates n i.n i.c.toNat ch x
   have h2:=zox ((q.gates.hold n i.n i.c.toNat ch).2.2.2=0) x n (if (q.gates.hold n i.n i.c.toNat ch).2.2.2=0 then 2 else 0) (fun h=>by rw [if_pos h];decide)
   dsimp only
   rw [zg4]
   omega
  ·have h1:=zn6 q.gates n i.n i.c.toNat ch x
   dsimp only
   rw [zg4]
   unfold Sp.lists
   omega
 split
 ·refine zcc hu hw _ _ (by dsimp only;split <;> decide) rfl fun x=>?_
  have h1:=cnt_down q.gates n i.n x
  have h2:=zox ((q.gates.down n i.n).2.1=false∧(q.gates.down n i.n).2.2=0) x n (if (q.gates.down n i.n).2.1=false∧(q.gates.down n i.n).2.2=0 then 3 else 0) (fun h=>by rw [if_pos h];decide)
  simp only [List.map_nil,List.count_nil]
  omega
 split
 ·refine zcc hu hw _ _ (by dsimp only;first | decide | (split <;> decide)) rfl fun x=>?_
  have h1:=cnt_up q.gates i.n ch x
  dsimp only
  rw [zg4]
  omega
 ·exact zl1 hF hu hw _ _ _ rfl rfl rfl
theorem zk3 (x:Int) (n:Nat) (w:Int) (hw:w≠0):at1 n x≤if w≠0∧x=n then 1 else 0:=by
 have:=zox True x n w (fun _=>hw)
 rwa [if_pos trivial] at this
theorem zkr (hu:us q.st n=true) (hw:(q.thr n).why=0) (c:Bool) (y m:Nat) (b:Int):Did q n (q.askW n c y m b):=by
 unfold Sp.askW
 split
 ·exact za1 hu hw _ rfl rfl rfl
 split
 ·exact za1 hu hw _ rfl rfl rfl
 ·refine zar rfl rfl hu hw (by dsimp only;first | decide | (split <;> decide)) rfl fun x=>?_
  have:=zk3 x n 5 (by decide)
  unfold Sp.lists
  dsimp only
  rw [List.map_append,List.map_singleton,za5]
  simp only [List.map_nil,List.count_nil]
  omega
theorem zbm (q:Sp) (m:Nat) (t:Tu) (x:Int):({ q with tubes:=q.tubes.set m t }:Sp).lists x+((q.tube m).ps.map Prod.fst).count x+(q.tube m).gs.count x≤q.lists x+(t.ps.map Prod.fst).count x+t.gs.count x:=by
 have h1:=zbu Prod.fst x (q.tubes.map Tu.ps) m t.ps
 have h2:=zbu id x (q.tubes.map Tu.gs) m t.gs
 have e1:(q.tubes.map Tu.ps).getD m []=(q.tube m).ps:=by
  unfold Sp.tube
  simp only [List.getD,List.getElem?_map]
  cases q.tubes[m]? <;> rfl
 have e2:(q.tubes.map Tu.gs).getD m []=(q.tube m).gs:=by
  unfold Sp.tube
  simp only [List.getD,List.getElem?_map]
  cases q.tubes[m]? <;> rfl
 rw [e1] at h1
 rw [e2] at h2
 simp only [List.map_id] at h2
 unfold Sp.lists
 dsimp only
 rw [List.map_set,List.map_set]
 omega
theorem did_put (hu:us q.st n=true) (hw:(q.thr n).why=0):Did q n (q.put n i):=by
 unfold Sp.put Sp.putW
 dsimp only
 split
 ·exact zar rfl rfl hu hw (by dsimp only;first | decide | (split <;> decide)) rfl fun x=>by simp
 split
 ·rename_i g gs e
  refine zar rfl rfl hu hw (by dsimp only;first | decide | (split <;> decide)) rfl fun x=>?_
  have h1:=zbm q i.n { q.tube i.n with gs:=gs } x
  rw [e,List.count_cons] at h1
  have h2:[g].count x=if (g == x)=true then 1 else 0:=List.count_singleton
  dsimp only [List.map_cons,List.map_nil] at h1 ⊢
  simp only [if_true,List.map_cons,List.map_nil]
  rw [h2]
  omega
 split
 ·refine zar rfl rfl hu hw (by dsimp only;first | decide | (split <;> decide)) rfl fun x=>?_
  have h1:=zbm q i.n { q.tube i.n with ws:=(q.tube i.n).ws++[(q.thr n).f.r i.a.toNat] } x
  dsimp only at h1 ⊢
  simp
  omega
 ·refine zar rfl rfl hu hw (by dsimp only;first | decide | (split <;> decide)) rfl fun x=>?_
  have h1:=zbm q i.n { q.tube i.n with ps:=(q.tube i.n).ps++[((n:Int),(q.thr n).f.r i.a.toNat)] } x
  dsimp only at h1
  rw [List.map_append,List.map_singleton,za5] at h1
  have:=zk3 x n 7 (by decide)
  dsimp only at h1 ⊢
  simp only [Bool.false_eq_true,if_false,List.map_nil,List.count_nil]
  omega
theorem did_get (hu:us q.st n=true) (hw:(q.thr n).why=0):Did q n (q.get n i):=by
 unfold Sp.get Sp.getW
 dsimp only
 by_cases h0:waitsT (q.tube i.n).ps (q.tube i.n).gs n=true
 ·simp only [h0,if_true,Bool.false_eq_true,if_false]
  exact zar rfl rfl hu hw (by dsimp only;first | decide | (split <;> decide)) rfl fun x=>by simp
 ·simp only [h0,if_false,Bool.false_eq_true]
  cases hws:(q.tube i.n).ws with
  | nil=>
   simp only [Bool.false_eq_true,if_false]
   refine zar rfl rfl hu hw (by dsimp only;first | decide | (split <;> decide)) rfl fun x=>?_
   have h1:=zbm q i.n { q.tube i.n with gs:=(q.tube i.n).gs++[(n:Int)] } x
   dsimp only at h1
   rw [za5] at h1
   have:=zk3 x n 6 (by decide)
   simp only [hws] at h1
   simp only [List.map_nil,List.count_nil]
   omega
  | cons y ws=>
   cases hps:(q.tube i.n).ps with
   | nil=>
    simp only [if_true,Bool.false_eq_true,if_false]
    refine Did.reg (q':={ q with tubes:=q.tubes.set i.n ⟨(q.tube i.n).room,ws,[],(q.tube i.n).gs⟩ }) (t:=(q.thr n).reg i.a.toNat y) (zar (q:=q) (d:=⟨i.n,y,0,0,[],[]⟩) rfl rfl hu hw ?_ rfl fun x=>?_) rfl rfl rfl
    ·show (0:Int)≠9
     decide
    have h1:=zbm q i.n ⟨(q.tube i.n).room,ws,[],(q.tube i.n).gs⟩ x
    dsimp only at h1 ⊢
    simp only [List.map_nil,List.count_nil] at h1 ⊢
    omega
   | cons p ps=>
    obtain ⟨p,z⟩:=p
    simp only [if_true]
    refine Did.reg (q':={ q with tubes:=q.tubes.set i.n ⟨(q.tube i.n).room,ws++[z],ps,(q.tube i.n).gs⟩ }) (t:=(q.thr n).reg i.a.toNat y) (zar (q:=q) (d:=⟨i.n,y,0,0,[],[(p,0)]⟩) rfl rfl hu hw ?_ rfl fun x=>?_) rfl rfl rfl
    ·show (0:Int)≠9
     decide
    have h1:=zbm q i.n { q.tube i.n with ws:=ws++[z],ps:=ps } x
    rw [hps,List.map_cons,List.count_cons] at h1
    have h2:[p].count x=if (p == x)=true then 1 else 0:=List.count_singleton
    dsimp only at h1 ⊢
    simp only [List.map_cons,List.map_nil]
    rw [h2]
    omega
theorem zoa (hu:us q.st n=true) (hw:(q.thr n).why=0) (m:Nat):Did q n (q.sleep n m):=by
 unfold Sp.sleep
 split
 ·exact za1 hu hw _ rfl rfl rfl
 split
 ·exact za1 hu hw _ rfl rfl rfl
 split
 ·exact za1 hu hw _ rfl rfl rfl
 ·refine zar rfl rfl hu hw (by dsimp only;first | decide | (split <;> decide)) rfl fun x=>?_
  have:=zk3 x n 8 (by decide)
  unfold Sp.lists keysOf
  dsimp only
  rw [List.map_append,List.map_singleton,za5]
  dsimp only
  simp only [List.map_nil,List.count_nil]
  omega
theorem did_deed (hF:Calm q []) (h16:q.st.length=16) (hu:us q.st n=true) (hw:(q.thr n).why=0):Did q n (q.deed n i ch):=by
 unfold Sp.deed
 dsimp only
 split
 ·exact zob h16 hu hw
 split
 ·exact (za1 hu hw _ rfl rfl rfl).reg rfl rfl rfl
 split
 ·exact did_join h16 hu hw
 split
 ·exact zl0 h16 hu hw _
 split
 ·exact did_pass hF hu hw
 split
 ·exact zkr hu hw _ _ _ _
 split
 ·exact zkr hu hw _ _ _ _
 split
 ·exact did_put hu hw
 split
 ·exact did_get hu hw
 split
 ·exact zoa hu hw _
 split
 ·exact za1 hu hw _ rfl rfl rfl
 ·exact za1 hu hw _ rfl rfl rfl
end
section
variable {q q' : Sp} {n k : Nat} {i : Ins} {ch : Int}
theorem zd1 (hF:Calm q []) (n:Int):Steps q n q Eff.none:=⟨hF,fun m=>by rw [if_neg (by simp [Eff.none])];simp [Eff.none],fun x hx=>by simp [Eff.none] at hx,fun h=>by simp [Eff.none] at h⟩
theorem zfh (hF:Calm q []) (hn:n < 16) (hu:us q.st n=true) (hw:(q.thr n).why=0) (v:Nat):Steps q n (q.fin n v).1 (q.fin n v).2:=by
 have hb:=zjv hw
 have hr:q.rc n=1:=if_pos ⟨hu,hw⟩
 have h0:=hF.idle hb
 unfold Sp.fin
 split
 ·refine ⟨⟨fun x=>?_,fun x hx=>?_⟩,fun m=>?_,fun x hx=>by simp at hx,fun _=>rfl⟩
  ·have h1:=zjl hu (by omega) x
   have h2:=hF.once x
   dsimp only
   omega
  ·have h1:=zjl hu (by omega) x
   dsimp only at hx
   exact (zex hu (by omega) hb).blk (hF.blk x (by omega))
  ·dsimp only
   rw [zjk hu (by omega)]
   by_cases e:m=n
   ·subst e;rw [if_pos rfl,if_pos ⟨rfl,rfl⟩,hr];rfl
   ·rw [if_neg e,if_neg (fun h=>e (by omega))];rfl
 split
 ·rename_i hjo
  have F1:Calm (q.free n) [(q.thr n).joiner]:=by
   have hle:∀ x,(q.free n).wt x+at1 (q.thr n).joiner x≤q.wt x:=fun x=>by
    have hs:sumN ((q.free n).jb x) 16+at1 (q.thr n).joiner x≤sumN (q.jb x) 16+0:=by
     refine zho (k0:=n) 16 hn (fun j _ _=>zos hu (by omega) x j) ?_
     have e1:(q.free n).jb x n=0:=by
      unfold Sp.jb
      rw [zdt hu (by omega),if_pos rfl]
      simp
     rw [e1]
     unfold Sp.jb at1
     by_cases e:x=(q.thr n).joiner
     ·rw [if_pos e,if_pos ⟨hu,hjo,e.symm⟩];omega
     ·rw [if_neg e];omega
    unfold Sp.wt
    show q.lists x+_+_≤_
    omega
   refine ⟨fun x=>?_,fun x hx=>?_⟩
   ·have h1:=hle x
    have h2:=hF.once x
    rw [za2]
    simp only [List.count_nil] at h2
    omega
   ·have h1:=hle x
    rw [za2] at hx
    exact (zex hu (by omega) hb).blk (hF.blk x (by simp only [List.count_nil];omega))
  obtain ⟨h1,h2⟩:=zdo [((q.thr n).joiner,v)] F1
  obtain ⟨k,e,hk,hbk⟩:=F1.blk (q.thr n).joiner (by rw [List.count_cons_self];omega)
  have hkn:k≠n:=fun e'=>by have:=hbk.1;rw [zdt hu (by omega),e',if_pos rfl] at this;cases this
  refine ⟨h1,fun m=>?_,fun x hx=>?_,fun _=>?_⟩
  ·rw [h2,zjk hu (by omega)]
   show _+[(q.thr n).joiner].count (m:Int)+_=_+[(q.thr n).joiner].count (m:Int)
   by_cases e:m=n
   ·subst e;rw [if_pos rfl,if_pos ⟨rfl,rfl⟩,hr];omega
   ·rw [if_neg e,if_neg (fun h=>e (by omega))];rfl
  ·rw [List.mem_singleton] at hx
   omega
  ·rw [List.count_singleton,if_neg (by simp;omega)]
 ·obtain ⟨t,et⟩:∃ t:Thr,{ q.thr n with why:=9,value:=v }=t:=⟨_,rfl⟩
  have ty:t.why=9:=by rw [← et]
  have tj:t.joined=(q.thr n).joined:=by rw [← et]
  have tr:t.joiner=(q.thr n).joiner:=by rw [← et]
  rw [et]
  clear et
  refine ⟨⟨fun x=>by rw [zb3 tj tr];exact hF.once x,fun x hx=>by rw [zb3 tj tr] at hx;exact (zp2 hb).blk (hF.blk x hx)⟩,fun m=>?_,fun x hx=>by simp at hx,fun _=>rfl⟩
  dsimp only
  by_cases e:m=n
  ·subst e
   have:(q.setT m t).rc m=0:=if_neg (fun hc=>by have:=hc.2;rw [zp,if_pos rfl,ty] at this;exact absurd this (by decide))
   rw [this,hr,if_pos ⟨rfl,rfl⟩]
   rfl
  ·rw [ze9 _ _ _ _ e,if_neg (fun h=>e (by omega))];rfl
theorem Calm.tell (hF:Calm q []) (n:Nat) (r:Rec):Calm (q.tell n r) []:=⟨hF.once,hF.blk⟩
theorem Steps.zpd {n:Int} {m:Nat} {r:Rec} {e:Eff} (h:Steps (q.tell m r) n q' e):Steps q n q' e:=⟨h.fine,h.rc,h.inr,h.self⟩
theorem zgj (hF:Calm q []) (hn:n < 16) (hu:us q.st n=true) (hw:(q.thr n).why=0) (v:Nat):Steps q n (q.exit n v).1 (q.exit n v).2:=
 Steps.zpd (zfh (hF.tell n ⟨0,23,v,0,0,true⟩) hn hu hw v)
theorem zf1 (hF:Calm q []) {t:Thr} (hy:t.why=(q.thr n).why) (hj:t.joined=(q.thr n).joined) (hr:t.joiner=(q.thr n).joiner):Calm (q.setT n t) []:=
 ⟨fun x=>by rw [zb3 hj hr];exact hF.once x,fun x hx=>by rw [zb3 hj hr] at hx;exact (zdl hy).blk (hF.blk x hx)⟩
theorem zj8 (hF:Calm q []) (hn:n < 16) (hu:us q.st n=true) (hw:(q.thr n).why=0) (i:Ins):Steps q n (q.plain n i).1 (q.plain n i).2:=by
 unfold Sp.plain
 dsimp only
 split
 ·split
  ·exact Steps.zpd (zfh (hF.tell n _) hn hu hw _)
  ·exact zfh hF hn hu hw _
 ·obtain ⟨f,ef⟩:∃ f,doneF (q.thr n).f i q.mem=f:=⟨_,rfl⟩
  rw [ef]
  have F1:Calm (q.setT n { q.thr n with f:=f }) []:=zf1 hF rfl rfl rfl
  have R1:∀ m,(q.setT n { q.thr n with f:=f }).rc m=q.rc m:=zbr q n _ rfl
  have key:∀ q2:Sp,q2.st=q.st→q2.thr=upd q.thr n { q.thr n with f:=f }→(∀ x,q2.lists x=q.lists x)→Steps q n q2 Eff.none:=fun q2 h1 h2 h3=>by
   have hw2:∀ x,q2.wt x=(q.setT n { q.thr n with f:=f }).wt x:=fun x=>by
    unfold Sp.wt
    rw [h3,zg9 (q:=q.setT n { q.thr n with f:=f }) (q':=q2) h1 h2]
    rfl
   have hr2:∀ m,q2.rc m=q.rc m:=fun m=>by
    rw [← R1 m]
    unfold Sp.rc
    rw [h1,h2]
    rfl
   have hb2:Stay (q.setT n { q.thr n with f:=f }) q2:=fun k hk=>by
    unfold Sp.blkN
    rw [h1,h2]
    exact hk
   refine ⟨⟨fun x=>by rw [hw2];exact F1.once x,fun x hx=>by rw [hw2] at hx;exact hb2.blk (F1.blk x hx)⟩,fun m=>by rw [hr2,if_neg (by simp [Eff.none])];simp [Eff.none],fun x hx=>by simp [Eff.none] at hx,fun h=>by simp [Eff.none] at h⟩
  split
  ·exact key _ rfl rfl (fun x=>rfl)
  ·exact key _ rfl rfl (fun x=>rfl)
theorem zp4 (hF:Calm q []) (h16:q.st.length=16) (slot ch:Int):Steps q slot (q.run slot ch).1 (q.run slot ch).2.1:=by
 unfold Sp.run
 dsimp only
 split
 ·exact zd1 hF slot
 split
 ·exact zd1 hF slot
 rename_i h1 h2
 have h2':(q.thr slot.toNat).why=0:=Classical.byContradiction fun h=>h2 h
 have h1':q.usedB slot=true:=by cases h:q.usedB slot <;> simp_all
 unfold Sp.usedB at h1'
 simp only [Bool.and_eq_true,decide_eq_true_eq] at h1'
 obtain ⟨hs,hu⟩:=h1'
 have hn:slot.toNat < 16:=by rw [← h16];exact zd8 hu
 have es:slot=(slot.toNat:Nat):=by omega
 obtain ⟨n,en⟩:∃ n,slot.toNat=n:=⟨_,rfl⟩
 rw [en] at es hn hu h2' ⊢
 rw [es]
 split
 ·exact zgj hF hn hu h2' 0
 split
 ·have F1:Calm (q.setT n (q.thr n).next) []:=zf1 hF rfl rfl rfl
  have S1:=zgj (v:=(q.thr n).f.r (nextI q.prog (q.thr n).f).a.toNat) F1 hn hu (by rw [zp,if_pos rfl];exact h2')
  exact ⟨S1.fine,fun m=>by rw [S1.rc m,zbr q n (q.thr n).next rfl],S1.inr,S1.self⟩
 split
 ·exact zj8 hF hn hu h2' _
 ·exact znr hF hn hu h2' (did_deed hF h16 hu h2')
theorem map_eraseIdx' {α β:Type} (f:α→β):∀ (l:List α) (k:Nat),(l.eraseIdx k).map f=(l.map f).eraseIdx k
 | [],_=>rfl
 | x::l,0=>rfl
 | x::l,k+1=>by simp [map_eraseIdx' f l k]
theorem zgk (hF:Calm q []) (hs:q'.st=q.st) (ht:q'.thr=q.thr) (l:List (Int × Nat)) (n:Int) (e:Eff) (he:e.woken=l.map Prod.fst) (hg:(e.stopped || e.ended)=false) (hl:∀ x,q'.lists x+(l.map Prod.fst).count x≤q.lists x):Steps q n (q'.wake l) e:=by
 have hw:∀ x,q'.wt x+(l.map Prod.fst).count x≤q.wt x:=fun x=>by
  have:=hl x
  unfold Sp.wt
  rw [zg9 hs ht]
  omega
 have S1:Stay q q':=fun k hk=>by unfold Sp.blkN;rw [hs,ht];exact hk
 have F1:Calm q' (l.map Prod.fst):=⟨fun x=>by have h1:=hw x;have h2:=hF.once x;omega,fun x hx=>S1.blk (hF.blk x (by have:=hw x;omega))⟩
 obtain ⟨h1,h2⟩:=zdo l F1
 refine ⟨h1,fun m=>?_,fun x hx=>?_,fun h=>by rw [hg] at h;cases h⟩
 ·rw [h2,if_neg (by rw [hg];simp),he]
  have:q'.rc m=q.rc m:=by unfold Sp.rc;rw [hs,ht]
  omega
 ·rw [he] at hx
  obtain ⟨k,e,hk,_⟩:=F1.blk x (by have:=List.count_pos_iff.2 hx;omega)
  omega
theorem zmv (hF:Calm q []) (k n:Int):Steps q n (q.done k).1 (q.done k).2.1:=by
 unfold Sp.done
 split
 ·exact zd1 hF n
 ·rename_i h0
  dsimp only
  apply zgk hF
  ·rfl
  ·rfl
  ·rfl
  ·rfl
  intro x
  obtain ⟨j,ej⟩:∃ j,at_K k q.asked.length=j:=⟨_,rfl⟩
  have hj:j < q.asked.length:=by rw [← ej];exact zkm k (by omega)
  rw [ej]
  have h1:=zdr (q.asked.map Rq.who) j (by simpa using hj) x
  have e1:(q.asked.map Rq.who).getD j 0=(q.asked.getD j Rq.zero).who:=by simp [List.getD,hj]
  rw [e1] at h1
  unfold Sp.lists
  dsimp only [List.map_cons,List.map_nil]
  rw [map_eraseIdx',List.map_singleton,za2]
  dsimp only
  omega
theorem zid (t x:Int):∀ l:List (Int × Int),(keysOf (leftOf t l)).count x+(dueOf t l).count x=(keysOf l).count x
 | []=>rfl
 | p::l=>by
  have ih:=zid t x l
  unfold keysOf leftOf dueOf keysOf at ih ⊢
  by_cases h:p.2≤t
  ·rw [List.filter_cons,if_neg (by simp;omega),List.filter_cons,if_pos (by simpa using h),List.map_cons,List.map_cons,List.count_cons,List.count_cons]
   omega
  ·rw [List.filter_cons,if_pos (by simp;omega),List.filter_cons,if_neg (by simpa using h),List.map_cons,List.map_cons,List.count_cons,List.count_cons]
   omega
theorem zmw (hF:Calm q []) (n:Int):Steps q n q.tick.1 q.tick.2:=by
 unfold Sp.tick
 dsimp only
 obtain ⟨t,et⟩:∃ t,min (q.now+1) 1099511627776=t:=⟨_,rfl⟩
 rw [et]
 have em:∀ l:List Int,(l.map fun x=>(x,(0:Nat))).map Prod.fst=l:=fun l=>by rw [List.map_map];exact List.map_id l
 apply zgk hF
 ·rfl
 ·rfl
 ·exact (em _).symm
 ·rfl
 intro x
 rw [em,(zcg _).count_eq x]
 have:=zid t x q.due
 unfold Sp.lists
 dsimp only
 omega
theorem zl5 (p:Prg) (ts:List Tu) (ht:∀ t ∈ ts,t.ps=[]∧t.gs=[]):Calm ((({ Sp.blank p with tubes:=ts }:Sp).begin 0 0).1) []:=by
 have z:∀ {α:Type} (g:α→Int) (x:Int) (n:Nat),cts g x (List.replicate n ([]:List α))=0:=fun g x n=>by
  unfold cts
  induction n with
  | zero=>rfl
  | succ n ih=>rw [List.replicate_succ,List.map_cons,List.sum_cons,ih];rfl
 have zt:∀ {α:Type} (g:α→Int) (x:Int) (f:Tu→List α),(∀ t ∈ ts,f t=[])→cts g x (ts.map f)=0:=fun g x f hf=>by
  rw [List.eq_replicate_of_mem (l:=ts.map f) (a:=[]) (fun b hb=>by obtain ⟨t,h,rfl⟩:=List.mem_map.1 hb;exact hf t h)]
  exact z g x _
 have hw:∀ x,((({ Sp.blank p with tubes:=ts }:Sp).begin 0 0).1).wt x=0:=fun x=>by
  obtain ⟨q0,e0⟩:∃ q0:Sp,{ Sp.blank p with tubes:=ts }=q0:=⟨_,rfl⟩
  have hl:∀ x,q0.lists x=0:=fun x=>by
   rw [← e0]
   unfold Sp.lists Sp.blank St.cnt start
   dsimp only
   rw [z,z,z,zt _ _ _ (fun t h=>(ht t h).1),zt _ _ _ (fun t h=>(ht t h).2)]
   rfl
  have hj:∀ k,(q0.thr k).joined=false:=fun k=>by rw [← e0];rfl
  rw [e0]
  have s0:∀ f:Nat→Nat,(∀ k,f k=0)→sumN f 16=0:=fun f hf=>by simp [sumN,hf]
  unfold Sp.wt
  have h1:(q0.begin 0 0).1.lists x=q0.lists x:=by unfold Sp.begin;split <;> rfl
  rw [h1,hl,s0]
  intro k
  unfold Sp.jb
  have h2:((q0.begin 0 0).1.thr k).joined=false:=by
   unfold Sp.begin
   split
   ·dsimp only
    rw [zp]
    split
    ·rfl
    ·exact hj k
   ·exact hj k
  rw [h2]
  simp
 exact ⟨fun x=>by rw [hw];simp,fun x hx=>by rw [hw] at hx;simp at hx⟩
theorem zc1 (q:Sp):q.ready.Nodup:=by
 unfold Sp.ready usl
 refine List.Pairwise.filter _ ?_
 rw [List.pairwise_map]
 exact (List.Pairwise.filter _ List.nodup_range).imp fun h e=>h (Int.ofNat.inj e)
theorem zdk (q:Sp) (x:Int):x ∈ q.ready ↔ ∃ m:Nat,x=m∧m < 16∧us q.st m=true∧(q.thr m).why=0:=by
 unfold Sp.ready
 rw [List.mem_filter]
 constructor
 ·rintro ⟨h1,h2⟩
  obtain ⟨m,rfl,hm,hu⟩:=zhu h1
  exact ⟨m,rfl,hm,hu,by simpa using h2⟩
 ·rintro ⟨m,rfl,hm,hu,hw⟩
  refine ⟨?_,by simpa using hw⟩
  unfold usl
  exact List.mem_map.2 ⟨m,List.mem_filter.2 ⟨List.mem_range.2 hm,hu⟩,rfl⟩
theorem zfa (q:Sp) (m:Nat) (hm:m < 16):q.ready.count (m:Int)=q.rc m:=by
 rw [(zc1 q).count]
 unfold Sp.rc
 by_cases h:us q.st m=true∧(q.thr m).why=0
 ·rw [if_pos h,if_pos ((zdk q m).2 ⟨m,rfl,hm,h⟩)]
 ·rw [if_neg h,if_neg]
  intro hc
  obtain ⟨k,e,_,h'⟩:=(zdk q m).1 hc
  have:k=m:=by omega
  exact h (this ▸ h')
theorem Steps.lists {n:Int} {e:Eff} (h:Steps q n q' e) (hn:(e.stopped || e.ended)=true→0≤n∧n < 16) :
  (∀ x ∈ e.woken,x ∉ q.ready∧x ∈ q'.ready)∧((e.stopped || e.ended)=true→n ∉ q'.ready)∧q'.ready.length+(if (e.stopped || e.ended)=true then 1 else 0)=q.ready.length+e.woken.length:=by
 have c:∀ m:Nat,m < 16→q'.ready.count (m:Int)+(if (e.stopped || e.ended)=true∧(m:Int)=n then 1 else 0)=q.ready.count (m:Int)+e.woken.count (m:Int):=fun m hm=>by
  rw [zfa _ _ hm,zfa _ _ hm]
  exact h.rc m
 have b1:∀ x,q'.ready.count x≤1:=fun x=>List.nodup_iff_count.1 (zc1 q') x
 have b2:∀ x,q.ready.count x≤1:=fun x=>List.nodup_iff_count.1 (zc1 q) x
 have gone:(e.stopped || e.ended)=true→q'.ready.count n=0:=fun hg=>by
  obtain ⟨hn0,hn1⟩:=hn hg
  have h1:=c n.toNat (by omega)
  have h2:=h.self hg
  have h3:=b2 n
  rw [show ((n.toNat:Nat):Int)=n by omega,if_pos ⟨hg,rfl⟩] at h1
  omega
 refine ⟨fun x hx=>?_,fun hg hc=>?_,?_⟩
 ·have hr:=h.inr x hx
  have h1:=c x.toNat (by omega)
  rw [show ((x.toNat:Nat):Int)=x by omega] at h1
  have h2:=List.count_pos_iff.2 hx
  have h3:=b1 x
  by_cases hc:(e.stopped || e.ended)=true∧x=n
  ·have h4:=h.self hc.1
   rw [← hc.2] at h4
   omega
  ·rw [if_neg hc] at h1
   exact ⟨fun hm=>by have:=List.count_pos_iff.2 hm;omega,List.count_pos_iff.1 (by omega)⟩
 ·have:=List.count_pos_iff.2 hc
  have:=gone hg
  omega
 ·have p:(q'.ready++(if (e.stopped || e.ended)=true then [n] else [])).Perm (q.ready++e.woken):=by
   refine List.perm_iff_count.2 fun x=>?_
   rw [List.count_append,List.count_append]
   by_cases hx:0≤x∧x < 16
   ·have h1:=c x.toNat (by omega)
    rw [show ((x.toNat:Nat):Int)=x by omega] at h1
    rw [← h1]
    by_cases hg:(e.stopped || e.ended)=true
    ·rw [if_pos hg,za2]
     unfold at1
     by_cases hxn:x=n
     ·rw [if_pos hxn,if_pos ⟨hg,hxn⟩]
     ·rw [if_neg hxn,if_neg (fun h=>hxn h.2)]
    ·rw [if_neg hg,if_neg (fun h=>hg h.1)];rfl
   ·have z1:q'.ready.count x=0:=List.count_eq_zero.2 fun hc=>by
     obtain ⟨m,e,hm,_⟩:=(zdk q' x).1 hc
     omega
    have z2:q.ready.count x=0:=List.count_eq_zero.2 fun hc=>by
     obtain ⟨m,e,hm,_⟩:=(zdk q x).1 hc
     omega
    have z3:e.woken.count x=0:=List.count_eq_zero.2 fun hc=>hx (h.inr x hc)
    rw [z1,z2,z3]
    by_cases hg:(e.stopped || e.ended)=true
    ·rw [if_pos hg,za2]
     unfold at1
     rw [if_neg (fun h':x=n=>hx (by rw [h'];exact hn hg))]
    ·rw [if_neg hg];rfl
  have:=p.length_eq
  rw [List.length_append,List.length_append] at this
  rw [← this]
  split <;> rfl
end
theorem run_gone {q:Sp} (h16:q.st.length=16) (slot ch:Int):((q.run slot ch).2.1.stopped || (q.run slot ch).2.1.ended)=true→0≤slot∧slot < 16:=by
 unfold Sp.run
 dsimp only
 split
 ·intro h;simp [Eff.none] at h
 ·rename_i h1
  intro _
  have h1':q.usedB slot=true:=by cases h:q.usedB slot <;> simp_all
  unfold Sp.usedB at h1'
  simp only [Bool.and_eq_true,decide_eq_true_eq] at h1'
  have:=zd8 h1'.2
  omega
theorem ziv (q:Sp):q.ready.length≤16:=Nat.le_trans (List.length_filter_le _ _) (zht _ _)
theorem done_eff (q:Sp) (k:Int):(q.done k).2.1=⟨(q.done k).2.1.woken,false,false,false⟩:=by
 unfold Sp.done
 split <;> rfl
theorem Calm.fresh (p:Prg):Calm (Sp.fresh p) []:=zl5 p _ fun t ht=>by
 obtain ⟨r,_,rfl⟩:=List.mem_map.1 ht
 exact ⟨rfl,rfl⟩
end Dk
namespace Go.Proofs.YtglhhlfopccmaaaGreat
open Go.RowKit Go.Lib
theorem In_yes (A:Option Addr) (L C:Nat) (xs:List Int) (x:Int) (w:World) (h:Dk.SlI w.heap.size w A L C xs) (hx:x ∈ xs) :
  Calls Tryz.prog 32 #[.slice A L C,.int .i64 x] w fun e w'=>e=.returned (.bool true)∧w'=w:=by
 have K:=In_any A L C xs x w h
 rw [List.contains_iff_mem.2 hx] at K
 exact K
theorem In_no (A:Option Addr) (L C:Nat) (xs:List Int) (x:Int) (w:World) (h:Dk.SlI w.heap.size w A L C xs) (hx:x ∉ xs) :
  Calls Tryz.prog 32 #[.slice A L C,.int .i64 x] w fun e w'=>e=.returned (.bool false)∧w'=w:=by
 have K:=In_any A L C xs x w h
 have e:xs.contains x=false:=by
  rw [Bool.eq_false_iff]
  exact fun hc=>hx (List.contains_iff_mem.1 hc)
 rw [e] at K
 exact K
theorem zhx (s:Dk.Sh) (p:Dk.Prg) (A:Option Addr) (Ln C:Nat) (w:World) (hp:Dk.PrgAt w.heap.size w s p) (hk:Dk.check p≠0) :
  Calls Tryz.prog 7 #[Dk.pv s p,.slice A Ln C] w fun e w'=>e=.returned (.bool true)∧Below w.heap.size w w':=by
 obtain ⟨W1,e1⟩:∃ W1,W1=w.alloc (.cells #[.slice s.fA s.fL s.fC,.int .i64 p.words,.int .i64 p.mutexes,.int .i64 p.conds,.slice s.sA s.sL s.sC,.slice s.pA s.pL s.pC,.int .i64 p.blocks,.int .i64 p.prio] 25):=⟨_,rfl⟩
 have s1:=(Dk.Sep.begin (Below.refl w.heap.size w)).newBox e1
 have u1:Below w.heap.size w W1:=s1.out
 have K:=NewC_no s p W1 (hp.below u1 (Nat.le_refl _)) u1.size hk
 have c1:=(s1.box (b:=w.heap.size) (cs:=#[.slice s.fA s.fL s.fC,.int .i64 p.words,.int .i64 p.mutexes,.int .i64 p.conds,.slice s.sA s.sL s.sC,.slice s.pA s.pL s.pC,.int .i64 p.blocks,.int .i64 p.prio]) (t:=25) (by simp)).cell
 have HS:Hid (Below w.heap.size w W1):=u1
 have HK:Hid (Dk.check p≠0):=hk
 have H1:Hid _:=e1.symm
 clear e1 s1 u1 hp hk
 generalize Dk.check p=z at *
 go_enter Tryz.func7,Tryz.ntmps7
 go_wp2_with (rw [H1.out];clear H1)
 refine K.mono ?_
 rintro e w2 ⟨rfl,u2⟩
 have HU:Hid (Below w.heap.size w w2):=Dk.zi HS.out u2
 have hz:¬ z=0:=HK.out
 clear c1 K u2
 go_wp2_with fail
 refine (zh5 w2).mono ?_
 rintro e w4 ⟨rfl,u4⟩
 have HU4:Hid (Below w.heap.size w w4):=Dk.zi HU.out u4
 clear u4
 go_wp2_with fail
 go_ret
 exact ⟨rfl,HU4.out⟩
end Go.Proofs.YtglhhlfopccmaaaGreat
