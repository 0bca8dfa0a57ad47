import Derived.Test.YtglhhlfopccmaaaGreatOw20
set_option linter.unusedSimpArgs false
set_option linter.unusedVariables false
set_option linter.unnecessarySimpa false
set_option maxHeartbeats 8000000
set_option maxRecDepth 100000
namespace Dk
open Go Go.RowKit
def at_ (k:Int) (n:Nat):Nat:=(k % (n:Int)).toNat
theorem zgw (k:Int) {n:Nat} (h:0 < n):at_ k n < n:=by
 unfold at_
 have h1:=Int.emod_nonneg k (show (n:Int)≠0 by omega)
 have h2:=Int.emod_lt_of_pos k (show (0:Int) < n by omega)
 omega
theorem at_eq (k:Int) {n:Nat} (h:0 < n):(at_ k n:Int)=k % (n:Int):=by
 unfold at_
 have h1:=Int.emod_nonneg k (show (n:Int)≠0 by omega)
 omega
theorem tmod_le (k:Int) {n:Nat} (h:0 < n):-(n:Int) < k.tmod n∧k.tmod n < n:=by
 have h1:=Int.tmod_lt_of_pos k (show (0:Int) < n by omega)
 have h2:=Int.lt_tmod_of_pos k (show (0:Int) < n by omega)
 exact ⟨h2,h1⟩
theorem zp8 (k:Int) (n:Nat):(k.tmod n) % (n:Int)=k % (n:Int):=by
 have h:=Int.tmod_add_mul_tdiv k n
 conv=>rhs;rw [← h]
 rw [Int.add_mul_emod_self_left]
theorem at_up (k:Int) {n:Nat} (h:0 < n):(k.tmod n+n) % (n:Int)=(at_ k n:Int):=by
 rw [at_eq k h,← zp8 k n,Int.add_emod_right]
structure St where
 owner:List Int
 held:List Bool
 wait:List (List Int)
 conds:List (List (Int × Int))
 count:List Int
 downs:List (List Int)
def St.waits (S:St) (x:Int):Bool:=S.wait.any (·.contains x) || S.downs.any (·.contains x) || S.conds.any (fun l=>l.any (fun p=>p.1 == x))
def St.open (S:St) (n:Nat) (choice:Int):St × Int × Bool:=
 let l:=S.wait.getD n []
 if l.length=0 then ({ S with held:=S.held.set n false },0,false)
 else ({ S with owner:=S.owner.set n (l.getD (at_ choice l.length) 0),wait:=S.wait.set n (l.eraseIdx (at_ choice l.length)) },l.getD (at_ choice l.length) 0,true)
def St.goes1 (S:St) (p:Int × Int):St × List Int:=
 let n:=p.2.toNat
 if S.held.getD n false then ({ S with wait:=S.wait.set n (S.wait.getD n []++[p.1]) },[])
 else ({ S with held:=S.held.set n true,owner:=S.owner.set n p.1 },[p.1])
def St.goes (S:St):List (Int × Int)→St × List Int
 | []=>(S,[])
 | p::r=>((S.goes1 p).1.goes r).1 |> fun T=>(T,(S.goes1 p).2++((S.goes1 p).1.goes r).2)
def St.told (S:St) (c:Nat) (choice:Int) (all:Bool):List (Int × Int):=
 let l:=S.conds.getD c []
 if all then l else if l.length=0 then [] else [l.getD (at_ choice l.length) (0,0)]
def St.kept (S:St) (c:Nat) (choice:Int) (all:Bool):List (Int × Int):=
 let l:=S.conds.getD c []
 if all then [] else if l.length=0 then [] else l.eraseIdx (at_ choice l.length)
def St.signal (S:St) (c:Nat) (choice:Int) (all:Bool):St × List Int:=
 ({ S with conds:=S.conds.set c (S.kept c choice all) }).goes (S.told c choice all)
def lens {α:Type} (l:List (List α)):Nat:=(l.map List.length).sum
def St.tot (S:St):Nat:=lens S.wait+lens S.conds+lens S.downs
theorem zef {α:Type}:∀ (l:List (List α)) (x:List α),x ∈ l→x.length≤lens l
 | [],x,h=>absurd h (by simp)
 | y::r,x,h=>by
  unfold lens
  rw [List.map_cons,List.sum_cons]
  rcases List.mem_cons.1 h with rfl | h
  ·omega
  ·have:=zef r x h
   unfold lens at this
   omega
theorem zeh {α:Type}:∀ (l:List (List α)) (i:Nat) (y:List α),i < l.length→lens (l.set i y)+(l.getD i []).length=lens l+y.length
 | [],i,y,h=>absurd h (by simp)
 | x::r,0,y,_=>by
  unfold lens
  simp
  omega
 | x::r,i+1,y,h=>by
  have:=zeh r i y (by simpa using h)
  unfold lens at this ⊢
  simp only [List.set_cons_succ,List.map_cons,List.sum_cons,List.getD_cons_succ]
  omega
structure Ok (S:St) (k:Nat):Prop where
 held:S.held.length=S.owner.length
 wait:S.wait.length=S.owner.length
 downs:S.downs.length=S.count.length
 most:S.owner.length≤4∧S.conds.length≤4∧S.count.length≤4
 owner:∀ x ∈ S.owner,i64 x
 waits:∀ l ∈ S.wait,∀ x ∈ l,i64 x
 downsI:∀ l ∈ S.downs,∀ x ∈ l,i64 x
 conds:∀ l ∈ S.conds,∀ p ∈ l,i64 p.1∧0≤p.2∧p.2 < S.owner.length
 count:∀ x ∈ S.count,0≤x∧x≤1048576
 tot:S.tot≤k
theorem zac {α:Type} (l:List α) (d:α) (k:Nat) (h:k < l.length):l.getD k d ∈ l:=by simp [List.getD,h]
theorem Ok.waitLen {S:St} {k:Nat} (h:Ok S k) {l:List Int} (hl:l ∈ S.wait):l.length≤k:=by
 have:=zef _ _ hl
 have:=h.tot
 unfold St.tot at this
 omega
theorem Ok.condLen {S:St} {k:Nat} (h:Ok S k) {l:List (Int × Int)} (hl:l ∈ S.conds):l.length≤k:=by
 have:=zef _ _ hl
 have:=h.tot
 unfold St.tot at this
 omega
theorem Ok.downLen {S:St} {k:Nat} (h:Ok S k) {l:List Int} (hl:l ∈ S.downs):l.length≤k:=by
 have:=zef _ _ hl
 have:=h.tot
 unfold St.tot at this
 omega
theorem ze4 {α:Type} {l:List α} {i:Nat} {y:α} {p:α→Prop} (h:∀ x ∈ l,p x) (hy:p y):∀ x ∈ l.set i y,p x:=fun x hx=>by
 rcases List.mem_or_eq_of_mem_set hx with hx | rfl
 ·exact h x hx
 ·exact hy
theorem Ok.mono {S:St} {k k':Nat} (h:Ok S k) (hk:k≤k'):Ok S k':=⟨h.held,h.wait,h.downs,h.most,h.owner,h.waits,h.downsI,h.conds,h.count,Nat.le_trans h.tot hk⟩
theorem Ok.setHeld {S:St} {k:Nat} (h:Ok S k) (n:Nat) (b:Bool):Ok { S with held:=S.held.set n b } k:=⟨by rw [List.length_set];exact h.held,h.wait,h.downs,h.most,h.owner,h.waits,h.downsI,h.conds,h.count,h.tot⟩
theorem Ok.setOwner {S:St} {k:Nat} (h:Ok S k) (n:Nat) (x:Int) (hx:i64 x):Ok { S with owner:=S.owner.set n x } k:=
 ⟨by show _=(S.owner.set n x).length;rw [List.length_set];exact h.held,by show _=(S.owner.set n x).length;rw [List.length_set];exact h.wait,h.downs,by show (S.owner.set n x).length≤4∧_;rw [List.length_set];exact h.most,ze4 h.owner hx,h.waits,h.downsI,fun l hl p hp=>by show _∧_∧_ < ((S.owner.set n x).length:Int);rw [List.length_set];exact h.conds l hl p hp,h.count,h.tot⟩
theorem Ok.setWait {S:St} {k k':Nat} (h:Ok S k) (n:Nat) (hn:n < S.wait.length) (l:List Int) (hl:∀ x ∈ l,i64 x) (hk:k+l.length≤k'+(S.wait.getD n []).length):Ok { S with wait:=S.wait.set n l } k':=
 ⟨h.held,by show (S.wait.set n l).length=_;rw [List.length_set];exact h.wait,h.downs,h.most,h.owner,ze4 h.waits hl,h.downsI,h.conds,h.count,by
  have h1:=zeh S.wait n l hn
  have h2:=h.tot
  unfold St.tot at h2 ⊢
  show lens (S.wait.set n l)+lens S.conds+lens S.downs≤k'
  omega⟩
theorem Ok.setDowns {S:St} {k k':Nat} (h:Ok S k) (n:Nat) (hn:n < S.downs.length) (l:List Int) (hl:∀ x ∈ l,i64 x) (hk:k+l.length≤k'+(S.downs.getD n []).length):Ok { S with downs:=S.downs.set n l } k':=
 ⟨h.held,h.wait,by show (S.downs.set n l).length=_;rw [List.length_set];exact h.downs,h.most,h.owner,h.waits,ze4 h.downsI hl,h.conds,h.count,by
  have h1:=zeh S.downs n l hn
  have h2:=h.tot
  unfold St.tot at h2 ⊢
  show lens S.wait+lens S.conds+lens (S.downs.set n l)≤k'
  omega⟩
theorem Ok.setConds {S:St} {k k':Nat} (h:Ok S k) (n:Nat) (hn:n < S.conds.length) (l:List (Int × Int)) (hl:∀ p ∈ l,i64 p.1∧0≤p.2∧p.2 < S.owner.length) (hk:k+l.length≤k'+(S.conds.getD n []).length):Ok { S with conds:=S.conds.set n l } k':=
 ⟨h.held,h.wait,h.downs,by show _∧(S.conds.set n l).length≤4∧_;rw [List.length_set];exact h.most,h.owner,h.waits,h.downsI,ze4 h.conds hl,h.count,by
  have h1:=zeh S.conds n l hn
  have h2:=h.tot
  unfold St.tot at h2 ⊢
  show lens S.wait+lens (S.conds.set n l)+lens S.downs≤k'
  omega⟩
theorem Ok.setCount {S:St} {k:Nat} (h:Ok S k) (n:Nat) (x:Int) (hx:0≤x∧x≤1048576):Ok { S with count:=S.count.set n x } k:=
 ⟨h.held,h.wait,by show _=(S.count.set n x).length;rw [List.length_set];exact h.downs,by show _∧_∧(S.count.set n x).length≤4;rw [List.length_set];exact h.most,h.owner,h.waits,h.downsI,h.conds,ze4 h.count hx,h.tot⟩
theorem zie {α:Type} {l:List α} {i:Nat} {p:α→Prop} (h:∀ x ∈ l,p x):∀ x ∈ l.eraseIdx i,p x:=fun x hx=>h x (List.mem_of_mem_eraseIdx hx)
theorem zel {α:Type} {l:List α} {y:α} {p:α→Prop} (h:∀ x ∈ l,p x) (hy:p y):∀ x ∈ l++[y],p x:=fun x hx=>by
 rcases List.mem_append.1 hx with hx | hx
 ·exact h x hx
 ·rw [List.mem_singleton] at hx;rw [hx];exact hy
theorem Ok.goes1 {S:St} {k:Nat} (h:Ok S k) (p:Int × Int) (hp:i64 p.1∧0≤p.2∧p.2 < S.owner.length):Ok (S.goes1 p).1 (k+1)∧(S.goes1 p).1.owner.length=S.owner.length:=by
 have hn:p.2.toNat < S.wait.length:=by have:=h.wait;omega
 unfold St.goes1
 dsimp only
 split
 ·exact ⟨h.setWait _ hn _ (zel (h.waits _ (zac _ _ _ hn)) hp.1) (by simp;omega),rfl⟩
 ·exact ⟨(((h.setOwner _ _ hp.1).setHeld _ true)).mono (by omega),List.length_set⟩
theorem zih:∀ (l:List (Int × Int)) (S:St) (p:Int × Int),S.goes (l++[p])=(((S.goes l).1.goes1 p).1,(S.goes l).2++((S.goes l).1.goes1 p).2)
 | [],S,p=>by simp [St.goes]
 | q::r,S,p=>by
  rw [List.cons_append,St.goes,St.goes,zih r]
  simp
theorem Ok.goes:∀ (l:List (Int × Int)) {S:St} {k:Nat},Ok S k→(∀ p ∈ l,i64 p.1∧0≤p.2∧p.2 < S.owner.length)→Ok (S.goes l).1 (k+l.length)∧(S.goes l).1.owner.length=S.owner.length
 | [],S,k,h,_=>⟨h,rfl⟩
 | p::r,S,k,h,hp=>by
  have h1:=h.goes1 p (hp p (by simp))
  have h2:=Ok.goes r h1.1 (fun q hq=>by rw [h1.2];exact hp q (by simp [hq]))
  rw [St.goes,List.length_cons]
  exact ⟨h2.1.mono (by omega),h2.2.trans h1.2⟩
theorem zdg:∀ (l:List (Int × Int)) (S:St),(S.goes l).2.length≤l.length
 | [],S=>Nat.le_refl _
 | p::r,S=>by
  rw [St.goes,List.length_cons]
  have h1:=zdg r (S.goes1 p).1
  have h2:(S.goes1 p).2.length≤1:=by
   unfold St.goes1
   dsimp only
   split <;> simp
  simp only [List.length_append]
  omega
theorem zbx (S:St) (n:Nat) (ch:Int) (h:(S.wait.getD n []).length=0):S.open n ch=({ S with held:=S.held.set n false },0,false):=by
 unfold St.open
 simp only [h,if_true]
theorem zby (S:St) (n:Nat) (ch:Int) (l:List Int) (h:S.wait.getD n []=l) (h0:0 < l.length) (a:Nat) (ha:at_ ch l.length=a) (x:Int) (hx:l.getD a 0=x):S.open n ch=({ S with owner:=S.owner.set n x,wait:=S.wait.set n (l.eraseIdx a) },x,true):=by
 unfold St.open
 have:¬ l.length=0:=by omega
 simp only [h,this,if_false,ha,hx]
def pr2:List (Int × Int)→List Value
 | []=>[]
 | p::r=>[Value.int .i64 p.1,.int .i64 p.2]++pr2 r
theorem zgc:∀ ps qs,pr2 (ps++qs)=pr2 ps++pr2 qs
 | [],qs=>rfl
 | p::r,qs=>by rw [List.cons_append,pr2,pr2,zgc r,List.append_assoc]
theorem zpl:∀ (ps:List (Int × Int)) (k:Nat),k < ps.length→(pr2 ps)[k*2]? = some (.int .i64 (ps.getD k (0,0)).1)∧(pr2 ps)[k*2+1]? = some (.int .i64 (ps.getD k (0,0)).2)
 | [],k,h=>absurd h (by simp)
 | p::r,0,_=>by simp [pr2]
 | p::r,k+1,h=>by
  have:=zpl r k (by simp at h;omega)
  rw [pr2,List.getElem?_append_right (by simp;omega),List.getElem?_append_right (by simp;omega)]
  simp only [List.length_cons,List.length_nil,List.getD_cons_succ]
  rw [show (k+1)*2 - (0+1+1)=k*2 by omega,show (k+1)*2+1 - (0+1+1)=k*2+1 by omega]
  exact this
theorem is_one (xs:List Int):∀ u ∈ is xs,u.oneCell'=true:=fun u hu=>by
 obtain ⟨y,_,rfl⟩:=List.mem_map.1 hu
 rfl
structure Vs where
 v0:Value
 v1:Value
 v2:Value
 v3:Value
 v4:Value
 v5:Value
 hv:List Value
 cv:List Value
 dv:List Value
theorem zhs {S:St} {c:Nat} (hc:c < S.conds.length) (ch:Int) (all:Bool):∀ p ∈ S.told c ch all,p ∈ S.conds.getD c []:=by
 unfold St.told
 intro p hp
 simp only at hp
 split at hp
 ·exact hp
 ·split at hp
  ·simp at hp
  ·rename_i h
   rw [List.mem_singleton] at hp
   rw [hp]
   exact zac _ _ _ (zgw ch (by omega))
theorem Ok.signal {S:St} {k:Nat} (ok:Ok S k) (c:Nat) (hc:c < S.conds.length) (ch:Int) (all:Bool):Ok (S.signal c ch all).1 k:=by
 have hm:=zac S.conds [] c hc
 have hl:=ok.condLen hm
 have hp:=ok.conds _ hm
 have hto:=zhs hc ch all
 have hlen:(S.kept c ch all).length+(S.told c ch all).length≤(S.conds.getD c []).length∧∀ p ∈ S.kept c ch all,p ∈ S.conds.getD c []:=by
  unfold St.kept St.told
  dsimp only
  split
  ·exact ⟨by simp,fun p hp=>by simp at hp⟩
  ·split
   ·exact ⟨by simp,fun p hp=>by simp at hp⟩
   ·rename_i h
    refine ⟨?_,fun p hp=>List.mem_of_mem_eraseIdx hp⟩
    rw [List.length_eraseIdx,if_pos (zgw ch (by omega)),List.length_singleton]
    omega
 have h1:=ok.setConds (k':=k - (S.told c ch all).length) c hc (S.kept c ch all) (fun p h=>hp p (hlen.2 p h)) (by omega)
 have h2:=Ok.goes (S.told c ch all) h1 (fun p h=>hp p (hto p h))
 exact h2.1.mono (by omega)
end Dk
namespace Go.Proofs.YtglhhlfopccmaaaGreat
open Go.RowKit
structure GateI (G0:Nat→Dk.St→List Dk.Thing→Prop):Prop where
 lock_arg:∀ {W w:World} {b k:Nat} {S:Dk.St} {us ts:List Dk.Thing},G0 b S ts→Dk.Sep W w (us++ts)→Dk.Ok S k→k≤300→∀ who n:Int,(n < 0∨(S.owner.length:Int)≤n)→Calls Tryz.prog 153 #[.pointer (some ⟨b,0,none⟩),.int .i64 who,.int .i64 n] w fun e w'=>e=.returned (.tuple #[.bool false,.int .i64 1])∧∃ ts',G0 b S ts'∧Dk.Sep W w' (us++ts')
 lock_busy:∀ {W w:World} {b k:Nat} {S:Dk.St} {us ts:List Dk.Thing},G0 b S ts→Dk.Sep W w (us++ts)→Dk.Ok S k→k≤300→∀ (who:Int) (n:Nat),n < S.owner.length→(S.waits who=true∨(S.held.getD n false=true∧S.owner.getD n 0=who))→Calls Tryz.prog 153 #[.pointer (some ⟨b,0,none⟩),.int .i64 who,.int .i64 (n:Int)] w fun e w'=>e=.returned (.tuple #[.bool false,.int .i64 4])∧∃ ts',G0 b S ts'∧Dk.Sep W w' (us++ts')
 lock_wait:∀ {W w:World} {b k:Nat} {S:Dk.St} {us ts:List Dk.Thing},G0 b S ts→Dk.Sep W w (us++ts)→Dk.Ok S k→k≤300→∀ (who:Int) (n:Nat),n < S.owner.length→Dk.i64 who→S.waits who=false→¬ (S.held.getD n false=true∧S.owner.getD n 0=who)→S.held.getD n false=true→Calls Tryz.prog 153 #[.pointer (some ⟨b,0,none⟩),.int .i64 who,.int .i64 (n:Int)] w fun e w'=>e=.returned (.tuple #[.bool false,.int .i64 0])∧∃ ts',G0 b { S with wait:=S.wait.set n (S.wait.getD n []++[who]) } ts'∧Dk.Sep W w' (us++ts')
 lock_yes:∀ {W w:World} {b k:Nat} {S:Dk.St} {us ts:List Dk.Thing},G0 b S ts→Dk.Sep W w (us++ts)→Dk.Ok S k→k≤300→∀ (who:Int) (n:Nat),n < S.owner.length→Dk.i64 who→S.waits who=false→¬ (S.held.getD n false=true∧S.owner.getD n 0=who)→S.held.getD n false=false→Calls Tryz.prog 153 #[.pointer (some ⟨b,0,none⟩),.int .i64 who,.int .i64 (n:Int)] w fun e w'=>e=.returned (.tuple #[.bool true,.int .i64 0])∧∃ ts',G0 b { S with held:=S.held.set n true,owner:=S.owner.set n who } ts'∧Dk.Sep W w' (us++ts')
 unlock_arg:∀ {W w:World} {b k:Nat} {S:Dk.St} {us ts:List Dk.Thing},G0 b S ts→Dk.Sep W w (us++ts)→Dk.Ok S k→k≤300→∀ who n ch:Int,(n < 0∨(S.owner.length:Int)≤n)→Calls Tryz.prog 155 #[.pointer (some ⟨b,0,none⟩),.int .i64 who,.int .i64 n,.int .i64 ch] w fun e w'=>e=.returned (.tuple #[.int .i64 0,.bool false,.int .i64 1])∧∃ ts',G0 b S ts'∧Dk.Sep W w' (us++ts')
 unlock_owner:∀ {W w:World} {b k:Nat} {S:Dk.St} {us ts:List Dk.Thing},G0 b S ts→Dk.Sep W w (us++ts)→Dk.Ok S k→k≤300→∀ (who:Int) (n:Nat) (ch:Int),n < S.owner.length→(S.held.getD n false=false∨S.owner.getD n 0≠who)→Calls Tryz.prog 155 #[.pointer (some ⟨b,0,none⟩),.int .i64 who,.int .i64 (n:Int),.int .i64 ch] w fun e w'=>e=.returned (.tuple #[.int .i64 0,.bool false,.int .i64 5])∧∃ ts',G0 b S ts'∧Dk.Sep W w' (us++ts')
 unlock_ok:∀ {W w:World} {b k:Nat} {S:Dk.St} {us ts:List Dk.Thing},G0 b S ts→Dk.Sep W w (us++ts)→Dk.Ok S k→k≤300→∀ (who:Int) (n:Nat) (ch:Int),n < S.owner.length→Dk.i64 ch→S.held.getD n false=true→S.owner.getD n 0=who→Calls Tryz.prog 155 #[.pointer (some ⟨b,0,none⟩),.int .i64 who,.int .i64 (n:Int),.int .i64 ch] w fun e w'=>e=.returned (.tuple #[.int .i64 (S.open n ch).2.1,.bool (S.open n ch).2.2,.int .i64 0])∧∃ ts',G0 b (S.open n ch).1 ts'∧Dk.Sep W w' (us++ts')
 wait_arg:∀ {W w:World} {b k:Nat} {S:Dk.St} {us ts:List Dk.Thing},G0 b S ts→Dk.Sep W w (us++ts)→Dk.Ok S k→k≤300→∀ who c n ch:Int,((c < 0∨(S.conds.length:Int)≤c)∨(n < 0∨(S.owner.length:Int)≤n))→Calls Tryz.prog 157 #[.pointer (some ⟨b,0,none⟩),.int .i64 who,.int .i64 c,.int .i64 n,.int .i64 ch] w fun e w'=>e=.returned (.tuple #[.int .i64 0,.bool false,.int .i64 1])∧∃ ts',G0 b S ts'∧Dk.Sep W w' (us++ts')
 wait_busy:∀ {W w:World} {b k:Nat} {S:Dk.St} {us ts:List Dk.Thing},G0 b S ts→Dk.Sep W w (us++ts)→Dk.Ok S k→k≤300→∀ (who:Int) (c n:Nat) (ch:Int),c < S.conds.length→n < S.owner.length→S.waits who=true→Calls Tryz.prog 157 #[.pointer (some ⟨b,0,none⟩),.int .i64 who,.int .i64 (c:Int),.int .i64 (n:Int),.int .i64 ch] w fun e w'=>e=.returned (.tuple #[.int .i64 0,.bool false,.int .i64 4])∧∃ ts',G0 b S ts'∧Dk.Sep W w' (us++ts')
 wait_owner:∀ {W w:World} {b k:Nat} {S:Dk.St} {us ts:List Dk.Thing},G0 b S ts→Dk.Sep W w (us++ts)→Dk.Ok S k→k≤300→∀ (who:Int) (c n:Nat) (ch:Int),c < S.conds.length→n < S.owner.length→S.waits who=false→(S.held.getD n false=false∨S.owner.getD n 0≠who)→Calls Tryz.prog 157 #[.pointer (some ⟨b,0,none⟩),.int .i64 who,.int .i64 (c:Int),.int .i64 (n:Int),.int .i64 ch] w fun e w'=>e=.returned (.tuple #[.int .i64 0,.bool false,.int .i64 5])∧∃ ts',G0 b S ts'∧Dk.Sep W w' (us++ts')
 wait_ok:∀ {W w:World} {b k:Nat} {S:Dk.St} {us ts:List Dk.Thing},G0 b S ts→Dk.Sep W w (us++ts)→Dk.Ok S k→k≤300→∀ (who:Int) (c n:Nat) (ch:Int),c < S.conds.length→n < S.owner.length→Dk.i64 who→Dk.i64 ch→S.waits who=false→S.held.getD n false=true→S.owner.getD n 0=who→Calls Tryz.prog 157 #[.pointer (some ⟨b,0,none⟩),.int .i64 who,.int .i64 (c:Int),.int .i64 (n:Int),.int .i64 ch] w fun e w'=>e=.returned (.tuple #[.int .i64 (S.open n ch).2.1,.bool (S.open n ch).2.2,.int .i64 0])∧∃ ts',G0 b { (S.open n ch).1 with conds:=S.conds.set c (S.conds.getD c []++[(who,(n:Int))]) } ts'∧Dk.Sep W w' (us++ts')
 signal_arg:∀ {W w:World} {b k:Nat} {S:Dk.St} {us ts:List Dk.Thing},G0 b S ts→Dk.Sep W w (us++ts)→Dk.Ok S k→k≤300→∀ (c ch:Int) (all:Bool),(c < 0∨(S.conds.length:Int)≤c)→Calls Tryz.prog 204 #[.pointer (some ⟨b,0,none⟩),.int .i64 c,.int .i64 ch,.bool all] w fun e w'=>(∃ A C,e=.returned (.tuple #[.slice A 0 C,.int .i64 1]))∧∃ ts',G0 b S ts'∧Dk.Sep W w' (us++ts')
 signal_ok:∀ {W w:World} {b k:Nat} {S:Dk.St} {us ts:List Dk.Thing},G0 b S ts→Dk.Sep W w (us++ts)→Dk.Ok S k→k≤300→∀ (c:Nat) (ch:Int) (all:Bool),c < S.conds.length→Dk.i64 ch→Calls Tryz.prog 204 #[.pointer (some ⟨b,0,none⟩),.int .i64 (c:Int),.int .i64 ch,.bool all] w fun e w'=>∃ A C,e=.returned (.tuple #[.slice A (S.signal c ch all).2.length C,.int .i64 0])∧∃ ts',G0 b (S.signal c ch all).1 ts'∧Dk.Sep W w' (Dk.rowOf 3 1 (.slice A (S.signal c ch all).2.length C) (S.signal c ch all).2.length (Dk.is (S.signal c ch all).2)::us++ts')
 down_arg:∀ {W w:World} {b k:Nat} {S:Dk.St} {us ts:List Dk.Thing},G0 b S ts→Dk.Sep W w (us++ts)→Dk.Ok S k→k≤300→∀ who n:Int,(n < 0∨(S.count.length:Int)≤n)→Calls Tryz.prog 158 #[.pointer (some ⟨b,0,none⟩),.int .i64 who,.int .i64 n] w fun e w'=>e=.returned (.tuple #[.bool false,.int .i64 1])∧∃ ts',G0 b S ts'∧Dk.Sep W w' (us++ts')
 down_busy:∀ {W w:World} {b k:Nat} {S:Dk.St} {us ts:List Dk.Thing},G0 b S ts→Dk.Sep W w (us++ts)→Dk.Ok S k→k≤300→∀ (who:Int) (n:Nat),n < S.count.length→S.waits who=true→Calls Tryz.prog 158 #[.pointer (some ⟨b,0,none⟩),.int .i64 who,.int .i64 (n:Int)] w fun e w'=>e=.returned (.tuple #[.bool false,.int .i64 4])∧∃ ts',G0 b S ts'∧Dk.Sep W w' (us++ts')
 down_yes:∀ {W w:World} {b k:Nat} {S:Dk.St} {us ts:List Dk.Thing},G0 b S ts→Dk.Sep W w (us++ts)→Dk.Ok S k→k≤300→∀ (who:Int) (n:Nat),n < S.count.length→S.waits who=false→0 < S.count.getD n 0→Calls Tryz.prog 158 #[.pointer (some ⟨b,0,none⟩),.int .i64 who,.int .i64 (n:Int)] w fun e w'=>e=.returned (.tuple #[.bool true,.int .i64 0])∧∃ ts',G0 b { S with count:=S.count.set n (S.count.getD n 0 - 1) } ts'∧Dk.Sep W w' (us++ts')
 down_wait:∀ {W w:World} {b k:Nat} {S:Dk.St} {us ts:List Dk.Thing},G0 b S ts→Dk.Sep W w (us++ts)→Dk.Ok S k→k≤300→∀ (who:Int) (n:Nat),n < S.count.length→Dk.i64 who→S.waits who=false→¬ 0 < S.count.getD n 0→Calls Tryz.prog 158 #[.pointer (some ⟨b,0,none⟩),.int .i64 who,.int .i64 (n:Int)] w fun e w'=>e=.returned (.tuple #[.bool false,.int .i64 0])∧∃ ts',G0 b { S with downs:=S.downs.set n (S.downs.getD n []++[who]) } ts'∧Dk.Sep W w' (us++ts')
 up_arg:∀ {W w:World} {b k:Nat} {S:Dk.St} {us ts:List Dk.Thing},G0 b S ts→Dk.Sep W w (us++ts)→Dk.Ok S k→k≤300→∀ n ch:Int,(n < 0∨(S.count.length:Int)≤n)→Calls Tryz.prog 159 #[.pointer (some ⟨b,0,none⟩),.int .i64 n,.int .i64 ch] w fun e w'=>e=.returned (.tuple #[.int .i64 0,.bool false,.int .i64 1])∧∃ ts',G0 b S ts'∧Dk.Sep W w' (us++ts')
 up_some:∀ {W w:World} {b k:Nat} {S:Dk.St} {us ts:List Dk.Thing},G0 b S ts→Dk.Sep W w (us++ts)→Dk.Ok S k→k≤300→∀ (n:Nat) (ch:Int),n < S.count.length→Dk.i64 ch→0 < (S.downs.getD n []).length→Calls Tryz.prog 159 #[.pointer (some ⟨b,0,none⟩),.int .i64 (n:Int),.int .i64 ch] w fun e w'=>e=.returned (.tuple #[.int .i64 ((S.downs.getD n []).getD (Dk.at_ ch (S.downs.getD n []).length) 0),.bool true,.int .i64 0])∧∃ ts',G0 b { S with downs:=S.downs.set n ((S.downs.getD n []).eraseIdx (Dk.at_ ch (S.downs.getD n []).length)) } ts'∧Dk.Sep W w' (us++ts')
 up_full:∀ {W w:World} {b k:Nat} {S:Dk.St} {us ts:List Dk.Thing},G0 b S ts→Dk.Sep W w (us++ts)→Dk.Ok S k→k≤300→∀ (n:Nat) (ch:Int),n < S.count.length→(S.downs.getD n []).length=0→S.count.getD n 0=1048576→Calls Tryz.prog 159 #[.pointer (some ⟨b,0,none⟩),.int .i64 (n:Int),.int .i64 ch] w fun e w'=>e=.returned (.tuple #[.int .i64 0,.bool false,.int .i64 2])∧∃ ts',G0 b S ts'∧Dk.Sep W w' (us++ts')
 up_more:∀ {W w:World} {b k:Nat} {S:Dk.St} {us ts:List Dk.Thing},G0 b S ts→Dk.Sep W w (us++ts)→Dk.Ok S k→k≤300→∀ (n:Nat) (ch:Int),n < S.count.length→(S.downs.getD n []).length=0→S.count.getD n 0≠1048576→Calls Tryz.prog 159 #[.pointer (some ⟨b,0,none⟩),.int .i64 (n:Int),.int .i64 ch] w fun e w'=>e=.returned (.tuple #[.int .i64 0,.bool false,.int .i64 0])∧∃ ts',G0 b { S with count:=S.count.set n (S.count.getD n 0+1) } ts'∧Dk.Sep W w' (us++ts')
end Go.Proofs.YtglhhlfopccmaaaGreat
namespace Dk
open Go Go.RowKit
section
variable {α β : Type} {f : α → List β} {q : Nat}
theorem za4 (hf:∀ a,(f a).length=q):∀ l:List α,(l.flatMap f).length=l.length*q
 | []=>by simp
 | a::r=>by rw [List.flatMap_cons,List.length_append,za4 hf r,hf a,List.length_cons,Nat.add_mul,Nat.one_mul,Nat.add_comm]
theorem flat_get (hf:∀ a,(f a).length=q):∀ (l:List α) (i j:Nat) (a:α),l[i]? = some a→j < q→(l.flatMap f)[i*q+j]? = (f a)[j]?
 | [],i,j,a,h,_=>by simp at h
 | x::r,0,j,a,h,hj=>by
  simp at h
  subst h
  rw [List.flatMap_cons,Nat.zero_mul,Nat.zero_add,List.getElem?_append_left (by rw [hf];exact hj)]
 | x::r,i+1,j,a,h,hj=>by
  rw [List.flatMap_cons,List.getElem?_append_right (by rw [hf,Nat.add_mul];omega),hf,show (i+1)*q+j - q=i*q+j by rw [Nat.add_mul,Nat.one_mul];omega]
  exact flat_get hf r i j a (by simpa using h) hj
theorem zbv (hf:∀ a,(f a).length=q):∀ (l:List α) (i j:Nat) (a a':α) (y:β),l[i]? = some a→j < q→f a'=(f a).set j y→(l.flatMap f).set (i*q+j) y=(l.set i a').flatMap f
 | [],i,j,a,a',y,h,_,_=>by simp at h
 | x::r,0,j,a,a',y,h,hj,he=>by
  simp at h
  subst h
  rw [List.flatMap_cons,Nat.zero_mul,Nat.zero_add,List.set_append_left _ _ (by rw [hf];exact hj),List.set_cons_zero,List.flatMap_cons,he]
 | x::r,i+1,j,a,a',y,h,hj,he=>by
  rw [List.flatMap_cons,List.set_append_right _ _ (by rw [hf,Nat.add_mul];omega),hf,show (i+1)*q+j - q=i*q+j by rw [Nat.add_mul,Nat.one_mul];omega,List.set_cons_succ,List.flatMap_cons,zbv hf r i j a a' y (by simpa using h) hj he]
theorem zku {p:β→Prop} (hf:∀ a,∀ x ∈ f a,p x) (l:List α):∀ x ∈ l.flatMap f,p x:=fun x hx=>by
 obtain ⟨a,_,ha⟩:=List.mem_flatMap.1 hx
 exact hf a x ha
end
section
variable {α : Type}
theorem zcz:∀ (l:List α) (i:Nat) (a:α),l[i]? = some a→l.Perm (a::l.eraseIdx i)
 | [],i,a,h=>by simp at h
 | x::r,0,a,h=>by simp at h;subst h;exact List.Perm.refl _
 | x::r,i+1,a,h=>((zcz r i a (by simpa using h)).cons x).trans (List.Perm.swap _ _ _)
theorem set_self:∀ (l:List α) (i:Nat) (a:α),l[i]? = some a→l.set i a=l
 | [],i,a,h=>by simp at h
 | x::r,0,a,h=>by simp at h;subst h;rfl
 | x::r,i+1,a,h=>by rw [List.set_cons_succ,set_self r i a (by simpa using h)]
theorem getD_some {l:List α} {i:Nat} {a:α} (h:l[i]? = some a) (d:α):l.getD i d=a:=by rw [List.getD_eq_getElem?_getD,h];rfl
theorem zv {l:List α} {i:Nat} {a:α} (h:l[i]? = some a):i < l.length:=(List.getElem?_eq_some_iff.1 h).1
theorem zcx {l:List α} {i:Nat} (h:i < l.length):∃ a,l[i]? = some a:=⟨_,List.getElem?_eq_getElem h⟩
end
def cts {α:Type} (g:α→Int) (x:Int) (l:List (List α)):Nat:=(l.map fun r=>(r.map g).count x).sum
theorem zet {α:Type} (g:α→Int) (x:Int):∀ (l:List (List α)) (i:Nat) (y:List α),i < l.length→cts g x (l.set i y)+((l.getD i []).map g).count x=cts g x l+(y.map g).count x
 | [],i,y,h=>absurd h (by simp)
 | z::r,0,y,_=>by
  unfold cts
  simp
  omega
 | z::r,i+1,y,h=>by
  have:=zet g x r i y (by simpa using h)
  unfold cts at this ⊢
  simp only [List.set_cons_succ,List.map_cons,List.sum_cons,List.getD_cons_succ]
  omega
theorem zjg {α:Type} (g:α→Int) (x:Int):∀ (l:List (List α)) (i:Nat),((l.getD i []).map g).count x≤cts g x l
 | [],i=>by simp
 | z::r,0=>by unfold cts;simp
 | z::r,i+1=>by
  have:=zjg g x r i
  unfold cts at this ⊢
  simp only [List.map_cons,List.sum_cons,List.getD_cons_succ]
  omega
theorem zg1 {α:Type} (g:α→Int) (x:Int):∀ (l:List (List α)),(l.any fun r=>(r.map g).contains x)=decide (0 < cts g x l)
 | []=>by simp [cts]
 | z::r=>by
  have:=zg1 g x r
  rw [List.any_cons,this]
  unfold cts
  simp only [List.map_cons,List.sum_cons]
  by_cases h:0 < (z.map g).count x
  ·have:(z.map g).contains x=true:=by rw [List.contains_iff_mem];exact List.count_pos_iff.1 h
   rw [this]
   simp
   omega
  ·have:(z.map g).contains x=false:=by
    rw [Bool.eq_false_iff]
    intro hc
    rw [List.contains_iff_mem] at hc
    exact h (List.count_pos_iff.2 hc)
   rw [this]
   simp
   omega
def St.cnt (S:St) (x:Int):Nat:=cts id x S.wait+cts Prod.fst x S.conds+cts id x S.downs
theorem St.zfo (S:St) (x:Int):S.waits x=decide (0 < S.cnt x):=by
 have h1:=zg1 id x S.wait
 have h2:=zg1 Prod.fst x S.conds
 have h3:=zg1 id x S.downs
 simp only [List.map_id] at h1 h3
 have h2':(S.conds.any fun l=>l.any fun p=>p.1 == x)=decide (0 < cts Prod.fst x S.conds):=by
  rw [← h2]
  congr 1
  funext r
  rw [Bool.eq_iff_iff,List.any_eq_true,List.contains_iff_mem,List.mem_map]
  constructor
  ·rintro ⟨p,hp,e⟩
   exact ⟨p,hp,by simpa using e⟩
  ·rintro ⟨p,hp,e⟩
   exact ⟨p,hp,by simpa using e⟩
 unfold St.waits St.cnt
 rw [h1,h3,h2']
 simp only [← Bool.decide_or]
 rw [decide_eq_decide]
 omega
structure Fair (S:St):Prop where
 once:∀ x,S.cnt x≤1
 free:∀ n,n < S.wait.length→S.held.getD n false=false→S.wait.getD n []=[]
 some_:∀ n,n < S.downs.length→0 < S.count.getD n 0→S.downs.getD n []=[]
theorem zb8 {α:Type} {l:List α} {n:Nat} {y d:α} (h:n < l.length):(l.set n y).getD n d=y:=by simp [List.getD,h]
theorem getD_set_ne {α:Type} {l:List α} {n m:Nat} {y d:α} (h:n≠m):(l.set n y).getD m d=l.getD m d:=by simp [List.getD,List.getElem?_set_ne h]
theorem zgy (S:St) (n:Nat) (hn:n < S.wait.length) (l:List Int) (x:Int):St.cnt { S with wait:=S.wait.set n l } x+(S.wait.getD n []).count x=S.cnt x+l.count x:=by
 have:=zet id x S.wait n l hn
 simp only [List.map_id] at this
 unfold St.cnt
 dsimp only
 omega
theorem zh8 (S:St) (n:Nat) (hn:n < S.downs.length) (l:List Int) (x:Int):St.cnt { S with downs:=S.downs.set n l } x+(S.downs.getD n []).count x=S.cnt x+l.count x:=by
 have:=zet id x S.downs n l hn
 simp only [List.map_id] at this
 unfold St.cnt
 dsimp only
 omega
theorem zh7 (S:St) (n:Nat) (hn:n < S.conds.length) (l:List (Int × Int)) (x:Int):St.cnt { S with conds:=S.conds.set n l } x+((S.conds.getD n []).map Prod.fst).count x=S.cnt x+(l.map Prod.fst).count x:=by
 have:=zet Prod.fst x S.conds n l hn
 unfold St.cnt
 dsimp only
 omega
theorem count_le {x y:Int}:[y].count x≤1:=by rw [List.count_singleton];split <;> omega
theorem zce {S:St} {x:Int} (h:S.waits x=false):S.cnt x=0:=by
 rw [St.zfo] at h
 simpa using h
theorem Fair.addWait {S:St} (h:Fair S) (n:Nat) (hn:n < S.wait.length) (who:Int) (hw:S.waits who=false) (hh:S.held.getD n false=true):Fair { S with wait:=S.wait.set n (S.wait.getD n []++[who]) }:=by
 refine ⟨fun x=>?_,fun m hm hf=>?_,h.some_⟩
 ·have h1:=zgy S n hn (S.wait.getD n []++[who]) x
  rw [List.count_append] at h1
  by_cases hx:who=x
  ·subst hx
   have:=zce hw
   have:=count_le (x:=who) (y:=who)
   omega
  ·have h2:=h.once x
   rw [List.count_singleton,if_neg (by simpa using hx)] at h1
   omega
 ·dsimp only at hm hf ⊢
  rw [List.length_set] at hm
  by_cases e:n=m
  ·subst e;rw [hh] at hf;cases hf
  ·rw [getD_set_ne e]
   exact h.free m hm hf
theorem Fair.addDowns {S:St} (h:Fair S) (n:Nat) (hn:n < S.downs.length) (who:Int) (hw:S.waits who=false) (hc:¬ 0 < S.count.getD n 0):Fair { S with downs:=S.downs.set n (S.downs.getD n []++[who]) }:=by
 refine ⟨fun x=>?_,h.free,fun m hm hf=>?_⟩
 ·have h1:=zh8 S n hn (S.downs.getD n []++[who]) x
  rw [List.count_append] at h1
  by_cases hx:who=x
  ·subst hx
   have:=zce hw
   have:=count_le (x:=who) (y:=who)
   omega
  ·have h2:=h.once x
   rw [List.count_singleton,if_neg (by simpa using hx)] at h1
   omega
 ·dsimp only at hm hf ⊢
  rw [List.length_set] at hm
  by_cases e:n=m
  ·subst e;exact absurd hf hc
  ·rw [getD_set_ne e]
   exact h.some_ m hm hf
theorem zh9 {l:List Int} {k:Nat} {x:Int}:(l.eraseIdx k).count x≤l.count x:=List.Sublist.count_le _ (List.eraseIdx_sublist _ _)
theorem Fair.takeDowns {S:St} (h:Fair S) (n:Nat) (hn:n < S.downs.length) (k:Nat):Fair { S with downs:=S.downs.set n ((S.downs.getD n []).eraseIdx k) }:=by
 refine ⟨fun x=>?_,h.free,fun m hm hf=>?_⟩
 ·have h1:=zh8 S n hn ((S.downs.getD n []).eraseIdx k) x
  have h2:=h.once x
  have h3:=zh9 (l:=S.downs.getD n []) (k:=k) (x:=x)
  omega
 ·dsimp only at hm hf ⊢
  rw [List.length_set] at hm
  have h4:=h.some_ m hm hf
  by_cases e:n=m
  ·subst e
   rw [zb8 hm,h4]
   rfl
  ·rw [getD_set_ne e]
   exact h4
theorem Fair.setCount {S:St} (h:Fair S) (n:Nat) (y:Int) (hy:S.downs.getD n []=[]∨¬ 0 < y):Fair { S with count:=S.count.set n y }:=by
 refine ⟨h.once,h.free,fun m hm hf=>?_⟩
 dsimp only at hm hf ⊢
 by_cases e:n=m
 ·subst e
  rcases hy with hy | hy
  ·exact hy
  ·by_cases hl:n < S.count.length
   ·rw [zb8 hl] at hf
    exact absurd hf hy
   ·have:(S.count.set n y).getD n 0=0:=by simp [List.getD,List.getElem?_eq_none (show (S.count.set n y).length≤n by rw [List.length_set];omega)]
    omega
 ·rw [getD_set_ne e] at hf
  exact h.some_ m hm hf
theorem Fair.yes {S:St} (h:Fair S) (n:Nat) (who:Int):Fair { S with held:=S.held.set n true,owner:=S.owner.set n who }:=by
 refine ⟨h.once,fun m hm hf=>?_,h.some_⟩
 dsimp only at hm hf ⊢
 by_cases e:n=m
 ·subst e
  by_cases hl:n < S.held.length
  ·rw [zb8 hl] at hf
   cases hf
  ·have e1:S.held.getD n false=false:=by simp [List.getD,List.getElem?_eq_none (show S.held.length≤n by omega)]
   exact h.free n hm e1
 ·rw [getD_set_ne e] at hf
  exact h.free m hm hf
theorem Fair.addConds {S:St} (h:Fair S) (n:Nat) (hn:n < S.conds.length) (p:Int × Int) (hw:S.waits p.1=false):Fair { S with conds:=S.conds.set n (S.conds.getD n []++[p]) }:=by
 refine ⟨fun x=>?_,h.free,h.some_⟩
 have h1:=zh7 S n hn (S.conds.getD n []++[p]) x
 rw [List.map_append,List.count_append,List.map_cons,List.map_nil] at h1
 by_cases hx:p.1=x
 ·rw [hx] at hw h1
  have:=zce hw
  have:=count_le (x:=x) (y:=x)
  omega
 ·have h2:=h.once x
  rw [List.count_singleton,if_neg (by simpa using hx)] at h1
  omega
theorem Fair.open {S:St} {k:Nat} (h:Fair S) (ok:Ok S k) (n:Nat) (hn:n < S.owner.length) (ch:Int):Fair (S.open n ch).1∧∀ x,(S.open n ch).1.cnt x≤S.cnt x:=by
 have hw:n < S.wait.length:=by rw [ok.wait];exact hn
 have hh:n < S.held.length:=by rw [ok.held];exact hn
 by_cases h0:(S.wait.getD n []).length=0
 ·rw [zbx S n ch h0]
  refine ⟨⟨h.once,fun m hm hf=>?_,h.some_⟩,fun x=>Nat.le_refl _⟩
  dsimp only at hm hf ⊢
  by_cases e:n=m
  ·subst e
   exact List.eq_nil_of_length_eq_zero h0
  ·rw [getD_set_ne e] at hf
   exact h.free m hm hf
 ·rw [zby S n ch _ rfl (by omega) _ rfl _ rfl]
  have hc:∀ x,St.cnt { S with owner:=S.owner.set n ((S.wait.getD n []).getD (at_ ch (S.wait.getD n []).length) 0),wait:=S.wait.set n ((S.wait.getD n []).eraseIdx (at_ ch (S.wait.getD n []).length)) } x≤S.cnt x:=fun x=>by
   have h1:=zgy S n hw ((S.wait.getD n []).eraseIdx (at_ ch (S.wait.getD n []).length)) x
   have h3:=zh9 (l:=S.wait.getD n []) (k:=at_ ch (S.wait.getD n []).length) (x:=x)
   unfold St.cnt at h1 ⊢
   dsimp only at h1 ⊢
   omega
  refine ⟨⟨fun x=>Nat.le_trans (hc x) (h.once x),fun m hm hf=>?_,h.some_⟩,hc⟩
  dsimp only at hm hf ⊢
  rw [List.length_set] at hm
  have h4:=h.free m hm hf
  by_cases e:n=m
  ·subst e
   rw [h4] at h0
   exact absurd rfl h0
  ·rw [getD_set_ne e]
   exact h4
theorem zdw (S:St) (n:Nat) (ch:Int):(S.open n ch).1.conds=S.conds:=by
 unfold St.open
 dsimp only
 split <;> rfl
theorem zpe (S:St) (n:Nat) (ch:Int):(S.open n ch).1.owner.length=S.owner.length:=by
 unfold St.open
 dsimp only
 split
 ·rfl
 ·exact List.length_set
theorem zfm (S:St) (c:Nat) (hc:c < S.conds.length) (ch:Int) (all:Bool) (x:Int):St.cnt { S with conds:=S.conds.set c (S.kept c ch all) } x+((S.told c ch all).map Prod.fst).count x=S.cnt x:=by
 have h1:=zh7 S c hc (S.kept c ch all) x
 have:((S.kept c ch all).map Prod.fst).count x+((S.told c ch all).map Prod.fst).count x=((S.conds.getD c []).map Prod.fst).count x:=by
  unfold St.kept St.told
  dsimp only
  cases all
  ·by_cases h0:(S.conds.getD c []).length=0
   ·have e0:=List.eq_nil_of_length_eq_zero h0
    simp [h0]
    rw [← List.getD_eq_getElem?_getD,e0]
    simp
   ·simp only [h0,if_false,Bool.false_eq_true]
    generalize S.conds.getD c []=l at h0 ⊢
    have hk:=zgw ch (n:=l.length) (by omega)
    generalize at_ ch l.length=k at hk ⊢
    have hp:=zcz l k (l.getD k (0,0)) (by rw [List.getElem?_eq_getElem hk];simp [List.getD,hk])
    have:=(hp.map Prod.fst).count_eq x
    rw [this]
    simp [List.count_cons]
  ·simp
 omega
end Dk
