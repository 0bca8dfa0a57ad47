import Derived.Test.YtpnajphbjfehnaaGreatLn17
import Derived.Laws.OwnMore
import Derived.OwnWalk
set_option linter.unusedSimpArgs false
set_option linter.unusedVariables false
set_option linter.unnecessarySimpa false
set_option maxHeartbeats 8000000
set_option maxRecDepth 100000
namespace Go.Proofs.YtpnajphbjfehnaaGreat
open Go.RowKit Go.Lib
theorem Dk.Away.rowK {S:Nat→Prop} {w w':World} {b:Nat} (h:Dk.Away S w w') (hb:S b∨w.heap.size≤b) (cs:Array Value):Dk.Away S w (w'.setRow b cs):=
 ⟨h.os,h.tape,h.output,by simp [World.setRow];exact h.size,fun k hk hn=>(setRow_other w' b k cs (fun e=>by subst e;exact hb.elim hn (fun h1=>absurd hk (by omega)))).trans (h.block k hk hn)⟩
section
variable {W w w' : World} {bd : Nat} {bs : List Nat} {rs : List Dk.Rq} {us us' us1 us2 : List Dk.Thing}
theorem Db.map (h:Dk.Db W w bd bs rs us) (f:∀ ts,Dk.Sep W w (us++ts)→Dk.Sep W w' (us'++ts)):Dk.Db W w' bd bs rs us':=by
 obtain ⟨v1,v2,t,ft⟩:=Hid.out h
 refine ⟨v1,v2,?_,ft⟩
 have p:=f [Dk.boxOf bd #[v1,v2] 174,Dk.rowOf 73 1 v1 bs.length (Dk.uwK bs),Dk.rowOf 141 4 v2 rs.length (Dk.rqs rs)] (Dk.Sep.perm t (List.perm_append_comm (l₁:=[_,_,_])))
 exact Dk.Sep.perm p List.perm_append_comm
theorem Db.get {t:Dk.Thing} (h:Dk.Db W w bd bs rs us) (ht:t ∈ us):t.holds w:=by
 obtain ⟨v1,v2,q,ft⟩:=Hid.out h
 exact Dk.Sep.get q (by simp [Dk.disk,ht])
theorem Db.row {e:TypeId} {s n:Nat} {v:Value} {xs:List Value} (h:Dk.Db W w bd bs rs us) (ht:Dk.rowOf e s v n xs ∈ us):w.ownsRow W.heap.size e s v n xs:=by
 obtain ⟨v1,v2,q,ft⟩:=Hid.out h
 exact Dk.Sep.row q (by simp [Dk.disk,ht])
theorem Db.box {b:Nat} {cs:Array Value} {e:TypeId} (h:Dk.Db W w bd bs rs us) (ht:Dk.boxOf b cs e ∈ us):Dk.Box w b cs e:=Db.get h ht
theorem Db.swap {t t':Dk.Thing} (h:Dk.Db W w bd bs rs (t::t'::us)):Dk.Db W w bd bs rs (t'::t::us):=Db.map h (fun ts s=>s.perm (List.Perm.swap _ _ _))
theorem Db.turn {t t':Dk.Thing} (h:Dk.Db W w bd bs rs (us1++t::us2)) (a:Dk.Away t.own w w') (hh:t'.holds w') (hn:∀ k,t'.own k→t.own k∨w.heap.size≤k):Dk.Db W w' bd bs rs (us1++t'::us2):=
 Db.map h (fun ts s=>by
  rw [List.append_assoc,List.cons_append] at s ⊢
  exact s.turn a hh hn)
def Dk.waitsK (rs:List Dk.Rq) (x:Int):Bool:=rs.any fun p=>p.who == x
def Dk.blocks (n:Int):Nat:=if n < 0 then 0 else if 64 < n then 64 else n.toNat
theorem Dk.zi4 (n:Int):min (max n 0) 64=(Dk.blocks n:Int):=by
 unfold Dk.blocks
 split
 ·omega
 ·split <;> omega
theorem Dk.zi5 (n:Int):Dk.blocks n≤64:=by
 unfold Dk.blocks
 split
 ·omega
 ·split <;> omega
theorem Sep.made (h:Dk.Sep W w us) (n:Nat) (hn:n≤1000):∃ w',(Instr.makeSlice 78 (.int .i64 (n:Int)) (.int .i64 (n:Int))).run Tryz.prog w=.ok (.slice (some ⟨w.heap.size,0,none⟩) n n) w'∧Dk.Sep W w' (Dk.rowOf 73 1 (.slice (some ⟨w.heap.size,0,none⟩) n n) n (Dk.uwK (List.replicate n 0))::us)∧w'.heap.size=w.heap.size+1:=by
 obtain ⟨i0,hi0,hz0,hz1,hz2⟩:=info_parts info27K
 have hr:=run_make (P:=Tryz.prog) w 78 73 i0 (.int .u64 0) Tryz.underlying78 hi0 hz0 .i64 .i64 n n (by omega) (Int.le_refl _) (by rw [hz2];omega) (by omega)
 simp only [Int.toNat_natCast] at hr
 rw [hz1] at hr
 refine ⟨_,hr,h.add (Dk.zb (Below.refl _ _) _) ?_ (fun k hk=>by simp [Dk.rowOf,Value.ownBlock] at hk;omega),by simp⟩
 have e:(madeCells (Value.int .u64 0).cells (n*1)).toList=Dk.uwK (List.replicate n 0):=by
  apply List.ext_getElem?
  intro i
  by_cases hi:i < n
  ·simp [madeCells,Dk.uwK,hi,Value.cells]
   simp [Nat.mod_one]
  ·rw [List.getElem?_eq_none (by simp [madeCells];omega),List.getElem?_eq_none (by simp;omega)]
 have:=World.ownsRow_lit w (e:=73) (size:=1) (base:=0) (madeCells (Value.int .u64 0).cells (n*1)) n (Nat.zero_le _) (by unfold maxLen;omega) (size_madeCells _ _)
 rw [e] at this
 exact this
end
section
variable {W w w' : World} {bd : Nat} {bs : List Nat} {rs : List Dk.Rq} {us us' us1 us2 : List Dk.Thing}
theorem New_anyK (h:Dk.Sep W w us) (n:Int) :
  Calls Tryz.prog 39 #[.int .i64 n] w fun e w'=>e=.returned (.pointer (some ⟨w.heap.size+1,0,none⟩))∧Dk.Db W w' (w.heap.size+1) (List.replicate (Dk.blocks n) 0) [] us:=by
 have hle:=Dk.zi5 n
 obtain ⟨w1,hmk,s1,z1⟩:=Sep.made h (Dk.blocks n) (by omega)
 have he:=Dk.zi4 n
 have fin:Dk.Db W (w1.alloc (.cells #[.slice (some ⟨w.heap.size,0,none⟩) (Dk.blocks n) (Dk.blocks n),.slice none 0 0] 174)) (w.heap.size+1) (List.replicate (Dk.blocks n) 0) [] us:=by
  have s2:=s1.add (t:=Dk.rowOf 141 4 (.slice none 0 0) 0 (Dk.rqs [])) (Below.refl _ _) (World.ownsRow_nil _ _ _ _) (fun k hk=>by simp [Dk.rowOf,Value.ownBlock] at hk)
  have s3:=(s2.perm (List.Perm.swap _ _ _)).newBox (cs:=#[.slice (some ⟨w.heap.size,0,none⟩) (Dk.blocks n) (Dk.blocks n),.slice none 0 0]) (e:=174) rfl
  rw [z1] at s3
  refine ⟨.slice (some ⟨w.heap.size,0,none⟩) (Dk.blocks n) (Dk.blocks n),.slice none 0 0,?_,⟨fun x hx=>by rw [(List.mem_replicate.1 hx).2];decide,fun x hx=>by simp at hx,fun x hx=>by simp at hx⟩⟩
  unfold Dk.Dsk Dk.disk
  rw [List.length_replicate]
  exact s3
 generalize Dk.blocks n=m at *
 have HF:Hid _:=fin
 clear fin h s1
 go_enter Tryz.func39,Tryz.ntmps39
 go_wp2
 go_ret
 exact ⟨rfl,HF.out⟩
theorem Db.words (h:Dk.Db W w bd bs rs us):∃ A C,w.cell? ⟨bd,0,none⟩=some (.slice A bs.length C)∧bs.length≤C∧C≤maxLen:=by
 obtain ⟨v1,v2,t,f⟩:=Hid.out h
 obtain ⟨A,C,ev,h1,h2⟩:=Dk.zf t.row1
 subst ev
 exact ⟨A,C,t.head.cell 0,h1,h2⟩
theorem word_at {B n k:Nat} {v:Value} {xs:List Nat} (hr:w.ownsRow B 73 1 v xs.length (Dk.uwK xs)) (hk:k < xs.length):∃ g C,v=.slice (some ⟨g,0,none⟩) xs.length C∧xs.length≤C∧C≤maxLen∧w.cell? ⟨g,k,none⟩=some (.int .u64 (xs.getD k 0:Nat))∧w.frozen? ⟨g,k,none⟩=false∧∀ y:Nat,(w.setCell ⟨g,k,none⟩ (.int .u64 (y:Nat))).ownsRow B 73 1 v (xs.set k y).length (Dk.uwK (xs.set k y)):=by
 obtain ⟨_,⟨_,h0⟩ | ⟨g,cap,cur,rfl,hb,hgg,h1,h2,h3,h4⟩⟩:=id hr
 ·omega
 have hc:=hr.cells (g:=g) rfl k (.int .u64 (xs.getD k 0:Nat)) (by simp [List.getD,hk])
 rw [Addr.add_lit,Nat.zero_add] at hc
 have bx:Dk.Box w g cur 73:=⟨hgg⟩
 refine ⟨g,cap,rfl,h1,h2,hc,bx.frozen k,fun y=>?_⟩
 rw [Nat.mul_one] at h3
 rw [List.length_set]
 refine Dk.zel (bx.set k (.int .u64 (y:Nat))) hb (by rw [Array.size_setIfInBounds];exact h3) h2 (by simp) h1 (fun i hi=>?_)
 rw [Array.getElem?_setIfInBounds]
 have hi':cur[i]? = (Dk.uwK xs)[i]?:=by
  rw [← h4,List.getElem?_take,if_pos (by omega),Array.getElem?_toList]
 by_cases hij:k=i
 ·subst hij
  rw [if_pos rfl,if_pos (by omega)]
  simp [hk]
 ·rw [if_neg hij,hi']
  simp [Dk.uwK,List.getElem?_set,hij]
end
section
variable {W w w' : World} {bd : Nat} {bs : List Nat} {rs : List Dk.Rq} {us us' us1 us2 : List Dk.Thing}
theorem Db.write (h:Dk.Db W w bd bs rs us) (k:Nat) (hk:k < bs.length) (y:Nat) (hy:y < 2 ^ 64) :
  ∃ g C,w.cell? ⟨bd,0,none⟩=some (.slice (some ⟨g,0,none⟩) bs.length C)∧bs.length≤C∧C≤maxLen∧w.cell? ⟨g,k,none⟩=some (.int .u64 (bs.getD k 0:Nat))∧w.frozen? ⟨g,k,none⟩=false∧Dk.Db W (w.setCell ⟨g,k,none⟩ (.int .u64 (y:Nat))) bd (bs.set k y) rs us:=by
 obtain ⟨v1,v2,t,f⟩:=Hid.out h
 obtain ⟨g,C,ev,h1,h2,hc,hf,hs⟩:=word_at (n:=0) t.row1 hk
 subst ev
 refine ⟨g,C,t.head.cell 0,h1,h2,hc,hf,⟨_,_,t.set1 ((Dk.Away.refl (fun j=>Value.ownBlock (.slice (some ⟨g,0,none⟩) bs.length C)=some j) w).set (b:=g) (.inl rfl) _ _) (hs y),f.set k y hy⟩⟩
end
end Go.Proofs.YtpnajphbjfehnaaGreat
namespace Dk
open Go
def at_K (k:Int) (n:Nat):Nat:=(k % (n:Int)).toNat
def Rq.said (r:Rq) (bs:List Nat):Nat:=if r.write then 0 else bs.getD r.block.toNat 0
def Rq.left (r:Rq) (bs:List Nat):List Nat:=if r.write then bs.set r.block.toNat r.x else bs
open Go Go.RowKit
def at_ (k:Int) (n:Nat):Nat:=(k % (n:Int)).toNat
theorem zhh (k:Int) {n:Nat} (h:0 < n):at_ k n < n:=by
 unfold at_
 have h1:=Int.emod_nonneg k (show (n:Int)≠0 by omega)
 have h2:=Int.emod_lt_of_pos k (show (0:Int) < n by omega)
 omega
structure St where
 owner:List Int
 held:List Bool
 wait:List (List Int)
 conds:List (List (Int × Int))
 count:List Int
 downs:List (List Int)
def St.waits (S:St) (x:Int):Bool:=S.wait.any (·.contains x) || S.downs.any (·.contains x) || S.conds.any (fun l=>l.any (fun p=>p.1 == x))
def St.open (S:St) (n:Nat) (choice:Int):St × Int × Bool:=
 let l:=S.wait.getD n []
 if l.length=0 then ({ S with held:=S.held.set n false },0,false)
 else ({ S with owner:=S.owner.set n (l.getD (at_ choice l.length) 0),wait:=S.wait.set n (l.eraseIdx (at_ choice l.length)) },l.getD (at_ choice l.length) 0,true)
def St.goes1 (S:St) (p:Int × Int):St × List Int:=
 let n:=p.2.toNat
 if S.held.getD n false then ({ S with wait:=S.wait.set n (S.wait.getD n []++[p.1]) },[])
 else ({ S with held:=S.held.set n true,owner:=S.owner.set n p.1 },[p.1])
def St.goes (S:St):List (Int × Int)→St × List Int
 | []=>(S,[])
 | p::r=>((S.goes1 p).1.goes r).1 |> fun T=>(T,(S.goes1 p).2++((S.goes1 p).1.goes r).2)
def St.told (S:St) (c:Nat) (choice:Int) (all:Bool):List (Int × Int):=
 let l:=S.conds.getD c []
 if all then l else if l.length=0 then [] else [l.getD (at_ choice l.length) (0,0)]
def St.kept (S:St) (c:Nat) (choice:Int) (all:Bool):List (Int × Int):=
 let l:=S.conds.getD c []
 if all then [] else if l.length=0 then [] else l.eraseIdx (at_ choice l.length)
def St.signal (S:St) (c:Nat) (choice:Int) (all:Bool):St × List Int:=
 ({ S with conds:=S.conds.set c (S.kept c choice all) }).goes (S.told c choice all)
def lens {α:Type} (l:List (List α)):Nat:=(l.map List.length).sum
def St.tot (S:St):Nat:=lens S.wait+lens S.conds+lens S.downs
theorem zg0 {α:Type}:∀ (l:List (List α)) (x:List α),x ∈ l→x.length≤lens l
 | [],x,h=>absurd h (by simp)
 | y::r,x,h=>by
  unfold lens
  rw [List.map_cons,List.sum_cons]
  rcases List.mem_cons.1 h with rfl | h
  ·omega
  ·have:=zg0 r x h
   unfold lens at this
   omega
theorem zcr {α:Type}:∀ (l:List (List α)) (i:Nat) (y:List α),i < l.length→lens (l.set i y)+(l.getD i []).length=lens l+y.length
 | [],i,y,h=>absurd h (by simp)
 | x::r,0,y,_=>by
  unfold lens
  simp
  omega
 | x::r,i+1,y,h=>by
  have:=zcr r i y (by simpa using h)
  unfold lens at this ⊢
  simp only [List.set_cons_succ,List.map_cons,List.sum_cons,List.getD_cons_succ]
  omega
structure Ok (S:St) (k:Nat):Prop where
 held:S.held.length=S.owner.length
 wait:S.wait.length=S.owner.length
 downs:S.downs.length=S.count.length
 most:S.owner.length≤4∧S.conds.length≤4∧S.count.length≤4
 owner:∀ x ∈ S.owner,i64 x
 waits:∀ l ∈ S.wait,∀ x ∈ l,i64 x
 downsI:∀ l ∈ S.downs,∀ x ∈ l,i64 x
 conds:∀ l ∈ S.conds,∀ p ∈ l,i64 p.1∧0≤p.2∧p.2 < S.owner.length
 count:∀ x ∈ S.count,0≤x∧x≤1048576
 tot:S.tot≤k
theorem zv {α:Type} (l:List α) (d:α) (k:Nat) (h:k < l.length):l.getD k d ∈ l:=by simp [List.getD,h]
theorem Ok.condLen {S:St} {k:Nat} (h:Ok S k) {l:List (Int × Int)} (hl:l ∈ S.conds):l.length≤k:=by
 have:=zg0 _ _ hl
 have:=h.tot
 unfold St.tot at this
 omega
theorem zc4 {α:Type} {l:List α} {i:Nat} {y:α} {p:α→Prop} (h:∀ x ∈ l,p x) (hy:p y):∀ x ∈ l.set i y,p x:=fun x hx=>by
 rcases List.mem_or_eq_of_mem_set hx with hx | rfl
 ·exact h x hx
 ·exact hy
theorem Ok.mono {S:St} {k k':Nat} (h:Ok S k) (hk:k≤k'):Ok S k':=⟨h.held,h.wait,h.downs,h.most,h.owner,h.waits,h.downsI,h.conds,h.count,Nat.le_trans h.tot hk⟩
theorem Ok.setHeld {S:St} {k:Nat} (h:Ok S k) (n:Nat) (b:Bool):Ok { S with held:=S.held.set n b } k:=⟨by rw [List.length_set];exact h.held,h.wait,h.downs,h.most,h.owner,h.waits,h.downsI,h.conds,h.count,h.tot⟩
theorem Ok.setOwner {S:St} {k:Nat} (h:Ok S k) (n:Nat) (x:Int) (hx:i64 x):Ok { S with owner:=S.owner.set n x } k:=
 ⟨by show _=(S.owner.set n x).length;rw [List.length_set];exact h.held,by show _=(S.owner.set n x).length;rw [List.length_set];exact h.wait,h.downs,by show (S.owner.set n x).length≤4∧_;rw [List.length_set];exact h.most,zc4 h.owner hx,h.waits,h.downsI,fun l hl p hp=>by show _∧_∧_ < ((S.owner.set n x).length:Int);rw [List.length_set];exact h.conds l hl p hp,h.count,h.tot⟩
theorem Ok.setWait {S:St} {k k':Nat} (h:Ok S k) (n:Nat) (hn:n < S.wait.length) (l:List Int) (hl:∀ x ∈ l,i64 x) (hk:k+l.length≤k'+(S.wait.getD n []).length):Ok { S with wait:=S.wait.set n l } k':=
 ⟨h.held,by show (S.wait.set n l).length=_;rw [List.length_set];exact h.wait,h.downs,h.most,h.owner,zc4 h.waits hl,h.downsI,h.conds,h.count,by
  have h1:=zcr S.wait n l hn
  have h2:=h.tot
  unfold St.tot at h2 ⊢
  show lens (S.wait.set n l)+lens S.conds+lens S.downs≤k'
  omega⟩
theorem Ok.setDowns {S:St} {k k':Nat} (h:Ok S k) (n:Nat) (hn:n < S.downs.length) (l:List Int) (hl:∀ x ∈ l,i64 x) (hk:k+l.length≤k'+(S.downs.getD n []).length):Ok { S with downs:=S.downs.set n l } k':=
 ⟨h.held,h.wait,by show (S.downs.set n l).length=_;rw [List.length_set];exact h.downs,h.most,h.owner,h.waits,zc4 h.downsI hl,h.conds,h.count,by
  have h1:=zcr S.downs n l hn
  have h2:=h.tot
  unfold St.tot at h2 ⊢
  show lens S.wait+lens S.conds+lens (S.downs.set n l)≤k'
  omega⟩
theorem Ok.setConds {S:St} {k k':Nat} (h:Ok S k) (n:Nat) (hn:n < S.conds.length) (l:List (Int × Int)) (hl:∀ p ∈ l,i64 p.1∧0≤p.2∧p.2 < S.owner.length) (hk:k+l.length≤k'+(S.conds.getD n []).length):Ok { S with conds:=S.conds.set n l } k':=
 ⟨h.held,h.wait,h.downs,by show _∧(S.conds.set n l).length≤4∧_;rw [List.length_set];exact h.most,h.owner,h.waits,h.downsI,zc4 h.conds hl,h.count,by
  have h1:=zcr S.conds n l hn
  have h2:=h.tot
  unfold St.tot at h2 ⊢
  show lens S.wait+lens (S.conds.set n l)+lens S.downs≤k'
  omega⟩
theorem Ok.setCount {S:St} {k:Nat} (h:Ok S k) (n:Nat) (x:Int) (hx:0≤x∧x≤1048576):Ok { S with count:=S.count.set n x } k:=
 ⟨h.held,h.wait,by show _=(S.count.set n x).length;rw [List.length_set];exact h.downs,by show _∧_∧(S.count.set n x).length≤4;rw [List.length_set];exact h.most,h.owner,h.waits,h.downsI,h.conds,zc4 h.count hx,h.tot⟩
theorem zew {α:Type} {l:List α} {i:Nat} {p:α→Prop} (h:∀ x ∈ l,p x):∀ x ∈ l.eraseIdx i,p x:=fun x hx=>h x (List.mem_of_mem_eraseIdx hx)
theorem zct {α:Type} {l:List α} {y:α} {p:α→Prop} (h:∀ x ∈ l,p x) (hy:p y):∀ x ∈ l++[y],p x:=fun x hx=>by
 rcases List.mem_append.1 hx with hx | hx
 ·exact h x hx
 ·rw [List.mem_singleton] at hx;rw [hx];exact hy
theorem Ok.goes1 {S:St} {k:Nat} (h:Ok S k) (p:Int × Int) (hp:i64 p.1∧0≤p.2∧p.2 < S.owner.length):Ok (S.goes1 p).1 (k+1)∧(S.goes1 p).1.owner.length=S.owner.length:=by
 have hn:p.2.toNat < S.wait.length:=by have:=h.wait;omega
 unfold St.goes1
 dsimp only
 split
 ·exact ⟨h.setWait _ hn _ (zct (h.waits _ (zv _ _ _ hn)) hp.1) (by simp;omega),rfl⟩
 ·exact ⟨(((h.setOwner _ _ hp.1).setHeld _ true)).mono (by omega),List.length_set⟩
theorem Ok.goes:∀ (l:List (Int × Int)) {S:St} {k:Nat},Ok S k→(∀ p ∈ l,i64 p.1∧0≤p.2∧p.2 < S.owner.length)→Ok (S.goes l).1 (k+l.length)∧(S.goes l).1.owner.length=S.owner.length
 | [],S,k,h,_=>⟨h,rfl⟩
 | p::r,S,k,h,hp=>by
  have h1:=h.goes1 p (hp p (by simp))
  have h2:=Ok.goes r h1.1 (fun q hq=>by rw [h1.2];exact hp q (by simp [hq]))
  rw [St.goes,List.length_cons]
  exact ⟨h2.1.mono (by omega),h2.2.trans h1.2⟩
theorem zcj (S:St) (n:Nat) (ch:Int) (h:(S.wait.getD n []).length=0):S.open n ch=({ S with held:=S.held.set n false },0,false):=by
 unfold St.open
 simp only [h,if_true]
theorem zck (S:St) (n:Nat) (ch:Int) (l:List Int) (h:S.wait.getD n []=l) (h0:0 < l.length) (a:Nat) (ha:at_ ch l.length=a) (x:Int) (hx:l.getD a 0=x):S.open n ch=({ S with owner:=S.owner.set n x,wait:=S.wait.set n (l.eraseIdx a) },x,true):=by
 unfold St.open
 have:¬ l.length=0:=by omega
 simp only [h,this,if_false,ha,hx]
structure Vs where
 v0:Value
 v1:Value
 v2:Value
 v3:Value
 v4:Value
 v5:Value
 hv:List Value
 cv:List Value
 dv:List Value
theorem zg9 {S:St} {c:Nat} (hc:c < S.conds.length) (ch:Int) (all:Bool):∀ p ∈ S.told c ch all,p ∈ S.conds.getD c []:=by
 unfold St.told
 intro p hp
 simp only at hp
 split at hp
 ·exact hp
 ·split at hp
  ·simp at hp
  ·rename_i h
   rw [List.mem_singleton] at hp
   rw [hp]
   exact zv _ _ _ (zhh ch (by omega))
theorem Ok.signal {S:St} {k:Nat} (ok:Ok S k) (c:Nat) (hc:c < S.conds.length) (ch:Int) (all:Bool):Ok (S.signal c ch all).1 k:=by
 have hm:=zv S.conds [] c hc
 have hl:=ok.condLen hm
 have hp:=ok.conds _ hm
 have hto:=zg9 hc ch all
 have hlen:(S.kept c ch all).length+(S.told c ch all).length≤(S.conds.getD c []).length∧∀ p ∈ S.kept c ch all,p ∈ S.conds.getD c []:=by
  unfold St.kept St.told
  dsimp only
  split
  ·exact ⟨by simp,fun p hp=>by simp at hp⟩
  ·split
   ·exact ⟨by simp,fun p hp=>by simp at hp⟩
   ·rename_i h
    refine ⟨?_,fun p hp=>List.mem_of_mem_eraseIdx hp⟩
    rw [List.length_eraseIdx,if_pos (zhh ch (by omega)),List.length_singleton]
    omega
 have h1:=ok.setConds (k':=k - (S.told c ch all).length) c hc (S.kept c ch all) (fun p h=>hp p (hlen.2 p h)) (by omega)
 have h2:=Ok.goes (S.told c ch all) h1 (fun p h=>hp p (hto p h))
 exact h2.1.mono (by omega)
section
variable {α β : Type} {f : α → List β} {q : Nat}
theorem zaj (hf:∀ a,(f a).length=q):∀ l:List α,(l.flatMap f).length=l.length*q
 | []=>by simp
 | a::r=>by rw [List.flatMap_cons,List.length_append,zaj hf r,hf a,List.length_cons,Nat.add_mul,Nat.one_mul,Nat.add_comm]
theorem flat_get (hf:∀ a,(f a).length=q):∀ (l:List α) (i j:Nat) (a:α),l[i]? = some a→j < q→(l.flatMap f)[i*q+j]? = (f a)[j]?
 | [],i,j,a,h,_=>by simp at h
 | x::r,0,j,a,h,hj=>by
  simp at h
  subst h
  rw [List.flatMap_cons,Nat.zero_mul,Nat.zero_add,List.getElem?_append_left (by rw [hf];exact hj)]
 | x::r,i+1,j,a,h,hj=>by
  rw [List.flatMap_cons,List.getElem?_append_right (by rw [hf,Nat.add_mul];omega),hf,show (i+1)*q+j - q=i*q+j by rw [Nat.add_mul,Nat.one_mul];omega]
  exact flat_get hf r i j a (by simpa using h) hj
theorem zea (hf:∀ a,(f a).length=q):∀ (l:List α) (i j:Nat) (a a':α) (y:β),l[i]? = some a→j < q→f a'=(f a).set j y→(l.flatMap f).set (i*q+j) y=(l.set i a').flatMap f
 | [],i,j,a,a',y,h,_,_=>by simp at h
 | x::r,0,j,a,a',y,h,hj,he=>by
  simp at h
  subst h
  rw [List.flatMap_cons,Nat.zero_mul,Nat.zero_add,List.set_append_left _ _ (by rw [hf];exact hj),List.set_cons_zero,List.flatMap_cons,he]
 | x::r,i+1,j,a,a',y,h,hj,he=>by
  rw [List.flatMap_cons,List.set_append_right _ _ (by rw [hf,Nat.add_mul];omega),hf,show (i+1)*q+j - q=i*q+j by rw [Nat.add_mul,Nat.one_mul];omega,List.set_cons_succ,List.flatMap_cons,zea hf r i j a a' y (by simpa using h) hj he]
theorem flat_all {p:β→Prop} (hf:∀ a,∀ x ∈ f a,p x) (l:List α):∀ x ∈ l.flatMap f,p x:=fun x hx=>by
 obtain ⟨a,_,ha⟩:=List.mem_flatMap.1 hx
 exact hf a x ha
end
section
variable {α : Type}
theorem zkc:∀ (l:List α) (i:Nat) (a:α),l[i]? = some a→l.Perm (a::l.eraseIdx i)
 | [],i,a,h=>by simp at h
 | x::r,0,a,h=>by simp at h;subst h;exact List.Perm.refl _
 | x::r,i+1,a,h=>((zkc r i a (by simpa using h)).cons x).trans (List.Perm.swap _ _ _)
theorem set_self:∀ (l:List α) (i:Nat) (a:α),l[i]? = some a→l.set i a=l
 | [],i,a,h=>by simp at h
 | x::r,0,a,h=>by simp at h;subst h;rfl
 | x::r,i+1,a,h=>by rw [List.set_cons_succ,set_self r i a (by simpa using h)]
theorem getD_some {l:List α} {i:Nat} {a:α} (h:l[i]? = some a) (d:α):l.getD i d=a:=by rw [List.getD_eq_getElem?_getD,h];rfl
theorem zcb {l:List α} {i:Nat} {a:α} (h:l[i]? = some a):i < l.length:=(List.getElem?_eq_some_iff.1 h).1
theorem zjy {l:List α} {i:Nat} (h:i < l.length):∃ a,l[i]? = some a:=⟨_,List.getElem?_eq_getElem h⟩
end
def cts {α:Type} (g:α→Int) (x:Int) (l:List (List α)):Nat:=(l.map fun r=>(r.map g).count x).sum
theorem zfy {α:Type} (g:α→Int) (x:Int):∀ (l:List (List α)) (i:Nat) (y:List α),i < l.length→cts g x (l.set i y)+((l.getD i []).map g).count x=cts g x l+(y.map g).count x
 | [],i,y,h=>absurd h (by simp)
 | z::r,0,y,_=>by
  unfold cts
  simp
  omega
 | z::r,i+1,y,h=>by
  have:=zfy g x r i y (by simpa using h)
  unfold cts at this ⊢
  simp only [List.set_cons_succ,List.map_cons,List.sum_cons,List.getD_cons_succ]
  omega
theorem zd6 {α:Type} (g:α→Int) (x:Int):∀ (l:List (List α)),(l.any fun r=>(r.map g).contains x)=decide (0 < cts g x l)
 | []=>by simp [cts]
 | z::r=>by
  have:=zd6 g x r
  rw [List.any_cons,this]
  unfold cts
  simp only [List.map_cons,List.sum_cons]
  by_cases h:0 < (z.map g).count x
  ·have:(z.map g).contains x=true:=by rw [List.contains_iff_mem];exact List.count_pos_iff.1 h
   rw [this]
   simp
   omega
  ·have:(z.map g).contains x=false:=by
    rw [Bool.eq_false_iff]
    intro hc
    rw [List.contains_iff_mem] at hc
    exact h (List.count_pos_iff.2 hc)
   rw [this]
   simp
   omega
def St.cnt (S:St) (x:Int):Nat:=cts id x S.wait+cts Prod.fst x S.conds+cts id x S.downs
theorem St.zfj (S:St) (x:Int):S.waits x=decide (0 < S.cnt x):=by
 have h1:=zd6 id x S.wait
 have h2:=zd6 Prod.fst x S.conds
 have h3:=zd6 id x S.downs
 simp only [List.map_id] at h1 h3
 have h2':(S.conds.any fun l=>l.any fun p=>p.1 == x)=decide (0 < cts Prod.fst x S.conds):=by
  rw [← h2]
  congr 1
  funext r
  rw [Bool.eq_iff_iff,List.any_eq_true,List.contains_iff_mem,List.mem_map]
  constructor
  ·rintro ⟨p,hp,e⟩
   exact ⟨p,hp,by simpa using e⟩
  ·rintro ⟨p,hp,e⟩
   exact ⟨p,hp,by simpa using e⟩
 unfold St.waits St.cnt
 rw [h1,h3,h2']
 simp only [← Bool.decide_or]
 rw [decide_eq_decide]
 omega
structure Fair (S:St):Prop where
 once:∀ x,S.cnt x≤1
 free:∀ n,n < S.wait.length→S.held.getD n false=false→S.wait.getD n []=[]
 some_:∀ n,n < S.downs.length→0 < S.count.getD n 0→S.downs.getD n []=[]
theorem zbn {α:Type} {l:List α} {n:Nat} {y d:α} (h:n < l.length):(l.set n y).getD n d=y:=by simp [List.getD,h]
theorem getD_set_ne {α:Type} {l:List α} {n m:Nat} {y d:α} (h:n≠m):(l.set n y).getD m d=l.getD m d:=by simp [List.getD,List.getElem?_set_ne h]
theorem zd2 (S:St) (n:Nat) (hn:n < S.wait.length) (l:List Int) (x:Int):St.cnt { S with wait:=S.wait.set n l } x+(S.wait.getD n []).count x=S.cnt x+l.count x:=by
 have:=zfy id x S.wait n l hn
 simp only [List.map_id] at this
 unfold St.cnt
 dsimp only
 omega
theorem zjc (S:St) (n:Nat) (hn:n < S.conds.length) (l:List (Int × Int)) (x:Int):St.cnt { S with conds:=S.conds.set n l } x+((S.conds.getD n []).map Prod.fst).count x=S.cnt x+(l.map Prod.fst).count x:=by
 have:=zfy Prod.fst x S.conds n l hn
 unfold St.cnt
 dsimp only
 omega
theorem count_le {x y:Int}:[y].count x≤1:=by rw [List.count_singleton];split <;> omega
theorem zj0 {S:St} {x:Int} (h:S.waits x=false):S.cnt x=0:=by
 rw [St.zfj] at h
 simpa using h
theorem Fair.addWait {S:St} (h:Fair S) (n:Nat) (hn:n < S.wait.length) (who:Int) (hw:S.waits who=false) (hh:S.held.getD n false=true):Fair { S with wait:=S.wait.set n (S.wait.getD n []++[who]) }:=by
 refine ⟨fun x=>?_,fun m hm hf=>?_,h.some_⟩
 ·have h1:=zd2 S n hn (S.wait.getD n []++[who]) x
  rw [List.count_append] at h1
  by_cases hx:who=x
  ·subst hx
   have:=zj0 hw
   have:=count_le (x:=who) (y:=who)
   omega
  ·have h2:=h.once x
   rw [List.count_singleton,if_neg (by simpa using hx)] at h1
   omega
 ·dsimp only at hm hf ⊢
  rw [List.length_set] at hm
  by_cases e:n=m
  ·subst e;rw [hh] at hf;cases hf
  ·rw [getD_set_ne e]
   exact h.free m hm hf
theorem zjd {l:List Int} {k:Nat} {x:Int}:(l.eraseIdx k).count x≤l.count x:=List.Sublist.count_le _ (List.eraseIdx_sublist _ _)
theorem Fair.setCount {S:St} (h:Fair S) (n:Nat) (y:Int) (hy:S.downs.getD n []=[]∨¬ 0 < y):Fair { S with count:=S.count.set n y }:=by
 refine ⟨h.once,h.free,fun m hm hf=>?_⟩
 dsimp only at hm hf ⊢
 by_cases e:n=m
 ·subst e
  rcases hy with hy | hy
  ·exact hy
  ·by_cases hl:n < S.count.length
   ·rw [zbn hl] at hf
    exact absurd hf hy
   ·have:(S.count.set n y).getD n 0=0:=by simp [List.getD,List.getElem?_eq_none (show (S.count.set n y).length≤n by rw [List.length_set];omega)]
    omega
 ·rw [getD_set_ne e] at hf
  exact h.some_ m hm hf
theorem Fair.yes {S:St} (h:Fair S) (n:Nat) (who:Int):Fair { S with held:=S.held.set n true,owner:=S.owner.set n who }:=by
 refine ⟨h.once,fun m hm hf=>?_,h.some_⟩
 dsimp only at hm hf ⊢
 by_cases e:n=m
 ·subst e
  by_cases hl:n < S.held.length
  ·rw [zbn hl] at hf
   cases hf
  ·have e1:S.held.getD n false=false:=by simp [List.getD,List.getElem?_eq_none (show S.held.length≤n by omega)]
   exact h.free n hm e1
 ·rw [getD_set_ne e] at hf
  exact h.free m hm hf
theorem Fair.open {S:St} {k:Nat} (h:Fair S) (ok:Ok S k) (n:Nat) (hn:n < S.owner.length) (ch:Int):Fair (S.open n ch).1∧∀ x,(S.open n ch).1.cnt x≤S.cnt x:=by
 have hw:n < S.wait.length:=by rw [ok.wait];exact hn
 have hh:n < S.held.length:=by rw [ok.held];exact hn
 by_cases h0:(S.wait.getD n []).length=0
 ·rw [zcj S n ch h0]
  refine ⟨⟨h.once,fun m hm hf=>?_,h.some_⟩,fun x=>Nat.le_refl _⟩
  dsimp only at hm hf ⊢
  by_cases e:n=m
  ·subst e
   exact List.eq_nil_of_length_eq_zero h0
  ·rw [getD_set_ne e] at hf
   exact h.free m hm hf
 ·rw [zck S n ch _ rfl (by omega) _ rfl _ rfl]
  have hc:∀ x,St.cnt { S with owner:=S.owner.set n ((S.wait.getD n []).getD (at_ ch (S.wait.getD n []).length) 0),wait:=S.wait.set n ((S.wait.getD n []).eraseIdx (at_ ch (S.wait.getD n []).length)) } x≤S.cnt x:=fun x=>by
   have h1:=zd2 S n hw ((S.wait.getD n []).eraseIdx (at_ ch (S.wait.getD n []).length)) x
   have h3:=zjd (l:=S.wait.getD n []) (k:=at_ ch (S.wait.getD n []).length) (x:=x)
   unfold St.cnt at h1 ⊢
   dsimp only at h1 ⊢
   omega
  refine ⟨⟨fun x=>Nat.le_trans (hc x) (h.once x),fun m hm hf=>?_,h.some_⟩,hc⟩
  dsimp only at hm hf ⊢
  rw [List.length_set] at hm
  have h4:=h.free m hm hf
  by_cases e:n=m
  ·subst e
   rw [h4] at h0
   exact absurd rfl h0
  ·rw [getD_set_ne e]
   exact h4
theorem zh1 (S:St) (n:Nat) (ch:Int):(S.open n ch).1.conds=S.conds:=by
 unfold St.open
 dsimp only
 split <;> rfl
theorem zkb (S:St) (n:Nat) (ch:Int):(S.open n ch).1.owner.length=S.owner.length:=by
 unfold St.open
 dsimp only
 split
 ·rfl
 ·exact List.length_set
theorem zhs {S:St} {k:Nat} (h:Fair S) (ok:Ok S k) (p:Int × Int) (hp:0≤p.2∧p.2 < S.owner.length) (hc:S.cnt p.1=0):Fair (S.goes1 p).1∧∀ x,(S.goes1 p).1.cnt x≤S.cnt x+[p.1].count x:=by
 have hn:p.2.toNat < S.wait.length:=by rw [ok.wait];omega
 have hw:S.waits p.1=false:=by rw [St.zfj];simp [hc]
 unfold St.goes1
 dsimp only
 split
 ·rename_i hh
  refine ⟨h.addWait _ hn _ hw hh,fun x=>?_⟩
  have h1:=zd2 S p.2.toNat hn (S.wait.getD p.2.toNat []++[p.1]) x
  rw [List.count_append] at h1
  dsimp only
  omega
 ·exact ⟨h.yes _ _,fun x=>by show S.cnt x≤_;omega⟩
theorem zez:∀ (l:List (Int × Int)) {S:St} {k:Nat},Fair S→Ok S k→(∀ p ∈ l,i64 p.1∧0≤p.2∧p.2 < S.owner.length)→(∀ x,S.cnt x+(l.map Prod.fst).count x≤1)→Fair (S.goes l).1
 | [],S,k,h,_,_,_=>h
 | p::r,S,k,h,ok,hp,hc=>by
  have h0:=hc p.1
  rw [List.map_cons,List.count_cons_self] at h0
  have h1:=zhs h ok p (hp p (by simp)).2 (by omega)
  have ok1:=ok.goes1 p (hp p (by simp))
  rw [St.goes]
  refine zez r h1.1 ok1.1 (fun y hy=>by rw [ok1.2];exact hp y (by simp [hy])) (fun x=>?_)
  have h2:=h1.2 x
  have h3:=hc x
  rw [List.map_cons,List.count_cons] at h3
  rw [List.count_singleton] at h2
  omega
theorem zfh (S:St) (c:Nat) (hc:c < S.conds.length) (ch:Int) (all:Bool) (x:Int):St.cnt { S with conds:=S.conds.set c (S.kept c ch all) } x+((S.told c ch all).map Prod.fst).count x=S.cnt x:=by
 have h1:=zjc S c hc (S.kept c ch all) x
 have:((S.kept c ch all).map Prod.fst).count x+((S.told c ch all).map Prod.fst).count x=((S.conds.getD c []).map Prod.fst).count x:=by
  unfold St.kept St.told
  dsimp only
  cases all
  ·by_cases h0:(S.conds.getD c []).length=0
   ·have e0:=List.eq_nil_of_length_eq_zero h0
    simp [h0]
    rw [← List.getD_eq_getElem?_getD,e0]
    simp
   ·simp only [h0,if_false,Bool.false_eq_true]
    generalize S.conds.getD c []=l at h0 ⊢
    have hk:=zhh ch (n:=l.length) (by omega)
    generalize at_ ch l.length=k at hk ⊢
    have hp:=zkc l k (l.getD k (0,0)) (by rw [List.getElem?_eq_getElem hk];simp [List.getD,hk])
    have:=(hp.map Prod.fst).count_eq x
    rw [this]
    simp [List.count_cons]
  ·simp
 omega
theorem Fair.signal {S:St} {k:Nat} (h:Fair S) (ok:Ok S k) (c:Nat) (hc:c < S.conds.length) (ch:Int) (all:Bool):Fair (S.signal c ch all).1:=by
 have ht:∀ p ∈ S.told c ch all,p ∈ S.conds.getD c []:=fun p hp=>by
  unfold St.told at hp
  dsimp only at hp
  split at hp
  ·exact hp
  ·split at hp
   ·simp at hp
   ·rw [List.mem_singleton] at hp
    rw [hp]
    exact zv _ _ _ (zhh _ (by omega))
 have hk:∀ p ∈ S.kept c ch all,p ∈ S.conds.getD c []:=fun p hp=>by
  unfold St.kept at hp
  dsimp only at hp
  split at hp
  ·simp at hp
  ·split at hp
   ·simp at hp
   ·exact List.mem_of_mem_eraseIdx hp
 have hkl:(S.kept c ch all).length≤(S.conds.getD c []).length:=by
  unfold St.kept
  dsimp only
  split
  ·simp
  ·split
   ·simp
   ·exact List.length_eraseIdx_le _ _
 have hm:=zv S.conds [] c hc
 have ok1:Ok { S with conds:=S.conds.set c (S.kept c ch all) } k:=ok.setConds c hc _ (fun p hp=>ok.conds _ hm p (hk p hp)) (by omega)
 have hcc:=zfh S c hc ch all
 unfold St.signal
 refine zez _ (k:=k) ⟨fun x=>?_,h.free,h.some_⟩ ok1 (fun p hp=>ok.conds _ hm p (ht p hp)) (fun x=>?_)
 ·have:=hcc x;have:=h.once x;omega
 ·have:=hcc x;have:=h.once x;omega
end Dk
