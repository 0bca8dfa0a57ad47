import Derived.Test.YtpnajphbjfehnaaGreatLn10
import Derived.Lib.OwnBridge
import Derived.Laws.IdiomCopy
set_option linter.unusedSimpArgs false
set_option linter.unusedVariables false
set_option linter.unnecessarySimpa false
set_option maxHeartbeats 8000000
set_option maxRecDepth 100000
namespace Dk
open Go Go.RowKit
abbrev is (xs:List Int):List Value:=xs.map (Value.int .i64)
structure Away (S:Nat→Prop) (w w':World):Prop where
 os:w'.os=w.os
 tape:w'.tape=w.tape
 output:w'.output=w.output
 size:w.heap.size≤w'.heap.size
 block:∀ k,k < w.heap.size→¬ S k→w'.heap[k]? = w.heap[k]?
theorem Away.refl (S:Nat→Prop) (w:World):Away S w w:=⟨rfl,rfl,rfl,Nat.le_refl _,fun _ _ _=>rfl⟩
theorem Away.trans {S S':Nat→Prop} {w w1 w2:World} (h:Away S w w1) (h':Away S' w1 w2) (hS:∀ k,S' k→S k∨w.heap.size≤k):Away S w w2:=
 ⟨h'.os.trans h.os,h'.tape.trans h.tape,h'.output.trans h.output,Nat.le_trans h.size h'.size,fun k hk hn=>
  (h'.block k (Nat.lt_of_lt_of_le hk h.size) (fun hs=>(hS k hs).elim hn (fun h1=>absurd hk (by omega)))).trans (h.block k hk hn)⟩
theorem Away.of_up {S:Nat→Prop} {w w':World} (h:Below w.heap.size w w'):Away S w w':=⟨h.os,h.tape,h.output,h.size,fun k hk _=>h.block k hk⟩
theorem Away.zar {S:Nat→Prop} {w w':World} {row:Option Nat} (g:w.grownBy w' row) (hr:∀ k,row=some k→S k∨w.heap.size≤k):Away S w w':=
 ⟨g.os,g.tape,g.output,g.size,fun k hk hn=>g.block k hk (fun e=>(hr k e.symm).elim hn (fun h1=>absurd hk (by omega)))⟩
theorem Away.set {S:Nat→Prop} {w w':World} {b:Nat} (h:Away S w w') (hb:S b∨w.heap.size≤b) (o:Nat) (v:Value):Away S w (w'.setCell ⟨b,o,none⟩ v):=
 ⟨h.os,h.tape,h.output,by simp [World.setCell];exact h.size,fun k hk hn=>(Below.heap_setCell w' ⟨b,o,none⟩ v k (fun e=>by
  simp at e;subst e;exact hb.elim hn (fun h1=>absurd hk (by omega)))).trans (h.block k hk hn)⟩
theorem Away.below {S:Nat→Prop} {W w w':World} (h:Below W.heap.size W w) (a:Away S w w') (hS:∀ k,S k→W.heap.size≤k):Below W.heap.size W w':=
 ⟨a.os.trans h.os,a.tape.trans h.tape,a.output.trans h.output,Nat.le_trans h.size a.size,fun k hk=>
  (a.block k (Nat.lt_of_lt_of_le hk h.size) (fun hs=>absurd (hS k hs) (by omega))).trans (h.block k hk)⟩
theorem Box.away {S:Nat→Prop} {w w':World} {b:Nat} {cs:Array Value} {t:TypeId} (h:Box w b cs t) (a:Away S w w') (hn:¬ S b):Box w' b cs t:=⟨by rw [a.block b h.lt hn];exact h.heap⟩
theorem ze4 {S:Nat→Prop} {w w':World} {base:Nat} {e:TypeId} {size:Nat} {v:Value} {n:Nat} {xs:List Value} (h:w.ownsRow base e size v n xs) (a:Away S w w') (hn:∀ k,v.ownBlock=some k→¬ S k):w'.ownsRow base e size v n xs:=by
 obtain ⟨hl,h0 | ⟨g,cap,cur,rfl,hb,hg,hr⟩⟩:=h
 ·exact ⟨hl,.inl h0⟩
 ·exact ⟨hl,.inr ⟨g,cap,cur,rfl,hb,by rw [a.block g (Array.getElem?_eq_some_iff.1 hg).1 (hn g rfl)];exact hg,hr⟩⟩
theorem zx {w:World} {base base':Nat} {e:TypeId} {size:Nat} {v:Value} {n:Nat} {xs:List Value} (h:w.ownsRow base e size v n xs) (hb:base'≤base):w.ownsRow base' e size v n xs:=by
 obtain ⟨hl,h0 | ⟨g,cap,cur,rfl,hg,hr⟩⟩:=h
 ·exact ⟨hl,.inl h0⟩
 ·exact ⟨hl,.inr ⟨g,cap,cur,rfl,Nat.le_trans hb hg,hr⟩⟩
theorem zf {w:World} {base:Nat} {e:TypeId} {size:Nat} {v:Value} {n:Nat} {xs:List Value} (h:w.ownsRow base e size v n xs):∃ A C,v=.slice A n C∧n≤C∧C≤maxLen:=by
 obtain ⟨_,⟨rfl,rfl⟩ | ⟨g,cap,cur,rfl,_,_,h1,h2,_⟩⟩:=h
 ·exact ⟨none,0,rfl,Nat.le_refl _,Nat.zero_le _⟩
 ·exact ⟨_,cap,rfl,h1,h2⟩
theorem za2 {w:World} {base:Nat} {e:TypeId} {v:Value} {xs:List Int} (h:w.ownsRow base e 1 v xs.length (is xs)) (hx:∀ x ∈ xs,i64 x):∃ A C,v=.slice A xs.length C∧SlI w.heap.size w A xs.length C xs:=by
 obtain ⟨_,h | ⟨g,cap,cur,rfl,hb,hg,hc,hm,hs,ht⟩⟩:=h
 ·obtain ⟨rfl,h0⟩:=h
  rw [h0]
  exact ⟨none,0,rfl,h0,Nat.le_refl _,Nat.zero_le _,hx,fun h=>absurd h (by omega)⟩
 ·refine ⟨_,cap,rfl,rfl,hc,hm,hx,fun h0=>⟨g,0,rfl,(Array.getElem?_eq_some_iff.1 hg).1,fun k hk=>?_⟩⟩
  have hbx:Box w g cur e:=⟨hg⟩
  rw [hbx.cell,Nat.zero_add]
  have h1:(cur.toList.take (xs.length*1))[k]? = cur.toList[k]?:=by rw [List.getElem?_take,if_pos (by omega)]
  rw [ht] at h1
  rw [← Array.getElem?_toList,← h1]
  simp [List.getD,hk]
def From (w:World) (v v':Value):Prop:=∀ k,v'.ownBlock=some k→v.ownBlock=some k∨w.heap.size≤k
theorem From.same (w:World) {v v':Value} (h:v'.ownBlock=v.ownBlock):From w v v':=fun k hk=>.inl (by rw [← h];exact hk)
theorem From.refl (w:World) (v:Value):From w v v:=fun k hk=>.inl hk
theorem From.mono {w w1:World} {v v':Value} (h:From w1 v v') (hs:w.heap.size≤w1.heap.size):From w v v':=fun k hk=>(h k hk).imp id (fun h=>by omega)
theorem From.trans {w w1:World} {v v1 v2:Value} (h:From w v v1) (h':From w1 v1 v2) (hs:w.heap.size≤w1.heap.size):From w v v2:=fun k hk=>(h' k hk).elim (h k) (fun h=>.inr (by omega))
theorem From.new {w w':World} {e:TypeId} {size:Nat} {v v':Value} {n:Nat} {xs:List Value} (h:w'.ownsRow w.heap.size e size v' n xs):From w v v':=fun k hk=>.inr (h.lt k hk).1
def Apart (v u:Value):Prop:=∀ k,v.ownBlock=some k→u.ownBlock≠some k
theorem Apart.symm {v u:Value} (h:Apart v u):Apart u v:=fun k hk e=>h k e hk
theorem Apart.from {w:World} {base:Nat} {e:TypeId} {size n:Nat} {xs:List Value} {v v' u:Value} (h:Apart v u) (f:From w v v') (hu:w.ownsRow base e size u n xs):Apart v' u:=fun k hk hku=>
 (f k hk).elim (fun h1=>h k h1 hku) (fun h1=>absurd (hu.lt k hku).2 (by omega))
structure DQ (B:Nat) (w:World) (bd:Nat) (v:Value) (xs:List Int):Prop where
 base:B≤bd
 head:Box w bd #[v] 206
 row:w.ownsRow B 3 1 v xs.length (is xs)
 ne:v.ownBlock≠some bd
 wf:∀ x ∈ xs,i64 x
def At (bd:Nat) (v:Value) (k:Nat):Prop:=k=bd∨v.ownBlock=some k
theorem DQ.at {B:Nat} {w:World} {bd:Nat} {v:Value} {xs:List Int} (h:DQ B w bd v xs):∀ k,At bd v k→B≤k:=fun k hk=>hk.elim (fun e=>by rw [e];exact h.base) (fun e=>(h.row.lt k e).1)
theorem DQ.away {S:Nat→Prop} {B:Nat} {w w':World} {bd:Nat} {v:Value} {xs:List Int} (h:DQ B w bd v xs) (a:Away S w w') (hn:∀ k,At bd v k→¬ S k):DQ B w' bd v xs:=
 ⟨h.base,h.head.away a (hn bd (.inl rfl)),ze4 h.row a (fun k hk=>hn k (.inr hk)),h.ne,h.wf⟩
theorem DQ.up {B:Nat} {w w':World} {bd:Nat} {v:Value} {xs:List Int} (h:DQ B w bd v xs) (u:Below w.heap.size w w'):DQ B w' bd v xs:=h.away (S:=fun _=>False) (Away.of_up u) (fun _ _=>id)
theorem DQ.put {B:Nat} {w w':World} {bd:Nat} {v v':Value} {xs xs':List Int} (h:DQ B w bd v xs) (hr:w'.ownsRow B 3 1 v' xs'.length (is xs')) (g:w.grownBy w' v.ownBlock) (f:From w v v') (hw:∀ x ∈ xs',i64 x) :
  DQ B (w'.setCell ⟨bd,0,none⟩ v') bd v' xs'∧Away (At bd v) w (w'.setCell ⟨bd,0,none⟩ v'):=by
 have hne:v'.ownBlock≠some bd:=fun e=>(f bd e).elim h.ne (fun h1=>absurd h.head.lt (by omega))
 have a1:Away (At bd v) w w':=Away.zar g (fun k hk=>.inl (.inr hk))
 have hb:Box w' bd #[v] 206:=⟨by rw [g.block bd h.head.lt (fun e=>h.ne e.symm)];exact h.head.heap⟩
 refine ⟨⟨h.base,hb.set 0 v',?_,hne,hw⟩,a1.set (.inl (.inl rfl)) _ _⟩
 exact ze4 hr ((Away.refl (fun k=>k=bd) w').set (.inl rfl) 0 v') (fun k hk e=>hne (by rw [← e];exact hk))
def putAt (cur:Array Value):Nat→List Value→Array Value
 | _,[]=>cur
 | o,v::r=>putAt (cur.setIfInBounds o v) (o+1) r
theorem ze8:∀ (vs:List Value) (cur:Array Value) (o:Nat),o+vs.length≤cur.size→∀ j,(putAt cur o vs)[j]? = if o≤j∧j < o+vs.length then vs[j - o]? else cur[j]?
 | [],cur,o,_,j=>by simp [putAt];intro h1 h2;omega
 | v::r,cur,o,h,j=>by
  simp only [List.length_cons] at h ⊢
  rw [putAt,ze8 r (cur.setIfInBounds o v) (o+1) (by rw [Array.size_setIfInBounds];omega) j]
  by_cases h1:o+1≤j∧j < o+1+r.length
  ·rw [if_pos h1,if_pos (by omega),show j - o=(j - (o+1))+1 by omega,List.getElem?_cons_succ]
  ·rw [if_neg h1,Array.getElem?_setIfInBounds]
   by_cases h2:o=j
   ·subst h2
    rw [if_pos rfl,if_pos (by omega),if_pos (by omega),Nat.sub_self,List.getElem?_cons_zero]
   ·rw [if_neg h2,if_neg (by omega)]
theorem Box.sets {w:World} {b:Nat} {t:TypeId}:∀ (vs:List Value) (cur:Array Value) (o:Nat) (w:World),Box w b cur t→Box (w.setCells b o vs) b (putAt cur o vs) t
 | [],_,_,_,h=>h
 | v::r,cur,o,w,h=>by rw [World.setCells,putAt];exact Box.sets (w:=w) r _ _ _ (h.set o v)
theorem zdo {w w':World} {b:Nat}:∀ (vs:List Value) (o:Nat) (w':World),w.grownBy w' (some b)→w.grownBy (w'.setCells b o vs) (some b)
 | [],_,_,h=>h
 | v::r,o,w',h=>by rw [World.setCells];exact zdo (w':=w') r _ _ (zd8 h o v)
theorem zel {w:World} {base b n cap:Nat} {cur:Array Value} {t:TypeId} {vs:List Value} (h:Box w b cur t) (hb:base≤b) (hc:cur.size=cap) (hm:cap≤maxLen) (hn:vs.length=n) (hl:n≤cap) (hv:∀ j,j < n→cur[j]? = vs[j]?):w.ownsRow base t 1 (.slice (some ⟨b,0,none⟩) n cap) n vs:=by
 refine ⟨by rw [hn,Nat.mul_one],.inr ⟨b,cap,cur,rfl,hb,h.heap,hl,hm,by rw [hc,Nat.mul_one],?_⟩⟩
 rw [Nat.mul_one]
 apply List.ext_getElem?
 intro j
 rw [List.getElem?_take]
 by_cases hj:j < n
 ·rw [if_pos hj,Array.getElem?_toList];exact hv j hj
 ·rw [if_neg hj,List.getElem?_eq_none (by omega)]
end Dk
