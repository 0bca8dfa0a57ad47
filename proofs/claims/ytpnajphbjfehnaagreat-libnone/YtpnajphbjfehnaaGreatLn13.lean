import Derived.Test.YtpnajphbjfehnaaGreatLn12
import Derived.Lib.AppendZeros
set_option linter.unusedSimpArgs false
set_option linter.unusedVariables false
set_option linter.unnecessarySimpa false
set_option maxHeartbeats 8000000
set_option maxRecDepth 100000
namespace Dk
open Go Go.RowKit
structure SlK (P:Go.Program) (t e:TypeId) (z:Value) (s bytes:Nat):Prop where
 und:P.underlying t=some (.slice e)
 info:(P.info? e).map (fun i=>(i.zero,i.size,i.bytes))=some (some z,s,bytes)
 cells:z.cells.size=s
 pos:0 < s
 le:bytes≤1000
theorem SlK.append {P:Go.Program} {t e:TypeId} {z:Value} {s bytes:Nat} (K:SlK P t e z s bytes) (B:Nat) (ty:TypeId) (v:Value) (xs:List Value) (n:Nat) (w:World) (hown:w.ownsRow B e s v n xs) (a:Addr) (m c:Nat) (news:List Value) (hl:news.length=m*s) (hnews:∀ j u,news[j]? = some u→w.cell? (a.add j)=some u) (h1:∀ u ∈ news,u.oneCell'=true)
  (h:n+m≤100000) (hB:B≤w.heap.size) :
  ∃ v' w',(Builtin.append_ #[t,t] ty #[v,.slice (some a) m c]).run P w=.ok v' w'∧w'.ownsRow B e s v' (n+m) (xs++news)∧w.grownBy w' v.ownBlock∧From w v v'∧(v'=.slice none 0 0 ↔ v=.slice none 0 0∧m=0):=by
 obtain ⟨i0,hi0,hz0,hz1,hz2⟩:=info_parts K.info
 have hle:=K.le
 have hb2:(n+m)*bytes≤100000*1000:=Nat.mul_le_mul h hle
 have hb3:m*bytes≤100000*1000:=Nat.mul_le_mul (by omega) hle
 have hl1:news.length=m*i0.size:=by rw [hz1];exact hl
 obtain ⟨v',w',hr,ho,hg,hi⟩:=run_append_own (P:=P) w B t ty e i0 z s bytes K.und hi0 hz0 hz1 hz2 K.cells K.pos v n xs hown a m c news hl hnews h1 (by unfold maxLen;omega) (by omega) hB
 refine ⟨v',w',hr,ho,hg,?_,hi⟩
 obtain ⟨hxl,⟨rfl,rfl⟩ | ⟨g,cap,cur,rfl,hb,hgg,hn,hm,hs,ht⟩⟩:=id hown
 ·by_cases hm:m=0
  ·rw [hi.2 ⟨rfl,hm⟩]
   exact From.refl _ _
  ·have hr2:=run_append_nil (P:=P) w t ty e i0 z K.und hi0 hz0 a m c news hl1 hnews (by omega) (by omega) (by rw [hz2];omega)
   rw [hr] at hr2
   injection hr2 with e1 e2
   subst e1
   exact fun k hk=>.inr (by simp [Value.ownBlock] at hk;omega)
 ·by_cases hroom:n+m≤cap
  ·have hr2:=run_append_room (P:=P) w t ty e i0 K.und hi0 g n cap cur hgg a m c news hl1 hnews h1 hroom (by
    rw [hz1,hl,hs,← Nat.add_mul]
    exact Nat.mul_le_mul_right _ hroom)
   rw [hr] at hr2
   injection hr2 with e1 e2
   subst e1
   exact From.same _ rfl
  ·have holds:∀ j u,xs[j]? = some u→w.cell? ((⟨g,0,none⟩:Addr).add j)=some u:=hown.cells (g:=g) rfl
   have hr2:=run_append_grow (P:=P) w t ty e i0 z K.und hi0 hz0 ⟨g,0,none⟩ n cap xs (by rw [hz1];exact hxl) holds a m c news hl1 hnews (by omega) (by omega) (growslice_fits (by omega) (by rw [hz2];omega))
   rw [hr] at hr2
   injection hr2 with e1 e2
   subst e1
   exact fun k hk=>.inr (by simp [Value.ownBlock] at hk;omega)
structure Thing where
 own:Nat→Prop
 holds:World→Prop
 local_:∀ w w',holds w→(∀ k,own k→w'.heap[k]? = w.heap[k]?)→holds w'
 lt:∀ w,holds w→∀ k,own k→k < w.heap.size
theorem zbz {w w':World} {e:TypeId} {s n:Nat} {v:Value} {xs:List Value} (h:w.ownsRow 0 e s v n xs) (hk:∀ k,v.ownBlock=some k→w'.heap[k]? = w.heap[k]?):w'.ownsRow 0 e s v n xs:=by
 obtain ⟨hl,h0 | ⟨g,cap,cur,rfl,hb,hg,hr⟩⟩:=h
 ·exact ⟨hl,.inl h0⟩
 ·exact ⟨hl,.inr ⟨g,cap,cur,rfl,hb,(hk g rfl).trans hg,hr⟩⟩
def rowOf (e:TypeId) (s:Nat) (v:Value) (n:Nat) (xs:List Value):Thing:={
 own:=fun k=>v.ownBlock=some k
 holds:=fun w=>w.ownsRow 0 e s v n xs
 local_:=fun w w' h hk=>zbz h hk
 lt:=fun w h k hk=>(World.ownsRow.lt h k hk).2 }
def boxOf (b:Nat) (cs:Array Value) (t:TypeId):Thing:={
 own:=fun k=>k=b
 holds:=fun w=>Box w b cs t
 local_:=fun w w' h hk=>⟨(hk b rfl).trans h.heap⟩
 lt:=fun w h k hk=>hk ▸ h.lt }
structure Sepd (W w:World) (ts:List Thing):Prop where
 all:∀ t ∈ ts,t.holds w∧∀ k,t.own k→W.heap.size≤k
 apart:ts.Pairwise (fun s t=>∀ k,s.own k→¬ t.own k)
 up:Below W.heap.size W w
def Sep (W w:World) (ts:List Thing):Prop:=Hid (Sepd W w ts)
section
variable {W w w' : World} {t t' : Thing} {ts ts' us us1 us2 : List Thing}
theorem Sep.out (h:Sep W w ts):Below W.heap.size W w:=(Hid.out h).up
theorem Sep.begin (u:Below W.heap.size W w):Sep W w []:=⟨fun t ht=>absurd ht (by simp),List.Pairwise.nil,u⟩
theorem Sep.get (h:Sep W w ts) (ht:t ∈ ts):t.holds w:=((Hid.out h).all t ht).1
theorem Sep.base (h:Sep W w ts) (ht:t ∈ ts):∀ k,t.own k→W.heap.size≤k:=((Hid.out h).all t ht).2
theorem Sep.perm (h:Sep W w ts) (p:ts.Perm us):Sep W w us:=by
 have q:=Hid.out h
 exact ⟨fun x hx=>q.all x (p.mem_iff.2 hx),(p.pairwise_iff (fun {x y} hxy k hy hx=>hxy k hx hy)).1 q.apart,q.up⟩
theorem Sep.sub (h:Sep W w ts) (s:us.Sublist ts):Sep W w us:=by
 have q:=Hid.out h
 exact ⟨fun x hx=>q.all x (s.mem hx),q.apart.sublist s,q.up⟩
theorem Sep.below (h:Sep W w ts) (b:Below w.heap.size w w'):Sep W w' ts:=by
 have q:=Hid.out h
 exact ⟨fun x hx=>⟨x.local_ w w' (q.all x hx).1 (fun k hk=>b.block k (x.lt w (q.all x hx).1 k hk)),(q.all x hx).2⟩,q.apart,Dk.zg q.up b⟩
theorem Sep.turns (h:Sep W w (us1++t::us2)) (a:Away t.own w w') (hh:∀ x ∈ ts',x.holds w') (hn:∀ x ∈ ts',∀ k,x.own k→t.own k∨w.heap.size≤k) (hp:ts'.Pairwise (fun s t=>∀ k,s.own k→¬ t.own k)):Sep W w' (us1++(ts'++us2)):=by
 have q:=Hid.out (h.perm List.perm_middle)
 have hap:=List.pairwise_cons.1 q.apart
 have ht:=q.all t (List.mem_cons_self ..)
 have key:Sep W w' (ts'++(us1++us2)):=by
  refine ⟨fun x hx=>?_,List.pairwise_append.2 ⟨hp,hap.2,fun x hx y hy k hk hyk=>?_⟩,a.below q.up ht.2⟩
  ·rcases List.mem_append.1 hx with hx | hx
   ·refine ⟨hh x hx,fun k hk=>(hn x hx k hk).elim (ht.2 k) (fun h1=>Nat.le_trans q.up.size h1)⟩
   ·have hx':=q.all x (List.mem_cons_of_mem _ hx)
    exact ⟨x.local_ w w' hx'.1 (fun k hk=>a.block k (x.lt w hx'.1 k hk) (fun ho=>hap.1 x hx k ho hk)),hx'.2⟩
  ·have hy':=q.all y (List.mem_cons_of_mem _ hy)
   exact (hn x hx k hk).elim (fun ho=>hap.1 y hy k ho hyk) (fun h1=>absurd (y.lt w hy'.1 k hyk) (by omega))
 refine key.perm ?_
 rw [← List.append_assoc,← List.append_assoc]
 exact (List.perm_append_comm).append_right us2
theorem Sep.turn (h:Sep W w (us1++t::us2)) (a:Away t.own w w') (hh:t'.holds w') (hn:∀ k,t'.own k→t.own k∨w.heap.size≤k):Sep W w' (us1++t'::us2):=
 Sep.turns (ts':=[t']) h a (fun x hx=>by rw [List.mem_singleton] at hx;rw [hx];exact hh) (fun x hx=>by rw [List.mem_singleton] at hx;rw [hx];exact hn) (List.pairwise_singleton _ _)
theorem Sep.add (h:Sep W w ts) (b:Below w.heap.size w w') (hh:t.holds w') (hn:∀ k,t.own k→w.heap.size≤k):Sep W w' (t::ts):=by
 have q:=Hid.out (h.below b)
 have q0:=Hid.out h
 refine ⟨fun x hx=>?_,List.pairwise_cons.2 ⟨fun x hx k hk hxk=>absurd (x.lt w (q0.all x hx).1 k hxk) (by have:=hn k hk;omega),q.apart⟩,q.up⟩
 rcases List.mem_cons.1 hx with e | hx
 ·rw [e]
  exact ⟨hh,fun k hk=>Nat.le_trans q0.up.size (hn k hk)⟩
 ·exact q.all x hx
theorem Sep.row {e:TypeId} {s n:Nat} {v:Value} {xs:List Value} (h:Sep W w ts) (ht:rowOf e s v n xs ∈ ts):w.ownsRow W.heap.size e s v n xs:=by
 have:=h.get ht
 have hb:=h.base ht
 obtain ⟨hl,h0 | ⟨g,cap,cur,rfl,_,hr⟩⟩:=this
 ·exact ⟨hl,.inl h0⟩
 ·exact ⟨hl,.inr ⟨g,cap,cur,rfl,hb g rfl,hr⟩⟩
theorem Sep.box {b:Nat} {cs:Array Value} {t:TypeId} (h:Sep W w ts) (ht:boxOf b cs t ∈ ts):Box w b cs t:=h.get ht
theorem Sep.newBox {cs:Array Value} {e:TypeId} (h:Sep W w ts) (ew:w'=w.alloc (.cells cs e)):Sep W w' (boxOf w.heap.size cs e::ts):=by
 subst ew
 exact h.add (Dk.zb (Below.refl _ _) _) (Box.new w cs e) (fun k hk=>by simp [boxOf] at hk;omega)
theorem Sep.setBox {b o:Nat} {cs:Array Value} {e:TypeId} (h:Sep W w (us1++boxOf b cs e::us2)) (v:Value):Sep W (w.setCell ⟨b,o,none⟩ v) (us1++boxOf b (cs.setIfInBounds o v) e::us2):=
 h.turn ((Away.refl (boxOf b cs e).own w).set (.inl rfl) _ _) ((h.box (b:=b) (cs:=cs) (t:=e) (by simp)).set o v) (fun k hk=>.inl hk)
theorem Sep.append {P:Go.Program} {ty e:TypeId} {z:Value} {bytes n:Nat} {v x:Value} {xs:List Value} (K:SlK P ty e z 1 bytes) (h:Sep W w (us1++rowOf e 1 v n xs::us2)) (hx:x.oneCell'=true) (hl:n≤10000) :
  ∃ v' w',(Builtin.append_ #[ty,ty] ty #[v,.slice (some ⟨w.heap.size,0,none⟩) 1 1]).run P (w.alloc (.cells #[x] e))=.ok v' w'∧Sep W w' (us1++rowOf e 1 v' (n+1) (xs++[x])::us2)∧v'≠.slice none 0 0:=by
 obtain ⟨V,eV⟩:∃ V,V=w.alloc (.cells #[x] e):=⟨_,rfl⟩
 have uV:Below w.heap.size w V:=by rw [eV];exact Dk.zb (Below.refl _ _) _
 have hV:=h.below uV
 have hr:=hV.row (e:=e) (s:=1) (v:=v) (n:=n) (xs:=xs) (by simp)
 have hbx:Box V w.heap.size #[x] e:=by rw [eV];exact Box.new w _ _
 obtain ⟨v',w',hrun,ho,hg,hf,hnil⟩:=K.append W.heap.size ty v xs n V hr ⟨w.heap.size,0,none⟩ 1 1 [x] rfl (fun j u hj=>by
  rw [Addr.add_lit,Nat.zero_add,hbx.cell]
  match j,hj with
  | 0,hj=>simpa using hj) (fun u hu=>by simp at hu;rw [hu];exact hx) (by omega) hV.out.size
 rw [← eV]
 exact ⟨v',w',hrun,hV.turn (Away.zar hg (fun k hk=>.inl hk)) (zx ho (Nat.zero_le _)) (fun k hk=>hf k hk),fun e0=>by simpa using hnil.1 e0⟩
end
def Off (a b:Value):Prop:=∀ k,a.ownBlock=some k→b.ownBlock≠some k
theorem Off.symm {a b:Value} (h:Off a b):Off b a:=fun k hk e=>h k e hk
def nestOf {α:Type} (eh e:TypeId) (s:Nat) (f:List α→List Value) (v:Value) (vs:List Value) (xss:List (List α)):Thing:={
 own:=fun k=>v.ownBlock=some k∨∃ u ∈ vs,u.ownBlock=some k
 holds:=fun w=>w.ownsRow 0 eh 1 v vs.length vs∧vs.length=xss.length∧(∀ (i:Nat) u xs,vs[i]? = some u→xss[i]? = some xs→w.ownsRow 0 e s u xs.length (f xs))∧(v::vs).Pairwise Off
 local_:=fun w w' h hk=>⟨zbz h.1 (fun k hkk=>hk k (.inl hkk)),h.2.1,fun i u xs hu hx=>zbz (h.2.2.1 i u xs hu hx) (fun k hkk=>hk k (.inr ⟨u,List.mem_of_getElem? hu,hkk⟩)),h.2.2.2⟩
 lt:=fun w h k hk=>by
  rcases hk with hk | ⟨u,hu,hk⟩
  ·exact (World.ownsRow.lt h.1 k hk).2
  ·obtain ⟨i,hi⟩:=List.getElem?_of_mem hu
   have hil:i < xss.length:=by rw [← h.2.1];exact (List.getElem?_eq_some_iff.1 hi).1
   exact (World.ownsRow.lt (h.2.2.1 i u _ hi (List.getElem?_eq_getElem hil)) k hk).2 }
section
variable {W w w' : World} {t t' : Thing} {ts us us1 us2 : List Thing} {α : Type} {eh e : TypeId} {s : Nat} {f : List α → List Value} {v : Value} {vs : List Value} {xss : List (List α)}
theorem za3 {B n k:Nat} {xs:List Value} (hr:w.ownsRow B e 1 v n xs) (hk:k < n):∃ g C x,v=.slice (some ⟨g,0,none⟩) n C∧n≤C∧C≤maxLen∧xs[k]? = some x∧w.cell? ⟨g,k,none⟩=some x∧w.frozen? ⟨g,k,none⟩=false∧∀ y,(w.setCell ⟨g,k,none⟩ y).ownsRow B e 1 v n (xs.set k y):=by
 obtain ⟨hl,⟨_,h0⟩ | ⟨g,cap,cur,rfl,hb,hgg,h1,h2,h3,h4⟩⟩:=id hr
 ·omega
 rw [Nat.mul_one] at hl
 have hx:xs[k]? = some xs[k]:=List.getElem?_eq_getElem (by omega)
 have hc:=hr.cells (g:=g) rfl k _ hx
 rw [Addr.add_lit,Nat.zero_add] at hc
 have bx:Box w g cur e:=⟨hgg⟩
 refine ⟨g,cap,_,rfl,h1,h2,hx,hc,bx.frozen k,fun y=>?_⟩
 rw [Nat.mul_one] at h3
 refine zel (bx.set k y) hb (by rw [Array.size_setIfInBounds];exact h3) h2 (by rw [List.length_set];exact hl) h1 (fun i hi=>?_)
 rw [Array.getElem?_setIfInBounds]
 have hi':cur[i]? = xs[i]?:=by
  rw [← h4,List.getElem?_take,if_pos (by omega),Array.getElem?_toList]
 by_cases hij:k=i
 ·subst hij
  rw [if_pos rfl,if_pos (by omega),List.getElem?_set_self (by omega)]
 ·rw [if_neg hij,hi',List.getElem?_set_ne hij]
theorem Sep.cell {n k:Nat} {xs:List Value} (h:Sep W w (us1++rowOf e 1 v n xs::us2)) (hk:k < n):∃ g C x,v=.slice (some ⟨g,0,none⟩) n C∧n≤C∧C≤maxLen∧xs[k]? = some x∧w.cell? ⟨g,k,none⟩=some x∧w.frozen? ⟨g,k,none⟩=false∧∀ y,Sep W (w.setCell ⟨g,k,none⟩ y) (us1++rowOf e 1 v n (xs.set k y)::us2):=by
 have hr:=h.row (e:=e) (s:=1) (v:=v) (n:=n) (xs:=xs) (by simp)
 obtain ⟨g,C,x,ev,h1,h2,hx,hc,hf,hs⟩:=za3 hr hk
 refine ⟨g,C,x,ev,h1,h2,hx,hc,hf,fun y=>?_⟩
 refine Sep.turn (t:=rowOf e 1 v n xs) (t':=rowOf e 1 v n (xs.set k y)) h ?_ (zx (hs y) (Nat.zero_le _)) (fun j hj=>.inl hj)
 subst ev
 exact (Away.refl (rowOf e 1 (.slice (some ⟨g,0,none⟩) n C) n xs).own w).set (b:=g) (.inl rfl) _ _
theorem Sep.inner (h:Sep W w ts) (ht:nestOf eh e s f v vs xss ∈ ts) {i:Nat} (hi:i < xss.length):∃ g C u xs,v=.slice (some ⟨g,0,none⟩) xss.length C∧xss.length≤C∧C≤maxLen∧vs[i]? = some u∧xss[i]? = some xs∧w.cell? ⟨g,i,none⟩=some u∧w.frozen? ⟨g,i,none⟩=false∧w.ownsRow W.heap.size e s u xs.length (f xs)∧u.ownBlock≠some g:=by
 obtain ⟨h1,h2,h3,h4⟩:=h.get ht
 have hb:=h.base ht
 rw [h2] at h1
 obtain ⟨g,C,u,ev,q1,q2,hu,hc,hf,_⟩:=za3 h1 hi
 have hx:xss[i]? = some xss[i]:=List.getElem?_eq_getElem hi
 refine ⟨g,C,u,_,ev,q1,q2,hu,hx,hc,hf,?_,?_⟩
 ·have:=h3 i u _ hu hx
  obtain ⟨hl,h0 | ⟨g',cap,cur,rfl,_,hr⟩⟩:=this
  ·exact ⟨hl,.inl h0⟩
  ·exact ⟨hl,.inr ⟨g',cap,cur,rfl,hb g' (.inr ⟨_,List.mem_of_getElem? hu,rfl⟩),hr⟩⟩
 ·have:=(List.pairwise_cons.1 h4).1 u (List.mem_of_getElem? hu) g (by rw [ev];rfl)
  exact this
theorem Sep.nestLen (h:Sep W w ts) (ht:nestOf eh e s f v vs xss ∈ ts):∃ A C,v=.slice A xss.length C∧xss.length≤C∧C≤maxLen:=by
 obtain ⟨h1,h2,_,_⟩:=h.get ht
 rw [h2] at h1
 exact zf h1
end
theorem Away.cell {S:Nat→Prop} {w w':World} (a:Away S w w') {b:Nat} (hb:b < w.heap.size) (hn:¬ S b) (o:Nat):w'.cell? ⟨b,o,none⟩=w.cell? ⟨b,o,none⟩:=by
 unfold World.cell?
 simp only [a.block b hb hn]
section
variable {P : Go.Program} {ops : Array Oper} {md : Region.Mode} {S : World → Prop} {Q : Exit → Act → World → Prop} {Z : List Nat}
def wpAnyY (P:Go.Program) (md:Region.Mode) (ops:Array Oper) (Q:Exit→Act→World→Prop) (S:World→Prop) (Z:List Nat):Nat→Array Bool→Act→World→Prop
 | 0,listed,a,w=>Region.ready md ops listed=[]∧Q .normal a w
 | fuel+1,listed,a,w=>
  (Region.ready md ops listed=[]→Q .normal a w)∧
  ∀ i ∈ Region.ready md ops listed,wpOp P ops Q i (fun a' w'=>(i ∉ Z→S w')∧wpAnyY P md ops Q S Z fuel (listed.setIfInBounds i true) a' w') a w
theorem zdw:∀ (fuel:Nat) (listed:Array Bool) (a:Act) (w:World),wpAnyY P md ops Q S Z fuel listed a w→wpAny P md ops Q fuel listed a w
 | 0,_,_,_,h=>h
 | fuel+1,_,_,_,h=>⟨h.1,fun i hi=>wpOp_mono (fun a' w' h'=>zdw fuel _ a' w' h'.2) (h.2 i hi)⟩
def depB (md:Region.Mode) (ops:Array Oper):Nat→Nat→Nat→Bool
 | 0,_,_=>false
 | f+1,z,i=>match ops[z]? with
  | some o=>o.after.any fun e=>Region.binds md e && (e.on == i || depB md ops f e.on i)
  | none=>false
theorem zb1 {listed:Array Bool} (hc:Closed md ops listed) {i:Nat}:∀ (f z:Nat),depB md ops f z i=true→listed.getD z false=true→listed.getD i false=true
 | 0,z,h,_=>by simp [depB] at h
 | f+1,z,h,hz=>by
  unfold depB at h
  cases ho:ops[z]? with
  | none=>rw [ho] at h;simp at h
  | some o=>
   rw [ho] at h
   simp only [Array.any_eq_true] at h
   obtain ⟨k,hk,he⟩:=h
   simp only [Bool.and_eq_true,Bool.or_eq_true,beq_iff_eq] at he
   have h1:=hc z o ho hz _ (Array.getElem_mem hk) he.1
   rcases he.2 with e | e
   ·rw [← e];exact h1
   ·exact zb1 hc f _ e h1
theorem zjg {listed:Array Bool} (hc:Closed md ops listed) {f z i:Nat} (h:depB md ops f z i=true) (hi:i ∈ Region.ready md ops listed):z ∉ Region.ready md ops listed:=fun hz=>by
 have hl:=(Closed.next hc hz)
 obtain ⟨hzun,oz,hoz,hall⟩:=mem_ready.1 hz
 have hi0:=(mem_ready.1 hi).1
 have hzl:z < listed.size:=by
  rcases Nat.lt_or_ge z listed.size with h' | h'
  ·exact h'
  ·simp [Array.getElem?_eq_none h'] at hzun
 have h1:=zb1 hl f z h (by simp [hzl])
 have hzi:z≠i:=fun e=>by
  subst e
  have h2:=h
  cases f with
  | zero=>simp [depB] at h2
  | succ f=>
   unfold depB at h2
   rw [hoz] at h2
   simp only [Array.any_eq_true] at h2
   obtain ⟨k,hk,he⟩:=h2
   simp only [Bool.and_eq_true,Bool.or_eq_true,beq_iff_eq] at he
   have h3:=hall _ (Array.getElem_mem hk) he.1
   rcases he.2 with e | e
   ·rw [e] at h3
    rcases Nat.lt_or_ge z listed.size with h' | h'
    ·simp [h'] at hi0 h3;rw [hi0] at h3;cases h3
    ·omega
   ·have h4:=zb1 hc f _ e h3
    simp [hzl] at hi0 h4;rw [hi0] at h4;cases h4
 rw [getD_set_ne false hzi] at h1
 rcases Nat.lt_or_ge i listed.size with h' | h'
 ·simp [h'] at hi0 h1;rw [hi0] at h1;cases h1
 ·simp [Array.getElem?_eq_none h'] at h1
theorem zfl {i:Nat} {oi:Oper} {v:Value} (hi:ops[i]? = some oi) (hsel:∀ (j:Nat) (o:Oper) cs b,ops[j]? = some o→o.op≠.select cs b)
  (hQ:∀ c a w,Q (.panic c) (a.put oi.dst v) w→Q (.panic c) a w) :
  ∀ (fuel:Nat) (listed:Array Bool) (a:Act) (w:World),Closed md ops listed→(∀ z ∈ Z,depB md ops ops.size z i=true∨listed.getD z false=true)→
   (∀ j oj,ops[j]? = some oj→j≠i→listed.getD j true=false→(∀ e ∈ oj.after,Region.binds md e=true→e.on≠i)→oi.apart ops oj=true)→
   i ∈ Region.ready md ops listed→YieldsIf P ops S oi v a→S w→
   wpAnyY P md ops Q S Z fuel (listed.setIfInBounds i true) (a.put oi.dst v) w→wpAnyY P md ops Q S Z (fuel+1) listed a w:=by
 intro fuel
 induction fuel with
 | zero=>
  intro listed a w hcl hz _ hr hy hS H
  refine ⟨fun h=>(by rw [h] at hr;cases hr),fun j hj=>?_⟩
  by_cases hji:j=i
  ·subst hji;exact hy.wpOp hi hS ⟨fun _=>hS,H⟩
  ·have:=ready_mono hj hji
   rw [H.1] at this
   cases this
 | succ fuel ih=>
  intro listed a w hcl hz hfree hr hy hS H
  refine ⟨fun h=>(by rw [h] at hr;cases hr),fun j hj=>?_⟩
  by_cases hji:j=i
  ·subst hji;exact hy.wpOp hi hS ⟨fun _=>hS,H⟩
  ·have h1:=H.2 j (ready_mono hj hji)
   have hjz:j ∉ Z:=fun e=>by
    rcases hz j e with h | h
    ·exact zjg hcl h hr hj
    ·have h0:=(mem_ready.1 hj).1
     rcases Nat.lt_or_ge j listed.size with h' | h'
     ·simp [h'] at h0 h;rw [h0] at h;cases h
     ·simp [Array.getElem?_eq_none h'] at h
   obtain ⟨hjun,oj,hoj,hall⟩:=mem_ready.1 hj
   have hnot:∀ e ∈ oj.after,Region.binds md e=true→e.on≠i:=fun e he hb heq=>by
    have h1:=hall e he hb
    have h0:=(mem_ready.1 hr).1
    rw [heq] at h1
    rcases Nat.lt_or_ge i listed.size with h' | h'
    ·simp [h'] at h0 h1;rw [h0] at h1;cases h1
    ·simp [Array.getElem?_eq_none h'] at h1
   have h2:=wpOp_putIf hoj (hfree j oj hoj hji hjun hnot) (fun cs b=>hsel i oi cs b hi) (fun cs b=>hsel j oj cs b hoj) hQ hy h1
   have hfree':∀ k ok,ops[k]? = some ok→k≠i→(listed.setIfInBounds j true).getD k true=false→
     (∀ e ∈ ok.after,Region.binds md e=true→e.on≠i)→oi.apart ops ok=true:=fun k ok hk hki hun hno=>by
    refine hfree k ok hk hki ?_ hno
    by_cases hjk:j=k
    ·subst hjk;exact hjun
    ·rw [getD_set_ne true hjk] at hun;exact hun
   refine wpOp_mono (fun a' w' h3=>⟨fun hn=>h3.2.1 hn,ih (listed.setIfInBounds j true) a' w' (hcl.next hj) (fun z hzz=>(hz z hzz).imp id (fun h=>getD_set_true h)) hfree' (ready_mono hr (Ne.symm hji)) h3.1 (h3.2.1 hjz) ?_⟩) h2
   rw [Array.setIfInBounds_comm _ _ hji]
   exact h3.2.2
theorem zgf {i:Nat} {oi:Oper} {v:Value} (hi:ops[i]? = some oi) (hsel:∀ (j:Nat) (o:Oper) cs b,ops[j]? = some o→o.op≠.select cs b)
  (hQ:∀ c a w,Q (.panic c) (a.put oi.dst v) w→Q (.panic c) a w) (hZ:i ∈ Z) :
  ∀ (fuel:Nat) (listed:Array Bool) (a:Act) (w:World),
   (∀ j oj,ops[j]? = some oj→j≠i→listed.getD j true=false→(∀ e ∈ oj.after,Region.binds md e=true→e.on≠i)→oi.apart ops oj=true)→
   i ∈ Region.ready md ops listed→YieldsIf P ops (fun _=>True) oi v a→
   wpAnyY P md ops Q S Z fuel (listed.setIfInBounds i true) (a.put oi.dst v) w→wpAnyY P md ops Q S Z (fuel+1) listed a w:=by
 intro fuel
 induction fuel with
 | zero=>
  intro listed a w _ hr hy H
  refine ⟨fun h=>(by rw [h] at hr;cases hr),fun j hj=>?_⟩
  by_cases hji:j=i
  ·subst hji;exact hy.wpOp hi trivial ⟨fun h=>absurd hZ h,H⟩
  ·have:=ready_mono hj hji
   rw [H.1] at this
   cases this
 | succ fuel ih=>
  intro listed a w hfree hr hy H
  refine ⟨fun h=>(by rw [h] at hr;cases hr),fun j hj=>?_⟩
  by_cases hji:j=i
  ·subst hji;exact hy.wpOp hi trivial ⟨fun h=>absurd hZ h,H⟩
  ·have h1:=H.2 j (ready_mono hj hji)
   obtain ⟨hjun,oj,hoj,hall⟩:=mem_ready.1 hj
   have hnot:∀ e ∈ oj.after,Region.binds md e=true→e.on≠i:=fun e he hb heq=>by
    have h1:=hall e he hb
    have h0:=(mem_ready.1 hr).1
    rw [heq] at h1
    rcases Nat.lt_or_ge i listed.size with h' | h'
    ·simp [h'] at h0 h1;rw [h0] at h1;cases h1
    ·simp [Array.getElem?_eq_none h'] at h1
   have h2:=wpOp_putIf hoj (hfree j oj hoj hji hjun hnot) (fun cs b=>hsel i oi cs b hi) (fun cs b=>hsel j oj cs b hoj) hQ hy h1
   have hfree':∀ k ok,ops[k]? = some ok→k≠i→(listed.setIfInBounds j true).getD k true=false→
     (∀ e ∈ ok.after,Region.binds md e=true→e.on≠i)→oi.apart ops ok=true:=fun k ok hk hki hun hno=>by
    refine hfree k ok hk hki ?_ hno
    by_cases hjk:j=k
    ·subst hjk;exact hjun
    ·rw [getD_set_ne true hjk] at hun;exact hun
   refine wpOp_mono (fun a' w' h3=>⟨fun hn=>h3.2.1 hn,ih (listed.setIfInBounds j true) a' w' hfree' (ready_mono hr (Ne.symm hji)) h3.1 ?_⟩) h2
   rw [Array.setIfInBounds_comm _ _ hji]
   exact h3.2.2
def heldsY (md:Region.Mode) (ops:Array Oper) (Z:List Nat):List Nat→Array Bool→Bool
 | [],_=>true
 | i::is,listed=>(Region.ready md ops listed).contains i && Region.free md ops listed i && (Z.all fun z=>depB md ops ops.size z i || listed.getD z false) && heldsY md ops Z is (listed.setIfInBounds i true)
def freesY (md:Region.Mode) (ops:Array Oper) (Z:List Nat):List Nat→Array Bool→Bool
 | [],_=>true
 | i::is,listed=>(Region.ready md ops listed).contains i && Region.free md ops listed i && Z.contains i && freesY md ops Z is (listed.setIfInBounds i true)
theorem zby:∀ (is:List Nat) {listed:Array Bool},Closed md ops listed→freesY md ops Z is listed=true→Closed md ops (marked is listed)
 | [],_,h,_=>h
 | i::is,listed,h,hB=>by
  simp only [freesY,Bool.and_eq_true] at hB
  exact zby is (h.next (by simpa using hB.1.1.1)) hB.2
theorem zdq (hs:Region.noSelect ops=true) (hQ:∀ c a w,¬ Q (.panic c) a w) (w:World) (hS:S w) (fuel:Nat) (K:Act→Prop):∀ (is:List Nat) (listed:Array Bool) (a:Act),Closed md ops listed→heldsY md ops Z is listed=true→
  heldWalk P ops S K is a→(∀ a',K a'→wpAnyY P md ops Q S Z fuel (marked is listed) a' w)→wpAnyY P md ops Q S Z (fuel+is.length) listed a w
 | [],listed,a,_,hB,h,hK=>hK a h
 | i::is,listed,a,hcl,hB,h,hK=>by
  simp only [heldsY,Bool.and_eq_true] at hB
  obtain ⟨o,v,ho,hy,hW⟩:=h
  have hr:i ∈ Region.ready md ops listed:=by simpa using hB.1.1.1
  exact zfl ho (Region.noSelect_spec hs) (fun c a w h=>absurd h (hQ _ _ _)) _ _ _ _ hcl (fun z hzz=>by simpa using List.all_eq_true.1 hB.1.2 z hzz) (Region.free_spec ho hB.1.1.2) hr hy hS (zdq hs hQ w hS fuel K is _ _ (hcl.next hr) hB.2 hW hK)
theorem zt (hs:Region.noSelect ops=true) (hQ:∀ c a w,¬ Q (.panic c) a w) (w:World) (fuel:Nat) (K:Act→Prop):∀ (is:List Nat) (listed:Array Bool) (a:Act),freesY md ops Z is listed=true→
  heldWalk P ops (fun _=>True) K is a→(∀ a',K a'→wpAnyY P md ops Q S Z fuel (marked is listed) a' w)→wpAnyY P md ops Q S Z (fuel+is.length) listed a w
 | [],listed,a,hB,h,hK=>hK a h
 | i::is,listed,a,hB,h,hK=>by
  simp only [freesY,Bool.and_eq_true] at hB
  obtain ⟨o,v,ho,hy,hW⟩:=h
  have hr:i ∈ Region.ready md ops listed:=by simpa using hB.1.1.1
  exact zgf ho (Region.noSelect_spec hs) (fun c a w h=>absurd h (hQ _ _ _)) (by simpa using hB.1.2) _ _ _ _ (Region.free_spec ho hB.1.1.2) hr hy (zt hs hQ w fuel K is _ _ hB.2 hW hK)
theorem zfx:Closed md ops (Array.replicate ops.size false):=fun m om hm hl=>by
 have:=(Array.getElem?_eq_some_iff.1 hm).1
 simp [this] at hl
theorem zo {id:Nat} {a:Act} {w:World} {L:List Oper} (fs is:List Nat) (Z:List Nat) (fuel:Nat) (hm:P.follows .mixedOrders=true) (hs:Region.noSelect L.toArray=true) (hF:freesY .any L.toArray Z fs (Array.replicate L.toArray.size false)=true) (hB:heldsY .any L.toArray Z is (marked fs (Array.replicate L.toArray.size false))=true) (hl:fuel+is.length+fs.length=L.length) (hS:S w.drew) (K:Act→Prop)
  (h:heldWalk P L.toArray (fun _=>True) (fun a'=>heldWalk P L.toArray S K is a') fs a) (hK:∀ a',K a'→wpAnyY P .any L.toArray (NoPanic Q) S Z fuel (marked is (marked fs (Array.replicate L.toArray.size false))) a' w.drew):(Code.region id L.toArray true).wp P Q a w:=by
 have key:=zt (md:=.any) (Q:=NoPanic Q) (S:=S) (Z:=Z) hs (fun c a w h=>h) w.drew (fuel+is.length) (fun a'=>heldWalk P L.toArray S K is a') fs _ a hF h
  (fun a' ha'=>zdq (md:=.any) (Q:=NoPanic Q) (S:=S) (Z:=Z) hs (fun c a w h=>h) w.drew hS fuel K is _ a' (zby fs zfx hF) hB ha' hK)
 rw [hl] at key
 have e:L.toArray.size=L.length:=by simp
 refine wp_region_noPanic (wp_region_any hm ?_)
 rw [e] at key
 rw [e]
 exact zdw _ _ _ _ key
theorem treeY {rs:List Nat} {fuel:Nat} {listed:Array Bool} {a:Act} {w:World} (hr:Region.ready md ops listed=rs) (hne:rs≠[]) (h:∀ i ∈ rs,wpOp P ops Q i (fun a' w'=>(i ∉ Z→S w')∧wpAnyY P md ops Q S Z fuel (listed.setIfInBounds i true) a' w') a w):wpAnyY P md ops Q S Z (fuel+1) listed a w:=
 ⟨fun h0=>absurd (hr.symm.trans h0) hne,fun i hi=>h i (hr ▸ hi)⟩
def lineY (P:Go.Program) (ops:Array Oper) (Q:Exit→Act→World→Prop) (S:World→Prop) (Z:List Nat):List Nat→Act→World→Prop
 | [],a,w=>Q .normal a w
 | j::js,a,w=>wpOp P ops Q j (fun a' w'=>(j ∉ Z→S w')∧lineY P ops Q S Z js a' w') a w
theorem zs:∀ (js:List Nat) (listed:Array Bool) (a:Act) (w:World),linesB md ops js listed=true→lineY P ops Q S Z js a w→wpAnyY P md ops Q S Z js.length listed a w
 | [],listed,a,w,hB,h=>⟨by simpa [linesB] using hB,h⟩
 | j::js,listed,a,w,hB,h=>by
  simp only [linesB,Bool.and_eq_true] at hB
  have hr:Region.ready md ops listed=[j]:=by simpa using hB.1
  refine ⟨fun h0=>absurd (hr.symm.trans h0) (by simp),fun i hi=>?_⟩
  obtain rfl:i=j:=by rw [hr] at hi;simpa using hi
  exact wpOp_mono (fun a' w' h'=>⟨h'.1,zs js _ a' w' hB.2 h'.2⟩) h
theorem zi {L:List Oper} {j:Nat} {js:List Nat} {a:Act} {w w':World} {o:Oper} {v:Value} (d:Option Tmp) (ho:L[j]? = some o) (hd:o.dst=d) (hg:o.guard=none)
  (hr:(execOp a.eval o).run P w=.ok (.value v) w') (hS:j ∉ Z→S w') (h:lineY P L.toArray Q S Z js (a.put d v) w'):lineY P L.toArray Q S Z (j::js) a w:=ze d ho hd hg hr ⟨hS,h⟩
theorem zdt {L:List Oper} {j:Nat} {js:List Nat} {a:Act} {w w':World} {o:Oper} (d:Option Tmp) (ho:L[j]? = some o) (hd:o.dst=d) (hg:o.guard=none)
  (hr:(execOp a.eval o).run P w=.ok .skip w') (hS:j ∉ Z→S w') (h:lineY P L.toArray Q S Z js (a.put d undef) w'):lineY P L.toArray Q S Z (j::js) a w:=by
 subst hd
 have hw:Region.wanted o (yielded L.toArray a.tmps)=true:=by simp [Region.wanted,hg]
 have ho':L.toArray[j]? = some o:=by simpa using ho
 unfold lineY wpOp
 simp only [ho',hw,if_true]
 refine .inl ?_
 unfold Oper.wp
 rw [hr]
 exact ⟨hS,h⟩
end
section
variable {P : Go.Program} {ops : Array Oper} {md : Region.Mode} {S : World → Prop} {Q : Exit → Act → World → Prop} {Z : List Nat}
def wpAnyT (P:Go.Program) (md:Region.Mode) (ops:Array Oper) (Q:Exit→Act→World→Prop) (S:World→Prop) (Z:List Nat) (T:Act→World→Prop) (js:List Nat):Nat→Array Bool→Act→World→Prop
 | 0,listed,a,w=>linesB md ops js listed=true∧T a w
 | fuel+1,listed,a,w=>Region.ready md ops listed≠[]∧∀ i ∈ Region.ready md ops listed,wpOp P ops Q i (fun a' w'=>(i ∉ Z→S w')∧wpAnyT P md ops Q S Z T js fuel (listed.setIfInBounds i true) a' w') a w
theorem cutY {T:Act→World→Prop} {js:List Nat} (ht:∀ a w,T a w→lineY P ops Q S Z js a w):∀ (fuel:Nat) (listed:Array Bool) (a:Act) (w:World),wpAnyT P md ops Q S Z T js fuel listed a w→wpAnyY P md ops Q S Z (js.length+fuel) listed a w
 | 0,listed,a,w,h=>zs js listed a w h.1 (ht a w h.2)
 | fuel+1,listed,a,w,h=>⟨fun h0=>absurd h0 h.1,fun i hi=>wpOp_mono (fun a' w' h'=>⟨h'.1,cutY ht fuel _ a' w' h'.2⟩) (h.2 i hi)⟩
theorem nodeT {T:Act→World→Prop} {js rs:List Nat} {fuel:Nat} {listed:Array Bool} {a:Act} {w:World} (hr:Region.ready md ops listed=rs) (hne:rs≠[]) (h:∀ i ∈ rs,wpOp P ops Q i (fun a' w'=>(i ∉ Z→S w')∧wpAnyT P md ops Q S Z T js fuel (listed.setIfInBounds i true) a' w') a w):wpAnyT P md ops Q S Z T js (fuel+1) listed a w:=
 ⟨fun h0=>absurd (hr.symm.trans h0) hne,fun i hi=>h i (hr ▸ hi)⟩
end
theorem nameY {P:Go.Program} {ops:Array Oper} {md:Region.Mode} {S:World→Prop} {Q:Exit→Act→World→Prop} {Z:List Nat} {f:Nat} {l:Array Bool} {a:Act} {w:World} (h:∀ a0,a=a0→wpAnyY P md ops Q S Z f l a0 w):wpAnyY P md ops Q S Z f l a w:=h a rfl
end Dk
