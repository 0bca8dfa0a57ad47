import Derived.Test.YtpnajphbjfehnaaGreatLn18
import Derived.Shelf.Slices.Delete
set_option linter.unusedSimpArgs false
set_option linter.unusedVariables false
set_option linter.unnecessarySimpa false
set_option maxHeartbeats 8000000
set_option maxRecDepth 100000
namespace Go.Proofs
open Go.Shelf
def Tryz.zf7:Go.Shelf.Ren:=⟨fun | 108=>227 | n=>n,fun | 28=>23 | 3=>3 | 0=>0 | 4=>4 | n=>n,fun | n=>n⟩
theorem Tryz.lays108:Go.Proofs.Lays.n108 Tryz.prog Tryz.zf7:={
 mixed:=by kernel_rfl
 f108:=Tryz.func227.trans (congrArg some (by kernel_rfl))
 t0:=Tryz.underlying0
 a0:=Tryz.isAgg0
 z0:=Tryz.sizeOf0
 v0:=Tryz.zeroValue0
 t3:=Tryz.underlying3
 a3:=Tryz.isAgg3
 z3:=Tryz.sizeOf3
 v3:=Tryz.zeroValue3
 t4:=Tryz.underlying4
 a4:=Tryz.isAgg4
 z4:=Tryz.sizeOf4
 v4:=Tryz.zeroValue4
 t28:=Tryz.underlying23
 a28:=Tryz.isAgg23
 z28:=Tryz.sizeOf23
 v28:=Tryz.zeroValue23 }
def Tryz.zf6:Go.Shelf.Ren:=⟨fun | 107=>205 | 108=>227 | n=>n,fun | 28=>23 | 3=>3 | 4=>4 | 0=>0 | n=>n,fun | n=>n⟩
theorem Tryz.lays107:Go.Proofs.Lays.n107 Tryz.prog Tryz.zf6:={
 mixed:=by kernel_rfl
 f107:=Tryz.func205.trans (congrArg some (by kernel_rfl))
 f108:=Tryz.func227.trans (congrArg some (by kernel_rfl))
 t0:=Tryz.underlying0
 a0:=Tryz.isAgg0
 z0:=Tryz.sizeOf0
 v0:=Tryz.zeroValue0
 t3:=Tryz.underlying3
 a3:=Tryz.isAgg3
 z3:=Tryz.sizeOf3
 v3:=Tryz.zeroValue3
 t4:=Tryz.underlying4
 a4:=Tryz.isAgg4
 z4:=Tryz.sizeOf4
 v4:=Tryz.zeroValue4
 t28:=Tryz.underlying23
 a28:=Tryz.isAgg23
 z28:=Tryz.sizeOf23
 v28:=Tryz.zeroValue23 }
def Tryz.zeg:Go.Shelf.Ren:=⟨fun | 23=>207 | n=>n,fun | 22=>23 | 3=>3 | 4=>4 | 0=>0 | n=>n,fun | n=>n⟩
theorem Tryz.laysNm223:Go.Proofs.Lays2.n23 Tryz.prog Tryz.zeg:={
 mixed:=by kernel_rfl
 f23:=Tryz.func207.trans (congrArg some (by kernel_rfl))
 t0:=Tryz.underlying0
 a0:=Tryz.isAgg0
 z0:=Tryz.sizeOf0
 v0:=Tryz.zeroValue0
 t3:=Tryz.underlying3
 a3:=Tryz.isAgg3
 z3:=Tryz.sizeOf3
 v3:=Tryz.zeroValue3
 t4:=Tryz.underlying4
 a4:=Tryz.isAgg4
 z4:=Tryz.sizeOf4
 v4:=Tryz.zeroValue4
 t22:=Tryz.underlying23
 a22:=Tryz.isAgg23
 z22:=Tryz.sizeOf23
 v22:=Tryz.zeroValue23
 i3:=by kernel_rfl }
end Go.Proofs
namespace Go.Proofs.YtpnajphbjfehnaaGreat
open Go.RowKit
theorem Index_any (A:Option Addr) (L C:Nat) (xs:List Int) (x:Int) (w:World) (h:Dk.SlI w.heap.size w A L C xs) :
  Calls Tryz.prog 227 #[.slice A L C,.int .i64 x] w fun e w'=>e=.returned (.int .i64 (Lib.idxOf xs x))∧w'=w:=by
 have hl:=h.len
 have hc:=h.cap
 have hm:=h.max
 unfold maxLen at hm
 by_cases h0:0 < L
 ·obtain ⟨b,o,rfl,hb,hcell⟩:=h.cells h0
  have c:=Any.slices_Index_int Tryz.lays108 b o L C xs x w (by omega) (by omega) (fun j hj=>hcell j (by omega))
  rw [← hl,List.take_length] at c
  rw [← hl]
  exact c
 ·obtain rfl:L=0:=by omega
  obtain rfl:xs=[]:=List.eq_nil_of_length_eq_zero hl
  exact Any.slices_Index_int_empty Tryz.lays108 A C x w
theorem zce (A:Option Addr) (L C:Nat) (xs:List Int) (x:Int) (w:World) (h:Dk.SlI w.heap.size w A L C xs) :
  Calls Tryz.prog 205 #[.slice A L C,.int .i64 x] w fun e w'=>e=.returned (.bool (xs.contains x))∧w'=w:=by
 have hl:=h.len
 have hc:=h.cap
 have hm:=h.max
 unfold maxLen at hm
 by_cases h0:0 < L
 ·obtain ⟨b,o,rfl,hb,hcell⟩:=h.cells h0
  have c:=Any.slices_Contains_int Tryz.lays107 b o L C xs x w (by omega) (by omega) (fun j hj=>hcell j (by omega))
  rw [← hl,List.take_length] at c
  rw [← hl]
  exact c
 ·obtain rfl:L=0:=by omega
  obtain rfl:xs=[]:=List.eq_nil_of_length_eq_zero hl
  exact Any.slices_Contains_int_empty Tryz.lays107 A C x w
theorem zhc (B:Nat) (v:Value) (xs:List Int) (k:Nat) (w:World) (h:w.ownsRow B 3 1 v xs.length (Dk.is xs)) (hk:k < xs.length) :
  Calls Tryz.prog 207 #[v,.int .i64 (k:Int),.int .i64 ((k:Int)+1)] w fun e w'=>∃ v',e=.returned v'∧w'.ownsRow B 3 1 v' (xs.eraseIdx k).length (Dk.is (xs.eraseIdx k))∧w.grownBy w' v.ownBlock∧Dk.From w v v':=by
 have hv:v≠.slice none 0 0:=by
  rintro rfl
  obtain ⟨_,⟨_,h0⟩ | ⟨g,cap,cur,e,_⟩⟩:=h
  ·omega
  ·cases e
 obtain ⟨g,cap,rfl,hb,hg,hn,hm,_,hH⟩:=Lib.holds_of_ownsRow (enc:=Value.int .i64) h hv
 have hm':=hm
 unfold maxLen at hm'
 have c:=Any.slices_Delete_int Tryz.laysNm223 g 0 cap k (k+1) xs w hH hn (by omega) (by omega) (by omega)
 refine Calls.mono c ?_
 rintro e w' ⟨rfl,q,rfl⟩
 have hel:(xs.eraseIdx k).length=xs.length - 1:=by rw [List.length_eraseIdx,if_pos hk]
 refine ⟨_,rfl,?_,?_,Dk.From.same _ rfl⟩
 ·have hy:(xs.take k++xs.drop (k+1)++List.replicate (k+1 - k) 0).length=xs.length:=by simp;omega
  have o:=Lib.ownsRow_putRow (q:=q) (k:=xs.length - 1) h hy (by omega)
  rw [hel,show xs.length - (k+1 - k)=xs.length - 1 by omega]
  have ht:(xs.take k++xs.drop (k+1)++List.replicate (k+1 - k) 0).take (xs.length - 1)=xs.eraseIdx k:=by
   rw [List.eraseIdx_eq_take_drop_succ,List.take_append_of_le_length (by simp;omega),List.take_of_length_le (by simp;omega)]
  rw [ht] at o
  exact o
 ·exact ⟨rfl,rfl,rfl,by simp [Sort.ahead],fun j hj hr=>by
   simp [Sort.putRow,Sort.mapBlock,Sort.ahead,Array.getElem?_modify,Value.ownBlock] at hr ⊢
   exact fun e=>absurd e.symm hr⟩
end Go.Proofs.YtpnajphbjfehnaaGreat
namespace Dk
open Go Go.RowKit
def lim (n:Int):Nat:=if n < 0 then 0 else if 4 < n then 4 else n.toNat
theorem lim_eq (n:Int):min (max n 0) 4=(lim n:Int):=by
 unfold lim
 split
 ·omega
 ·split <;> omega
theorem zg1 (n:Int):lim n≤4:=by
 unfold lim
 split
 ·omega
 ·split <;> omega
def cl (x:Int):Int:=if x < 0 then 0 else if 1048576 < x then 1048576 else x
theorem cl_eq (x:Int):min (max x 0) 1048576=cl x:=by
 unfold cl
 split
 ·omega
 ·split <;> omega
theorem cl_ok (x:Int):0≤cl x∧cl x≤1048576:=by
 unfold cl
 split
 ·omega
 ·split <;> omega
theorem len_eq (L:Nat):min (max (L:Int) 0) 4=((min L 4:Nat):Int):=by omega
def start (m c:Int) (xs:List Int):St:=⟨List.replicate (lim m) 0,List.replicate (lim m) false,List.replicate (lim m) [],List.replicate (lim c) [],(xs.take 4).map cl,List.replicate (min xs.length 4) []⟩
theorem zcq {α:Type}:∀ n,lens (List.replicate n ([]:List α))=0
 | 0=>rfl
 | n+1=>by
  have:=zcq (α:=α) n
  unfold lens at this ⊢
  rw [List.replicate_succ,List.map_cons,List.sum_cons,this]
  rfl
theorem zd5 {α:Type} (g:α→Int) (x:Int):∀ n,cts g x (List.replicate n ([]:List α))=0
 | 0=>rfl
 | n+1=>by
  have:=zd5 g x n
  unfold cts at this ⊢
  rw [List.replicate_succ,List.map_cons,List.sum_cons,this]
  rfl
theorem start_ok (m c:Int) (xs:List Int) (hx:∀ x ∈ xs,i64 x):Ok (start m c xs) 0:=by
 have h1:=zg1 m
 have h2:=zg1 c
 refine ⟨by simp [start],by simp [start],by simp [start];omega,by simp [start];omega,fun x hx=>?_,fun l hl x hx=>?_,fun l hl x hx=>?_,fun l hl p hp=>?_,fun x hx=>?_,?_⟩
 ·rw [List.eq_of_mem_replicate hx];exact ⟨by decide,by decide⟩
 ·rw [List.eq_of_mem_replicate hl] at hx;simp at hx
 ·rw [List.eq_of_mem_replicate hl] at hx;simp at hx
 ·rw [List.eq_of_mem_replicate hl] at hp;simp at hp
 ·obtain ⟨y,_,rfl⟩:=List.mem_map.1 hx
  exact cl_ok y
 ·show lens _+lens _+lens _≤0
  rw [start,zcq,zcq,zcq]
  exact Nat.le_refl _
theorem zgr {α:Type} (n i:Nat):(List.replicate n ([]:List α)).getD i []=[]:=by
 rw [List.getD_eq_getElem?_getD,List.getElem?_replicate]
 split <;> rfl
theorem zh8 (m c:Int) (xs:List Int):Fair (start m c xs):=by
 refine ⟨fun x=>?_,fun n _ _=>zgr _ _,fun n _ _=>zgr _ _⟩
 show cts _ _ _+cts _ _ _+cts _ _ _≤1
 rw [start,zd5,zd5,zd5]
 exact Nat.zero_le _
theorem zh2 {w:World} {base b n cap s:Nat} {cur:Array Value} {t:TypeId} {vs:List Value} (h:Dk.Box w b cur t) (hb:base≤b) (hc:cur.size=cap*s) (hm:cap≤maxLen) (hn:vs.length=n*s) (hl:n≤cap) (hv:∀ j,j < n*s→cur[j]? = vs[j]?):w.ownsRow base t s (.slice (some ⟨b,0,none⟩) n cap) n vs:=by
 refine ⟨hn,.inr ⟨b,cap,cur,rfl,hb,h.heap,hl,hm,hc,?_⟩⟩
 apply List.ext_getElem?
 intro j
 rw [List.getElem?_take]
 by_cases hj:j < n*s
 ·rw [if_pos hj,Array.getElem?_toList];exact hv j hj
 ·rw [if_neg hj,List.getElem?_eq_none (by omega)]
section
variable {W w w' : World} {t t' : Thing} {ts us us1 us2 : List Thing} {e : TypeId} {q : Nat} {v : Value}
theorem zc7 {B n k:Nat} {xs:List Value} (hr:w.ownsRow B e q v n xs) (hk:k < n*q):∃ g C x,v=.slice (some ⟨g,0,none⟩) n C∧n≤C∧C≤maxLen∧xs[k]? = some x∧w.cell? ⟨g,k,none⟩=some x∧w.frozen? ⟨g,k,none⟩=false∧∀ y,(w.setCell ⟨g,k,none⟩ y).ownsRow B e q v n (xs.set k y):=by
 obtain ⟨hl,⟨_,h0⟩ | ⟨g,cap,cur,rfl,hb,hgg,h1,h2,h3,h4⟩⟩:=id hr
 ·rw [h0] at hk;omega
 have hx:xs[k]? = some xs[k]:=List.getElem?_eq_getElem (by omega)
 have hc:=hr.cells (g:=g) rfl k _ hx
 rw [Addr.add_lit,Nat.zero_add] at hc
 have bx:Box w g cur e:=⟨hgg⟩
 have hle:n*q≤cap*q:=Nat.mul_le_mul_right _ h1
 refine ⟨g,cap,_,rfl,h1,h2,hx,hc,bx.frozen k,fun y=>?_⟩
 refine zh2 (bx.set k y) hb (by rw [Array.size_setIfInBounds];exact h3) h2 (by rw [List.length_set];exact hl) h1 (fun i hi=>?_)
 rw [Array.getElem?_setIfInBounds]
 have hi':cur[i]? = xs[i]?:=by
  rw [← h4,List.getElem?_take,if_pos (by omega),Array.getElem?_toList]
 by_cases hij:k=i
 ·subst hij
  rw [if_pos rfl,if_pos (by omega),List.getElem?_set_self (by omega)]
 ·rw [if_neg hij,hi',List.getElem?_set_ne hij]
theorem Sep.cellq {n k:Nat} {xs:List Value} (h:Sep W w (us1++rowOf e q v n xs::us2)) (hk:k < n*q):∃ g C x,v=.slice (some ⟨g,0,none⟩) n C∧n≤C∧C≤maxLen∧xs[k]? = some x∧w.cell? ⟨g,k,none⟩=some x∧w.frozen? ⟨g,k,none⟩=false∧∀ y,Sep W (w.setCell ⟨g,k,none⟩ y) (us1++rowOf e q v n (xs.set k y)::us2):=by
 have hr:=h.row (e:=e) (s:=q) (v:=v) (n:=n) (xs:=xs) (by simp)
 obtain ⟨g,C,x,ev,h1,h2,hx,hc,hf,hs⟩:=zc7 hr hk
 refine ⟨g,C,x,ev,h1,h2,hx,hc,hf,fun y=>?_⟩
 refine Sep.turn (t:=rowOf e q v n xs) (t':=rowOf e q v n (xs.set k y)) h ?_ (zx (hs y) (Nat.zero_le _)) (fun j hj=>.inl hj)
 subst ev
 exact (Away.refl (rowOf e q (.slice (some ⟨g,0,none⟩) n C) n xs).own w).set (b:=g) (.inl rfl) _ _
theorem Sep.cellg {n k g C:Nat} {x:Value} {xs:List Value} (h:Sep W w (us1++rowOf e q (.slice (some ⟨g,0,none⟩) n C) n xs::us2)) (hl:xs.length=n*q) (hx:xs[k]? = some x):w.cell? ⟨g,k,none⟩=some x∧w.frozen? ⟨g,k,none⟩=false∧∀ y,Sep W (w.setCell ⟨g,k,none⟩ y) (us1++rowOf e q (.slice (some ⟨g,0,none⟩) n C) n (xs.set k y)::us2):=by
 obtain ⟨g',C',x',ev,h1,h2,hx',hc,hf,hs⟩:=h.cellq (k:=k) (by rw [← hl];exact zcb hx)
 cases ev
 rw [hx] at hx'
 cases hx'
 exact ⟨hc,hf,hs⟩
theorem Sep.addRow {n:Nat} {xs:List Value} (h:Sep W w ts) (b:Below w.heap.size w w') (hr:w'.ownsRow w.heap.size e q v n xs):Sep W w' (rowOf e q v n xs::ts):=
 h.add b (zx hr (Nat.zero_le _)) (fun k hk=>(World.ownsRow.lt hr k hk).1)
end
end Dk
namespace Go.Proofs.YtpnajphbjfehnaaGreat
open Go.RowKit Go.Maps
theorem law3:Keyed Tryz.prog 3:=int_keyed Tryz.underlying3
theorem wf_of {x:Int} (h:Dk.i64 x):(Lit.int .i64 x).wf=true:=by
 unfold Dk.i64 at h
 exact WalkArith.wf_i64 (by omega)
def Told (w:World) (bm:Nat) (L:List (Int × Int)):Prop:=∃ D:DataW Unit,w.ownsMap Tryz.prog 3 (plainElem Tryz.prog 3) bm L.length D∧Dk.Tells D L∧Maps.size D=L.length
theorem Told.lt {w:World} {bm:Nat} {L:List (Int × Int)} (h:Told w bm L):bm < w.heap.size:=by
 obtain ⟨D,h,_⟩:=h
 exact h.lt
theorem Told.of_block {w w':World} {bm:Nat} {L:List (Int × Int)} (h:Told w bm L) (e:w'.heap[bm]? = w.heap[bm]?):Told w' bm L:=by
 obtain ⟨D,⟨es,clock,hb,r⟩,ht⟩:=h
 exact ⟨D,⟨es,clock,e.trans hb,r⟩,ht⟩
def mapOf (bm:Nat) (L:List (Int × Int)):Dk.Thing:={
 own:=fun k=>k=bm
 holds:=fun w=>Told w bm L
 local_:=fun w w' h hk=>h.of_block (hk bm rfl)
 lt:=fun w h k hk=>hk ▸ h.lt }
theorem Told.put {w:World} {bm:Nat} {L:List (Int × Int)} (h:Told w bm L) {x c:Int} (hi:Dk.i64 x) (hc:Dk.i64 c) (hx:x ∉ Dk.keysOf L) (hl:L.length≤1000) :
  ∃ w',(Instr.mapUpdate 165 (.map (some bm)) (.int .i64 x) (.int .i64 c)).run Tryz.prog w=.ok () w'∧Told w' bm (L++[(x,c)])∧w.grownBy w' (some bm):=by
 obtain ⟨D,ho,ht,hs⟩:=h
 obtain ⟨w',hr,ho',hg⟩:=ho.update law3 Tryz.underlying165 (by unfold maxLen;omega) (keyOf_int_mk Tryz.underlying3 (wf_of hi)) (plainElem_int Tryz.underlying3 (wf_of hc))
 refine ⟨w',hr,⟨_,by rw [List.length_append];exact ho',ht.put hx,?_⟩,hg⟩
 rw [Maps.size_put (ho.tidy law3),ht.no x hx]
 simp [hs]
theorem Told.made (w:World):Told (w.alloc (.map #[] 0)) w.heap.size []:=⟨.map [],World.ownsMap_made w Tryz.prog 3 _,Dk.Tells.empty,rfl⟩
end Go.Proofs.YtpnajphbjfehnaaGreat
namespace Dk
open Go Go.RowKit
theorem Sep.appendK {W w:World} {us1 us2:List Thing} {P:Go.Program} {ty e:TypeId} {z:Value} {s bytes n:Nat} {v:Value} {xs:List Value} (K:SlK P ty e z s bytes) (h:Sep W w (us1++rowOf e s v n xs::us2)) (news:List Value) (hs:news.length=s) (hx:∀ u ∈ news,u.oneCell'=true) (hl:n≤10000) :
  ∃ v' w',(Builtin.append_ #[ty,ty] ty #[v,.slice (some ⟨w.heap.size,0,none⟩) 1 1]).run P (w.alloc (.cells news.toArray e))=.ok v' w'∧Sep W w' (us1++rowOf e s v' (n+1) (xs++news)::us2)∧v'≠.slice none 0 0:=by
 obtain ⟨V,eV⟩:∃ V,V=w.alloc (.cells news.toArray e):=⟨_,rfl⟩
 have uV:Below w.heap.size w V:=by rw [eV];exact Dk.zb (Below.refl _ _) _
 have hV:=h.below uV
 have hr:=hV.row (e:=e) (s:=s) (v:=v) (n:=n) (xs:=xs) (by simp)
 have hbx:Box V w.heap.size news.toArray e:=by rw [eV];exact Box.new w _ _
 obtain ⟨v',w',hrun,ho,hg,hf,hnil⟩:=K.append W.heap.size ty v xs n V hr ⟨w.heap.size,0,none⟩ 1 1 news (by omega) (fun j u hj=>by
  rw [Addr.add_lit,Nat.zero_add,hbx.cell]
  simpa using hj) hx (by omega) hV.out.size
 rw [← eV]
 exact ⟨v',w',hrun,hV.turn (Away.zar hg (fun k hk=>.inl hk)) (zx ho (Nat.zero_le _)) (fun k hk=>hf k hk),fun e0=>by simpa using hnil.1 e0⟩
theorem Sep.nil {W w:World} {ts:List Thing} (h:Sep W w ts) (e:TypeId) (s:Nat):Sep W w (rowOf e s (.slice none 0 0) 0 []::ts):=
 h.add (Below.refl _ _) (World.ownsRow_nil _ _ _ _) (fun k hk=>by simp [rowOf,Value.ownBlock] at hk)
end Dk
namespace Go.Proofs.YtpnajphbjfehnaaGreat
open Go.RowKit
structure Mx where
 u:Value
 xs:List Int
 owner:Int
 owned:Bool
structure Cx where
 u:Value
 xs:List (Int × Int)
 bm:Nat
structure Sx where
 u:Value
 xs:List Int
 count:Int
def Mx.cells (m:Mx):List Value:=[m.u,.int .i64 m.owner,.bool m.owned]
def Cx.cells (c:Cx):List Value:=[c.u,.map (some c.bm)]
def Sx.cells (s:Sx):List Value:=[s.u,.int .i64 s.count]
theorem Mx.len (m:Mx):m.cells.length=3:=rfl
theorem Cx.len (c:Cx):c.cells.length=2:=rfl
theorem Sx.len (s:Sx):s.cells.length=2:=rfl
def Mx.row (m:Mx):Dk.Thing:=Dk.rowOf 3 1 m.u m.xs.length (Dk.is m.xs)
def Cx.row (c:Cx):Dk.Thing:=Dk.rowOf 3 1 c.u c.xs.length (Dk.is (c.xs.map Prod.fst))
def Cx.mp (c:Cx):Dk.Thing:=mapOf c.bm c.xs
def Sx.row (s:Sx):Dk.Thing:=Dk.rowOf 3 1 s.u s.xs.length (Dk.is s.xs)
def hdM (v:Value) (ms:List Mx):Dk.Thing:=Dk.rowOf 335 3 v ms.length (ms.flatMap Mx.cells)
def hdC (v:Value) (cs:List Cx):Dk.Thing:=Dk.rowOf 169 2 v cs.length (cs.flatMap Cx.cells)
def hdS (v:Value) (ss:List Sx):Dk.Thing:=Dk.rowOf 171 2 v ss.length (ss.flatMap Sx.cells)
def bxG (b:Nat) (vm vc vs:Value):Dk.Thing:=Dk.boxOf b #[vm,vc,vs] 164
def gts (b:Nat) (vm vc vs:Value) (ms:List Mx) (cs:List Cx) (ss:List Sx):List Dk.Thing:=
 bxG b vm vc vs::hdM vm ms::hdC vc cs::hdS vs ss::(ms.map Mx.row++(cs.map Cx.row++(cs.map Cx.mp++ss.map Sx.row)))
structure Like (S:Dk.St) (ms:List Mx) (cs:List Cx) (ss:List Sx):Prop where
 len:ms.length=S.owner.length
 held:ms.map Mx.owned=S.held
 wait:ms.map Mx.xs=S.wait
 own:∀ (i:Nat) m,ms[i]? = some m→m.owner=if m.owned then S.owner.getD i 0 else 0
 conds:cs.map Cx.xs=S.conds
 count:ss.map Sx.count=S.count
 downs:ss.map Sx.xs=S.downs
 fair:Dk.Fair S
def G0 (b:Nat) (S:Dk.St) (ts:List Dk.Thing):Prop:=∃ vm vc vs ms cs ss,ts=gts b vm vc vs ms cs ss∧Like S ms cs ss
open Go.RowKit Go.Lib
section
variable {S : Dk.St} {k i : Nat} {ms : List Mx} {cs : List Cx} {ss : List Sx} {m : Mx} {c : Cx} {s : Sx}
theorem getC (h:cs[i]? = some c):(cs.flatMap Cx.cells)[i*2]? = some c.u∧(cs.flatMap Cx.cells)[i*2+1]? = some (.map (some c.bm)):=
 ⟨Dk.flat_get Cx.len cs i 0 c h (by omega),Dk.flat_get Cx.len cs i 1 c h (by omega)⟩
theorem getS (h:ss[i]? = some s):(ss.flatMap Sx.cells)[i*2]? = some s.u∧(ss.flatMap Sx.cells)[i*2+1]? = some (.int .i64 s.count):=
 ⟨Dk.flat_get Sx.len ss i 0 s h (by omega),Dk.flat_get Sx.len ss i 1 s h (by omega)⟩
theorem setS1 (h:ss[i]? = some s) (y:Int):(ss.flatMap Sx.cells).set (i*2+1) (.int .i64 y)=(ss.set i ⟨s.u,s.xs,y⟩).flatMap Sx.cells:=Dk.zea Sx.len ss i 1 s _ _ h (by omega) rfl
theorem Like.atM (l:Like S ms cs ss) (hi:i < S.owner.length):∃ m,ms[i]? = some m∧S.wait.getD i []=m.xs∧S.held.getD i false=m.owned∧(m.owned=true→m.owner=S.owner.getD i 0)∧(m.owned=false→m.owner=0):=by
 obtain ⟨m,hm⟩:=Dk.zjy (l:=ms) (i:=i) (by rw [l.len];exact hi)
 have ho:=l.own i m hm
 exact ⟨m,hm,Dk.getD_some (by rw [← l.wait,List.getElem?_map,hm];rfl) _,Dk.getD_some (by rw [← l.held,List.getElem?_map,hm];rfl) _,fun h=>by rw [ho,if_pos h],fun h=>by rw [ho,if_neg (by rw [h];simp)]⟩
theorem Like.atS (l:Like S ms cs ss) (hi:i < S.count.length):∃ s,ss[i]? = some s∧S.downs.getD i []=s.xs∧S.count.getD i 0=s.count:=by
 obtain ⟨m,hm⟩:=Dk.zjy (l:=ss) (i:=i) (by rw [← List.length_map (f:=Sx.count),l.count];exact hi)
 exact ⟨m,hm,Dk.getD_some (by rw [← l.downs,List.getElem?_map,hm];rfl) _,Dk.getD_some (by rw [← l.count,List.getElem?_map,hm];rfl) _⟩
theorem Like.lenC (l:Like S ms cs ss):cs.length=S.conds.length:=by rw [← l.conds,List.length_map]
theorem Like.lenS (l:Like S ms cs ss):ss.length=S.count.length:=by rw [← l.count,List.length_map]
theorem own_set {ow:List Int} (hlen:ms.length=ow.length) (h:∀ (j:Nat) m,ms[j]? = some m→m.owner=if m.owned then ow.getD j 0 else 0) (hm:ms[i]? = some m) (m':Mx) (x:Int) (hx:m'.owner=if m'.owned then x else 0):∀ (j:Nat) n,(ms.set i m')[j]? = some n→n.owner=if n.owned then (ow.set i x).getD j 0 else 0:=fun j n hn=>by
 by_cases e:i=j
 ·subst e
  rw [List.getElem?_set_self (Dk.zcb hm)] at hn
  cases hn
  rw [Dk.zbn (by rw [← hlen];exact Dk.zcb hm)]
  exact hx
 ·rw [List.getElem?_set_ne e] at hn
  rw [Dk.getD_set_ne e]
  exact h j n hn
theorem set_getD {ow:List Int} (i:Nat) (h:i < ow.length):ow.set i (ow.getD i 0)=ow:=Dk.set_self ow i _ (by rw [List.getElem?_eq_getElem h];simp [List.getD,h])
theorem Like.addWait (l:Like S ms cs ss) (ok:Dk.Ok S k) (hm:ms[i]? = some m) (ho:m.owned=true) (who:Int) (hw:S.waits who=false) (u':Value):Like { S with wait:=S.wait.set i (S.wait.getD i []++[who]) } (ms.set i ⟨u',m.xs++[who],m.owner,m.owned⟩) cs ss:=by
 have hi:i < S.owner.length:=by rw [← l.len];exact Dk.zcb hm
 obtain ⟨m2,hm2,ew,eh,e1,e2⟩:=l.atM hi
 rw [hm] at hm2
 cases hm2
 refine ⟨by rw [List.length_set];exact l.len,?_,?_,?_,l.conds,l.count,l.downs,l.fair.addWait i (by rw [ok.wait];exact hi) who hw (by rw [eh];exact ho)⟩
 ·rw [List.map_set,l.held]
  exact Dk.set_self _ _ _ (by rw [← l.held,List.getElem?_map,hm];rfl)
 ·rw [List.map_set,l.wait]
  show _=S.wait.set i (S.wait.getD i []++[who])
  rw [ew]
 ·have:=own_set l.len l.own hm ⟨u',m.xs++[who],m.owner,m.owned⟩ (S.owner.getD i 0) (by show m.owner=_;exact l.own i m hm)
  rw [set_getD i hi] at this
  exact this
theorem Like.yes (l:Like S ms cs ss) (hm:ms[i]? = some m) (who:Int):Like { S with held:=S.held.set i true,owner:=S.owner.set i who } (ms.set i ⟨m.u,m.xs,who,true⟩) cs ss:=by
 refine ⟨by rw [List.length_set];show _=(S.owner.set i who).length;rw [List.length_set];exact l.len,?_,?_,own_set l.len l.own hm _ who rfl,l.conds,l.count,l.downs,l.fair.yes i who⟩
 ·rw [List.map_set,l.held]
 ·rw [List.map_set,l.wait]
  exact Dk.set_self _ _ _ (by rw [← l.wait,List.getElem?_map,hm];rfl)
theorem Like.setCount (l:Like S ms cs ss) (hs:ss[i]? = some s) (y:Int) (hy:s.xs=[]∨¬ 0 < y):Like { S with count:=S.count.set i y } ms cs (ss.set i ⟨s.u,s.xs,y⟩):=by
 have hi:i < S.count.length:=by rw [← l.lenS];exact Dk.zcb hs
 obtain ⟨c2,hc2,ew,ec⟩:=l.atS hi
 rw [hs] at hc2
 cases hc2
 refine ⟨l.len,l.held,l.wait,l.own,l.conds,?_,?_,l.fair.setCount i y (by rw [ew];exact hy)⟩
 ·rw [List.map_set,l.count]
 ·rw [List.map_set,l.downs]
  exact Dk.set_self _ _ _ (by rw [← l.downs,List.getElem?_map,hs];rfl)
theorem Like.kept (l:Like S ms cs ss) (hc:cs[i]? = some c) (ch:Int) (all:Bool) (xs:List (Int × Int)) (ex:S.kept i ch all=xs) (u':Value):Like { S with conds:=S.conds.set i (S.kept i ch all) } ms (cs.set i ⟨u',xs,c.bm⟩) ss:=by
 have hi:i < S.conds.length:=by rw [← l.lenC];exact Dk.zcb hc
 refine ⟨l.len,l.held,l.wait,l.own,?_,l.count,l.downs,⟨fun x=>?_,l.fair.free,l.fair.some_⟩⟩
 ·rw [List.map_set,l.conds]
  show _=S.conds.set i (S.kept i ch all)
  rw [ex]
 ·have:=Dk.zfh S i hi ch all x
  have:=l.fair.once x
  omega
end
end Go.Proofs.YtpnajphbjfehnaaGreat
namespace Dk
open Go Go.RowKit
theorem ze3 {P:Go.Program} {S:World→Prop} {Q:Exit→Act→World→Prop} {L:List Oper} {j:Nat} {js:List Nat} {a:Act} {w:World} {o:Oper} {f:FuncId} {args:Array Value} (ho:L[j]? = some o) (hg:o.guard=none)
  (hr:(execOp a.eval o).run P w=.ok (.enter f args) w) (hc:Calls P f args w fun e w'=>∃ v,e=.returned v∧S w'∧lineWalk P L.toArray Q S js (a.put o.dst v) w'):lineWalk P L.toArray Q S (j::js) a w:=by
 refine zan ho hg ?_
 unfold Oper.wp
 rw [hr]
 simp only [Oper.upon]
 refine Calls.mono hc ?_
 rintro e w' ⟨v,rfl,h⟩
 exact h
end Dk
namespace Go.Proofs.YtpnajphbjfehnaaGreat
open Go.RowKit Go.Lib
section
variable {W w : World} {b k i g C : Nat} {S : Dk.St} {vm vc vs : Value} {ms : List Mx} {cs : List Cx} {ss : List Sx} {us : List Dk.Thing} {c : Cx} {m : Mx}
theorem zg9 (S:Dk.St) (i:Nat) (ch:Int) (all:Bool):∀ p ∈ S.told i ch all,p ∈ S.conds.getD i []:=fun p hp=>by
 unfold Dk.St.told at hp
 dsimp only at hp
 split at hp
 ·exact hp
 ·split at hp
  ·simp at hp
  ·rw [List.mem_singleton] at hp
   rw [hp]
   exact Dk.zv _ _ _ (Dk.zhh _ (by omega))
end
end Go.Proofs.YtpnajphbjfehnaaGreat
