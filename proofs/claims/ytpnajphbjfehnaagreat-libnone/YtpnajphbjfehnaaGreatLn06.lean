import Derived.Test.YtpnajphbjfehnaaGreatLn05
import Derived.Laws.Tables
import Derived.Laws.CopyOwn
import Derived.Deep.OwnRows
set_option linter.unusedSimpArgs false
set_option linter.unusedVariables false
set_option linter.unnecessarySimpa false
set_option maxHeartbeats 8000000
set_option maxRecDepth 100000
namespace Dk
open Go Go.RowKit
structure Box (W:World) (b:Nat) (cs:Array Value) (t:TypeId):Prop where
 heap:W.heap[b]? = some (.cells cs t (0,0))
theorem Box.lt {W:World} {b:Nat} {cs:Array Value} {t:TypeId} (h:Box W b cs t):b < W.heap.size:=(Array.getElem?_eq_some_iff.1 h.heap).1
theorem Box.cell {W:World} {b:Nat} {cs:Array Value} {t:TypeId} (h:Box W b cs t) (o:Nat):W.cell? ⟨b,o,none⟩=cs[o]?:=by
 unfold World.cell?
 simp only [h.heap]
 rfl
theorem Box.frozen {W:World} {b:Nat} {cs:Array Value} {t:TypeId} (h:Box W b cs t) (o:Nat):W.frozen? ⟨b,o,none⟩=false:=by
 unfold World.frozen?
 simp only [h.heap]
 simp
theorem Box.below {W w':World} {B b:Nat} {cs:Array Value} {t:TypeId} (h:Box W b cs t) (hb:Below B W w') (hB:b < B):Box w' b cs t:=⟨by rw [hb.block b hB];exact h.heap⟩
theorem Box.up {W w':World} {b:Nat} {cs:Array Value} {t:TypeId} (h:Box W b cs t) (hb:Below W.heap.size W w'):Box w' b cs t:=h.below hb h.lt
theorem Box.new (W:World) (cs:Array Value) (t:TypeId):Box (W.alloc (.cells cs t)) W.heap.size cs t:=⟨(MapKept.heap_alloc W _).1⟩
theorem Box.old {W:World} {b:Nat} {cs:Array Value} {t:TypeId} (h:Box W b cs t) (o:Obj):Box (W.alloc o) b cs t:=h.up (Dk.zb (Below.refl _ _) _)
theorem Box.drew {W:World} {b:Nat} {cs:Array Value} {t:TypeId} (h:Box W b cs t):Box W.drew b cs t:=h.up (Dk.zm (Below.refl _ _))
theorem Box.drewN {W:World} {b:Nat} {cs:Array Value} {t:TypeId} (h:Box W b cs t) (n:Nat):Box (W.drewN n) b cs t:=h.up (Dk.zy (Below.refl _ _) n)
theorem Box.row {W:World} {b:Nat} {cs cs':Array Value} {t:TypeId} (h:Box W b cs t):Box (W.setRow b cs') b cs' t:=⟨setRow_heap W b cs cs' t (0,0) h.heap⟩
theorem Box.zao {W:World} {b b':Nat} {cs cs':Array Value} {t:TypeId} (h:Box W b cs t) (hn:b≠b'):Box (W.setRow b' cs') b cs t:=⟨by rw [setRow_other W b' b cs' (by omega)];exact h.heap⟩
theorem Box.set {W:World} {b:Nat} {cs:Array Value} {t:TypeId} (h:Box W b cs t) (o:Nat) (v:Value):Box (W.setCell ⟨b,o,none⟩ v) b (cs.setIfInBounds o v) t:=by
 rw [setCell_eq_setRow W b o cs t (0,0) v h.heap]
 exact h.row
theorem Box.zk {W:World} {b b':Nat} {cs:Array Value} {t:TypeId} (h:Box W b cs t) (hn:b≠b') (o:Nat) (v:Value):Box (W.setCell ⟨b',o,none⟩ v) b cs t:=by
 refine ⟨?_⟩
 rw [← h.heap]
 simp [World.setCell,Array.getElem?_modify,Ne.symm hn]
theorem Box.far {W W':World} {b r:Nat} {cs:Array Value} {t:TypeId} (h:Box W b cs t) (g:W.grownBy W' (some r)) (hn:b≠r):Box W' b cs t:=⟨by rw [g.block b h.lt (fun e=>hn (Option.some.inj e))];exact h.heap⟩
theorem zco (w:World) (r:Option Nat):w.grownBy w r:=⟨rfl,rfl,rfl,Nat.le_refl _,fun _ _ _=>rfl⟩
theorem far_up {w w1 w2:World} {r:Option Nat} (g:w.grownBy w1 r) (h:Below w1.heap.size w1 w2):w.grownBy w2 r:=
 ⟨h.os.trans g.os,h.tape.trans g.tape,h.output.trans g.output,Nat.le_trans g.size h.size,fun k hk hr=>(h.block k (by have:=g.size;omega)).trans (g.block k hk hr)⟩
theorem zex {w w1:World} {r:Option Nat} (h:Below w.heap.size w w1):w.grownBy w1 r:=far_up (zco _ _) h
theorem zd8 {w w1:World} {r:Nat} (g:w.grownBy w1 (some r)) (o:Nat) (v:Value):w.grownBy (w1.setCell ⟨r,o,none⟩ v) (some r):=
 ⟨g.os,g.tape,g.output,by simp [World.setCell];exact g.size,fun k hk hr=>(Below.heap_setCell w1 ⟨r,o,none⟩ v k (fun e=>hr (by rw [e]))).trans (g.block k hk hr)⟩
def sl:Nat × Bool→List Value:=fun x=>[.int .u64 (x.1:Nat),.bool x.2]
def scl (st:StS):List Value:=st.flatMap sl
def sc (st:StS):Array Value:=(scl st).toArray
theorem scl_len (st:StS):(scl st).length=st.length*2:=by
 induction st with
 | nil=>rfl
 | cons x r ih=>simp only [scl,List.flatMap_cons,List.length_append,List.length_cons] at ih ⊢;rw [ih];simp [sl];omega
theorem scl_at (st:StS) (k:Nat) (hk:k < st.length):(scl st)[k*2]? = some (.int .u64 (tk st k:Nat))∧(scl st)[k*2+1]? = some (.bool (us st k)):=by
 induction st generalizing k with
 | nil=>simp at hk
 | cons x r ih=>
  cases k with
  | zero=>exact ⟨rfl,rfl⟩
  | succ k=>
   have h:=ih k (by simpa using hk)
   have e:scl (x::r)=.int .u64 (x.1:Nat)::.bool x.2::scl r:=rfl
   rw [e,show (k+1)*2=k*2+1+1 by omega,List.getElem?_cons_succ,List.getElem?_cons_succ,List.getElem?_cons_succ,List.getElem?_cons_succ]
   exact h
theorem scl_put (st:StS) (k t:Nat) (b:Bool) (hk:k < st.length):scl (put st k t b)=((scl st).set (k*2) (.int .u64 (t:Nat))).set (k*2+1) (.bool b):=by
 induction st generalizing k with
 | nil=>simp at hk
 | cons x r ih=>
  have e:∀ (x:Nat × Bool) r,scl (x::r)=.int .u64 (x.1:Nat)::.bool x.2::scl r:=fun _ _=>rfl
  cases k with
  | zero=>rfl
  | succ k=>
   have h:=ih k (by simpa using hk)
   show scl (x::put r k t b)=_
   rw [e,e,h,show (k+1)*2=k*2+1+1 by omega]
   rfl
theorem zc8 (st:StS) (k:Nat) (hk:k < st.length):(sc st)[k*2]? = some (.int .u64 (tk st k:Nat))∧(sc st)[k*2+1]? = some (.bool (us st k)):=by
 unfold sc
 simp only [List.getElem?_toArray]
 exact scl_at st k hk
theorem sc_put (st:StS) (k t:Nat) (b:Bool) (hk:k < st.length):((sc st).setIfInBounds (k*2) (.int .u64 (t:Nat))).setIfInBounds (k*2+1) (.bool b)=sc (put st k t b):=by
 unfold sc
 rw [scl_put st k t b hk]
 simp
theorem sc_flag (st:StS) (k:Nat) (b:Bool) (hk:k < st.length):(sc st).setIfInBounds (k*2+1) (.bool b)=sc (put st k (tk st k) b):=by
 rw [← sc_put st k _ b hk]
 congr 1
 apply Array.ext_getElem?
 intro j
 rw [Array.getElem?_setIfInBounds]
 split
 ·rename_i e
  subst e
  have:=(zc8 st k hk).1
  rw [this,if_pos (Array.getElem?_eq_some_iff.1 this).1]
 ·rfl
theorem sc_blank (n:Nat):madeCells #[.int .u64 0,.bool false] (n*2)=sc (blank n):=by
 apply Array.ext_getElem?
 intro j
 by_cases hj:j < n*2
 ·have hl:(blank n).length=n:=by simp [blank]
  have hk:j / 2 < (blank n).length:=by omega
  have h:=zc8 (blank n) (j / 2) hk
  rw [tk_blank,us_blank] at h
  rcases Nat.mod_two_eq_zero_or_one j with h2 | h2
  ·have e:j / 2*2=j:=by omega
   rw [e] at h
   rw [h.1]
   simp [madeCells,hj,h2]
  ·have e:j / 2*2+1=j:=by omega
   rw [e] at h
   rw [h.2]
   simp [madeCells,hj,h2]
 ·rw [Array.getElem?_eq_none (by rw [size_madeCells];omega),Array.getElem?_eq_none]
  simp [sc,scl_len,blank]
  omega
structure Tab (w:World) (bt bs:Nat) (M:Nat) (st:StS):Prop where
 head:Box w bt #[.slice (some ⟨bs,0,none⟩) st.length st.length] 158
 row:Box w bs (sc st) 208
 ne:bt≠bs
 small:Small M st
theorem Tab.up {w w':World} {bt bs M:Nat} {st:StS} (h:Tab w bt bs M st) (u:Below w.heap.size w w'):Tab w' bt bs M st:=⟨h.head.up u,h.row.up u,h.ne,h.small⟩
theorem Tab.far {w w':World} {bt bs M r:Nat} {st:StS} (h:Tab w bt bs M st) (g:w.grownBy w' (some r)) (h1:bt≠r) (h2:bs≠r):Tab w' bt bs M st:=⟨h.head.far g h1,h.row.far g h2,h.ne,h.small⟩
theorem Tab.more {w:World} {bt bs M M':Nat} {st:StS} (h:Tab w bt bs M st) (hM:M≤M'):Tab w bt bs M' st:=⟨h.head,h.row,h.ne,h.small.mono hM⟩
theorem Tab.flag {w:World} {bt bs M:Nat} {st:StS} (h:Tab w bt bs M st) (k:Nat) (b:Bool) (hk:k < st.length):Tab (w.setCell ⟨bs,k*2+1,none⟩ (.bool b)) bt bs M (put st k (tk st k) b):=by
 refine ⟨?_,?_,h.ne,h.small.put hk (h.small.2 k)⟩
 ·rw [zc5];exact h.head.zk h.ne _ _
 ·rw [← sc_flag st k b hk];exact h.row.set _ _
theorem Tab.both {w:World} {bt bs M:Nat} {st:StS} (h:Tab w bt bs M st) (k t:Nat) (b:Bool) (hk:k < st.length) (ht:t≤M):Tab ((w.setCell ⟨bs,k*2,none⟩ (.int .u64 (t:Nat))).setCell ⟨bs,k*2+1,none⟩ (.bool b)) bt bs M (put st k t b):=by
 refine ⟨?_,?_,h.ne,h.small.put hk ht⟩
 ·rw [zc5];exact (h.head.zk h.ne _ _).zk h.ne _ _
 ·rw [← sc_put st k t b hk];exact (h.row.set _ _).set _ _
def ariW (op:Int) (a b:Nat):Nat:=
 if op=2 then a
 else if op=3 then (a+b) % 18446744073709551616
 else if op=4 then (a+(18446744073709551616 - b)) % 18446744073709551616
 else if op=5 then a*b % 18446744073709551616
 else if op=6 then (if a < b then 1 else 0)
 else if op=7 then nAdd a b
 else if op=8 then nSub a b
 else if op=9 then nMul a b
 else if op=10 then nDiv a b
 else if op=11 then nMin a b
 else if op=12 then nMax a b
 else if op=13 then (if lt a b then 1 else 0)
 else if op=14 then tI a
 else if op=15 then tF a
 else 0
theorem ariW_out {op:Int} {a b:Nat} (h:¬ (2≤op∧op≤15)):ariW op a b=0:=by
 unfold ariW
 repeat rw [if_neg (by omega)]
def plB (x n:Int):Bool:=decide (0≤x) && decide (x < n)
theorem zb9 {x n:Int}:plB x n=true ↔ 0≤x∧x < n:=by simp [plB]
def regN (op:Int):Nat:=if op=16 then 0 else if op=1∨op=17 then 1 else if op=2∨op=14∨op=15∨op=18∨op=19 then 2 else 3
def regs (i:Ins):List Int:=[i.a,i.b,i.c].take (regN i.op)
theorem regN_le (op:Int):regN op≤3:=by
 unfold regN
 split
 ·omega
 ·split
  ·omega
  ·split <;> omega
def codeB (i:Ins):Bool:=withinB i.op 1 19 && (regs i).all fun r=>plB r 8
def faultB (f:Frm) (i:Ins) (L:Nat):Bool:=(decide (i.op=18) && decide (L≤f.r i.b.toNat)) || (decide (i.op=19) && decide (L≤f.r i.a.toNat))
def Frm.set (f:Frm) (k v:Nat):Frm:=⟨f.fn,f.pc,fun j=>if j=k then v else f.r j⟩
def Frm.to (f:Frm) (pc:Int):Frm:=⟨f.fn,pc,f.r⟩
def Frm.zero:Frm:=⟨0,0,fun _=>0⟩
def doneF (f:Frm) (i:Ins) (m:List Nat):Frm:=
 if i.op=16 then f.to (wrap64 i.n)
 else if i.op=17 then (if f.r i.a.toNat=0 then f.to (wrap64 i.n) else f.to (wrap64 (f.pc+1)))
 else if i.op=1 then (f.to (wrap64 (f.pc+1))).set i.a.toNat i.n
 else if i.op=18 then (f.to (wrap64 (f.pc+1))).set i.a.toNat (m.getD (f.r i.b.toNat) 0)
 else if i.op=19 then f.to (wrap64 (f.pc+1))
 else if i.op=2∨i.op=14∨i.op=15 then (f.to (wrap64 (f.pc+1))).set i.a.toNat (ariW i.op (f.r i.b.toNat) 0)
 else (f.to (wrap64 (f.pc+1))).set i.a.toNat (ariW i.op (f.r i.b.toNat) (f.r i.c.toNat))
def doneM (f:Frm) (i:Ins) (m:List Nat):List Nat:=if i.op=19 then m.set (f.r i.a.toNat) (f.r i.b.toNat) else m
theorem zbt (f:Frm) (i:Ins) (m:List Nat):(doneM f i m).length=m.length:=by unfold doneM;split <;> simp
abbrev fc (f:Frm):Array Value:=#[.int .i64 f.fn,.int .i64 f.pc,.int .u64 (f.r 0:Nat),.int .u64 (f.r 1:Nat),.int .u64 (f.r 2:Nat),.int .u64 (f.r 3:Nat),.int .u64 (f.r 4:Nat),.int .u64 (f.r 5:Nat),.int .u64 (f.r 6:Nat),.int .u64 (f.r 7:Nat)]
abbrev ic (i:Ins):Array Value:=#[.int .i64 i.op,.int .i64 i.a,.int .i64 i.b,.int .i64 i.c,.int .u64 (i.n:Nat)]
theorem fc_reg (f:Frm) (k:Nat) (h:k < 8):(fc f)[2+k]? = some (.int .u64 (f.r k:Nat)):=by
 rcases (by omega:k=0∨k=1∨k=2∨k=3∨k=4∨k=5∨k=6∨k=7) with rfl | rfl | rfl | rfl | rfl | rfl | rfl | rfl <;> rfl
theorem zbv (f:Frm):(fc f).all (·.oneCell')=true:=by simp [Value.oneCell']
theorem fc_put (f:Frm) (k v:Nat) (h:k < 8):(fc f).setIfInBounds (2+k) (.int .u64 (v:Nat))=fc (f.set k v):=by
 rcases (by omega:k=0∨k=1∨k=2∨k=3∨k=4∨k=5∨k=6∨k=7) with rfl | rfl | rfl | rfl | rfl | rfl | rfl | rfl <;> rfl
theorem Box.setReg {W:World} {b:Nat} {f:Frm} {t:TypeId} (h:Box W b (fc f) t) (k v:Nat) (hk:k < 8):Box (W.setCell ⟨b,2+k,none⟩ (.int .u64 (v:Nat))) b (fc (f.set k v)) t:=by
 rw [← fc_put f k v hk]
 exact h.set _ _
theorem three (w:World) (cs ds es:Array Value) (t u v:TypeId) (W:World) (e:((w.alloc (.cells cs t)).alloc (.cells ds u)).alloc (.cells es v)=W) :
  Box W w.heap.size cs t∧Box W (w.heap.size+1) ds u∧Box W (w.heap.size+1+1) es v∧Below w.heap.size w W∧W.heap.size=w.heap.size+1+1+1:=by
 subst e
 refine ⟨((Box.new _ _ _).old _).old _,?_,?_,zb (zb (zb (Below.refl _ _) _) _) _,by simp⟩
 ·have:=(Box.new (w.alloc (.cells cs t)) ds u).old (.cells es v)
  simpa only [World.size_alloc] using this
 ·have:=Box.new ((w.alloc (.cells cs t)).alloc (.cells ds u)) es v
  simpa only [World.size_alloc] using this
theorem tail (w W:World) (N k v:Nat) (f:Frm) (es:Array Value) (t:TypeId) (b1:Box W N (fc f) t) (b3:Box W (N+1+1) es t) (u:Below N w W) (hk:k < 8) :
  ∃ W4 W5,W.setCell ⟨N,2+k,none⟩ (.int .u64 (v:Nat))=W4∧W4.setRow (N+1+1) (fc (f.set k v))=W5∧Box W4 N (fc (f.set k v)) t∧Box W4 (N+1+1) es t∧Box W5 (N+1+1) (fc (f.set k v)) t∧Below N w W5:=
 ⟨_,_,rfl,rfl,b1.setReg _ _ hk,b3.zk (by omega) _ _,(b3.zk (by omega) _ _).row,below_setRow (u.setCell (Nat.le_refl _) _) (by omega) _⟩
abbrev wc (m:List Nat):Array Value:=(m.map fun x=>Value.int .u64 (x:Nat)).toArray
end Dk
