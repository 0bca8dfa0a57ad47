import Derived.Test.YtpnajphbjfehnaaGreatLn21
import Derived.Deep.MidRow
set_option linter.unusedSimpArgs false
set_option linter.unusedVariables false
set_option linter.unnecessarySimpa false
set_option maxHeartbeats 8000000
set_option maxRecDepth 100000
namespace Dk
open Go Go.RowKit
def Thr.cells (t:Thr):List Value:=[.int .i64 t.f.fn,.int .i64 t.f.pc,.int .u64 (t.f.r 0:Nat),.int .u64 (t.f.r 1:Nat),.int .u64 (t.f.r 2:Nat),.int .u64 (t.f.r 3:Nat),.int .u64 (t.f.r 4:Nat),.int .u64 (t.f.r 5:Nat),.int .u64 (t.f.r 6:Nat),.int .u64 (t.f.r 7:Nat),.int .i64 t.why,.int .i64 t.ins.op,.int .i64 t.ins.a,.int .i64 t.ins.b,.int .i64 t.ins.c,.int .u64 (t.ins.n:Nat),.int .u64 (t.value:Nat),.bool t.det,.bool t.joined,.int .i64 t.joiner]
theorem Thr.len (t:Thr):t.cells.length=20:=rfl
theorem Thr.one (t:Thr):∀ v ∈ t.cells,v.oneCell'=true:=by
 intro v hv
 simp only [Thr.cells,List.mem_cons,List.not_mem_nil,or_false] at hv
 rcases hv with rfl | rfl | rfl | rfl | rfl | rfl | rfl | rfl | rfl | rfl | rfl | rfl | rfl | rfl | rfl | rfl | rfl | rfl | rfl | rfl <;> rfl
def Rec.cells (r:Rec):List Value:=[.int .u64 (r.thread:Nat),.int .i64 r.op,.int .u64 (r.x:Nat),.int .u64 (r.y:Nat),.int .i64 r.result,.bool r.fin]
theorem Rec.len (r:Rec):r.cells.length=6:=rfl
def Ins.cells (i:Ins):List Value:=[.int .i64 i.op,.int .i64 i.a,.int .i64 i.b,.int .i64 i.c,.int .u64 (i.n:Nat)]
theorem Ins.len (i:Ins):i.cells.length=5:=rfl
def ths (f:Nat→Thr):List Thr:=(List.range 16).map f
theorem zg8 (f:Nat→Thr) {n:Nat} (h:n < 16):(ths f)[n]? = some (f n):=by simp [ths,h]
theorem ths_set (f:Nat→Thr) {n:Nat} (h:n < 16) (t:Thr):(ths f).set n t=ths (upd f n t):=by
 apply List.ext_getElem?
 intro m
 by_cases hm:m < 16
 ·rw [zg8 _ hm]
  by_cases e:n=m
  ·subst e
   rw [List.getElem?_set_self (by simp [ths,h]),upd_same]
  ·rw [List.getElem?_set_ne e,zg8 _ hm,upd_ne _ _ (Ne.symm e)]
 ·rw [List.getElem?_eq_none (by simp [ths];omega),List.getElem?_eq_none (by simp [ths];omega)]
structure Loc where
 b:Nat
 bt:Nat
 bs:Nat
 bg:Nat
 bd:Nat
 bw:Nat
 bm:Nat
 cA:Option Addr
 cL:Nat
 cC:Nat
 vt:Value
 bts:List Nat
def Loc.head (L:Loc) (vm:Value):List Value:=[.slice L.cA L.cL L.cC,.int .i64 0,.int .i64 0,.int .i64 0,.slice none 0 0,.slice none 0 0,.int .i64 0,.int .i64 0,vm,.pointer (some ⟨L.bt,0,none⟩)]
def Loc.tail (L:Loc) (vr:Value):List Value:=[.pointer (some ⟨L.bg,0,none⟩),L.vt,.pointer (some ⟨L.bd,0,none⟩),.pointer (some ⟨L.bw,0,none⟩),vr]
def Loc.body (L:Loc) (f:Nat→Thr) (vm vr:Value):List Value:=L.head vm++((ths f).flatMap Thr.cells++L.tail vr)
section
variable (L : Loc) (f : Nat → Thr) (vm vr : Value)
theorem za9:((ths f).flatMap Thr.cells).length=320:=by rw [zaj Thr.len];simp [ths]
theorem body_len:(L.body f vm vr).length=335:=by
 unfold Loc.body
 rw [List.length_append,List.length_append,za9]
 rfl
theorem zbb {j:Nat} (h:j < 10):(L.body f vm vr)[j]? = (L.head vm)[j]?:=List.getElem?_append_left h
theorem zd1 {n j:Nat} (hn:n < 16) (hj:j < 20):(L.body f vm vr)[10+n*20+j]? = (f n).cells[j]?:=by
 unfold Loc.body
 rw [List.getElem?_append_right (by show 10≤_;omega),show 10+n*20+j - (L.head vm).length=n*20+j by show 10+n*20+j - 10=_;omega,List.getElem?_append_left (by rw [za9];omega)]
 exact flat_get Thr.len _ n j _ (zg8 f hn) hj
theorem zbc {j:Nat}:(L.body f vm vr)[330+j]? = (L.tail vr)[j]?:=by
 unfold Loc.body
 rw [List.getElem?_append_right (by show 10≤_;omega),show 330+j - (L.head vm).length=320+j by show 330+j - 10=_;omega,List.getElem?_append_right (by rw [za9];omega),za9,show 320+j - 320=j by omega]
theorem body_set {n j:Nat} (hn:n < 16) (hj:j < 20) (t:Thr) (v:Value) (ht:t.cells=(f n).cells.set j v):(L.body f vm vr).set (10+n*20+j) v=L.body (upd f n t) vm vr:=by
 unfold Loc.body
 rw [List.set_append_right _ _ (by show 10≤_;omega),show 10+n*20+j - (L.head vm).length=n*20+j by show 10+n*20+j - 10=_;omega,List.set_append_left _ _ (by rw [za9];omega)]
 rw [zea Thr.len _ n j _ t v (zg8 f hn) hj ht,ths_set f hn]
theorem body_mem (v:Value):(L.body f vm vr).set 8 v=L.body f v vr:=by
 unfold Loc.body
 rw [List.set_append_left _ _ (by show 8 < 10;omega)]
 rfl
theorem zi6 (v:Value):(L.body f vm vr).set 334 v=L.body f vm v:=by
 unfold Loc.body
 rw [List.set_append_right _ _ (by show 10≤_;omega),show 334 - (L.head vm).length=324 by rfl,List.set_append_right _ _ (by rw [za9];omega),za9,show (L.tail vr).set (324 - 320) v=L.tail v from rfl]
theorem body_put {n:Nat} (hn:n < 16) (t:Thr) (vs:List Value) (hl:vs.length≤20) (ht:∀ j,j < 20→t.cells[j]? = if j < vs.length then vs[j]? else (f n).cells[j]?) :
  putAt (L.body f vm vr).toArray (10+n*20) vs=(L.body (upd f n t) vm vr).toArray:=by
 apply Array.ext_getElem?
 intro j
 rw [ze8 _ _ _ (by simp [body_len];omega),List.getElem?_toArray,List.getElem?_toArray]
 by_cases h1:j < 10
 ·rw [if_neg (by omega),zbb _ _ _ _ h1,zbb _ _ _ _ h1]
 by_cases h2:j < 330
 ·obtain ⟨m,k,hm,hk,rfl⟩:∃ m k,m < 16∧k < 20∧j=10+m*20+k:=⟨(j - 10) / 20,(j - 10) % 20,by omega,by omega,by omega⟩
  rw [zd1 _ _ _ _ hm hk,zd1 _ _ _ _ hm hk]
  by_cases e:m=n
  ·subst e
   rw [upd_same,ht k hk]
   by_cases h3:k < vs.length
   ·rw [if_pos (by omega),if_pos h3]
    congr 1
    omega
   ·rw [if_neg (by omega),if_neg h3]
  ·rw [upd_ne _ _ e,if_neg (by omega)]
 ·obtain ⟨k,rfl⟩:∃ k,j=330+k:=⟨j - 330,by omega⟩
  rw [if_neg (by omega),zbc,zbc]
end
def InR (x:Int):Prop:=0≤x∧x < 16
structure GIn (S:St):Prop where
 wait:∀ l ∈ S.wait,∀ x ∈ l,InR x
 conds:∀ l ∈ S.conds,∀ p ∈ l,InR p.1
 downs:∀ l ∈ S.downs,∀ x ∈ l,InR x
theorem InR.i64 {x:Int} (h:InR x):i64 x:=by unfold InR at h;unfold Dk.i64;omega
theorem zb8 {n:Nat} (h:n < 16):InR n:=by unfold InR;omega
def sum16 (f:Int→Nat):Nat:=f 0+f 1+f 2+f 3+f 4+f 5+f 6+f 7+f 8+f 9+f 10+f 11+f 12+f 13+f 14+f 15
theorem count16:∀ (l:List Int),(∀ x ∈ l,InR x)→l.length=sum16 fun x=>l.count x
 | [],_=>rfl
 | y::r,h=>by
  have ih:=count16 r (fun x hx=>h x (List.mem_cons_of_mem _ hx))
  have hy:=h y (List.mem_cons_self ..)
  unfold sum16 at ih ⊢
  dsimp only at ih ⊢
  rw [List.length_cons]
  simp only [List.count_cons]
  obtain ⟨h0,h1⟩:=hy
  have:y=0∨y=1∨y=2∨y=3∨y=4∨y=5∨y=6∨y=7∨y=8∨y=9∨y=10∨y=11∨y=12∨y=13∨y=14∨y=15:=by omega
  rcases this with rfl | rfl | rfl | rfl | rfl | rfl | rfl | rfl | rfl | rfl | rfl | rfl | rfl | rfl | rfl | rfl <;> (simp only [beq_iff_eq,Int.reduceEq,reduceIte,Nat.add_zero,Int.reduceBEq,Bool.false_eq_true,Int.reduceNeg];omega)
theorem zdb (f g:Int→Nat):sum16 (fun x=>f x+g x)=sum16 f+sum16 g:=by unfold sum16;dsimp only;omega
theorem lens16 {α:Type} (g:α→Int):∀ (l:List (List α)),(∀ r ∈ l,∀ p ∈ r,InR (g p))→lens l=sum16 fun x=>cts g x l
 | [],_=>rfl
 | r::l,h=>by
  have ih:=lens16 g l (fun x hx=>h x (List.mem_cons_of_mem _ hx))
  have h1:=count16 (r.map g) (fun x hx=>by
   obtain ⟨p,hp,rfl⟩:=List.mem_map.1 hx
   exact h r (List.mem_cons_self ..) p hp)
  rw [List.length_map] at h1
  unfold lens at ih ⊢
  rw [List.map_cons,List.sum_cons,ih,h1,← zdb]
  rfl
theorem fair_ok {S:St} {k:Nat} (f:Fair S) (r:GIn S) (ok:Ok S k):Ok S 16:=by
 refine { ok with tot:=?_ }
 unfold St.tot
 rw [lens16 id S.wait r.wait,lens16 Prod.fst S.conds r.conds,lens16 id S.downs r.downs,← zdb,← zdb]
 have h:=f.once
 unfold sum16
 dsimp only
 unfold St.cnt at h
 have a0:=h 0;have a1:=h 1;have a2:=h 2;have a3:=h 3;have a4:=h 4;have a5:=h 5;have a6:=h 6;have a7:=h 7
 have a8:=h 8;have a9:=h 9;have b0:=h 10;have b1:=h 11;have b2:=h 12;have b3:=h 13;have b4:=h 14;have b5:=h 15
 omega
end Dk
namespace Go.Proofs.YtpnajphbjfehnaaGreat
open Go.RowKit Go.Lib
def spBox (L:Dk.Loc) (f:Nat→Dk.Thr) (vm vr:Value):Dk.Thing:=Dk.boxOf L.b (L.body f vm vr).toArray 96
def memT (vm:Value) (m:List Nat):Dk.Thing:=Dk.rowOf 73 1 vm m.length (Dk.uwK m)
def recT (vr:Value) (rs:List Dk.Rec):Dk.Thing:=Dk.rowOf 195 6 vr rs.length (rs.flatMap Dk.Rec.cells)
def codeT (L:Dk.Loc) (vs:List Value) (fs:List (List Dk.Ins)):Dk.Thing:=Dk.nestOf 71 75 5 (fun c=>c.flatMap Dk.Ins.cells) (.slice L.cA L.cL L.cC) vs fs
def slotT (bt bs M:Nat) (st:Dk.StS):Dk.Thing:={
 own:=fun k=>k=bt∨k=bs
 holds:=fun w=>Dk.Tab w bt bs M st
 local_:=fun w w' h hk=>⟨⟨(hk bt (.inl rfl)).trans h.head.heap⟩,⟨(hk bs (.inr rfl)).trans h.row.heap⟩,h.ne,h.small⟩
 lt:=fun w h k hk=>hk.elim (fun e=>e ▸ h.head.lt) (fun e=>e ▸ h.row.lt) }
def wheelT (bw bm M:Nat) (now:Int) (l:List (Int × Int)):Dk.Thing:={
 own:=AtW bw bm
 holds:=fun w=>WH 0 M w bw bm now l
 local_:=fun w w' h hk=>⟨h.base,h.baseM,h.lo,h.hi,⟨(hk bw (.inl rfl)).trans h.head.heap⟩,h.map.of_block (hk bm (.inr rfl)),h.wf⟩
 lt:=fun w h k hk=>hk.elim (fun e=>e ▸ h.head.lt) (fun e=>e ▸ h.map.lt) }
def D0 (bd:Nat) (bs:List Nat) (rs:List Dk.Rq) (td:List Dk.Thing):Prop:=∃ v1 v2,td=Dk.disk bd v1 v2 bs rs []∧Dk.FitK bs rs
structure Tm where
 bt:Nat
 v1:Value
 v2:Value
 v3:Value
 t:Dk.Tu
def Tm.things (m:Tm):List Dk.Thing:=Dk.tube m.bt m.t.room m.v1 m.v2 m.v3 m.t.ws m.t.ps m.t.gs []
def Tm.ptr (m:Tm):Value:=.pointer (some ⟨m.bt,0,none⟩)
def T0 (vt:Value) (bts:List Nat) (ts:List Dk.Tu) (tt:List Dk.Thing):Prop:=∃ ms:List Tm,ms.map Tm.t=ts∧ms.map Tm.bt=bts∧(∀ m ∈ ms,Dk.FitT m.t.ws m.t.ps m.t.gs)∧tt=Dk.rowOf 97 1 vt ms.length (ms.map Tm.ptr)::ms.flatMap Tm.things
def parts (L:Dk.Loc) (q:Dk.Sp) (ks kw:Nat) (vm vr:Value) (vs:List Value) (td tt tg:List Dk.Thing):List Dk.Thing:=
 spBox L q.thr vm vr::memT vm q.mem::recT vr q.recs::codeT L vs q.code::slotT L.bt L.bs ks q.st::wheelT L.bw L.bm kw q.now q.due::(td++(tt++tg))
def Cor (W w:World) (L:Dk.Loc) (q:Dk.Sp) (k:Nat) (us:List Dk.Thing):Prop:=
 Hid (∃ ks kw vm vr vs td tt tg,ks≤k∧kw≤k∧D0 L.bd q.blocks q.asked td∧T0 L.vt L.bts q.tubes tt∧G0 L.bg q.gates tg∧Dk.Ok q.gates 16∧Dk.GIn q.gates∧(∀ c ∈ q.code,∀ i ∈ c,i.ok)∧(∀ x ∈ q.mem,x < 2 ^ 64)∧Dk.Sep W w (us++parts L q ks kw vm vr vs td tt tg))
section
variable {W w w' : World} {L : Dk.Loc} {q : Dk.Sp} {k n : Nat} {us us' us1 us2 : List Dk.Thing} {t : Dk.Thing}
theorem Cor.map (h:Cor W w L q k us) (f:∀ ts,Dk.Sep W w (us++ts)→Dk.Sep W w' (us'++ts)):Cor W w' L q k us':=by
 obtain ⟨ks,kw,vm,vr,vs,td,tt,tg,h1,h2,h3,h4,h5,h6,h7,h8,h8',h9⟩:=Hid.out h
 exact ⟨ks,kw,vm,vr,vs,td,tt,tg,h1,h2,h3,h4,h5,h6,h7,h8,h8',f _ h9⟩
theorem Cor.out (h:Cor W w L q k us):Below W.heap.size W w:=by
 obtain ⟨ks,kw,vm,vr,vs,td,tt,tg,h1,h2,h3,h4,h5,h6,h7,h8,h8',h9⟩:=Hid.out h
 exact h9.out
theorem Cor.mono {k':Nat} (h:Cor W w L q k us) (hk:k≤k'):Cor W w L q k' us:=by
 obtain ⟨ks,kw,vm,vr,vs,td,tt,tg,h1,h2,h3⟩:=Hid.out h
 exact ⟨ks,kw,vm,vr,vs,td,tt,tg,by omega,by omega,h3⟩
theorem Cor.below (h:Cor W w L q k us) (u:Below w.heap.size w w'):Cor W w' L q k us:=h.map fun ts s=>s.below u
theorem Cor.drop (h:Cor W w L q k (t::us)):Cor W w L q k us:=h.map fun ts s=>s.sub (List.sublist_cons_self _ _)
theorem Cor.swap {t':Dk.Thing} (h:Cor W w L q k (t::t'::us)):Cor W w L q k (t'::t::us):=h.map fun ts s=>s.perm (List.Perm.swap _ _ _)
theorem Cor.perm (h:Cor W w L q k us) (p:us.Perm us'):Cor W w L q k us':=h.map fun ts s=>s.perm (p.append_right _)
theorem Cor.get (h:Cor W w L q k us) (ht:t ∈ us):t.holds w:=by
 obtain ⟨ks,kw,vm,vr,vs,td,tt,tg,h1,h2,h3,h4,h5,h6,h7,h8,h8',h9⟩:=Hid.out h
 exact h9.get (List.mem_append_left _ ht)
theorem Cor.row {e:TypeId} {s m:Nat} {v:Value} {xs:List Value} (h:Cor W w L q k us) (ht:Dk.rowOf e s v m xs ∈ us):w.ownsRow W.heap.size e s v m xs:=by
 obtain ⟨ks,kw,vm,vr,vs,td,tt,tg,h1,h2,h3,h4,h5,h6,h7,h8,h8',h9⟩:=Hid.out h
 exact h9.row (List.mem_append_left _ ht)
theorem Cor.box {a:Nat} {cs:Array Value} {e:TypeId} (h:Cor W w L q k us) (ht:Dk.boxOf a cs e ∈ us):Dk.Box w a cs e:=h.get ht
theorem Cor.newBox {cs:Array Value} {e:TypeId} (h:Cor W w L q k us) (ew:w'=w.alloc (.cells cs e)):Cor W w' L q k (Dk.boxOf w.heap.size cs e::us):=h.map fun ts s=>s.newBox ew
theorem Cor.addRow {e:TypeId} {s m:Nat} {v:Value} {xs:List Value} (h:Cor W w L q k us) (u:Below w.heap.size w w') (hr:w'.ownsRow w.heap.size e s v m xs):Cor W w' L q k (Dk.rowOf e s v m xs::us):=h.map fun ts s'=>Dk.Sep.addRow s' u hr
theorem Cor.turn {t':Dk.Thing} (h:Cor W w L q k (us1++t::us2)) (a:Dk.Away t.own w w') (hh:t'.holds w') (hn:∀ k,t'.own k→t.own k∨w.heap.size≤k):Cor W w' L q k (us1++t'::us2):=
 h.map fun ts s=>by
  rw [List.append_assoc,List.cons_append] at s ⊢
  exact s.turn a hh hn
theorem Cor.setRow {b:Nat} {cs cs':Array Value} {e:TypeId} (h:Cor W w L q k (Dk.boxOf b cs e::us)) (ew:w'=w.setRow b cs'):Cor W w' L q k (Dk.boxOf b cs' e::us):=by
 have hb:Dk.Box w b cs e:=h.box (by simp)
 subst ew
 exact Cor.turn (us1:=[]) (t':=Dk.boxOf b cs' e) h (Dk.Away.rowK (S:=(Dk.boxOf b cs e).own) (Dk.Away.refl _ _) (.inl rfl) _) hb.row (fun k hk=>.inl hk)
theorem Cor.setBox {b o:Nat} {cs:Array Value} {e:TypeId} (h:Cor W w L q k (Dk.boxOf b cs e::us)) (v:Value):Cor W (w.setCell ⟨b,o,none⟩ v) L q k (Dk.boxOf b (cs.setIfInBounds o v) e::us):=
 h.map fun ts s=>Dk.Sep.setBox (us1:=[]) s v
theorem Cor.head (h:Cor W w L q k us):∃ vm vr,Dk.Box w L.b (L.body q.thr vm vr).toArray 96∧w.ownsRow W.heap.size 73 1 vm q.mem.length (Dk.uwK q.mem)∧w.ownsRow W.heap.size 195 6 vr q.recs.length (q.recs.flatMap Dk.Rec.cells):=by
 obtain ⟨ks,kw,vm,vr,vs,td,tt,tg,h1,h2,h3,h4,h5,h6,h7,h8,h8',h9⟩:=Hid.out h
 exact ⟨vm,vr,h9.box (by simp [parts,spBox]),h9.row (by simp [parts,memT]),h9.row (by simp [parts,recT])⟩
theorem Cor.lt (h:Cor W w L q k us):L.b < w.heap.size:=by
 obtain ⟨vm,vr,hb,_⟩:=h.head
 exact hb.lt
theorem Cor.cellAt (h:Cor W w L q k us) (hn:n < 16) (j:Nat) (hj:j < 20):w.cell? ⟨L.b,10+n*20+j,none⟩=(q.thr n).cells[j]?:=by
 obtain ⟨vm,vr,hb,_⟩:=h.head
 rw [hb.cell,List.getElem?_toArray]
 exact Dk.zd1 L q.thr vm vr hn hj
theorem Cor.frozenAt (h:Cor W w L q k us) (o:Nat):w.frozen? ⟨L.b,o,none⟩=false:=by
 obtain ⟨vm,vr,hb,_⟩:=h.head
 exact hb.frozen o
theorem Cor.slotPtr (h:Cor W w L q k us):w.cell? ⟨L.b,9,none⟩=some (.pointer (some ⟨L.bt,0,none⟩)):=by
 obtain ⟨vm,vr,hb,_⟩:=h.head
 rw [hb.cell,List.getElem?_toArray]
 exact Dk.zbb L q.thr vm vr (j:=9) (by omega)
theorem Cor.setT (h:Cor W w L q k us) (hn:n < 16) (j:Nat) (hj:j < 20) (th:Dk.Thr) (v:Value) (ht:th.cells=(q.thr n).cells.set j v):Cor W (w.setCell ⟨L.b,10+n*20+j,none⟩ v) L (q.setT n th) k us:=by
 obtain ⟨ks,kw,vm,vr,vs,td,tt,tg,h1,h2,h3,h4,h5,h6,h7,h8,h8',h9⟩:=Hid.out h
 refine ⟨ks,kw,vm,vr,vs,td,tt,tg,h1,h2,h3,h4,h5,h6,h7,h8,h8',?_⟩
 have:=Dk.Sep.setBox (us1:=us) (b:=L.b) (o:=10+n*20+j) h9 v
 rw [List.setIfInBounds_toArray,Dk.body_set L q.thr vm vr hn hj th v ht] at this
 exact this
theorem Cor.putT (h:Cor W w L q k us) (hn:n < 16) (th:Dk.Thr) (vs:List Value) (hl:vs.length≤20) (ht:∀ j,j < 20→th.cells[j]? = if j < vs.length then vs[j]? else (q.thr n).cells[j]?):Cor W (w.setCells L.b (10+n*20) vs) L (q.setT n th) k us:=by
 obtain ⟨ks,kw,vm,vr,vz,td,tt,tg,h1,h2,h3,h4,h5,h6,h7,h8,h8',h9⟩:=Hid.out h
 refine ⟨ks,kw,vm,vr,vz,td,tt,tg,h1,h2,h3,h4,h5,h6,h7,h8,h8',?_⟩
 have hb:Dk.Box w L.b (L.body q.thr vm vr).toArray 96:=h9.box (by simp [parts,spBox])
 have hb':=Dk.Box.sets (w:=w) vs _ (10+n*20) w hb
 rw [Dk.body_put L q.thr vm vr hn th vs hl ht] at hb'
 have ha:Dk.Away (fun j=>j=L.b) w (w.setCells L.b (10+n*20) vs):=Dk.Away.zar (Dk.zdo (w:=w) (w':=w) vs (10+n*20) w (Dk.zco w (some L.b))) (fun j hj=>.inl (Option.some.inj hj).symm)
 exact Dk.Sep.turn (us1:=us) (t':=spBox L (Dk.upd q.thr n th) vm vr) h9 ha hb' (fun j hj=>.inl hj)
end
section
variable {W w w' : World} {L : Dk.Loc} {q : Dk.Sp} {k n : Nat} {us us' us1 us2 : List Dk.Thing} {t : Dk.Thing}
theorem Cor.slots (h:Cor W w L q k us):∃ ks,ks≤k∧Dk.Tab w L.bt L.bs ks q.st∧∀ w' ks' st' k',Dk.Tab w' L.bt L.bs ks' st'→w.grownBy w' (some L.bs)→ks'≤k'→k≤k'→Cor W w' L { q with st:=st' } k' us:=by
 obtain ⟨ks,kw,vm,vr,vs,td,tt,tg,h1,h2,h3,h4,h5,h6,h7,h8,h8',h9⟩:=Hid.out h
 refine ⟨ks,h1,h9.get (t:=slotT L.bt L.bs ks q.st) (by simp [parts]),fun w' ks' st' k' hT hg hk1 hk2=>?_⟩
 refine ⟨ks',kw,vm,vr,vs,td,tt,tg,hk1,by omega,h3,h4,h5,h6,h7,h8,h8',?_⟩
 have s:=Dk.Sep.turn (us1:=us++[spBox L q.thr vm vr,memT vm q.mem,recT vr q.recs,codeT L vs q.code]) (t:=slotT L.bt L.bs ks q.st) (t':=slotT L.bt L.bs ks' st') (us2:=wheelT L.bw L.bm kw q.now q.due::(td++(tt++tg))) (W:=W) (w:=w) (w':=w') (by simpa [parts] using h9)
  (Dk.Away.zar hg (fun j hj=>.inl (.inr (Option.some.inj hj).symm))) hT (fun j hj=>.inl hj)
 simpa [parts] using s
theorem zdp (h:Cor W w L q k us) (hk:k≤100000) (n:Nat) :
  Calls Tryz.prog 129 #[.pointer (some ⟨L.b,0,none⟩),.int .i64 (n:Int)] w fun e w'=>e=.returned (.int .u64 (q.hnd n:Nat))∧w'=w:=by
 have c9:=h.slotPtr
 obtain ⟨ks,hks,hT,_⟩:=h.slots
 have K:Calls Tryz.prog 151 #[.pointer (some ⟨L.bt,0,none⟩),.int .i64 (n:Int)] w fun e w'=>e=.returned (.tuple #[.int .u64 (q.hnd n:Nat),.bool (Dk.us q.st n)])∧w'=w:=by
  unfold Dk.Sp.hnd
  cases hu:Dk.us q.st n
  ·exact zer L.bt L.bs ks q.st n w hT (by simp [hu])
  ·exact zdh L.bt L.bs ks q.st n w hT (by omega) hu
 generalize q.hnd n=g at K ⊢
 generalize Dk.us q.st n=u at K
 clear hT h
 go_enter Tryz.func129,Tryz.ntmps129
 go_wp2_with (go_at_call 151;refine K.mono ?_;rintro e w' ⟨rfl,rfl⟩)
 go_ret
 exact ⟨rfl,rfl⟩
theorem zfg (h:Cor W w L q k us) (hk:k≤100000) (j:Int) (hj:q.usedB j=false) :
  Calls Tryz.prog 144 #[.pointer (some ⟨L.b,0,none⟩),.int .i64 j] w fun e w'=>e=.returned (.pointer none)∧w'=w:=by
 have c9:=h.slotPtr
 obtain ⟨ks,hks,hT,_⟩:=h.slots
 have K:=zer L.bt L.bs ks q.st j w hT hj
 clear hT h
 go_enter Tryz.func144,Tryz.ntmps144
 go_wp2_with (go_at_call 151;refine K.mono ?_;rintro e w' ⟨rfl,rfl⟩)
 go_ret
 exact ⟨rfl,rfl⟩
theorem za4 (h:Cor W w L q k us) (hk:k≤100000) (n:Nat) (hn:n < 16) (hj:Dk.us q.st n=true) :
  Calls Tryz.prog 144 #[.pointer (some ⟨L.b,0,none⟩),.int .i64 (n:Int)] w fun e w'=>e=.returned (.pointer (some ⟨L.b,10+n*20,none⟩))∧w'=w:=by
 have c9:=h.slotPtr
 obtain ⟨ks,hks,hT,_⟩:=h.slots
 have K:=zdh L.bt L.bs ks q.st n w hT (by omega) hj
 have i0:(0:Int)≤(n:Int):=by omega
 have i1:(n:Int) < 16:=by omega
 generalize Dk.hd q.st n=g at K
 clear hT h hj
 go_enter Tryz.func144,Tryz.ntmps144
 go_wp2_with (go_at_call 151;refine K.mono ?_;rintro e w' ⟨rfl,rfl⟩)
 go_ret
 exact ⟨rfl,rfl⟩
end
theorem infoRec:(Tryz.prog.info? 195).map (fun i=>(i.zero,i.size,i.bytes))=some (some (.agg #[.int .u64 0,.int .i64 0,.int .u64 0,.int .u64 0,.int .i64 0,.bool false]),6,48):=by kernel_rfl
theorem KRec:Dk.SlK Tryz.prog 94 195 (.agg #[.int .u64 0,.int .i64 0,.int .u64 0,.int .u64 0,.int .i64 0,.bool false]) 6 48:=⟨Tryz.underlying94,infoRec,rfl,by decide,by decide⟩
section
variable {W w w' : World} {L : Dk.Loc} {q : Dk.Sp} {k n : Nat} {us us' us1 us2 : List Dk.Thing} {t : Dk.Thing}
theorem rec_one (r:Dk.Rec):∀ u ∈ r.cells,u.oneCell'=true:=by
 intro v hv
 simp only [Dk.Rec.cells,List.mem_cons,List.not_mem_nil,or_false] at hv
 rcases hv with rfl | rfl | rfl | rfl | rfl | rfl <;> rfl
theorem Cor.more (h:Cor W w L q k us) (r:Dk.Rec) (hl:q.recs.length≤90000) :
  ∃ A n C A' n' C' w',w.cell? ⟨L.b,334,none⟩=some (.slice A n C)∧(Builtin.append_ #[94,94] 94 #[.slice A n C,.slice (some ⟨w.heap.size,0,none⟩) 1 1]).run Tryz.prog (w.alloc (.cells #[.int .u64 (r.thread:Nat),.int .i64 r.op,.int .u64 (r.x:Nat),.int .u64 (r.y:Nat),.int .i64 r.result,.bool r.fin] 195))=.ok (.slice A' n' C') w'∧w'.cell? ⟨L.b,334,none⟩=some (.slice A n C)∧w'.frozen? ⟨L.b,334,none⟩=false∧Cor W (w'.setCell ⟨L.b,334,none⟩ (.slice A' n' C')) L { q with recs:=q.recs++[r] } k us∧∀ a cs e,Dk.boxOf a cs e ∈ us→Dk.Box w' a cs e:=by
 obtain ⟨ks,kw,vm,vr,vs,td,tt,tg,h1,h2,h3,h4,h5,h6,h7,h8,h8',h9⟩:=Hid.out h
 obtain ⟨W1,e1⟩:∃ W1,W1=w.alloc (.cells #[.int .u64 (r.thread:Nat),.int .i64 r.op,.int .u64 (r.x:Nat),.int .u64 (r.y:Nat),.int .i64 r.result,.bool r.fin] 195):=⟨_,rfl⟩
 have u1:Below w.heap.size w W1:=by rw [e1];exact Dk.zb (Below.refl _ _) _
 have b1:Dk.Box W1 w.heap.size #[.int .u64 (r.thread:Nat),.int .i64 r.op,.int .u64 (r.x:Nat),.int .u64 (r.y:Nat),.int .i64 r.result,.bool r.fin] 195:=by rw [e1];exact Dk.Box.new _ _ _
 have t1:=h9.below u1
 have hr:W1.ownsRow W.heap.size 195 6 vr q.recs.length (q.recs.flatMap Dk.Rec.cells):=t1.row (by simp [parts,recT])
 have hb:Dk.Box w L.b (L.body q.thr vm vr).toArray 96:=h9.box (by simp [parts,spBox])
 obtain ⟨A,C,ev,_,_⟩:=Dk.zf hr
 obtain ⟨v',w',hrun,ho,hg,hf,_⟩:=KRec.append W.heap.size 94 vr _ _ W1 hr ⟨w.heap.size,0,none⟩ 1 1 r.cells rfl (fun j u hj=>by
  rw [Addr.add_lit,Nat.zero_add,b1.cell]
  simpa [Dk.Rec.cells] using hj) (rec_one r) (by omega) t1.out.size
 have ho':w'.ownsRow W.heap.size 195 6 v' (q.recs++[r]).length ((q.recs++[r]).flatMap Dk.Rec.cells):=by
  rw [List.length_append,List.flatMap_append]
  simpa using ho
 obtain ⟨A',C',ev',_,_⟩:=Dk.zf ho
 have t2:Dk.Sep W w' (us++spBox L q.thr vm vr::memT vm q.mem::recT v' (q.recs++[r])::codeT L vs q.code::slotT L.bt L.bs ks q.st::wheelT L.bw L.bm kw q.now q.due::(td++(tt++tg))):=by
  have:=Dk.Sep.turn (us1:=us++[spBox L q.thr vm vr,memT vm q.mem]) (t:=recT vr q.recs) (t':=recT v' (q.recs++[r])) (us2:=codeT L vs q.code::slotT L.bt L.bs ks q.st::wheelT L.bw L.bm kw q.now q.due::(td++(tt++tg))) (W:=W) (w:=W1) (w':=w') (by simpa [parts] using t1)
   (Dk.Away.zar hg (fun j hj=>.inl hj)) (Dk.zx ho' (Nat.zero_le _)) (fun j hj=>hf j hj)
  simpa using this
 have hb':Dk.Box w' L.b (L.body q.thr vm vr).toArray 96:=t2.box (by simp [spBox])
 have t3:=Dk.Sep.setBox (us1:=us) (b:=L.b) (o:=334) t2 v'
 rw [List.setIfInBounds_toArray,Dk.zi6] at t3
 rw [← e1]
 subst ev' ev
 refine ⟨_,_,_,_,_,_,w',?_,hrun,?_,hb'.frozen _,⟨ks,kw,vm,_,vs,td,tt,tg,h1,h2,h3,h4,h5,h6,h7,h8,h8',t3⟩,fun a cs e hm=>t2.box (List.mem_append_left _ hm)⟩
 ·rw [hb.cell,List.getElem?_toArray];exact Dk.zbc L q.thr vm _ (j:=4)
 ·rw [hb'.cell,List.getElem?_toArray];exact Dk.zbc L q.thr vm _ (j:=4)
theorem tell_any (h:Cor W w L q k us) (hk:k≤100000) (n:Nat) (r:Dk.Rec) (hl:q.recs.length≤90000) :
  Calls Tryz.prog 103 #[.pointer (some ⟨L.b,0,none⟩),.int .i64 (n:Int),.agg #[.int .u64 (r.thread:Nat),.int .i64 r.op,.int .u64 (r.x:Nat),.int .u64 (r.y:Nat),.int .i64 r.result,.bool r.fin]] w fun e w'=>e=.returned (.tuple #[])∧Cor W w' L (q.tell n r) k us:=by
 obtain ⟨W1,e1⟩:∃ W1,W1=w.alloc (.cells #[.int .u64 (r.thread:Nat),.int .i64 r.op,.int .u64 (r.x:Nat),.int .u64 (r.y:Nat),.int .i64 r.result,.bool r.fin] 195):=⟨_,rfl⟩
 have h1:=h.newBox e1
 have b1:Dk.Box W1 w.heap.size #[.int .u64 (r.thread:Nat),.int .i64 r.op,.int .u64 (r.x:Nat),.int .u64 (r.y:Nat),.int .i64 r.result,.bool r.fin] 195:=h1.box (by simp)
 have K:=zdp h1 hk n
 have c0:W1.cell? ⟨w.heap.size,0,none⟩=some (.int .u64 (r.thread:Nat)):=b1.cell 0
 have f0:=b1.frozen 0
 obtain ⟨W2,e2⟩:∃ W2,W2=W1.setCell ⟨w.heap.size,0,none⟩ (.int .u64 (q.hnd n:Nat)):=⟨_,rfl⟩
 have h2:=h1.setBox (o:=0) (.int .u64 (q.hnd n:Nat))
 rw [← e2] at h2
 have h6:=h2.below (Dk.zm (Below.refl _ _))
 have b6:Dk.Box W2.drew w.heap.size #[.int .u64 (q.hnd n:Nat),.int .i64 r.op,.int .u64 (r.x:Nat),.int .u64 (r.y:Nat),.int .i64 r.result,.bool r.fin] 195:=h6.box (by simp)
 obtain ⟨A,m,C,A',m',C',w7,k1,r1,d1,f1,h7,hbx⟩:=h6.more { r with thread:=q.hnd n } hl
 have b7:Dk.Box w7 w.heap.size #[.int .u64 (q.hnd n:Nat),.int .i64 r.op,.int .u64 (r.x:Nat),.int .u64 (r.y:Nat),.int .i64 r.result,.bool r.fin] 195:=hbx _ _ _ (by simp)
 have HK:Hid (W2.drew.cell? ⟨L.b,334,none⟩=some (.slice A m C)∧Dk.Box W2.drew w.heap.size #[.int .u64 (q.hnd n:Nat),.int .i64 r.op,.int .u64 (r.x:Nat),.int .u64 (r.y:Nat),.int .i64 r.result,.bool r.fin] 195):=⟨k1,b6⟩
 have HS:Hid (w7.cell? ⟨L.b,334,none⟩=some (.slice A m C)∧Dk.Box w7 w.heap.size #[.int .u64 (q.hnd n:Nat),.int .i64 r.op,.int .u64 (r.x:Nat),.int .u64 (r.y:Nat),.int .i64 r.result,.bool r.fin] 195):=⟨d1,b7⟩
 have HF:Hid (w7.frozen? ⟨L.b,334,none⟩=false):=f1
 have HR:Hid _:=r1
 have h8:Cor W (w7.setCell ⟨L.b,334,none⟩ (.slice A' m' C')) L (q.tell n r) k us:=h7.drop
 obtain ⟨W7,e7⟩:∃ W7,W7=w7.setCell ⟨L.b,334,none⟩ (.slice A' m' C'):=⟨_,rfl⟩
 rw [← e7] at h8
 have H7:Hid (w7.setCell ⟨L.b,334,none⟩ (.slice A' m' C')=W7):=e7.symm
 have H1:Hid (w.alloc (.cells #[.int .u64 (r.thread:Nat),.int .i64 r.op,.int .u64 (r.x:Nat),.int .u64 (r.y:Nat),.int .i64 r.result,.bool r.fin] 195)=W1):=e1.symm
 have H2:Hid (W1.setCell ⟨w.heap.size,0,none⟩ (.int .u64 (q.hnd n:Nat))=W2):=e2.symm
 clear h1 h2 h6 h7 b1 b6 b7 k1 r1 d1 f1 e1 e2 e7 hbx h
 generalize q.hnd n=hn at *
 generalize q.tell n r=qz at *
 obtain ⟨rt,ro,rx,ry,rr,rf⟩:=r
 simp only at *
 go_enter Tryz.func103,Tryz.ntmps103
 go_wp2_with (first | (rw [H1.out];clear H1) | (go_at_call 129;refine K.mono ?_;rintro e w' ⟨rfl,rfl⟩) | (rw [H2.out];clear H2))
 refine Dk.zbf (z:=10) (S:=fun w'=>w'.cell? ⟨L.b,334,none⟩=some (.slice A m C)∧Dk.Box w' w.heap.size #[.int .u64 (hn:Nat),.int .i64 ro,.int .u64 (rx:Nat),.int .u64 (ry:Nat),.int .i64 rr,.bool rf] 195) [0,1,2,3,4,5] [6,7,8,9,10] (by kernel_rfl) (by kernel_rfl) (by kernel_rfl) HK.out ?_
 refine Dk.za (v:=.pointer (some ⟨L.b,0,none⟩)) rfl rfl (fun w' hw'=>by go_simp) ?_
 simp only [zD]
 refine Dk.za (v:=.pointer (some ⟨L.b,0,none⟩)) rfl rfl (fun w' hw'=>by go_simp) ?_
 simp only [zD]
 refine Dk.za (v:=.pointer (some ⟨L.b,0,none⟩)) rfl rfl (fun w' hw'=>by go_simp) ?_
 simp only [zD]
 refine Dk.za (v:=.pointer (some ⟨L.b,334,none⟩)) rfl rfl (fun w' hw'=>by go_simp) ?_
 simp only [zD]
 refine Dk.za (v:=.slice A m C) rfl rfl (fun w' hw'=>by have:=hw'.1;go_simp) ?_
 simp only [zD]
 refine Dk.za (v:=.agg #[.int .u64 (hn:Nat),.int .i64 ro,.int .u64 (rx:Nat),.int .u64 (ry:Nat),.int .i64 rr,.bool rf]) rfl rfl (fun w' hw'=>by have:=hw'.2.cell;go_simp) ?_
 simp only [zD]
 obtain ⟨W6,e6⟩:∃ W6,W6=W2.drew.alloc (.cells #[.int .u64 (hn:Nat),.int .i64 ro,.int .u64 (rx:Nat),.int .u64 (ry:Nat),.int .i64 rr,.bool rf] 195):=⟨_,rfl⟩
 have S6:W6.cell? ⟨L.b,334,none⟩=some (.slice A m C)∧Dk.Box W6 w.heap.size #[.int .u64 (hn:Nat),.int .i64 ro,.int .u64 (rx:Nat),.int .u64 (ry:Nat),.int .i64 rr,.bool rf] 195:=by
  rw [e6]
  exact ⟨Lib.cell?_alloc_some _ HK.out.1,HK.out.2.old _⟩
 refine Dk.zaa (v:=.slice (some ⟨W2.drew.heap.size,0,none⟩) 1 1) (w':=W6) rfl rfl (by rw [e6];go_simp) (fun _=>S6) ?_
 simp only [zD]
 have r6:=HR.out
 rw [← e6,show W2.drew.heap.size=W2.heap.size from rfl] at r6
 refine Dk.zaa (v:=(.slice A' m' C')) (w':=w7) rfl rfl (by simp only [execOp,resolve,invoke,builtin];simp [Act.eval,r6]) (fun _=>HS.out) ?_
 simp only [zD]
 refine Dk.zaa (v:=.pointer (some ⟨L.b,0,none⟩)) (w':=w7) rfl rfl (by go_simp) (fun _=>HS.out) ?_
 simp only [zD]
 refine Dk.zaa (v:=.pointer (some ⟨L.b,334,none⟩)) (w':=w7) rfl rfl (by go_simp) (fun _=>HS.out) ?_
 simp only [zD]
 refine Dk.zdu (w':=W7) rfl rfl (by rw [← H7.out];have q1:=HS.out.1;have q2:=HF.out;go_simp) (fun h=>absurd rfl h) ?_
 simp only [zD]
 show NoPanic _ Exit.normal _ _
 refine NoPanic.normal ?_
 clear r6 S6 e6 HR HK HS HF H7
 (try go_wp2_with fail)
 go_end0
 exact ⟨rfl,h8⟩
end
end Go.Proofs.YtpnajphbjfehnaaGreat
