import Derived.Test.YtpnajphbjfehnaaGreatLn20
set_option linter.unusedSimpArgs false
set_option linter.unusedVariables false
set_option linter.unnecessarySimpa false
set_option maxHeartbeats 8000000
set_option maxRecDepth 100000
namespace Dk
open Go Go.RowKit
def St.lock (S:St) (who:Int) (n:Nat):St × Bool × Int:=
 if S.waits who=true∨(S.held.getD n false=true∧S.owner.getD n 0=who) then (S,false,4)
 else if S.held.getD n false=true then ({ S with wait:=S.wait.set n (S.wait.getD n []++[who]) },false,0)
 else ({ S with held:=S.held.set n true,owner:=S.owner.set n who },true,0)
def St.unlock (S:St) (who:Int) (n:Nat) (ch:Int):St × Int × Bool × Int:=
 if S.held.getD n false=false∨S.owner.getD n 0≠who then (S,0,false,5)
 else ((S.open n ch).1,(S.open n ch).2.1,(S.open n ch).2.2,0)
def St.hold (S:St) (who:Int) (c n:Nat) (ch:Int):St × Int × Bool × Int:=
 if S.waits who=true then (S,0,false,4)
 else if S.held.getD n false=false∨S.owner.getD n 0≠who then (S,0,false,5)
 else ({ (S.open n ch).1 with conds:=S.conds.set c (S.conds.getD c []++[(who,(n:Int))]) },(S.open n ch).2.1,(S.open n ch).2.2,0)
def St.down (S:St) (who:Int) (n:Nat):St × Bool × Int:=
 if S.waits who=true then (S,false,4)
 else if 0 < S.count.getD n 0 then ({ S with count:=S.count.set n (S.count.getD n 0 - 1) },true,0)
 else ({ S with downs:=S.downs.set n (S.downs.getD n []++[who]) },false,0)
def St.up (S:St) (n:Nat) (ch:Int):St × Int × Bool × Int:=
 if 0 < (S.downs.getD n []).length then ({ S with downs:=S.downs.set n ((S.downs.getD n []).eraseIdx (at_ ch (S.downs.getD n []).length)) },(S.downs.getD n []).getD (at_ ch (S.downs.getD n []).length) 0,true,0)
 else if S.count.getD n 0=1048576 then (S,0,false,2)
 else ({ S with count:=S.count.set n (S.count.getD n 0+1) },0,false,0)
section
variable {S : St} {k n c : Nat} {who ch : Int}
theorem Ok.lock (ok:Ok S k) (hn:n < S.owner.length) (hi:i64 who):Ok (S.lock who n).1 (k+1):=by
 unfold St.lock
 split
 ·exact ok.mono (by omega)
 ·split
  ·have hw:n < S.wait.length:=by rw [ok.wait];exact hn
   exact ok.setWait n hw _ (zct (ok.waits _ (zv _ _ _ hw)) hi) (by rw [List.length_append];simp;omega)
  ·exact ((ok.setOwner n who hi).setHeld n true).mono (by omega)
theorem Ok.open (ok:Ok S k) (hn:n < S.owner.length) (ch:Int):Ok (S.open n ch).1 k:=by
 have hw:n < S.wait.length:=by rw [ok.wait];exact hn
 by_cases h0:(S.wait.getD n []).length=0
 ·rw [zcj S n ch h0]
  exact ok.setHeld n false
 ·rw [zck S n ch _ rfl (by omega) _ rfl _ rfl]
  have hm:=ok.waits _ (zv _ [] _ hw)
  exact (ok.setOwner n _ (hm _ (zv _ _ _ (zhh ch (by omega))))).setWait n hw _ (zew hm) (by
   have:=List.length_eraseIdx_le (S.wait.getD n []) (at_ ch (S.wait.getD n []).length)
   dsimp only
   omega)
theorem Ok.unlock (ok:Ok S k) (hn:n < S.owner.length):Ok (S.unlock who n ch).1 (k+1):=by
 unfold St.unlock
 split
 ·exact ok.mono (by omega)
 ·exact (ok.open hn ch).mono (by omega)
theorem Ok.hold (ok:Ok S k) (hc:c < S.conds.length) (hn:n < S.owner.length) (hi:i64 who):Ok (S.hold who c n ch).1 (k+1):=by
 unfold St.hold
 split
 ·exact ok.mono (by omega)
 ·split
  ·exact ok.mono (by omega)
  ·have ok1:=ok.open hn ch
   have hol:=zkb S n ch
   have e:=zh1 S n ch
   have q:=ok1.setConds (k':=k+1) c (by rw [e];exact hc) (S.conds.getD c []++[(who,(n:Int))]) (zct (fun p hp=>by rw [hol];exact ok.conds _ (zv _ _ _ hc) p hp) ⟨hi,by omega,by rw [hol];omega⟩) (by rw [e,List.length_append];simp;omega)
   rw [e] at q
   exact q
theorem Ok.down (ok:Ok S k) (hn:n < S.count.length) (hi:i64 who):Ok (S.down who n).1 (k+1):=by
 unfold St.down
 split
 ·exact ok.mono (by omega)
 ·split
  ·have:=ok.count _ (zv S.count 0 n hn)
   exact (ok.setCount n _ (by omega)).mono (by omega)
  ·have hw:n < S.downs.length:=by rw [ok.downs];exact hn
   exact ok.setDowns n hw _ (zct (ok.downsI _ (zv _ _ _ hw)) hi) (by rw [List.length_append];simp;omega)
theorem Ok.up (ok:Ok S k) (hn:n < S.count.length):Ok (S.up n ch).1 (k+1):=by
 unfold St.up
 split
 ·have hw:n < S.downs.length:=by rw [ok.downs];exact hn
  exact (ok.setDowns (k':=k) n hw _ (zew (ok.downsI _ (zv _ _ _ hw))) (by
   have:=List.length_eraseIdx_le (S.downs.getD n []) (at_ ch (S.downs.getD n []).length)
   omega)).mono (by omega)
 ·split
  ·exact ok.mono (by omega)
  ·have:=ok.count _ (zv S.count 0 n hn)
   exact (ok.setCount n _ (by omega)).mono (by omega)
end
end Dk
namespace Go.Proofs.YtpnajphbjfehnaaGreat
open Go.RowKit Go.Lib
def Gt (W w:World) (b:Nat) (S:Dk.St) (k:Nat) (us:List Dk.Thing):Prop:=Hid (∃ ts,G0 b S ts∧Dk.Sep W w (us++ts)∧Dk.Ok S k)
section
variable {W w w' : World} {b k n c : Nat} {S : Dk.St} {us us' : List Dk.Thing} {who ch : Int}
theorem Gt.out (h:Gt W w b S k us):Below W.heap.size W w:=by
 obtain ⟨ts,_,hs,_⟩:=Hid.out h
 exact hs.out
theorem Gt.ok (h:Gt W w b S k us):Dk.Ok S k:=by
 obtain ⟨ts,_,_,ok⟩:=Hid.out h
 exact ok
theorem Gt.fair (h:Gt W w b S k us):Dk.Fair S:=by
 obtain ⟨ts,⟨_,_,_,_,_,_,_,l⟩,_,_⟩:=Hid.out h
 exact l.fair
theorem Gt.below (h:Gt W w b S k us) (u:Below w.heap.size w w'):Gt W w' b S k us:=by
 obtain ⟨ts,hG,hs,ok⟩:=Hid.out h
 exact ⟨ts,hG,hs.below u,ok⟩
theorem Gt.map (h:Gt W w b S k us) (f:∀ ts,Dk.Sep W w (us++ts)→Dk.Sep W w' (us'++ts)):Gt W w' b S k us':=by
 obtain ⟨ts,hG,hs,ok⟩:=Hid.out h
 exact ⟨ts,hG,f ts hs,ok⟩
theorem Gt.row {e:TypeId} {s m:Nat} {v:Value} {xs:List Value} (h:Gt W w b S k us) (ht:Dk.rowOf e s v m xs ∈ us):w.ownsRow W.heap.size e s v m xs:=by
 obtain ⟨ts,_,hs,_⟩:=Hid.out h
 exact hs.row (List.mem_append_left _ ht)
theorem Gt.box {a:Nat} {cs:Array Value} {t:TypeId} (h:Gt W w b S k us) (ht:Dk.boxOf a cs t ∈ us):Dk.Box w a cs t:=by
 obtain ⟨ts,_,hs,_⟩:=Hid.out h
 exact hs.box (List.mem_append_left _ ht)
theorem Gt.mono {k':Nat} (h:Gt W w b S k us) (hk:k≤k'):Gt W w b S k' us:=by
 obtain ⟨ts,hG,hs,ok⟩:=Hid.out h
 exact ⟨ts,hG,hs,ok.mono hk⟩
theorem Gt.addRow {e:TypeId} {q m:Nat} {v:Value} {xs:List Value} (h:Gt W w b S k us) (u:Below w.heap.size w w') (hr:w'.ownsRow w.heap.size e q v m xs):Gt W w' b S k (Dk.rowOf e q v m xs::us):=h.map fun ts s=>Dk.Sep.addRow s u hr
end
end Go.Proofs.YtpnajphbjfehnaaGreat
namespace Dk
open Go Go.RowKit Go.Deep Go.ChangeShapes Go.WideShapes
def IsInts (vs:List Value) (a:List Int):Prop:=vs=a.map (Value.int .i64)∧∀ x ∈ a,i64 x
section
variable {H : Type} {enc : TypeId × Value → H} {P : Go.Program} {w : World} {held : Bool}
theorem el_ints {t tI:TypeId} {fs:Array Field} {k:Nat} (ht:P.underlying t=some (.struct fs)) (hI:P.underlying tI=some (.int .i64)) (cI:P.cellsOf tI=1) (ct:P.cellsOf t=k) (hk:fs.size=k)
  (hfs:∀ (j:Nat) (hj:j < fs.size),fs[j].type=tI∧fs[j].offset=j):∀ fuel cs (x:DataW H × List MemPlace),DataW.trod enc P w 0 (fun _=>true) held fuel t cs=some x→∃ a,IsInts cs a:=by
 intro fuel cs x h
 obtain ⟨xs,n,_,_,hl,hxl,hf⟩:=DataW.trod_struct ht h
 rw [ct] at hl
 have each:∀ j,j < k→∃ m,cs[j]? = some (.int .i64 m)∧i64 m:=by
  intro j hj
  have hj':j < fs.size:=by omega
  have g:=hf j fs[j] (by rw [Array.getElem?_eq_getElem hj'])
  rw [(hfs j hj').1,(hfs j hj').2,cI] at g
  obtain ⟨y,hy⟩:∃ y,xs[j]? = some y:=⟨_,List.getElem?_eq_getElem (by omega)⟩
  rw [hy] at g
  obtain ⟨m,e,_,hw⟩:=DataW.trod_int hI g
  have h1:((cs.drop j).take 1)[0]? = some (.int .i64 m):=by rw [e];rfl
  rw [List.getElem?_take,if_pos (by omega),List.getElem?_drop,Nat.add_zero] at h1
  exact ⟨m,h1,wf_i64 hw⟩
 refine ⟨cs.map (fun v=>match v with | .int _ m=>m | _=>0),?_,?_⟩
 ·rw [List.map_map]
  apply List.ext_getElem?
  intro j
  rw [List.getElem?_map]
  by_cases hj:j < k
  ·obtain ⟨m,e,_⟩:=each j hj
   rw [e]
   rfl
  ·rw [List.getElem?_eq_none (by omega)]
   rfl
 ·intro y hy
  obtain ⟨v,hv,rfl⟩:=List.mem_map.1 hy
  obtain ⟨j,hj,e⟩:=List.getElem_of_mem hv
  obtain ⟨m,e',hm⟩:=each j (by omega)
  rw [List.getElem?_eq_getElem hj] at e'
  have:v=.int .i64 m:=by rw [← e];exact Option.some.inj e'
  rw [this]
  exact hm
end
open Go Go.RowKit
open Go.Proofs.YtpnajphbjfehnaaGreat.Dk (waitsT waitsK)
structure Thr where
 f:Frm
 why:Int
 ins:Ins
 value:Nat
 det:Bool
 joined:Bool
 joiner:Int
structure Rec where
 thread:Nat
 op:Int
 x:Nat
 y:Nat
 result:Int
 fin:Bool
structure Tu where
 room:Int
 ws:List Nat
 ps:List (Int × Nat)
 gs:List Int
structure Sp where
 code:List (List Ins)
 mem:List Nat
 st:StS
 thr:Nat→Thr
 gates:St
 tubes:List Tu
 blocks:List Nat
 asked:List Rq
 now:Int
 due:List (Int × Int)
 recs:List Rec
structure Eff where
 woken:List Int
 stopped:Bool
 ended:Bool
 yielded:Bool
structure Deed where
 x:Nat
 y:Nat
 result:Int
 why:Int
 begun:List Int
 woken:List (Int × Nat)
def Eff.none:Eff:=⟨[],false,false,false⟩
def upd {α:Type} (f:Nat→α) (n:Nat) (a:α):Nat→α:=fun m=>if m=n then a else f m
theorem upd_same {α:Type} (f:Nat→α) (n:Nat) (a:α):upd f n a n=a:=if_pos rfl
theorem upd_ne {α:Type} (f:Nat→α) {n m:Nat} (a:α) (h:m≠n):upd f n a m=f m:=if_neg h
theorem upd_upd {α:Type} (f:Nat→α) (n:Nat) (a b:α):upd (upd f n a) n b=upd f n b:=by
 funext m
 unfold upd
 split <;> rfl
def Thr.zero:Thr:=⟨Frm.zero,0,Ins.zero,0,false,false,0⟩
def Thr.new (fn:Int) (word:Nat):Thr:=⟨⟨fn,0,fun k=>if k=0 then word else 0⟩,0,Ins.zero,0,false,false,0⟩
def Thr.wake (t:Thr) (got:Nat):Thr:={ t with why:=0,f:=(if t.ins.op=21∨t.ins.op=33∨t.ins.op=36 then t.f.set t.ins.a.toNat got else t.f).set 7 0 }
def Thr.reg (t:Thr) (k v:Nat):Thr:={ t with f:=t.f.set k v }
def Thr.next (t:Thr):Thr:={ t with f:=t.f.to (wrap64 (t.f.pc+1)) }
namespace Sp
def setT (q:Sp) (n:Nat) (t:Thr):Sp:={ q with thr:=upd q.thr n t }
def hnd (q:Sp) (n:Nat):Nat:=if us q.st n then hd q.st n else 0
def tell (q:Sp) (n:Nat) (r:Rec):Sp:={ q with recs:=q.recs++[{ r with thread:=q.hnd n }] }
def begin (q:Sp) (fn:Int) (word:Nat):Sp × Int × Int:=
 if least q.st < q.st.length then (({ q with st:=taken q.st }).setT (least q.st) (Thr.new fn word),(least q.st:Nat),0) else (q,0,2)
def wake1 (q:Sp) (p:Int × Nat):Sp:=(q.setT p.1.toNat ((q.thr p.1.toNat).wake p.2)).tell p.1.toNat ⟨0,(q.thr p.1.toNat).ins.op,0,p.2,0,true⟩
def wake (q:Sp) (l:List (Int × Nat)):Sp:=l.foldl wake1 q
def free (q:Sp) (n:Nat):Sp:={ q with st:=freed q.st (q.hnd n) }
def fin (q:Sp) (n v:Nat):Sp × Eff:=
 if (q.thr n).det then (q.free n,⟨[],false,true,false⟩)
 else if (q.thr n).joined then ((q.free n).wake [((q.thr n).joiner,v)],⟨[(q.thr n).joiner],false,true,false⟩)
 else (q.setT n { q.thr n with why:=9,value:=v },⟨[],false,true,false⟩)
def exit (q:Sp) (n v:Nat):Sp × Eff:=(q.tell n ⟨0,23,v,0,0,true⟩).fin n v
def find (q:Sp) (own h:Nat):Int × Int:=
 match Dk.find q.st h with
 | none=>(0,3)
 | some k=>if k=own∨(q.thr k).det=true then (0,3) else if (q.thr k).joined then (0,4) else ((k:Nat),0)
def spawn (q:Sp) (n:Nat) (i:Ins):Sp × Deed:=
 let r:=q.begin (wrap64 i.n) ((q.thr n).f.r i.b.toNat)
 if r.2.2=0 then (r.1.setT n ((r.1.thr n).reg i.a.toNat (r.1.hnd r.2.1.toNat)),⟨i.n,r.1.hnd r.2.1.toNat,0,0,[r.2.1],[]⟩)
 else (r.1.setT n ((r.1.thr n).reg i.a.toNat 0),⟨i.n,0,r.2.2,0,[],[]⟩)
def join (q:Sp) (n:Nat) (i:Ins):Sp × Deed:=
 let h:=(q.thr n).f.r i.b.toNat
 let r:=q.find n h
 if r.2=0 then
  let o:=q.thr r.1.toNat
  if o.why=9 then ((q.setT n ((q.thr n).reg i.a.toNat o.value)).free r.1.toNat,⟨h,o.value,0,0,[],[]⟩)
  else (q.setT r.1.toNat { o with joined:=true,joiner:=n },⟨h,0,0,4,[],[]⟩)
 else (q,⟨h,0,r.2,0,[],[]⟩)
def detach (q:Sp) (n h:Nat):Sp × Deed:=
 let r:=q.find n h
 if r.2=0 then
  let o:=q.thr r.1.toNat
  if o.why=9 then (q.free r.1.toNat,⟨h,0,0,0,[],[]⟩) else (q.setT r.1.toNat { o with det:=true },⟨h,0,0,0,[],[]⟩)
 else (q,⟨h,0,r.2,0,[],[]⟩)
def moved (q:Sp) (l:List Int):Sp:=l.foldl (fun q w=>q.setT w.toNat { q.thr w.toNat with why:=1 }) q
def signal (q:Sp) (c:Nat) (ch:Int) (all:Bool):Sp × List Int:=
 let r:=q.gates.signal c ch all
 (({ q with gates:=r.1 }).moved (((q.gates.conds.getD c []).map Prod.fst).filter fun w=>!((r.1.conds.getD c []).map Prod.fst).contains w),r.2)
def pass (q:Sp) (n:Nat) (i:Ins) (ch:Int):Sp × Deed:=
 let m:=i.n
 if i.op=25 then
  let r:=q.gates.lock n m
  ({ q with gates:=r.1 },⟨m,0,r.2.2,if r.2.1=false∧r.2.2=0 then 1 else 0,[],[]⟩)
 else if i.op=26 then
  let r:=q.gates.unlock n m ch
  ({ q with gates:=r.1 },⟨m,0,r.2.2.2,0,[],if r.2.2.1 then [(r.2.1,0)] else []⟩)
 else if i.op=27 then
  let r:=q.gates.hold n m i.c.toNat ch
  ({ q with gates:=r.1 },⟨m,i.c.toNat,r.2.2.2,if r.2.2.2=0 then 2 else 0,[],if r.2.2.1 then [(r.2.1,0)] else []⟩)
 else if i.op=30 then
  let r:=q.gates.down n m
  ({ q with gates:=r.1 },⟨m,0,r.2.2,if r.2.1=false∧r.2.2=0 then 3 else 0,[],[]⟩)
 else if i.op=31 then
  let r:=q.gates.up m ch
  ({ q with gates:=r.1 },⟨m,0,r.2.2.2,0,[],if r.2.2.1 then [(r.2.1,0)] else []⟩)
 else
  let r:=q.signal m ch (i.op == 29)
  (r.1,⟨m,0,0,0,[],r.2.map fun w=>(w,0)⟩)
def askW (q:Sp) (n:Nat) (write:Bool) (x block:Nat) (b:Int):Sp × Deed:=
 if b < 0∨(q.blocks.length:Int)≤b then (q,⟨block,x,1,0,[],[]⟩)
 else if waitsK q.asked n then (q,⟨block,x,4,0,[],[]⟩)
 else ({ q with asked:=q.asked++[⟨n,b,write,x⟩] },⟨block,x,0,5,[],[]⟩)
def ask (q:Sp) (n:Nat) (write:Bool) (x block:Nat):Sp × Deed:=q.askW n write x block (wrap64 block)
def tube (q:Sp) (m:Nat):Tu:=q.tubes.getD m ⟨0,[],[],[]⟩
def putW (q:Sp) (n m y:Nat):Sp × Bool × Int × Bool:=
 let t:=q.tube m
 if waitsT t.ps t.gs n then (q,false,0,false)
 else match t.gs with
  | g::gs=>({ q with tubes:=q.tubes.set m { t with gs:=gs } },true,g,true)
  | []=>if t.ws.length < Go.Proofs.YtpnajphbjfehnaaGreat.Dk.most t.room then ({ q with tubes:=q.tubes.set m { t with ws:=t.ws++[y] } },true,0,false)
   else ({ q with tubes:=q.tubes.set m { t with ps:=t.ps++[((n:Int),y)] } },false,0,false)
def put (q:Sp) (n:Nat) (i:Ins):Sp × Deed:=
 let y:=(q.thr n).f.r i.a.toNat
 let r:=q.putW n i.n y
 (r.1,⟨i.n,y,0,if r.2.1 then 0 else 7,[],if r.2.2.2 then [(r.2.2.1,y)] else []⟩)
def getW (q:Sp) (n m:Nat):Sp × Nat × Bool × Int × Bool:=
 let t:=q.tube m
 if waitsT t.ps t.gs n then (q,0,false,0,false)
 else match t.ws with
  | []=>({ q with tubes:=q.tubes.set m { t with gs:=t.gs++[(n:Int)] } },0,false,0,false)
  | y::ws=>match t.ps with
   | []=>({ q with tubes:=q.tubes.set m { t with ws:=ws } },y,true,0,false)
   | (p,z)::ps=>({ q with tubes:=q.tubes.set m { t with ws:=ws++[z],ps:=ps } },y,true,p,true)
def get (q:Sp) (n:Nat) (i:Ins):Sp × Deed:=
 let r:=q.getW n i.n
 if r.2.2.1 then (r.1.setT n ((r.1.thr n).reg i.a.toNat r.2.1),⟨i.n,r.2.1,0,0,[],if r.2.2.2.2 then [(r.2.2.2.1,0)] else []⟩)
 else (r.1,⟨i.n,0,0,6,[],[]⟩)
def sleep (q:Sp) (n moments:Nat):Sp × Deed:=
 if moments=0 then (q,⟨moments,0,0,0,[],[]⟩)
 else if wrap64 moments < 1∨1099511627776 < wrap64 moments then (q,⟨moments,0,1,0,[],[]⟩)
 else if (n:Int) ∈ keysOf q.due then (q,⟨moments,0,4,0,[],[]⟩)
 else ({ q with due:=q.due++[((n:Int),min (q.now+wrap64 moments) 1099511627776)] },⟨moments,0,0,8,[],[]⟩)
def deed (q:Sp) (n:Nat) (i:Ins) (ch:Int):Sp × Deed:=
 let t:=q.thr n
 if i.op=20 then q.spawn n i
 else if i.op=32 then (q.setT n (t.reg i.a.toNat (q.hnd n)),⟨0,q.hnd n,0,0,[],[]⟩)
 else if i.op=21 then q.join n i
 else if i.op=22 then q.detach n (t.f.r i.a.toNat)
 else if (25≤i.op∧i.op≤31) then q.pass n i ch
 else if i.op=33 then q.ask n false 0 (t.f.r i.b.toNat)
 else if i.op=34 then q.ask n true (t.f.r i.b.toNat) (t.f.r i.a.toNat)
 else if i.op=35 then q.put n i
 else if i.op=36 then q.get n i
 else if i.op=37 then q.sleep n (t.f.r i.a.toNat)
 else if i.op=38 then (q,⟨t.f.r i.a.toNat,0,0,0,[],[]⟩)
 else (q,⟨0,0,0,0,[],[]⟩)
def act (q:Sp) (n:Nat) (i:Ins) (ch:Int):Sp × Eff:=
 let r:=q.deed n i ch
 let d:=r.2
 let t:=(r.1.thr n).next
 let q2:=r.1.setT n (if d.why=0 then t.reg 7 d.result.toNat else { t with why:=d.why,ins:=i })
 ((q2.tell n ⟨0,i.op,d.x,d.y,d.result,decide (d.why=0)⟩).wake d.woken,⟨d.begun++d.woken.map Prod.fst,decide (d.why≠0),false,decide (i.op=24)⟩)
def access (i:Ins) (ahead behind:Frm) (e:Int):Rec:=
 if i.op=18 then ⟨0,i.op,ahead.r i.b.toNat,behind.r i.a.toNat,e,true⟩ else ⟨0,i.op,ahead.r i.a.toNat,ahead.r i.b.toNat,e,true⟩
def plain (q:Sp) (n:Nat) (i:Ins):Sp × Eff:=
 let f:=(q.thr n).f
 if faultB f i q.mem.length=true then
  (if seenB i.op then q.tell n (access i f Frm.zero 6) else q).fin n 18446744073709551615
 else
  ({ (if seenB i.op then q.tell n (access i f (doneF f i q.mem) 0) else q) with mem:=doneM f i q.mem,thr:=upd q.thr n { q.thr n with f:=doneF f i q.mem } },Eff.none)
def prog (q:Sp):Prg:=⟨q.code,0,0,0,[],[],0,0⟩
def usedB (q:Sp) (slot:Int):Bool:=decide (0≤slot) && us q.st slot.toNat
def run (q:Sp) (slot ch:Int):Sp × Eff × Int:=
 let n:=slot.toNat
 let t:=q.thr n
 let i:=nextI q.prog t.f
 if q.usedB slot=false then (q,Eff.none,1)
 else if t.why≠0 then (q,Eff.none,4)
 else if nextB q.prog t.f=false then ((q.exit n 0).1,(q.exit n 0).2,0)
 else if i.op=23 then (((q.setT n t.next).exit n (t.f.r i.a.toNat)).1,((q.setT n t.next).exit n (t.f.r i.a.toNat)).2,0)
 else if classOf i.op=1 then ((q.plain n i).1,(q.plain n i).2,0)
 else ((q.act n i ch).1,(q.act n i ch).2,0)
def done (q:Sp) (k:Int):Sp × Eff × Int:=
 if q.asked.length=0 then (q,Eff.none,3)
 else
  let j:=at_K k q.asked.length
  let r:=q.asked.getD j Rq.zero
  (({ q with blocks:=r.left q.blocks,asked:=q.asked.eraseIdx j }).wake [(r.who,r.said q.blocks)],⟨[r.who],false,false,false⟩,0)
end Sp
end Dk
