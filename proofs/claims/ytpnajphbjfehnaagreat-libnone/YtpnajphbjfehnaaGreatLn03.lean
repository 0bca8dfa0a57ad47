import Derived.Test.YtpnajphbjfehnaaGreatLn02
import Derived.WalkKit
import Derived.ProofKit
import Derived.OpenShut
import Derived.Carry
import Derived.Deep.Slices
import Derived.Deep.Draws
set_option linter.unusedSimpArgs false
set_option linter.unusedVariables false
set_option linter.unnecessarySimpa false
set_option maxHeartbeats 8000000
set_option maxRecDepth 100000
namespace Dk
open Go Go.RowKit Go.Deep Go.ChangeShapes Go.WideShapes
theorem wf_i64 {x:Int} (h:(Lit.int .i64 x).wf=true):i64 x:=by
 simp [Lit.wf,IntKind.min,IntKind.max,IntKind.signed,IntKind.bits] at h
 unfold i64;omega
def Ins.zero:Ins:=⟨0,0,0,0,0⟩
structure SlI (B:Nat) (w:World) (A:Option Addr) (L C:Nat) (xs:List Int):Prop where
 len:xs.length=L
 cap:L≤C
 max:C≤maxLen
 wf:∀ x ∈ xs,i64 x
 cells:0 < L→∃ b o,A=some ⟨b,o,none⟩∧b < B∧∀ k,k < L→w.cell? ⟨b,o+k,none⟩=some (.int .i64 (xs.getD k 0))
structure SlN (B:Nat) (w:World) (A:Option Addr) (L C:Nat) (xs:List Ins):Prop where
 len:xs.length=L
 cap:L≤C
 max:C≤maxLen
 wf:∀ x ∈ xs,x.ok
 cells:0 < L→∃ b o,A=some ⟨b,o,none⟩∧b < B∧∀ k,k < L→
  w.cell? ⟨b,o+k*5,none⟩=some (.int .i64 (xs.getD k Ins.zero).op)∧w.cell? ⟨b,o+k*5+1,none⟩=some (.int .i64 (xs.getD k Ins.zero).a)∧
  w.cell? ⟨b,o+k*5+2,none⟩=some (.int .i64 (xs.getD k Ins.zero).b)∧w.cell? ⟨b,o+k*5+3,none⟩=some (.int .i64 (xs.getD k Ins.zero).c)∧
  w.cell? ⟨b,o+k*5+4,none⟩=some (.int .u64 ((xs.getD k Ins.zero).n:Nat))
structure SlF (B:Nat) (w:World) (A:Option Addr) (L C:Nat) (fs:List (List Ins)):Prop where
 len:fs.length=L
 cap:L≤C
 max:C≤maxLen
 cells:0 < L→∃ b o,A=some ⟨b,o,none⟩∧b < B∧∀ k,k < L→
  ∃ A' L' C',w.cell? ⟨b,o+k,none⟩=some (.slice A' L' C')∧SlN B w A' L' C' (fs.getD k [])
structure Sh where
 fA:Option Addr
 fL:Nat
 fC:Nat
 sA:Option Addr
 sL:Nat
 sC:Nat
 pA:Option Addr
 pL:Nat
 pC:Nat
abbrev pv (s:Sh) (p:Prg):Value:=
 .agg #[.slice s.fA s.fL s.fC,.int .i64 p.words,.int .i64 p.mutexes,.int .i64 p.conds,.slice s.sA s.sL s.sC,.slice s.pA s.pL s.pC,.int .i64 p.blocks,.int .i64 p.prio]
abbrev iv (i:Ins):Value:=.agg #[.int .i64 i.op,.int .i64 i.a,.int .i64 i.b,.int .i64 i.c,.int .u64 (i.n:Nat)]
structure PrgAt (B:Nat) (w:World) (s:Sh) (p:Prg):Prop where
 funcs:SlF B w s.fA s.fL s.fC p.funcs
 sems:SlI B w s.sA s.sL s.sC p.sems
 pipes:SlI B w s.pA s.pL s.pC p.pipes
 words:i64 p.words
 mutexes:i64 p.mutexes
 conds:i64 p.conds
 blocks:i64 p.blocks
 prio:i64 p.prio
theorem PrgAt.ok {B:Nat} {w:World} {s:Sh} {p:Prg} (h:PrgAt B w s p):p.ok:=by
 have h1:=h.funcs.len;have h2:=h.funcs.cap;have h3:=h.funcs.max
 have h4:=h.sems.len;have h5:=h.sems.cap;have h6:=h.sems.max
 have h7:=h.pipes.len;have h8:=h.pipes.cap;have h9:=h.pipes.max
 unfold maxLen at h3 h6 h9
 exact ⟨h.mutexes,h.conds,by omega,by omega,by omega⟩
theorem SlI.below {B B':Nat} {w w':World} {A:Option Addr} {L C:Nat} {xs:List Int} (h:SlI B w A L C xs) (hb:Below B' w w') (hB:B≤B'):SlI B w' A L C xs:=
 ⟨h.len,h.cap,h.max,h.wf,fun h0=>by
  obtain ⟨b,o,h1,h2,h3⟩:=h.cells h0
  exact ⟨b,o,h1,h2,fun k hk=>by rw [hb.cell (by show b < B';omega)];exact h3 k hk⟩⟩
theorem SlN.below {B B':Nat} {w w':World} {A:Option Addr} {L C:Nat} {xs:List Ins} (h:SlN B w A L C xs) (hb:Below B' w w') (hB:B≤B'):SlN B w' A L C xs:=
 ⟨h.len,h.cap,h.max,h.wf,fun h0=>by
  obtain ⟨b,o,h1,h2,h3⟩:=h.cells h0
  have e:∀ x,w'.cell? ⟨b,x,none⟩=w.cell? ⟨b,x,none⟩:=fun x=>hb.cell (by show b < B';omega)
  exact ⟨b,o,h1,h2,fun k hk=>by rw [e,e,e,e,e];exact h3 k hk⟩⟩
theorem SlF.below {B B':Nat} {w w':World} {A:Option Addr} {L C:Nat} {fs:List (List Ins)} (h:SlF B w A L C fs) (hb:Below B' w w') (hB:B≤B'):SlF B w' A L C fs:=
 ⟨h.len,h.cap,h.max,fun h0=>by
  obtain ⟨b,o,h1,h2,h3⟩:=h.cells h0
  refine ⟨b,o,h1,h2,fun k hk=>?_⟩
  obtain ⟨A',L',C',g1,g2⟩:=h3 k hk
  exact ⟨A',L',C',by rw [hb.cell (by show b < B';omega)];exact g1,g2.below hb hB⟩⟩
theorem PrgAt.below {B B':Nat} {w w':World} {s:Sh} {p:Prg} (h:PrgAt B w s p) (hb:Below B' w w') (hB:B≤B'):PrgAt B w' s p:=
 ⟨h.funcs.below hb hB,h.sems.below hb hB,h.pipes.below hb hB,h.words,h.mutexes,h.conds,h.blocks,h.prio⟩
theorem SlI.more {B B':Nat} {w:World} {A:Option Addr} {L C:Nat} {xs:List Int} (h:SlI B w A L C xs) (hB:B≤B'):SlI B' w A L C xs:=
 ⟨h.len,h.cap,h.max,h.wf,fun h0=>by obtain ⟨b,o,h1,h2,h3⟩:=h.cells h0;exact ⟨b,o,h1,by omega,h3⟩⟩
theorem lt_of_cell {w:World} {a:Addr} {v:Value} (h:w.cell? a=some v):a.block < w.heap.size:=by
 unfold World.cell? at h
 split at h
 ·rename_i c e f hh
  exact (Array.getElem?_eq_some_iff.1 hh).1
 ·cases h
theorem zb {w w':World} (h:Below w.heap.size w w') (o:Obj):Below w.heap.size w (w'.alloc o):=h.alloc h.size o
theorem zm {w w':World} (h:Below w.heap.size w w'):Below w.heap.size w w'.drew:=h.drew
theorem zy {w w':World} (h:Below w.heap.size w w') (n:Nat):Below w.heap.size w (w'.drewN n):=⟨h.os,h.tape,h.output,h.size,h.block⟩
theorem zg {w w' w'':World} (h:Below w.heap.size w w') (hb:Below w'.heap.size w' w''):Below w.heap.size w w'':=h.trans (hb.mono h.size)
theorem up_set {w w':World} {b o:Nat} (h:Below w.heap.size w w') (hb:w.heap.size≤b) (v:Value):Below w.heap.size w (w'.setCell ⟨b,o,none⟩ v):=h.setCell hb v
theorem bcell {W w1:World} (hb:Below W.heap.size W w1):(∀ b o,b < W.heap.size→w1.cell? ⟨b,o,none⟩=W.cell? ⟨b,o,none⟩)∧(∀ b o,b < W.heap.size→w1.frozen? ⟨b,o,none⟩=W.frozen? ⟨b,o,none⟩)∧W.heap.size≤w1.heap.size:=
 ⟨fun b o h=>hb.cell (p:=⟨b,o,none⟩) h,fun b o h=>hb.frozen (p:=⟨b,o,none⟩) h,hb.size⟩
theorem zbg {w w':World} {cs:Array Value} {t:TypeId} (h:Below (w.alloc (.cells cs t)).heap.size (w.alloc (.cells cs t)) w'):∀ o,w'.cell? ⟨w.heap.size,o,none⟩=cs[o]?:=by
 intro o
 rw [h.cell (by simp)]
 unfold World.cell?
 have:(w.alloc (.cells cs t)).heap[w.heap.size]? = some (.cells cs t):=(MapKept.heap_alloc w _).1
 simp only [this]
 rfl
section
variable {H : Type} {enc : TypeId × Value → H} {P : Go.Program} {w : World} {held : Bool}
theorem plain_of_cell {a:Addr} {v:Value} (h:w.cell? (a.add 0)=some v):a=⟨a.block,a.off,none⟩:=by
 have h1:=World.cell?_spot h
 obtain ⟨b,o,s⟩:=a
 simp only [Addr.add,if_true] at h1
 rw [h1]
theorem zb0 (hl:laidOutB P=true) {W W':World} {sp:Nat→Bool}:∀ (ts:List TypeId) (vs:List Value) (ds:List (DataW H)) (p:List MemPlace),(∀ t ∈ ts,P.readableRec t=true∧t < P.types.size)→
  DataW.TrodAll enc P W 0 (fun _=>true) true ts vs ds p→(∀ x ∈ p,W.sameAt W' x)→(∀ x ∈ p,sp x.block=true)→DataW.TrodAll enc P W' 0 sp true ts vs ds p
 | [],vs,ds,p,_,h,_,_=>by
  cases vs <;> cases ds <;> first | exact h | exact absurd h (by simp [DataW.TrodAll])
 | t::ts,[],ds,p,_,h,_,_=>by cases ds <;> exact absurd h (by simp [DataW.TrodAll])
 | t::ts,v::vs,[],p,_,h,_,_=>absurd h (by simp [DataW.TrodAll])
 | t::ts,v::vs,d::ds,p,hr,h,h1,h2=>by
  obtain ⟨a,b,ha,hb,rfl⟩:=h
  refine ⟨a,b,WideElems.Trod_stays hl (hr t (by simp)).1 (hr t (by simp)).2 ha (fun x hx=>h1 x (by simp [hx])) (fun x hx=>h2 x (by simp [hx])),?_,rfl⟩
  exact zb0 hl ts vs ds b (fun t' ht'=>hr t' (by simp [ht'])) hb (fun x hx=>h1 x (by simp [hx])) (fun x hx=>h2 x (by simp [hx]))
theorem law_post {f:Func} {s:ChangeSpec} {fresh handsOn again:Bool} {W W':World} {args:Array Value} {ds gs:List (DataW H)} {before:List MemPlace} {tB:TypeId}
  (hl:laidOutB P=true) (hr:∀ t ∈ f.params.toList,P.readableRec t=true∧t < P.types.size) (hv0:s.vars=[]) (htB:f.resultTypes=#[tB]) (hB:P.underlying tB=some .bool)
  (hs:∀ ds:List (DataW H),ds.length=f.params.toList.length→s.fn H ds={ results:=[.lit (.bool true)],args:=ds })
  (hW:DataW.Whole enc P f.params.toList s.vars false W args.toList ds gs before) (hb:Below W.heap.size W W'):s.post enc P f false fresh handsOn again W args (.bool true) W':=by
 have hW':=hW
 obtain ⟨p,q,hA,hV,rfl,hfz,_⟩:=hW
 rw [hv0] at hV
 obtain ⟨rfl,rfl⟩:gs=[]∧q=[]:=trodVars_none hV
 have hlen:∀ (ts:List TypeId) (vs:List Value) (ds:List (DataW H)) (p:List MemPlace),DataW.TrodAll enc P W 0 (fun _=>true) true ts vs ds p→ds.length=ts.length:=by
  intro ts
  induction ts with
  | nil=>intro vs ds p h;cases vs <;> cases ds <;> simp [DataW.TrodAll] at h ⊢
  | cons t ts ih=>
   intro vs ds p h
   cases vs with
   | nil=>cases ds <;> simp [DataW.TrodAll] at h
   | cons v vs=>
    cases ds with
    | nil=>simp [DataW.TrodAll] at h
    | cons d ds=>
     obtain ⟨a,b,_,h2,_⟩:=h
     simp [ih vs ds b h2]
 have hfn:=hs (ds++[]) (by simpa using hlen _ _ _ _ hA)
 have hlt:∀ x ∈ p,x.block < W.heap.size:=fun x hx=>hW'.lt x (by simp [hx])
 have hargs:∀ sp:Nat→Bool,(∀ x ∈ p,sp x.block=true)→DataW.TrodAll enc P W' 0 sp true f.params.toList args.toList ds p:=fun sp h=>
  zb0 hl _ _ _ _ hr hA (fun x hx=>hb.same (hlt x hx)) h
 have hres:∀ (b:Nat) (sp:Nat→Bool) (hd:Bool),DataW.TrodAll enc P W' b sp hd f.resultTypes.toList ((Value.bool true).resultList f.resultTypes.size) [.lit (.bool true)] []:=by
  intro b sp hd
  rw [htB]
  exact trodAll_cons_mk (shut_bool hB _) trodAll_mk0
 have hok:=ok_one (P:=P) (W':=W') (f:=f) htB rfl (okWide_bool_mk hB true)
 have hvars:∀ sp:Nat→Bool,DataW.TrodVars enc P W' sp s.vars (s.fn H (ds++[])).vars []:=fun sp=>by rw [hv0,hfn];rfl
 refine ⟨ds,[],p++[],[],p,[],hW',by rw [hfn];exact hres _ _ _,by rw [hfn];simpa using hargs _ (fun x hx=>by simpa using hlt x hx),hvars _,World.keptBut_mono (fun x hx=>⟨hx,?_⟩) (hb.frame _),fun _=>?_⟩
 ·exact Or.inr (by simpa using hx)
 ·refine ⟨hok,_,_,([]++p)++[],⟨[]++p,[],trodAll_append (hargs _ (fun _ _=>rfl)) (hres _ _ _),hvars _,rfl,?_,by simp⟩,?_⟩
  ·intro b off hp
   have hp':MemPlace.cell b off ∈ p:=by simpa using hp
   rw [hb.frozen (hlt _ hp')]
   exact hfz b off (by simpa using hp')
  ·intro x hx _
   simpa using hx
end
end Dk
