import Derived.Test.YtglhhlfopccmaaaGreatOq42
import Derived.ChangeKeysEq
set_option linter.unusedSimpArgs false
set_option linter.unusedVariables false
set_option linter.unnecessarySimpa false
set_option maxHeartbeats 8000000
set_option maxRecDepth 100000
namespace Dk
open Go Go.RowKit
structure SlC (w:World) (A:Option Addr) (n C s:Nat) (xs:List Value):Prop where
 len:xs.length=n*s
 cap:n≤C
 max:C≤maxLen
 cells:0 < n→∃ b o,A=some ⟨b,o,none⟩∧b < w.heap.size∧∀ j u,xs[j]? = some u→w.cell? ⟨b,o+j,none⟩=some u
theorem SlC.ziw {w:World} {base:Nat} {e:TypeId} {A:Option Addr} {n C s:Nat} {xs:List Value} (h:w.ownsRow base e s (.slice A n C) n xs):SlC w A n C s xs:=by
 obtain ⟨_,C',ev,h1,h2⟩:=zf h
 injection ev with e1 e2 e3
 subst e3
 refine ⟨h.1,h1,h2,fun h0=>?_⟩
 obtain ⟨_,⟨e0,h0'⟩ | ⟨g,cap,cur,e0,hg⟩⟩:=id h
 ·omega
 ·injection e0 with q1 q2 q3
  subst q1
  refine ⟨g,0,rfl,(World.ownsRow.lt h g rfl).2,fun j u hj=>?_⟩
  have:=h.cells (g:=g) rfl j u hj
  rw [Addr.add_lit] at this
  exact this
end Dk
namespace Go.Proofs.YtglhhlfopccmaaaGreat
open Go.RowKit Go.Lib
theorem same_rec (d:Nat) (r:Dk.Rec) (w:World):(Op.equalIn (d+2) 74 (.agg r.cells.toArray) (.agg r.cells.toArray)).run Tryz.prog w=.ok true w:=by
 unfold Dk.Rec.cells
 rw [run_equalIn_agg w (d+1) 74 _ _ (by kernel_rfl) (by kernel_rfl)]
 simp [go_sem,part]
theorem neq_rec (r:Dk.Rec) (w:World):(binOp .neq 74 (.agg r.cells.toArray) (.agg r.cells.toArray)).run Tryz.prog w=.ok (.bool false) w:=by
 rw [run_neq_struct,same_rec 9998]
 rfl
theorem Same_yes (A A':Option Addr) (n C C':Nat) (rs:List Dk.Rec) (w:World) (h:Dk.SlC w A n C 6 (rs.flatMap Dk.Rec.cells)) (h':Dk.SlC w A' n C' 6 (rs.flatMap Dk.Rec.cells)) :
  Calls Tryz.prog 24 #[.slice A n C,.slice A' n C'] w fun e w'=>e=.returned (.bool true)∧Below w.heap.size w w':=by
 have hcap:=h.cap
 have hmax:=h.max
 unfold maxLen at hmax
 have hlen:rs.length=n:=by
  have:=h.len
  rw [Dk.zbj Dk.Rec.len] at this
  omega
 have HL:Hid (rs.length=n):=hlen
 clear hlen
 go_enter Tryz.func24,Tryz.ntmps24
 go_wp2
 go_loopw [5] (fun i w'=>∃ k:Nat,k≤n∧i=.int .i64 k∧Hid (Below w.heap.size w w')) (fun i w'=>n - (intOf i).toNat)
 case atStart=>exact ⟨0,Nat.zero_le _,rfl,Below.refl _ _⟩
 case round=>
  obtain ⟨k,hk,rfl,HB⟩:=hrel
  by_cases hlt:k < n
  ·obtain ⟨b,o,rfl,hb,hc⟩:=h.cells (by omega)
   obtain ⟨b',o',rfl,hb',hc'⟩:=h'.cells (by omega)
   have hkl:k < rs.length:=by have:=HL.out;omega
   obtain ⟨r,hr⟩:∃ r,rs[k]? = some r:=⟨_,List.getElem?_eq_getElem hkl⟩
   have g:=fun j (hj:j < 6) (u:Value) (hu:r.cells[j]? = some u)=>hc (k*6+j) u ((Dk.flat_get Dk.Rec.len rs k j r hr hj).trans hu)
   have g':=fun j (hj:j < 6) (u:Value) (hu:r.cells[j]? = some u)=>hc' (k*6+j) u ((Dk.flat_get Dk.Rec.len rs k j r hr hj).trans hu)
   have t:∀ j,wr.cell? ⟨b,j,none⟩=w.cell? ⟨b,j,none⟩:=fun j=>HB.out.cell (by show b < w.heap.size;exact hb)
   have t':∀ j,wr.cell? ⟨b',j,none⟩=w.cell? ⟨b',j,none⟩:=fun j=>HB.out.cell (by show b' < w.heap.size;exact hb')
   have c0:wr.cell? ⟨b,o+k*6,none⟩=some (.int .u64 (r.thread:Nat)):=by rw [t];exact g 0 (by omega) _ rfl
   have c1:wr.cell? ⟨b,o+k*6+1,none⟩=some (.int .i64 r.op):=by rw [t];exact g 1 (by omega) _ rfl
   have c2:wr.cell? ⟨b,o+k*6+2,none⟩=some (.int .u64 (r.x:Nat)):=by rw [t];exact g 2 (by omega) _ rfl
   have c3:wr.cell? ⟨b,o+k*6+3,none⟩=some (.int .u64 (r.y:Nat)):=by rw [t];exact g 3 (by omega) _ rfl
   have c4:wr.cell? ⟨b,o+k*6+4,none⟩=some (.int .i64 r.result):=by rw [t];exact g 4 (by omega) _ rfl
   have c5:wr.cell? ⟨b,o+k*6+5,none⟩=some (.bool r.fin):=by rw [t];exact g 5 (by omega) _ rfl
   have d0:wr.cell? ⟨b',o'+k*6,none⟩=some (.int .u64 (r.thread:Nat)):=by rw [t'];exact g' 0 (by omega) _ rfl
   have d1:wr.cell? ⟨b',o'+k*6+1,none⟩=some (.int .i64 r.op):=by rw [t'];exact g' 1 (by omega) _ rfl
   have d2:wr.cell? ⟨b',o'+k*6+2,none⟩=some (.int .u64 (r.x:Nat)):=by rw [t'];exact g' 2 (by omega) _ rfl
   have d3:wr.cell? ⟨b',o'+k*6+3,none⟩=some (.int .u64 (r.y:Nat)):=by rw [t'];exact g' 3 (by omega) _ rfl
   have d4:wr.cell? ⟨b',o'+k*6+4,none⟩=some (.int .i64 r.result):=by rw [t'];exact g' 4 (by omega) _ rfl
   have d5:wr.cell? ⟨b',o'+k*6+5,none⟩=some (.bool r.fin):=by rw [t'];exact g' 5 (by omega) _ rfl
   have hq:∀ w,(binOp .neq 74 (.agg #[.int .u64 (r.thread:Nat),.int .i64 r.op,.int .u64 (r.x:Nat),.int .u64 (r.y:Nat),.int .i64 r.result,.bool r.fin]) (.agg #[.int .u64 (r.thread:Nat),.int .i64 r.op,.int .u64 (r.x:Nat),.int .u64 (r.y:Nat),.int .i64 r.result,.bool r.fin])).run Tryz.prog w=.ok (.bool false) w:=fun w=>neq_rec r w
   clear hc hc' h h' g g' t t' hr
   go_wp2
   go_quiet (fail)
   go_wp2
   go_roundw
   case rel=>exact ⟨k+1,by omega,by go_num,Dk.zac HB.out nq⟩
   case measure=>simp [intOf];omega
  ·go_wp2
   go_ret
   exact ⟨rfl,HB.out⟩
theorem zqe (A A':Option Addr) (n C C':Nat) (xs:List Nat) (w:World) (h:Dk.SlC w A n C 1 (Dk.uwK xs)) (h':Dk.SlC w A' n C' 1 (Dk.uwK xs)) :
  Calls Tryz.prog 26 #[.slice A n C,.slice A' n C'] w fun e w'=>e=.returned (.bool true)∧Below w.heap.size w w':=by
 have hcap:=h.cap
 have hmax:=h.max
 unfold maxLen at hmax
 have hlen:xs.length=n:=by
  have:=h.len
  rw [List.length_map] at this
  omega
 have HL:Hid (xs.length=n):=hlen
 clear hlen
 go_enter Tryz.func26,Tryz.ntmps26
 go_wp2
 go_loopw [5] (fun i w'=>∃ k:Nat,k≤n∧i=.int .i64 k∧Hid (Below w.heap.size w w')) (fun i w'=>n - (intOf i).toNat)
 case atStart=>exact ⟨0,Nat.zero_le _,rfl,Below.refl _ _⟩
 case round=>
  obtain ⟨k,hk,rfl,HB⟩:=hrel
  by_cases hlt:k < n
  ·obtain ⟨b,o,rfl,hb,hc⟩:=h.cells (by omega)
   obtain ⟨b',o',rfl,hb',hc'⟩:=h'.cells (by omega)
   have hkl:k < xs.length:=by have:=HL.out;omega
   obtain ⟨v,hv⟩:∃ v,xs[k]? = some v:=⟨_,List.getElem?_eq_getElem hkl⟩
   have hu:(Dk.uwK xs)[k]? = some (.int .u64 (v:Nat)):=by rw [List.getElem?_map,hv];rfl
   have c1:wr.cell? ⟨b,o+k,none⟩=some (.int .u64 (v:Nat)):=by rw [HB.out.cell (by show b < w.heap.size;exact hb)];exact hc k _ hu
   have c2:wr.cell? ⟨b',o'+k,none⟩=some (.int .u64 (v:Nat)):=by rw [HB.out.cell (by show b' < w.heap.size;exact hb')];exact hc' k _ hu
   clear hc hc' h h' hv hu
   go_wp2
   go_quiet (fail)
   go_wp2
   go_roundw
   case rel=>exact ⟨k+1,by omega,by go_num,Dk.zac HB.out nq⟩
   case measure=>simp [intOf];omega
  ·go_wp2
   go_ret
   exact ⟨rfl,HB.out⟩
end Go.Proofs.YtglhhlfopccmaaaGreat
namespace Dk
open Go Go.RowKit
theorem run_no {q:Sp} {slot ch:Int} (h:(q.run slot ch).2.2≠0):(q.run slot ch).1=q∧(q.run slot ch).2.1=Eff.none:=by
 unfold Sp.run at h ⊢
 dsimp only at h ⊢
 split
 ·exact ⟨rfl,rfl⟩
 split
 ·exact ⟨rfl,rfl⟩
 ·rename_i h1 h2
  rw [if_neg h1,if_neg h2] at h
  repeat' split at h
  all_goals exact absurd rfl h
end Dk
namespace Go.Proofs.YtglhhlfopccmaaaGreat
open Go.RowKit Go.Lib
section
variable {W w w' : World} {L L1 L2 : Dk.Loc} {q q0 q1 q2 : Dk.Sp} {k k1 k2 N R j : Nat} {us us' t2 : List Dk.zd}
theorem zdd.mono {N' k' R':Nat} (h:zdd W w L q0 q N k R us) (hN:N≤N') (hk:k≤k') (hR:R≤R'):zdd W w L q0 q N' k' R' us:=⟨h.cor.mono hk,h.life.mono hN,h.dims,Nat.le_trans h.recs hR⟩
def Goes (W w:World) (L:Dk.Loc) (q0 q:Dk.Sp) (j:Nat) (us:List Dk.zd):Prop:=zdd W w L q0 q j (j+1) (200*j) us
theorem znh (h:Goes W w L q0 q j us) (b:Dk.Born q0) (hj:j≤150) (slot ch:Int) (hch:Dk.i64 ch) :
  Calls Tryz.prog 28 #[.pointer (some ⟨L.b,0,none⟩),.int .i64 slot,.int .i64 ch] w fun e w'=>∃ A C,e=.returned (.tuple #[eff A (q.run slot ch).2.1.woken.length C (q.run slot ch).2.1.stopped (q.run slot ch).2.1.ended (q.run slot ch).2.1.yielded,.int .i64 (q.run slot ch).2.2])∧Goes W w' L q0 (q.run slot ch).1 (j+1) (Dk.rowOf 3 1 (.slice A (q.run slot ch).2.1.woken.length C) (q.run slot ch).2.1.woken.length (Dk.is (q.run slot ch).2.1.woken)::us):=by
 refine (zsm h b (by omega) (by omega) (by omega) slot hch).mono ?_
 rintro e w' ⟨A,C,he,h'⟩
 exact ⟨A,C,he,h'.mono (Nat.le_refl _) (Nat.le_refl _) (by omega)⟩
theorem zj2 (h:Goes W w L q0 q j us) (b:Dk.Born q0) (hj:j≤150) (ch:Int) (hch:Dk.i64 ch) :
  Calls Tryz.prog 29 #[.pointer (some ⟨L.b,0,none⟩),.int .i64 ch] w fun e w'=>∃ A C,e=.returned (.tuple #[eff A (q.done ch).2.1.woken.length C false false false,.int .i64 (q.done ch).2.2])∧Goes W w' L q0 (q.done ch).1 (j+1) (Dk.rowOf 3 1 (.slice A (q.done ch).2.1.woken.length C) (q.done ch).2.1.woken.length (Dk.is (q.done ch).2.1.woken)::us):=by
 refine (zof h b (by omega) (by omega) (by omega) ch hch).mono ?_
 rintro e w' ⟨A,C,he,h'⟩
 exact ⟨A,C,he,h'.mono (by omega) (by omega) (by omega)⟩
theorem zkt (h:Goes W w L q0 q j us) (b:Dk.Born q0) (hj:j≤150) :
  Calls Tryz.prog 30 #[.pointer (some ⟨L.b,0,none⟩)] w fun e w'=>∃ A C,e=.returned (eff A q.tick.2.woken.length C false false false)∧Goes W w' L q0 q.tick.1 (j+1) (Dk.rowOf 3 1 (.slice A q.tick.2.woken.length C) q.tick.2.woken.length (Dk.is q.tick.2.woken)::us):=by
 refine (zo9 h b (by omega) (by omega) (by omega)).mono ?_
 rintro e w' ⟨A,C,he,h'⟩
 exact ⟨A,C,he,h'.mono (by omega) (by omega) (by omega)⟩
theorem Goes.with (h:Goes W w L q0 q j us) (c:Cor W w L q (j+1) us→Cor W w' L q (j+1) us'):Goes W w' L q0 q j us':=zdd.with h c
def Beside (W:World) (L:Dk.Loc) (q:Dk.Sp) (k:Nat) (ts:List Dk.zd):Prop:=∀ w us,Dk.Sep W w (us++ts)→Cor W w L q k us
def Twin (W w:World) (L1 L2:Dk.Loc) (q0 q:Dk.Sp) (j:Nat) (us:List Dk.zd):Prop:=∃ t2,Goes W w L1 q0 q j (us++t2)∧Beside W L2 q (j+1) t2
theorem Twin.with (h:Twin W w L1 L2 q0 q j us) (c:∀ q k t2,Cor W w L1 q k (us++t2)→Cor W w' L1 q k (us'++t2)):Twin W w' L1 L2 q0 q j us':=by
 obtain ⟨t2,h1,h2⟩:=h
 exact ⟨t2,h1.with (c _ _ _),h2⟩
def zpq (W w:World) (L1 L2:Dk.Loc) (q0 q q':Dk.Sp) (j:Nat) (us:List Dk.zd):Prop:=∃ t2,Goes W w L1 q0 q' (j+1) (us++t2)∧Beside W L2 q (j+1) t2∧Dk.Life j q∧Dk.Dims q0 q∧q.recs.length≤200*j
theorem zpq.with (h:zpq W w L1 L2 q0 q q1 j us) (c:∀ q k t2,Cor W w L1 q k (us++t2)→Cor W w' L1 q k (us'++t2)):zpq W w' L1 L2 q0 q q1 j us':=by
 obtain ⟨t2,h1,h2⟩:=h
 exact ⟨t2,h1.with (c _ _ _),h2⟩
theorem zpq.same (h:zpq W w L1 L2 q0 q q j us):Twin W w L1 L2 q0 q (j+1) us:=by
 obtain ⟨t2,h1,h2,_⟩:=h
 exact ⟨t2,h1,fun w us s=>(h2 w us s).mono (by omega)⟩
end
section
variable {W w w' : World} {L L1 L2 : Dk.Loc} {q q0 q1 q2 : Dk.Sp} {j : Nat} {us us' : List Dk.zd}
theorem Twin.out (h:Twin W w L1 L2 q0 q j us):Below W.heap.size W w:=by
 obtain ⟨t2,h1,_⟩:=h
 exact h1.cor.out
end
end Go.Proofs.YtglhhlfopccmaaaGreat
namespace Dk
theorem ready_in {q:Sp} {x:Int} (h:x ∈ q.ready):∃ n:Nat,x=n∧n < 16∧us q.st n=true∧(q.thr n).why=0:=by
 unfold Sp.ready at h
 rw [List.mem_filter] at h
 obtain ⟨j,e,hj,hu⟩:=zmc h.1
 subst e
 exact ⟨j,rfl,hj,hu,by simpa using h.2⟩
theorem zkn {q:Sp}:∀ x ∈ q.ready,i64 x:=fun x hx=>by
 obtain ⟨n,rfl,hn,_⟩:=ready_in hx
 unfold i64
 omega
end Dk
namespace Go.Proofs.YtglhhlfopccmaaaGreat
open Go.RowKit Go.Lib
section
variable {W w w' : World} {L L1 L2 : Dk.Loc} {q q0 q1 q2 : Dk.Sp} {j : Nat} {us us' : List Dk.zd}
theorem zfk (h:Goes W w L q0 q j us) (hj:j≤150) :
  Calls Tryz.prog 25 #[.pointer (some ⟨L.b,0,none⟩)] w fun e w'=>∃ A C,e=.returned (.slice A q.recs.length C)∧Goes W w' L q0 q j (Dk.rowOf 74 6 (.slice A q.recs.length C) q.recs.length (q.recs.flatMap Dk.Rec.cells)::us):=by
 refine (zk4 h.cor (by have:=h.recs;omega)).mono ?_
 rintro e w' ⟨A,C,he,h'⟩
 exact ⟨A,C,he,h.with fun _=>h'⟩
theorem zgi (h:Goes W w L q0 q j us) (b:Dk.Born q0) :
  Calls Tryz.prog 27 #[.pointer (some ⟨L.b,0,none⟩)] w fun e w'=>∃ A C,e=.returned (.slice A q.mem.length C)∧Goes W w' L q0 q j (Dk.rowOf 38 1 (.slice A q.mem.length C) q.mem.length (Dk.uwK q.mem)::us):=by
 refine (znx h.cor (by have:=h.dims.ml;have:=b.mem;omega)).mono ?_
 rintro e w' ⟨A,C,he,h'⟩
 exact ⟨A,C,he,h.with fun _=>h'⟩
theorem zhq (h:Goes W w L q0 q j us) (b:Dk.Born q0) :
  Calls Tryz.prog 22 #[.pointer (some ⟨L.b,0,none⟩)] w fun e w'=>∃ A C,e=.returned (.slice A q.ready.length C)∧Goes W w' L q0 q j (Dk.rowOf 3 1 (.slice A q.ready.length C) q.ready.length (Dk.is q.ready)::us):=by
 refine (zp2 h.cor (by rw [h.dims.sl];exact b.h16)).mono ?_
 rintro e w' ⟨A,C,he,h'⟩
 exact ⟨A,C,he,h.with fun _=>h'⟩
theorem sli_of {e:TypeId} {A:Option Addr} {C B:Nat} {xs:List Int} (h:w.ownsRow B e 1 (.slice A xs.length C) xs.length (Dk.is xs)) (hx:∀ x ∈ xs,Dk.i64 x):Dk.SlI w.heap.size w A xs.length C xs:=by
 obtain ⟨A',C',ev,h'⟩:=Dk.zck h hx
 injection ev with e1 e2 e3
 subst e1 e3
 exact h'
end
end Go.Proofs.YtglhhlfopccmaaaGreat
namespace Dk
open Go Go.RowKit
structure Cell where
 L:Loc
 q0:Sp
 q:Sp
def Cell.ptr (c:Cell):Value:=.pointer (some ⟨c.L.b,0,none⟩)
def Cell.go (c:Cell) (q:Sp):Cell:={ c with q:=q }
theorem zcq {α:Type}:∀ (l:List (List α)) (i:Nat) (x:List α),l[i]? = some x→l.flatten.Perm (x++(l.eraseIdx i).flatten)
 | [],i,x,h=>by simp at h
 | y::l,0,x,h=>by
  simp at h
  subst h
  exact List.Perm.refl _
 | y::l,i+1,x,h=>by
  have ih:=zcq l i x (by simpa using h)
  rw [List.flatten_cons,List.eraseIdx_cons_succ,List.flatten_cons]
  exact (List.Perm.append_left y ih).trans (List.perm_append_comm_assoc _ _ _)
end Dk
namespace Go.Proofs.YtglhhlfopccmaaaGreat
open Go.RowKit Go.Lib
structure zpo (W:World) (j:Nat) (c:Dk.Cell) (ps:List Dk.zd):Prop where
 lies:Beside W c.L c.q (j+1) ps
 born:Dk.Born c.q0
 life:Dk.Life j c.q
 dims:Dk.Dims c.q0 c.q
 recs:c.q.recs.length≤200*j
theorem zpo.le {W:World} {j j':Nat} {c:Dk.Cell} {ps:List Dk.zd} (h:zpo W j c ps) (hj:j≤j'):zpo W j' c ps:=
 ⟨fun w us s=>(h.lies w us s).mono (by omega),h.born,h.life.mono hj,h.dims,by have:=h.recs;omega⟩
def Many (W w:World) (cs:List Dk.Cell) (lev:Nat→Nat) (us:List Dk.zd):Prop:=∃ pss:List (List Dk.zd),pss.length=cs.length∧Dk.Sep W w (us++pss.flatten)∧∀ (i:Nat) c ps,cs[i]? = some c→pss[i]? = some ps→zpo W (lev i) c ps
section
variable {W w w' : World} {cs : List Dk.Cell} {j lev lev' : Nat → Nat} {us us' : List Dk.zd}
theorem Many.out (h:Many W w cs j us):Below W.heap.size W w:=by
 obtain ⟨pss,_,s,_⟩:=h
 exact s.out
theorem Many.map (h:Many W w cs j us) (f:∀ ts,Dk.Sep W w (us++ts)→Dk.Sep W w' (us'++ts)):Many W w' cs j us':=by
 obtain ⟨pss,hl,s,hf⟩:=h
 exact ⟨pss,hl,f _ s,hf⟩
theorem Many.drop {t:Dk.zd} (h:Many W w cs j (t::us)):Many W w cs j us:=h.map fun _ s=>s.sub (List.sublist_cons_self _ _)
theorem Many.zb {ce:Array Value} {e:TypeId} (h:Many W w cs j us) (ew:w'=w.alloc (.cells ce e)):Many W w' cs j (Dk.ze w.heap.size ce e::us):=h.map fun _ s=>s.zb ew
theorem Many.box {a:Nat} {ce:Array Value} {e:TypeId} (h:Many W w cs j us) (ht:Dk.ze a ce e ∈ us):Dk.Box w a ce e:=by
 obtain ⟨pss,_,s,_⟩:=h
 exact s.box (List.mem_append_left _ ht)
theorem Many.row {e:TypeId} {s m:Nat} {v:Value} {xs:List Value} (h:Many W w cs j us) (ht:Dk.rowOf e s v m xs ∈ us):w.ownsRow W.heap.size e s v m xs:=by
 obtain ⟨pss,_,s,_⟩:=h
 exact s.row (List.mem_append_left _ ht)
theorem Many.begin (s:Dk.Sep W w us):Many W w [] j us:=⟨[],rfl,by simpa using s,fun i c ps h=>by simp at h⟩
theorem Many.snoc {L:Dk.Loc} {q0:Dk.Sp} (h:Many W w cs (fun _=>0) us) (b:Dk.Born q0) (f:∀ ts,Dk.Sep W w (us++ts)→zdd W w' L q0 q0 0 1 0 (us++ts)):Many W w' (cs++[⟨L,q0,q0⟩]) (fun _=>0) us:=by
 obtain ⟨pss,hl,s,hf⟩:=h
 have hL:=f _ s
 obtain ⟨ps,s2,fl⟩:=hL.cor.opened
 refine ⟨pss++[ps],by simp [hl],?_,fun i c qs hc hq=>?_⟩
 ·rw [List.flatten_append,List.flatten_singleton,← List.append_assoc]
  exact s2
 ·by_cases hi:i < cs.length
  ·rw [List.getElem?_append_left hi] at hc
   rw [List.getElem?_append_left (by omega)] at hq
   exact hf i c qs hc hq
  ·have hic:=(List.getElem?_eq_some_iff.1 hc).1
   simp at hic
   obtain rfl:i=cs.length:=by omega
   rw [List.getElem?_append_right (by omega),Nat.sub_self] at hc
   rw [List.getElem?_append_right (by omega),show cs.length - pss.length=0 by omega] at hq
   cases hc
   cases hq
   exact ⟨fl,b,hL.life,hL.dims,by have:=hL.recs;omega⟩
theorem Many.at (h:Many W w cs j us) {i:Nat} {c:Dk.Cell} (hc:cs[i]? = some c):∃ rest,Goes W w c.L c.q0 c.q (j i) (us++rest)∧Dk.Born c.q0∧
  (∀ w' us' q',Goes W w' c.L c.q0 q' (j i+1) (us'++rest)→Many W w' (cs.set i (c.go q')) (Dk.upd j i (j i+1)) us')∧(∀ w' us',Goes W w' c.L c.q0 c.q (j i) (us'++rest)→Many W w' cs j us'):=by
 obtain ⟨pss,hl,s,hf⟩:=h
 have hil:=(List.getElem?_eq_some_iff.1 hc).1
 obtain ⟨ps,hps⟩:∃ ps,pss[i]? = some ps:=⟨_,List.getElem?_eq_getElem (by omega)⟩
 have F:=hf i c ps hc hps
 have key:∀ w' us',Dk.Sep W w' (us'++pss.flatten)→Dk.Sep W w' ((us'++(pss.eraseIdx i).flatten)++ps):=fun w' us' s=>s.perm (by
  refine (List.Perm.append_left us' (Dk.zcq pss i ps hps)).trans ?_
  rw [List.append_assoc]
  exact List.Perm.append_left us' List.perm_append_comm)
 refine ⟨(pss.eraseIdx i).flatten,⟨F.lies _ _ (key _ _ s),F.life,F.dims,F.recs⟩,F.born,fun w' us' q' hG=>?_,fun w' us' hG=>?_⟩
 ·obtain ⟨ps',s',f'⟩:=hG.cor.opened
  refine ⟨pss.set i ps',by rw [List.length_set,List.length_set,hl],?_,fun k d qs hd hq=>?_⟩
  ·have hp:=Dk.zcq (pss.set i ps') i ps' (List.getElem?_set_self (by omega))
   rw [List.eraseIdx_set_eq] at hp
   refine s'.perm ?_
   rw [List.append_assoc]
   exact List.Perm.append_left us' (List.perm_append_comm.trans hp.symm)
  ·by_cases hk:i=k
   ·subst hk
    rw [List.getElem?_set_self hil] at hd
    rw [List.getElem?_set_self (by omega)] at hq
    cases hd
    cases hq
    rw [Dk.upd_same]
    exact ⟨f',F.born,hG.life,hG.dims,hG.recs⟩
   ·rw [List.getElem?_set_ne hk] at hd hq
    rw [Dk.upd_ne _ _ (Ne.symm hk)]
    exact hf k d qs hd hq
 ·obtain ⟨ps',s',f'⟩:=hG.cor.opened
  refine ⟨pss.set i ps',by rw [List.length_set,hl],?_,fun k d qs hd hq=>?_⟩
  ·have hp:=Dk.zcq (pss.set i ps') i ps' (List.getElem?_set_self (by omega))
   rw [List.eraseIdx_set_eq] at hp
   refine s'.perm ?_
   rw [List.append_assoc]
   exact List.Perm.append_left us' (List.perm_append_comm.trans hp.symm)
  ·by_cases hk:i=k
   ·subst hk
    rw [hc] at hd
    rw [List.getElem?_set_self (by omega)] at hq
    cases hd
    cases hq
    exact ⟨f',F.born,hG.life,hG.dims,hG.recs⟩
   ·rw [List.getElem?_set_ne hk] at hq
    exact hf k d qs hd hq
theorem Many.le (h:Many W w cs lev us) (hl:∀ i,lev i≤lev' i):Many W w cs lev' us:=by
 obtain ⟨pss,h1,s,hf⟩:=h
 exact ⟨pss,h1,s,fun i c ps hc hp=>(hf i c ps hc hp).le (hl i)⟩
end
def OneM (W w:World) (b:Nat) (cs:List Dk.Cell) (j:Nat→Nat) (us:List Dk.zd):Prop:=∃ v,Many W w cs j (Dk.ze b #[v] 152::Dk.rowOf 27 1 v cs.length (cs.map Dk.Cell.ptr)::us)
theorem zn3 (b:Nat) (n:Int) (w:World) (hn:n < 0):Calls Tryz.prog 42 #[.pointer (some ⟨b,0,none⟩),.int .i64 n] w fun e w'=>e=.returned (.pointer none)∧w'=w:=by
 go_enter Tryz.func42,Tryz.ntmps42
 go_wp2_with fail
 go_ret
 exact ⟨rfl,rfl⟩
theorem zk5 (b:Nat) (A:Option Addr) (m C:Nat) (n:Nat) (w:World) (hc:w.cell? ⟨b,0,none⟩=some (.slice A m C)) (hn:m≤n):Calls Tryz.prog 42 #[.pointer (some ⟨b,0,none⟩),.int .i64 (n:Int)] w fun e w'=>e=.returned (.pointer none)∧w'=w:=by
 have h0:¬ ((n:Int) < 0):=by omega
 have h1:(m:Int)≤(n:Int):=by omega
 go_enter Tryz.func42,Tryz.ntmps42
 go_wp2_with fail
 go_ret
 exact ⟨rfl,rfl⟩
theorem zp5 (b g m C n:Nat) (v:Value) (w:World) (hc:w.cell? ⟨b,0,none⟩=some (.slice (some ⟨g,0,none⟩) m C)) (hv:w.cell? ⟨g,n,none⟩=some v) (hn:n < m):Calls Tryz.prog 42 #[.pointer (some ⟨b,0,none⟩),.int .i64 (n:Int)] w fun e w'=>e=.returned v∧w'=w:=by
 have h0:¬ ((n:Int) < 0):=by omega
 have h1:¬ ((m:Int)≤(n:Int)):=by omega
 have h2:(n:Int) < (m:Int):=by omega
 have h3:(0:Int)≤(n:Int):=by omega
 go_enter Tryz.func42,Tryz.ntmps42
 go_wp2_with fail
 go_ret
 exact ⟨rfl,rfl⟩
section
variable {W w w' : World} {b : Nat} {j : Nat → Nat} {cs : List Dk.Cell} {us : List Dk.zd}
theorem zcz (h:OneM W w b cs j us) {k:Nat} {c:Dk.Cell} (hc:cs[k]? = some c):Calls Tryz.prog 42 #[.pointer (some ⟨b,0,none⟩),.int .i64 (k:Int)] w fun e w'=>e=.returned c.ptr∧w'=w:=by
 obtain ⟨v,hM⟩:=h
 have hkl:=(List.getElem?_eq_some_iff.1 hc).1
 obtain ⟨g,C,x,ev,_,_,hx,hcell,_,_⟩:=Dk.zbo (hM.row (e:=27) (s:=1) (v:=v) (m:=cs.length) (xs:=cs.map Dk.Cell.ptr) (by simp)) hkl
 rw [List.getElem?_map,hc] at hx
 cases hx
 have hb:=(hM.box (a:=b) (ce:=#[v]) (e:=152) (by simp)).cell 0
 rw [ev] at hb
 exact zp5 b g cs.length C k _ w hb hcell hkl
theorem zjq (h:OneM W w b cs j us) (n:Int) (hn:n < 0∨(cs.length:Int)≤n):Calls Tryz.prog 42 #[.pointer (some ⟨b,0,none⟩),.int .i64 n] w fun e w'=>e=.returned (.pointer none)∧w'=w:=by
 by_cases h0:n < 0
 ·exact zn3 b n w h0
 ·obtain ⟨v,hM⟩:=h
  obtain ⟨A,C,ev,_,_⟩:=Dk.zf (hM.row (e:=27) (s:=1) (v:=v) (m:=cs.length) (xs:=cs.map Dk.Cell.ptr) (by simp))
  have hb:=(hM.box (a:=b) (ce:=#[v]) (e:=152) (by simp)).cell 0
  rw [ev] at hb
  obtain ⟨m,rfl⟩:∃ m:Nat,n=m:=⟨n.toNat,by omega⟩
  exact zk5 b A cs.length C m w hb (by omega)
end
end Go.Proofs.YtglhhlfopccmaaaGreat
namespace Dk
def doM (cs:List Cell) (ak asp ath ach:Int):List Cell × Int:=
 if ak=1 then (if asp < 0 then (cs,1) else match cs[asp.toNat]? with
  | none=>(cs,1)
  | some c=>(cs.set asp.toNat (c.go (c.q.run ath ach).1),(c.q.run ath ach).2.2))
 else if ak=2 then (if asp < 0 then (cs,1) else match cs[asp.toNat]? with
  | none=>(cs,1)
  | some c=>(cs.set asp.toNat (c.go (c.q.done ach).1),(c.q.done ach).2.2))
 else if ak=3 then (cs.map fun c=>c.go c.q.tick.1,0)
 else (cs,1)
theorem set_map {cs:List Cell} {i:Nat} {c:Cell} {c':Cell} (hc:cs[i]? = some c) (hp:c'.ptr=c.ptr):(cs.set i c').map Cell.ptr=cs.map Cell.ptr:=by
 rw [List.map_set,hp]
 apply List.ext_getElem?
 intro k
 by_cases h:i=k
 ·subst h
  have hl:=(List.getElem?_eq_some_iff.1 hc).1
  rw [List.getElem?_set_self (by simpa using hl),List.getElem?_map,hc]
  rfl
 ·rw [List.getElem?_set_ne h]
end Dk
namespace Go.Proofs.YtglhhlfopccmaaaGreat
open Go.RowKit Go.Lib
section
variable {W w w' : World} {b : Nat} {j : Nat → Nat} {cs : List Dk.Cell} {us us' : List Dk.zd}
theorem OneM.at (h:OneM W w b cs j us) {i:Nat} {c:Dk.Cell} (hc:cs[i]? = some c):∃ rest,Goes W w c.L c.q0 c.q (j i) (us++rest)∧Dk.Born c.q0∧
  (∀ w' us' q',Goes W w' c.L c.q0 q' (j i+1) (us'++rest)→OneM W w' b (cs.set i (c.go q')) (Dk.upd j i (j i+1)) us')∧(∀ w' us',Goes W w' c.L c.q0 c.q (j i) (us'++rest)→OneM W w' b cs j us'):=by
 obtain ⟨v,hM⟩:=h
 obtain ⟨rest,h1,h2,h3,h4⟩:=hM.at hc
 have mv:∀ (u r:List Dk.zd) (x y:Dk.zd),(u++([x,y]++r)).Perm ((x::y::u)++r):=fun u r x y=>(List.perm_append_comm_assoc u [x,y] r)
 refine ⟨[Dk.ze b #[v] 152,Dk.rowOf 27 1 v cs.length (cs.map Dk.Cell.ptr)]++rest,h1.with (fun c=>c.perm (mv _ _ _ _).symm),h2,fun w' us' q' hG=>⟨v,?_⟩,fun w' us' hG=>⟨v,?_⟩⟩
 ·rw [List.length_set,Dk.set_map (c':=c.go q') hc rfl]
  exact h3 w' _ q' (hG.with (fun c=>c.perm (mv _ _ _ _)))
 ·exact h4 w' _ (hG.with (fun c=>c.perm (mv _ _ _ _)))
theorem OneM.with (h:OneM W w b cs j us) (f:∀ v ts,Dk.Sep W w (us++(Dk.ze b #[v] 152::Dk.rowOf 27 1 v cs.length (cs.map Dk.Cell.ptr)::ts))→Dk.Sep W w' (us'++(Dk.ze b #[v] 152::Dk.rowOf 27 1 v cs.length (cs.map Dk.Cell.ptr)::ts))):OneM W w' b cs j us':=by
 obtain ⟨v,hM⟩:=h
 refine ⟨v,hM.map fun ts s=>?_⟩
 have mv:∀ (u r:List Dk.zd) (x y:Dk.zd),(u++([x,y]++r)).Perm ((x::y::u)++r):=fun u r x y=>(List.perm_append_comm_assoc u [x,y] r)
 exact (f v ts (s.perm (mv us ts _ _).symm)).perm (mv us' ts _ _)
theorem OneM.zb {ce:Array Value} {e:TypeId} (h:OneM W w b cs j us) (ew:w'=w.alloc (.cells ce e)):OneM W w' b cs j (Dk.ze w.heap.size ce e::us):=h.with fun _ _ s=>s.zb ew
theorem OneM.drop {t:Dk.zd} (h:OneM W w b cs j (t::us)):OneM W w b cs j us:=h.with fun _ _ s=>s.sub (List.sublist_cons_self _ _)
theorem OneM.below (h:OneM W w b cs j us) (u:Below w.heap.size w w'):OneM W w' b cs j us:=h.with fun _ _ s=>s.below u
theorem OneM.box {a:Nat} {ce:Array Value} {e:TypeId} (h:OneM W w b cs j us) (ht:Dk.ze a ce e ∈ us):Dk.Box w a ce e:=by
 obtain ⟨v,hM⟩:=h
 exact hM.box (List.mem_cons_of_mem _ (List.mem_cons_of_mem _ ht))
theorem OneM.row {e:TypeId} {s m:Nat} {v:Value} {xs:List Value} (h:OneM W w b cs j us) (ht:Dk.rowOf e s v m xs ∈ us):w.ownsRow W.heap.size e s v m xs:=by
 obtain ⟨v,hM⟩:=h
 exact hM.row (List.mem_cons_of_mem _ (List.mem_cons_of_mem _ ht))
theorem OneM.out (h:OneM W w b cs j us):Below W.heap.size W w:=by
 obtain ⟨v,hM⟩:=h
 exact hM.out
theorem OneM.le {j':Nat→Nat} (h:OneM W w b cs j us) (hl:∀ i,j i≤j' i):OneM W w b cs j' us:=by
 obtain ⟨v,hM⟩:=h
 exact ⟨v,hM.le hl⟩
theorem upd_le {J i:Nat} {j:Nat→Nat} (hj:∀ i,j i≤J):∀ k,Dk.upd j i (j i+1) k≤J+1:=fun k=>by
 unfold Dk.upd
 split
 ·have:=hj i;omega
 ·have:=hj k;omega
theorem zmg (h:OneM W w b cs j us) (asp ath ach:Int) (hs:asp < 0∨(cs.length:Int)≤asp) :
  Calls Tryz.prog 36 #[.pointer (some ⟨b,0,none⟩),.agg #[.int .i64 1,.int .i64 asp,.int .i64 ath,.int .i64 ach]] w fun e w'=>e=.returned (.int .i64 1)∧OneM W w' b cs j us:=by
 obtain ⟨W1,e1⟩:∃ W1,W1=w.alloc (.cells #[.int .i64 1,.int .i64 asp,.int .i64 ath,.int .i64 ach] 88):=⟨_,rfl⟩
 have h1:=h.zb e1
 have c1:=(h1.box (a:=w.heap.size) (ce:=#[.int .i64 1,.int .i64 asp,.int .i64 ath,.int .i64 ach]) (e:=88) (by simp)).cell
 have hd:=h1.below (Dk.zl (Below.refl _ _))
 have H1:Hid _:=e1.symm
 have HM:Hid (OneM W W1.drew b cs j (Dk.ze w.heap.size #[.int .i64 1,.int .i64 asp,.int .i64 ath,.int .i64 ach] 88::us)):=hd
 clear e1 h h1
 go_enter Tryz.func36,Tryz.ntmps36
 go_upto_region 6 with (rw [H1.out];clear H1)
 obtain ⟨S,eS⟩:∃ S:World→Prop,S=fun w'=>∀ o,w'.cell? ⟨w.heap.size,o,none⟩=(#[.int .i64 1,.int .i64 asp,.int .i64 ath,.int .i64 ach]:Array Value)[o]?:=⟨_,rfl⟩
 have S0:S W1.drew:=by rw [eS];exact (hd.box (a:=w.heap.size) (ce:=#[.int .i64 1,.int .i64 asp,.int .i64 ath,.int .i64 ach]) (e:=88) (by simp)).cell
 have SB:∀ w',S w'→True∧∀ o,w'.cell? ⟨w.heap.size,o,none⟩=(#[.int .i64 1,.int .i64 asp,.int .i64 ath,.int .i64 ach]:Array Value)[o]?:=fun w' h=>by rw [eS] at h;exact ⟨trivial,h⟩
 clear eS hd c1
 refine Dk.zg (S:=S) [] [0,1,2,4,5,6,7] [8,9,10,11,12] 6 (by kernel_rfl) (by kernel_rfl) (by kernel_rfl) (by kernel_rfl) rfl S0 _ ?_ (fun a' h=>h)
 refine Dk.za (v:=.pointer (some ⟨b,0,none⟩)) rfl rfl (fun w' hw'=>by go_simp) ?_
 simp only [zD]
 refine Dk.za (v:=.pointer (some ⟨w.heap.size,1,none⟩)) rfl rfl (fun w' hw'=>by go_simp) ?_
 simp only [zD]
 refine Dk.za (v:=.int .i64 asp) rfl rfl (fun w' hw'=>by obtain ⟨_,c⟩:=SB _ hw';go_simp) ?_
 simp only [zD]
 refine Dk.za (v:=.pointer (some ⟨w.heap.size,2,none⟩)) rfl rfl (fun w' hw'=>by go_simp) ?_
 simp only [zD]
 refine Dk.za (v:=.int .i64 ath) rfl rfl (fun w' hw'=>by obtain ⟨_,c⟩:=SB _ hw';go_simp) ?_
 simp only [zD]
 refine Dk.za (v:=.pointer (some ⟨w.heap.size,3,none⟩)) rfl rfl (fun w' hw'=>by go_simp) ?_
 simp only [zD]
 refine Dk.za (v:=.int .i64 ach) rfl rfl (fun w' hw'=>by obtain ⟨_,c⟩:=SB _ hw';go_simp) ?_
 simp only [zD]
 refine Dk.zar (rs:=[3]) (by kernel_rfl) (by simp) ?_
 intro i hi
 simp only [List.mem_cons,List.not_mem_nil,or_false] at hi
 subst hi
 refine Dk.zt (some 16) rfl rfl rfl (f:=42) (args:=#[.pointer (some ⟨b,0,none⟩),.int .i64 asp]) (by go_simp) ?_
 refine (zjq HM.out asp hs).mono ?_
 rintro e w2 ⟨rfl,ew⟩
 subst w2
 refine ⟨_,rfl,fun _=>S0,?_⟩
 simp only [zD]
 refine Dk.zar (rs:=[8]) (by kernel_rfl) (by simp) ?_
 intro i hi
 simp only [List.mem_cons,List.not_mem_nil,or_false] at hi
 subst hi
 refine Dk.zt (some 21) rfl rfl rfl (f:=28) (args:=#[.pointer none,.int .i64 ath,.int .i64 ach]) (by go_simp) ?_
 refine (RunC_nil ath ach _).mono ?_
 rintro e w3 ⟨rfl,u3⟩
 have hN:=(HM.out.below u3).drop
 refine ⟨_,rfl,fun h=>absurd (by decide) h,?_⟩
 simp only [zD]
 refine Dk.zv (by kernel_rfl) (fun c a w h=>h) _ 0 _ [9,10,11,12] _ _ (by kernel_rfl) ?_ (fun a' h=>h)
 refine Dk.za (v:=.tuple #[eff none 0 0 false false false,.int .i64 1]) rfl rfl (fun w' hw'=>by go_simp) ?_
 simp only [zD]
 refine Dk.za (v:=eff none 0 0 false false false) rfl rfl (fun w' hw'=>by go_simp) ?_
 simp only [zD]
 refine Dk.za (v:=.int .i64 1) rfl rfl (fun w' hw'=>by go_simp) ?_
 simp only [zD]
 refine Dk.za (v:=.int .i64 1) rfl rfl (fun w' hw'=>by go_simp) ?_
 simp only [zD]
 refine ⟨by kernel_rfl,?_⟩
 show NoPanic _ Exit.normal _ _
 refine NoPanic.normal ?_
 have HN:Hid (OneM _ _ _ _ _ _):=hN
 clear hN HM
 go_wp2_with fail
 go_ret
 exact ⟨rfl,HN.out⟩
theorem zji (h:OneM W w b cs j us) (ath ach:Int) (k:Nat) (c:Dk.Cell) (hc:cs[k]? = some c) (hj:j k≤150) (i2:Dk.i64 ach) :
  Calls Tryz.prog 36 #[.pointer (some ⟨b,0,none⟩),.agg #[.int .i64 1,.int .i64 (k:Int),.int .i64 ath,.int .i64 ach]] w fun e w'=>e=.returned (.int .i64 (c.q.run ath ach).2.2)∧OneM W w' b (cs.set k (c.go (c.q.run ath ach).1)) (Dk.upd j k (j k+1)) us:=by
 obtain ⟨W1,e1⟩:∃ W1,W1=w.alloc (.cells #[.int .i64 1,.int .i64 (k:Int),.int .i64 ath,.int .i64 ach] 88):=⟨_,rfl⟩
 have h1:=h.zb e1
 have c1:=(h1.box (a:=w.heap.size) (ce:=#[.int .i64 1,.int .i64 (k:Int),.int .i64 ath,.int .i64 ach]) (e:=88) (by simp)).cell
 have hd:=h1.below (Dk.zl (Below.refl _ _))
 have H1:Hid _:=e1.symm
 have HM:Hid (OneM W W1.drew b cs j (Dk.ze w.heap.size #[.int .i64 1,.int .i64 (k:Int),.int .i64 ath,.int .i64 ach] 88::us)):=hd
 clear e1 h h1
 go_enter Tryz.func36,Tryz.ntmps36
 go_upto_region 6 with (rw [H1.out];clear H1)
 obtain ⟨S,eS⟩:∃ S:World→Prop,S=fun w'=>∀ o,w'.cell? ⟨w.heap.size,o,none⟩=(#[.int .i64 1,.int .i64 (k:Int),.int .i64 ath,.int .i64 ach]:Array Value)[o]?:=⟨_,rfl⟩
 have S0:S W1.drew:=by rw [eS];exact (hd.box (a:=w.heap.size) (ce:=#[.int .i64 1,.int .i64 (k:Int),.int .i64 ath,.int .i64 ach]) (e:=88) (by simp)).cell
 have SB:∀ w',S w'→True∧∀ o,w'.cell? ⟨w.heap.size,o,none⟩=(#[.int .i64 1,.int .i64 (k:Int),.int .i64 ath,.int .i64 ach]:Array Value)[o]?:=fun w' h=>by rw [eS] at h;exact ⟨trivial,h⟩
 clear eS hd c1
 refine Dk.zg (S:=S) [] [0,1,2,4,5,6,7] [8,9,10,11,12] 6 (by kernel_rfl) (by kernel_rfl) (by kernel_rfl) (by kernel_rfl) rfl S0 _ ?_ (fun a' h=>h)
 refine Dk.za (v:=.pointer (some ⟨b,0,none⟩)) rfl rfl (fun w' hw'=>by go_simp) ?_
 simp only [zD]
 refine Dk.za (v:=.pointer (some ⟨w.heap.size,1,none⟩)) rfl rfl (fun w' hw'=>by go_simp) ?_
 simp only [zD]
 refine Dk.za (v:=.int .i64 (k:Int)) rfl rfl (fun w' hw'=>by obtain ⟨_,c⟩:=SB _ hw';go_simp) ?_
 simp only [zD]
 refine Dk.za (v:=.pointer (some ⟨w.heap.size,2,none⟩)) rfl rfl (fun w' hw'=>by go_simp) ?_
 simp only [zD]
 refine Dk.za (v:=.int .i64 ath) rfl rfl (fun w' hw'=>by obtain ⟨_,c⟩:=SB _ hw';go_simp) ?_
 simp only [zD]
 refine Dk.za (v:=.pointer (some ⟨w.heap.size,3,none⟩)) rfl rfl (fun w' hw'=>by go_simp) ?_
 simp only [zD]
 refine Dk.za (v:=.int .i64 ach) rfl rfl (fun w' hw'=>by obtain ⟨_,c⟩:=SB _ hw';go_simp) ?_
 simp only [zD]
 refine Dk.zar (rs:=[3]) (by kernel_rfl) (by simp) ?_
 intro i hi
 simp only [List.mem_cons,List.not_mem_nil,or_false] at hi
 subst hi
 refine Dk.zt (some 16) rfl rfl rfl (f:=42) (args:=#[.pointer (some ⟨b,0,none⟩),.int .i64 (k:Int)]) (by go_simp) ?_
 refine (zcz HM.out hc).mono ?_
 rintro e w2 ⟨rfl,ew⟩
 subst w2
 refine ⟨_,rfl,fun _=>S0,?_⟩
 simp only [zD]
 refine Dk.zar (rs:=[8]) (by kernel_rfl) (by simp) ?_
 intro i hi
 simp only [List.mem_cons,List.not_mem_nil,or_false] at hi
 subst hi
 refine Dk.zt (some 21) rfl rfl rfl (f:=28) (args:=#[.pointer (some ⟨c.L.b,0,none⟩),.int .i64 ath,.int .i64 ach]) (by unfold Dk.Cell.ptr;go_simp) ?_
 obtain ⟨rest,hG,hB,hcl,_⟩:=HM.out.at hc
 refine (znh hG hB hj ath ach i2).mono ?_
 rintro e w3 ⟨A3,C3,rfl,h3⟩
 have hN:=hcl w3 us _ (h3.with (fun c=>c.drop.drop))
 refine ⟨_,rfl,fun h=>absurd (by decide) h,?_⟩
 simp only [zD]
 refine Dk.zv (by kernel_rfl) (fun c a w h=>h) _ 0 _ [9,10,11,12] _ _ (by kernel_rfl) ?_ (fun a' h=>h)
 refine Dk.za (v:=.tuple #[eff A3 (c.q.run ath ach).2.1.woken.length C3 (c.q.run ath ach).2.1.stopped (c.q.run ath ach).2.1.ended (c.q.run ath ach).2.1.yielded,.int .i64 (c.q.run ath ach).2.2]) rfl rfl (fun w' hw'=>by go_simp) ?_
 simp only [zD]
 refine Dk.za (v:=eff A3 (c.q.run ath ach).2.1.woken.length C3 (c.q.run ath ach).2.1.stopped (c.q.run ath ach).2.1.ended (c.q.run ath ach).2.1.yielded) rfl rfl (fun w' hw'=>by go_simp) ?_
 simp only [zD]
 refine Dk.za (v:=.int .i64 (c.q.run ath ach).2.2) rfl rfl (fun w' hw'=>by go_simp) ?_
 simp only [zD]
 refine Dk.za (v:=.int .i64 (c.q.run ath ach).2.2) rfl rfl (fun w' hw'=>by go_simp) ?_
 simp only [zD]
 refine ⟨by kernel_rfl,?_⟩
 show NoPanic _ Exit.normal _ _
 refine NoPanic.normal ?_
 have HN:Hid (OneM _ _ _ _ _ _):=hN
 clear hN HM
 go_wp2_with fail
 go_ret
 exact ⟨rfl,HN.out⟩
theorem zpi (h:OneM W w b cs j us) (asp ath ach:Int) (hs:asp < 0∨(cs.length:Int)≤asp) :
  Calls Tryz.prog 36 #[.pointer (some ⟨b,0,none⟩),.agg #[.int .i64 2,.int .i64 asp,.int .i64 ath,.int .i64 ach]] w fun e w'=>e=.returned (.int .i64 1)∧OneM W w' b cs j us:=by
 obtain ⟨W1,e1⟩:∃ W1,W1=w.alloc (.cells #[.int .i64 2,.int .i64 asp,.int .i64 ath,.int .i64 ach] 88):=⟨_,rfl⟩
 have h1:=h.zb e1
 have c1:=(h1.box (a:=w.heap.size) (ce:=#[.int .i64 2,.int .i64 asp,.int .i64 ath,.int .i64 ach]) (e:=88) (by simp)).cell
 have hd:=h1.below (Dk.zl (Below.refl _ _))
 have H1:Hid _:=e1.symm
 have HM:Hid (OneM W W1.drew b cs j (Dk.ze w.heap.size #[.int .i64 2,.int .i64 asp,.int .i64 ath,.int .i64 ach] 88::us)):=hd
 clear e1 h h1
 go_enter Tryz.func36,Tryz.ntmps36
 go_upto_region 8 with (rw [H1.out];clear H1)
 obtain ⟨S,eS⟩:∃ S:World→Prop,S=fun w'=>∀ o,w'.cell? ⟨w.heap.size,o,none⟩=(#[.int .i64 2,.int .i64 asp,.int .i64 ath,.int .i64 ach]:Array Value)[o]?:=⟨_,rfl⟩
 have S0:S W1.drew:=by rw [eS];exact (hd.box (a:=w.heap.size) (ce:=#[.int .i64 2,.int .i64 asp,.int .i64 ath,.int .i64 ach]) (e:=88) (by simp)).cell
 have SB:∀ w',S w'→True∧∀ o,w'.cell? ⟨w.heap.size,o,none⟩=(#[.int .i64 2,.int .i64 asp,.int .i64 ath,.int .i64 ach]:Array Value)[o]?:=fun w' h=>by rw [eS] at h;exact ⟨trivial,h⟩
 clear eS hd c1
 refine Dk.zg (S:=S) [] [0,1,2,4,5] [6,7,8,9,10] 6 (by kernel_rfl) (by kernel_rfl) (by kernel_rfl) (by kernel_rfl) rfl S0 _ ?_ (fun a' h=>h)
 refine Dk.za (v:=.pointer (some ⟨b,0,none⟩)) rfl rfl (fun w' hw'=>by go_simp) ?_
 simp only [zD]
 refine Dk.za (v:=.pointer (some ⟨w.heap.size,1,none⟩)) rfl rfl (fun w' hw'=>by go_simp) ?_
 simp only [zD]
 refine Dk.za (v:=.int .i64 asp) rfl rfl (fun w' hw'=>by obtain ⟨_,c⟩:=SB _ hw';go_simp) ?_
 simp only [zD]
 refine Dk.za (v:=.pointer (some ⟨w.heap.size,3,none⟩)) rfl rfl (fun w' hw'=>by go_simp) ?_
 simp only [zD]
 refine Dk.za (v:=.int .i64 ach) rfl rfl (fun w' hw'=>by obtain ⟨_,c⟩:=SB _ hw';go_simp) ?_
 simp only [zD]
 refine Dk.zar (rs:=[3]) (by kernel_rfl) (by simp) ?_
 intro i hi
 simp only [List.mem_cons,List.not_mem_nil,or_false] at hi
 subst hi
 refine Dk.zt (some 30) rfl rfl rfl (f:=42) (args:=#[.pointer (some ⟨b,0,none⟩),.int .i64 asp]) (by go_simp) ?_
 refine (zjq HM.out asp hs).mono ?_
 rintro e w2 ⟨rfl,ew⟩
 subst w2
 refine ⟨_,rfl,fun _=>S0,?_⟩
 simp only [zD]
 refine Dk.zar (rs:=[6]) (by kernel_rfl) (by simp) ?_
 intro i hi
 simp only [List.mem_cons,List.not_mem_nil,or_false] at hi
 subst hi
 refine Dk.zt (some 33) rfl rfl rfl (f:=29) (args:=#[.pointer none,.int .i64 ach]) (by go_simp) ?_
 refine (zpk ach _).mono ?_
 rintro e w3 ⟨rfl,u3⟩
 have hN:=(HM.out.below u3).drop
 refine ⟨_,rfl,fun h=>absurd (by decide) h,?_⟩
 simp only [zD]
 refine Dk.zv (by kernel_rfl) (fun c a w h=>h) _ 0 _ [7,8,9,10] _ _ (by kernel_rfl) ?_ (fun a' h=>h)
 refine Dk.za (v:=.tuple #[eff none 0 0 false false false,.int .i64 1]) rfl rfl (fun w' hw'=>by go_simp) ?_
 simp only [zD]
 refine Dk.za (v:=eff none 0 0 false false false) rfl rfl (fun w' hw'=>by go_simp) ?_
 simp only [zD]
 refine Dk.za (v:=.int .i64 1) rfl rfl (fun w' hw'=>by go_simp) ?_
 simp only [zD]
 refine Dk.za (v:=.int .i64 1) rfl rfl (fun w' hw'=>by go_simp) ?_
 simp only [zD]
 refine ⟨by kernel_rfl,?_⟩
 show NoPanic _ Exit.normal _ _
 refine NoPanic.normal ?_
 have HN:Hid (OneM _ _ _ _ _ _):=hN
 clear hN HM
 go_wp2_with fail
 go_ret
 exact ⟨rfl,HN.out⟩
theorem znt (h:OneM W w b cs j us) (ath ach:Int) (k:Nat) (c:Dk.Cell) (hc:cs[k]? = some c) (hj:j k≤150) (i2:Dk.i64 ach) :
  Calls Tryz.prog 36 #[.pointer (some ⟨b,0,none⟩),.agg #[.int .i64 2,.int .i64 (k:Int),.int .i64 ath,.int .i64 ach]] w fun e w'=>e=.returned (.int .i64 (c.q.done ach).2.2)∧OneM W w' b (cs.set k (c.go (c.q.done ach).1)) (Dk.upd j k (j k+1)) us:=by
 obtain ⟨W1,e1⟩:∃ W1,W1=w.alloc (.cells #[.int .i64 2,.int .i64 (k:Int),.int .i64 ath,.int .i64 ach] 88):=⟨_,rfl⟩
 have h1:=h.zb e1
 have c1:=(h1.box (a:=w.heap.size) (ce:=#[.int .i64 2,.int .i64 (k:Int),.int .i64 ath,.int .i64 ach]) (e:=88) (by simp)).cell
 have hd:=h1.below (Dk.zl (Below.refl _ _))
 have H1:Hid _:=e1.symm
 have HM:Hid (OneM W W1.drew b cs j (Dk.ze w.heap.size #[.int .i64 2,.int .i64 (k:Int),.int .i64 ath,.int .i64 ach] 88::us)):=hd
 clear e1 h h1
 go_enter Tryz.func36,Tryz.ntmps36
 go_upto_region 8 with (rw [H1.out];clear H1)
 obtain ⟨S,eS⟩:∃ S:World→Prop,S=fun w'=>∀ o,w'.cell? ⟨w.heap.size,o,none⟩=(#[.int .i64 2,.int .i64 (k:Int),.int .i64 ath,.int .i64 ach]:Array Value)[o]?:=⟨_,rfl⟩
 have S0:S W1.drew:=by rw [eS];exact (hd.box (a:=w.heap.size) (ce:=#[.int .i64 2,.int .i64 (k:Int),.int .i64 ath,.int .i64 ach]) (e:=88) (by simp)).cell
 have SB:∀ w',S w'→True∧∀ o,w'.cell? ⟨w.heap.size,o,none⟩=(#[.int .i64 2,.int .i64 (k:Int),.int .i64 ath,.int .i64 ach]:Array Value)[o]?:=fun w' h=>by rw [eS] at h;exact ⟨trivial,h⟩
 clear eS hd c1
 refine Dk.zg (S:=S) [] [0,1,2,4,5] [6,7,8,9,10] 6 (by kernel_rfl) (by kernel_rfl) (by kernel_rfl) (by kernel_rfl) rfl S0 _ ?_ (fun a' h=>h)
 refine Dk.za (v:=.pointer (some ⟨b,0,none⟩)) rfl rfl (fun w' hw'=>by go_simp) ?_
 simp only [zD]
 refine Dk.za (v:=.pointer (some ⟨w.heap.size,1,none⟩)) rfl rfl (fun w' hw'=>by go_simp) ?_
 simp only [zD]
 refine Dk.za (v:=.int .i64 (k:Int)) rfl rfl (fun w' hw'=>by obtain ⟨_,c⟩:=SB _ hw';go_simp) ?_
 simp only [zD]
 refine Dk.za (v:=.pointer (some ⟨w.heap.size,3,none⟩)) rfl rfl (fun w' hw'=>by go_simp) ?_
 simp only [zD]
 refine Dk.za (v:=.int .i64 ach) rfl rfl (fun w' hw'=>by obtain ⟨_,c⟩:=SB _ hw';go_simp) ?_
 simp only [zD]
 refine Dk.zar (rs:=[3]) (by kernel_rfl) (by simp) ?_
 intro i hi
 simp only [List.mem_cons,List.not_mem_nil,or_false] at hi
 subst hi
 refine Dk.zt (some 30) rfl rfl rfl (f:=42) (args:=#[.pointer (some ⟨b,0,none⟩),.int .i64 (k:Int)]) (by go_simp) ?_
 refine (zcz HM.out hc).mono ?_
 rintro e w2 ⟨rfl,ew⟩
 subst w2
 refine ⟨_,rfl,fun _=>S0,?_⟩
 simp only [zD]
 refine Dk.zar (rs:=[6]) (by kernel_rfl) (by simp) ?_
 intro i hi
 simp only [List.mem_cons,List.not_mem_nil,or_false] at hi
 subst hi
 refine Dk.zt (some 33) rfl rfl rfl (f:=29) (args:=#[.pointer (some ⟨c.L.b,0,none⟩),.int .i64 ach]) (by unfold Dk.Cell.ptr;go_simp) ?_
 obtain ⟨rest,hG,hB,hcl,_⟩:=HM.out.at hc
 refine (zj2 hG hB hj ach i2).mono ?_
 rintro e w3 ⟨A3,C3,rfl,h3⟩
 have hN:=hcl w3 us _ (h3.with (fun c=>c.drop.drop))
 refine ⟨_,rfl,fun h=>absurd (by decide) h,?_⟩
 simp only [zD]
 refine Dk.zv (by kernel_rfl) (fun c a w h=>h) _ 0 _ [7,8,9,10] _ _ (by kernel_rfl) ?_ (fun a' h=>h)
 refine Dk.za (v:=.tuple #[eff A3 (c.q.done ach).2.1.woken.length C3 false false false,.int .i64 (c.q.done ach).2.2]) rfl rfl (fun w' hw'=>by go_simp) ?_
 simp only [zD]
 refine Dk.za (v:=eff A3 (c.q.done ach).2.1.woken.length C3 false false false) rfl rfl (fun w' hw'=>by go_simp) ?_
 simp only [zD]
 refine Dk.za (v:=.int .i64 (c.q.done ach).2.2) rfl rfl (fun w' hw'=>by go_simp) ?_
 simp only [zD]
 refine Dk.za (v:=.int .i64 (c.q.done ach).2.2) rfl rfl (fun w' hw'=>by go_simp) ?_
 simp only [zD]
 refine ⟨by kernel_rfl,?_⟩
 show NoPanic _ Exit.normal _ _
 refine NoPanic.normal ?_
 have HN:Hid (OneM _ _ _ _ _ _):=hN
 clear hN HM
 go_wp2_with fail
 go_ret
 exact ⟨rfl,HN.out⟩
end
end Go.Proofs.YtglhhlfopccmaaaGreat
namespace Dk
def Cell.tick (c:Cell):Cell:=c.go c.q.tick.1
def zev (cs:List Cell) (k:Nat):List Cell:=(cs.take k).map Cell.tick++cs.drop k
theorem tickk_at {cs:List Cell} {k:Nat} {c:Cell} (h:cs[k]? = some c):(zev cs k)[k]? = some c:=by
 have hl:=(List.getElem?_eq_some_iff.1 h).1
 unfold zev
 rw [List.getElem?_append_right (by simp;omega),List.length_map,List.length_take,List.getElem?_drop,show k+(k - min k cs.length)=k by omega]
 exact h
theorem zpa {cs:List Cell} {k:Nat} {c:Cell} (h:cs[k]? = some c):(zev cs k).set k c.tick=zev cs (k+1):=by
 have hl:=(List.getElem?_eq_some_iff.1 h).1
 have e:=(List.getElem?_eq_some_iff.1 h).2
 unfold zev
 rw [List.set_append_right _ _ (by simp;omega),List.length_map,List.length_take,show k - min k cs.length=0 by omega,List.drop_eq_getElem_cons hl,e,List.set_cons_zero,List.take_add_one,h,List.map_append,List.append_assoc]
 rfl
theorem zs4 (cs:List Cell):zev cs cs.length=cs.map Cell.tick:=by unfold zev;simp
theorem zpb (cs:List Cell):zev cs 0=cs:=by unfold zev;simp
theorem tick_ptr (cs:List Cell):(cs.map Cell.tick).map Cell.ptr=cs.map Cell.ptr:=by rw [List.map_map];rfl
end Dk
namespace Go.Proofs.YtglhhlfopccmaaaGreat
open Go.RowKit Go.Lib
section
variable {W w w' : World} {b : Nat} {j : Nat → Nat} {cs : List Dk.Cell} {us us' : List Dk.zd}
theorem zs2 (h:OneM W w b cs j us) (hj:∀ i,j i≤150) (h8:cs.length≤8) :
  Calls Tryz.prog 72 #[.pointer (some ⟨b,0,none⟩)] w fun e w'=>e=.returned (.tuple #[])∧OneM W w' b (cs.map Dk.Cell.tick) (fun i=>j i+1) us:=by
 obtain ⟨v,hM⟩:=h
 obtain ⟨A,C,ev,hc1,hc2⟩:=Dk.zf (hM.row (e:=27) (s:=1) (v:=v) (m:=cs.length) (xs:=cs.map Dk.Cell.ptr) (by simp))
 have hb:=(hM.box (a:=b) (ce:=#[v]) (e:=152) (by simp)).cell 0
 subst ev
 obtain ⟨n,hn⟩:∃ n,n=cs.length:=⟨_,rfl⟩
 have h0:Many W w (Dk.zev cs 0) j (Dk.ze b #[.slice A n C] 152::Dk.rowOf 27 1 (.slice A n C) n (cs.map Dk.Cell.ptr)::us):=by rw [Dk.zpb,hn];exact hM
 have HM:Hid (Many W w (Dk.zev cs 0) j (Dk.ze b #[.slice A n C] 152::Dk.rowOf 27 1 (.slice A n C) n (cs.map Dk.Cell.ptr)::us)):=h0
 rw [← hn] at hb h8 hc1
 unfold maxLen at hc2
 have HN:Hid (n=cs.length):=hn
 have HJ:Hid (∀ i,j i≤150):=hj
 clear h0 hM hn hj
 go_enter Tryz.func72,Tryz.ntmps72
 go_wp2_with fail
 go_loopw [9] (fun i w'=>∃ k:Nat,i=.int .i64 k∧k≤n∧Many W w' (Dk.zev cs k) (fun i=>if i < k then j i+1 else j i) (Dk.ze b #[.slice A n C] 152::Dk.rowOf 27 1 (.slice A n C) n (cs.map Dk.Cell.ptr)::us)) (fun i w'=>n - (intOf i).toNat)
 case atStart=>exact ⟨0,rfl,Nat.zero_le _,HM.out.le (fun i=>by simp)⟩
 case round=>
  obtain ⟨k,rfl,hk,hM⟩:=hrel
  clear HM
  by_cases hlt:k < n
  ·have hkl:k < cs.length:=by have:=HN.out;omega
   obtain ⟨c,hc⟩:∃ c,cs[k]? = some c:=⟨_,List.getElem?_eq_getElem hkl⟩
   obtain ⟨g,C',x,ev,_,_,hx,hcell,_,_⟩:=Dk.zbo (hM.row (e:=27) (s:=1) (v:=.slice A n C) (m:=n) (xs:=cs.map Dk.Cell.ptr) (by simp)) hlt
   rw [List.getElem?_map,hc] at hx
   cases hx
   injection ev with e1 e2 e3
   subst e1
   unfold Dk.Cell.ptr at hcell
   obtain ⟨rest,hG,hB,hcl,_⟩:=hM.at (Dk.tickk_at hc)
   have hlev:(if k < k then j k+1 else j k)=j k:=by simp
   rw [hlev] at hG hcl
   have K:=zkt hG hB (HJ.out k)
   have HCL:Hid (∀ w' us',Goes W w' c.L c.q0 c.q.tick.1 (j k+1) (us'++rest)→Many W w' (Dk.zev cs (k+1)) (fun i=>if i < k+1 then j i+1 else j i) us'):=fun w' us' g=>by
    have:=hcl w' us' _ g
    rw [show c.go c.q.tick.1=c.tick from rfl,Dk.zpa hc] at this
    refine this.le fun i=>?_
    unfold Dk.upd
    by_cases h1:i=k
    ·subst h1;simp
    ·rw [if_neg h1]
     by_cases h2:i < k
     ·simp [h2,show i < k+1 by omega]
     ·simp [h2,show ¬ i < k+1 by omega]
   have k1:(k:Int) < (n:Int):=by omega
   have k2:(0:Int)≤(k:Int):=by omega
   clear hM hG hcl hlev e2 e3 hc
   go_wp2_with fail
   refine K.mono ?_
   rintro e w2 ⟨A2,C2,rfl,h2⟩
   have hN:=HCL.out w2 _ (h2.with (fun c=>c.drop))
   clear K h2 hcell
   go_wp2_with fail
   go_roundw
   case rel=>exact ⟨k+1,by go_num,by omega,hN⟩
   case measure=>simp [intOf];omega
  ·obtain rfl:k=n:=by omega
   have z1:decide ((k:Int) < (k:Int))=false:=decide_eq_false (by omega)
   have fin:OneM W wr b (cs.map Dk.Cell.tick) (fun i=>j i+1) us:=by
    have hn:=HN.out
    rw [show Dk.zev cs k=cs.map Dk.Cell.tick by rw [hn];exact Dk.zs4 cs] at hM
    refine ⟨.slice A k C,?_⟩
    rw [List.length_map,Dk.tick_ptr,← hn]
    exact hM.le fun i=>by split <;> omega
   have HF:Hid (OneM W wr b (cs.map Dk.Cell.tick) (fun i=>j i+1) us):=fin
   clear hM fin
   go_wp2_with fail
   go_end0
   exact ⟨rfl,HF.out⟩
theorem DoTick (h:OneM W w b cs j us) (asp ath ach:Int) (hj:∀ i,j i≤150) (h8:cs.length≤8) :
  Calls Tryz.prog 36 #[.pointer (some ⟨b,0,none⟩),.agg #[.int .i64 3,.int .i64 asp,.int .i64 ath,.int .i64 ach]] w fun e w'=>e=.returned (.int .i64 0)∧OneM W w' b (cs.map Dk.Cell.tick) (fun i=>j i+1) us:=by
 obtain ⟨W1,e1⟩:∃ W1,W1=w.alloc (.cells #[.int .i64 3,.int .i64 asp,.int .i64 ath,.int .i64 ach] 88):=⟨_,rfl⟩
 have h1:=h.zb e1
 have c1:=(h1.box (a:=w.heap.size) (ce:=#[.int .i64 3,.int .i64 asp,.int .i64 ath,.int .i64 ach]) (e:=88) (by simp)).cell
 have H1:Hid _:=e1.symm
 have K:=zs2 h1 hj h8
 clear e1 h h1
 go_enter Tryz.func36,Tryz.ntmps36
 go_wp2_with (rw [H1.out];clear H1)
 refine K.mono ?_
 rintro e w2 ⟨rfl,h2⟩
 have HN:Hid (OneM W w2 b (cs.map Dk.Cell.tick) (fun i=>j i+1) us):=h2.drop
 clear K h2 c1
 go_wp2_with fail
 go_ret
 exact ⟨rfl,HN.out⟩
theorem DoOther (h:OneM W w b cs j us) (ak asp ath ach:Int) (g1:ak≠1) (g2:ak≠2) (g3:ak≠3) :
  Calls Tryz.prog 36 #[.pointer (some ⟨b,0,none⟩),.agg #[.int .i64 ak,.int .i64 asp,.int .i64 ath,.int .i64 ach]] w fun e w'=>e=.returned (.int .i64 1)∧OneM W w' b cs j us:=by
 obtain ⟨W1,e1⟩:∃ W1,W1=w.alloc (.cells #[.int .i64 ak,.int .i64 asp,.int .i64 ath,.int .i64 ach] 88):=⟨_,rfl⟩
 have h1:=h.zb e1
 have c1:=(h1.box (a:=w.heap.size) (ce:=#[.int .i64 ak,.int .i64 asp,.int .i64 ath,.int .i64 ach]) (e:=88) (by simp)).cell
 have H1:Hid _:=e1.symm
 have HN:Hid (OneM W W1 b cs j us):=(h.zb e1).drop
 have k1:¬ ak=1:=g1
 have k2:¬ ak=2:=g2
 have k3:¬ ak=3:=g3
 clear e1 h h1 g1 g2 g3
 go_enter Tryz.func36,Tryz.ntmps36
 go_wp2_with (rw [H1.out];clear H1)
 go_ret
 exact ⟨rfl,HN.out⟩
end
section
variable {W w w' : World} {b : Nat} {j : Nat → Nat} {cs : List Dk.Cell} {us us' : List Dk.zd}
theorem zhi (h:OneM W w b cs j us) {k:Nat} {c:Dk.Cell} (hc:cs[k]? = some c):Calls Tryz.prog 40 #[.pointer (some ⟨b,0,none⟩),.int .i64 (k:Int)] w fun e w'=>∃ A C,e=.returned (.slice A c.q.ready.length C)∧OneM W w' b cs j (Dk.rowOf 3 1 (.slice A c.q.ready.length C) c.q.ready.length (Dk.is c.q.ready)::us):=by
 have K:=zcz h hc
 obtain ⟨rest,hG,hB,_,hcl⟩:=h.at hc
 have K2:=zhq hG hB
 have HCL:Hid (∀ w' us',Goes W w' c.L c.q0 c.q (j k) (us'++rest)→OneM W w' b cs j us'):=hcl
 unfold Dk.Cell.ptr at K
 clear h hG hcl
 go_enter Tryz.func40,Tryz.ntmps40
 go_wp2_with fail
 refine K.mono ?_
 rintro e w7 ⟨rfl,ew⟩
 subst w7
 go_wp2_with fail
 refine K2.mono ?_
 rintro e w2 ⟨A,C,rfl,h2⟩
 have hN:=HCL.out w2 (Dk.rowOf 3 1 (.slice A c.q.ready.length C) c.q.ready.length (Dk.is c.q.ready)::us) h2
 have HN:Hid (OneM W w2 b cs j (Dk.rowOf 3 1 (.slice A c.q.ready.length C) c.q.ready.length (Dk.is c.q.ready)::us)):=hN
 clear hN h2 K K2
 go_wp2_with fail
 go_ret
 exact ⟨A,C,rfl,HN.out⟩
theorem zdf (h:OneM W w b cs j us) {k:Nat} {c:Dk.Cell} (hc:cs[k]? = some c) (hj:j k≤150):Calls Tryz.prog 38 #[.pointer (some ⟨b,0,none⟩),.int .i64 (k:Int)] w fun e w'=>∃ A C,e=.returned (.slice A c.q.recs.length C)∧OneM W w' b cs j (Dk.rowOf 74 6 (.slice A c.q.recs.length C) c.q.recs.length (c.q.recs.flatMap Dk.Rec.cells)::us):=by
 have K:=zcz h hc
 obtain ⟨rest,hG,hB,_,hcl⟩:=h.at hc
 have K2:=zfk hG hj
 have HCL:Hid (∀ w' us',Goes W w' c.L c.q0 c.q (j k) (us'++rest)→OneM W w' b cs j us'):=hcl
 unfold Dk.Cell.ptr at K
 clear h hG hcl
 go_enter Tryz.func38,Tryz.ntmps38
 go_wp2_with fail
 refine K.mono ?_
 rintro e w7 ⟨rfl,ew⟩
 subst w7
 go_wp2_with fail
 refine K2.mono ?_
 rintro e w2 ⟨A,C,rfl,h2⟩
 have hN:=HCL.out w2 (Dk.rowOf 74 6 (.slice A c.q.recs.length C) c.q.recs.length (c.q.recs.flatMap Dk.Rec.cells)::us) h2
 have HN:Hid (OneM W w2 b cs j (Dk.rowOf 74 6 (.slice A c.q.recs.length C) c.q.recs.length (c.q.recs.flatMap Dk.Rec.cells)::us)):=hN
 clear hN h2 K K2
 go_wp2_with fail
 go_ret
 exact ⟨A,C,rfl,HN.out⟩
theorem zk2 (h:OneM W w b cs j us) {k:Nat} {c:Dk.Cell} (hc:cs[k]? = some c):Calls Tryz.prog 39 #[.pointer (some ⟨b,0,none⟩),.int .i64 (k:Int)] w fun e w'=>∃ A C,e=.returned (.slice A c.q.mem.length C)∧OneM W w' b cs j (Dk.rowOf 38 1 (.slice A c.q.mem.length C) c.q.mem.length (Dk.uwK c.q.mem)::us):=by
 have K:=zcz h hc
 obtain ⟨rest,hG,hB,_,hcl⟩:=h.at hc
 have K2:=zgi hG hB
 have HCL:Hid (∀ w' us',Goes W w' c.L c.q0 c.q (j k) (us'++rest)→OneM W w' b cs j us'):=hcl
 unfold Dk.Cell.ptr at K
 clear h hG hcl
 go_enter Tryz.func39,Tryz.ntmps39
 go_wp2_with fail
 refine K.mono ?_
 rintro e w7 ⟨rfl,ew⟩
 subst w7
 go_wp2_with fail
 refine K2.mono ?_
 rintro e w2 ⟨A,C,rfl,h2⟩
 have hN:=HCL.out w2 (Dk.rowOf 38 1 (.slice A c.q.mem.length C) c.q.mem.length (Dk.uwK c.q.mem)::us) h2
 have HN:Hid (OneM W w2 b cs j (Dk.rowOf 38 1 (.slice A c.q.mem.length C) c.q.mem.length (Dk.uwK c.q.mem)::us)):=hN
 clear hN h2 K K2
 go_wp2_with fail
 go_ret
 exact ⟨A,C,rfl,HN.out⟩
end
end Go.Proofs.YtglhhlfopccmaaaGreat
