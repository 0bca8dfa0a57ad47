import Derived.Test.YtglhhlfopccmaaaGreatAg43
import Derived.ChangeKeysEq
set_option linter.unusedSimpArgs false
set_option linter.unusedVariables false
set_option linter.unnecessarySimpa false
set_option maxHeartbeats 8000000
set_option maxRecDepth 100000
namespace Dk
open Go Go.RowKit
structure SlC (w:World) (A:Option Addr) (n C s:Nat) (xs:List Value):Prop where
 len:xs.length=n*s
 cap:n≤C
 max:C≤maxLen
 cells:0 < n→∃ b o,A=some ⟨b,o,none⟩∧b < w.heap.size∧∀ j u,xs[j]? = some u→w.cell? ⟨b,o+j,none⟩=some u
theorem SlC.of_owns {w:World} {base:Nat} {e:TypeId} {A:Option Addr} {n C s:Nat} {xs:List Value} (h:w.ownsRow base e s (.slice A n C) n xs):SlC w A n C s xs:=by
 obtain ⟨_,C',ev,h1,h2⟩:=owns_slice h
 injection ev with e1 e2 e3
 subst e3
 refine ⟨h.1,h1,h2,fun h0=>?_⟩
 obtain ⟨_,⟨e0,h0'⟩ | ⟨g,cap,cur,e0,hg⟩⟩:=id h
 ·omega
 ·injection e0 with q1 q2 q3
  subst q1
  refine ⟨g,0,rfl,(World.ownsRow.lt h g rfl).2,fun j u hj=>?_⟩
  have:=h.cells (g:=g) rfl j u hj
  rw [Addr.add_lit] at this
  exact this
end Dk
namespace Go.Proofs.YtglhhlfopccmaaaGreat
open Go.RowKit Go.Lib
theorem same_rec (d:Nat) (r:Dk.Rec) (w:World):(Op.equalIn (d+2) 74 (.agg r.cells.toArray) (.agg r.cells.toArray)).run Tryz.prog w=.ok true w:=by
 unfold Dk.Rec.cells
 rw [run_equalIn_agg w (d+1) 74 _ _ (by kernel_rfl) (by kernel_rfl)]
 simp [go_sem,part]
theorem neq_rec (r:Dk.Rec) (w:World):(binOp .neq 74 (.agg r.cells.toArray) (.agg r.cells.toArray)).run Tryz.prog w=.ok (.bool false) w:=by
 rw [run_neq_struct,same_rec 9998]
 rfl
theorem Same_yes (A A':Option Addr) (n C C':Nat) (rs:List Dk.Rec) (w:World) (h:Dk.SlC w A n C 6 (rs.flatMap Dk.Rec.cells)) (h':Dk.SlC w A' n C' 6 (rs.flatMap Dk.Rec.cells)) :
  Calls Tryz.prog 24 #[.slice A n C,.slice A' n C'] w fun e w'=>e=.returned (.bool true)∧Below w.heap.size w w':=by
 have hcap:=h.cap
 have hmax:=h.max
 unfold maxLen at hmax
 have hlen:rs.length=n:=by
  have:=h.len
  rw [Dk.flat_len Dk.Rec.len] at this
  omega
 have HL:Hid (rs.length=n):=hlen
 clear hlen
 go_enter Tryz.func24,Tryz.ntmps24
 go_wp2
 go_loopw [5] (fun i w'=>∃ k:Nat,k≤n∧i=.int .i64 k∧Hid (Below w.heap.size w w')) (fun i w'=>n - (intOf i).toNat)
 case atStart=>exact ⟨0,Nat.zero_le _,rfl,Below.refl _ _⟩
 case round=>
  obtain ⟨k,hk,rfl,HB⟩:=hrel
  by_cases hlt:k < n
  ·obtain ⟨b,o,rfl,hb,hc⟩:=h.cells (by omega)
   obtain ⟨b',o',rfl,hb',hc'⟩:=h'.cells (by omega)
   have hkl:k < rs.length:=by have:=HL.out;omega
   obtain ⟨r,hr⟩:∃ r,rs[k]? = some r:=⟨_,List.getElem?_eq_getElem hkl⟩
   have g:=fun j (hj:j < 6) (u:Value) (hu:r.cells[j]? = some u)=>hc (k*6+j) u ((Dk.flat_get Dk.Rec.len rs k j r hr hj).trans hu)
   have g':=fun j (hj:j < 6) (u:Value) (hu:r.cells[j]? = some u)=>hc' (k*6+j) u ((Dk.flat_get Dk.Rec.len rs k j r hr hj).trans hu)
   have t:∀ j,wr.cell? ⟨b,j,none⟩=w.cell? ⟨b,j,none⟩:=fun j=>HB.out.cell (by show b < w.heap.size;exact hb)
   have t':∀ j,wr.cell? ⟨b',j,none⟩=w.cell? ⟨b',j,none⟩:=fun j=>HB.out.cell (by show b' < w.heap.size;exact hb')
   have c0:wr.cell? ⟨b,o+k*6,none⟩=some (.int .u64 (r.thread:Nat)):=by rw [t];exact g 0 (by omega) _ rfl
   have c1:wr.cell? ⟨b,o+k*6+1,none⟩=some (.int .i64 r.op):=by rw [t];exact g 1 (by omega) _ rfl
   have c2:wr.cell? ⟨b,o+k*6+2,none⟩=some (.int .u64 (r.x:Nat)):=by rw [t];exact g 2 (by omega) _ rfl
   have c3:wr.cell? ⟨b,o+k*6+3,none⟩=some (.int .u64 (r.y:Nat)):=by rw [t];exact g 3 (by omega) _ rfl
   have c4:wr.cell? ⟨b,o+k*6+4,none⟩=some (.int .i64 r.result):=by rw [t];exact g 4 (by omega) _ rfl
   have c5:wr.cell? ⟨b,o+k*6+5,none⟩=some (.bool r.fin):=by rw [t];exact g 5 (by omega) _ rfl
   have d0:wr.cell? ⟨b',o'+k*6,none⟩=some (.int .u64 (r.thread:Nat)):=by rw [t'];exact g' 0 (by omega) _ rfl
   have d1:wr.cell? ⟨b',o'+k*6+1,none⟩=some (.int .i64 r.op):=by rw [t'];exact g' 1 (by omega) _ rfl
   have d2:wr.cell? ⟨b',o'+k*6+2,none⟩=some (.int .u64 (r.x:Nat)):=by rw [t'];exact g' 2 (by omega) _ rfl
   have d3:wr.cell? ⟨b',o'+k*6+3,none⟩=some (.int .u64 (r.y:Nat)):=by rw [t'];exact g' 3 (by omega) _ rfl
   have d4:wr.cell? ⟨b',o'+k*6+4,none⟩=some (.int .i64 r.result):=by rw [t'];exact g' 4 (by omega) _ rfl
   have d5:wr.cell? ⟨b',o'+k*6+5,none⟩=some (.bool r.fin):=by rw [t'];exact g' 5 (by omega) _ rfl
   have hq:∀ w,(binOp .neq 74 (.agg #[.int .u64 (r.thread:Nat),.int .i64 r.op,.int .u64 (r.x:Nat),.int .u64 (r.y:Nat),.int .i64 r.result,.bool r.fin]) (.agg #[.int .u64 (r.thread:Nat),.int .i64 r.op,.int .u64 (r.x:Nat),.int .u64 (r.y:Nat),.int .i64 r.result,.bool r.fin])).run Tryz.prog w=.ok (.bool false) w:=fun w=>neq_rec r w
   clear hc hc' h h' g g' t t' hr
   go_wp2
   go_quiet (fail)
   go_wp2
   go_roundw
   case rel=>exact ⟨k+1,by omega,by go_num,Dk.up_drewN HB.out nq⟩
   case measure=>simp [intOf];omega
  ·go_wp2
   go_ret
   exact ⟨rfl,HB.out⟩
theorem Words_yes (A A':Option Addr) (n C C':Nat) (xs:List Nat) (w:World) (h:Dk.SlC w A n C 1 (Dk.uwK xs)) (h':Dk.SlC w A' n C' 1 (Dk.uwK xs)) :
  Calls Tryz.prog 26 #[.slice A n C,.slice A' n C'] w fun e w'=>e=.returned (.bool true)∧Below w.heap.size w w':=by
 have hcap:=h.cap
 have hmax:=h.max
 unfold maxLen at hmax
 have hlen:xs.length=n:=by
  have:=h.len
  rw [List.length_map] at this
  omega
 have HL:Hid (xs.length=n):=hlen
 clear hlen
 go_enter Tryz.func26,Tryz.ntmps26
 go_wp2
 go_loopw [5] (fun i w'=>∃ k:Nat,k≤n∧i=.int .i64 k∧Hid (Below w.heap.size w w')) (fun i w'=>n - (intOf i).toNat)
 case atStart=>exact ⟨0,Nat.zero_le _,rfl,Below.refl _ _⟩
 case round=>
  obtain ⟨k,hk,rfl,HB⟩:=hrel
  by_cases hlt:k < n
  ·obtain ⟨b,o,rfl,hb,hc⟩:=h.cells (by omega)
   obtain ⟨b',o',rfl,hb',hc'⟩:=h'.cells (by omega)
   have hkl:k < xs.length:=by have:=HL.out;omega
   obtain ⟨v,hv⟩:∃ v,xs[k]? = some v:=⟨_,List.getElem?_eq_getElem hkl⟩
   have hu:(Dk.uwK xs)[k]? = some (.int .u64 (v:Nat)):=by rw [List.getElem?_map,hv];rfl
   have c1:wr.cell? ⟨b,o+k,none⟩=some (.int .u64 (v:Nat)):=by rw [HB.out.cell (by show b < w.heap.size;exact hb)];exact hc k _ hu
   have c2:wr.cell? ⟨b',o'+k,none⟩=some (.int .u64 (v:Nat)):=by rw [HB.out.cell (by show b' < w.heap.size;exact hb')];exact hc' k _ hu
   clear hc hc' h h' hv hu
   go_wp2
   go_quiet (fail)
   go_wp2
   go_roundw
   case rel=>exact ⟨k+1,by omega,by go_num,Dk.up_drewN HB.out nq⟩
   case measure=>simp [intOf];omega
  ·go_wp2
   go_ret
   exact ⟨rfl,HB.out⟩
end Go.Proofs.YtglhhlfopccmaaaGreat
namespace Dk
open Go Go.RowKit
theorem act3_cell {B:Nat} {w:World} {A:Option Addr} {L C:Nat} {ac:List (List Int)} (h:Row 3 [] IsInts B w A L C ac) (h0:0 < L):∃ b o,A=some ⟨b,o,none⟩∧b < B∧∀ k,k < L→∃ x0 x1 x2,(i64 x0∧i64 x1∧i64 x2)∧w.cell? ⟨b,o+k*3,none⟩=some (.int .i64 x0)∧w.cell? ⟨b,o+k*3+1,none⟩=some (.int .i64 x1)∧w.cell? ⟨b,o+k*3+2,none⟩=some (.int .i64 x2):=by
 obtain ⟨b,o,e,hb,hc⟩:=h.cells h0
 refine ⟨b,o,e,hb,fun k hk=>?_⟩
 obtain ⟨vs,h1,⟨rfl,h2⟩,h3⟩:=hc k hk
 match hm:ac.getD k [],h1,h2,h3 with
 | [x0,x1,x2],_,h2,h3=>exact ⟨x0,x1,x2,⟨h2 x0 (by simp),h2 x1 (by simp),h2 x2 (by simp)⟩,h3 0 (by omega),h3 1 (by omega),h3 2 (by omega)⟩
theorem run_no {q:Sp} {slot ch:Int} (h:(q.run slot ch).2.2≠0):(q.run slot ch).1=q∧(q.run slot ch).2.1=Eff.none:=by
 unfold Sp.run at h ⊢
 dsimp only at h ⊢
 split
 ·exact ⟨rfl,rfl⟩
 split
 ·exact ⟨rfl,rfl⟩
 ·rename_i h1 h2
  rw [if_neg h1,if_neg h2] at h
  repeat' split at h
  all_goals exact absurd rfl h
theorem done_no {q:Sp} {k:Int} (h:(q.done k).2.2≠0):(q.done k).1=q∧(q.done k).2.1=Eff.none:=by
 unfold Sp.done at h ⊢
 split
 ·exact ⟨rfl,rfl⟩
 ·rename_i h1
  rw [if_neg h1] at h
  exact absurd rfl h
end Dk
namespace Go.Proofs.YtglhhlfopccmaaaGreat
open Go.RowKit Go.Lib
section
variable {W w w' : World} {L L1 L2 : Dk.Loc} {q q0 q1 q2 : Dk.Sp} {k k1 k2 N R j : Nat} {us us' t2 : List Dk.Thing}
theorem Lives.mono {N' k' R':Nat} (h:Lives W w L q0 q N k R us) (hN:N≤N') (hk:k≤k') (hR:R≤R'):Lives W w L q0 q N' k' R' us:=⟨h.cor.mono hk,h.life.mono hN,h.dims,Nat.le_trans h.recs hR⟩
def Goes (W w:World) (L:Dk.Loc) (q0 q:Dk.Sp) (j:Nat) (us:List Dk.Thing):Prop:=Lives W w L q0 q j (j+1) (200*j) us
theorem run_goes (h:Goes W w L q0 q j us) (b:Dk.Born q0) (hj:j≤150) (slot ch:Int) (hch:Dk.i64 ch) :
  Calls Tryz.prog 28 #[.pointer (some ⟨L.b,0,none⟩),.int .i64 slot,.int .i64 ch] w fun e w'=>∃ A C,e=.returned (.tuple #[eff A (q.run slot ch).2.1.woken.length C (q.run slot ch).2.1.stopped (q.run slot ch).2.1.ended (q.run slot ch).2.1.yielded,.int .i64 (q.run slot ch).2.2])∧Goes W w' L q0 (q.run slot ch).1 (j+1) (Dk.rowOf 3 1 (.slice A (q.run slot ch).2.1.woken.length C) (q.run slot ch).2.1.woken.length (Dk.is (q.run slot ch).2.1.woken)::us):=by
 refine (run_lives h b (by omega) (by omega) (by omega) slot hch).mono ?_
 rintro e w' ⟨A,C,he,h'⟩
 exact ⟨A,C,he,h'.mono (Nat.le_refl _) (Nat.le_refl _) (by omega)⟩
theorem done_goes (h:Goes W w L q0 q j us) (b:Dk.Born q0) (hj:j≤150) (ch:Int) (hch:Dk.i64 ch) :
  Calls Tryz.prog 29 #[.pointer (some ⟨L.b,0,none⟩),.int .i64 ch] w fun e w'=>∃ A C,e=.returned (.tuple #[eff A (q.done ch).2.1.woken.length C false false false,.int .i64 (q.done ch).2.2])∧Goes W w' L q0 (q.done ch).1 (j+1) (Dk.rowOf 3 1 (.slice A (q.done ch).2.1.woken.length C) (q.done ch).2.1.woken.length (Dk.is (q.done ch).2.1.woken)::us):=by
 refine (done_lives h b (by omega) (by omega) (by omega) ch hch).mono ?_
 rintro e w' ⟨A,C,he,h'⟩
 exact ⟨A,C,he,h'.mono (by omega) (by omega) (by omega)⟩
theorem tick_goes (h:Goes W w L q0 q j us) (b:Dk.Born q0) (hj:j≤150) :
  Calls Tryz.prog 30 #[.pointer (some ⟨L.b,0,none⟩)] w fun e w'=>∃ A C,e=.returned (eff A q.tick.2.woken.length C false false false)∧Goes W w' L q0 q.tick.1 (j+1) (Dk.rowOf 3 1 (.slice A q.tick.2.woken.length C) q.tick.2.woken.length (Dk.is q.tick.2.woken)::us):=by
 refine (tick_lives h b (by omega) (by omega) (by omega)).mono ?_
 rintro e w' ⟨A,C,he,h'⟩
 exact ⟨A,C,he,h'.mono (by omega) (by omega) (by omega)⟩
theorem Goes.with (h:Goes W w L q0 q j us) (c:Cor W w L q (j+1) us→Cor W w' L q (j+1) us'):Goes W w' L q0 q j us':=Lives.with h c
def Beside (W:World) (L:Dk.Loc) (q:Dk.Sp) (k:Nat) (ts:List Dk.Thing):Prop:=∀ w us,Dk.Sep W w (us++ts)→Cor W w L q k us
theorem swap (c:Cor W w L1 q1 k1 (us++t2)) (f:Beside W L2 q2 k2 t2):∃ t1,Cor W w L2 q2 k2 (us++t1)∧Beside W L1 q1 k1 t1:=by
 obtain ⟨t1,hs,hf⟩:=c.opened
 refine ⟨t1,f _ _ (hs.perm ?_),hf⟩
 rw [List.append_assoc,List.append_assoc]
 exact List.Perm.append_left us List.perm_append_comm
def Twin (W w:World) (L1 L2:Dk.Loc) (q0 q:Dk.Sp) (j:Nat) (us:List Dk.Thing):Prop:=∃ t2,Goes W w L1 q0 q j (us++t2)∧Beside W L2 q (j+1) t2
theorem Twin.with (h:Twin W w L1 L2 q0 q j us) (c:∀ q k t2,Cor W w L1 q k (us++t2)→Cor W w' L1 q k (us'++t2)):Twin W w' L1 L2 q0 q j us':=by
 obtain ⟨t2,h1,h2⟩:=h
 exact ⟨t2,h1.with (c _ _ _),h2⟩
theorem Twin.swap (h:Twin W w L1 L2 q0 q j us):Twin W w L2 L1 q0 q j us:=by
 obtain ⟨t2,h1,h2⟩:=h
 obtain ⟨t1,c,f⟩:=Proofs.YtglhhlfopccmaaaGreat.swap h1.cor h2
 exact ⟨t1,⟨c,h1.life,h1.dims,h1.recs⟩,f⟩
def Half2 (W w:World) (L1 L2:Dk.Loc) (q0 q q':Dk.Sp) (j:Nat) (us:List Dk.Thing):Prop:=∃ t2,Goes W w L1 q0 q' (j+1) (us++t2)∧Beside W L2 q (j+1) t2∧Dk.Life j q∧Dk.Dims q0 q∧q.recs.length≤200*j
theorem Half2.with (h:Half2 W w L1 L2 q0 q q1 j us) (c:∀ q k t2,Cor W w L1 q k (us++t2)→Cor W w' L1 q k (us'++t2)):Half2 W w' L1 L2 q0 q q1 j us':=by
 obtain ⟨t2,h1,h2⟩:=h
 exact ⟨t2,h1.with (c _ _ _),h2⟩
theorem Half2.same (h:Half2 W w L1 L2 q0 q q j us):Twin W w L1 L2 q0 q (j+1) us:=by
 obtain ⟨t2,h1,h2,_⟩:=h
 exact ⟨t2,h1,fun w us s=>(h2 w us s).mono (by omega)⟩
theorem Half2.other (h:Half2 W w L1 L2 q0 q q1 j us):∃ t1,Goes W w L2 q0 q j (us++t1)∧Beside W L1 q1 (j+2) t1:=by
 obtain ⟨t2,h1,h2,h3,h4,h5⟩:=h
 obtain ⟨t1,c,f⟩:=Proofs.YtglhhlfopccmaaaGreat.swap h1.cor h2
 exact ⟨t1,⟨c,h3,h4,h5⟩,f⟩
theorem twin_run (h:Twin W w L1 L2 q0 q j us) (b:Dk.Born q0) (hj:j≤150) (slot ch:Int) (hch:Dk.i64 ch) :
  Calls Tryz.prog 28 #[.pointer (some ⟨L1.b,0,none⟩),.int .i64 slot,.int .i64 ch] w fun e w'=>∃ A C,e=.returned (.tuple #[eff A (q.run slot ch).2.1.woken.length C (q.run slot ch).2.1.stopped (q.run slot ch).2.1.ended (q.run slot ch).2.1.yielded,.int .i64 (q.run slot ch).2.2])∧Half2 W w' L1 L2 q0 q (q.run slot ch).1 j us:=by
 obtain ⟨t2,h1,h2⟩:=h
 refine (run_goes h1 b hj slot ch hch).mono ?_
 rintro e w' ⟨A,C,he,h'⟩
 exact ⟨A,C,he,t2,h'.with (fun c=>c.drop),h2,h1.life,h1.dims,h1.recs⟩
theorem twin_run2 {q':Dk.Sp} (h:Half2 W w L1 L2 q0 q q' j us) (b:Dk.Born q0) (hj:j≤150) (slot ch:Int) (hch:Dk.i64 ch) (e:q'=(q.run slot ch).1) :
  Calls Tryz.prog 28 #[.pointer (some ⟨L2.b,0,none⟩),.int .i64 slot,.int .i64 ch] w fun e w'=>∃ v,e=.returned v∧Twin W w' L1 L2 q0 q' (j+1) us:=by
 obtain ⟨t1,h1,h2⟩:=h.other
 refine (run_goes h1 b hj slot ch hch).mono ?_
 rintro r w' ⟨A,C,he,h'⟩
 rw [← e] at h'
 exact ⟨_,he,Twin.swap ⟨t1,h'.with (fun c=>c.drop),h2⟩⟩
theorem twin_done (h:Twin W w L1 L2 q0 q j us) (b:Dk.Born q0) (hj:j≤150) (ch:Int) (hch:Dk.i64 ch) :
  Calls Tryz.prog 29 #[.pointer (some ⟨L1.b,0,none⟩),.int .i64 ch] w fun e w'=>∃ A C,e=.returned (.tuple #[eff A (q.done ch).2.1.woken.length C false false false,.int .i64 (q.done ch).2.2])∧Half2 W w' L1 L2 q0 q (q.done ch).1 j us:=by
 obtain ⟨t2,h1,h2⟩:=h
 refine (done_goes h1 b hj ch hch).mono ?_
 rintro e w' ⟨A,C,he,h'⟩
 exact ⟨A,C,he,t2,h'.with (fun c=>c.drop),h2,h1.life,h1.dims,h1.recs⟩
theorem twin_done2 {q':Dk.Sp} (h:Half2 W w L1 L2 q0 q q' j us) (b:Dk.Born q0) (hj:j≤150) (ch:Int) (hch:Dk.i64 ch) (e:q'=(q.done ch).1) :
  Calls Tryz.prog 29 #[.pointer (some ⟨L2.b,0,none⟩),.int .i64 ch] w fun e w'=>∃ v,e=.returned v∧Twin W w' L1 L2 q0 q' (j+1) us:=by
 obtain ⟨t1,h1,h2⟩:=h.other
 refine (done_goes h1 b hj ch hch).mono ?_
 rintro r w' ⟨A,C,he,h'⟩
 rw [← e] at h'
 exact ⟨_,he,Twin.swap ⟨t1,h'.with (fun c=>c.drop),h2⟩⟩
theorem twin_tick (h:Twin W w L1 L2 q0 q j us) (b:Dk.Born q0) (hj:j≤150) :
  Calls Tryz.prog 30 #[.pointer (some ⟨L1.b,0,none⟩)] w fun e w'=>∃ v,e=.returned v∧Half2 W w' L1 L2 q0 q q.tick.1 j us:=by
 obtain ⟨t2,h1,h2⟩:=h
 refine (tick_goes h1 b hj).mono ?_
 rintro e w' ⟨A,C,he,h'⟩
 exact ⟨_,he,t2,h'.with (fun c=>c.drop),h2,h1.life,h1.dims,h1.recs⟩
theorem twin_tick2 {q':Dk.Sp} (h:Half2 W w L1 L2 q0 q q' j us) (b:Dk.Born q0) (hj:j≤150) (e:q'=q.tick.1) :
  Calls Tryz.prog 30 #[.pointer (some ⟨L2.b,0,none⟩)] w fun e w'=>∃ v,e=.returned v∧Twin W w' L1 L2 q0 q' (j+1) us:=by
 obtain ⟨t1,h1,h2⟩:=h.other
 refine (tick_goes h1 b hj).mono ?_
 rintro r w' ⟨A,C,he,h'⟩
 rw [← e] at h'
 exact ⟨_,he,Twin.swap ⟨t1,h'.with (fun c=>c.drop),h2⟩⟩
end
section
variable {W w w' : World} {L L1 L2 : Dk.Loc} {q q0 q1 q2 : Dk.Sp} {j : Nat} {us us' : List Dk.Thing}
theorem Twin.out (h:Twin W w L1 L2 q0 q j us):Below W.heap.size W w:=by
 obtain ⟨t2,h1,_⟩:=h
 exact h1.cor.out
theorem Twin.box {a:Nat} {cs:Array Value} {e:TypeId} (h:Twin W w L1 L2 q0 q j us) (ht:Dk.boxOf a cs e ∈ us):Dk.Box w a cs e:=by
 obtain ⟨t2,h1,_⟩:=h
 exact h1.cor.box (List.mem_append_left _ ht)
theorem Half2.box {a:Nat} {cs:Array Value} {e:TypeId} (h:Half2 W w L1 L2 q0 q q1 j us) (ht:Dk.boxOf a cs e ∈ us):Dk.Box w a cs e:=by
 obtain ⟨t2,h1,_⟩:=h
 exact h1.cor.box (List.mem_append_left _ ht)
theorem Twin.newBox {cs:Array Value} {e:TypeId} (h:Twin W w L1 L2 q0 q j us) (ew:w'=w.alloc (.cells cs e)):Twin W w' L1 L2 q0 q j (Dk.boxOf w.heap.size cs e::us):=h.with fun _ _ _ c=>c.newBox ew
theorem Half2.newBox {cs:Array Value} {e:TypeId} (h:Half2 W w L1 L2 q0 q q1 j us) (ew:w'=w.alloc (.cells cs e)):Half2 W w' L1 L2 q0 q q1 j (Dk.boxOf w.heap.size cs e::us):=h.with fun _ _ _ c=>c.newBox ew
theorem Twin.drop {t:Dk.Thing} (h:Twin W w L1 L2 q0 q j (t::us)):Twin W w L1 L2 q0 q j us:=h.with fun _ _ _ c=>c.drop
theorem Half2.drop {t:Dk.Thing} (h:Half2 W w L1 L2 q0 q q1 j (t::us)):Half2 W w L1 L2 q0 q q1 j us:=h.with fun _ _ _ c=>c.drop
end
theorem CoreAgain_no (s:Dk.Sh) (p:Dk.Prg) (A:Option Addr) (Ln C:Nat) (w:World) (hp:Dk.PrgAt w.heap.size w s p) (hk:Dk.check p≠0) :
  Calls Tryz.prog 4 #[Dk.pv s p,.slice A Ln C] w fun e w'=>e=.returned (.bool true)∧Below w.heap.size w w':=by
 obtain ⟨W1,e1⟩:∃ W1,W1=w.alloc (.cells #[.slice s.fA s.fL s.fC,.int .i64 p.words,.int .i64 p.mutexes,.int .i64 p.conds,.slice s.sA s.sL s.sC,.slice s.pA s.pL s.pC,.int .i64 p.blocks,.int .i64 p.prio] 25):=⟨_,rfl⟩
 have s1:=(Dk.Sep.begin (Below.refl w.heap.size w)).newBox e1
 have u1:Below w.heap.size w W1:=s1.out
 have K:=NewC_no s p W1 (hp.below u1 (Nat.le_refl _)) u1.size hk
 have c1:=(s1.box (b:=w.heap.size) (cs:=#[.slice s.fA s.fL s.fC,.int .i64 p.words,.int .i64 p.mutexes,.int .i64 p.conds,.slice s.sA s.sL s.sC,.slice s.pA s.pL s.pC,.int .i64 p.blocks,.int .i64 p.prio]) (t:=25) (by simp)).cell
 have HS:Hid (Dk.Sep w W1 _):=s1
 have HP:Hid (Dk.PrgAt w.heap.size w s p):=hp
 have HK:Hid (Dk.check p≠0):=hk
 have hne:(!decide (Dk.check p=0))=true:=by simp [hk]
 have heq:∀ w,(binOp BinOp.eql 28 (.int .i64 (Dk.check p)) (.int .i64 (Dk.check p))).run Tryz.prog w=.ok (.bool true) w:=fun w=>by go_simp
 have H1:Hid _:=e1.symm
 clear e1 s1 u1 hp hk
 go_enter Tryz.func4,Tryz.ntmps4
 go_wp2_with (rw [H1.out];clear H1)
 refine K.mono ?_
 rintro e w2 ⟨rfl,u2⟩
 have s2:=HS.out.below u2
 have K2:=NewC_no s p w2 (HP.out.below s2.out (Nat.le_refl _)) s2.out.size HK.out
 have HS2:Hid (Dk.Sep w w2 _):=s2
 clear c1 K
 have c1:=(s2.box (b:=w.heap.size) (cs:=#[.slice s.fA s.fL s.fC,.int .i64 p.words,.int .i64 p.mutexes,.int .i64 p.conds,.slice s.sA s.sL s.sC,.slice s.pA s.pL s.pC,.int .i64 p.blocks,.int .i64 p.prio]) (t:=25) (by simp)).cell
 clear s2 u2
 go_wp2_with fail
 refine K2.mono ?_
 rintro e w3 ⟨rfl,u3⟩
 have s3:=HS2.out.below u3
 have HU:Hid (Below w.heap.size w w3):=s3.out
 clear c1 K2 s3 u3
 generalize Dk.check p=z at *
 have hz:¬ z=0:=HK.out
 have hz2:(z=0)=False:=by simp [hz]
 have hd:decide (z=0)=false:=decide_eq_false hz
 go_wp2_with fail
 refine (awake_any w3).mono ?_
 rintro e w4 ⟨rfl,u4⟩
 have HU4:Hid (Below w.heap.size w w4):=Dk.up_call HU.out u4
 clear u4
 go_wp2_with fail
 go_ret
 exact ⟨rfl,HU4.out⟩
end Go.Proofs.YtglhhlfopccmaaaGreat
namespace Dk
theorem ready_in {q:Sp} {x:Int} (h:x ∈ q.ready):∃ n:Nat,x=n∧n < 16∧us q.st n=true∧(q.thr n).why=0:=by
 unfold Sp.ready at h
 rw [List.mem_filter] at h
 obtain ⟨j,e,hj,hu⟩:=usl_mem h.1
 subst e
 exact ⟨j,rfl,hj,hu,by simpa using h.2⟩
theorem ready_i64 {q:Sp}:∀ x ∈ q.ready,i64 x:=fun x hx=>by
 obtain ⟨n,rfl,hn,_⟩:=ready_in hx
 unfold i64
 omega
end Dk
namespace Go.Proofs.YtglhhlfopccmaaaGreat
open Go.RowKit Go.Lib
section
variable {W w w' : World} {L L1 L2 : Dk.Loc} {q q0 q1 q2 : Dk.Sp} {j : Nat} {us us' : List Dk.Thing}
theorem goes_records (h:Goes W w L q0 q j us) (hj:j≤150) :
  Calls Tryz.prog 25 #[.pointer (some ⟨L.b,0,none⟩)] w fun e w'=>∃ A C,e=.returned (.slice A q.recs.length C)∧Goes W w' L q0 q j (Dk.rowOf 74 6 (.slice A q.recs.length C) q.recs.length (q.recs.flatMap Dk.Rec.cells)::us):=by
 refine (Records_any h.cor (by have:=h.recs;omega)).mono ?_
 rintro e w' ⟨A,C,he,h'⟩
 exact ⟨A,C,he,h.with fun _=>h'⟩
theorem goes_memory (h:Goes W w L q0 q j us) (b:Dk.Born q0) :
  Calls Tryz.prog 27 #[.pointer (some ⟨L.b,0,none⟩)] w fun e w'=>∃ A C,e=.returned (.slice A q.mem.length C)∧Goes W w' L q0 q j (Dk.rowOf 38 1 (.slice A q.mem.length C) q.mem.length (Dk.uwK q.mem)::us):=by
 refine (Memory_any h.cor (by have:=h.dims.ml;have:=b.mem;omega)).mono ?_
 rintro e w' ⟨A,C,he,h'⟩
 exact ⟨A,C,he,h.with fun _=>h'⟩
theorem goes_ready (h:Goes W w L q0 q j us) (b:Dk.Born q0) :
  Calls Tryz.prog 22 #[.pointer (some ⟨L.b,0,none⟩)] w fun e w'=>∃ A C,e=.returned (.slice A q.ready.length C)∧Goes W w' L q0 q j (Dk.rowOf 3 1 (.slice A q.ready.length C) q.ready.length (Dk.is q.ready)::us):=by
 refine (Ready_any h.cor (by rw [h.dims.sl];exact b.h16)).mono ?_
 rintro e w' ⟨A,C,he,h'⟩
 exact ⟨A,C,he,h.with fun _=>h'⟩
theorem twin_records (h:Twin W w L1 L2 q0 q j us) (hj:j≤150) :
  Calls Tryz.prog 25 #[.pointer (some ⟨L1.b,0,none⟩)] w fun e w'=>∃ A C,e=.returned (.slice A q.recs.length C)∧Twin W w' L1 L2 q0 q j (Dk.rowOf 74 6 (.slice A q.recs.length C) q.recs.length (q.recs.flatMap Dk.Rec.cells)::us):=by
 obtain ⟨t2,h1,h2⟩:=h
 refine (goes_records h1 hj).mono ?_
 rintro e w' ⟨A,C,he,h'⟩
 exact ⟨A,C,he,t2,h',h2⟩
theorem twin_memory (h:Twin W w L1 L2 q0 q j us) (b:Dk.Born q0) :
  Calls Tryz.prog 27 #[.pointer (some ⟨L1.b,0,none⟩)] w fun e w'=>∃ A C,e=.returned (.slice A q.mem.length C)∧Twin W w' L1 L2 q0 q j (Dk.rowOf 38 1 (.slice A q.mem.length C) q.mem.length (Dk.uwK q.mem)::us):=by
 obtain ⟨t2,h1,h2⟩:=h
 refine (goes_memory h1 b).mono ?_
 rintro e w' ⟨A,C,he,h'⟩
 exact ⟨A,C,he,t2,h',h2⟩
theorem twin_ready (h:Twin W w L1 L2 q0 q j us) (b:Dk.Born q0) :
  Calls Tryz.prog 22 #[.pointer (some ⟨L1.b,0,none⟩)] w fun e w'=>∃ A C,e=.returned (.slice A q.ready.length C)∧Twin W w' L1 L2 q0 q j (Dk.rowOf 3 1 (.slice A q.ready.length C) q.ready.length (Dk.is q.ready)::us):=by
 obtain ⟨t2,h1,h2⟩:=h
 refine (goes_ready h1 b).mono ?_
 rintro e w' ⟨A,C,he,h'⟩
 exact ⟨A,C,he,t2,h',h2⟩
theorem Twin.row {e:TypeId} {s m:Nat} {v:Value} {xs:List Value} (h:Twin W w L1 L2 q0 q j us) (ht:Dk.rowOf e s v m xs ∈ us):w.ownsRow W.heap.size e s v m xs:=by
 obtain ⟨t2,h1,_⟩:=h
 exact h1.cor.row (List.mem_append_left _ ht)
theorem Twin.below (h:Twin W w L1 L2 q0 q j us) (u:Below w.heap.size w w'):Twin W w' L1 L2 q0 q j us:=h.with fun _ _ _ c=>c.below u
theorem sli_of {e:TypeId} {A:Option Addr} {C B:Nat} {xs:List Int} (h:w.ownsRow B e 1 (.slice A xs.length C) xs.length (Dk.is xs)) (hx:∀ x ∈ xs,Dk.i64 x):Dk.SlI w.heap.size w A xs.length C xs:=by
 obtain ⟨A',C',ev,h'⟩:=Dk.owns_ints h hx
 injection ev with e1 e2 e3
 subst e1 e3
 exact h'
end
theorem CoreAgain_yes (s:Dk.Sh) (p:Dk.Prg) (A:Option Addr) (Ln C:Nat) (acts:List (List Int)) (w:World) (hp:Dk.PrgAt w.heap.size w s p) (hr:Dk.Row 3 [] Dk.IsInts w.heap.size w A Ln C acts) (hk:Dk.check p=0) :
  Calls Tryz.prog 4 #[Dk.pv s p,.slice A Ln C] w fun e w'=>e=.returned (.bool true)∧Below w.heap.size w w':=by
 obtain ⟨W1,e1⟩:∃ W1,W1=w.alloc (.cells #[.slice s.fA s.fL s.fC,.int .i64 p.words,.int .i64 p.mutexes,.int .i64 p.conds,.slice s.sA s.sL s.sC,.slice s.pA s.pL s.pC,.int .i64 p.blocks,.int .i64 p.prio] 25):=⟨_,rfl⟩
 have s1:=(Dk.Sep.begin (Below.refl w.heap.size w)).newBox e1
 have u1:Below w.heap.size w W1:=s1.out
 have K:=NewC_yes s1 s p (hp.below u1 (Nat.le_refl _)) u1.size hk
 have c1:=(s1.box (b:=w.heap.size) (cs:=#[.slice s.fA s.fL s.fC,.int .i64 p.words,.int .i64 p.mutexes,.int .i64 p.conds,.slice s.sA s.sL s.sC,.slice s.pA s.pL s.pC,.int .i64 p.blocks,.int .i64 p.prio]) (t:=25) (by simp)).cell
 have HP:Hid (Dk.PrgAt w.heap.size w s p):=hp
 have HR:Hid (Dk.Row 3 [] Dk.IsInts w.heap.size w A Ln C acts):=hr
 have HK:Hid (Dk.check p=0):=hk
 have HBN:Hid (Dk.Born (Dk.Sp.fresh p)):=born_of hp hk
 have H1:Hid _:=e1.symm
 have hcap:=hr.cap
 have hmax:=hr.max
 unfold maxLen at hmax
 clear e1 s1 u1 hp hk hr
 go_enter Tryz.func4,Tryz.ntmps4
 go_wp2_with (rw [H1.out];clear H1)
 refine K.mono ?_
 rintro e w2 ⟨L1,rfl,h2⟩
 obtain ⟨ts,st,ft⟩:=h2.cor.opened
 have K2:=NewC_yes st s p (HP.out.below h2.cor.out (Nat.le_refl _)) h2.cor.out.size HK.out
 have HF:Hid (Beside w L1 (Dk.Sp.fresh p) 1 ts):=ft
 clear c1 K ft
 have c1:=(h2.cor.box (a:=w.heap.size) (cs:=#[.slice s.fA s.fL s.fC,.int .i64 p.words,.int .i64 p.mutexes,.int .i64 p.conds,.slice s.sA s.sL s.sC,.slice s.pA s.pL s.pC,.int .i64 p.blocks,.int .i64 p.prio]) (e:=25) (by simp)).cell
 clear st h2
 go_wp2_with fail
 refine K2.mono ?_
 rintro e w3 ⟨L2,rfl,h3⟩
 have hT:Twin w w3 L2 L1 (Dk.Sp.fresh p) (Dk.Sp.fresh p) 0 []:=⟨ts,h3.with (fun c=>c.drop),HF.out⟩
 have hT2:=hT.swap
 have HT:Hid (Twin w w3 L1 L2 (Dk.Sp.fresh p) (Dk.Sp.fresh p) 0 []):=hT2
 clear c1 K2 h3 hT hT2 HF HP HK
 generalize Dk.Sp.fresh p=q0 at *
 go_wp2_with fail
 go_loopw [9] (fun i w'=>∃ (j:Nat) (q:Dk.Sp),i=.int .i64 j∧j≤Ln∧j≤150∧Twin w w' L1 L2 q0 q j []) (fun i w'=>Ln - (intOf i).toNat)
 case atStart=>exact ⟨0,q0,rfl,Nat.zero_le _,by omega,HT.out⟩
 case round=>
  obtain ⟨j,q,rfl,hj,hj2,hT⟩:=hrel
  clear HT
  by_cases hlt:j < Ln∧j < 150
  ·obtain ⟨hlt,hl2⟩:=hlt
   obtain ⟨b,o,rfl,hb,hc⟩:=Dk.act3_cell HR.out (by omega)
   obtain ⟨x0,x1,x2,⟨i0,i1,i2⟩,c0,c1,c2⟩:=hc j hlt
   have uT:=hT.out
   rw [← uT.cell (by show b < _;exact hb)] at c0 c1 c2
   obtain ⟨w8,e8⟩:∃ w8,w8=wr.alloc (.cells #[.int .i64 x0,.int .i64 x1,.int .i64 x2] 37):=⟨_,rfl⟩
   have hT8:=hT.newBox e8
   have b8:=(hT8.box (a:=wr.heap.size) (cs:=#[.int .i64 x0,.int .i64 x1,.int .i64 x2]) (e:=37) (by simp)).cell
   have H8:Hid _:=e8.symm
   have I1:Hid (Dk.i64 x1):=i1
   have I2:Hid (Dk.i64 x2):=i2
   have HJ:Hid (j+1≤Ln∧j+1≤150):=⟨hlt,hl2⟩
   have m1:(j:Int) < (Ln:Int):=by omega
   have m2:(j:Int) < 150:=by omega
   generalize hb8:wr.heap.size=b8n at *
   clear hc uT i0 i1 i2 hT e8
   by_cases h0:x0=0
   ·subst h0
    have K:=twin_run hT8 HBN.out (by omega) x1 x2 I2.out
    clear hT8
    obtain ⟨q',eq'⟩:∃ q',q'=(q.run x1 x2).1:=⟨_,rfl⟩
    obtain ⟨er,eer⟩:∃ er,er=(q.run x1 x2).2.2:=⟨_,rfl⟩
    have hno:er≠0→q'=q:=fun h=>by rw [eq'];exact (Dk.run_no (by rw [← eer];exact h)).1
    rw [← eq',← eer] at K
    generalize (q.run x1 x2).2.1.stopped=r1 at K
    generalize (q.run x1 x2).2.1.ended=r2 at K
    generalize (q.run x1 x2).2.1.yielded=r3 at K
    generalize (q.run x1 x2).2.1.woken.length=r4 at K
    have EQ:Hid (q'=(q.run x1 x2).1):=eq'
    have HN:Hid (er≠0→q'=q):=hno
    clear eq' eer hno
    go_wp2_with (rw [H8.out];clear H8)
    refine K.mono ?_
    rintro e w9 ⟨A9,C9,rfl,h9⟩
    clear K b8
    obtain ⟨x9,e9⟩:∃ x9,x9=w9.alloc (.cells #[.slice A9 r4 C9,.bool r1,.bool r2,.bool r3] 68):=⟨_,rfl⟩
    have g9:=(h9.newBox e9).drop
    have b9:=(g9.box (a:=b8n) (cs:=#[.int .i64 0,.int .i64 x1,.int .i64 x2]) (e:=37) (by simp)).cell
    have H9:Hid _:=e9.symm
    clear h9 e9
    by_cases he:er=0
    ·subst he
     have K:=twin_run2 g9 HBN.out (by omega) x1 x2 I2.out EQ.out
     clear g9
     go_wp2_with (rw [H9.out];clear H9)
     refine K.mono ?_
     rintro e w10 ⟨v,rfl,h10⟩
     have h11:=h10.drop
     clear K b9 h10
     go_wp2_with fail
     go_roundw
     case rel=>exact ⟨j+1,q',by go_num,HJ.out.1,HJ.out.2,h11⟩
     case measure=>
      have:=HJ.out
      simp [intOf];omega
    ·have e1:=HN.out he
     subst e1
     have h11:=g9.same.drop
     clear g9 b9
     have HE:(er=0)=False:=by simp [he]
     go_wp2_with (rw [H9.out];clear H9)
     go_roundw
     case rel=>exact ⟨j+1,q',by go_num,HJ.out.1,HJ.out.2,h11⟩
     case measure=>
      have:=HJ.out
      simp [intOf];omega
   by_cases h1:x0=1
   ·subst h1
    have K:=twin_done hT8 HBN.out (by omega) x2 I2.out
    clear hT8
    obtain ⟨q',eq'⟩:∃ q',q'=(q.done x2).1:=⟨_,rfl⟩
    obtain ⟨er,eer⟩:∃ er,er=(q.done x2).2.2:=⟨_,rfl⟩
    have hno:er≠0→q'=q:=fun h=>by rw [eq'];exact (Dk.done_no (by rw [← eer];exact h)).1
    rw [← eq',← eer] at K
    generalize (q.done x2).2.1.woken.length=r4 at K
    have EQ:Hid (q'=(q.done x2).1):=eq'
    have HN:Hid (er≠0→q'=q):=hno
    clear eq' eer hno h0
    go_wp2_with (rw [H8.out];clear H8)
    refine K.mono ?_
    rintro e w9 ⟨A9,C9,rfl,h9⟩
    clear K b8
    obtain ⟨x9,e9⟩:∃ x9,x9=w9.alloc (.cells #[.slice A9 r4 C9,.bool false,.bool false,.bool false] 68):=⟨_,rfl⟩
    have g9:=(h9.newBox e9).drop
    have b9:=(g9.box (a:=b8n) (cs:=#[.int .i64 1,.int .i64 x1,.int .i64 x2]) (e:=37) (by simp)).cell
    have H9:Hid _:=e9.symm
    clear h9 e9
    by_cases he:er=0
    ·subst he
     have K:=twin_done2 g9 HBN.out (by omega) x2 I2.out EQ.out
     clear g9
     go_wp2_with (rw [H9.out];clear H9)
     refine K.mono ?_
     rintro e w10 ⟨v,rfl,h10⟩
     have h11:=h10.drop
     clear K b9 h10
     go_wp2_with fail
     go_roundw
     case rel=>exact ⟨j+1,q',by go_num,HJ.out.1,HJ.out.2,h11⟩
     case measure=>
      have:=HJ.out
      simp [intOf];omega
    ·have e1:=HN.out he
     subst e1
     have h11:=g9.same.drop
     clear g9 b9
     have HE:(er=0)=False:=by simp [he]
     go_wp2_with (rw [H9.out];clear H9)
     go_roundw
     case rel=>exact ⟨j+1,q',by go_num,HJ.out.1,HJ.out.2,h11⟩
     case measure=>
      have:=HJ.out
      simp [intOf];omega
   ·have K:=twin_tick hT8 HBN.out (by omega)
    clear hT8
    go_wp2_with (rw [H8.out];clear H8)
    refine K.mono ?_
    rintro e w9 ⟨v,rfl,h9⟩
    clear K b8
    have K:=twin_tick2 h9 HBN.out (by omega) rfl
    clear h9
    go_wp2_with fail
    refine K.mono ?_
    rintro e w10 ⟨v,rfl,h10⟩
    have h11:=h10.drop
    clear K h10
    go_wp2_with fail
    go_roundw
    case rel=>exact ⟨j+1,q.tick.1,by go_num,HJ.out.1,HJ.out.2,h11⟩
    case measure=>
     have:=HJ.out
     simp [intOf];omega
  ·have z1:(decide ((j:Int) < (Ln:Int)) && decide ((j:Int) < 150))=false:=by
    simp only [Bool.and_eq_false_iff,decide_eq_false_iff_not]
    omega
   have zz:(j:Int) < (Ln:Int)→¬ (j:Int) < 150:=fun h=>by omega
   by_cases hl:j < Ln
   ·have y1:(j:Int) < (Ln:Int):=by omega
    have y2:¬ (j:Int) < 150:=by omega
    clear z1 zz
    have HTE:Hid (Twin w wr L1 L2 q0 q j []):=hT
    clear hT
    go_wp2_with fail
    refine (awake_any wr).mono ?_
    rintro e w1 ⟨rfl,u1⟩
    have K:=twin_records (HTE.out.below u1) hj2
    clear u1 HTE
    go_wp2_with fail
    refine K.mono ?_
    rintro e w2 ⟨A2,C2,rfl,h2⟩
    have K':=twin_records h2.swap hj2
    clear K h2
    go_wp2_with fail
    refine K'.mono ?_
    rintro e w3 ⟨A3,C3,rfl,h3⟩
    have K:=Same_yes A2 A3 q.recs.length C2 C3 q.recs w3 (Dk.SlC.of_owns (e:=74) (h3.row (by simp))) (Dk.SlC.of_owns (e:=74) (h3.row (by simp)))
    have HT3:Hid (Twin w w3 L2 L1 q0 q j []):=h3.drop.drop
    clear K' h3
    generalize q.recs.length=nr at *
    go_wp2_with fail
    refine K.mono ?_
    rintro e w4 ⟨rfl,u4⟩
    have K':=twin_memory (HT3.out.below u4).swap HBN.out
    clear u4 HT3 K
    go_wp2_with fail
    refine K'.mono ?_
    rintro e w5 ⟨A5,C5,rfl,h5⟩
    have K:=twin_memory h5.swap HBN.out
    clear K' h5
    go_wp2_with fail
    refine K.mono ?_
    rintro e w6 ⟨A6,C6,rfl,h6⟩
    have K':=Words_yes A5 A6 q.mem.length C5 C6 q.mem w6 (Dk.SlC.of_owns (e:=38) (h6.row (by simp))) (Dk.SlC.of_owns (e:=38) (h6.row (by simp)))
    have HT6:Hid (Twin w w6 L2 L1 q0 q j []):=h6.drop.drop
    clear K h6
    generalize q.mem.length=nm at *
    go_wp2_with fail
    refine K'.mono ?_
    rintro e w7 ⟨rfl,u7⟩
    have K:=twin_ready (HT6.out.below u7).swap HBN.out
    clear u7 HT6 K'
    go_wp2_with fail
    refine K.mono ?_
    rintro e w8 ⟨A8,C8,rfl,h8⟩
    have K':=twin_ready h8.swap HBN.out
    clear K h8
    go_wp2_with fail
    refine K'.mono ?_
    rintro e w9 ⟨A9,C9,rfl,h9⟩
    have K:=Ints_same A8 A9 q.ready.length C8 C9 q.ready w9 (sli_of (e:=3) (h9.row (by simp)) Dk.ready_i64) (sli_of (e:=3) (h9.row (by simp)) Dk.ready_i64)
    have HU:Hid (Below w.heap.size w w9):=h9.out
    clear K' h9
    generalize q.ready.length=ny at *
    go_wp2_with fail
    refine K.mono ?_
    rintro e wa ⟨rfl,ua⟩
    have HUA:Hid (Below w.heap.size w wa):=Dk.up_call HU.out ua
    clear ua K
    go_wp2_with fail
    go_ret
    exact ⟨rfl,HUA.out⟩
   ·have y1:¬ (j:Int) < (Ln:Int):=by omega
    clear z1 zz
    have HTE:Hid (Twin w wr L1 L2 q0 q j []):=hT
    clear hT
    go_wp2_with fail
    refine (awake_any wr).mono ?_
    rintro e w1 ⟨rfl,u1⟩
    have K:=twin_records (HTE.out.below u1) hj2
    clear u1 HTE
    go_wp2_with fail
    refine K.mono ?_
    rintro e w2 ⟨A2,C2,rfl,h2⟩
    have K':=twin_records h2.swap hj2
    clear K h2
    go_wp2_with fail
    refine K'.mono ?_
    rintro e w3 ⟨A3,C3,rfl,h3⟩
    have K:=Same_yes A2 A3 q.recs.length C2 C3 q.recs w3 (Dk.SlC.of_owns (e:=74) (h3.row (by simp))) (Dk.SlC.of_owns (e:=74) (h3.row (by simp)))
    have HT3:Hid (Twin w w3 L2 L1 q0 q j []):=h3.drop.drop
    clear K' h3
    generalize q.recs.length=nr at *
    go_wp2_with fail
    refine K.mono ?_
    rintro e w4 ⟨rfl,u4⟩
    have K':=twin_memory (HT3.out.below u4).swap HBN.out
    clear u4 HT3 K
    go_wp2_with fail
    refine K'.mono ?_
    rintro e w5 ⟨A5,C5,rfl,h5⟩
    have K:=twin_memory h5.swap HBN.out
    clear K' h5
    go_wp2_with fail
    refine K.mono ?_
    rintro e w6 ⟨A6,C6,rfl,h6⟩
    have K':=Words_yes A5 A6 q.mem.length C5 C6 q.mem w6 (Dk.SlC.of_owns (e:=38) (h6.row (by simp))) (Dk.SlC.of_owns (e:=38) (h6.row (by simp)))
    have HT6:Hid (Twin w w6 L2 L1 q0 q j []):=h6.drop.drop
    clear K h6
    generalize q.mem.length=nm at *
    go_wp2_with fail
    refine K'.mono ?_
    rintro e w7 ⟨rfl,u7⟩
    have K:=twin_ready (HT6.out.below u7).swap HBN.out
    clear u7 HT6 K'
    go_wp2_with fail
    refine K.mono ?_
    rintro e w8 ⟨A8,C8,rfl,h8⟩
    have K':=twin_ready h8.swap HBN.out
    clear K h8
    go_wp2_with fail
    refine K'.mono ?_
    rintro e w9 ⟨A9,C9,rfl,h9⟩
    have K:=Ints_same A8 A9 q.ready.length C8 C9 q.ready w9 (sli_of (e:=3) (h9.row (by simp)) Dk.ready_i64) (sli_of (e:=3) (h9.row (by simp)) Dk.ready_i64)
    have HU:Hid (Below w.heap.size w w9):=h9.out
    clear K' h9
    generalize q.ready.length=ny at *
    go_wp2_with fail
    refine K.mono ?_
    rintro e wa ⟨rfl,ua⟩
    have HUA:Hid (Below w.heap.size w wa):=Dk.up_call HU.out ua
    clear ua K
    go_wp2_with fail
    go_ret
    exact ⟨rfl,HUA.out⟩
theorem CoreAgain_any (s:Dk.Sh) (p:Dk.Prg) (A:Option Addr) (Ln C:Nat) (acts:List (List Int)) (w:World) (hp:Dk.PrgAt w.heap.size w s p) (hr:Dk.Row 3 [] Dk.IsInts w.heap.size w A Ln C acts) :
  Calls Tryz.prog 4 #[Dk.pv s p,.slice A Ln C] w fun e w'=>e=.returned (.bool true)∧Below w.heap.size w w':=by
 by_cases hk:Dk.check p=0
 ·exact CoreAgain_yes s p A Ln C acts w hp hr hk
 ·exact CoreAgain_no s p A Ln C w hp hk
end Go.Proofs.YtglhhlfopccmaaaGreat
