import Derived.Test.YtglhhlfopccmaaaGreatBe43
import Derived.ChangeKeysEq
set_option linter.unusedSimpArgs false
set_option linter.unusedVariables false
set_option linter.unnecessarySimpa false
set_option maxHeartbeats 8000000
set_option maxRecDepth 100000
namespace Dk
open Go Go.RowKit
structure SlC (w:World) (A:Option Addr) (n C s:Nat) (xs:List Value):Prop where
 len:xs.length=n*s
 cap:n≤C
 max:C≤maxLen
 cells:0 < n→∃ b o,A=some ⟨b,o,none⟩∧b < w.heap.size∧∀ j u,xs[j]? = some u→w.cell? ⟨b,o+j,none⟩=some u
theorem SlC.of_owns {w:World} {base:Nat} {e:TypeId} {A:Option Addr} {n C s:Nat} {xs:List Value} (h:w.ownsRow base e s (.slice A n C) n xs):SlC w A n C s xs:=by
 obtain ⟨_,C',ev,h1,h2⟩:=owns_slice h
 injection ev with e1 e2 e3
 subst e3
 refine ⟨h.1,h1,h2,fun h0=>?_⟩
 obtain ⟨_,⟨e0,h0'⟩ | ⟨g,cap,cur,e0,hg⟩⟩:=id h
 ·omega
 ·injection e0 with q1 q2 q3
  subst q1
  refine ⟨g,0,rfl,(World.ownsRow.lt h g rfl).2,fun j u hj=>?_⟩
  have:=h.cells (g:=g) rfl j u hj
  rw [Addr.add_lit] at this
  exact this
theorem SlC.take {w:World} {A:Option Addr} {n C s:Nat} {xs:List Value} (h:SlC w A n C s xs) {m:Nat} (hm:m≤n):SlC w A m C s (xs.take (m*s)):=⟨by
 rw [List.length_take,h.len]
 have:=Nat.mul_le_mul_right s hm
 omega,by have:=h.cap;omega,h.max,fun h0=>by
 obtain ⟨b,o,e,hb,hc⟩:=h.cells (by omega)
 refine ⟨b,o,e,hb,fun j u hj=>hc j u ?_⟩
 rw [List.getElem?_take] at hj
 split at hj
 ·exact hj
 ·cases hj⟩
end Dk
namespace Go.Proofs.YtglhhlfopccmaaaGreat
open Go.RowKit Go.Lib
theorem same_rec (d:Nat) (r:Dk.Rec) (w:World):(Op.equalIn (d+2) 74 (.agg r.cells.toArray) (.agg r.cells.toArray)).run Tryz.prog w=.ok true w:=by
 unfold Dk.Rec.cells
 rw [run_equalIn_agg w (d+1) 74 _ _ (by kernel_rfl) (by kernel_rfl)]
 simp [go_sem,part]
theorem neq_rec (r:Dk.Rec) (w:World):(binOp .neq 74 (.agg r.cells.toArray) (.agg r.cells.toArray)).run Tryz.prog w=.ok (.bool false) w:=by
 rw [run_neq_struct,same_rec 9998]
 rfl
theorem Same_yes (A A':Option Addr) (n C C':Nat) (rs:List Dk.Rec) (w:World) (h:Dk.SlC w A n C 6 (rs.flatMap Dk.Rec.cells)) (h':Dk.SlC w A' n C' 6 (rs.flatMap Dk.Rec.cells)) :
  Calls Tryz.prog 24 #[.slice A n C,.slice A' n C'] w fun e w'=>e=.returned (.bool true)∧Below w.heap.size w w':=by
 have hcap:=h.cap
 have hmax:=h.max
 unfold maxLen at hmax
 have hlen:rs.length=n:=by
  have:=h.len
  rw [Dk.flat_len Dk.Rec.len] at this
  omega
 have HL:Hid (rs.length=n):=hlen
 clear hlen
 go_enter Tryz.func24,Tryz.ntmps24
 go_wp2
 go_loopw [5] (fun i w'=>∃ k:Nat,k≤n∧i=.int .i64 k∧Hid (Below w.heap.size w w')) (fun i w'=>n - (intOf i).toNat)
 case atStart=>exact ⟨0,Nat.zero_le _,rfl,Below.refl _ _⟩
 case round=>
  obtain ⟨k,hk,rfl,HB⟩:=hrel
  by_cases hlt:k < n
  ·obtain ⟨b,o,rfl,hb,hc⟩:=h.cells (by omega)
   obtain ⟨b',o',rfl,hb',hc'⟩:=h'.cells (by omega)
   have hkl:k < rs.length:=by have:=HL.out;omega
   obtain ⟨r,hr⟩:∃ r,rs[k]? = some r:=⟨_,List.getElem?_eq_getElem hkl⟩
   have g:=fun j (hj:j < 6) (u:Value) (hu:r.cells[j]? = some u)=>hc (k*6+j) u ((Dk.flat_get Dk.Rec.len rs k j r hr hj).trans hu)
   have g':=fun j (hj:j < 6) (u:Value) (hu:r.cells[j]? = some u)=>hc' (k*6+j) u ((Dk.flat_get Dk.Rec.len rs k j r hr hj).trans hu)
   have t:∀ j,wr.cell? ⟨b,j,none⟩=w.cell? ⟨b,j,none⟩:=fun j=>HB.out.cell (by show b < w.heap.size;exact hb)
   have t':∀ j,wr.cell? ⟨b',j,none⟩=w.cell? ⟨b',j,none⟩:=fun j=>HB.out.cell (by show b' < w.heap.size;exact hb')
   have c0:wr.cell? ⟨b,o+k*6,none⟩=some (.int .u64 (r.thread:Nat)):=by rw [t];exact g 0 (by omega) _ rfl
   have c1:wr.cell? ⟨b,o+k*6+1,none⟩=some (.int .i64 r.op):=by rw [t];exact g 1 (by omega) _ rfl
   have c2:wr.cell? ⟨b,o+k*6+2,none⟩=some (.int .u64 (r.x:Nat)):=by rw [t];exact g 2 (by omega) _ rfl
   have c3:wr.cell? ⟨b,o+k*6+3,none⟩=some (.int .u64 (r.y:Nat)):=by rw [t];exact g 3 (by omega) _ rfl
   have c4:wr.cell? ⟨b,o+k*6+4,none⟩=some (.int .i64 r.result):=by rw [t];exact g 4 (by omega) _ rfl
   have c5:wr.cell? ⟨b,o+k*6+5,none⟩=some (.bool r.fin):=by rw [t];exact g 5 (by omega) _ rfl
   have d0:wr.cell? ⟨b',o'+k*6,none⟩=some (.int .u64 (r.thread:Nat)):=by rw [t'];exact g' 0 (by omega) _ rfl
   have d1:wr.cell? ⟨b',o'+k*6+1,none⟩=some (.int .i64 r.op):=by rw [t'];exact g' 1 (by omega) _ rfl
   have d2:wr.cell? ⟨b',o'+k*6+2,none⟩=some (.int .u64 (r.x:Nat)):=by rw [t'];exact g' 2 (by omega) _ rfl
   have d3:wr.cell? ⟨b',o'+k*6+3,none⟩=some (.int .u64 (r.y:Nat)):=by rw [t'];exact g' 3 (by omega) _ rfl
   have d4:wr.cell? ⟨b',o'+k*6+4,none⟩=some (.int .i64 r.result):=by rw [t'];exact g' 4 (by omega) _ rfl
   have d5:wr.cell? ⟨b',o'+k*6+5,none⟩=some (.bool r.fin):=by rw [t'];exact g' 5 (by omega) _ rfl
   have hq:∀ w,(binOp .neq 74 (.agg #[.int .u64 (r.thread:Nat),.int .i64 r.op,.int .u64 (r.x:Nat),.int .u64 (r.y:Nat),.int .i64 r.result,.bool r.fin]) (.agg #[.int .u64 (r.thread:Nat),.int .i64 r.op,.int .u64 (r.x:Nat),.int .u64 (r.y:Nat),.int .i64 r.result,.bool r.fin])).run Tryz.prog w=.ok (.bool false) w:=fun w=>neq_rec r w
   clear hc hc' h h' g g' t t' hr
   go_wp2
   go_quiet (fail)
   go_wp2
   go_roundw
   case rel=>exact ⟨k+1,by omega,by go_num,Dk.up_drewN HB.out nq⟩
   case measure=>simp [intOf];omega
  ·go_wp2
   go_ret
   exact ⟨rfl,HB.out⟩
end Go.Proofs.YtglhhlfopccmaaaGreat
namespace Dk
open Go Go.RowKit
theorem act3_cell {B:Nat} {w:World} {A:Option Addr} {L C:Nat} {ac:List (List Int)} (h:Row 3 [] IsInts B w A L C ac) (h0:0 < L):∃ b o,A=some ⟨b,o,none⟩∧b < B∧∀ k,k < L→∃ x0 x1 x2,(i64 x0∧i64 x1∧i64 x2)∧w.cell? ⟨b,o+k*3,none⟩=some (.int .i64 x0)∧w.cell? ⟨b,o+k*3+1,none⟩=some (.int .i64 x1)∧w.cell? ⟨b,o+k*3+2,none⟩=some (.int .i64 x2):=by
 obtain ⟨b,o,e,hb,hc⟩:=h.cells h0
 refine ⟨b,o,e,hb,fun k hk=>?_⟩
 obtain ⟨vs,h1,⟨rfl,h2⟩,h3⟩:=hc k hk
 match hm:ac.getD k [],h1,h2,h3 with
 | [x0,x1,x2],_,h2,h3=>exact ⟨x0,x1,x2,⟨h2 x0 (by simp),h2 x1 (by simp),h2 x2 (by simp)⟩,h3 0 (by omega),h3 1 (by omega),h3 2 (by omega)⟩
theorem run_no {q:Sp} {slot ch:Int} (h:(q.run slot ch).2.2≠0):(q.run slot ch).1=q∧(q.run slot ch).2.1=Eff.none:=by
 unfold Sp.run at h ⊢
 dsimp only at h ⊢
 split
 ·exact ⟨rfl,rfl⟩
 split
 ·exact ⟨rfl,rfl⟩
 ·rename_i h1 h2
  rw [if_neg h1,if_neg h2] at h
  repeat' split at h
  all_goals exact absurd rfl h
end Dk
namespace Go.Proofs.YtglhhlfopccmaaaGreat
open Go.RowKit Go.Lib
section
variable {W w w' : World} {L L1 L2 : Dk.Loc} {q q0 q1 q2 : Dk.Sp} {k k1 k2 N R j : Nat} {us us' t2 : List Dk.Thing}
theorem Lives.mono {N' k' R':Nat} (h:Lives W w L q0 q N k R us) (hN:N≤N') (hk:k≤k') (hR:R≤R'):Lives W w L q0 q N' k' R' us:=⟨h.cor.mono hk,h.life.mono hN,h.dims,Nat.le_trans h.recs hR⟩
def Goes (W w:World) (L:Dk.Loc) (q0 q:Dk.Sp) (j:Nat) (us:List Dk.Thing):Prop:=Lives W w L q0 q j (j+1) (200*j) us
theorem run_goes (h:Goes W w L q0 q j us) (b:Dk.Born q0) (hj:j≤150) (slot ch:Int) (hch:Dk.i64 ch) :
  Calls Tryz.prog 28 #[.pointer (some ⟨L.b,0,none⟩),.int .i64 slot,.int .i64 ch] w fun e w'=>∃ A C,e=.returned (.tuple #[eff A (q.run slot ch).2.1.woken.length C (q.run slot ch).2.1.stopped (q.run slot ch).2.1.ended (q.run slot ch).2.1.yielded,.int .i64 (q.run slot ch).2.2])∧Goes W w' L q0 (q.run slot ch).1 (j+1) (Dk.rowOf 3 1 (.slice A (q.run slot ch).2.1.woken.length C) (q.run slot ch).2.1.woken.length (Dk.is (q.run slot ch).2.1.woken)::us):=by
 refine (run_lives h b (by omega) (by omega) (by omega) slot hch).mono ?_
 rintro e w' ⟨A,C,he,h'⟩
 exact ⟨A,C,he,h'.mono (Nat.le_refl _) (Nat.le_refl _) (by omega)⟩
theorem done_goes (h:Goes W w L q0 q j us) (b:Dk.Born q0) (hj:j≤150) (ch:Int) (hch:Dk.i64 ch) :
  Calls Tryz.prog 29 #[.pointer (some ⟨L.b,0,none⟩),.int .i64 ch] w fun e w'=>∃ A C,e=.returned (.tuple #[eff A (q.done ch).2.1.woken.length C false false false,.int .i64 (q.done ch).2.2])∧Goes W w' L q0 (q.done ch).1 (j+1) (Dk.rowOf 3 1 (.slice A (q.done ch).2.1.woken.length C) (q.done ch).2.1.woken.length (Dk.is (q.done ch).2.1.woken)::us):=by
 refine (done_lives h b (by omega) (by omega) (by omega) ch hch).mono ?_
 rintro e w' ⟨A,C,he,h'⟩
 exact ⟨A,C,he,h'.mono (by omega) (by omega) (by omega)⟩
theorem tick_goes (h:Goes W w L q0 q j us) (b:Dk.Born q0) (hj:j≤150) :
  Calls Tryz.prog 30 #[.pointer (some ⟨L.b,0,none⟩)] w fun e w'=>∃ A C,e=.returned (eff A q.tick.2.woken.length C false false false)∧Goes W w' L q0 q.tick.1 (j+1) (Dk.rowOf 3 1 (.slice A q.tick.2.woken.length C) q.tick.2.woken.length (Dk.is q.tick.2.woken)::us):=by
 refine (tick_lives h b (by omega) (by omega) (by omega)).mono ?_
 rintro e w' ⟨A,C,he,h'⟩
 exact ⟨A,C,he,h'.mono (by omega) (by omega) (by omega)⟩
theorem Goes.with (h:Goes W w L q0 q j us) (c:Cor W w L q (j+1) us→Cor W w' L q (j+1) us'):Goes W w' L q0 q j us':=Lives.with h c
def Beside (W:World) (L:Dk.Loc) (q:Dk.Sp) (k:Nat) (ts:List Dk.Thing):Prop:=∀ w us,Dk.Sep W w (us++ts)→Cor W w L q k us
def Twin (W w:World) (L1 L2:Dk.Loc) (q0 q:Dk.Sp) (j:Nat) (us:List Dk.Thing):Prop:=∃ t2,Goes W w L1 q0 q j (us++t2)∧Beside W L2 q (j+1) t2
theorem Twin.with (h:Twin W w L1 L2 q0 q j us) (c:∀ q k t2,Cor W w L1 q k (us++t2)→Cor W w' L1 q k (us'++t2)):Twin W w' L1 L2 q0 q j us':=by
 obtain ⟨t2,h1,h2⟩:=h
 exact ⟨t2,h1.with (c _ _ _),h2⟩
def Half2 (W w:World) (L1 L2:Dk.Loc) (q0 q q':Dk.Sp) (j:Nat) (us:List Dk.Thing):Prop:=∃ t2,Goes W w L1 q0 q' (j+1) (us++t2)∧Beside W L2 q (j+1) t2∧Dk.Life j q∧Dk.Dims q0 q∧q.recs.length≤200*j
theorem Half2.with (h:Half2 W w L1 L2 q0 q q1 j us) (c:∀ q k t2,Cor W w L1 q k (us++t2)→Cor W w' L1 q k (us'++t2)):Half2 W w' L1 L2 q0 q q1 j us':=by
 obtain ⟨t2,h1,h2⟩:=h
 exact ⟨t2,h1.with (c _ _ _),h2⟩
end
section
variable {W w w' : World} {L L1 L2 : Dk.Loc} {q q0 q1 q2 : Dk.Sp} {j : Nat} {us us' : List Dk.Thing}
theorem Twin.out (h:Twin W w L1 L2 q0 q j us):Below W.heap.size W w:=by
 obtain ⟨t2,h1,_⟩:=h
 exact h1.cor.out
end
section
variable {W w w' : World} {L L1 L2 : Dk.Loc} {q q0 q1 q2 : Dk.Sp} {j : Nat} {us us' : List Dk.Thing}
theorem goes_records (h:Goes W w L q0 q j us) (hj:j≤150) :
  Calls Tryz.prog 25 #[.pointer (some ⟨L.b,0,none⟩)] w fun e w'=>∃ A C,e=.returned (.slice A q.recs.length C)∧Goes W w' L q0 q j (Dk.rowOf 74 6 (.slice A q.recs.length C) q.recs.length (q.recs.flatMap Dk.Rec.cells)::us):=by
 refine (Records_any h.cor (by have:=h.recs;omega)).mono ?_
 rintro e w' ⟨A,C,he,h'⟩
 exact ⟨A,C,he,h.with fun _=>h'⟩
end
end Go.Proofs.YtglhhlfopccmaaaGreat
namespace Dk
theorem GoodR.next {l:List Rec} (h:GoodR l) {i k:Nat} {r s:Rec} (hi:l[i]? = some r) (hk:l[k]? = some s) (hik:i < k) (hf:r.fin=false) (ht:s.thread=r.thread) (hm:∀ m t,i < m→m < k→l[m]? = some t→t.thread≠r.thread):s.fin=true∧s.op=r.op∧s.x=0∧s.result=0:=by
 have hkl:=(List.getElem?_eq_some_iff.1 hk).1
 refine h (l.take k) s (l.drop (k+1)) ?_ r ?_ hf
 ·rw [← (List.getElem?_eq_some_iff.1 hk).2]
  simp
 ·rw [ht]
  have hil:i < (l.take k).length:=by rw [List.length_take];omega
  have e1:l.take k=(l.take k).take i++r::(l.take k).drop (i+1):=by
   have:(l.take k)[i]=r:=by rw [List.getElem_take];exact (List.getElem?_eq_some_iff.1 hi).2
   rw [← this]
   exact (List.take_append_drop i (l.take k)).symm.trans (by rw [List.drop_eq_getElem_cons hil])
  unfold lastR
  rw [e1,List.filter_append,List.filter_cons_of_pos (by simp)]
  have e2:((l.take k).drop (i+1)).filter (fun x=>x.thread == r.thread)=[]:=by
   rw [List.filter_eq_nil_iff]
   intro t ht'
   obtain ⟨m,hm'⟩:=List.getElem?_of_mem ht'
   rw [List.getElem?_drop,List.getElem?_take] at hm'
   split at hm'
   ·rename_i hlt
    simpa using hm (i+1+m) t (by omega) hlt hm'
   ·cases hm'
  rw [e2,List.getLast?_append]
  rfl
end Dk
namespace Go.Proofs.YtglhhlfopccmaaaGreat
open Go.RowKit Go.Lib
theorem CoreBegins_no (s:Dk.Sh) (p:Dk.Prg) (A:Option Addr) (Ln C:Nat) (w:World) (hp:Dk.PrgAt w.heap.size w s p) (hk:Dk.check p≠0) :
  Calls Tryz.prog 5 #[Dk.pv s p,.slice A Ln C] w fun e w'=>e=.returned (.bool true)∧Below w.heap.size w w':=by
 obtain ⟨W1,e1⟩:∃ W1,W1=w.alloc (.cells #[.slice s.fA s.fL s.fC,.int .i64 p.words,.int .i64 p.mutexes,.int .i64 p.conds,.slice s.sA s.sL s.sC,.slice s.pA s.pL s.pC,.int .i64 p.blocks,.int .i64 p.prio] 25):=⟨_,rfl⟩
 have s1:=(Dk.Sep.begin (Below.refl w.heap.size w)).newBox e1
 have u1:Below w.heap.size w W1:=s1.out
 have K:=NewC_no s p W1 (hp.below u1 (Nat.le_refl _)) u1.size hk
 have c1:=(s1.box (b:=w.heap.size) (cs:=#[.slice s.fA s.fL s.fC,.int .i64 p.words,.int .i64 p.mutexes,.int .i64 p.conds,.slice s.sA s.sL s.sC,.slice s.pA s.pL s.pC,.int .i64 p.blocks,.int .i64 p.prio]) (t:=25) (by simp)).cell
 have HS:Hid (Below w.heap.size w W1):=u1
 have HK:Hid (Dk.check p≠0):=hk
 have H1:Hid _:=e1.symm
 clear e1 s1 u1 hp hk
 generalize Dk.check p=z at *
 go_enter Tryz.func5,Tryz.ntmps5
 go_wp2_with (rw [H1.out];clear H1)
 refine K.mono ?_
 rintro e w2 ⟨rfl,u2⟩
 have HU:Hid (Below w.heap.size w w2):=Dk.up_call HS.out u2
 have hz:¬ z=0:=HK.out
 clear c1 K u2
 go_wp2_with fail
 refine (awake_any w2).mono ?_
 rintro e w4 ⟨rfl,u4⟩
 have HU4:Hid (Below w.heap.size w w4):=Dk.up_call HU.out u4
 clear u4
 go_wp2_with fail
 go_ret
 exact ⟨rfl,HU4.out⟩
theorem CoreBegins_yes (s:Dk.Sh) (p:Dk.Prg) (A:Option Addr) (Ln C:Nat) (acts:List (List Int)) (w:World) (hp:Dk.PrgAt w.heap.size w s p) (hr:Dk.Row 3 [] Dk.IsInts w.heap.size w A Ln C acts) (hk:Dk.check p=0) :
  Calls Tryz.prog 5 #[Dk.pv s p,.slice A Ln C] w fun e w'=>e=.returned (.bool true)∧Below w.heap.size w w':=by
 obtain ⟨W1,e1⟩:∃ W1,W1=w.alloc (.cells #[.slice s.fA s.fL s.fC,.int .i64 p.words,.int .i64 p.mutexes,.int .i64 p.conds,.slice s.sA s.sL s.sC,.slice s.pA s.pL s.pC,.int .i64 p.blocks,.int .i64 p.prio] 25):=⟨_,rfl⟩
 have s1:=(Dk.Sep.begin (Below.refl w.heap.size w)).newBox e1
 have u1:Below w.heap.size w W1:=s1.out
 have K:=NewC_yes s1 s p (hp.below u1 (Nat.le_refl _)) u1.size hk
 have c1:=(s1.box (b:=w.heap.size) (cs:=#[.slice s.fA s.fL s.fC,.int .i64 p.words,.int .i64 p.mutexes,.int .i64 p.conds,.slice s.sA s.sL s.sC,.slice s.pA s.pL s.pC,.int .i64 p.blocks,.int .i64 p.prio]) (t:=25) (by simp)).cell
 have HR:Hid (Dk.Row 3 [] Dk.IsInts w.heap.size w A Ln C acts):=hr
 have HBN:Hid (Dk.Born (Dk.Sp.fresh p)):=born_of hp hk
 have H1:Hid _:=e1.symm
 have hcap:=hr.cap
 have hmax:=hr.max
 unfold maxLen at hmax
 clear e1 s1 u1 hp hk hr
 go_enter Tryz.func5,Tryz.ntmps5
 go_wp2_with (rw [H1.out];clear H1)
 refine K.mono ?_
 rintro e w2 ⟨L,rfl,h2⟩
 have hG:Goes w w2 L (Dk.Sp.fresh p) (Dk.Sp.fresh p) 0 []:=h2.with (fun c=>c.drop)
 obtain ⟨w3,e3⟩:∃ w3,w3=w2.alloc (.cells #[] 74):=⟨_,rfl⟩
 have u3:Below w2.heap.size w2 w3:=by rw [e3];exact Dk.up_alloc (Below.refl _ _) _
 have hG3:Goes w w3 L (Dk.Sp.fresh p) (Dk.Sp.fresh p) 0 [Dk.rowOf 74 6 (.slice (some ⟨w2.heap.size,0,none⟩) 0 0) 0 []]:=hG.with (fun c=>(c.addRow u3 (by rw [e3];exact World.ownsRow_lit w2 #[] 0 (Nat.le_refl _) (Nat.zero_le _) (by simp))))
 have HG:Hid (Goes w w3 L (Dk.Sp.fresh p) (Dk.Sp.fresh p) 0 [Dk.rowOf 74 6 (.slice (some ⟨w2.heap.size,0,none⟩) (Dk.Sp.fresh p).recs.length 0) (Dk.Sp.fresh p).recs.length ((Dk.Sp.fresh p).recs.flatMap Dk.Rec.cells)]):=hG3
 have HSN:Hid (Dk.Seen (fun _=>False) (Dk.Sp.fresh p)):=Dk.fresh_seen p
 have HN0:Hid ((Dk.Sp.fresh p).recs.length=0):=rfl
 have H3:Hid _:=e3.symm
 clear c1 K h2 hG hG3 e3 u3
 generalize Dk.Sp.fresh p=q0 at *
 go_wp2_with (rw [H3.out];clear H3)
 go_loopw [7,8] (fun v i w'=>∃ (j:Nat) (q:Dk.Sp) (A':Option Addr) (C':Nat),i=.int .i64 j∧j≤Ln∧j≤100∧v=.slice A' q.recs.length C'∧Goes w w' L q0 q j [Dk.rowOf 74 6 (.slice A' q.recs.length C') q.recs.length (q.recs.flatMap Dk.Rec.cells)]∧Dk.Seen (fun _=>False) q) (fun v i w'=>Ln - (intOf i).toNat)
 case atStart=>exact ⟨0,q0,some ⟨w2.heap.size,0,none⟩,0,rfl,Nat.zero_le _,by omega,by rw [HN0.out],HG.out,HSN.out⟩
 case round=>
  obtain ⟨j,q,A',C',rfl,hj,hj2,rfl,hG,hS⟩:=hrel
  clear HG HSN HN0
  by_cases hlt:j < Ln∧j < 100
  ·obtain ⟨hlt,hl2⟩:=hlt
   obtain ⟨b,o,rfl,hb,hc⟩:=Dk.act3_cell HR.out (by omega)
   obtain ⟨x0,x1,x2,⟨i0,i1,i2⟩,c0,c1,c2⟩:=hc j hlt
   have uT:=hG.cor.out
   rw [← uT.cell (by show b < _;exact hb)] at c0 c1 c2
   have I1:Hid (Dk.i64 x1):=i1
   have I2:Hid (Dk.i64 x2):=i2
   have HJ:Hid (j+1≤Ln∧j+1≤100):=⟨hlt,hl2⟩
   have m1:(j:Int) < (Ln:Int):=by omega
   have m2:(j:Int) < 100:=by omega
   have m3:(0:Int)≤(j:Int):=by omega
   have hW:=Lives.well hG HBN.out (by omega)
   have HW:Hid q.Well:=hW
   have HQ:Hid (Dk.Seen (fun _=>False) q):=hS
   clear hc uT i0 i1 i2 hW hS
   by_cases h0:x0=0
   ·subst h0
    have hd:Goes w wr.drew L q0 q j _:=hG.with (fun c=>c.below (Dk.up_drew (Below.refl _ _)))
    clear hG
    go_upto_region 11 with fail
    obtain ⟨S,eS⟩:∃ S:World→Prop,S=fun w'=>w'.cell? ⟨b,o+j*3+1,none⟩=some (.int .i64 x1)∧w'.cell? ⟨b,o+j*3+2,none⟩=some (.int .i64 x2):=⟨_,rfl⟩
    have S0:S wr.drew:=by rw [eS];exact ⟨c1,c2⟩
    have SB:∀ w',S w'→w'.cell? ⟨b,o+j*3+1,none⟩=some (.int .i64 x1)∧w'.cell? ⟨b,o+j*3+2,none⟩=some (.int .i64 x2):=fun w' h=>by rw [eS] at h;exact h
    clear eS c1 c2
    refine Dk.wp_region_tree (S:=S) [] [0,1,2,3,4,5,6,7,8,9,10] [11] 1 (by kernel_rfl) (by kernel_rfl) (by kernel_rfl) (by kernel_rfl) rfl S0 _ ?_ (fun a' h=>h)
    refine Dk.held_step (v:=.pointer (some ⟨L.b,0,none⟩)) rfl rfl (fun w' hw'=>by go_simp) ?_
    simp only [Act.put,zA,zB,zC]
    refine Dk.held_step (v:=.slice (some ⟨b,o,none⟩) Ln C) rfl rfl (fun w' hw'=>by go_simp) ?_
    simp only [Act.put,zA,zB,zC]
    refine Dk.held_step (v:=.int .i64 (j:Int)) rfl rfl (fun w' hw'=>by go_simp) ?_
    simp only [Act.put,zA,zB,zC]
    refine Dk.held_step (v:=.pointer (some ⟨b,o+j*3,none⟩)) rfl rfl (fun w' hw'=>by go_simp) ?_
    simp only [Act.put,zA,zB,zC]
    refine Dk.held_step (v:=.pointer (some ⟨b,o+j*3+1,none⟩)) rfl rfl (fun w' hw'=>by go_simp) ?_
    simp only [Act.put,zA,zB,zC]
    refine Dk.held_step (v:=.int .i64 x1) rfl rfl (fun w' hw'=>by have c:=(SB _ hw').1;go_simp) ?_
    simp only [Act.put,zA,zB,zC]
    refine Dk.held_step (v:=.slice (some ⟨b,o,none⟩) Ln C) rfl rfl (fun w' hw'=>by go_simp) ?_
    simp only [Act.put,zA,zB,zC]
    refine Dk.held_step (v:=.int .i64 (j:Int)) rfl rfl (fun w' hw'=>by go_simp) ?_
    simp only [Act.put,zA,zB,zC]
    refine Dk.held_step (v:=.pointer (some ⟨b,o+j*3,none⟩)) rfl rfl (fun w' hw'=>by go_simp) ?_
    simp only [Act.put,zA,zB,zC]
    refine Dk.held_step (v:=.pointer (some ⟨b,o+j*3+2,none⟩)) rfl rfl (fun w' hw'=>by go_simp) ?_
    simp only [Act.put,zA,zB,zC]
    refine Dk.held_step (v:=.int .i64 x2) rfl rfl (fun w' hw'=>by have c:=(SB _ hw').2;go_simp) ?_
    simp only [Act.put,zA,zB,zC]
    refine Dk.lineY_any [11] _ _ _ (by kernel_rfl) ?_
    refine Dk.op_call (some 51) rfl rfl rfl (f:=28) (args:=#[.pointer (some ⟨L.b,0,none⟩),.int .i64 x1,.int .i64 x2]) (by go_simp) ?_
    refine (run_goes hd HBN.out (by omega) x1 x2 I2.out).mono ?_
    rintro e w9 ⟨A9,C9,rfl,h9⟩
    refine ⟨_,rfl,fun h=>absurd (by decide) h,?_⟩
    simp only [Act.put,zA,zB,zC]
    show NoPanic _ Exit.normal _ _
    refine NoPanic.normal ?_
    replace h9:=h9.with (fun c=>c.drop)
    clear SB S0 hd c0
    have SN':Dk.Seen (fun _=>False) (q.run x1 x2).1:=HQ.out.run HW.out x1 x2
    have PR:q.recs <+: (q.run x1 x2).1.recs:=Dk.run_pre HW.out x1 x2
    have HS':Hid (Dk.Seen (fun _=>False) (q.run x1 x2).1):=SN'
    have HPR:Hid (q.recs <+: (q.run x1 x2).1.recs):=PR
    clear SN' PR HQ HW
    generalize (q.run x1 x2).1=q2 at *
    have K:=goes_records h9 (by omega)
    clear h9
    go_wp2_with fail
    refine K.mono ?_
    rintro e w10 ⟨A10,C10,rfl,h10⟩
    have r10:=h10.cor.row (e:=74) (s:=6) (v:=.slice A10 q2.recs.length C10) (m:=q2.recs.length) (xs:=q2.recs.flatMap Dk.Rec.cells) (by simp)
    have r9:=h10.cor.row (e:=74) (s:=6) (v:=.slice A' q.recs.length C') (m:=q.recs.length) (xs:=q.recs.flatMap Dk.Rec.cells) (by simp)
    have hle:q.recs.length≤q2.recs.length:=HPR.out.length_le
    have k10:=Dk.SlC.of_owns r10
    have kt:=k10.take hle
    have etake:(q2.recs.flatMap Dk.Rec.cells).take (q.recs.length*6)=q.recs.flatMap Dk.Rec.cells:=by
     obtain ⟨t,et⟩:=HPR.out
     rw [← et,List.flatMap_append,List.take_left' (Dk.flat_len Dk.Rec.len q.recs)]
    rw [etake] at kt
    have KS:=Same_yes A10 A' q.recs.length C10 C' q.recs w10 kt (Dk.SlC.of_owns r9)
    have hcap10:=k10.cap
    have hmax10:=k10.max
    unfold maxLen at hmax10
    have H10:Hid (Goes w w10 L q0 q2 (j+1) [Dk.rowOf 74 6 (.slice A10 q2.recs.length C10) q2.recs.length (q2.recs.flatMap Dk.Rec.cells)]):=h10.with (fun c=>c.swap.drop)
    have HLE:Hid (q.recs.length≤q2.recs.length):=hle
    clear K r10 r9 k10 kt etake h10
    generalize hn1:q.recs.length=n1 at *
    generalize hn2:q2.recs.length=n2 at *
    have HN2:Hid (q2.recs.length=n2):=hn2
    have l1:¬ ((n2:Int) < (n1:Int)):=by omega
    clear hn1 hn2
    go_wp2_with fail
    refine KS.mono ?_
    rintro e w11 ⟨rfl,u11⟩
    have h11:=H10.out.with (fun c=>c.below u11)
    have H11:Hid (Goes w w11 L q0 q2 (j+1) [Dk.rowOf 74 6 (.slice A10 n2 C10) n2 (q2.recs.flatMap Dk.Rec.cells)]):=h11
    clear KS u11 H10 h11
    go_wp2_with fail
    go_roundw
    case rel=>exact ⟨j+1,q2,A10,C10,by go_num,HJ.out.1,HJ.out.2,by rw [HN2.out],by rw [HN2.out];exact H11.out,HS'.out⟩
    case measure=>
     have:=HJ.out
     simp [intOf];omega
   by_cases h1:x0=1
   ·subst h1
    have K:=done_goes hG HBN.out (by omega) x2 I2.out
    clear hG h0
    go_wp2_with fail
    refine K.mono ?_
    rintro e w9 ⟨A9,C9,rfl,h9⟩
    replace h9:=h9.with (fun c=>c.drop)
    clear K c0 c1 c2
    have SN':Dk.Seen (fun _=>False) (q.done x2).1:=HQ.out.done HW.out x2
    have PR:q.recs <+: (q.done x2).1.recs:=Dk.done_pre q x2
    have HS':Hid (Dk.Seen (fun _=>False) (q.done x2).1):=SN'
    have HPR:Hid (q.recs <+: (q.done x2).1.recs):=PR
    clear SN' PR HQ HW
    generalize (q.done x2).1=q2 at *
    have K:=goes_records h9 (by omega)
    clear h9
    go_wp2_with fail
    refine K.mono ?_
    rintro e w10 ⟨A10,C10,rfl,h10⟩
    have r10:=h10.cor.row (e:=74) (s:=6) (v:=.slice A10 q2.recs.length C10) (m:=q2.recs.length) (xs:=q2.recs.flatMap Dk.Rec.cells) (by simp)
    have r9:=h10.cor.row (e:=74) (s:=6) (v:=.slice A' q.recs.length C') (m:=q.recs.length) (xs:=q.recs.flatMap Dk.Rec.cells) (by simp)
    have hle:q.recs.length≤q2.recs.length:=HPR.out.length_le
    have k10:=Dk.SlC.of_owns r10
    have kt:=k10.take hle
    have etake:(q2.recs.flatMap Dk.Rec.cells).take (q.recs.length*6)=q.recs.flatMap Dk.Rec.cells:=by
     obtain ⟨t,et⟩:=HPR.out
     rw [← et,List.flatMap_append,List.take_left' (Dk.flat_len Dk.Rec.len q.recs)]
    rw [etake] at kt
    have KS:=Same_yes A10 A' q.recs.length C10 C' q.recs w10 kt (Dk.SlC.of_owns r9)
    have hcap10:=k10.cap
    have hmax10:=k10.max
    unfold maxLen at hmax10
    have H10:Hid (Goes w w10 L q0 q2 (j+1) [Dk.rowOf 74 6 (.slice A10 q2.recs.length C10) q2.recs.length (q2.recs.flatMap Dk.Rec.cells)]):=h10.with (fun c=>c.swap.drop)
    have HLE:Hid (q.recs.length≤q2.recs.length):=hle
    clear K r10 r9 k10 kt etake h10
    generalize hn1:q.recs.length=n1 at *
    generalize hn2:q2.recs.length=n2 at *
    have HN2:Hid (q2.recs.length=n2):=hn2
    have l1:¬ ((n2:Int) < (n1:Int)):=by omega
    clear hn1 hn2
    go_wp2_with fail
    refine KS.mono ?_
    rintro e w11 ⟨rfl,u11⟩
    have h11:=H10.out.with (fun c=>c.below u11)
    have H11:Hid (Goes w w11 L q0 q2 (j+1) [Dk.rowOf 74 6 (.slice A10 n2 C10) n2 (q2.recs.flatMap Dk.Rec.cells)]):=h11
    clear KS u11 H10 h11
    go_wp2_with fail
    go_roundw
    case rel=>exact ⟨j+1,q2,A10,C10,by go_num,HJ.out.1,HJ.out.2,by rw [HN2.out],by rw [HN2.out];exact H11.out,HS'.out⟩
    case measure=>
     have:=HJ.out
     simp [intOf];omega
   ·have K:=tick_goes hG HBN.out (by omega)
    clear hG
    go_wp2_with fail
    refine K.mono ?_
    rintro e w9 ⟨A9,C9,rfl,h9⟩
    replace h9:=h9.with (fun c=>c.drop)
    clear K c0 c1 c2
    have SN':Dk.Seen (fun _=>False) q.tick.1:=HQ.out.tick HW.out
    have PR:q.recs <+: q.tick.1.recs:=Dk.tick_pre q
    have HS':Hid (Dk.Seen (fun _=>False) q.tick.1):=SN'
    have HPR:Hid (q.recs <+: q.tick.1.recs):=PR
    clear SN' PR HQ HW
    generalize q.tick.1=q2 at *
    have K:=goes_records h9 (by omega)
    clear h9
    go_wp2_with fail
    refine K.mono ?_
    rintro e w10 ⟨A10,C10,rfl,h10⟩
    have r10:=h10.cor.row (e:=74) (s:=6) (v:=.slice A10 q2.recs.length C10) (m:=q2.recs.length) (xs:=q2.recs.flatMap Dk.Rec.cells) (by simp)
    have r9:=h10.cor.row (e:=74) (s:=6) (v:=.slice A' q.recs.length C') (m:=q.recs.length) (xs:=q.recs.flatMap Dk.Rec.cells) (by simp)
    have hle:q.recs.length≤q2.recs.length:=HPR.out.length_le
    have k10:=Dk.SlC.of_owns r10
    have kt:=k10.take hle
    have etake:(q2.recs.flatMap Dk.Rec.cells).take (q.recs.length*6)=q.recs.flatMap Dk.Rec.cells:=by
     obtain ⟨t,et⟩:=HPR.out
     rw [← et,List.flatMap_append,List.take_left' (Dk.flat_len Dk.Rec.len q.recs)]
    rw [etake] at kt
    have KS:=Same_yes A10 A' q.recs.length C10 C' q.recs w10 kt (Dk.SlC.of_owns r9)
    have hcap10:=k10.cap
    have hmax10:=k10.max
    unfold maxLen at hmax10
    have H10:Hid (Goes w w10 L q0 q2 (j+1) [Dk.rowOf 74 6 (.slice A10 q2.recs.length C10) q2.recs.length (q2.recs.flatMap Dk.Rec.cells)]):=h10.with (fun c=>c.swap.drop)
    have HLE:Hid (q.recs.length≤q2.recs.length):=hle
    clear K r10 r9 k10 kt etake h10
    generalize hn1:q.recs.length=n1 at *
    generalize hn2:q2.recs.length=n2 at *
    have HN2:Hid (q2.recs.length=n2):=hn2
    have l1:¬ ((n2:Int) < (n1:Int)):=by omega
    clear hn1 hn2
    go_wp2_with fail
    refine KS.mono ?_
    rintro e w11 ⟨rfl,u11⟩
    have h11:=H10.out.with (fun c=>c.below u11)
    have H11:Hid (Goes w w11 L q0 q2 (j+1) [Dk.rowOf 74 6 (.slice A10 n2 C10) n2 (q2.recs.flatMap Dk.Rec.cells)]):=h11
    clear KS u11 H10 h11
    go_wp2_with fail
    go_roundw
    case rel=>exact ⟨j+1,q2,A10,C10,by go_num,HJ.out.1,HJ.out.2,by rw [HN2.out],by rw [HN2.out];exact H11.out,HS'.out⟩
    case measure=>
     have:=HJ.out
     simp [intOf];omega
  ·have hlast:Goes w wr L q0 q j _:=hG
   have r0:=hG.cor.row (e:=74) (s:=6) (v:=.slice A' q.recs.length C') (m:=q.recs.length) (xs:=q.recs.flatMap Dk.Rec.cells) (by simp)
   have kr:=Dk.SlC.of_owns r0
   have hcap2:=kr.cap
   have hmax2:=kr.max
   unfold maxLen at hmax2
   have hgood:=hS.good
   have hnb:q.recs.length≤30000:=by have:=hG.recs;omega
   have HU0:Hid (Below w.heap.size w wr):=hG.cor.out
   clear hG hS r0 hlast
   generalize q.recs=rs at *
   have hlen:∃ n,n=rs.length:=⟨_,rfl⟩
   obtain ⟨n,hn⟩:=hlen
   rw [← hn] at kr hcap2 hnb
   have HKR:Hid (Dk.SlC wr A' n C' 6 (rs.flatMap Dk.Rec.cells)):=kr
   have HGD:Hid (Dk.GoodR rs):=hgood
   have HN:Hid (n=rs.length):=hn
   rw [← hn]
   clear kr hgood hn
   by_cases hl:j < Ln
   ·have y1:(j:Int) < (Ln:Int):=by omega
    have y2:¬ (j:Int) < 100:=by omega
    clear hlt
    generalize wr=wa at *
    go_wp2_with fail
    go_loopw [10] (fun i w'=>∃ k:Nat,k≤n∧i=.int .i64 k∧Hid (Below wa.heap.size wa w')) (fun i w'=>n - (intOf i).toNat)
    case atStart=>exact ⟨0,Nat.zero_le _,rfl,Below.refl _ _⟩
    case round=>
     obtain ⟨k,hk,rfl,HB⟩:=hrel
     by_cases hlt:k < n
     ·obtain ⟨b0,o0,rfl,hb0,hc0⟩:=HKR.out.cells (by omega)
      have HC0:Hid (∀ j u,(rs.flatMap Dk.Rec.cells)[j]? = some u→wa.cell? ⟨b0,o0+j,none⟩=some u):=hc0
      have hkl:k < rs.length:=by have:=HN.out;omega
      obtain ⟨r,hr⟩:∃ r,rs[k]? = some r:=⟨_,List.getElem?_eq_getElem hkl⟩
      have g:∀ w',Below wa.heap.size wa w'→∀ (x:Nat) (t:Dk.Rec),rs[x]? = some t→∀ i,i < 6→∀ u,t.cells[i]? = some u→w'.cell? ⟨b0,o0+x*6+i,none⟩=some u:=fun w' hw' x t ht i hi u hu=>by
       rw [hw'.cell (by show b0 < _;exact hb0),Nat.add_assoc]
       exact HC0.out _ _ ((Dk.flat_get Dk.Rec.len rs x i t ht hi).trans hu)
      have G:Hid (∀ w',Below wa.heap.size wa w'→∀ (x:Nat) (t:Dk.Rec),rs[x]? = some t→∀ i,i < 6→∀ u,t.cells[i]? = some u→w'.cell? ⟨b0,o0+x*6+i,none⟩=some u):=g
      have c5:wr.cell? ⟨b0,o0+k*6+5,none⟩=some (.bool r.fin):=g wr HB.out k r hr 5 (by omega) _ rfl
      have HRK:Hid (rs[k]? = some r):=hr
      have k1:(k:Int) < (n:Int):=by omega
      clear hc0 g hr
      cases hfin:r.fin with
      | true=>
       rw [hfin] at c5
       clear hfin
       go_wp2_with fail
       go_roundw
       case rel=>exact ⟨k+1,by omega,by go_num,HB⟩
       case measure=>simp [intOf];omega
      | false=>
       rw [hfin] at c5
       have HFN:Hid (r.fin=false):=hfin
       have HBR:Hid (Below wa.heap.size wa wr):=HB.out
       clear hfin HB
       go_wp2_with fail
       generalize wr=wb at *
       go_loopw [11] (fun i w'=>∃ m:Nat,i=.int .i64 m∧k < m∧m≤n+1∧Hid (m≤n→∀ x t,k < x→x < m→rs[x]? = some t→t.thread≠r.thread)∧Hid (Below wa.heap.size wa w')) (fun i w'=>n+1 - (intOf i).toNat)
       case atStart=>exact ⟨k+1,by go_num,by omega,by omega,fun _ x t h1 h2=>absurd h1 (by omega),HBR.out⟩
       case round=>
        obtain ⟨m,rfl,hkm,hmn,HM,HB⟩:=hrel
        by_cases hlm:m < n
        ·have hml:m < rs.length:=by have:=HN.out;omega
         obtain ⟨t,ht⟩:∃ t,rs[m]? = some t:=⟨_,List.getElem?_eq_getElem hml⟩
         have d0:wr.cell? ⟨b0,o0+m*6,none⟩=some (.int .u64 (t.thread:Nat)):=G.out wr HB.out m t ht 0 (by omega) _ rfl
         have a0:wr.cell? ⟨b0,o0+k*6,none⟩=some (.int .u64 (r.thread:Nat)):=G.out wr HB.out k r HRK.out 0 (by omega) _ rfl
         have m1:(m:Int) < (n:Int):=by omega
         by_cases he:t.thread=r.thread
         ·obtain ⟨e1,e2,e3,e4⟩:=HGD.out.next HRK.out ht hkm HFN.out he (fun x t h1 h2 h3=>HM.out (by omega) x t h1 h2 h3)
          have d1:wr.cell? ⟨b0,o0+m*6+1,none⟩=some (.int .i64 r.op):=by rw [← e2];exact G.out wr HB.out m t ht 1 (by omega) _ rfl
          have d2:wr.cell? ⟨b0,o0+m*6+2,none⟩=some (.int .u64 0):=by
           have:=G.out wr HB.out m t ht 2 (by omega) _ rfl
           rw [e3] at this
           exact this
          have d4:wr.cell? ⟨b0,o0+m*6+4,none⟩=some (.int .i64 0):=by rw [← e4];exact G.out wr HB.out m t ht 4 (by omega) _ rfl
          have d5:wr.cell? ⟨b0,o0+m*6+5,none⟩=some (.bool true):=by rw [← e1];exact G.out wr HB.out m t ht 5 (by omega) _ rfl
          have a1:wr.cell? ⟨b0,o0+k*6+1,none⟩=some (.int .i64 r.op):=G.out wr HB.out k r HRK.out 1 (by omega) _ rfl
          rw [he] at d0
          generalize r.op=op at *
          generalize r.thread=th at *
          clear e1 e2 e3 e4 he ht HM
          go_wp2_with fail
          go_quiet (fail)
          go_wp2_with fail
          go_quiet (fail)
          go_wp2_with fail
          go_roundw
          case rel=>exact ⟨n+1,by go_num,by omega,by omega,fun h=>absurd h (by omega),Dk.up_drewN HB.out _⟩
          case measure=>simp [intOf];omega
         ·have f1:decide ((t.thread:Int)=(r.thread:Int))=false:=by simp;omega
          have f2:¬ ((t.thread:Int)=(r.thread:Int)):=by omega
          have HX:Hid (∀ x u,k < x→x < m+1→rs[x]? = some u→u.thread≠r.thread):=fun x u h1 h2 h3=>by
           by_cases hx:x=m
           ·subst hx
            rw [ht] at h3
            cases h3
            exact he
           ·exact HM.out (by omega) x u h1 (by omega) h3
          generalize t.thread=ta at *
          generalize r.thread=tb at *
          clear he ht HM
          go_wp2_with fail
          go_quiet (fail)
          go_wp2_with fail
          go_roundw
          case rel=>exact ⟨m+1,by go_num,by omega,by omega,fun _=>HX.out,Dk.up_drewN HB.out _⟩
          case measure=>simp [intOf];omega
        ·have m1:¬ ((m:Int) < (n:Int)):=by omega
         go_wp2_with fail
         go_roundw
         case rel=>exact ⟨k+1,by omega,by go_num,HB⟩
         case measure=>simp [intOf];omega
     ·have k1:¬ ((k:Int) < (n:Int)):=by omega
      have HB2:Hid (Below w.heap.size w wr):=Dk.up_call HU0.out HB.out
      clear HB
      go_wp2_with fail
      refine (awake_any wr).mono ?_
      rintro e w4 ⟨rfl,u4⟩
      have HU4:Hid (Below w.heap.size w w4):=Dk.up_call HB2.out u4
      clear u4
      go_wp2_with fail
      go_ret
      exact ⟨rfl,HU4.out⟩
   ·have y1:¬ (j:Int) < (Ln:Int):=by omega
    clear hlt
    generalize wr=wa at *
    go_wp2_with fail
    go_loopw [10] (fun i w'=>∃ k:Nat,k≤n∧i=.int .i64 k∧Hid (Below wa.heap.size wa w')) (fun i w'=>n - (intOf i).toNat)
    case atStart=>exact ⟨0,Nat.zero_le _,rfl,Below.refl _ _⟩
    case round=>
     obtain ⟨k,hk,rfl,HB⟩:=hrel
     by_cases hlt:k < n
     ·obtain ⟨b0,o0,rfl,hb0,hc0⟩:=HKR.out.cells (by omega)
      have HC0:Hid (∀ j u,(rs.flatMap Dk.Rec.cells)[j]? = some u→wa.cell? ⟨b0,o0+j,none⟩=some u):=hc0
      have hkl:k < rs.length:=by have:=HN.out;omega
      obtain ⟨r,hr⟩:∃ r,rs[k]? = some r:=⟨_,List.getElem?_eq_getElem hkl⟩
      have g:∀ w',Below wa.heap.size wa w'→∀ (x:Nat) (t:Dk.Rec),rs[x]? = some t→∀ i,i < 6→∀ u,t.cells[i]? = some u→w'.cell? ⟨b0,o0+x*6+i,none⟩=some u:=fun w' hw' x t ht i hi u hu=>by
       rw [hw'.cell (by show b0 < _;exact hb0),Nat.add_assoc]
       exact HC0.out _ _ ((Dk.flat_get Dk.Rec.len rs x i t ht hi).trans hu)
      have G:Hid (∀ w',Below wa.heap.size wa w'→∀ (x:Nat) (t:Dk.Rec),rs[x]? = some t→∀ i,i < 6→∀ u,t.cells[i]? = some u→w'.cell? ⟨b0,o0+x*6+i,none⟩=some u):=g
      have c5:wr.cell? ⟨b0,o0+k*6+5,none⟩=some (.bool r.fin):=g wr HB.out k r hr 5 (by omega) _ rfl
      have HRK:Hid (rs[k]? = some r):=hr
      have k1:(k:Int) < (n:Int):=by omega
      clear hc0 g hr
      cases hfin:r.fin with
      | true=>
       rw [hfin] at c5
       clear hfin
       go_wp2_with fail
       go_roundw
       case rel=>exact ⟨k+1,by omega,by go_num,HB⟩
       case measure=>simp [intOf];omega
      | false=>
       rw [hfin] at c5
       have HFN:Hid (r.fin=false):=hfin
       have HBR:Hid (Below wa.heap.size wa wr):=HB.out
       clear hfin HB
       go_wp2_with fail
       generalize wr=wb at *
       go_loopw [11] (fun i w'=>∃ m:Nat,i=.int .i64 m∧k < m∧m≤n+1∧Hid (m≤n→∀ x t,k < x→x < m→rs[x]? = some t→t.thread≠r.thread)∧Hid (Below wa.heap.size wa w')) (fun i w'=>n+1 - (intOf i).toNat)
       case atStart=>exact ⟨k+1,by go_num,by omega,by omega,fun _ x t h1 h2=>absurd h1 (by omega),HBR.out⟩
       case round=>
        obtain ⟨m,rfl,hkm,hmn,HM,HB⟩:=hrel
        by_cases hlm:m < n
        ·have hml:m < rs.length:=by have:=HN.out;omega
         obtain ⟨t,ht⟩:∃ t,rs[m]? = some t:=⟨_,List.getElem?_eq_getElem hml⟩
         have d0:wr.cell? ⟨b0,o0+m*6,none⟩=some (.int .u64 (t.thread:Nat)):=G.out wr HB.out m t ht 0 (by omega) _ rfl
         have a0:wr.cell? ⟨b0,o0+k*6,none⟩=some (.int .u64 (r.thread:Nat)):=G.out wr HB.out k r HRK.out 0 (by omega) _ rfl
         have m1:(m:Int) < (n:Int):=by omega
         by_cases he:t.thread=r.thread
         ·obtain ⟨e1,e2,e3,e4⟩:=HGD.out.next HRK.out ht hkm HFN.out he (fun x t h1 h2 h3=>HM.out (by omega) x t h1 h2 h3)
          have d1:wr.cell? ⟨b0,o0+m*6+1,none⟩=some (.int .i64 r.op):=by rw [← e2];exact G.out wr HB.out m t ht 1 (by omega) _ rfl
          have d2:wr.cell? ⟨b0,o0+m*6+2,none⟩=some (.int .u64 0):=by
           have:=G.out wr HB.out m t ht 2 (by omega) _ rfl
           rw [e3] at this
           exact this
          have d4:wr.cell? ⟨b0,o0+m*6+4,none⟩=some (.int .i64 0):=by rw [← e4];exact G.out wr HB.out m t ht 4 (by omega) _ rfl
          have d5:wr.cell? ⟨b0,o0+m*6+5,none⟩=some (.bool true):=by rw [← e1];exact G.out wr HB.out m t ht 5 (by omega) _ rfl
          have a1:wr.cell? ⟨b0,o0+k*6+1,none⟩=some (.int .i64 r.op):=G.out wr HB.out k r HRK.out 1 (by omega) _ rfl
          rw [he] at d0
          generalize r.op=op at *
          generalize r.thread=th at *
          clear e1 e2 e3 e4 he ht HM
          go_wp2_with fail
          go_quiet (fail)
          go_wp2_with fail
          go_quiet (fail)
          go_wp2_with fail
          go_roundw
          case rel=>exact ⟨n+1,by go_num,by omega,by omega,fun h=>absurd h (by omega),Dk.up_drewN HB.out _⟩
          case measure=>simp [intOf];omega
         ·have f1:decide ((t.thread:Int)=(r.thread:Int))=false:=by simp;omega
          have f2:¬ ((t.thread:Int)=(r.thread:Int)):=by omega
          have HX:Hid (∀ x u,k < x→x < m+1→rs[x]? = some u→u.thread≠r.thread):=fun x u h1 h2 h3=>by
           by_cases hx:x=m
           ·subst hx
            rw [ht] at h3
            cases h3
            exact he
           ·exact HM.out (by omega) x u h1 (by omega) h3
          generalize t.thread=ta at *
          generalize r.thread=tb at *
          clear he ht HM
          go_wp2_with fail
          go_quiet (fail)
          go_wp2_with fail
          go_roundw
          case rel=>exact ⟨m+1,by go_num,by omega,by omega,fun _=>HX.out,Dk.up_drewN HB.out _⟩
          case measure=>simp [intOf];omega
        ·have m1:¬ ((m:Int) < (n:Int)):=by omega
         go_wp2_with fail
         go_roundw
         case rel=>exact ⟨k+1,by omega,by go_num,HB⟩
         case measure=>simp [intOf];omega
     ·have k1:¬ ((k:Int) < (n:Int)):=by omega
      have HB2:Hid (Below w.heap.size w wr):=Dk.up_call HU0.out HB.out
      clear HB
      go_wp2_with fail
      refine (awake_any wr).mono ?_
      rintro e w4 ⟨rfl,u4⟩
      have HU4:Hid (Below w.heap.size w w4):=Dk.up_call HB2.out u4
      clear u4
      go_wp2_with fail
      go_ret
      exact ⟨rfl,HU4.out⟩
theorem CoreBegins_any (s:Dk.Sh) (p:Dk.Prg) (A:Option Addr) (Ln C:Nat) (acts:List (List Int)) (w:World) (hp:Dk.PrgAt w.heap.size w s p) (hr:Dk.Row 3 [] Dk.IsInts w.heap.size w A Ln C acts) :
  Calls Tryz.prog 5 #[Dk.pv s p,.slice A Ln C] w fun e w'=>e=.returned (.bool true)∧Below w.heap.size w w':=by
 by_cases hk:Dk.check p=0
 ·exact CoreBegins_yes s p A Ln C acts w hp hr hk
 ·exact CoreBegins_no s p A Ln C w hp hk
end Go.Proofs.YtglhhlfopccmaaaGreat
