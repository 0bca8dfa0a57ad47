import Derived.Test.YtglhhlfopccmaaaGreatOw39
set_option linter.unusedSimpArgs false
set_option linter.unusedVariables false
set_option linter.unnecessarySimpa false
set_option maxHeartbeats 8000000
set_option maxRecDepth 100000
namespace Dk
structure Sp.InsFit (q:Sp) (i:Ins):Prop where
 ok:i.ok
 a0:0≤i.a∧i.a < 8
 b0:0≤i.b∧i.b < 8
 op:1≤i.op∧i.op≤38
 code:i.op≤19→codeB i=true
 fits:25≤i.op∧i.op≤31→q.Fits i
 tub:i.op=35∨i.op=36→i.n < q.tubes.length
structure Sp.Well (q:Sp):Prop where
 h16:q.st.length=16
 regs:q.RegsOk
 join:∀ m,InR (q.thr m).joiner
 fok:∀ m,(q.thr m).f.ok
 code:∀ c ∈ q.code,c.length≤1000∧∀ i ∈ c,q.InsFit i
 mem:q.mem.length≤1000
 tl:∀ t ∈ q.tubes,t.ws.length≤1000∧t.ps.length≤1000∧t.gs.length≤1000
 al:q.asked.length≤1000
 bl:q.blocks.length≤1000
 gin:GIn q.gates
 gok:Ok q.gates 16
 tin:∀ t ∈ q.tubes,(∀ p ∈ t.ps,InR p.1)∧∀ g ∈ t.gs,InR g
 ain:∀ r ∈ q.asked,InR r.who
 din:∀ x ∈ keysOf q.due,InR x
 dl:q.due.length≤1000
theorem Sp.Well.next {q:Sp} (W:q.Well) {f:Frm} (h:nextB q.prog f=true):q.InsFit (nextI q.prog f)∧0≤f.pc∧f.pc < 1000000:=by
 unfold nextI
 rw [if_pos h]
 unfold nextB plB at h
 simp only [Bool.and_eq_true,decide_eq_true_eq] at h
 obtain ⟨⟨f0,f1⟩,p0,p1⟩:=h
 have hf:f.fn.toNat < q.prog.funcs.length:=by omega
 have ef:q.prog.funcs.getD f.fn.toNat []=q.prog.funcs[f.fn.toNat]:=by rw [List.getD_eq_getElem?_getD,List.getElem?_eq_getElem hf];rfl
 rw [ef] at p1 ⊢
 obtain ⟨c1,c2⟩:=W.code _ (List.getElem_mem hf)
 have hp:f.pc.toNat < (q.prog.funcs[f.fn.toNat]).length:=by omega
 rw [List.getD_eq_getElem?_getD,List.getElem?_eq_getElem hp]
 refine ⟨c2 _ (List.getElem_mem hp),p0,?_⟩
 have:(q.prog.funcs[f.fn.toNat]).length≤1000:=c1
 omega
theorem Sp.Well.can {q:Sp} (W:q.Well) {i:Ins} (h:q.InsFit i) (n:Nat):q.Can n i:=⟨W.h16,h.a0,h.b0,h.fits,h.tub,W.fok n,W.tl,W.al,W.bl⟩
theorem zes {op:Int} (h:1≤op∧op≤38):classOf op=1 ↔ op≤19:=by
 unfold classOf withinB
 constructor
 ·intro e
  by_cases h1:op≤19
  ·exact h1
  ·rw [if_neg (by simp;omega)] at e
   split at e
   ·exact absurd e (by decide)
   ·split at e
    ·exact absurd e (by decide)
    ·exact absurd e (by decide)
 ·intro h1
  rw [if_pos (by simp;omega)]
theorem Sp.zl4 (q:Sp) (n v:Nat):(q.exit n v).2.stopped=false∧(q.exit n v).2.ended=true∧(q.exit n v).2.yielded=false:=by
 unfold Sp.exit Sp.fin
 repeat' split
 all_goals exact ⟨rfl,rfl,rfl⟩
end Dk
namespace Go.Proofs.YtglhhlfopccmaaaGreat
open Go.RowKit Go.Lib
section
variable {W w w' : World} {L : Dk.Loc} {q qa qz : Dk.Sp} {k k' n : Nat} {us us' us1 us2 : List Dk.Thing} {t : Dk.Thing} {ch : Int} {E : Dk.Eff}
def Rn (W:World) (L:Dk.Loc) (r:Dk.Sp × Dk.Eff × Int) (k:Nat) (us:List Dk.Thing) (e:Ending) (w':World):Prop:=∃ A C,e=.returned (.tuple #[eff A r.2.1.woken.length C r.2.1.stopped r.2.1.ended r.2.1.yielded,.int .i64 r.2.2])∧Cor W w' L r.1 k (Dk.rowOf 3 1 (.slice A r.2.1.woken.length C) r.2.1.woken.length (Dk.is r.2.1.woken)::us)
theorem Ef0.mono {e:Ending} (hk:k≤k') (h:Ef0 W L qz k E us e w'):Ef0 W L qz k' E us e w':=by
 obtain ⟨A,C,he,h⟩:=h
 exact ⟨A,C,he,h.mono hk⟩
theorem zoq (h:Cor W w L q k us) (hk:k≤100000) (hn:n < 16) (v:Nat) (hr:q.RegsOk) (hi:∀ m,Dk.InR (q.thr m).joiner) (hl:q.recs.length≤70000) :
  Calls Tryz.prog 65 #[.pointer (some ⟨L.b,0,none⟩),.int .i64 (n:Int),.int .u64 (v:Nat)] w (Ef W L (q.exit n v).1 k (q.exit n v).2 us):=by
 refine (exit_any h hk hn v hr hi hl).mono ?_
 rintro e w' ⟨A,C,he,h'⟩
 refine ⟨A,C,?_,h'⟩
 obtain ⟨e1,e2,e3⟩:=Dk.Sp.zl4 q n v
 rw [e1,e2,e3]
 exact he
theorem run_any (h:Cor W w L q k us) (hk:k < 99999) (hW:q.Well) (slot:Int) (hch:Dk.i64 ch) (hl:q.recs.length≤60000) (D:∀ n i,n < 16→Dk.us q.st n=true→q.InsFit i→20≤i.op→i.op≠23→q.DeedOk n i ch) :
  Calls Tryz.prog 28 #[.pointer (some ⟨L.b,0,none⟩),.int .i64 slot,.int .i64 ch] w (Rn W L (q.run slot ch) (k+1) us):=by
 unfold Dk.Sp.run
 dsimp only
 cases hu:q.usedB slot
 ·rw [if_pos rfl]
  refine (zpu h (by omega) slot hu).mono ?_
  rintro e w' ⟨he,h'⟩
  exact ⟨none,0,he,(h'.mono (by omega)).nil⟩
 rw [if_neg (by simp)]
 obtain ⟨hs0,hus⟩:0≤slot∧Dk.us q.st slot.toNat=true:=by
  unfold Dk.Sp.usedB at hu
  simpa using hu
 obtain ⟨n,rfl⟩:∃ n:Nat,slot=n:=⟨slot.toNat,by omega⟩
 rw [Int.toNat_natCast] at hus ⊢
 have hn:n < 16:=by
  have:=Dk.zd8 hus
  rw [hW.h16] at this
  exact this
 by_cases hw:(q.thr n).why=0
 ·rw [if_neg (by simpa using hw)]
  cases hnb:Dk.nextB q.prog (q.thr n).f
  ·rw [if_pos rfl]
   refine (run_last (E:=(q.exit n 0).2) (qz:=(q.exit n 0).1) (k':=k) h (by omega) hn hus hw _ rfl _ hnb rfl fun w us h=>zoq h (by omega) hn 0 hW.regs hW.join (by omega)).mono ?_
   rintro e w' h'
   exact Ef0.mono (by omega) h'
  ·rw [if_neg (by simp)]
   obtain ⟨hf,p0,p1⟩:=hW.next hnb
   by_cases h23:(Dk.nextI q.prog (q.thr n).f).op=23
   ·rw [if_pos h23]
    have ha:=hf.a0
    have hr':(q.setT n ((q.thr n).next)).RegsOk:=hW.regs.setT n _ (hW.regs n)
    have hj':∀ m,Dk.InR ((q.setT n ((q.thr n).next)).thr m).joiner:=fun m=>by
     unfold Dk.Sp.setT
     dsimp only
     by_cases e:m=n
     ·subst e;rw [Dk.upd_same];exact hW.join m
     ·rw [Dk.upd_ne _ _ e];exact hW.join m
    refine (run_exit (k':=k) h (by omega) hn hus hw _ rfl _ hnb rfl h23 (Dk.nextI q.prog (q.thr n).f).a.toNat (by omega) (by omega) _ rfl _ rfl ⟨p0,p1⟩ _ rfl fun w us h=>zoq h (by omega) hn _ hr' hj' (by show q.recs.length≤_;omega)).mono ?_
    rintro e w' h'
    exact Ef0.mono (by omega) h'
   ·rw [if_neg h23]
    by_cases hc:Dk.classOf (Dk.nextI q.prog (q.thr n).f).op=1
    ·rw [if_pos hc]
     have h19:=(Dk.zes hf.op).1 hc
     refine (zpv (k':=k) h (by omega) hn hus hw _ rfl _ hnb rfl h23 hc fun w us h=>zpj h (by omega) hn _ hf.ok hf.a0 hf.b0 (hW.fok n) (hf.code h19) ⟨hf.op.1,h19⟩ hW.mem (by omega) hW.regs hW.join).mono ?_
     rintro e w' h'
     exact Ef0.mono (by omega) h'
    ·rw [if_neg hc]
     have h20:20≤(Dk.nextI q.prog (q.thr n).f).op:=by
      have:=mt (Dk.zes hf.op).2 hc
      omega
     exact run_act h (by omega) hn hus hw _ rfl _ hnb rfl h23 hc fun w us h=>act_any h hk hn _ (hW.can hf n) ⟨h20,hf.op.2,h23⟩ hch (D n _ hn hus hf h20 h23) ⟨p0,p1⟩ (by omega)
 ·rw [if_pos (by simpa using hw)]
  refine (run_busy h (by omega) hn hus hw).mono ?_
  rintro e w' ⟨he,h'⟩
  exact ⟨none,0,he,(h'.mono (by omega)).nil⟩
end
end Go.Proofs.YtglhhlfopccmaaaGreat
namespace Dk
structure Tame (q q':Sp) (n:Nat):Prop where
 recs:q'.recs=q.recs
 pc:(q'.thr n).f.pc=(q.thr n).f.pc
 regs:q.RegsOk→q'.RegsOk
theorem Tame.refl (q:Sp) (n:Nat):Tame q q n:=⟨rfl,rfl,id⟩
theorem Tame.thr {q q':Sp} {n:Nat} (h1:q'.recs=q.recs) (h2:q'.thr=q.thr):Tame q q' n:=⟨h1,by rw [h2],fun h m=>by rw [h2];exact h m⟩
theorem Tame.trans {q q' q2:Sp} {n:Nat} (h:Tame q q' n) (h':Tame q' q2 n):Tame q q2 n:=⟨h'.recs.trans h.recs,h'.pc.trans h.pc,fun r=>h'.regs (h.regs r)⟩
theorem Tame.setT (q:Sp) (n m:Nat) (th:Thr) (hi:th.ins=(q.thr m).ins) (hp:m=n→th.f.pc=(q.thr m).f.pc):Tame q (q.setT m th) n:=by
 refine ⟨rfl,?_,fun r=>r.setT m th (by rw [hi];exact r m)⟩
 unfold Sp.setT
 dsimp only
 by_cases e:n=m
 ·subst e
  rw [upd_same]
  exact hp rfl
 ·rw [upd_ne _ _ e]
theorem Tame.free (q:Sp) (n m:Nat):Tame q (q.free m) n:=Tame.thr rfl rfl
theorem Tame.reg (q:Sp) (n m a v:Nat):Tame q (q.setT m ((q.thr m).reg a v)) n:=Tame.setT q n m _ rfl fun _=>rfl
theorem Tame.begin (q:Sp) (n:Nat) (hu:us q.st n=true) (fn:Int) (w:Nat):Tame q (q.begin fn w).1 n:=by
 unfold Sp.begin
 split
 ·rename_i h
  refine Tame.trans (q':={ q with st:=taken q.st }) (Tame.thr rfl rfl) ⟨rfl,?_,fun r=>Sp.RegsOk.setT r _ _ ⟨0,by omega,rfl⟩⟩
  have hne:n≠least q.st:=fun e=>by
   have:=zcq h
   rw [← e,hu] at this
   cases this
  unfold Sp.setT
  dsimp only
  rw [upd_ne _ _ hne]
 ·exact Tame.refl _ _
theorem Tame.moved (n:Nat):∀ (l:List Int) (q:Sp),Tame q (q.moved l) n
 | [],q=>Tame.refl q n
 | x::l,q=>(Tame.setT q n x.toNat { q.thr x.toNat with why:=1 } rfl fun _=>rfl).trans (Tame.moved n l (q.setT x.toNat { q.thr x.toNat with why:=1 }))
theorem Tame.signal (q:Sp) (n m:Nat) (ch:Int) (all:Bool):Tame q (q.signal m ch all).1 n:=by
 unfold Sp.signal
 dsimp only
 exact Tame.trans (q':={ q with gates:=(q.gates.signal m ch all).1 }) (Tame.thr rfl rfl) (Tame.moved _ _ _)
section
variable {q : Sp} {n : Nat}
theorem Tame.deed (hu:us q.st n=true) (i:Ins) (ch:Int):Tame q (q.deed n i ch).1 n:=by
 unfold Sp.deed
 dsimp only
 split
 ·unfold Sp.spawn
  dsimp only
  split
  ·exact (Tame.begin q n hu _ _).trans (Tame.reg _ _ _ _ _)
  ·exact (Tame.begin q n hu _ _).trans (Tame.reg _ _ _ _ _)
 split
 ·exact Tame.reg _ _ _ _ _
 split
 ·unfold Sp.join
  dsimp only
  split
  ·split
   ·exact (Tame.reg _ _ _ _ _).trans (Tame.free _ _ _)
   ·exact Tame.setT _ _ _ _ rfl fun _=>rfl
  ·exact Tame.refl _ _
 split
 ·unfold Sp.detach
  dsimp only
  split
  ·split
   ·exact Tame.free _ _ _
   ·exact Tame.setT _ _ _ _ rfl fun _=>rfl
  ·exact Tame.refl _ _
 split
 ·unfold Sp.pass
  dsimp only
  repeat' split
  all_goals first
   | exact Tame.thr rfl rfl
   | exact Tame.signal _ _ _ _ _
 split
 ·unfold Sp.ask Sp.askW
  repeat' split
  all_goals exact Tame.thr rfl rfl
 split
 ·unfold Sp.ask Sp.askW
  repeat' split
  all_goals exact Tame.thr rfl rfl
 split
 ·unfold Sp.put Sp.putW
  dsimp only
  repeat' split
  all_goals exact Tame.thr rfl rfl
 split
 ·have hg:Tame q (q.getW n i.n).1 n:=by
   unfold Sp.getW
   dsimp only
   repeat' split
   all_goals exact Tame.thr rfl rfl
  unfold Sp.get
  dsimp only
  split
  ·exact hg.trans (Tame.reg _ _ _ _ _)
  ·exact hg
 split
 ·unfold Sp.sleep
  repeat' split
  all_goals exact Tame.thr rfl rfl
 split
 ·exact Tame.refl _ _
 ·exact Tame.refl _ _
end
theorem zkv (S:St) (who:Int) (n c:Nat) (ch:Int):(0≤(S.lock who n).2.2∧(S.lock who n).2.2 < 1000)∧(0≤(S.unlock who n ch).2.2.2∧(S.unlock who n ch).2.2.2 < 1000)∧(0≤(S.hold who c n ch).2.2.2∧(S.hold who c n ch).2.2.2 < 1000)∧(0≤(S.down who n).2.2∧(S.down who n).2.2 < 1000)∧(0≤(S.up n ch).2.2.2∧(S.up n ch).2.2.2 < 1000):=by
 refine ⟨?_,?_,?_,?_,?_⟩
 ·unfold St.lock;repeat' split
  all_goals exact ⟨by first | decide | (dsimp only;omega) | omega,by first | decide | (dsimp only;omega) | omega⟩
 ·unfold St.unlock;repeat' split
  all_goals exact ⟨by first | decide | (dsimp only;omega) | omega,by first | decide | (dsimp only;omega) | omega⟩
 ·unfold St.hold;repeat' split
  all_goals exact ⟨by first | decide | (dsimp only;omega) | omega,by first | decide | (dsimp only;omega) | omega⟩
 ·unfold St.down;repeat' split
  all_goals exact ⟨by first | decide | (dsimp only;omega) | omega,by first | decide | (dsimp only;omega) | omega⟩
 ·unfold St.up;repeat' split
  all_goals exact ⟨by first | decide | (dsimp only;omega) | omega,by first | decide | (dsimp only;omega) | omega⟩
structure Fine (d:Deed):Prop where
 res:0≤d.result∧d.result < 1000
 wk:∀ p ∈ d.woken,InR p.1
 wl:d.woken.length≤16
 bl:d.begun.length≤16
theorem Fine.none {x y:Nat} {r why:Int} (h:0≤r∧r < 1000):Fine ⟨x,y,r,why,[],[]⟩:=⟨h,fun p hp=>absurd hp (by simp),by simp,by simp⟩
theorem Fine.one {x y:Nat} {r why:Int} (h:0≤r∧r < 1000) {b:Bool} {who:Int} {w:Nat} (hw:InR who):Fine ⟨x,y,r,why,[],if b then [(who,w)] else []⟩:=by
 cases b
 ·exact Fine.none h
 ·exact ⟨h,fun p hp=>by rw [if_pos rfl,List.mem_singleton] at hp;rw [hp];exact hw,by simp,by simp⟩
theorem zkt (q:Sp) (n h:Nat):0≤(q.find n h).2∧(q.find n h).2 < 1000:=by
 unfold Sp.find
 repeat' split
 all_goals exact ⟨by first | decide | (dsimp only;omega) | omega,by first | decide | (dsimp only;omega) | omega⟩
theorem zqd {q:Sp} (W:q.Well) (m:Nat):(∀ p ∈ (q.tube m).ps,InR p.1)∧∀ g ∈ (q.tube m).gs,InR g:=by
 unfold Sp.tube
 rw [List.getD_eq_getElem?_getD]
 cases e:q.tubes[m]? with
 | none=>exact ⟨fun p hp=>absurd hp (by simp),fun p hp=>absurd hp (by simp)⟩
 | some t=>exact W.tin t (List.mem_of_getElem? e)
section
variable {q : Sp} {n : Nat}
theorem Fine.pass (W:q.Well) (hn:n < 16) (i:Ins) (ch:Int):Fine (q.pass n i ch).2:=by
 obtain ⟨g1,g2,g3,g4,g5⟩:=zkv q.gates n i.n i.n ch
 unfold Sp.pass
 dsimp only
 split
 ·exact Fine.none g1
 split
 ·exact Fine.one g2 (W.gin.unlock _ _ _).2
 split
 ·exact Fine.one (zkv q.gates n i.c.toNat i.n ch).2.2.1 (W.gin.hold (zay hn) _ _ _).2
 split
 ·exact Fine.none g4
 split
 ·exact Fine.one g5 (W.gin.up _ _).2
 ·obtain ⟨_,s2,_⟩:=W.gin.signal i.n ch (i.op == 29)
  have hl:=St.zgf q.gates i.n ch (i.op == 29)
  have hc:(q.gates.conds.getD i.n []).length≤16:=by
   rw [List.getD_eq_getElem?_getD]
   cases e:q.gates.conds[i.n]? with
   | none=>simp
   | some x=>exact W.gok.condLen (List.mem_of_getElem? e)
  refine ⟨⟨by first | decide | (dsimp only;omega) | omega,by first | decide | (dsimp only;omega) | omega⟩,fun p hp=>?_,?_,by simp⟩
  ·obtain ⟨w,hw,rfl⟩:=List.mem_map.1 hp
   exact s2 w hw
  ·simp only [List.length_map]
   unfold Sp.signal
   dsimp only
   omega
theorem Fine.deed (W:q.Well) (hn:n < 16) (i:Ins) (ch:Int):Fine (q.deed n i ch).2:=by
 unfold Sp.deed
 dsimp only
 split
 ·unfold Sp.spawn
  dsimp only
  split
  ·exact ⟨⟨by first | decide | (dsimp only;omega) | omega,by first | decide | (dsimp only;omega) | omega⟩,fun p hp=>absurd hp (by simp),by simp,by simp⟩
  ·refine Fine.none ?_
   unfold Sp.begin
   split <;> exact ⟨by first | decide | (dsimp only;omega) | omega,by first | decide | (dsimp only;omega) | omega⟩
 split
 ·exact Fine.none ⟨by first | decide | (dsimp only;omega) | omega,by first | decide | (dsimp only;omega) | omega⟩
 split
 ·unfold Sp.join
  dsimp only
  split
  ·split <;> exact Fine.none ⟨by first | decide | (dsimp only;omega) | omega,by first | decide | (dsimp only;omega) | omega⟩
  ·exact Fine.none (zkt _ _ _)
 split
 ·unfold Sp.detach
  dsimp only
  split
  ·split <;> exact Fine.none ⟨by first | decide | (dsimp only;omega) | omega,by first | decide | (dsimp only;omega) | omega⟩
  ·exact Fine.none (zkt _ _ _)
 split
 ·exact Fine.pass W hn i ch
 split
 ·unfold Sp.ask Sp.askW
  repeat' split
  all_goals exact Fine.none ⟨by first | decide | (dsimp only;omega) | omega,by first | decide | (dsimp only;omega) | omega⟩
 split
 ·unfold Sp.ask Sp.askW
  repeat' split
  all_goals exact Fine.none ⟨by first | decide | (dsimp only;omega) | omega,by first | decide | (dsimp only;omega) | omega⟩
 split
 ·unfold Sp.put
  refine Fine.one ⟨by first | decide | (dsimp only;omega) | omega,by first | decide | (dsimp only;omega) | omega⟩ ?_
  have ht:=zqd W i.n
  unfold Sp.putW
  dsimp only
  split
  ·exact zan
  ·split
   ·rename_i g gs e
    exact ht.2 g (by rw [e];exact List.mem_cons_self ..)
   ·split <;> exact zan
 split
 ·unfold Sp.get
  dsimp only
  split
  ·refine Fine.one ⟨by first | decide | (dsimp only;omega) | omega,by first | decide | (dsimp only;omega) | omega⟩ ?_
   have ht:=zqd W i.n
   unfold Sp.getW
   dsimp only
   split
   ·exact zan
   ·split
    ·exact zan
    ·split
     ·exact zan
     ·rename_i p z ps e
      exact ht.1 (p,z) (by rw [e];exact List.mem_cons_self ..)
  ·exact Fine.none ⟨by first | decide | (dsimp only;omega) | omega,by first | decide | (dsimp only;omega) | omega⟩
 split
 ·unfold Sp.sleep
  repeat' split
  all_goals exact Fine.none ⟨by first | decide | (dsimp only;omega) | omega,by first | decide | (dsimp only;omega) | omega⟩
 split
 ·exact Fine.none ⟨by first | decide | (dsimp only;omega) | omega,by first | decide | (dsimp only;omega) | omega⟩
 ·exact Fine.none ⟨by first | decide | (dsimp only;omega) | omega,by first | decide | (dsimp only;omega) | omega⟩
theorem deedOk (W:q.Well) (hn:n < 16) (hu:us q.st n=true) (i:Ins) (ch:Int):q.DeedOk n i ch:=by
 obtain ⟨t1,t2,t3⟩:=Tame.deed hu i ch
 obtain ⟨f1,f2,f3,f4⟩:=Fine.deed W hn i ch
 exact ⟨t2,f1,f2,f3,f4,t3 W.regs,by rw [t1]⟩
end
open Go
structure Dims (q q':Sp):Prop where
 code:q'.code=q.code
 om:q'.gates.owner.length=q.gates.owner.length
 cv:q'.gates.conds.length=q.gates.conds.length
 ct:q'.gates.count.length=q.gates.count.length
 tb:q'.tubes.length=q.tubes.length
 bl:q'.blocks.length=q.blocks.length
 ml:q'.mem.length=q.mem.length
 sl:q'.st.length=q.st.length
theorem Dims.refl (q:Sp):Dims q q:=⟨rfl,rfl,rfl,rfl,rfl,rfl,rfl,rfl⟩
theorem Dims.trans {q q' q2:Sp} (h:Dims q q') (g:Dims q' q2):Dims q q2:=⟨g.code.trans h.code,g.om.trans h.om,g.cv.trans h.cv,g.ct.trans h.ct,g.tb.trans h.tb,g.bl.trans h.bl,g.ml.trans h.ml,g.sl.trans h.sl⟩
theorem Dims.fit {q q':Sp} (h:Dims q q') {i:Ins} (f:q.InsFit i):q'.InsFit i:=by
 obtain ⟨f1,f2,f3,f4,f5,f6,f7⟩:=f
 refine ⟨f1,f2,f3,f4,f5,fun e=>?_,fun e=>by rw [h.tb];exact f7 e⟩
 obtain ⟨g1,g2,g3,g4,g5⟩:=f6 e
 exact ⟨g1,fun e=>by rw [h.om];exact g2 e,fun e=>by rw [h.cv];exact g3 e,fun e=>by rw [h.om];exact g4 e,fun e=>by rw [h.ct];exact g5 e⟩
theorem Dims.setT (q:Sp) (n:Nat) (t:Thr):Dims q (q.setT n t):=⟨rfl,rfl,rfl,rfl,rfl,rfl,rfl,rfl⟩
theorem Dims.tell (q:Sp) (n:Nat) (r:Rec):Dims q (q.tell n r):=⟨rfl,rfl,rfl,rfl,rfl,rfl,rfl,rfl⟩
theorem Dims.free (q:Sp) (n:Nat):Dims q (q.free n):=⟨rfl,rfl,rfl,rfl,rfl,rfl,rfl,zot _ _⟩
theorem Dims.begin (q:Sp) (fn:Int) (w:Nat):Dims q (q.begin fn w).1:=by
 unfold Sp.begin
 split
 ·exact ⟨rfl,rfl,rfl,rfl,rfl,rfl,rfl,by unfold Sp.setT taken put;exact List.length_set⟩
 ·exact Dims.refl q
theorem Dims.wake:∀ (l:List (Int × Nat)) (q:Sp),Dims q (q.wake l)
 | [],q=>Dims.refl q
 | p::l,q=>((Dims.setT q _ _).trans (Dims.tell _ _ _)).trans (Dims.wake l (q.wake1 p))
theorem Dims.moved:∀ (l:List Int) (q:Sp),Dims q (q.moved l)
 | [],q=>Dims.refl q
 | p::l,q=>(Dims.setT q _ _).trans (Dims.moved l (q.setT p.toNat { q.thr p.toNat with why:=1 }))
structure GLen (S S':St):Prop where
 om:S'.owner.length=S.owner.length
 cv:S'.conds.length=S.conds.length
 ct:S'.count.length=S.count.length
theorem GLen.refl (S:St):GLen S S:=⟨rfl,rfl,rfl⟩
theorem GLen.open (S:St) (n:Nat) (ch:Int):GLen S (S.open n ch).1:=by
 unfold St.open
 dsimp only
 split
 ·exact ⟨rfl,rfl,rfl⟩
 ·exact ⟨List.length_set,rfl,rfl⟩
theorem GLen.lock (S:St) (who:Int) (n:Nat):GLen S (S.lock who n).1:=by
 unfold St.lock
 split
 ·exact GLen.refl S
 ·split
  ·exact ⟨rfl,rfl,rfl⟩
  ·exact ⟨List.length_set,rfl,rfl⟩
theorem GLen.unlock (S:St) (who:Int) (n:Nat) (ch:Int):GLen S (S.unlock who n ch).1:=by
 unfold St.unlock
 split
 ·exact GLen.refl S
 ·exact GLen.open S n ch
theorem GLen.hold (S:St) (who:Int) (c n:Nat) (ch:Int):GLen S (S.hold who c n ch).1:=by
 unfold St.hold
 split
 ·exact GLen.refl S
 ·split
  ·exact GLen.refl S
  ·have h:=GLen.open S n ch
   exact ⟨h.om,List.length_set,h.ct⟩
theorem GLen.down (S:St) (who:Int) (n:Nat):GLen S (S.down who n).1:=by
 unfold St.down
 split
 ·exact GLen.refl S
 ·split
  ·exact ⟨rfl,rfl,List.length_set⟩
  ·exact ⟨rfl,rfl,rfl⟩
theorem GLen.up (S:St) (n:Nat) (ch:Int):GLen S (S.up n ch).1:=by
 unfold St.up
 split
 ·exact ⟨rfl,rfl,rfl⟩
 ·split
  ·exact GLen.refl S
  ·exact ⟨rfl,rfl,List.length_set⟩
theorem GLen.goes:∀ (r:List (Int × Int)) (S:St),GLen S (S.goes r).1
 | [],S=>GLen.refl S
 | p::r,S=>by
  have h1:GLen S (S.goes1 p).1:=by
   unfold St.goes1
   dsimp only
   split
   ·exact ⟨rfl,rfl,rfl⟩
   ·exact ⟨List.length_set,rfl,rfl⟩
  have h2:=GLen.goes r (S.goes1 p).1
  exact ⟨h2.om.trans h1.om,h2.cv.trans h1.cv,h2.ct.trans h1.ct⟩
theorem GLen.signal (S:St) (c:Nat) (ch:Int) (all:Bool):GLen S (S.signal c ch all).1:=by
 have h:=GLen.goes (S.told c ch all) { S with conds:=S.conds.set c (S.kept c ch all) }
 exact ⟨h.om,h.cv.trans List.length_set,h.ct⟩
theorem Dims.gates (q:Sp) {S:St} (h:GLen q.gates S):Dims q { q with gates:=S }:=⟨rfl,h.om,h.cv,h.ct,rfl,rfl,rfl,rfl⟩
theorem Dims.signal (q:Sp) (m:Nat) (ch:Int) (all:Bool):Dims q (q.signal m ch all).1:=by
 unfold Sp.signal
 dsimp only
 exact (Dims.gates q (GLen.signal q.gates m ch all)).trans (Dims.moved _ _)
theorem Dims.deed (q:Sp) (n:Nat) (i:Ins) (ch:Int):Dims q (q.deed n i ch).1:=by
 unfold Sp.deed
 dsimp only
 split
 ·unfold Sp.spawn
  dsimp only
  split <;> exact (Dims.begin q _ _).trans (Dims.setT _ _ _)
 split
 ·exact Dims.setT _ _ _
 split
 ·unfold Sp.join
  dsimp only
  split
  ·split
   ·exact (Dims.setT _ _ _).trans (Dims.free _ _)
   ·exact Dims.setT _ _ _
  ·exact Dims.refl _
 split
 ·unfold Sp.detach
  dsimp only
  split
  ·split
   ·exact Dims.free _ _
   ·exact Dims.setT _ _ _
  ·exact Dims.refl _
 split
 ·unfold Sp.pass
  dsimp only
  split
  ·exact Dims.gates q (GLen.lock _ _ _)
  split
  ·exact Dims.gates q (GLen.unlock _ _ _ _)
  split
  ·exact Dims.gates q (GLen.hold _ _ _ _ _)
  split
  ·exact Dims.gates q (GLen.down _ _ _)
  split
  ·exact Dims.gates q (GLen.up _ _ _)
  ·exact Dims.signal _ _ _ _
 split
 ·unfold Sp.ask Sp.askW
  repeat' split
  all_goals exact ⟨rfl,rfl,rfl,rfl,rfl,rfl,rfl,rfl⟩
 split
 ·unfold Sp.ask Sp.askW
  repeat' split
  all_goals exact ⟨rfl,rfl,rfl,rfl,rfl,rfl,rfl,rfl⟩
 split
 ·unfold Sp.put Sp.putW
  dsimp only
  repeat' split
  all_goals exact ⟨rfl,rfl,rfl,rfl,by simp,rfl,rfl,rfl⟩
 split
 ·have hg:Dims q (q.getW n i.n).1:=by
   unfold Sp.getW
   dsimp only
   repeat' split
   all_goals exact ⟨rfl,rfl,rfl,rfl,by simp,rfl,rfl,rfl⟩
  unfold Sp.get
  dsimp only
  split
  ·exact hg.trans (Dims.setT _ _ _)
  ·exact hg
 split
 ·unfold Sp.sleep
  repeat' split
  all_goals exact ⟨rfl,rfl,rfl,rfl,rfl,rfl,rfl,rfl⟩
 split
 ·exact Dims.refl _
 ·exact Dims.refl _
theorem Dims.act (q:Sp) (n:Nat) (i:Ins) (ch:Int):Dims q (q.act n i ch).1:=by
 unfold Sp.act
 dsimp only
 exact (((Dims.deed q n i ch).trans (Dims.setT _ _ _)).trans (Dims.tell _ _ _)).trans (Dims.wake _ _)
theorem Dims.fin (q:Sp) (n v:Nat):Dims q (q.fin n v).1:=by
 unfold Sp.fin
 split
 ·exact Dims.free _ _
 split
 ·exact (Dims.free _ _).trans (Dims.wake _ _)
 ·exact Dims.setT _ _ _
theorem Dims.exit (q:Sp) (n v:Nat):Dims q (q.exit n v).1:=(Dims.tell q n _).trans (Dims.fin _ n v)
theorem Dims.plain (q:Sp) (n:Nat) (i:Ins):Dims q (q.plain n i).1:=by
 have hs:∀ r,Dims q (if seenB i.op then q.tell n r else q):=fun r=>by
  split
  ·exact Dims.tell _ _ _
  ·exact Dims.refl _
 unfold Sp.plain
 dsimp only
 split
 ·exact (hs _).trans (Dims.fin _ _ _)
 ·obtain ⟨h1,h2,h3,h4,h5,h6,h7,h8⟩:=hs (Sp.access i (q.thr n).f (doneF (q.thr n).f i q.mem) 0)
  exact ⟨h1,h2,h3,h4,h5,h6,zb4 _ _ _,h8⟩
theorem Dims.run (q:Sp) (slot ch:Int):Dims q (q.run slot ch).1:=by
 unfold Sp.run
 dsimp only
 split
 ·exact Dims.refl _
 split
 ·exact Dims.refl _
 split
 ·exact Dims.exit _ _ _
 split
 ·exact (Dims.setT _ _ _).trans (Dims.exit _ _ _)
 split
 ·exact Dims.plain _ _ _
 ·exact Dims.act _ _ _ _
theorem Dims.done (q:Sp) (k:Int):Dims q (q.done k).1:=by
 unfold Sp.done
 split
 ·exact Dims.refl _
 ·refine Dims.trans ?_ (Dims.wake _ _)
  refine ⟨rfl,rfl,rfl,rfl,rfl,?_,rfl,rfl⟩
  unfold Rq.left
  dsimp only
  split
  ·exact List.length_set
  ·rfl
theorem Dims.tick (q:Sp):Dims q q.tick.1:=by
 unfold Sp.tick
 dsimp only
 refine Dims.trans ?_ (Dims.wake _ _)
 exact ⟨rfl,rfl,rfl,rfl,rfl,rfl,rfl,rfl⟩
open Go Go.RowKit Go.Lib Go.Proofs.YtglhhlfopccmaaaGreat
theorem zns (op:Int) {a b:Nat} (ha:a < 18446744073709551616) (hb:b < 18446744073709551616):ariW op a b < 18446744073709551616:=by
 by_cases h:2≤op∧op≤15
 ·rcases zh4 h with rfl | rfl | rfl | rfl | rfl | rfl | rfl | rfl | rfl | rfl | rfl | rfl | rfl | rfl
  ·exact ha
  ·show (a+b) % 18446744073709551616 < _
   omega
  ·show (a+(18446744073709551616 - b)) % 18446744073709551616 < _
   omega
  ·show a*b % 18446744073709551616 < _
   exact Nat.mod_lt _ (by omega)
  ·show (if a < b then 1 else 0) < _
   split <;> omega
  ·exact nAdd_lt a b
  ·exact nSub_lt a b
  ·exact nMul_lt a b
  ·exact nDiv_lt a b
  ·show nMin a b < _
   unfold nMin
   split
   ·omega
   ·split <;> omega
  ·show nMax a b < _
   unfold nMax
   split
   ·omega
   ·split <;> omega
  ·show (if lt a b then 1 else 0) < _
   split <;> omega
  ·exact tI_lt a
  ·show tF a < _
   unfold tF
   split
   ·omega
   ·rename_i h0
    have hw:∀ (s:Bool) (m:Nat),m < 9218868437227405312→Ieee.double.word s m < 18446744073709551616:=fun s m hm=>by
     rw [zqr]
     split <;> omega
    split
    ·exact hw _ _ (up_lt (by omega) (by omega))
    ·exact hw _ _ (up_lt (by omega) ha)
 ·rw [zkl h]
  omega
theorem wrap_i64 (x:Int):i64 (wrap64 x):=by
 unfold i64 wrap64
 omega
theorem Frm.ok.set {f:Frm} (h:f.ok) (k v:Nat) (hv:v < 18446744073709551616):(f.set k v).ok:=⟨h.fn,h.pc,fun j=>by
 unfold Frm.set
 dsimp only
 split
 ·exact hv
 ·exact h.r j⟩
theorem Frm.ok.to {f:Frm} (h:f.ok) (x:Int):(f.to (wrap64 x)).ok:=⟨h.fn,wrap_i64 x,h.r⟩
theorem zi2 {m:List Nat} (h:∀ x ∈ m,x < 18446744073709551616) (k:Nat):m.getD k 0 < 18446744073709551616:=in_at (p:=fun x:Nat=>x < 18446744073709551616) h (by omega) k
theorem doneF_ok {f:Frm} (h:f.ok) {i:Ins} (hi:i.ok) {m:List Nat} (hm:∀ x ∈ m,x < 18446744073709551616):(doneF f i m).ok:=by
 unfold doneF
 split
 ·exact h.to _
 split
 ·split <;> exact h.to _
 split
 ·exact (h.to _).set _ _ hi.n
 split
 ·exact (h.to _).set _ _ (zi2 hm _)
 split
 ·exact h.to _
 split
 ·exact (h.to _).set _ _ (zns _ (h.r _) (by omega))
 ·exact (h.to _).set _ _ (zns _ (h.r _) (h.r _))
structure ThrOk (t:Thr):Prop where
 a:∃ a:Nat,a < 8∧t.ins.a=a
 j:InR t.joiner
 f:t.f.ok
 v:t.value < 18446744073709551616
theorem ThrOk.reg {t:Thr} (h:ThrOk t) (k v:Nat) (hv:v < 18446744073709551616):ThrOk (t.reg k v):=⟨h.a,h.j,h.f.set k v hv,h.v⟩
theorem ThrOk.next {t:Thr} (h:ThrOk t):ThrOk t.next:=⟨h.a,h.j,h.f.to _,h.v⟩
theorem ThrOk.wake {t:Thr} (h:ThrOk t) (got:Nat) (hg:got < 18446744073709551616):ThrOk (t.wake got):=by
 refine ⟨h.a,h.j,?_,h.v⟩
 unfold Thr.wake
 dsimp only
 split
 ·exact (h.f.set _ _ hg).set _ _ (by omega)
 ·exact h.f.set _ _ (by omega)
theorem ThrOk.new (fn:Int) (hf:i64 fn) (w:Nat) (hw:w < 18446744073709551616):ThrOk (Thr.new fn w):=by
 refine ⟨⟨0,by omega,rfl⟩,zan,⟨hf,⟨by show _≤(0:Int);omega,by show (0:Int)≤_;omega⟩,fun k=>?_⟩,by show 0 < _;omega⟩
 show (if k=0 then w else 0) < _
 split
 ·exact hw
 ·omega
structure TuOk (N:Nat) (t:Tu):Prop where
 l:t.ws.length≤N∧t.ps.length≤N∧t.gs.length≤N
 w:∀ x ∈ t.ws,x < 18446744073709551616
 p:∀ p ∈ t.ps,InR p.1∧p.2 < 18446744073709551616
 g:∀ g ∈ t.gs,InR g
theorem TuOk.mono {N M:Nat} {t:Tu} (h:TuOk N t) (hN:N≤M):TuOk M t:=⟨⟨by have:=h.l.1;omega,by have:=h.l.2.1;omega,by have:=h.l.2.2;omega⟩,h.w,h.p,h.g⟩
structure Life (N:Nat) (q:Sp):Prop where
 thr:∀ m,ThrOk (q.thr m)
 tubes:∀ t ∈ q.tubes,TuOk N t
 asked:∀ r ∈ q.asked,InR r.who∧r.x < 18446744073709551616
 al:q.asked.length≤N
 due:∀ x ∈ keysOf q.due,InR x
 dl:q.due.length≤N
 mem:∀ x ∈ q.mem,x < 18446744073709551616
 blk:∀ x ∈ q.blocks,x < 18446744073709551616
section
variable {N M n : Nat} {q : Sp}
theorem Life.mono (h:Life N q) (hN:N≤M):Life M q:=⟨h.thr,fun t ht=>(h.tubes t ht).mono hN,h.asked,Nat.le_trans h.al hN,h.due,Nat.le_trans h.dl hN,h.mem,h.blk⟩
theorem Life.setT (h:Life N q) (n:Nat) {t:Thr} (ht:ThrOk t):Life N (q.setT n t):=by
 refine ⟨fun m=>?_,h.tubes,h.asked,h.al,h.due,h.dl,h.mem,h.blk⟩
 unfold Sp.setT upd
 dsimp only
 split
 ·exact ht
 ·exact h.thr m
theorem Life.tell (h:Life N q) (n:Nat) (r:Rec):Life N (q.tell n r):=⟨h.thr,h.tubes,h.asked,h.al,h.due,h.dl,h.mem,h.blk⟩
theorem Life.free (h:Life N q) (n:Nat):Life N (q.free n):=⟨h.thr,h.tubes,h.asked,h.al,h.due,h.dl,h.mem,h.blk⟩
theorem Life.gates (h:Life N q) (S:St):Life N { q with gates:=S }:=⟨h.thr,h.tubes,h.asked,h.al,h.due,h.dl,h.mem,h.blk⟩
theorem Life.wake:∀ (l:List (Int × Nat)) {q:Sp} (h:Life N q) (hl:∀ p ∈ l,p.2 < 18446744073709551616),Life N (q.wake l)
 | [],q,h,_=>h
 | p::l,q,h,hl=>Life.wake l ((h.setT _ ((h.thr _).wake p.2 (hl p (List.mem_cons_self ..)))).tell _ _) (fun x hx=>hl x (List.mem_cons_of_mem _ hx))
theorem Life.moved:∀ (l:List Int) {q:Sp} (h:Life N q),Life N (q.moved l)
 | [],q,h=>h
 | p::l,q,h=>Life.moved l (h.setT p.toNat (t:={ q.thr p.toNat with why:=1 }) ⟨(h.thr _).a,(h.thr _).j,(h.thr _).f,(h.thr _).v⟩)
theorem Life.begin (h:Life N q) (fn:Int) (hf:i64 fn) (w:Nat) (hw:w < 18446744073709551616):Life N (q.begin fn w).1:=by
 unfold Sp.begin
 split
 ·exact Life.setT (q:={ q with st:=taken q.st }) ⟨h.thr,h.tubes,h.asked,h.al,h.due,h.dl,h.mem,h.blk⟩ _ (ThrOk.new fn hf w hw)
 ·exact h
theorem Life.tube (h:Life N q) (m:Nat):TuOk N (q.tube m):=by
 unfold Sp.tube
 rw [List.getD_eq_getElem?_getD]
 cases e:q.tubes[m]? with
 | none=>exact ⟨⟨by simp,by simp,by simp⟩,fun x hx=>absurd hx (by simp),fun x hx=>absurd hx (by simp),fun x hx=>absurd hx (by simp)⟩
 | some t=>exact h.tubes t (List.mem_of_getElem? e)
theorem Life.setTube (h:Life N q) (hN:N≤M) (m:Nat) {t:Tu} (ht:TuOk M t):Life M { q with tubes:=q.tubes.set m t }:=by
 have h':=h.mono hN
 refine ⟨h'.thr,fun x hx=>?_,h'.asked,h'.al,h'.due,h'.dl,h'.mem,h'.blk⟩
 rcases List.mem_or_eq_of_mem_set hx with hx | rfl
 ·exact h'.tubes x hx
 ·exact ht
theorem Life.fin (h:Life N q) (n v:Nat) (hv:v < 18446744073709551616):Life N (q.fin n v).1:=by
 unfold Sp.fin
 split
 ·exact h.free n
 split
 ·exact Life.wake _ (h.free n) (fun p hp=>by rw [List.mem_singleton] at hp;rw [hp];exact hv)
 ·exact h.setT n ⟨(h.thr n).a,(h.thr n).j,(h.thr n).f,hv⟩
theorem Life.exit (h:Life N q) (n v:Nat) (hv:v < 18446744073709551616):Life N (q.exit n v).1:=(h.tell n _).fin n v hv
theorem Life.plain (h:Life N q) (n:Nat) {i:Ins} (hi:i.ok):Life N (q.plain n i).1:=by
 have hs:∀ r,Life N (if seenB i.op then q.tell n r else q):=fun r=>by
  split
  ·exact h.tell _ _
  ·exact h
 unfold Sp.plain
 dsimp only
 split
 ·exact (hs _).fin _ _ (by omega)
 ·have h1:=hs (Sp.access i (q.thr n).f (doneF (q.thr n).f i q.mem) 0)
  refine ⟨fun m=>?_,h1.tubes,h1.asked,h1.al,h1.due,h1.dl,Go.Proofs.YtglhhlfopccmaaaGreat.zeb (h.thr n).f h.mem,h1.blk⟩
  show ThrOk (upd q.thr n _ m)
  unfold upd
  split
  ·exact ⟨(h.thr n).a,(h.thr n).j,doneF_ok (h.thr n).f hi h.mem,(h.thr n).v⟩
  ·exact h.thr m
end
open Go Go.RowKit Go.Lib
theorem Sp.hnd_lt {q:Sp} {M:Nat} (h:Small M q.st) (hM:M≤100000) (h16:q.st.length=16) (n:Nat):q.hnd n < 18446744073709551616:=by
 unfold Sp.hnd
 split
 ·rename_i hu
  have:=zd8 hu
  exact hd_lt h hM (by omega)
 ·omega
section
variable {N n : Nat} {q : Sp}
theorem Life.askW (h:Life N q) (hn:n < 16) (c:Bool) (x m:Nat) (b:Int) (hx:x < 18446744073709551616):Life (N+1) (q.askW n c x m b).1:=by
 have h':=h.mono (Nat.le_succ N)
 unfold Sp.askW
 split
 ·exact h'
 split
 ·exact h'
 ·refine ⟨h'.thr,h'.tubes,fun r hr=>?_,?_,h'.due,h'.dl,h'.mem,h'.blk⟩
  ·rcases List.mem_append.1 hr with hr | hr
   ·exact h'.asked r hr
   ·rw [List.mem_singleton] at hr
    rw [hr]
    exact ⟨zay hn,hx⟩
  ·have:=h.al
   simp only [List.length_append,List.length_singleton]
   omega
theorem Life.putW (h:Life N q) (hn:n < 16) (m y:Nat) (hy:y < 18446744073709551616):Life (N+1) (q.putW n m y).1:=by
 have h':=h.mono (Nat.le_succ N)
 have ht:=h.tube m
 obtain ⟨⟨l1,l2,l3⟩,tw,tp,tg⟩:=ht
 unfold Sp.putW
 dsimp only
 split
 ·exact h'
 split
 ·rename_i g gs e
  rw [e] at l3 tg
  simp only [List.length_cons] at l3
  exact h.setTube (Nat.le_succ N) m ⟨⟨by dsimp only;omega,by dsimp only;omega,by dsimp only;omega⟩,tw,tp,fun x hx=>tg x (List.mem_cons_of_mem _ hx)⟩
 split
 ·exact h.setTube (Nat.le_succ N) m ⟨⟨by simp;omega,by dsimp only;omega,by dsimp only;omega⟩,fun x hx=>by
   rcases List.mem_append.1 hx with hx | hx
   ·exact tw x hx
   ·rw [List.mem_singleton] at hx;rw [hx];exact hy,tp,tg⟩
 ·exact h.setTube (Nat.le_succ N) m ⟨⟨by dsimp only;omega,by simp;omega,by dsimp only;omega⟩,tw,fun x hx=>by
   rcases List.mem_append.1 hx with hx | hx
   ·exact tp x hx
   ·rw [List.mem_singleton] at hx;rw [hx];exact ⟨zay hn,hy⟩,tg⟩
theorem Life.getW (h:Life N q) (hn:n < 16) (m:Nat):Life (N+1) (q.getW n m).1∧(q.getW n m).2.1 < 18446744073709551616:=by
 have h':=h.mono (Nat.le_succ N)
 have ht:=h.tube m
 obtain ⟨⟨l1,l2,l3⟩,tw,tp,tg⟩:=ht
 unfold Sp.getW
 dsimp only
 split
 ·exact ⟨h',by dsimp only;omega⟩
 split
 ·exact ⟨h.setTube (Nat.le_succ N) m ⟨⟨by dsimp only;omega,by dsimp only;omega,by simp;omega⟩,tw,tp,fun x hx=>by
   rcases List.mem_append.1 hx with hx | hx
   ·exact tg x hx
   ·rw [List.mem_singleton] at hx;rw [hx];exact zay hn⟩,by dsimp only;omega⟩
 ·rename_i y ws e
  rw [e] at l1 tw
  simp only [List.length_cons] at l1
  have hy:=tw y (List.mem_cons_self ..)
  split
  ·exact ⟨h.setTube (Nat.le_succ N) m ⟨⟨by dsimp only;omega,by dsimp only;omega,by dsimp only;omega⟩,fun x hx=>tw x (List.mem_cons_of_mem _ hx),tp,tg⟩,hy⟩
  ·rename_i p z ps e2
   rw [e2] at l2 tp
   simp only [List.length_cons] at l2
   exact ⟨h.setTube (Nat.le_succ N) m ⟨⟨by simp;omega,by dsimp only;omega,by dsimp only;omega⟩,fun x hx=>by
    rcases List.mem_append.1 hx with hx | hx
    ·exact tw x (List.mem_cons_of_mem _ hx)
    ·rw [List.mem_singleton] at hx;rw [hx];exact (tp (p,z) (List.mem_cons_self ..)).2,fun x hx=>tp x (List.mem_cons_of_mem _ hx),tg⟩,hy⟩
theorem Life.sleep (h:Life N q) (hn:n < 16) (m:Nat):Life (N+1) (q.sleep n m).1:=by
 have h':=h.mono (Nat.le_succ N)
 unfold Sp.sleep
 split
 ·exact h'
 split
 ·exact h'
 split
 ·exact h'
 ·refine ⟨h'.thr,h'.tubes,h'.asked,h'.al,fun x hx=>?_,?_,h'.mem,h'.blk⟩
  ·unfold keysOf at hx
   rw [List.map_append] at hx
   rcases List.mem_append.1 hx with hx | hx
   ·exact h.due x hx
   ·rw [List.map_singleton,List.mem_singleton] at hx
    rw [hx]
    exact zay hn
  ·have:=h.dl
   simp only [List.length_append,List.length_singleton]
   omega
theorem Life.pass (h:Life N q) (n:Nat) (i:Ins) (ch:Int):Life N (q.pass n i ch).1:=by
 unfold Sp.pass
 dsimp only
 split
 ·exact h.gates _
 split
 ·exact h.gates _
 split
 ·exact h.gates _
 split
 ·exact h.gates _
 split
 ·exact h.gates _
 ·unfold Sp.signal
  dsimp only
  exact Life.moved _ (h.gates _)
theorem Life.deed {M:Nat} (h:Life N q) (hn:n < 16) (i:Ins) (ch:Int) (hs:Small M (q.deed n i ch).1.st) (hM:M≤100000) (h16:q.st.length=16):Life (N+1) (q.deed n i ch).1:=by
 have h':=h.mono (Nat.le_succ N)
 have hl:=(Dims.deed q n i ch).sl
 rw [h16] at hl
 revert hs hl
 unfold Sp.deed
 dsimp only
 split
 ·intro hs hl
  have hb:=h'.begin (wrap64 i.n) (wrap_i64 _) ((q.thr n).f.r i.b.toNat) ((h.thr n).f.r _)
  revert hs hl
  unfold Sp.spawn
  dsimp only
  split
  ·intro hs hl
   exact hb.setT n ((hb.thr n).reg _ _ (Sp.hnd_lt (q:=(q.begin (wrap64 i.n) ((q.thr n).f.r i.b.toNat)).1) hs hM hl _))
  ·intro hs hl
   exact hb.setT n ((hb.thr n).reg _ _ (by omega))
 split
 ·intro hs hl
  exact h'.setT n ((h.thr n).reg _ _ (Sp.hnd_lt (q:=q) hs hM h16 _))
 split
 ·intro hs hl
  unfold Sp.join
  dsimp only
  split
  ·split
   ·exact (h'.setT n ((h.thr n).reg _ _ (h.thr _).v)).free _
   ·exact h'.setT _ ⟨(h.thr _).a,zay hn,(h.thr _).f,(h.thr _).v⟩
  ·exact h'
 split
 ·intro hs hl
  unfold Sp.detach
  dsimp only
  split
  ·split
   ·exact h'.free _
   ·exact h'.setT _ ⟨(h.thr _).a,(h.thr _).j,(h.thr _).f,(h.thr _).v⟩
  ·exact h'
 split
 ·intro hs hl
  exact h'.pass n i ch
 split
 ·intro hs hl
  exact h.askW hn _ _ _ _ (by omega)
 split
 ·intro hs hl
  exact h.askW hn _ _ _ _ ((h.thr n).f.r _)
 split
 ·intro hs hl
  exact h.putW hn _ _ ((h.thr n).f.r _)
 split
 ·intro hs hl
  obtain ⟨g1,g2⟩:=h.getW hn i.n
  unfold Sp.get
  dsimp only
  split
  ·exact g1.setT n ((g1.thr n).reg _ _ g2)
  ·exact g1
 split
 ·intro hs hl
  exact h.sleep hn _
 split
 ·intro hs hl
  exact h'
 ·intro hs hl
  exact h'
def Got (l:List (Int × Nat)):Prop:=∀ p ∈ l,p.2 < 18446744073709551616
theorem Got.no {l:List (Int × Nat)} (e:l=[]):Got l:=fun p hp=>by rw [e] at hp;exact absurd hp (by simp)
theorem Got.one (b:Bool) (who:Int) (w:Nat) (hw:w < 18446744073709551616):Got (if b then [(who,w)] else []):=fun p hp=>by
 cases b
 ·exact absurd hp (by simp)
 ·rw [if_pos rfl,List.mem_singleton] at hp
  rw [hp]
  exact hw
theorem deed_got (h:Life N q) (i:Ins) (ch:Int):Got (q.deed n i ch).2.woken:=by
 unfold Sp.deed
 dsimp only
 split
 ·exact Got.no (Sp.zgh _ _ _)
 split
 ·exact Got.no rfl
 split
 ·exact Got.no (Sp.zik _ _ _).2
 split
 ·exact Got.no (Sp.zeu _ _ _).2
 split
 ·unfold Sp.pass
  dsimp only
  split
  ·exact Got.no rfl
  split
  ·exact Got.one _ _ _ (by omega)
  split
  ·exact Got.one _ _ _ (by omega)
  split
  ·exact Got.no rfl
  split
  ·exact Got.one _ _ _ (by omega)
  ·intro p hp
   obtain ⟨w,hw,rfl⟩:=List.mem_map.1 hp
   show 0 < _
   omega
 split
 ·exact Got.no (Sp.zd9 _ _ _ _ _).2
 split
 ·exact Got.no (Sp.zd9 _ _ _ _ _).2
 split
 ·exact Got.one _ _ _ ((h.thr n).f.r _)
 split
 ·unfold Sp.get
  dsimp only
  split
  ·exact Got.one _ _ _ (by omega)
  ·exact Got.no rfl
 split
 ·exact Got.no (Sp.zgg _ _ _).2
 split
 ·exact Got.no rfl
 ·exact Got.no rfl
end
theorem Sp.act_st (q:Sp) (n:Nat) (i:Ins) (ch:Int):(q.act n i ch).1.st=(q.deed n i ch).1.st:=by
 unfold Sp.act
 dsimp only
 rw [Sp.wake_st]
 rfl
section
variable {N n M : Nat} {q : Sp}
theorem Life.act (h:Life N q) (hn:n < 16) (i:Ins) (ha:0≤i.a∧i.a < 8) (ch:Int) (hf:Fine (q.deed n i ch).2) (hs:Small M (q.act n i ch).1.st) (hM:M≤100000) (h16:q.st.length=16):Life (N+1) (q.act n i ch).1:=by
 rw [Sp.act_st] at hs
 have hd:=h.deed hn i ch hs hM h16
 have hg:=deed_got (n:=n) h i ch
 have hr:=hf.res
 unfold Sp.act
 dsimp only
 refine Life.wake _ (Life.tell (Life.setT hd n ?_) n _) hg
 by_cases hw:(q.deed n i ch).2.why=0
 ·rw [if_pos hw]
  exact (hd.thr n).next.reg _ _ (by omega)
 ·rw [if_neg hw]
  exact ⟨⟨i.a.toNat,by omega,by show i.a=_;omega⟩,(hd.thr n).j,(hd.thr n).next.f,(hd.thr n).v⟩
theorem Life.well (h:Life N q) (hN:N≤1000) (h16:q.st.length=16) (hc:∀ c ∈ q.code,c.length≤1000∧∀ i ∈ c,q.InsFit i) (hm:q.mem.length≤1000) (hb:q.blocks.length≤1000) (gi:GIn q.gates) (go:Ok q.gates 16):q.Well where
 h16:=h16
 regs:=fun n=>(h.thr n).a
 join:=fun n=>(h.thr n).j
 fok:=fun n=>(h.thr n).f
 code:=hc
 mem:=hm
 tl:=fun t ht=>by
  obtain ⟨l1,l2,l3⟩:=(h.tubes t ht).l
  exact ⟨by omega,by omega,by omega⟩
 al:=by have:=h.al;omega
 bl:=hb
 gin:=gi
 gok:=go
 tin:=fun t ht=>⟨fun p hp=>((h.tubes t ht).p p hp).1,(h.tubes t ht).g⟩
 ain:=fun r hr=>(h.asked r hr).1
 din:=h.due
 dl:=by have:=h.dl;omega
theorem Life.run (h:Life N q) (W:q.Well) (slot ch:Int) (hs:Small M (q.run slot ch).1.st) (hM:M≤100000):Life (N+1) (q.run slot ch).1:=by
 have h':=h.mono (Nat.le_succ N)
 unfold Sp.run at hs ⊢
 dsimp only at hs ⊢
 by_cases hu:q.usedB slot=false
 ·rw [if_pos hu]
  exact h'
 rw [if_neg hu] at hs ⊢
 by_cases hw:(q.thr slot.toNat).why≠0
 ·rw [if_pos hw]
  exact h'
 rw [if_neg hw] at hs ⊢
 by_cases hn:nextB q.prog (q.thr slot.toNat).f=false
 ·rw [if_pos hn]
  exact h'.exit _ _ (by omega)
 rw [if_neg hn] at hs ⊢
 obtain ⟨hf,_,_⟩:=W.next (f:=(q.thr slot.toNat).f) (by simpa using hn)
 by_cases h23:(nextI q.prog (q.thr slot.toNat).f).op=23
 ·rw [if_pos h23]
  exact (h'.setT _ (h.thr _).next).exit _ _ ((h.thr _).f.r _)
 rw [if_neg h23] at hs ⊢
 by_cases hc:classOf (nextI q.prog (q.thr slot.toNat).f).op=1
 ·rw [if_pos hc]
  exact h'.plain _ hf.ok
 rw [if_neg hc] at hs ⊢
 have h16:slot.toNat < 16:=by
  have hu':q.usedB slot=true:=by simpa using hu
  unfold Sp.usedB at hu'
  simp only [Bool.and_eq_true] at hu'
  have:=zd8 hu'.2
  rw [W.h16] at this
  exact this
 exact h.act h16 _ hf.a0 ch (Fine.deed W h16 _ _) hs hM W.h16
theorem said_lt (h:Life N q) (r:Rq):r.said q.blocks < 18446744073709551616:=by
 unfold Rq.said
 split
 ·omega
 ·exact zi2 h.blk _
theorem left_lt (h:Life N q) {r:Rq} (hr:r.x < 18446744073709551616):∀ x ∈ r.left q.blocks,x < 18446744073709551616:=by
 unfold Rq.left
 split
 ·intro x hx
  rcases List.mem_or_eq_of_mem_set hx with hx | rfl
  ·exact h.blk x hx
  ·exact hr
 ·exact h.blk
theorem Life.done (h:Life N q) (k:Int):Life N (q.done k).1:=by
 unfold Sp.done
 by_cases h0:q.asked.length=0
 ·rw [if_pos h0]
  exact h
 ·rw [if_neg h0]
  dsimp only
  have hr:(q.asked.getD (at_K k q.asked.length) Rq.zero).x < 18446744073709551616:=by
   rw [List.getD_eq_getElem?_getD]
   cases e:q.asked[at_K k q.asked.length]? with
   | none=>show 0 < _;omega
   | some r=>exact (h.asked r (List.mem_of_getElem? e)).2
  refine Life.wake _ ⟨h.thr,h.tubes,fun r hr=>h.asked r (List.mem_of_mem_eraseIdx hr),?_,h.due,h.dl,h.mem,left_lt h hr⟩ (fun p hp=>by
   rw [List.mem_singleton] at hp
   rw [hp]
   exact said_lt h _)
  have h1:=h.al
  have h2:=List.length_eraseIdx_le q.asked (at_K k q.asked.length)
  dsimp only
  omega
theorem Life.tick (h:Life N q):Life N q.tick.1:=by
 unfold Sp.tick
 dsimp only
 refine Life.wake _ ⟨h.thr,h.tubes,h.asked,h.al,fun x hx=>?_,?_,h.mem,h.blk⟩ (fun p hp=>by
  obtain ⟨w,_,rfl⟩:=List.mem_map.1 hp
  show 0 < _
  omega)
 ·unfold keysOf leftOf at hx
  obtain ⟨p,hp,rfl⟩:=List.mem_map.1 hx
  exact h.due _ (List.mem_map.2 ⟨p,(List.mem_filter.1 hp).1,rfl⟩)
 ·have h1:=h.dl
  have h2:=List.length_filter_le (fun p:Int × Int=>decide (min (q.now+1) 1099511627776 < p.2)) q.due
  exact Nat.le_trans h2 h1
end
section
variable {N n M : Nat} {q : Sp}
theorem zks (q:Sp) (n v:Nat):(q.fin n v).1.recs.length≤q.recs.length+1:=by
 unfold Sp.fin
 split
 ·show q.recs.length≤_
  omega
 split
 ·have:=Sp.zcj (q.free n) [((q.thr n).joiner,v)]
  dsimp only
  rw [this]
  exact Nat.le_refl _
 ·show q.recs.length≤_
  omega
theorem zfl (q:Sp) (n:Nat) (r:Rec):(q.tell n r).recs.length=q.recs.length+1:=by
 unfold Sp.tell
 simp
theorem run_recs (W:q.Well) (slot ch:Int):(q.run slot ch).1.recs.length≤q.recs.length+17:=by
 unfold Sp.run
 dsimp only
 by_cases hu:q.usedB slot=false
 ·rw [if_pos hu]
  dsimp only
  omega
 rw [if_neg hu]
 by_cases hw:(q.thr slot.toNat).why≠0
 ·rw [if_pos hw]
  dsimp only
  omega
 rw [if_neg hw]
 have he:∀ (q:Sp) (n v:Nat),(q.exit n v).1.recs.length≤q.recs.length+2:=fun q n v=>by
  unfold Sp.exit
  have h1:=zks (q.tell n ⟨0,23,v,0,0,true⟩) n v
  rw [zfl] at h1
  exact h1
 by_cases hn:nextB q.prog (q.thr slot.toNat).f=false
 ·rw [if_pos hn]
  have:=he q slot.toNat 0
  dsimp only
  omega
 rw [if_neg hn]
 by_cases h23:(nextI q.prog (q.thr slot.toNat).f).op=23
 ·rw [if_pos h23]
  have:=he (q.setT slot.toNat (q.thr slot.toNat).next) slot.toNat ((q.thr slot.toNat).f.r (nextI q.prog (q.thr slot.toNat).f).a.toNat)
  have e:(q.setT slot.toNat (q.thr slot.toNat).next).recs=q.recs:=rfl
  rw [e] at this
  dsimp only
  omega
 rw [if_neg h23]
 have hus:us q.st slot.toNat=true:=by
  have hu':q.usedB slot=true:=by simpa using hu
  unfold Sp.usedB at hu'
  simp only [Bool.and_eq_true] at hu'
  exact hu'.2
 have h16:slot.toNat < 16:=by
  have:=zd8 hus
  rw [W.h16] at this
  exact this
 by_cases hc:classOf (nextI q.prog (q.thr slot.toNat).f).op=1
 ·rw [if_pos hc]
  have hs:∀ r,(if seenB (nextI q.prog (q.thr slot.toNat).f).op then q.tell slot.toNat r else q).recs.length≤q.recs.length+1:=fun r=>by
   split
   ·rw [zfl];exact Nat.le_refl _
   ·omega
  unfold Sp.plain
  dsimp only
  split
  ·exact Nat.le_trans (zks _ _ _) (by have:=hs (Sp.access (nextI q.prog (q.thr slot.toNat).f) (q.thr slot.toNat).f Frm.zero 6);omega)
  ·exact Nat.le_trans (hs _) (by omega)
 rw [if_neg hc]
 obtain ⟨d1,d2,d3,d4,d5,d6,d7⟩:=deedOk W h16 hus (nextI q.prog (q.thr slot.toNat).f) ch
 unfold Sp.act
 dsimp only
 rw [Sp.zcj,zfl]
 show (q.deed _ _ _).1.recs.length+1+_≤_
 omega
theorem zon (q:Sp) (k:Int):(q.done k).1.recs.length≤q.recs.length+1:=by
 unfold Sp.done
 split
 ·dsimp only
  omega
 ·dsimp only
  rw [Sp.zcj]
  exact Nat.le_refl _
theorem zp7 (q:Sp):q.tick.1.recs.length≤q.recs.length+q.due.length:=by
 unfold Sp.tick
 dsimp only
 rw [Sp.zcj,List.length_map]
 refine Nat.add_le_add_left ?_ _
 rw [(zcg _).length_eq]
 unfold dueOf keysOf
 rw [List.length_map]
 exact List.length_filter_le _ _
end
structure Born (q0:Sp):Prop where
 code:∀ c ∈ q0.code,c.length≤1000∧∀ i ∈ c,q0.InsFit i
 mem:q0.mem.length≤1000
 blk:q0.blocks.length≤1000
 h16:q0.st.length=16
theorem Born.well {q0 q:Sp} {N:Nat} (b:Born q0) (d:Dims q0 q) (h:Life N q) (hN:N≤1000) (gi:GIn q.gates) (go:Ok q.gates 16):q.Well:=
 h.well hN (by rw [d.sl];exact b.h16) (fun c hc=>by
  rw [d.code] at hc
  exact ⟨(b.code c hc).1,fun i hi=>d.fit ((b.code c hc).2 i hi)⟩) (by rw [d.ml];exact b.mem) (by rw [d.bl];exact b.blk) gi go
end Dk
namespace Go.Proofs.YtglhhlfopccmaaaGreat
open Go.RowKit Go.Lib
section
variable {W w w' : World} {L : Dk.Loc} {q q0 : Dk.Sp} {k N : Nat} {us : List Dk.Thing} {ch : Int}
theorem Cor.small (h:Cor W w L q k us):Dk.Small k q.st:=by
 obtain ⟨ks,hks,hT,_⟩:=h.slots
 exact hT.small.mono hks
structure Lives (W w:World) (L:Dk.Loc) (q0 q:Dk.Sp) (N k R:Nat) (us:List Dk.Thing):Prop where
 cor:Cor W w L q k us
 life:Dk.Life N q
 dims:Dk.Dims q0 q
 recs:q.recs.length≤R
theorem Lives.well {R:Nat} (h:Lives W w L q0 q N k R us) (b:Dk.Born q0) (hN:N≤1000):q.Well:=b.well h.dims h.life hN h.cor.gok.2 h.cor.gok.1
theorem zch {R:Nat} (h:Lives W w L q0 q N k R us) (b:Dk.Born q0) (hN:N≤1000) (hk:k < 99999) (hR:R≤60000) (slot:Int) (hch:Dk.i64 ch) :
  Calls Tryz.prog 28 #[.pointer (some ⟨L.b,0,none⟩),.int .i64 slot,.int .i64 ch] w fun e w'=>∃ A C,e=.returned (.tuple #[eff A (q.run slot ch).2.1.woken.length C (q.run slot ch).2.1.stopped (q.run slot ch).2.1.ended (q.run slot ch).2.1.yielded,.int .i64 (q.run slot ch).2.2])∧Lives W w' L q0 (q.run slot ch).1 (N+1) (k+1) (R+17) (Dk.rowOf 3 1 (.slice A (q.run slot ch).2.1.woken.length C) (q.run slot ch).2.1.woken.length (Dk.is (q.run slot ch).2.1.woken)::us):=by
 have hW:=h.well b hN
 refine (run_any h.cor hk hW slot hch (Nat.le_trans h.recs hR) fun n i hn hu _ _ _=>Dk.deedOk hW hn hu i ch).mono ?_
 rintro e w' ⟨A,C,he,h'⟩
 exact ⟨A,C,he,h',h.life.run hW slot ch h'.small (by omega),h.dims.trans (Dk.Dims.run q slot ch),by
  have:=Dk.run_recs hW slot ch
  have:=h.recs
  omega⟩
theorem zl3 {R:Nat} (h:Lives W w L q0 q N k R us) (b:Dk.Born q0) (hN:N≤1000) (hk:k < 99999) (hR:R≤60000) (j:Int) (hj:Dk.i64 j) :
  Calls Tryz.prog 29 #[.pointer (some ⟨L.b,0,none⟩),.int .i64 j] w fun e w'=>∃ A C,e=.returned (.tuple #[eff A (q.done j).2.1.woken.length C false false false,.int .i64 (q.done j).2.2])∧Lives W w' L q0 (q.done j).1 N k (R+1) (Dk.rowOf 3 1 (.slice A (q.done j).2.1.woken.length C) (q.done j).2.1.woken.length (Dk.is (q.done j).2.1.woken)::us):=by
 have hW:=h.well b hN
 have hr:=h.recs
 refine (zm4 h.cor (by omega) j hj hW.al hW.regs hW.ain (by omega)).mono ?_
 rintro e w' ⟨A,C,he,h'⟩
 exact ⟨A,C,he,h',h.life.done j,h.dims.trans (Dk.Dims.done q j),by
  have:=Dk.zon q j
  omega⟩
theorem zmx {R:Nat} (h:Lives W w L q0 q N k R us) (b:Dk.Born q0) (hN:N≤1000) (hk:k≤10000) (hR:R≤60000) :
  Calls Tryz.prog 30 #[.pointer (some ⟨L.b,0,none⟩)] w fun e w'=>∃ A C,e=.returned (eff A q.tick.2.woken.length C false false false)∧Lives W w' L q0 q.tick.1 N k (R+N) (Dk.rowOf 3 1 (.slice A q.tick.2.woken.length C) q.tick.2.woken.length (Dk.is q.tick.2.woken)::us):=by
 have hW:=h.well b hN
 have hr:=h.recs
 refine (znj h.cor hk hW.regs hW.din (by omega) hW.dl).mono ?_
 rintro e w' ⟨A,C,he,h'⟩
 exact ⟨A,C,he,h',h.life.tick,h.dims.trans (Dk.Dims.tick q),by
  have:=Dk.zp7 q
  have:=h.life.dl
  omega⟩
end
end Go.Proofs.YtglhhlfopccmaaaGreat
