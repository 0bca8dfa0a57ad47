import Derived.Test.YtpnajphbjfehnaaGreatLn24
set_option linter.unusedSimpArgs false
set_option linter.unusedVariables false
set_option linter.unnecessarySimpa false
set_option maxHeartbeats 8000000
set_option maxRecDepth 100000
namespace Go.Proofs.YtpnajphbjfehnaaGreat
open Go.RowKit Go.Lib
section
variable {W w w' : World} {L : Dk.Loc} {q qa qz : Dk.Sp} {k k' n : Nat} {us us' us1 us2 : List Dk.Thing} {t : Dk.Thing} {ch : Int} {E : Dk.Eff}
theorem run_no (h:Cor W w L q k us) (hk:k≤100000) (j:Int) (hu:q.usedB j=false) :
  Calls Tryz.prog 142 #[.pointer (some ⟨L.b,0,none⟩),.int .i64 j,.int .i64 ch] w fun e w'=>e=.returned (.tuple #[eff none 0 0 false false false,.int .i64 1])∧Cor W w' L q k us:=by
 obtain ⟨W1,e1⟩:∃ W1,W1=w.alloc (.cells #[.slice none 0 0,.bool false,.bool false,.bool false] 43):=⟨_,rfl⟩
 have h1:=h.newBox e1
 have b1:Dk.Box W1 w.heap.size #[.slice none 0 0,.bool false,.bool false,.bool false] 43:=h1.box (by simp)
 have K1:=zfg h1 hk j hu
 have h2:=(h1.setRow (cs':=#[.slice none 0 0,.bool false,.bool false,.bool false]) rfl).drop
 have d0:=(b1.row (cs':=#[.slice none 0 0,.bool false,.bool false,.bool false])).cell
 have HB:Hid _:=b1
 have H1:Hid _:=e1.symm
 have HC:Hid (Cor W _ L q k us):=h2
 clear e1 b1 h h1 h2 hu
 go_enter Tryz.func142,Tryz.ntmps142
 go_wp2_with (first | (rw [H1.out];clear H1) | (go_at_call 144;refine K1.mono ?_;rintro e w' ⟨rfl,ew⟩;subst w') | (refine wpList_store_row rfl 43 _ _ rfl w.heap.size #[.slice none 0 0,.bool false,.bool false,.bool false] rfl rfl 43 _ HB.out.heap sizeEff rfl (zbd _ _ _ _ _ _) ?_))
 exact bodyPost_ret (v:=.tuple #[eff none 0 0 false false false,.int .i64 1]) (by simp [results,Tryz.results142,go_sem,d0]) rfl ⟨rfl,HC.out⟩
theorem run_busy (h:Cor W w L q k us) (hk:k≤100000) (hn:n < 16) (hu:Dk.us q.st n=true) (hw:¬ (q.thr n).why=0) :
  Calls Tryz.prog 142 #[.pointer (some ⟨L.b,0,none⟩),.int .i64 (n:Int),.int .i64 ch] w fun e w'=>e=.returned (.tuple #[eff none 0 0 false false false,.int .i64 4])∧Cor W w' L q k us:=by
 obtain ⟨W1,e1⟩:∃ W1,W1=w.alloc (.cells #[.slice none 0 0,.bool false,.bool false,.bool false] 43):=⟨_,rfl⟩
 have h1:=h.newBox e1
 have b1:Dk.Box W1 w.heap.size #[.slice none 0 0,.bool false,.bool false,.bool false] 43:=h1.box (by simp)
 have K1:=za4 h1 hk n hn hu
 have d10:W1.cell? ⟨L.b,10+n*20+10,none⟩=some (.int .i64 (q.thr n).why):=h1.cellAt hn 10 (by omega)
 have h2:=(h1.setRow (cs':=#[.slice none 0 0,.bool false,.bool false,.bool false]) rfl).drop
 have d0:=(b1.row (cs':=#[.slice none 0 0,.bool false,.bool false,.bool false])).cell
 generalize (q.thr n).why=wy at *
 have y1:(wy != 0)=true:=by simpa using hw
 have HB:Hid _:=b1
 have H1:Hid _:=e1.symm
 have HC:Hid (Cor W _ L q k us):=h2
 clear e1 b1 h h1 h2 hu hw
 go_enter Tryz.func142,Tryz.ntmps142
 go_wp2_with (first | (rw [H1.out];clear H1) | (go_at_call 144;refine K1.mono ?_;rintro e w' ⟨rfl,ew⟩;subst w') | (refine wpList_store_row rfl 43 _ _ rfl w.heap.size #[.slice none 0 0,.bool false,.bool false,.bool false] rfl rfl 43 _ HB.out.heap sizeEff rfl (zbd _ _ _ _ _ _) ?_))
 exact bodyPost_ret (v:=.tuple #[eff none 0 0 false false false,.int .i64 4]) (by simp [results,Tryz.results142,go_sem,d0]) rfl ⟨rfl,HC.out⟩
theorem zja (h:Cor W w L q k us) (hk:k≤100000) (j:Int) (hu:q.usedB j=false) :
  Calls Tryz.prog 121 #[.pointer (some ⟨L.b,0,none⟩),.int .i64 j] w fun e w'=>e=.returned (.int .i64 0)∧Cor W w' L q k us:=by
 have K1:=zfg h hk j hu
 have HC:Hid (Cor W w L q k us):=h
 clear h hu
 go_enter Tryz.func121,Tryz.ntmps121
 go_wp2_with (go_at_call 144;refine K1.mono ?_;rintro e w' ⟨rfl,ew⟩;subst w')
 go_ret
 exact ⟨rfl,HC.out⟩
theorem zfw (h:Cor W w L q k us) (hk:k≤100000) (hn:n < 16) (hu:Dk.us q.st n=true) (hw:¬ (q.thr n).why=0) :
  Calls Tryz.prog 121 #[.pointer (some ⟨L.b,0,none⟩),.int .i64 (n:Int)] w fun e w'=>e=.returned (.int .i64 0)∧Cor W w' L q k us:=by
 have K1:=za4 h hk n hn hu
 have d10:w.cell? ⟨L.b,10+n*20+10,none⟩=some (.int .i64 (q.thr n).why):=h.cellAt hn 10 (by omega)
 have HC:Hid (Cor W w L q k us):=h
 generalize (q.thr n).why=wy at *
 have y1:(wy != 0)=true:=by simpa using hw
 clear h hu hw
 go_enter Tryz.func121,Tryz.ntmps121
 go_wp2_with (go_at_call 144;refine K1.mono ?_;rintro e w' ⟨rfl,ew⟩;subst w')
 go_ret
 exact ⟨rfl,HC.out⟩
end
end Go.Proofs.YtpnajphbjfehnaaGreat
namespace Dk
structure Sp.DeedOk (q:Sp) (n:Nat) (i:Ins) (ch:Int):Prop where
 pc:((q.deed n i ch).1.thr n).f.pc=(q.thr n).f.pc
 res:0≤(q.deed n i ch).2.result∧(q.deed n i ch).2.result < 1000
 wk:∀ p ∈ (q.deed n i ch).2.woken,InR p.1
 wl:(q.deed n i ch).2.woken.length≤16
 bl:(q.deed n i ch).2.begun.length≤16
 regs:(q.deed n i ch).1.RegsOk
 recs:(q.deed n i ch).1.recs.length=q.recs.length
theorem Sp.RegsOk.setT {q:Sp} (h:q.RegsOk) (n:Nat) (th:Thr) (hi:∃ a:Nat,a < 8∧th.ins.a=a):(q.setT n th).RegsOk:=fun m=>by
 unfold Sp.setT
 dsimp only
 by_cases e:m=n
 ·subst e
  rw [upd_same]
  exact hi
 ·rw [upd_ne _ _ e]
  exact h m
structure Sp.InsFit (q:Sp) (i:Ins):Prop where
 ok:i.ok
 a0:0≤i.a∧i.a < 8
 b0:0≤i.b∧i.b < 8
 op:1≤i.op∧i.op≤38
 code:i.op≤19→codeB i=true
 fits:25≤i.op∧i.op≤31→q.Fits i
 tub:i.op=35∨i.op=36→i.n < q.tubes.length
structure Sp.Well (q:Sp):Prop where
 h16:q.st.length=16
 regs:q.RegsOk
 join:∀ m,InR (q.thr m).joiner
 fok:∀ m,(q.thr m).f.ok
 code:∀ c ∈ q.code,c.length≤1000∧∀ i ∈ c,q.InsFit i
 mem:q.mem.length≤1000
 tl:∀ t ∈ q.tubes,t.ws.length≤1000∧t.ps.length≤1000∧t.gs.length≤1000
 al:q.asked.length≤1000
 bl:q.blocks.length≤1000
 gin:GIn q.gates
 gok:Ok q.gates 16
 tin:∀ t ∈ q.tubes,(∀ p ∈ t.ps,InR p.1)∧∀ g ∈ t.gs,InR g
 ain:∀ r ∈ q.asked,InR r.who
 din:∀ x ∈ keysOf q.due,InR x
 dl:q.due.length≤1000
theorem Sp.Well.next {q:Sp} (W:q.Well) {f:Frm} (h:nextB q.prog f=true):q.InsFit (nextI q.prog f)∧0≤f.pc∧f.pc < 1000000:=by
 unfold nextI
 rw [if_pos h]
 unfold nextB plB at h
 simp only [Bool.and_eq_true,decide_eq_true_eq] at h
 obtain ⟨⟨f0,f1⟩,p0,p1⟩:=h
 have hf:f.fn.toNat < q.prog.funcs.length:=by omega
 have ef:q.prog.funcs.getD f.fn.toNat []=q.prog.funcs[f.fn.toNat]:=by rw [List.getD_eq_getElem?_getD,List.getElem?_eq_getElem hf];rfl
 rw [ef] at p1 ⊢
 obtain ⟨c1,c2⟩:=W.code _ (List.getElem_mem hf)
 have hp:f.pc.toNat < (q.prog.funcs[f.fn.toNat]).length:=by omega
 rw [List.getD_eq_getElem?_getD,List.getElem?_eq_getElem hp]
 refine ⟨c2 _ (List.getElem_mem hp),p0,?_⟩
 have:(q.prog.funcs[f.fn.toNat]).length≤1000:=c1
 omega
end Dk
namespace Go.Proofs.YtpnajphbjfehnaaGreat
open Go.RowKit Go.Lib
section
variable {W w w' : World} {L : Dk.Loc} {q qa qz : Dk.Sp} {k k' n : Nat} {us us' us1 us2 : List Dk.Thing} {t : Dk.Thing} {ch : Int} {E : Dk.Eff}
theorem Ef0.mono {e:Ending} (hk:k≤k') (h:Ef0 W L qz k E us e w'):Ef0 W L qz k' E us e w':=by
 obtain ⟨A,C,he,h⟩:=h
 exact ⟨A,C,he,h.mono hk⟩
end
end Go.Proofs.YtpnajphbjfehnaaGreat
namespace Dk
structure Tame (q q':Sp) (n:Nat):Prop where
 recs:q'.recs=q.recs
 pc:(q'.thr n).f.pc=(q.thr n).f.pc
 regs:q.RegsOk→q'.RegsOk
theorem Tame.refl (q:Sp) (n:Nat):Tame q q n:=⟨rfl,rfl,id⟩
theorem Tame.thr {q q':Sp} {n:Nat} (h1:q'.recs=q.recs) (h2:q'.thr=q.thr):Tame q q' n:=⟨h1,by rw [h2],fun h m=>by rw [h2];exact h m⟩
theorem Tame.trans {q q' q2:Sp} {n:Nat} (h:Tame q q' n) (h':Tame q' q2 n):Tame q q2 n:=⟨h'.recs.trans h.recs,h'.pc.trans h.pc,fun r=>h'.regs (h.regs r)⟩
theorem Tame.setT (q:Sp) (n m:Nat) (th:Thr) (hi:th.ins=(q.thr m).ins) (hp:m=n→th.f.pc=(q.thr m).f.pc):Tame q (q.setT m th) n:=by
 refine ⟨rfl,?_,fun r=>r.setT m th (by rw [hi];exact r m)⟩
 unfold Sp.setT
 dsimp only
 by_cases e:n=m
 ·subst e
  rw [upd_same]
  exact hp rfl
 ·rw [upd_ne _ _ e]
theorem Tame.free (q:Sp) (n m:Nat):Tame q (q.free m) n:=Tame.thr rfl rfl
theorem Tame.reg (q:Sp) (n m a v:Nat):Tame q (q.setT m ((q.thr m).reg a v)) n:=Tame.setT q n m _ rfl fun _=>rfl
theorem Tame.begin (q:Sp) (n:Nat) (hu:us q.st n=true) (fn:Int) (w:Nat):Tame q (q.begin fn w).1 n:=by
 unfold Sp.begin
 split
 ·rename_i h
  refine Tame.trans (q':={ q with st:=taken q.st }) (Tame.thr rfl rfl) ⟨rfl,?_,fun r=>Sp.RegsOk.setT r _ _ ⟨0,by omega,rfl⟩⟩
  have hne:n≠least q.st:=fun e=>by
   have:=zbh h
   rw [← e,hu] at this
   cases this
  unfold Sp.setT
  dsimp only
  rw [upd_ne _ _ hne]
 ·exact Tame.refl _ _
theorem Tame.moved (n:Nat):∀ (l:List Int) (q:Sp),Tame q (q.moved l) n
 | [],q=>Tame.refl q n
 | x::l,q=>(Tame.setT q n x.toNat { q.thr x.toNat with why:=1 } rfl fun _=>rfl).trans (Tame.moved n l (q.setT x.toNat { q.thr x.toNat with why:=1 }))
theorem Tame.signal (q:Sp) (n m:Nat) (ch:Int) (all:Bool):Tame q (q.signal m ch all).1 n:=by
 unfold Sp.signal
 dsimp only
 exact Tame.trans (q':={ q with gates:=(q.gates.signal m ch all).1 }) (Tame.thr rfl rfl) (Tame.moved _ _ _)
section
variable {q : Sp} {n : Nat}
theorem Tame.deed (hu:us q.st n=true) (i:Ins) (ch:Int):Tame q (q.deed n i ch).1 n:=by
 unfold Sp.deed
 dsimp only
 split
 ·unfold Sp.spawn
  dsimp only
  split
  ·exact (Tame.begin q n hu _ _).trans (Tame.reg _ _ _ _ _)
  ·exact (Tame.begin q n hu _ _).trans (Tame.reg _ _ _ _ _)
 split
 ·exact Tame.reg _ _ _ _ _
 split
 ·unfold Sp.join
  dsimp only
  split
  ·split
   ·exact (Tame.reg _ _ _ _ _).trans (Tame.free _ _ _)
   ·exact Tame.setT _ _ _ _ rfl fun _=>rfl
  ·exact Tame.refl _ _
 split
 ·unfold Sp.detach
  dsimp only
  split
  ·split
   ·exact Tame.free _ _ _
   ·exact Tame.setT _ _ _ _ rfl fun _=>rfl
  ·exact Tame.refl _ _
 split
 ·unfold Sp.pass
  dsimp only
  repeat' split
  all_goals first
   | exact Tame.thr rfl rfl
   | exact Tame.signal _ _ _ _ _
 split
 ·unfold Sp.ask Sp.askW
  repeat' split
  all_goals exact Tame.thr rfl rfl
 split
 ·unfold Sp.ask Sp.askW
  repeat' split
  all_goals exact Tame.thr rfl rfl
 split
 ·unfold Sp.put Sp.putW
  dsimp only
  repeat' split
  all_goals exact Tame.thr rfl rfl
 split
 ·have hg:Tame q (q.getW n i.n).1 n:=by
   unfold Sp.getW
   dsimp only
   repeat' split
   all_goals exact Tame.thr rfl rfl
  unfold Sp.get
  dsimp only
  split
  ·exact hg.trans (Tame.reg _ _ _ _ _)
  ·exact hg
 split
 ·unfold Sp.sleep
  repeat' split
  all_goals exact Tame.thr rfl rfl
 split
 ·exact Tame.refl _ _
 ·exact Tame.refl _ _
end
theorem zgq (S:St) (who:Int) (n c:Nat) (ch:Int):(0≤(S.lock who n).2.2∧(S.lock who n).2.2 < 1000)∧(0≤(S.unlock who n ch).2.2.2∧(S.unlock who n ch).2.2.2 < 1000)∧(0≤(S.hold who c n ch).2.2.2∧(S.hold who c n ch).2.2.2 < 1000)∧(0≤(S.down who n).2.2∧(S.down who n).2.2 < 1000)∧(0≤(S.up n ch).2.2.2∧(S.up n ch).2.2.2 < 1000):=by
 refine ⟨?_,?_,?_,?_,?_⟩
 ·unfold St.lock;repeat' split
  all_goals exact ⟨by first | decide | (dsimp only;omega) | omega,by first | decide | (dsimp only;omega) | omega⟩
 ·unfold St.unlock;repeat' split
  all_goals exact ⟨by first | decide | (dsimp only;omega) | omega,by first | decide | (dsimp only;omega) | omega⟩
 ·unfold St.hold;repeat' split
  all_goals exact ⟨by first | decide | (dsimp only;omega) | omega,by first | decide | (dsimp only;omega) | omega⟩
 ·unfold St.down;repeat' split
  all_goals exact ⟨by first | decide | (dsimp only;omega) | omega,by first | decide | (dsimp only;omega) | omega⟩
 ·unfold St.up;repeat' split
  all_goals exact ⟨by first | decide | (dsimp only;omega) | omega,by first | decide | (dsimp only;omega) | omega⟩
structure Fine (d:Deed):Prop where
 res:0≤d.result∧d.result < 1000
 wk:∀ p ∈ d.woken,InR p.1
 wl:d.woken.length≤16
 bl:d.begun.length≤16
theorem Fine.none {x y:Nat} {r why:Int} (h:0≤r∧r < 1000):Fine ⟨x,y,r,why,[],[]⟩:=⟨h,fun p hp=>absurd hp (by simp),by simp,by simp⟩
theorem Fine.one {x y:Nat} {r why:Int} (h:0≤r∧r < 1000) {b:Bool} {who:Int} {w:Nat} (hw:InR who):Fine ⟨x,y,r,why,[],if b then [(who,w)] else []⟩:=by
 cases b
 ·exact Fine.none h
 ·exact ⟨h,fun p hp=>by rw [if_pos rfl,List.mem_singleton] at hp;rw [hp];exact hw,by simp,by simp⟩
theorem zgo (q:Sp) (n h:Nat):0≤(q.find n h).2∧(q.find n h).2 < 1000:=by
 unfold Sp.find
 repeat' split
 all_goals exact ⟨by first | decide | (dsimp only;omega) | omega,by first | decide | (dsimp only;omega) | omega⟩
theorem zkq {q:Sp} (W:q.Well) (m:Nat):(∀ p ∈ (q.tube m).ps,InR p.1)∧∀ g ∈ (q.tube m).gs,InR g:=by
 unfold Sp.tube
 rw [List.getD_eq_getElem?_getD]
 cases e:q.tubes[m]? with
 | none=>exact ⟨fun p hp=>absurd hp (by simp),fun p hp=>absurd hp (by simp)⟩
 | some t=>exact W.tin t (List.mem_of_getElem? e)
section
variable {q : Sp} {n : Nat}
theorem Fine.pass (W:q.Well) (hn:n < 16) (i:Ins) (ch:Int):Fine (q.pass n i ch).2:=by
 obtain ⟨g1,g2,g3,g4,g5⟩:=zgq q.gates n i.n i.n ch
 unfold Sp.pass
 dsimp only
 split
 ·exact Fine.none g1
 split
 ·exact Fine.one g2 (W.gin.unlock _ _ _).2
 split
 ·exact Fine.one (zgq q.gates n i.c.toNat i.n ch).2.2.1 (W.gin.hold (zb8 hn) _ _ _).2
 split
 ·exact Fine.none g4
 split
 ·exact Fine.one g5 (W.gin.up _ _).2
 ·obtain ⟨_,s2,_⟩:=W.gin.signal i.n ch (i.op == 29)
  have hl:=St.zh4 q.gates i.n ch (i.op == 29)
  have hc:(q.gates.conds.getD i.n []).length≤16:=by
   rw [List.getD_eq_getElem?_getD]
   cases e:q.gates.conds[i.n]? with
   | none=>simp
   | some x=>exact W.gok.condLen (List.mem_of_getElem? e)
  refine ⟨⟨by first | decide | (dsimp only;omega) | omega,by first | decide | (dsimp only;omega) | omega⟩,fun p hp=>?_,?_,by simp⟩
  ·obtain ⟨w,hw,rfl⟩:=List.mem_map.1 hp
   exact s2 w hw
  ·simp only [List.length_map]
   unfold Sp.signal
   dsimp only
   omega
theorem Fine.deed (W:q.Well) (hn:n < 16) (i:Ins) (ch:Int):Fine (q.deed n i ch).2:=by
 unfold Sp.deed
 dsimp only
 split
 ·unfold Sp.spawn
  dsimp only
  split
  ·exact ⟨⟨by first | decide | (dsimp only;omega) | omega,by first | decide | (dsimp only;omega) | omega⟩,fun p hp=>absurd hp (by simp),by simp,by simp⟩
  ·refine Fine.none ?_
   unfold Sp.begin
   split <;> exact ⟨by first | decide | (dsimp only;omega) | omega,by first | decide | (dsimp only;omega) | omega⟩
 split
 ·exact Fine.none ⟨by first | decide | (dsimp only;omega) | omega,by first | decide | (dsimp only;omega) | omega⟩
 split
 ·unfold Sp.join
  dsimp only
  split
  ·split <;> exact Fine.none ⟨by first | decide | (dsimp only;omega) | omega,by first | decide | (dsimp only;omega) | omega⟩
  ·exact Fine.none (zgo _ _ _)
 split
 ·unfold Sp.detach
  dsimp only
  split
  ·split <;> exact Fine.none ⟨by first | decide | (dsimp only;omega) | omega,by first | decide | (dsimp only;omega) | omega⟩
  ·exact Fine.none (zgo _ _ _)
 split
 ·exact Fine.pass W hn i ch
 split
 ·unfold Sp.ask Sp.askW
  repeat' split
  all_goals exact Fine.none ⟨by first | decide | (dsimp only;omega) | omega,by first | decide | (dsimp only;omega) | omega⟩
 split
 ·unfold Sp.ask Sp.askW
  repeat' split
  all_goals exact Fine.none ⟨by first | decide | (dsimp only;omega) | omega,by first | decide | (dsimp only;omega) | omega⟩
 split
 ·unfold Sp.put
  refine Fine.one ⟨by first | decide | (dsimp only;omega) | omega,by first | decide | (dsimp only;omega) | omega⟩ ?_
  have ht:=zkq W i.n
  unfold Sp.putW
  dsimp only
  split
  ·exact zr
  ·split
   ·rename_i g gs e
    exact ht.2 g (by rw [e];exact List.mem_cons_self ..)
   ·split <;> exact zr
 split
 ·unfold Sp.get
  dsimp only
  split
  ·refine Fine.one ⟨by first | decide | (dsimp only;omega) | omega,by first | decide | (dsimp only;omega) | omega⟩ ?_
   have ht:=zkq W i.n
   unfold Sp.getW
   dsimp only
   split
   ·exact zr
   ·split
    ·exact zr
    ·split
     ·exact zr
     ·rename_i p z ps e
      exact ht.1 (p,z) (by rw [e];exact List.mem_cons_self ..)
  ·exact Fine.none ⟨by first | decide | (dsimp only;omega) | omega,by first | decide | (dsimp only;omega) | omega⟩
 split
 ·unfold Sp.sleep
  repeat' split
  all_goals exact Fine.none ⟨by first | decide | (dsimp only;omega) | omega,by first | decide | (dsimp only;omega) | omega⟩
 split
 ·exact Fine.none ⟨by first | decide | (dsimp only;omega) | omega,by first | decide | (dsimp only;omega) | omega⟩
 ·exact Fine.none ⟨by first | decide | (dsimp only;omega) | omega,by first | decide | (dsimp only;omega) | omega⟩
theorem deedOk (W:q.Well) (hn:n < 16) (hu:us q.st n=true) (i:Ins) (ch:Int):q.DeedOk n i ch:=by
 obtain ⟨t1,t2,t3⟩:=Tame.deed hu i ch
 obtain ⟨f1,f2,f3,f4⟩:=Fine.deed W hn i ch
 exact ⟨t2,f1,f2,f3,f4,t3 W.regs,by rw [t1]⟩
end
open Go
structure Dims (q q':Sp):Prop where
 code:q'.code=q.code
 om:q'.gates.owner.length=q.gates.owner.length
 cv:q'.gates.conds.length=q.gates.conds.length
 ct:q'.gates.count.length=q.gates.count.length
 tb:q'.tubes.length=q.tubes.length
 bl:q'.blocks.length=q.blocks.length
 ml:q'.mem.length=q.mem.length
 sl:q'.st.length=q.st.length
theorem Dims.refl (q:Sp):Dims q q:=⟨rfl,rfl,rfl,rfl,rfl,rfl,rfl,rfl⟩
theorem Dims.trans {q q' q2:Sp} (h:Dims q q') (g:Dims q' q2):Dims q q2:=⟨g.code.trans h.code,g.om.trans h.om,g.cv.trans h.cv,g.ct.trans h.ct,g.tb.trans h.tb,g.bl.trans h.bl,g.ml.trans h.ml,g.sl.trans h.sl⟩
theorem Dims.setT (q:Sp) (n:Nat) (t:Thr):Dims q (q.setT n t):=⟨rfl,rfl,rfl,rfl,rfl,rfl,rfl,rfl⟩
theorem Dims.tell (q:Sp) (n:Nat) (r:Rec):Dims q (q.tell n r):=⟨rfl,rfl,rfl,rfl,rfl,rfl,rfl,rfl⟩
theorem Dims.free (q:Sp) (n:Nat):Dims q (q.free n):=⟨rfl,rfl,rfl,rfl,rfl,rfl,rfl,zjm _ _⟩
theorem Dims.begin (q:Sp) (fn:Int) (w:Nat):Dims q (q.begin fn w).1:=by
 unfold Sp.begin
 split
 ·exact ⟨rfl,rfl,rfl,rfl,rfl,rfl,rfl,by unfold Sp.setT taken put;exact List.length_set⟩
 ·exact Dims.refl q
theorem Dims.wake:∀ (l:List (Int × Nat)) (q:Sp),Dims q (q.wake l)
 | [],q=>Dims.refl q
 | p::l,q=>((Dims.setT q _ _).trans (Dims.tell _ _ _)).trans (Dims.wake l (q.wake1 p))
theorem Dims.moved:∀ (l:List Int) (q:Sp),Dims q (q.moved l)
 | [],q=>Dims.refl q
 | p::l,q=>(Dims.setT q _ _).trans (Dims.moved l (q.setT p.toNat { q.thr p.toNat with why:=1 }))
structure GLen (S S':St):Prop where
 om:S'.owner.length=S.owner.length
 cv:S'.conds.length=S.conds.length
 ct:S'.count.length=S.count.length
theorem GLen.refl (S:St):GLen S S:=⟨rfl,rfl,rfl⟩
theorem GLen.open (S:St) (n:Nat) (ch:Int):GLen S (S.open n ch).1:=by
 unfold St.open
 dsimp only
 split
 ·exact ⟨rfl,rfl,rfl⟩
 ·exact ⟨List.length_set,rfl,rfl⟩
theorem GLen.lock (S:St) (who:Int) (n:Nat):GLen S (S.lock who n).1:=by
 unfold St.lock
 split
 ·exact GLen.refl S
 ·split
  ·exact ⟨rfl,rfl,rfl⟩
  ·exact ⟨List.length_set,rfl,rfl⟩
theorem GLen.unlock (S:St) (who:Int) (n:Nat) (ch:Int):GLen S (S.unlock who n ch).1:=by
 unfold St.unlock
 split
 ·exact GLen.refl S
 ·exact GLen.open S n ch
theorem GLen.hold (S:St) (who:Int) (c n:Nat) (ch:Int):GLen S (S.hold who c n ch).1:=by
 unfold St.hold
 split
 ·exact GLen.refl S
 ·split
  ·exact GLen.refl S
  ·have h:=GLen.open S n ch
   exact ⟨h.om,List.length_set,h.ct⟩
theorem GLen.down (S:St) (who:Int) (n:Nat):GLen S (S.down who n).1:=by
 unfold St.down
 split
 ·exact GLen.refl S
 ·split
  ·exact ⟨rfl,rfl,List.length_set⟩
  ·exact ⟨rfl,rfl,rfl⟩
theorem GLen.up (S:St) (n:Nat) (ch:Int):GLen S (S.up n ch).1:=by
 unfold St.up
 split
 ·exact ⟨rfl,rfl,rfl⟩
 ·split
  ·exact GLen.refl S
  ·exact ⟨rfl,rfl,List.length_set⟩
theorem GLen.goes:∀ (r:List (Int × Int)) (S:St),GLen S (S.goes r).1
 | [],S=>GLen.refl S
 | p::r,S=>by
  have h1:GLen S (S.goes1 p).1:=by
   unfold St.goes1
   dsimp only
   split
   ·exact ⟨rfl,rfl,rfl⟩
   ·exact ⟨List.length_set,rfl,rfl⟩
  have h2:=GLen.goes r (S.goes1 p).1
  exact ⟨h2.om.trans h1.om,h2.cv.trans h1.cv,h2.ct.trans h1.ct⟩
theorem GLen.signal (S:St) (c:Nat) (ch:Int) (all:Bool):GLen S (S.signal c ch all).1:=by
 have h:=GLen.goes (S.told c ch all) { S with conds:=S.conds.set c (S.kept c ch all) }
 exact ⟨h.om,h.cv.trans List.length_set,h.ct⟩
theorem Dims.gates (q:Sp) {S:St} (h:GLen q.gates S):Dims q { q with gates:=S }:=⟨rfl,h.om,h.cv,h.ct,rfl,rfl,rfl,rfl⟩
theorem Dims.signal (q:Sp) (m:Nat) (ch:Int) (all:Bool):Dims q (q.signal m ch all).1:=by
 unfold Sp.signal
 dsimp only
 exact (Dims.gates q (GLen.signal q.gates m ch all)).trans (Dims.moved _ _)
theorem Dims.deed (q:Sp) (n:Nat) (i:Ins) (ch:Int):Dims q (q.deed n i ch).1:=by
 unfold Sp.deed
 dsimp only
 split
 ·unfold Sp.spawn
  dsimp only
  split <;> exact (Dims.begin q _ _).trans (Dims.setT _ _ _)
 split
 ·exact Dims.setT _ _ _
 split
 ·unfold Sp.join
  dsimp only
  split
  ·split
   ·exact (Dims.setT _ _ _).trans (Dims.free _ _)
   ·exact Dims.setT _ _ _
  ·exact Dims.refl _
 split
 ·unfold Sp.detach
  dsimp only
  split
  ·split
   ·exact Dims.free _ _
   ·exact Dims.setT _ _ _
  ·exact Dims.refl _
 split
 ·unfold Sp.pass
  dsimp only
  split
  ·exact Dims.gates q (GLen.lock _ _ _)
  split
  ·exact Dims.gates q (GLen.unlock _ _ _ _)
  split
  ·exact Dims.gates q (GLen.hold _ _ _ _ _)
  split
  ·exact Dims.gates q (GLen.down _ _ _)
  split
  ·exact Dims.gates q (GLen.up _ _ _)
  ·exact Dims.signal _ _ _ _
 split
 ·unfold Sp.ask Sp.askW
  repeat' split
  all_goals exact ⟨rfl,rfl,rfl,rfl,rfl,rfl,rfl,rfl⟩
 split
 ·unfold Sp.ask Sp.askW
  repeat' split
  all_goals exact ⟨rfl,rfl,rfl,rfl,rfl,rfl,rfl,rfl⟩
 split
 ·unfold Sp.put Sp.putW
  dsimp only
  repeat' split
  all_goals exact ⟨rfl,rfl,rfl,rfl,by simp,rfl,rfl,rfl⟩
 split
 ·have hg:Dims q (q.getW n i.n).1:=by
   unfold Sp.getW
   dsimp only
   repeat' split
   all_goals exact ⟨rfl,rfl,rfl,rfl,by simp,rfl,rfl,rfl⟩
  unfold Sp.get
  dsimp only
  split
  ·exact hg.trans (Dims.setT _ _ _)
  ·exact hg
 split
 ·unfold Sp.sleep
  repeat' split
  all_goals exact ⟨rfl,rfl,rfl,rfl,rfl,rfl,rfl,rfl⟩
 split
 ·exact Dims.refl _
 ·exact Dims.refl _
theorem Dims.act (q:Sp) (n:Nat) (i:Ins) (ch:Int):Dims q (q.act n i ch).1:=by
 unfold Sp.act
 dsimp only
 exact (((Dims.deed q n i ch).trans (Dims.setT _ _ _)).trans (Dims.tell _ _ _)).trans (Dims.wake _ _)
theorem Dims.fin (q:Sp) (n v:Nat):Dims q (q.fin n v).1:=by
 unfold Sp.fin
 split
 ·exact Dims.free _ _
 split
 ·exact (Dims.free _ _).trans (Dims.wake _ _)
 ·exact Dims.setT _ _ _
theorem Dims.exit (q:Sp) (n v:Nat):Dims q (q.exit n v).1:=(Dims.tell q n _).trans (Dims.fin _ n v)
theorem Dims.plain (q:Sp) (n:Nat) (i:Ins):Dims q (q.plain n i).1:=by
 have hs:∀ r,Dims q (if seenB i.op then q.tell n r else q):=fun r=>by
  split
  ·exact Dims.tell _ _ _
  ·exact Dims.refl _
 unfold Sp.plain
 dsimp only
 split
 ·exact (hs _).trans (Dims.fin _ _ _)
 ·obtain ⟨h1,h2,h3,h4,h5,h6,h7,h8⟩:=hs (Sp.access i (q.thr n).f (doneF (q.thr n).f i q.mem) 0)
  exact ⟨h1,h2,h3,h4,h5,h6,zbt _ _ _,h8⟩
theorem Dims.run (q:Sp) (slot ch:Int):Dims q (q.run slot ch).1:=by
 unfold Sp.run
 dsimp only
 split
 ·exact Dims.refl _
 split
 ·exact Dims.refl _
 split
 ·exact Dims.exit _ _ _
 split
 ·exact (Dims.setT _ _ _).trans (Dims.exit _ _ _)
 split
 ·exact Dims.plain _ _ _
 ·exact Dims.act _ _ _ _
theorem Dims.done (q:Sp) (k:Int):Dims q (q.done k).1:=by
 unfold Sp.done
 split
 ·exact Dims.refl _
 ·refine Dims.trans ?_ (Dims.wake _ _)
  refine ⟨rfl,rfl,rfl,rfl,rfl,?_,rfl,rfl⟩
  unfold Rq.left
  dsimp only
  split
  ·exact List.length_set
  ·rfl
open Go Go.RowKit Go.Lib Go.Proofs.YtpnajphbjfehnaaGreat
theorem ziz (op:Int) {a b:Nat} (ha:a < 18446744073709551616) (hb:b < 18446744073709551616):ariW op a b < 18446744073709551616:=by
 by_cases h:2≤op∧op≤15
 ·rcases zi0 h with rfl | rfl | rfl | rfl | rfl | rfl | rfl | rfl | rfl | rfl | rfl | rfl | rfl | rfl
  ·exact ha
  ·show (a+b) % 18446744073709551616 < _
   omega
  ·show (a+(18446744073709551616 - b)) % 18446744073709551616 < _
   omega
  ·show a*b % 18446744073709551616 < _
   exact Nat.mod_lt _ (by omega)
  ·show (if a < b then 1 else 0) < _
   split <;> omega
  ·exact nAdd_lt a b
  ·exact nSub_lt a b
  ·exact nMul_lt a b
  ·exact nDiv_lt a b
  ·show nMin a b < _
   unfold nMin
   split
   ·omega
   ·split <;> omega
  ·show nMax a b < _
   unfold nMax
   split
   ·omega
   ·split <;> omega
  ·show (if lt a b then 1 else 0) < _
   split <;> omega
  ·exact tI_lt a
  ·show tF a < _
   unfold tF
   split
   ·omega
   ·rename_i h0
    have hw:∀ (s:Bool) (m:Nat),m < 9218868437227405312→Ieee.double.word s m < 18446744073709551616:=fun s m hm=>by
     rw [word_eq]
     split <;> omega
    split
    ·exact hw _ _ (up_lt (by omega) (by omega))
    ·exact hw _ _ (up_lt (by omega) ha)
 ·rw [ariW_out h]
  omega
theorem wrap_i64 (x:Int):i64 (wrap64 x):=by
 unfold i64 wrap64
 omega
theorem Frm.ok.set {f:Frm} (h:f.ok) (k v:Nat) (hv:v < 18446744073709551616):(f.set k v).ok:=⟨h.fn,h.pc,fun j=>by
 unfold Frm.set
 dsimp only
 split
 ·exact hv
 ·exact h.r j⟩
theorem Frm.ok.to {f:Frm} (h:f.ok) (x:Int):(f.to (wrap64 x)).ok:=⟨h.fn,wrap_i64 x,h.r⟩
theorem zfk {m:List Nat} (h:∀ x ∈ m,x < 18446744073709551616) (k:Nat):m.getD k 0 < 18446744073709551616:=zjo (p:=fun x:Nat=>x < 18446744073709551616) h (by omega) k
theorem doneF_ok {f:Frm} (h:f.ok) {i:Ins} (hi:i.ok) {m:List Nat} (hm:∀ x ∈ m,x < 18446744073709551616):(doneF f i m).ok:=by
 unfold doneF
 split
 ·exact h.to _
 split
 ·split <;> exact h.to _
 split
 ·exact (h.to _).set _ _ hi.n
 split
 ·exact (h.to _).set _ _ (zfk hm _)
 split
 ·exact h.to _
 split
 ·exact (h.to _).set _ _ (ziz _ (h.r _) (by omega))
 ·exact (h.to _).set _ _ (ziz _ (h.r _) (h.r _))
structure ThrOk (t:Thr):Prop where
 a:∃ a:Nat,a < 8∧t.ins.a=a
 j:InR t.joiner
 f:t.f.ok
 v:t.value < 18446744073709551616
theorem ThrOk.reg {t:Thr} (h:ThrOk t) (k v:Nat) (hv:v < 18446744073709551616):ThrOk (t.reg k v):=⟨h.a,h.j,h.f.set k v hv,h.v⟩
theorem ThrOk.next {t:Thr} (h:ThrOk t):ThrOk t.next:=⟨h.a,h.j,h.f.to _,h.v⟩
theorem ThrOk.wake {t:Thr} (h:ThrOk t) (got:Nat) (hg:got < 18446744073709551616):ThrOk (t.wake got):=by
 refine ⟨h.a,h.j,?_,h.v⟩
 unfold Thr.wake
 dsimp only
 split
 ·exact (h.f.set _ _ hg).set _ _ (by omega)
 ·exact h.f.set _ _ (by omega)
theorem ThrOk.new (fn:Int) (hf:i64 fn) (w:Nat) (hw:w < 18446744073709551616):ThrOk (Thr.new fn w):=by
 refine ⟨⟨0,by omega,rfl⟩,zr,⟨hf,⟨by show _≤(0:Int);omega,by show (0:Int)≤_;omega⟩,fun k=>?_⟩,by show 0 < _;omega⟩
 show (if k=0 then w else 0) < _
 split
 ·exact hw
 ·omega
structure TuOk (N:Nat) (t:Tu):Prop where
 l:t.ws.length≤N∧t.ps.length≤N∧t.gs.length≤N
 w:∀ x ∈ t.ws,x < 18446744073709551616
 p:∀ p ∈ t.ps,InR p.1∧p.2 < 18446744073709551616
 g:∀ g ∈ t.gs,InR g
theorem TuOk.mono {N M:Nat} {t:Tu} (h:TuOk N t) (hN:N≤M):TuOk M t:=⟨⟨by have:=h.l.1;omega,by have:=h.l.2.1;omega,by have:=h.l.2.2;omega⟩,h.w,h.p,h.g⟩
structure Life (N:Nat) (q:Sp):Prop where
 thr:∀ m,ThrOk (q.thr m)
 tubes:∀ t ∈ q.tubes,TuOk N t
 asked:∀ r ∈ q.asked,InR r.who∧r.x < 18446744073709551616
 al:q.asked.length≤N
 due:∀ x ∈ keysOf q.due,InR x
 dl:q.due.length≤N
 mem:∀ x ∈ q.mem,x < 18446744073709551616
 blk:∀ x ∈ q.blocks,x < 18446744073709551616
section
variable {N M n : Nat} {q : Sp}
theorem Life.mono (h:Life N q) (hN:N≤M):Life M q:=⟨h.thr,fun t ht=>(h.tubes t ht).mono hN,h.asked,Nat.le_trans h.al hN,h.due,Nat.le_trans h.dl hN,h.mem,h.blk⟩
theorem Life.setT (h:Life N q) (n:Nat) {t:Thr} (ht:ThrOk t):Life N (q.setT n t):=by
 refine ⟨fun m=>?_,h.tubes,h.asked,h.al,h.due,h.dl,h.mem,h.blk⟩
 unfold Sp.setT upd
 dsimp only
 split
 ·exact ht
 ·exact h.thr m
theorem Life.tell (h:Life N q) (n:Nat) (r:Rec):Life N (q.tell n r):=⟨h.thr,h.tubes,h.asked,h.al,h.due,h.dl,h.mem,h.blk⟩
theorem Life.free (h:Life N q) (n:Nat):Life N (q.free n):=⟨h.thr,h.tubes,h.asked,h.al,h.due,h.dl,h.mem,h.blk⟩
theorem Life.gates (h:Life N q) (S:St):Life N { q with gates:=S }:=⟨h.thr,h.tubes,h.asked,h.al,h.due,h.dl,h.mem,h.blk⟩
theorem Life.wake:∀ (l:List (Int × Nat)) {q:Sp} (h:Life N q) (hl:∀ p ∈ l,p.2 < 18446744073709551616),Life N (q.wake l)
 | [],q,h,_=>h
 | p::l,q,h,hl=>Life.wake l ((h.setT _ ((h.thr _).wake p.2 (hl p (List.mem_cons_self ..)))).tell _ _) (fun x hx=>hl x (List.mem_cons_of_mem _ hx))
theorem Life.moved:∀ (l:List Int) {q:Sp} (h:Life N q),Life N (q.moved l)
 | [],q,h=>h
 | p::l,q,h=>Life.moved l (h.setT p.toNat (t:={ q.thr p.toNat with why:=1 }) ⟨(h.thr _).a,(h.thr _).j,(h.thr _).f,(h.thr _).v⟩)
theorem Life.begin (h:Life N q) (fn:Int) (hf:i64 fn) (w:Nat) (hw:w < 18446744073709551616):Life N (q.begin fn w).1:=by
 unfold Sp.begin
 split
 ·exact Life.setT (q:={ q with st:=taken q.st }) ⟨h.thr,h.tubes,h.asked,h.al,h.due,h.dl,h.mem,h.blk⟩ _ (ThrOk.new fn hf w hw)
 ·exact h
theorem Life.tube (h:Life N q) (m:Nat):TuOk N (q.tube m):=by
 unfold Sp.tube
 rw [List.getD_eq_getElem?_getD]
 cases e:q.tubes[m]? with
 | none=>exact ⟨⟨by simp,by simp,by simp⟩,fun x hx=>absurd hx (by simp),fun x hx=>absurd hx (by simp),fun x hx=>absurd hx (by simp)⟩
 | some t=>exact h.tubes t (List.mem_of_getElem? e)
theorem Life.setTube (h:Life N q) (hN:N≤M) (m:Nat) {t:Tu} (ht:TuOk M t):Life M { q with tubes:=q.tubes.set m t }:=by
 have h':=h.mono hN
 refine ⟨h'.thr,fun x hx=>?_,h'.asked,h'.al,h'.due,h'.dl,h'.mem,h'.blk⟩
 rcases List.mem_or_eq_of_mem_set hx with hx | rfl
 ·exact h'.tubes x hx
 ·exact ht
theorem Life.fin (h:Life N q) (n v:Nat) (hv:v < 18446744073709551616):Life N (q.fin n v).1:=by
 unfold Sp.fin
 split
 ·exact h.free n
 split
 ·exact Life.wake _ (h.free n) (fun p hp=>by rw [List.mem_singleton] at hp;rw [hp];exact hv)
 ·exact h.setT n ⟨(h.thr n).a,(h.thr n).j,(h.thr n).f,hv⟩
theorem Life.exit (h:Life N q) (n v:Nat) (hv:v < 18446744073709551616):Life N (q.exit n v).1:=(h.tell n _).fin n v hv
theorem Life.plain (h:Life N q) (n:Nat) {i:Ins} (hi:i.ok):Life N (q.plain n i).1:=by
 have hs:∀ r,Life N (if seenB i.op then q.tell n r else q):=fun r=>by
  split
  ·exact h.tell _ _
  ·exact h
 unfold Sp.plain
 dsimp only
 split
 ·exact (hs _).fin _ _ (by omega)
 ·have h1:=hs (Sp.access i (q.thr n).f (doneF (q.thr n).f i q.mem) 0)
  refine ⟨fun m=>?_,h1.tubes,h1.asked,h1.al,h1.due,h1.dl,Go.Proofs.YtpnajphbjfehnaaGreat.zgn (h.thr n).f h.mem,h1.blk⟩
  show ThrOk (upd q.thr n _ m)
  unfold upd
  split
  ·exact ⟨(h.thr n).a,(h.thr n).j,doneF_ok (h.thr n).f hi h.mem,(h.thr n).v⟩
  ·exact h.thr m
end
open Go Go.RowKit Go.Lib
theorem Sp.hnd_lt {q:Sp} {M:Nat} (h:Small M q.st) (hM:M≤100000) (h16:q.st.length=16) (n:Nat):q.hnd n < 18446744073709551616:=by
 unfold Sp.hnd
 split
 ·rename_i hu
  have:=zcm hu
  exact hd_lt h hM (by omega)
 ·omega
section
variable {N n : Nat} {q : Sp}
theorem Life.askW (h:Life N q) (hn:n < 16) (c:Bool) (x m:Nat) (b:Int) (hx:x < 18446744073709551616):Life (N+1) (q.askW n c x m b).1:=by
 have h':=h.mono (Nat.le_succ N)
 unfold Sp.askW
 split
 ·exact h'
 split
 ·exact h'
 ·refine ⟨h'.thr,h'.tubes,fun r hr=>?_,?_,h'.due,h'.dl,h'.mem,h'.blk⟩
  ·rcases List.mem_append.1 hr with hr | hr
   ·exact h'.asked r hr
   ·rw [List.mem_singleton] at hr
    rw [hr]
    exact ⟨zb8 hn,hx⟩
  ·have:=h.al
   simp only [List.length_append,List.length_singleton]
   omega
theorem Life.putW (h:Life N q) (hn:n < 16) (m y:Nat) (hy:y < 18446744073709551616):Life (N+1) (q.putW n m y).1:=by
 have h':=h.mono (Nat.le_succ N)
 have ht:=h.tube m
 obtain ⟨⟨l1,l2,l3⟩,tw,tp,tg⟩:=ht
 unfold Sp.putW
 dsimp only
 split
 ·exact h'
 split
 ·rename_i g gs e
  rw [e] at l3 tg
  simp only [List.length_cons] at l3
  exact h.setTube (Nat.le_succ N) m ⟨⟨by dsimp only;omega,by dsimp only;omega,by dsimp only;omega⟩,tw,tp,fun x hx=>tg x (List.mem_cons_of_mem _ hx)⟩
 split
 ·exact h.setTube (Nat.le_succ N) m ⟨⟨by simp;omega,by dsimp only;omega,by dsimp only;omega⟩,fun x hx=>by
   rcases List.mem_append.1 hx with hx | hx
   ·exact tw x hx
   ·rw [List.mem_singleton] at hx;rw [hx];exact hy,tp,tg⟩
 ·exact h.setTube (Nat.le_succ N) m ⟨⟨by dsimp only;omega,by simp;omega,by dsimp only;omega⟩,tw,fun x hx=>by
   rcases List.mem_append.1 hx with hx | hx
   ·exact tp x hx
   ·rw [List.mem_singleton] at hx;rw [hx];exact ⟨zb8 hn,hy⟩,tg⟩
theorem Life.getW (h:Life N q) (hn:n < 16) (m:Nat):Life (N+1) (q.getW n m).1∧(q.getW n m).2.1 < 18446744073709551616:=by
 have h':=h.mono (Nat.le_succ N)
 have ht:=h.tube m
 obtain ⟨⟨l1,l2,l3⟩,tw,tp,tg⟩:=ht
 unfold Sp.getW
 dsimp only
 split
 ·exact ⟨h',by dsimp only;omega⟩
 split
 ·exact ⟨h.setTube (Nat.le_succ N) m ⟨⟨by dsimp only;omega,by dsimp only;omega,by simp;omega⟩,tw,tp,fun x hx=>by
   rcases List.mem_append.1 hx with hx | hx
   ·exact tg x hx
   ·rw [List.mem_singleton] at hx;rw [hx];exact zb8 hn⟩,by dsimp only;omega⟩
 ·rename_i y ws e
  rw [e] at l1 tw
  simp only [List.length_cons] at l1
  have hy:=tw y (List.mem_cons_self ..)
  split
  ·exact ⟨h.setTube (Nat.le_succ N) m ⟨⟨by dsimp only;omega,by dsimp only;omega,by dsimp only;omega⟩,fun x hx=>tw x (List.mem_cons_of_mem _ hx),tp,tg⟩,hy⟩
  ·rename_i p z ps e2
   rw [e2] at l2 tp
   simp only [List.length_cons] at l2
   exact ⟨h.setTube (Nat.le_succ N) m ⟨⟨by simp;omega,by dsimp only;omega,by dsimp only;omega⟩,fun x hx=>by
    rcases List.mem_append.1 hx with hx | hx
    ·exact tw x (List.mem_cons_of_mem _ hx)
    ·rw [List.mem_singleton] at hx;rw [hx];exact (tp (p,z) (List.mem_cons_self ..)).2,fun x hx=>tp x (List.mem_cons_of_mem _ hx),tg⟩,hy⟩
theorem Life.sleep (h:Life N q) (hn:n < 16) (m:Nat):Life (N+1) (q.sleep n m).1:=by
 have h':=h.mono (Nat.le_succ N)
 unfold Sp.sleep
 split
 ·exact h'
 split
 ·exact h'
 split
 ·exact h'
 ·refine ⟨h'.thr,h'.tubes,h'.asked,h'.al,fun x hx=>?_,?_,h'.mem,h'.blk⟩
  ·unfold keysOf at hx
   rw [List.map_append] at hx
   rcases List.mem_append.1 hx with hx | hx
   ·exact h.due x hx
   ·rw [List.map_singleton,List.mem_singleton] at hx
    rw [hx]
    exact zb8 hn
  ·have:=h.dl
   simp only [List.length_append,List.length_singleton]
   omega
theorem Life.pass (h:Life N q) (n:Nat) (i:Ins) (ch:Int):Life N (q.pass n i ch).1:=by
 unfold Sp.pass
 dsimp only
 split
 ·exact h.gates _
 split
 ·exact h.gates _
 split
 ·exact h.gates _
 split
 ·exact h.gates _
 split
 ·exact h.gates _
 ·unfold Sp.signal
  dsimp only
  exact Life.moved _ (h.gates _)
theorem Life.deed {M:Nat} (h:Life N q) (hn:n < 16) (i:Ins) (ch:Int) (hs:Small M (q.deed n i ch).1.st) (hM:M≤100000) (h16:q.st.length=16):Life (N+1) (q.deed n i ch).1:=by
 have h':=h.mono (Nat.le_succ N)
 have hl:=(Dims.deed q n i ch).sl
 rw [h16] at hl
 revert hs hl
 unfold Sp.deed
 dsimp only
 split
 ·intro hs hl
  have hb:=h'.begin (wrap64 i.n) (wrap_i64 _) ((q.thr n).f.r i.b.toNat) ((h.thr n).f.r _)
  revert hs hl
  unfold Sp.spawn
  dsimp only
  split
  ·intro hs hl
   exact hb.setT n ((hb.thr n).reg _ _ (Sp.hnd_lt (q:=(q.begin (wrap64 i.n) ((q.thr n).f.r i.b.toNat)).1) hs hM hl _))
  ·intro hs hl
   exact hb.setT n ((hb.thr n).reg _ _ (by omega))
 split
 ·intro hs hl
  exact h'.setT n ((h.thr n).reg _ _ (Sp.hnd_lt (q:=q) hs hM h16 _))
 split
 ·intro hs hl
  unfold Sp.join
  dsimp only
  split
  ·split
   ·exact (h'.setT n ((h.thr n).reg _ _ (h.thr _).v)).free _
   ·exact h'.setT _ ⟨(h.thr _).a,zb8 hn,(h.thr _).f,(h.thr _).v⟩
  ·exact h'
 split
 ·intro hs hl
  unfold Sp.detach
  dsimp only
  split
  ·split
   ·exact h'.free _
   ·exact h'.setT _ ⟨(h.thr _).a,(h.thr _).j,(h.thr _).f,(h.thr _).v⟩
  ·exact h'
 split
 ·intro hs hl
  exact h'.pass n i ch
 split
 ·intro hs hl
  exact h.askW hn _ _ _ _ (by omega)
 split
 ·intro hs hl
  exact h.askW hn _ _ _ _ ((h.thr n).f.r _)
 split
 ·intro hs hl
  exact h.putW hn _ _ ((h.thr n).f.r _)
 split
 ·intro hs hl
  obtain ⟨g1,g2⟩:=h.getW hn i.n
  unfold Sp.get
  dsimp only
  split
  ·exact g1.setT n ((g1.thr n).reg _ _ g2)
  ·exact g1
 split
 ·intro hs hl
  exact h.sleep hn _
 split
 ·intro hs hl
  exact h'
 ·intro hs hl
  exact h'
def Got (l:List (Int × Nat)):Prop:=∀ p ∈ l,p.2 < 18446744073709551616
theorem Got.no {l:List (Int × Nat)} (e:l=[]):Got l:=fun p hp=>by rw [e] at hp;exact absurd hp (by simp)
theorem Got.one (b:Bool) (who:Int) (w:Nat) (hw:w < 18446744073709551616):Got (if b then [(who,w)] else []):=fun p hp=>by
 cases b
 ·exact absurd hp (by simp)
 ·rw [if_pos rfl,List.mem_singleton] at hp
  rw [hp]
  exact hw
theorem deed_got (h:Life N q) (i:Ins) (ch:Int):Got (q.deed n i ch).2.woken:=by
 unfold Sp.deed
 dsimp only
 split
 ·exact Got.no (Sp.zh6 _ _ _)
 split
 ·exact Got.no rfl
 split
 ·exact Got.no (Sp.zjp _ _ _).2
 split
 ·exact Got.no (Sp.zfz _ _ _).2
 split
 ·unfold Sp.pass
  dsimp only
  split
  ·exact Got.no rfl
  split
  ·exact Got.one _ _ _ (by omega)
  split
  ·exact Got.one _ _ _ (by omega)
  split
  ·exact Got.no rfl
  split
  ·exact Got.one _ _ _ (by omega)
  ·intro p hp
   obtain ⟨w,hw,rfl⟩:=List.mem_map.1 hp
   show 0 < _
   omega
 split
 ·exact Got.no (Sp.zgl _ _ _ _ _).2
 split
 ·exact Got.no (Sp.zgl _ _ _ _ _).2
 split
 ·exact Got.one _ _ _ ((h.thr n).f.r _)
 split
 ·unfold Sp.get
  dsimp only
  split
  ·exact Got.one _ _ _ (by omega)
  ·exact Got.no rfl
 split
 ·exact Got.no (Sp.zh5 _ _ _).2
 split
 ·exact Got.no rfl
 ·exact Got.no rfl
end
theorem Sp.act_st (q:Sp) (n:Nat) (i:Ins) (ch:Int):(q.act n i ch).1.st=(q.deed n i ch).1.st:=by
 unfold Sp.act
 dsimp only
 rw [Sp.wake_st]
 rfl
section
variable {N n M : Nat} {q : Sp}
theorem Life.act (h:Life N q) (hn:n < 16) (i:Ins) (ha:0≤i.a∧i.a < 8) (ch:Int) (hf:Fine (q.deed n i ch).2) (hs:Small M (q.act n i ch).1.st) (hM:M≤100000) (h16:q.st.length=16):Life (N+1) (q.act n i ch).1:=by
 rw [Sp.act_st] at hs
 have hd:=h.deed hn i ch hs hM h16
 have hg:=deed_got (n:=n) h i ch
 have hr:=hf.res
 unfold Sp.act
 dsimp only
 refine Life.wake _ (Life.tell (Life.setT hd n ?_) n _) hg
 by_cases hw:(q.deed n i ch).2.why=0
 ·rw [if_pos hw]
  exact (hd.thr n).next.reg _ _ (by omega)
 ·rw [if_neg hw]
  exact ⟨⟨i.a.toNat,by omega,by show i.a=_;omega⟩,(hd.thr n).j,(hd.thr n).next.f,(hd.thr n).v⟩
theorem Life.run (h:Life N q) (W:q.Well) (slot ch:Int) (hs:Small M (q.run slot ch).1.st) (hM:M≤100000):Life (N+1) (q.run slot ch).1:=by
 have h':=h.mono (Nat.le_succ N)
 unfold Sp.run at hs ⊢
 dsimp only at hs ⊢
 by_cases hu:q.usedB slot=false
 ·rw [if_pos hu]
  exact h'
 rw [if_neg hu] at hs ⊢
 by_cases hw:(q.thr slot.toNat).why≠0
 ·rw [if_pos hw]
  exact h'
 rw [if_neg hw] at hs ⊢
 by_cases hn:nextB q.prog (q.thr slot.toNat).f=false
 ·rw [if_pos hn]
  exact h'.exit _ _ (by omega)
 rw [if_neg hn] at hs ⊢
 obtain ⟨hf,_,_⟩:=W.next (f:=(q.thr slot.toNat).f) (by simpa using hn)
 by_cases h23:(nextI q.prog (q.thr slot.toNat).f).op=23
 ·rw [if_pos h23]
  exact (h'.setT _ (h.thr _).next).exit _ _ ((h.thr _).f.r _)
 rw [if_neg h23] at hs ⊢
 by_cases hc:classOf (nextI q.prog (q.thr slot.toNat).f).op=1
 ·rw [if_pos hc]
  exact h'.plain _ hf.ok
 rw [if_neg hc] at hs ⊢
 have h16:slot.toNat < 16:=by
  have hu':q.usedB slot=true:=by simpa using hu
  unfold Sp.usedB at hu'
  simp only [Bool.and_eq_true] at hu'
  have:=zcm hu'.2
  rw [W.h16] at this
  exact this
 exact h.act h16 _ hf.a0 ch (Fine.deed W h16 _ _) hs hM W.h16
theorem said_lt (h:Life N q) (r:Rq):r.said q.blocks < 18446744073709551616:=by
 unfold Rq.said
 split
 ·omega
 ·exact zfk h.blk _
theorem left_lt (h:Life N q) {r:Rq} (hr:r.x < 18446744073709551616):∀ x ∈ r.left q.blocks,x < 18446744073709551616:=by
 unfold Rq.left
 split
 ·intro x hx
  rcases List.mem_or_eq_of_mem_set hx with hx | rfl
  ·exact h.blk x hx
  ·exact hr
 ·exact h.blk
theorem Life.done (h:Life N q) (k:Int):Life N (q.done k).1:=by
 unfold Sp.done
 by_cases h0:q.asked.length=0
 ·rw [if_pos h0]
  exact h
 ·rw [if_neg h0]
  dsimp only
  have hr:(q.asked.getD (at_K k q.asked.length) Rq.zero).x < 18446744073709551616:=by
   rw [List.getD_eq_getElem?_getD]
   cases e:q.asked[at_K k q.asked.length]? with
   | none=>show 0 < _;omega
   | some r=>exact (h.asked r (List.mem_of_getElem? e)).2
  refine Life.wake _ ⟨h.thr,h.tubes,fun r hr=>h.asked r (List.mem_of_mem_eraseIdx hr),?_,h.due,h.dl,h.mem,left_lt h hr⟩ (fun p hp=>by
   rw [List.mem_singleton] at hp
   rw [hp]
   exact said_lt h _)
  have h1:=h.al
  have h2:=List.length_eraseIdx_le q.asked (at_K k q.asked.length)
  dsimp only
  omega
end
end Dk
namespace Go.Proofs.YtpnajphbjfehnaaGreat
open Go.RowKit Go.Lib
section
variable {W w w' : World} {L : Dk.Loc} {q q0 : Dk.Sp} {k N : Nat} {us : List Dk.Thing} {ch : Int}
theorem Cor.small (h:Cor W w L q k us):Dk.Small k q.st:=by
 obtain ⟨ks,hks,hT,_⟩:=h.slots
 exact hT.small.mono hks
structure Lives (W w:World) (L:Dk.Loc) (q0 q:Dk.Sp) (N k R:Nat) (us:List Dk.Thing):Prop where
 cor:Cor W w L q k us
 life:Dk.Life N q
 dims:Dk.Dims q0 q
 recs:q.recs.length≤R
end
end Go.Proofs.YtpnajphbjfehnaaGreat
namespace Dk
open Go Go.RowKit
theorem SlN.news {B:Nat} {w:World} {A:Option Addr} {L C:Nat} {xs:List Ins} (h:SlN B w A L C xs) (hl:0 < L):∃ b o,A=some ⟨b,o,none⟩∧b < B∧∀ j u,(xs.flatMap Ins.cells)[j]? = some u→w.cell? ((⟨b,o,none⟩:Addr).add j)=some u:=by
 obtain ⟨b,o,hA,hb,hc⟩:=h.cells hl
 refine ⟨b,o,hA,hb,fun j u hj=>?_⟩
 have hjl:j < L*5:=by
  have:=(List.getElem?_eq_some_iff.1 hj).1
  rw [zaj Ins.len,h.len] at this
  exact this
 obtain ⟨k,r,hk,hr,rfl⟩:∃ k r,k < L∧r < 5∧j=k*5+r:=⟨j / 5,j % 5,by omega,by omega,by omega⟩
 have hkx:k < xs.length:=by rw [h.len];exact hk
 rw [flat_get Ins.len xs k r xs[k] (List.getElem?_eq_getElem hkx) hr] at hj
 obtain ⟨c0,c1,c2,c3,c4⟩:=hc k hk
 rw [List.getD_eq_getElem?_getD,List.getElem?_eq_getElem hkx] at c0 c1 c2 c3 c4
 rw [Addr.add_lit]
 have hr5:r=0∨r=1∨r=2∨r=3∨r=4:=by omega
 rcases hr5 with rfl | rfl | rfl | rfl | rfl
 ·cases hj;exact c0
 ·cases hj;exact c1
 ·cases hj;exact c2
 ·cases hj;exact c3
 ·cases hj;exact c4
theorem ins_one (i:Ins):∀ v ∈ i.cells,v.oneCell'=true:=by
 intro v hv
 simp only [Ins.cells,List.mem_cons,List.not_mem_nil,or_false] at hv
 rcases hv with rfl | rfl | rfl | rfl | rfl <;> rfl
theorem Sep.merge {W w:World} {us ts:List Thing} {t:Thing} (h:Sep W w (us++ts)) (hh:t.holds w) (ho:∀ k,t.own k→∃ x ∈ ts,x.own k):Sep W w (us++[t]):=by
 have q:=Hid.out h
 have qp:=List.pairwise_append.1 q.apart
 refine ⟨fun x hx=>?_,List.pairwise_append.2 ⟨qp.1,List.pairwise_singleton _ _,fun x hx y hy k hk hyk=>?_⟩,q.up⟩
 ·rcases List.mem_append.1 hx with hx | hx
  ·exact q.all x (List.mem_append_left _ hx)
  ·rw [List.mem_singleton] at hx
   rw [hx]
   refine ⟨hh,fun k hk=>?_⟩
   obtain ⟨y,hy,hk'⟩:=ho k hk
   exact (q.all y (List.mem_append_right _ hy)).2 k hk'
 ·rw [List.mem_singleton] at hy
  rw [hy] at hyk
  obtain ⟨z,hz,hk'⟩:=ho k hyk
  exact qp.2.2 x hx z hz k hk hk'
def inners {α:Type} (e:TypeId) (s:Nat) (f:List α→List Value) (ps:List (Value × List α)):List Thing:=ps.map fun p=>rowOf e s p.1 p.2.length (f p.2)
theorem Sep.nest {W w:World} {us:List Thing} {α:Type} {eh e:TypeId} {s:Nat} {f:List α→List Value} {v:Value} {ps:List (Value × List α)} (h:Sep W w (us++rowOf eh 1 v ps.length (ps.map Prod.fst)::inners e s f ps)):Sep W w (us++[nestOf eh e s f v (ps.map Prod.fst) (ps.map Prod.snd)]):=by
 have q:=Hid.out h
 have qp:=(List.pairwise_append.1 q.apart).2.1
 refine Sep.merge h ⟨?_,by simp,fun i u xs hu hx=>?_,?_⟩ fun k hk=>?_
 ·have:=h.get (t:=rowOf eh 1 v ps.length (ps.map Prod.fst)) (by simp)
  rw [List.length_map]
  exact this
 ·rw [List.getElem?_map] at hu hx
  cases e0:ps[i]? with
  | none=>rw [e0] at hu;cases hu
  | some p=>
   rw [e0] at hu hx
   cases hu
   cases hx
   exact h.get (t:=rowOf e s p.1 p.2.length (f p.2)) (by
    refine List.mem_append_right _ (List.mem_cons_of_mem _ ?_)
    exact List.mem_map.2 ⟨p,List.mem_of_getElem? e0,rfl⟩)
 ·refine List.pairwise_cons.2 ⟨fun u hu k hk hk'=>?_,?_⟩
  ·obtain ⟨p,hp,rfl⟩:=List.mem_map.1 hu
   exact (List.pairwise_cons.1 qp).1 (rowOf e s p.1 p.2.length (f p.2)) (List.mem_map.2 ⟨p,hp,rfl⟩) k hk hk'
  ·have:=(List.pairwise_cons.1 qp).2
   unfold inners at this
   rw [List.pairwise_map] at this ⊢
   exact this
 ·rcases hk with hk | ⟨u,hu,hk⟩
  ·exact ⟨_,List.mem_cons_self ..,hk⟩
  ·obtain ⟨p,hp,rfl⟩:=List.mem_map.1 hu
   exact ⟨_,List.mem_cons_of_mem _ (List.mem_map.2 ⟨p,hp,rfl⟩),hk⟩
theorem zgv {W w w':World} {us ts:List Thing} (h:Sep W w us) (h':Sep w w' ts):Sep W w' (us++ts):=by
 have q:=Hid.out h
 have q':=Hid.out h'
 have qb:=Hid.out (h.below q'.up)
 refine ⟨fun t ht=>?_,List.pairwise_append.2 ⟨q.apart,q'.apart,fun x hx y hy k hk hyk=>?_⟩,qb.up⟩
 ·rcases List.mem_append.1 ht with ht | ht
  ·exact qb.all t ht
  ·exact ⟨(q'.all t ht).1,fun k hk=>Nat.le_trans q.up.size ((q'.all t ht).2 k hk)⟩
 ·have h1:=x.lt w (q.all x hx).1 k hk
  have h2:=(q'.all y hy).2 k hyk
  omega
end Dk
namespace Go.Proofs.YtpnajphbjfehnaaGreat
open Go.RowKit Go.Lib
theorem infoIns:(Tryz.prog.info? 75).map (fun i=>(i.zero,i.size,i.bytes))=some (some (.agg #[.int .i64 0,.int .i64 0,.int .i64 0,.int .i64 0,.int .u64 0]),5,40):=by kernel_rfl
theorem KIns:Dk.SlK Tryz.prog 71 75 (.agg #[.int .i64 0,.int .i64 0,.int .i64 0,.int .i64 0,.int .u64 0]) 5 40:=⟨Tryz.underlying71,infoIns,rfl,by decide,by decide⟩
theorem infoSlI:(Tryz.prog.info? 71).map (fun i=>(i.zero,i.size,i.bytes))=some (some (.slice none 0 0),1,24):=by kernel_rfl
theorem KSlI:Dk.SlK Tryz.prog 22 71 (.slice none 0 0) 1 24:=⟨Tryz.underlying22,infoSlI,rfl,by decide,by decide⟩
section
variable {W w w' : World} {us : List Dk.Thing}
def insCells (c:List Dk.Ins):List Value:=c.flatMap Dk.Ins.cells
theorem zie {B:Nat} {A:Option Addr} {L C:Nat} {xs:List Dk.Ins} (w:World) (h:Dk.SlN B w A L C xs) (hB:B≤w.heap.size) (hL:L≤1000) :
  Calls Tryz.prog 77 #[.slice A L C] w fun e w'=>∃ A' C',e=.returned (.slice A' L C')∧w'.ownsRow w.heap.size 75 5 (.slice A' L C') xs.length (insCells xs)∧Below w.heap.size w w':=by
 have hlen:=h.len
 cases A with
 | none=>
  have hL0:L=0:=by
   rcases Nat.eq_zero_or_pos L with h0 | h0
   ·exact h0
   ·obtain ⟨b,o,hA,_⟩:=h.cells h0
    cases hA
  subst hL0
  obtain rfl:xs=[]:=List.eq_nil_of_length_eq_zero hlen
  clear h hB
  have hq:∀ w,(binOp BinOp.eql 71 (.slice none 0 C) (.slice none 0 0)).run Tryz.prog w=.ok (.bool true) w:=fun w=>by kernel_rfl
  go_enter Tryz.func77,Tryz.ntmps77
  go_wp2_with fail
  go_ret
  exact ⟨none,0,rfl,World.ownsRow_nil _ _ _ _,Below.refl _ _⟩
 | some a=>
  obtain ⟨W1,e1⟩:∃ W1,W1=w.alloc (.cells #[] 75):=⟨_,rfl⟩
  have u1:Below w.heap.size w W1:=by rw [e1];exact Dk.zb (Below.refl _ _) _
  have o1:W1.ownsRow w.heap.size 75 5 (.slice (some ⟨w.heap.size,0,none⟩) 0 0) 0 []:=by rw [e1];exact World.ownsRow_lit w #[] 0 (Nat.le_refl _) (Nat.zero_le _) (by simp)
  have hn:∀ j u,(insCells xs)[j]? = some u→W1.cell? (a.add j)=some u:=fun j u hj=>by
   rcases Nat.eq_zero_or_pos L with h0 | h0
   ·subst h0
    obtain rfl:xs=[]:=List.eq_nil_of_length_eq_zero hlen
    simp [insCells] at hj
   ·obtain ⟨b,o,hA,hb,hc⟩:=h.news h0
    cases hA
    rw [u1.cell (by rw [Addr.add_lit];show b < _;omega)]
    exact hc j u hj
  obtain ⟨v',w',hr,ho,hg,hf,_⟩:=KIns.append w.heap.size 71 _ [] 0 W1 o1 a L C (insCells xs) (by unfold insCells;rw [Dk.zaj Dk.Ins.len,hlen]) hn (Dk.flat_all Dk.ins_one xs) (by omega) u1.size
  rw [Nat.zero_add,List.nil_append] at ho
  have u9:Below w.heap.size w w':=u1.grown hg u1.size (fun j hj=>(o1.lt j hj).1)
  obtain ⟨A',C',ev,_,_⟩:=Dk.zf ho
  subst ev
  have H1:Hid _:=e1.symm
  have HO:Hid (w'.ownsRow w.heap.size 75 5 (.slice A' L C') xs.length (insCells xs)):=by rw [hlen];exact ho
  clear h hn o1 e1 hg hf ho u1 hlen
  have hq:∀ w,(binOp BinOp.eql 71 (.slice (some a) L C) (.slice none 0 0)).run Tryz.prog w=.ok (.bool false) w:=fun w=>by kernel_rfl
  go_enter Tryz.func77,Tryz.ntmps77
  go_wp2_with (first | (rw [H1.out];clear H1) | (at_builtin;refine Lib.wpList_append_run _ rfl _ _ _ _ rfl _ _ rfl rfl _ _ hr ?_))
  go_ret
  exact ⟨A',C',rfl,HO.out,u9⟩
end
end Go.Proofs.YtpnajphbjfehnaaGreat
