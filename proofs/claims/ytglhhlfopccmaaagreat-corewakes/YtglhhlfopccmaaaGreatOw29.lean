import Derived.Test.YtglhhlfopccmaaaGreatOw28
import Derived.RegionTactic
import Derived.ChangeAlike
import Derived.BigRegion
set_option linter.unusedSimpArgs false
set_option linter.unusedVariables false
set_option linter.unnecessarySimpa false
set_option maxHeartbeats 8000000
set_option maxRecDepth 100000
namespace Dk
theorem Thr.zn2 (t:Thr) (a v:Nat) (h:a < 8):(t.reg a v).cells=t.cells.set (2+a) (.int .u64 (v:Nat)):=by
 have:a=0∨a=1∨a=2∨a=3∨a=4∨a=5∨a=6∨a=7:=by omega
 rcases this with rfl | rfl | rfl | rfl | rfl | rfl | rfl | rfl <;> rfl
end Dk
namespace Go.Proofs.YtglhhlfopccmaaaGreat
open Go.RowKit Go.Lib
section
variable {W w w' : World} {L : Dk.Loc} {q : Dk.Sp} {k n : Nat} {us us' us1 us2 : List Dk.Thing} {t : Dk.Thing}
theorem Cor.reg (h:Cor W w L q k us) (hn:n < 16) (a v:Nat) (ha:a < 8):Cor W (w.setCell ⟨L.b,10+n*20+2+a,none⟩ (.int .u64 (v:Nat))) L (q.setT n ((q.thr n).reg a v)) k us:=by
 have:=h.setT hn (2+a) (by omega) ((q.thr n).reg a v) (.int .u64 (v:Nat)) (Dk.Thr.zn2 _ a v ha)
 rw [← Nat.add_assoc] at this
 exact this
theorem goOn_any (h:Cor W w L q k us) (hn:n < 16) (a:Nat) (ha:a < 8) (ea:(q.thr n).ins.a=a) (got:Nat) :
  Calls Tryz.prog 101 #[.pointer (some ⟨L.b,10+n*20,none⟩),.int .u64 (got:Nat)] w fun e w'=>e=.returned (.tuple #[])∧Cor W w' L (q.setT n ((q.thr n).wake got)) k us:=by
 obtain ⟨W1,e1⟩:∃ W1,W1=w.setCell ⟨L.b,10+n*20+10,none⟩ (.int .i64 0):=⟨_,rfl⟩
 have c10:w.cell? ⟨L.b,10+n*20+10,none⟩=some (.int .i64 (q.thr n).why):=h.cellAt hn 10 (by omega)
 have f10:=h.frozenAt (10+n*20+10)
 have h1:=h.setT hn 10 (by omega) { q.thr n with why:=0 } (.int .i64 0) rfl
 rw [← e1] at h1
 have d11:W1.cell? ⟨L.b,10+n*20+11,none⟩=some (.int .i64 (q.thr n).ins.op):=by rw [h1.cellAt hn 11 (by omega)];simp [Dk.Sp.setT,Dk.upd_same,Dk.Thr.cells]
 have d12:W1.cell? ⟨L.b,10+n*20+12,none⟩=some (.int .i64 (a:Int)):=by rw [h1.cellAt hn 12 (by omega)];simp [Dk.Sp.setT,Dk.upd_same,Dk.Thr.cells,ea]
 have i1:(a:Int) < 8:=by omega
 have i2:(0:Int)≤(a:Int):=by omega
 have d9:W1.cell? ⟨L.b,10+n*20+9,none⟩=some (.int .u64 ((q.thr n).f.r 7:Nat)):=by rw [h1.cellAt hn 9 (by omega)];simp [Dk.Sp.setT,Dk.upd_same,Dk.Thr.cells]
 have e9:=h1.frozenAt (10+n*20+9)
 have ew:q.setT n ((q.thr n).wake got)=(q.setT n { q.thr n with why:=0 }).setT n ((if (q.thr n).ins.op=21∨(q.thr n).ins.op=33∨(q.thr n).ins.op=36 then ({ q.thr n with why:=0 }:Dk.Thr).reg a got else { q.thr n with why:=0 }).reg 7 0):=by
  unfold Dk.Sp.setT Dk.Thr.wake
  simp only [Dk.zc2]
  congr 2
  split
  ·rw [ea];rfl
  ·rfl
 rw [ew]
 have HE:Hid (w.setCell ⟨L.b,10+n*20+10,none⟩ (.int .i64 0)=W1):=e1.symm
 have et:(q.setT n { q.thr n with why:=0 }).thr n={ q.thr n with why:=0 }:=by simp [Dk.Sp.setT,Dk.upd_same]
 have H2:Hid (Cor W (W1.setCell ⟨L.b,10+n*20+2+7,none⟩ (.int .u64 0)) L ((q.setT n { q.thr n with why:=0 }).setT n (({ q.thr n with why:=0 }:Dk.Thr).reg 7 0)) k us):=by
  have:=h1.reg hn 7 0 (by omega)
  rw [et] at this
  exact this
 generalize hq1:q.setT n { q.thr n with why:=0 }=q1 at *
 generalize (q.thr n).ins.op=op at *
 generalize ht1:({ q.thr n with why:=0 }:Dk.Thr)=t1 at *
 clear e1 h ew hq1 ea ht1
 by_cases hop:op=21∨op=33∨op=36
 ·rw [if_pos hop]
  obtain ⟨W2,e2⟩:∃ W2,W2=W1.setCell ⟨L.b,10+n*20+2+a,none⟩ (.int .u64 (got:Nat)):=⟨_,rfl⟩
  have h2:=h1.reg hn a got ha
  rw [et,← e2] at h2
  have hc:W1.cell? ⟨L.b,10+n*20+2+a,none⟩=some (.int .u64 (t1.f.r a:Nat)):=by
   have:=h1.cellAt hn (2+a) (by omega)
   rw [et,← Nat.add_assoc] at this
   rw [this]
   have:a=0∨a=1∨a=2∨a=3∨a=4∨a=5∨a=6∨a=7:=by omega
   rcases this with rfl | rfl | rfl | rfl | rfl | rfl | rfl | rfl <;> rfl
  have hf:=h1.frozenAt (10+n*20+2+a)
  have h3:=h2.reg hn 7 0 (by omega)
  have et2:(q1.setT n (t1.reg a got)).thr n=t1.reg a got:=by simp [Dk.Sp.setT,Dk.upd_same]
  rw [et2] at h3
  have b9:W2.cell? ⟨L.b,10+n*20+9,none⟩=some (.int .u64 ((t1.reg a got).f.r 7:Nat)):=by rw [h2.cellAt hn 9 (by omega),et2];rfl
  have p9:=h2.frozenAt (10+n*20+9)
  have eq3:(q1.setT n (t1.reg a got)).setT n ((t1.reg a got).reg 7 0)=q1.setT n ((t1.reg a got).reg 7 0):=by unfold Dk.Sp.setT;simp only [Dk.zc2]
  rw [eq3] at h3
  have HR:Hid (Cor W (W2.setCell ⟨L.b,10+n*20+2+7,none⟩ (.int .u64 0)) L (q1.setT n ((t1.reg a got).reg 7 0)) k us):=h3
  have H3:Hid (W1.setCell ⟨L.b,10+n*20+2+a,none⟩ (.int .u64 (got:Nat))=W2):=e2.symm
  clear e2 h1 h2 h3 et et2 eq3 H2
  go_enter Tryz.func101,Tryz.ntmps101
  go_wp2_with (rw [HE.out];clear HE)
  all_goals go_region
  all_goals (go_wp2_with (rw [H3.out];clear H3))
  all_goals (go_end0;exact ⟨rfl,HR.out.below (Dk.zh (Below.refl _ _))⟩)
 ·rw [if_neg hop]
  obtain ⟨g1,g2,g3⟩:¬ op=21∧¬ op=33∧¬ op=36:=by omega
  clear h1 hop et
  go_enter Tryz.func101,Tryz.ntmps101
  go_wp2_with (rw [HE.out];clear HE)
  go_end0
  exact ⟨rfl,H2.out⟩
end
section
variable {W w w' : World} {L : Dk.Loc} {q : Dk.Sp} {k n : Nat} {us us' us1 us2 : List Dk.Thing} {t : Dk.Thing}
theorem Cor.hndLt (h:Cor W w L q k us) (hk:k≤100000) (n:Nat):q.hnd n < 18446744073709551616:=by
 obtain ⟨ks,hks,hT,_⟩:=h.slots
 unfold Dk.Sp.hnd
 split
 ·rename_i hu
  exact Dk.hd_lt hT.small (by omega) (Nat.lt_of_lt_of_le (Dk.zd8 hu) hT.small.1)
 ·omega
theorem zed (h:Cor W w L q k us) (hk:k≤100000) (n:Nat) :
  Calls Tryz.prog 119 #[.pointer (some ⟨L.b,0,none⟩),.int .i64 (n:Int)] w fun e w'=>e=.returned (.tuple #[])∧Cor W w' L (q.free n) k us:=by
 have h1:=h.below (Dk.zh (Below.refl _ _))
 have hlt:=h.hndLt hk n
 have K1:=zb6 h1 hk n
 have K2:Calls Tryz.prog 148 #[.pointer (some ⟨L.bt,0,none⟩),.int .u64 (q.hnd n:Nat)] w.drew fun e w'=>(∃ v,e=.returned v)∧Cor W w' L (q.free n) k us:=by
  obtain ⟨ks,hks,hT,hw⟩:=h1.slots
  refine (Free_any L.bt L.bs ks q.st (q.hnd n) w.drew hT (by omega) hlt).mono ?_
  rintro e w' ⟨rfl,hT',hg⟩
  exact ⟨⟨_,rfl⟩,hw w' ks _ k hT' hg hks (Nat.le_refl _)⟩
 have c9:=h1.slotPtr
 generalize q.hnd n=g at *
 generalize q.free n=qz at *
 clear h hlt
 go_enter Tryz.func119,Tryz.ntmps119
 go_wp2_with fail
 refine Dk.zf (S:=fun w'=>w'.cell? ⟨L.b,9,none⟩=some (.pointer (some ⟨L.bt,0,none⟩))) [0,1,2,3,4,5] [6,7] (by kernel_rfl) (by kernel_rfl) c9 ?_
 refine Dk.za (v:=.pointer (some ⟨L.b,0,none⟩)) rfl rfl (fun w' hw'=>by go_simp) ?_
 simp only [zD]
 refine Dk.za (v:=.pointer (some ⟨L.b,0,none⟩)) rfl rfl (fun w' hw'=>by go_simp) ?_
 simp only [zD]
 refine Dk.za (v:=.pointer (some ⟨L.b,9,none⟩)) rfl rfl (fun w' hw'=>by go_simp) ?_
 simp only [zD]
 refine Dk.za (v:=.pointer (some ⟨L.bt,0,none⟩)) rfl rfl (fun w' hw'=>by go_simp) ?_
 simp only [zD]
 refine Dk.za (v:=.pointer (some ⟨L.b,0,none⟩)) rfl rfl (fun w' hw'=>by go_simp) ?_
 simp only [zD]
 refine Dk.za (v:=.int .i64 (n:Int)) rfl rfl (fun w' hw'=>by go_simp) ?_
 simp only [zD]
 refine Dk.zax (f:=59) (args:=#[.pointer (some ⟨L.b,0,none⟩),.int .i64 (n:Int)]) rfl rfl (by go_simp) ?_
 refine K1.mono ?_
 rintro e w2 ⟨rfl,rfl⟩
 refine ⟨_,rfl,c9,?_⟩
 simp only [zD]
 refine Dk.zax (f:=148) (args:=#[.pointer (some ⟨L.bt,0,none⟩),.int .u64 (g:Nat)]) rfl rfl (by go_simp) ?_
 refine K2.mono ?_
 rintro e w2 ⟨⟨v,rfl⟩,h2⟩
 refine ⟨_,rfl,h2.slotPtr,?_⟩
 show NoPanic _ Exit.normal _ _
 refine NoPanic.normal ?_
 simp only [zD]
 clear K1 K2
 (try go_wp2_with fail)
 go_end0
 exact ⟨rfl,h2⟩
theorem zec (h:Cor W w L q k us) (hk:k≤100000) (h16:q.st.length=16) (own hd:Nat) (hh:hd < 18446744073709551616) :
  Calls Tryz.prog 152 #[.pointer (some ⟨L.b,0,none⟩),.int .i64 (own:Int),.int .u64 (hd:Nat)] w fun e w'=>e=.returned (.tuple #[.int .i64 (q.find own hd).1,.int .i64 (q.find own hd).2])∧w'=w:=by
 have c9:=h.slotPtr
 obtain ⟨ks,hks,hT,_⟩:=h.slots
 have K:=zgu L.bt L.bs ks q.st hd w hT (by omega) hh
 unfold Dk.Sp.find
 cases hf:Dk.find q.st hd with
 | none=>
  rw [hf] at K
  clear hf hT h
  go_enter Tryz.func152,Tryz.ntmps152
  go_wp2_with (go_at_call 182;refine K.mono ?_;rintro e w' ⟨rfl,rfl⟩)
  go_ret2
  exact ⟨rfl,rfl⟩
 | some m=>
  have hm:m < 16:=by have:=(Dk.zbo hf).2.2.1;omega
  rw [hf] at K
  have i1:(m:Int) < 16:=by omega
  have i2:(0:Int)≤(m:Int):=by omega
  have d17:w.cell? ⟨L.b,10+m*20+17,none⟩=some (.bool (q.thr m).det):=h.cellAt hm 17 (by omega)
  have d18:w.cell? ⟨L.b,10+m*20+18,none⟩=some (.bool (q.thr m).joined):=h.cellAt hm 18 (by omega)
  clear hf hT h
  dsimp only
  by_cases e1:m=own
  ·rw [if_pos (.inl e1)]
   have g1:(m:Int)=(own:Int):=by omega
   go_enter Tryz.func152,Tryz.ntmps152
   go_wp2_with (go_at_call 182;refine K.mono ?_;rintro e w' ⟨rfl,rfl⟩)
   go_ret2
   exact ⟨rfl,rfl⟩
  ·have g1:¬ (m:Int)=(own:Int):=by omega
   cases hd17:(q.thr m).det
   ·rw [hd17] at d17
    rw [if_neg (by simp [e1])]
    cases hd18:(q.thr m).joined
    ·rw [hd18] at d18
     simp only [Bool.false_eq_true,if_false]
     go_enter Tryz.func152,Tryz.ntmps152
     go_wp2_with (go_at_call 182;refine K.mono ?_;rintro e w' ⟨rfl,rfl⟩)
     go_ret2
     exact ⟨rfl,rfl⟩
    ·rw [hd18] at d18
     simp only [if_true]
     go_enter Tryz.func152,Tryz.ntmps152
     go_wp2_with (go_at_call 182;refine K.mono ?_;rintro e w' ⟨rfl,rfl⟩)
     go_ret2
     exact ⟨rfl,rfl⟩
   ·rw [hd17] at d17
    rw [if_pos (.inr rfl)]
    go_enter Tryz.func152,Tryz.ntmps152
    go_wp2_with (go_at_call 182;refine K.mono ?_;rintro e w' ⟨rfl,rfl⟩)
    go_ret2
    exact ⟨rfl,rfl⟩
end
end Go.Proofs.YtglhhlfopccmaaaGreat
namespace Dk
open Go Go.RowKit
theorem zny (L:Loc) (f:Nat→Thr) (vm vr:Value) {n o:Nat} (hn:n < 16) (t:Thr) (vs:List Value) (hl:o+vs.length≤20) (ht:∀ j,j < 20→t.cells[j]? = if o≤j∧j < o+vs.length then vs[j - o]? else (f n).cells[j]?) :
  putAt (L.body f vm vr).toArray (10+n*20+o) vs=(L.body (upd f n t) vm vr).toArray:=by
 apply Array.ext_getElem?
 intro j
 rw [zaz _ _ _ (by simp [zko];omega),List.getElem?_toArray,List.getElem?_toArray]
 by_cases h1:j < 10
 ·rw [if_neg (by omega),zbn _ _ _ _ h1,zbn _ _ _ _ h1]
 by_cases h2:j < 330
 ·obtain ⟨m,k,hm,hk,rfl⟩:∃ m k,m < 16∧k < 20∧j=10+m*20+k:=⟨(j - 10) / 20,(j - 10) % 20,by omega,by omega,by omega⟩
  rw [zda _ _ _ _ hm hk,zda _ _ _ _ hm hk]
  by_cases e:m=n
  ·subst e
   rw [upd_same,ht k hk]
   by_cases h3:o≤k∧k < o+vs.length
   ·rw [if_pos (by omega),if_pos h3]
    congr 1
    omega
   ·rw [if_neg (by omega),if_neg h3]
  ·rw [upd_ne _ _ e,if_neg (by omega)]
 ·obtain ⟨k,rfl⟩:∃ k,j=330+k:=⟨j - 330,by omega⟩
  rw [if_neg (by omega),zaq,zaq]
end Dk
namespace Go.Proofs.YtglhhlfopccmaaaGreat
open Go.RowKit Go.Lib
theorem zca (a b c d:Int) (n:Int):(#[.int .i64 a,.int .i64 b,.int .i64 c,.int .i64 d,.int .u64 n]:Array Value).all (·.oneCell')=true:=by simp [Value.oneCell']
theorem thr_all (fn word:Int):(#[.int .i64 fn,.int .i64 0,.int .u64 word,.int .u64 0,.int .u64 0,.int .u64 0,.int .u64 0,.int .u64 0,.int .u64 0,.int .u64 0,.int .i64 0,.int .i64 0,.int .i64 0,.int .i64 0,.int .i64 0,.int .u64 0,.int .u64 0,.bool false,.bool false,.int .i64 0]:Array Value).all (·.oneCell')=true:=by simp [Value.oneCell']
theorem sizeThr:(Tryz.prog.info? 114).map (·.size)=some 20:=by kernel_rfl
theorem sizeIns:(Tryz.prog.info? 112).map (·.size)=some 5:=by kernel_rfl
section
variable {W w w' : World} {L : Dk.Loc} {q : Dk.Sp} {k n : Nat} {us us' us1 us2 : List Dk.Thing} {t : Dk.Thing}
theorem Cor.there (h:Cor W w L q k us) (hn:n < 16) (o m:Nat) (hm:o+m≤20):w.there L.b (10+n*20+o) m:=fun j hj=>by
 refine ⟨?_,h.frozenAt _⟩
 have:=h.cellAt hn (o+j) (by omega)
 rw [← Nat.add_assoc] at this
 rw [this,List.getElem?_eq_getElem (by rw [Dk.Thr.len];omega)]
 rfl
theorem Cor.putO (h:Cor W w L q k us) (hn:n < 16) (o:Nat) (th:Dk.Thr) (vs:List Value) (hl:o+vs.length≤20) (ht:∀ j,j < 20→th.cells[j]? = if o≤j∧j < o+vs.length then vs[j - o]? else (q.thr n).cells[j]?):Cor W (w.setCells L.b (10+n*20+o) vs) L (q.setT n th) k us:=by
 obtain ⟨ks,kw,vm,vr,vz,td,tt,tg,h1,h2,h3,h4,h5,h6,h7,h8,h8',h9⟩:=Hid.out h
 refine ⟨ks,kw,vm,vr,vz,td,tt,tg,h1,h2,h3,h4,h5,h6,h7,h8,h8',?_⟩
 have hb:Dk.Box w L.b (L.body q.thr vm vr).toArray 118:=h9.box (by simp [parts,spBox])
 have hb':=Dk.Box.sets (w:=w) vs _ (10+n*20+o) w hb
 rw [Dk.zny L q.thr vm vr hn th vs hl ht] at hb'
 have ha:Dk.Away (fun j=>j=L.b) w (w.setCells L.b (10+n*20+o) vs):=Dk.Away.zad (Dk.zao (w:=w) (w':=w) vs (10+n*20+o) w (Dk.zdd w (some L.b))) (fun j hj=>.inl (Option.some.inj hj).symm)
 exact Dk.Sep.turn (us1:=us) (t':=spBox L (Dk.upd q.thr n th) vm vr) h9 ha hb' (fun j hj=>.inl hj)
theorem znw (h:Cor W w L q k us) (hn:n < 16) (why:Int) (i:Dk.Ins) :
  Calls Tryz.prog 98 #[.pointer (some ⟨L.b,10+n*20,none⟩),.int .i64 why,Dk.iv i] w fun e w'=>e=.returned (.tuple #[])∧Cor W w' L (q.setT n { q.thr n with why:=why,ins:=i }) k us:=by
 obtain ⟨W1,e1⟩:∃ W1,W1=w.alloc (.cells #[.int .i64 i.op,.int .i64 i.a,.int .i64 i.b,.int .i64 i.c,.int .u64 (i.n:Nat)] 112):=⟨_,rfl⟩
 have h1:=h.newBox e1
 obtain ⟨W2,e2⟩:∃ W2,W2=W1.setCell ⟨L.b,10+n*20+10,none⟩ (.int .i64 why):=⟨_,rfl⟩
 have c10:W1.cell? ⟨L.b,10+n*20+10,none⟩=some (.int .i64 (q.thr n).why):=h1.cellAt hn 10 (by omega)
 have f10:=h1.frozenAt (10+n*20+10)
 have h2:=h1.setT hn 10 (by omega) { q.thr n with why:=why } (.int .i64 why) rfl
 rw [← e2] at h2
 have b2:Dk.Box W2 w.heap.size #[.int .i64 i.op,.int .i64 i.a,.int .i64 i.b,.int .i64 i.c,.int .u64 (i.n:Nat)] 112:=h2.box (by simp)
 have b2c:=b2.cell
 have ht:W2.there L.b (10+n*20+11) 5:=h2.there hn 11 5 (by omega)
 have h3:=(h2.putO hn 11 { q.thr n with why:=why,ins:=i } [.int .i64 i.op,.int .i64 i.a,.int .i64 i.b,.int .i64 i.c,.int .u64 (i.n:Nat)] (by simp) (fun j hj=>by
  have:j=0∨j=1∨j=2∨j=3∨j=4∨j=5∨j=6∨j=7∨j=8∨j=9∨j=10∨j=11∨j=12∨j=13∨j=14∨j=15∨j=16∨j=17∨j=18∨j=19:=by omega
  rcases this with rfl | rfl | rfl | rfl | rfl | rfl | rfl | rfl | rfl | rfl | rfl | rfl | rfl | rfl | rfl | rfl | rfl | rfl | rfl | rfl <;> simp [Dk.Sp.setT,Dk.upd_same,Dk.Thr.cells])).drop
 have eq3:(q.setT n { q.thr n with why:=why }).setT n { q.thr n with why:=why,ins:=i }=q.setT n { q.thr n with why:=why,ins:=i }:=by unfold Dk.Sp.setT;simp only [Dk.zc2]
 rw [eq3] at h3
 have H1:Hid (w.alloc (.cells #[.int .i64 i.op,.int .i64 i.a,.int .i64 i.b,.int .i64 i.c,.int .u64 (i.n:Nat)] 112)=W1):=e1.symm
 have H2:Hid (W1.setCell ⟨L.b,10+n*20+10,none⟩ (.int .i64 why)=W2):=e2.symm
 have HT:Hid (W2.there L.b (10+n*20+11) 5):=ht
 have H3:Hid (Cor W (W2.setCells L.b (10+n*20+11) [.int .i64 i.op,.int .i64 i.a,.int .i64 i.b,.int .i64 i.c,.int .u64 (i.n:Nat)]) L (q.setT n { q.thr n with why:=why,ins:=i }) k us):=h3
 generalize q.setT n { q.thr n with why:=why,ins:=i }=qz at *
 clear h1 h2 h3 b2 e1 e2 ht h eq3
 go_enter Tryz.func98,Tryz.ntmps98
 go_wp2_with (first | (rw [H1.out];clear H1) | (rw [H2.out];clear H2) | (refine wpList_store_mid rfl 112 _ _ rfl L.b (10+n*20+11) #[.int .i64 i.op,.int .i64 i.a,.int .i64 i.b,.int .i64 i.c,.int .u64 (i.n:Nat)] rfl rfl HT.out sizeIns (zca _ _ _ _ _) ?_))
 go_end0
 exact ⟨rfl,H3.out⟩
theorem zer (h:Cor W w L q k us) (hk:k < 100000) (h16:q.st.length=16) (fn:Int) (word:Nat) :
  Calls Tryz.prog 50 #[.pointer (some ⟨L.b,0,none⟩),.int .i64 fn,.int .u64 (word:Nat)] w fun e w'=>e=.returned (.tuple #[.int .i64 (q.begin fn word).2.1,.int .i64 (q.begin fn word).2.2])∧Cor W w' L (q.begin fn word).1 (k+1) us:=by
 have c9:=h.slotPtr
 obtain ⟨ks,hks,hT,hw⟩:=h.slots
 unfold Dk.Sp.begin
 by_cases hl:Dk.least q.st < q.st.length
 ·rw [if_pos hl]
  have K:Calls Tryz.prog 78 #[.pointer (some ⟨L.bt,0,none⟩)] w fun e w'=>e=.returned (.tuple #[.int .i64 (Dk.least q.st:Nat),.int .u64 (Dk.hd (Dk.taken q.st) (Dk.least q.st):Nat),.int .i64 0])∧Cor W w' L { q with st:=Dk.taken q.st } (k+1) us:=by
   refine (zkj L.bt L.bs ks q.st w hT (by omega)).mono ?_
   rintro e w' (⟨_,rfl,hT',hg⟩ | ⟨hle,_⟩)
   ·exact ⟨rfl,hw w' (ks+1) _ (k+1) hT' hg (by omega) (by omega)⟩
   ·omega
  generalize hm:Dk.least q.st=m at *
  have hm16:m < 16:=by omega
  have i1:(m:Int) < 16:=by omega
  have i2:(0:Int)≤(m:Int):=by omega
  generalize Dk.hd (Dk.taken q.st) m=g at K
  generalize ({ q with st:=Dk.taken q.st }:Dk.Sp)=q1 at *
  clear hT hw h hl hm h16
  go_enter Tryz.func50,Tryz.ntmps50
  go_wp2_with fail
  refine K.mono ?_
  rintro e w1 ⟨rfl,h1⟩
  have HT:Hid (w1.there L.b (10+m*20) 20):=h1.there hm16 0 20 (by omega)
  have h2:=h1.putT hm16 (Dk.Thr.new fn word) (Dk.Thr.new fn word).cells (by rw [Dk.Thr.len];omega) (fun j hj=>by rw [if_pos (by rw [Dk.Thr.len];exact hj)])
  clear K c9 h1
  go_wp2_with (refine wpList_store_mid rfl 114 _ _ rfl L.b (10+m*20) #[.int .i64 fn,.int .i64 0,.int .u64 (word:Nat),.int .u64 0,.int .u64 0,.int .u64 0,.int .u64 0,.int .u64 0,.int .u64 0,.int .u64 0,.int .i64 0,.int .i64 0,.int .i64 0,.int .i64 0,.int .i64 0,.int .u64 0,.int .u64 0,.bool false,.bool false,.int .i64 0] rfl rfl HT.out sizeThr (thr_all _ _) ?_)
  go_ret2
  exact ⟨rfl,h2⟩
 ·rw [if_neg hl]
  have K:Calls Tryz.prog 78 #[.pointer (some ⟨L.bt,0,none⟩)] w fun e w'=>e=.returned (.tuple #[.int .i64 0,.int .u64 0,.int .i64 2])∧Cor W w' L q (k+1) us:=by
   refine (zkj L.bt L.bs ks q.st w hT (by omega)).mono ?_
   rintro e w' (⟨hle,_⟩ | ⟨_,rfl,hT',hg⟩)
   ·omega
   ·exact ⟨rfl,hw w' ks _ (k+1) hT' hg (by omega) (by omega)⟩
  clear hT hw h hl
  go_enter Tryz.func50,Tryz.ntmps50
  go_wp2_with fail
  refine K.mono ?_
  rintro e w1 ⟨rfl,h1⟩
  clear K c9
  go_wp2_with fail
  go_ret2
  exact ⟨rfl,h1⟩
end
end Go.Proofs.YtglhhlfopccmaaaGreat
namespace Dk
theorem Sp.zqn (q:Sp) (l:List (Int × Nat)) (p:Int × Nat):q.wake (l++[p])=(q.wake l).wake1 p:=by unfold Sp.wake;rw [List.foldl_append];rfl
theorem Sp.wake1_st (q:Sp) (p:Int × Nat):(q.wake1 p).st=q.st:=rfl
theorem Sp.wake_st (q:Sp):∀ l,(q.wake l).st=q.st:=by
 intro l
 unfold Sp.wake
 induction l generalizing q with
 | nil=>rfl
 | cons p r ih=>rw [List.foldl_cons,ih,Sp.wake1_st]
theorem Sp.zqm (q:Sp) (p:Int × Nat) (m:Nat):((q.wake1 p).thr m).ins=(q.thr m).ins:=by
 show (upd q.thr p.1.toNat _ m).ins=_
 unfold upd
 split
 ·rename_i h;rw [h];rfl
 ·rfl
theorem Sp.wake_ins (q:Sp) (m:Nat):∀ l,((q.wake l).thr m).ins=(q.thr m).ins:=by
 intro l
 unfold Sp.wake
 induction l generalizing q with
 | nil=>rfl
 | cons p r ih=>rw [List.foldl_cons,ih,Sp.zqm]
theorem Sp.zcj (q:Sp):∀ l,(q.wake l).recs.length=q.recs.length+l.length:=by
 intro l
 unfold Sp.wake
 induction l generalizing q with
 | nil=>rfl
 | cons p r ih=>rw [List.foldl_cons,ih];simp [Sp.wake1,Sp.tell,Sp.setT];omega
def Sp.RegsOk (q:Sp):Prop:=∀ n,∃ a:Nat,a < 8∧(q.thr n).ins.a=a
end Dk
namespace Go.Proofs.YtglhhlfopccmaaaGreat
open Go.RowKit Go.Lib
section
variable {W w w' : World} {L : Dk.Loc} {q : Dk.Sp} {k n : Nat} {us us' us1 us2 : List Dk.Thing} {t : Dk.Thing}
theorem Cor.appendK {ty e:TypeId} {z:Value} {s bytes n:Nat} {v:Value} {xs:List Value} (K:Dk.SlK Tryz.prog ty e z s bytes) (h:Cor W w L q k (us1++Dk.rowOf e s v n xs::us2)) (news:List Value) (hs:news.length=s) (hx:∀ u ∈ news,u.oneCell'=true) (hl:n≤10000) :
  ∃ v' w',(Builtin.append_ #[ty,ty] ty #[v,.slice (some ⟨w.heap.size,0,none⟩) 1 1]).run Tryz.prog (w.alloc (.cells news.toArray e))=.ok v' w'∧Cor W w' L q k (us1++Dk.rowOf e s v' (n+1) (xs++news)::us2)∧v'≠.slice none 0 0:=by
 obtain ⟨ks,kw,vm,vr,vs,td,tt,tg,h1,h2,h3,h4,h5,h6,h7,h8,h8',h9⟩:=Hid.out h
 rw [List.append_assoc,List.cons_append] at h9
 obtain ⟨v',w',hr,hs',hn⟩:=Dk.Sep.appendK K h9 news hs hx hl
 refine ⟨v',w',hr,⟨ks,kw,vm,vr,vs,td,tt,tg,h1,h2,h3,h4,h5,h6,h7,h8,h8',?_⟩,hn⟩
 rw [List.append_assoc,List.cons_append]
 exact hs'
theorem zdf (l:List (Int × Nat)) (A:Option Addr) (C:Nat) (h:Cor W w L q k (Dk.rowOf 147 2 (.slice A l.length C) l.length (Dk.prs l)::us)) (hk:k≤100000) (hr:q.RegsOk) (hl:∀ p ∈ l,Dk.InR p.1) (hm:q.recs.length+l.length≤90000) (hm2:l.length≤5000) :
  Calls Tryz.prog 69 #[.pointer (some ⟨L.b,0,none⟩),.slice A l.length C] w fun e w'=>∃ A' C',e=.returned (.slice A' l.length C')∧Cor W w' L (q.wake l) k (Dk.rowOf 3 1 (.slice A' l.length C') l.length (Dk.is (l.map Prod.fst))::Dk.rowOf 147 2 (.slice A l.length C) l.length (Dk.prs l)::us):=by
 obtain ⟨n,en⟩:∃ n,n=l.length:=⟨_,rfl⟩
 have h0:Cor W w L q k (Dk.rowOf 3 1 (.slice none 0 0) 0 (Dk.is [])::Dk.rowOf 147 2 (.slice A l.length C) l.length (Dk.prs l)::us):=h.addRow (Below.refl _ _) (World.ownsRow_nil _ _ _ _)
 have HL:Hid (n=l.length):=en
 have HI:Hid (∀ p ∈ l,Dk.InR p.1):=hl
 have HR:Hid q.RegsOk:=hr
 rw [← en] at h h0 ⊢
 clear hl hr en
 have hn5:n≤5000:=by rw [HL.out];exact hm2
 have HM:Hid (q.recs.length+n≤90000):=by rw [HL.out];exact hm
 clear hm hm2
 go_enter Tryz.func69,Tryz.ntmps69
 go_wp2
 go_loopw [5,11] (fun v i w'=>∃ (j:Nat) (A':Option Addr) (C':Nat),j≤n∧i=.int .i64 j∧v=.slice A' j C'∧Cor W w' L (q.wake (l.take j)) k (Dk.rowOf 3 1 (.slice A' j C') j (Dk.is ((l.take j).map Prod.fst))::Dk.rowOf 147 2 (.slice A n C) n (Dk.prs l)::us)) (fun v i w'=>n - (intOf i).toNat)
 case atStart=>exact ⟨0,none,0,Nat.zero_le _,rfl,rfl,h0⟩
 case round=>
  obtain ⟨j,A',C',hj,rfl,rfl,hC⟩:=hrel
  clear h h0
  by_cases hlt:j < n
  ·have hlt':j < l.length:=by have:=HL.out;omega
   obtain ⟨p,ep⟩:∃ p,l[j]? = some p:=⟨_,List.getElem?_eq_getElem hlt'⟩
   obtain ⟨m,hm,em⟩:∃ m:Nat,m < 16∧p.1=m:=by
    obtain ⟨q0,q1⟩:=HI.out p (List.mem_of_getElem? ep)
    exact ⟨p.1.toNat,by omega,(Int.toNat_of_nonneg q0).symm⟩
   obtain ⟨who,got⟩:=p
   dsimp only at em
   subst em
   have eg:l.getD j (0,0)=((m:Int),got):=by rw [List.getD_eq_getElem?_getD,ep];rfl
   have hrow:=hC.row (e:=147) (s:=2) (v:=.slice A n C) (m:=n) (xs:=Dk.prs l) (by simp)
   have hp:=Dk.zj1 l j hlt'
   rw [eg] at hp
   obtain ⟨g,C2,x2,ev,e1,e2,ex,ec,ef,_⟩:=Dk.zbb (k:=j*2) hrow (by omega)
   obtain ⟨g',C3,x3,ev',_,_,ex',ec',ef',_⟩:=Dk.zbb (k:=j*2+1) hrow (by omega)
   obtain rfl:A=some ⟨g,0,none⟩:=by injection ev
   obtain rfl:g=g':=by injection ev' with q1;injection q1 with q2;injection q2
   rw [hp.1] at ex
   rw [hp.2] at ex'
   cases ex
   cases ex'
   clear ev ev' hrow hp eg ef ef'
   obtain ⟨W1,f1⟩:∃ W1,W1=wr.alloc (.cells #[.int .i64 (m:Int),.int .u64 (got:Nat)] 147):=⟨_,rfl⟩
   have hC1:=hC.newBox f1
   have b1:Dk.Box W1 wr.heap.size #[.int .i64 (m:Int),.int .u64 (got:Nat)] 147:=hC1.box (by simp)
   have d0:W1.cell? ⟨wr.heap.size,0,none⟩=some (.int .i64 (m:Int)):=b1.cell 0
   have d1:W1.cell? ⟨wr.heap.size,1,none⟩=some (.int .u64 (got:Nat)):=b1.cell 1
   have i1:(m:Int) < 16:=by omega
   have i2:(0:Int)≤(m:Int):=by omega
   have F1:Hid (wr.alloc (.cells #[.int .i64 (m:Int),.int .u64 (got:Nat)] 147)=W1):=f1.symm
   have HC:Hid (Cor W W1 L (q.wake (l.take j)) k (Dk.boxOf wr.heap.size #[.int .i64 (m:Int),.int .u64 (got:Nat)] 147::Dk.rowOf 3 1 (.slice A' j C') j (Dk.is ((l.take j).map Prod.fst))::Dk.rowOf 147 2 (.slice (some ⟨g,0,none⟩) n C) n (Dk.prs l)::us)):=hC1
   have HP:Hid (l[j]? = some ((m:Int),got)):=ep
   clear f1 b1 hC hC1 ep
   go_wp2_with (rw [F1.out];clear F1)
   go_quiet (fail)
   go_wp2_with fail
   obtain ⟨a,ha,ea⟩:=HR.out m
   rw [← Dk.Sp.wake_ins q m (l.take j)] at ea
   have K:=goOn_any (HC.out.below (Dk.zx (Below.refl _ _) nq)) hm a ha ea got
   have hrl:=Dk.Sp.zcj q (l.take j)
   rw [List.length_take,Nat.min_eq_left (by have:=HL.out;omega)] at hrl
   have hrm:(q.wake (l.take j)).recs.length≤90000:=by have:=HM.out;omega
   have ew:q.wake (l.take (j+1))=((q.wake (l.take j)).setT m (((q.wake (l.take j)).thr m).wake got)).tell m ⟨0,((q.wake (l.take j)).thr m).ins.op,0,got,0,true⟩:=by
    rw [List.take_add_one,HP.out,Option.toList_some,Dk.Sp.zqn]
    rfl
   have es:Dk.is ((l.take (j+1)).map Prod.fst)=Dk.is ((l.take j).map Prod.fst)++[.int .i64 (m:Int)]:=by
    rw [List.take_add_one,HP.out,Option.toList_some]
    simp
   have EW:Hid _:=ew
   have ES:Hid _:=es
   have HRM:Hid ((q.wake (l.take j)).recs.length≤90000):=hrm
   generalize q.wake (l.take j)=qj at *
   generalize eQ:q.wake (l.take (j+1))=qj1 at *
   generalize Dk.is ((l.take j).map Prod.fst)=xs at *
   generalize eX:Dk.is ((l.take (j+1)).map Prod.fst)=xs1 at *
   have EQ:Hid _:=eQ
   have EX:Hid _:=eX
   clear eQ eX
   clear hrl hrm ew es ea ha d0 d1 ec ec' HC HP
   refine K.mono ?_
   rintro e w2 ⟨rfl,h2⟩
   clear K
   have eo:((qj.setT m ((qj.thr m).wake got)).thr m).ins.op=(qj.thr m).ins.op:=by unfold Dk.Sp.setT;dsimp only;rw [Dk.upd_same];rfl
   have h3:=h2.below (Dk.zh (Below.refl _ _))
   have b3:Dk.Box w2.drew wr.heap.size #[.int .i64 (m:Int),.int .u64 (got:Nat)] 147:=h3.box (by simp)
   have o3:w2.drew.cell? ⟨L.b,10+m*20+11,none⟩=some (.int .i64 (qj.thr m).ins.op):=by rw [h3.cellAt hm 11 (by omega),← eo];rfl
   have K2:=zct h3 hk m ⟨0,(qj.thr m).ins.op,0,got,0,true⟩ HRM.out
   rw [← EW.out] at K2
   have e11:(qj1.thr m).ins.op=(qj.thr m).ins.op:=by rw [EW.out];exact eo
   have E11:Hid _:=e11
   clear EW HRM h2 h3 eo e11
   generalize (qj.thr m).ins.op=op at *
   go_wp2_with fail
   refine Dk.zf (S:=fun w'=>Dk.Box w' wr.heap.size #[.int .i64 (m:Int),.int .u64 (got:Nat)] 147∧w'.cell? ⟨L.b,10+m*20+11,none⟩=some (.int .i64 op)) [0,1,2,3,4,5,6,7,8,9,10] [11] (by kernel_rfl) (by kernel_rfl) ⟨b3,o3⟩ ?_
   refine Dk.za (v:=.pointer (some ⟨L.b,0,none⟩)) rfl rfl (fun w' hw'=>by go_simp) ?_
   simp only [zD]
   refine Dk.za (v:=.pointer (some ⟨wr.heap.size,0,none⟩)) rfl rfl (fun w' hw'=>by go_simp) ?_
   simp only [zD]
   refine Dk.za (v:=.int .i64 (m:Int)) rfl rfl (fun w' hw'=>by have c:=hw'.1.cell 0;go_simp) ?_
   simp only [zD]
   refine Dk.za (v:=.pointer (some ⟨L.b,10+m*20,none⟩)) rfl rfl (fun w' hw'=>by go_simp) ?_
   simp only [zD]
   refine Dk.za (v:=.pointer (some ⟨L.b,10+m*20,none⟩)) rfl rfl (fun w' hw'=>by go_simp) ?_
   simp only [zD]
   refine Dk.za (v:=.pointer (some ⟨L.b,10+m*20+11,none⟩)) rfl rfl (fun w' hw'=>by go_simp) ?_
   simp only [zD]
   refine Dk.za (v:=.pointer (some ⟨L.b,10+m*20+11,none⟩)) rfl rfl (fun w' hw'=>by go_simp) ?_
   simp only [zD]
   refine Dk.za (v:=.int .i64 op) rfl rfl (fun w' hw'=>by have c:=hw'.2;go_simp) ?_
   simp only [zD]
   refine Dk.za (v:=.pointer (some ⟨wr.heap.size,1,none⟩)) rfl rfl (fun w' hw'=>by go_simp) ?_
   simp only [zD]
   refine Dk.za (v:=.int .u64 (got:Nat)) rfl rfl (fun w' hw'=>by have c:=hw'.1.cell 1;go_simp) ?_
   simp only [zD]
   refine Dk.za (v:=.agg #[.int .u64 0,.int .i64 op,.int .u64 0,.int .u64 (got:Nat),.int .i64 0,.bool true]) rfl rfl (fun w' hw'=>by go_simp) ?_
   simp only [zD]
   refine Dk.zax (f:=92) (args:=#[.pointer (some ⟨L.b,0,none⟩),.int .i64 (m:Int),.agg #[.int .u64 0,.int .i64 op,.int .u64 0,.int .u64 (got:Nat),.int .i64 0,.bool true]]) rfl rfl (by go_simp) ?_
   refine K2.mono ?_
   rintro e w4 ⟨rfl,h4⟩
   have b4:Dk.Box w4 wr.heap.size #[.int .i64 (m:Int),.int .u64 (got:Nat)] 147:=h4.box (by simp)
   have o4:w4.cell? ⟨L.b,10+m*20+11,none⟩=some (.int .i64 op):=by rw [h4.cellAt hm 11 (by omega),← E11.out];rfl
   refine ⟨_,rfl,⟨b4,o4⟩,?_⟩
   simp only [zD]
   rename_i hK
   refine hK _ _ ?_
   clear K2 b3 o3 o4 hK E11
   have d0:w4.cell? ⟨wr.heap.size,0,none⟩=some (.int .i64 (m:Int)):=b4.cell 0
   obtain ⟨v',w5,hrun,h5,_⟩:=Cor.appendK (us1:=[Dk.boxOf wr.heap.size #[.int .i64 (m:Int),.int .u64 (got:Nat)] 147]) K26T h4 [.int .i64 (m:Int)] rfl (by simp [Value.oneCell']) (by omega)
   rw [← ES.out] at h5
   obtain ⟨Av',Cv',ev',_,_⟩:=Dk.zc (h5.row (e:=3) (s:=1) (v:=v') (m:=j+1) (xs:=xs1) (by simp))
   subst ev'
   have h6:Cor W w5 L qj1 k (Dk.rowOf 3 1 (.slice Av' (j+1) Cv') (j+1) xs1::Dk.rowOf 147 2 (.slice (some ⟨g,0,none⟩) n C) n (Dk.prs l)::us):=h5.drop
   clear h4 h5 b4 ES
   go_wp2_with (at_builtin;refine Lib.wpList_append_run _ rfl _ _ _ _ rfl _ _ rfl rfl _ _ hrun ?_)
   go_roundw
   case rel=>exact ⟨j+1,Av',Cv',by omega,by go_num,rfl,by rw [EQ.out,EX.out];exact h6⟩
   case measure=>simp [intOf];omega
  ·obtain rfl:j=n:=by omega
   have z1:decide ((j:Int) < (j:Int))=false:=decide_eq_false (by omega)
   have hC':Cor W wr L (q.wake l) k (Dk.rowOf 3 1 (.slice A' j C') j (Dk.is (l.map Prod.fst))::Dk.rowOf 147 2 (.slice A j C) j (Dk.prs l)::us):=by
    have e:l.take j=l:=List.take_of_length_le (by have:=HL.out;omega)
    rw [e] at hC
    exact hC
   clear hC
   go_wp2_with fail
   go_ret
   exact ⟨A',C',rfl,hC'⟩
end
theorem sizeEff:(Tryz.prog.info? 68).map (·.size)=some 4:=by kernel_rfl
theorem zak (A:Option Addr) (n C:Nat) (a b c:Bool):(#[.slice A n C,.bool a,.bool b,.bool c]:Array Value).all (·.oneCell')=true:=by simp [Value.oneCell']
abbrev eff (A:Option Addr) (n C:Nat) (a b c:Bool):Value:=.agg #[.slice A n C,.bool a,.bool b,.bool c]
section
variable {W w w' : World} {L : Dk.Loc} {q : Dk.Sp} {k n : Nat} {us us' us1 us2 : List Dk.Thing} {t : Dk.Thing}
theorem Cor.lit {e:TypeId} {s m:Nat} {cs:Array Value} (h:Cor W w L q k us) (ew:w'=w.alloc (.cells cs e)) (hc:cs.size=m*s) (hm:m≤10000):Cor W w' L q k (Dk.rowOf e s (.slice (some ⟨w.heap.size,0,none⟩) m m) m cs.toList::us):=by
 subst ew
 refine h.addRow (Dk.zb (Below.refl _ _) _) ?_
 exact World.ownsRow_lit w cs m (Nat.le_refl _) (by unfold maxLen;omega) hc
theorem Cor.nil {e:TypeId} {s:Nat} (h:Cor W w L q k us):Cor W w L q k (Dk.rowOf e s (.slice none 0 0) 0 []::us):=h.addRow (Below.refl _ _) (World.ownsRow_nil _ _ _ _)
theorem fin_det (h:Cor W w L q k us) (hk:k≤100000) (hn:n < 16) (v:Nat) (hd:(q.thr n).det=true) :
  Calls Tryz.prog 93 #[.pointer (some ⟨L.b,0,none⟩),.int .i64 (n:Int),.int .u64 (v:Nat)] w fun e w'=>e=.returned (eff none 0 0 false true false)∧Cor W w' L (q.free n) k us:=by
 obtain ⟨W1,e1⟩:∃ W1,W1=w.alloc (.cells #[.slice none 0 0,.bool false,.bool false,.bool false] 68):=⟨_,rfl⟩
 have h1:=h.newBox e1
 have d17:W1.cell? ⟨L.b,10+n*20+17,none⟩=some (.bool true):=by rw [h1.cellAt hn 17 (by omega),← hd];rfl
 have K:=zed h1 hk n
 have i1:(n:Int) < 16:=by omega
 have i2:(0:Int)≤(n:Int):=by omega
 have H1:Hid (w.alloc (.cells #[.slice none 0 0,.bool false,.bool false,.bool false] 68)=W1):=e1.symm
 clear h h1 e1 hd
 go_enter Tryz.func93,Tryz.ntmps93
 go_wp2_with (rw [H1.out];clear H1)
 refine K.mono ?_
 rintro e w2 ⟨rfl,h2⟩
 have b2:Dk.Box w2 w.heap.size #[.slice none 0 0,.bool false,.bool false,.bool false] 68:=h2.box (by simp)
 have h3:=(h2.setRow (cs':=#[.slice none 0 0,.bool false,.bool true,.bool false]) rfl).drop
 have d0:=(b2.row (cs':=#[.slice none 0 0,.bool false,.bool true,.bool false])).cell
 have HB:Hid (Dk.Box w2 w.heap.size #[.slice none 0 0,.bool false,.bool false,.bool false] 68):=b2
 clear K d17 h2 b2
 go_wp2_with (refine wpList_store_row rfl 68 _ _ rfl w.heap.size #[.slice none 0 0,.bool false,.bool true,.bool false] rfl rfl 68 _ HB.out.heap sizeEff rfl (zak _ _ _ _ _ _) ?_)
 exact bodyPost_ret (v:=eff none 0 0 false true false) (by simp [results,Tryz.results93,go_sem,d0]) rfl ⟨rfl,h3⟩
theorem fin_none (h:Cor W w L q k us) (hk:k≤100000) (hn:n < 16) (v:Nat) (hd:(q.thr n).det=false) (hj:(q.thr n).joined=false) :
  Calls Tryz.prog 93 #[.pointer (some ⟨L.b,0,none⟩),.int .i64 (n:Int),.int .u64 (v:Nat)] w fun e w'=>e=.returned (eff none 0 0 false true false)∧Cor W w' L (q.setT n { q.thr n with why:=9,value:=v }) k us:=by
 obtain ⟨W1,e1⟩:∃ W1,W1=w.alloc (.cells #[.slice none 0 0,.bool false,.bool false,.bool false] 68):=⟨_,rfl⟩
 have h1:=h.newBox e1
 have d17:W1.cell? ⟨L.b,10+n*20+17,none⟩=some (.bool false):=by rw [h1.cellAt hn 17 (by omega),← hd];rfl
 have d18:W1.cell? ⟨L.b,10+n*20+18,none⟩=some (.bool false):=by rw [h1.cellAt hn 18 (by omega),← hj];rfl
 have d10:W1.cell? ⟨L.b,10+n*20+10,none⟩=some (.int .i64 (q.thr n).why):=h1.cellAt hn 10 (by omega)
 have f10:=h1.frozenAt (10+n*20+10)
 obtain ⟨W2,e2⟩:∃ W2,W2=W1.setCell ⟨L.b,10+n*20+10,none⟩ (.int .i64 9):=⟨_,rfl⟩
 have h2:=h1.setT hn 10 (by omega) { q.thr n with why:=9 } (.int .i64 9) rfl
 rw [← e2] at h2
 have d16:W2.cell? ⟨L.b,10+n*20+16,none⟩=some (.int .u64 ((q.thr n).value:Nat)):=by rw [h2.cellAt hn 16 (by omega)];simp [Dk.Sp.setT,Dk.upd_same,Dk.Thr.cells]
 have f16:=h2.frozenAt (10+n*20+16)
 obtain ⟨W3,e3⟩:∃ W3,W3=W2.setCell ⟨L.b,10+n*20+16,none⟩ (.int .u64 (v:Nat)):=⟨_,rfl⟩
 have h3:=h2.setT hn 16 (by omega) { q.thr n with why:=9,value:=v } (.int .u64 (v:Nat)) (by simp [Dk.Sp.setT,Dk.upd_same,Dk.Thr.cells])
 have eq3:(q.setT n { q.thr n with why:=9 }).setT n { q.thr n with why:=9,value:=v }=q.setT n { q.thr n with why:=9,value:=v }:=by unfold Dk.Sp.setT;simp only [Dk.zc2]
 rw [← e3,eq3] at h3
 have b3:Dk.Box W3 w.heap.size #[.slice none 0 0,.bool false,.bool false,.bool false] 68:=h3.box (by simp)
 have h4:=(h3.setRow (cs':=#[.slice none 0 0,.bool false,.bool true,.bool false]) rfl).drop
 have i1:(n:Int) < 16:=by omega
 have i2:(0:Int)≤(n:Int):=by omega
 have H1:Hid (w.alloc (.cells #[.slice none 0 0,.bool false,.bool false,.bool false] 68)=W1):=e1.symm
 have H2:Hid (W1.setCell ⟨L.b,10+n*20+10,none⟩ (.int .i64 9)=W2):=e2.symm
 have H3:Hid (W2.setCell ⟨L.b,10+n*20+16,none⟩ (.int .u64 (v:Nat))=W3):=e3.symm
 have HB:Hid (Dk.Box W3 w.heap.size #[.slice none 0 0,.bool false,.bool false,.bool false] 68):=b3
 clear h h1 h2 h3 e1 e2 e3 hd hj eq3 b3
 go_enter Tryz.func93,Tryz.ntmps93
 go_wp2_with (first | (rw [H1.out];clear H1) | (rw [H2.out];clear H2) | (rw [H3.out];clear H3) | (refine wpList_store_row rfl 68 _ _ rfl w.heap.size #[.slice none 0 0,.bool false,.bool true,.bool false] rfl rfl 68 _ HB.out.heap sizeEff rfl (zak _ _ _ _ _ _) ?_))
 have d0:=(HB.out.row (cs':=#[.slice none 0 0,.bool false,.bool true,.bool false])).cell
 exact bodyPost_ret (v:=eff none 0 0 false true false) (by simp [results,Tryz.results93,go_sem,d0]) rfl ⟨rfl,h4⟩
theorem fin_join (h:Cor W w L q k us) (hk:k≤100000) (hn:n < 16) (v:Nat) (hd:(q.thr n).det=false) (hj:(q.thr n).joined=true) (hr:q.RegsOk) (hi:Dk.InR (q.thr n).joiner) (hl:q.recs.length≤80000) :
  Calls Tryz.prog 93 #[.pointer (some ⟨L.b,0,none⟩),.int .i64 (n:Int),.int .u64 (v:Nat)] w fun e w'=>∃ A C,e=.returned (eff A 1 C false true false)∧Cor W w' L ((q.free n).wake [((q.thr n).joiner,v)]) k (Dk.rowOf 3 1 (.slice A 1 C) 1 (Dk.is [(q.thr n).joiner])::us):=by
 obtain ⟨W1,e1⟩:∃ W1,W1=w.alloc (.cells #[.slice none 0 0,.bool false,.bool false,.bool false] 68):=⟨_,rfl⟩
 have h1:=h.newBox e1
 have d17:W1.cell? ⟨L.b,10+n*20+17,none⟩=some (.bool false):=by rw [h1.cellAt hn 17 (by omega),← hd];rfl
 have d18:W1.cell? ⟨L.b,10+n*20+18,none⟩=some (.bool true):=by rw [h1.cellAt hn 18 (by omega),← hj];rfl
 have K:=zed h1 hk n
 have i1:(n:Int) < 16:=by omega
 have i2:(0:Int)≤(n:Int):=by omega
 have H1:Hid (w.alloc (.cells #[.slice none 0 0,.bool false,.bool false,.bool false] 68)=W1):=e1.symm
 have et:((q.free n).thr n).joiner=(q.thr n).joiner:=rfl
 have hr':(q.free n).RegsOk:=hr
 have hl':(q.free n).recs.length≤80000:=hl
 generalize q.free n=qf at *
 generalize (q.thr n).joiner=jn at *
 clear h h1 e1 hd hj hr hl
 go_enter Tryz.func93,Tryz.ntmps93
 go_wp2_with (rw [H1.out];clear H1)
 refine K.mono ?_
 rintro e w2 ⟨rfl,h2⟩
 have d19:w2.cell? ⟨L.b,10+n*20+19,none⟩=some (.int .i64 jn):=by rw [h2.cellAt hn 19 (by omega),← et];rfl
 obtain ⟨W3,e3⟩:∃ W3,W3=w2.alloc (.cells #[.int .i64 jn,.int .u64 (v:Nat)] 147):=⟨_,rfl⟩
 have h3:=h2.lit (s:=2) (m:=1) e3 rfl (by omega)
 have K2:=zdf [(jn,v)] (some ⟨w2.heap.size,0,none⟩) 1 h3 hk hr' (fun p hp=>by rw [List.mem_singleton] at hp;rw [hp];exact hi) (by simp;omega) (by simp)
 have H3:Hid (w2.alloc (.cells #[.int .i64 jn,.int .u64 (v:Nat)] 147)=W3):=e3.symm
 clear K d17 d18 h2 h3 e3 et hr' hl'
 go_wp2_with (rw [H3.out];clear H3)
 refine K2.mono ?_
 rintro e w4 ⟨A',C',rfl,h4⟩
 have h5:=h4.swap.drop.swap
 have b5:Dk.Box w4 w.heap.size #[.slice none 0 0,.bool false,.bool false,.bool false] 68:=h5.box (by simp)
 have h6:=(h5.setRow (cs':=#[.slice A' 1 C',.bool false,.bool true,.bool false]) rfl).drop
 have d0:=(b5.row (cs':=#[.slice A' 1 C',.bool false,.bool true,.bool false])).cell
 have HB:Hid (Dk.Box w4 w.heap.size #[.slice none 0 0,.bool false,.bool false,.bool false] 68):=b5
 clear K2 h4 h5 b5 d19
 go_wp2_with (refine wpList_store_row rfl 68 _ _ rfl w.heap.size #[.slice A' 1 C',.bool false,.bool true,.bool false] rfl rfl 68 _ HB.out.heap sizeEff rfl (zak _ _ _ _ _ _) ?_)
 exact bodyPost_ret (v:=eff A' 1 C' false true false) (by simp [results,Tryz.results93,go_sem,d0]) rfl ⟨A',C',rfl,h6⟩
theorem zor (h:Cor W w L q k us) (hk:k≤100000) (hn:n < 16) (v:Nat) (hr:q.RegsOk) (hi:∀ m,Dk.InR (q.thr m).joiner) (hl:q.recs.length≤80000) :
  Calls Tryz.prog 93 #[.pointer (some ⟨L.b,0,none⟩),.int .i64 (n:Int),.int .u64 (v:Nat)] w fun e w'=>∃ A C,e=.returned (eff A (q.fin n v).2.woken.length C false true false)∧Cor W w' L (q.fin n v).1 k (Dk.rowOf 3 1 (.slice A (q.fin n v).2.woken.length C) (q.fin n v).2.woken.length (Dk.is (q.fin n v).2.woken)::us):=by
 unfold Dk.Sp.fin
 cases hd:(q.thr n).det
 ·cases hj:(q.thr n).joined
  ·simp only [Bool.false_eq_true,if_false]
   refine (fin_none h hk hn v hd hj).mono ?_
   rintro e w' ⟨rfl,h'⟩
   exact ⟨none,0,rfl,h'.nil⟩
  ·simp only [Bool.false_eq_true,if_false,if_true]
   refine (fin_join h hk hn v hd hj hr (hi n) hl).mono ?_
   rintro e w' ⟨A,C,rfl,h'⟩
   exact ⟨A,C,rfl,h'⟩
 ·simp only [if_true]
  refine (fin_det h hk hn v hd).mono ?_
  rintro e w' ⟨rfl,h'⟩
  exact ⟨none,0,rfl,h'.nil⟩
theorem exit_any (h:Cor W w L q k us) (hk:k≤100000) (hn:n < 16) (v:Nat) (hr:q.RegsOk) (hi:∀ m,Dk.InR (q.thr m).joiner) (hl:q.recs.length≤70000) :
  Calls Tryz.prog 65 #[.pointer (some ⟨L.b,0,none⟩),.int .i64 (n:Int),.int .u64 (v:Nat)] w fun e w'=>∃ A C,e=.returned (eff A (q.exit n v).2.woken.length C false true false)∧Cor W w' L (q.exit n v).1 k (Dk.rowOf 3 1 (.slice A (q.exit n v).2.woken.length C) (q.exit n v).2.woken.length (Dk.is (q.exit n v).2.woken)::us):=by
 obtain ⟨W1,e1⟩:∃ W1,W1=w.alloc (.cells #[.slice none 0 0,.bool false,.bool false,.bool false] 68):=⟨_,rfl⟩
 have h1:=h.newBox e1
 have K:=zct h1 hk n ⟨0,23,v,0,0,true⟩ (by omega)
 unfold Dk.Sp.exit
 have hr':(q.tell n ⟨0,23,v,0,0,true⟩).RegsOk:=hr
 have hi':∀ m,Dk.InR ((q.tell n ⟨0,23,v,0,0,true⟩).thr m).joiner:=hi
 have hl':(q.tell n ⟨0,23,v,0,0,true⟩).recs.length≤80000:=by simp [Dk.Sp.tell];omega
 generalize q.tell n ⟨0,23,v,0,0,true⟩=q1 at *
 generalize eW:(q1.fin n v).2.woken=wk
 have EW:Hid _:=eW
 clear eW
 have H1:Hid (w.alloc (.cells #[.slice none 0 0,.bool false,.bool false,.bool false] 68)=W1):=e1.symm
 clear h h1 e1 hr hi hl
 go_enter Tryz.func65,Tryz.ntmps65
 go_wp2_with (rw [H1.out];clear H1)
 refine K.mono ?_
 rintro e w2 ⟨rfl,h2⟩
 have K2:=zor h2 hk hn v hr' hi' hl'
 rw [EW.out] at K2
 clear K h2 hr' hi' hl'
 go_wp2_with fail
 refine K2.mono ?_
 rintro e w3 ⟨A',C',rfl,h3⟩
 have h5:=h3.swap
 have b5:Dk.Box w3 w.heap.size #[.slice none 0 0,.bool false,.bool false,.bool false] 68:=h5.box (by simp)
 have h6:=(h5.setRow (cs':=#[.slice A' wk.length C',.bool false,.bool true,.bool false]) rfl).drop
 have d0:=(b5.row (cs':=#[.slice A' wk.length C',.bool false,.bool true,.bool false])).cell
 have HB:Hid (Dk.Box w3 w.heap.size #[.slice none 0 0,.bool false,.bool false,.bool false] 68):=b5
 clear K2 h3 h5 b5
 go_wp2_with (refine wpList_store_row rfl 68 _ _ rfl w.heap.size #[.slice A' wk.length C',.bool false,.bool true,.bool false] rfl rfl 68 _ HB.out.heap sizeEff rfl (zak _ _ _ _ _ _) ?_)
 exact bodyPost_ret (v:=eff A' wk.length C' false true false) (by simp [results,Tryz.results65,go_sem,d0]) rfl ⟨A',C',rfl,h6⟩
end
end Go.Proofs.YtglhhlfopccmaaaGreat
namespace Dk
def rise (xs:List Int):List Int:=xs.mergeSort fun x y=>decide (x≤y)
theorem zcg (xs:List Int):(rise xs).Perm xs:=List.mergeSort_perm _ _
theorem zj2 (xs:List Int):Rising (rise xs):=zfd xs
def Sp.tick (q:Sp):Sp × Eff:=
 let t:=min (q.now+1) 1099511627776
 let ds:=rise (dueOf t q.due)
 (({ q with now:=t,due:=leftOf t q.due }:Sp).wake (ds.map fun x=>(x,0)),⟨ds,false,false,false⟩)
end Dk
namespace Go.Proofs.YtglhhlfopccmaaaGreat
open Go.RowKit Go.Lib
theorem infoWk:(Tryz.prog.info? 147).map (fun i=>(i.zero,i.size,i.bytes))=some (some (.agg #[.int .i64 0,.int .u64 0]),2,16):=by kernel_rfl
theorem KWk:Dk.SlK Tryz.prog 148 147 (.agg #[.int .i64 0,.int .u64 0]) 2 16:=⟨Tryz.underlying148,infoWk,rfl,by decide,by decide⟩
section
variable {W w w' : World} {L : Dk.Loc} {q : Dk.Sp} {k n : Nat} {us us' us1 us2 : List Dk.Thing} {t : Dk.Thing}
theorem Cor.opened (h:Cor W w L q k us):∃ ts,Dk.Sep W w (us++ts)∧∀ w' us',Dk.Sep W w' (us'++ts)→Cor W w' L q k us':=by
 obtain ⟨ks,kw,vm,vr,vs,td,tt,tg,h1,h2,h3,h4,h5,h6,h7,h8,h8',h9⟩:=Hid.out h
 exact ⟨_,h9,fun w' us' s=>⟨ks,kw,vm,vr,vs,td,tt,tg,h1,h2,h3,h4,h5,h6,h7,h8,h8',s⟩⟩
theorem Cor.wheel (h:Cor W w L q k us):∃ kw,kw≤k∧WH 0 kw w L.bw L.bm q.now q.due∧∀ w' kw' now l new k',WH 0 kw' w' L.bw L.bm now l→Dk.Away (AtW L.bw L.bm) w w'→(∀ t ∈ new,t.holds w'∧∀ j,t.own j→w.heap.size≤j)→new.Pairwise (fun s t=>∀ k,s.own k→¬ t.own k)→kw'≤k'→k≤k'→Cor W w' L { q with now:=now,due:=l } k' (new++us):=by
 obtain ⟨ks,kw,vm,vr,vs,td,tt,tg,h1,h2,h3,h4,h5,h6,h7,h8,h8',h9⟩:=Hid.out h
 refine ⟨kw,h2,h9.get (t:=wheelT L.bw L.bm kw q.now q.due) (by simp [parts]),fun w' kw' now l new k' hW ha hn hp hk1 hk2=>?_⟩
 refine ⟨ks,kw',vm,vr,vs,td,tt,tg,by omega,hk1,h3,h4,h5,h6,h7,h8,h8',?_⟩
 have hlt:∀ j,(wheelT L.bw L.bm kw' now l).own j→j < w.heap.size:=fun j hj=>(wheelT L.bw L.bm kw q.now q.due).lt w (h9.get (t:=wheelT L.bw L.bm kw q.now q.due) (by simp [parts])) j hj
 have s:=Dk.Sep.turns (us1:=us++[spBox L q.thr vm vr,memT vm q.mem,recT vr q.recs,codeT L vs q.code,slotT L.bt L.bs ks q.st]) (t:=wheelT L.bw L.bm kw q.now q.due) (ts':=wheelT L.bw L.bm kw' now l::new) (us2:=(td++(tt++tg))) (W:=W) (w:=w) (w':=w') (by simpa [parts] using h9)
  ha (fun x hx=>by
   rcases List.mem_cons.1 hx with rfl | hx
   ·exact hW
   ·exact (hn x hx).1) (fun x hx j hj=>by
   rcases List.mem_cons.1 hx with rfl | hx
   ·exact .inl hj
   ·exact .inr ((hn x hx).2 j hj)) (List.pairwise_cons.2 ⟨fun x hx j hj hxj=>by have:=hlt j hj;have:=(hn x hx).2 j hxj;omega,hp⟩)
 refine s.perm ?_
 simp only [parts,List.append_assoc,List.cons_append,List.nil_append]
 refine List.Perm.trans ?_ (List.perm_append_comm_assoc us new _)
 refine List.Perm.append_left us ?_
 have p:∀ (a b c d e f:Dk.Thing) (x y:List Dk.Thing),(a::b::c::d::e::f::(x++y)).Perm (x++(a::b::c::d::e::f::y)):=fun a b c d e f x y=>(List.perm_append_comm_assoc [a,b,c,d,e,f] x y)
 exact p _ _ _ _ _ _ new _
theorem zck (xs:List Int) (A:Option Addr) (C:Nat) (h:Dk.Sep W w (Dk.rowOf 3 1 (.slice A xs.length C) xs.length (Dk.is xs)::us)) (hm:xs.length≤5000) :
  Calls Tryz.prog 70 #[.slice A xs.length C] w fun e w'=>∃ A' C',e=.returned (.slice A' xs.length C')∧Dk.Sep W w' (Dk.rowOf 147 2 (.slice A' xs.length C') xs.length (Dk.prs (xs.map fun x=>(x,0)))::Dk.rowOf 3 1 (.slice A xs.length C) xs.length (Dk.is xs)::us):=by
 obtain ⟨n,en⟩:∃ n,n=xs.length:=⟨_,rfl⟩
 have h0:Dk.Sep W w (Dk.rowOf 147 2 (.slice none 0 0) 0 (Dk.prs [])::Dk.rowOf 3 1 (.slice A xs.length C) xs.length (Dk.is xs)::us):=h.addRow (Below.refl _ _) (World.ownsRow_nil _ _ _ _)
 rw [← en] at h h0 hm ⊢
 have HL:Hid (n=xs.length):=en
 clear en
 go_enter Tryz.func70,Tryz.ntmps70
 go_wp2
 go_loopw [3,8] (fun v i w'=>∃ (j:Nat) (A':Option Addr) (C':Nat),j≤n∧i=.int .i64 j∧v=.slice A' j C'∧Dk.Sep W w' (Dk.rowOf 147 2 (.slice A' j C') j (Dk.prs ((xs.take j).map fun x=>(x,0)))::Dk.rowOf 3 1 (.slice A n C) n (Dk.is xs)::us)) (fun v i w'=>n - (intOf i).toNat)
 case atStart=>exact ⟨0,none,0,Nat.zero_le _,rfl,rfl,h0⟩
 case round=>
  obtain ⟨j,A',C',hj,rfl,rfl,hC⟩:=hrel
  clear h h0
  by_cases hlt:j < n
  ·have hlt':j < xs.length:=by have:=HL.out;omega
   obtain ⟨x,ex⟩:∃ x,xs[j]? = some x:=⟨_,List.getElem?_eq_getElem hlt'⟩
   have hrow:=hC.row (e:=3) (s:=1) (v:=.slice A n C) (n:=n) (xs:=Dk.is xs) (by simp)
   obtain ⟨g,C2,x2,ev,e1,e2,ex2,ec,ef,_⟩:=Dk.zbf hrow hlt
   rw [List.getElem?_map,ex] at ex2
   cases ex2
   obtain rfl:A=some ⟨g,0,none⟩:=by injection ev
   have et:Dk.prs ((xs.take (j+1)).map fun x=>(x,0))=Dk.prs ((xs.take j).map fun x=>(x,0))++[.int .i64 x,.int .u64 0]:=by
    rw [List.take_add_one,ex,Option.toList_some,List.map_append,Dk.zdx]
    rfl
   obtain ⟨v',w4,hrun,h4,_⟩:=Dk.Sep.appendK (us1:=[]) KWk hC [.int .i64 x,.int .u64 0] rfl (by simp [Value.oneCell']) (by omega)
   rw [← et] at h4
   obtain ⟨Av',Cv',ev',_,_⟩:=Dk.zc (h4.row (e:=147) (s:=2) (v:=v') (n:=j+1) (xs:=Dk.prs ((xs.take (j+1)).map fun x=>(x,0))) (by simp))
   subst ev'
   clear hC hrow ev ef et ex
   go_wp2_with (at_builtin;refine Lib.wpList_append_run _ rfl _ _ _ _ rfl _ _ rfl rfl _ _ hrun ?_)
   go_roundw
   case rel=>exact ⟨j+1,Av',Cv',by omega,by go_num,rfl,h4⟩
   case measure=>simp [intOf];omega
  ·obtain rfl:j=n:=by omega
   have z1:decide ((j:Int) < (j:Int))=false:=decide_eq_false (by omega)
   have e:xs.take j=xs:=List.take_of_length_le (by have:=HL.out;omega)
   rw [e] at hC
   clear e
   go_wp2_with fail
   go_ret
   exact ⟨A',C',rfl,hC⟩
end
section
variable {W w w' : World} {L : Dk.Loc} {q : Dk.Sp} {k n : Nat} {us us' us1 us2 : List Dk.Thing} {t : Dk.Thing}
theorem wheelTick (h:Cor W w L q k us) (hk:k≤10000) (ds:List Int) (ed:Dk.rise (Dk.dueOf (min (q.now+1) 1099511627776) q.due)=ds) :
  Calls Tryz.prog 71 #[.pointer (some ⟨L.bw,0,none⟩)] w fun e w'=>∃ A C,e=.returned (.slice A ds.length C)∧Cor W w' L { q with now:=min (q.now+1) 1099511627776,due:=Dk.leftOf (min (q.now+1) 1099511627776) q.due } k (Dk.rowOf 3 1 (.slice A ds.length C) ds.length (Dk.is ds)::us):=by
 obtain ⟨kw,hkw,hW,hb⟩:=h.wheel
 refine (Tick_any hW (by omega)).mono ?_
 rintro e w' ⟨v,ys,rfl,hr,hri,hp,hW',ha⟩
 obtain rfl:ys=ds:=Dk.zpr (hp.trans (by rw [← ed];exact (Dk.zcg _).symm)) hri (by rw [← ed];exact Dk.zj2 _)
 obtain ⟨A,C,rfl,_,_⟩:=Dk.zc hr
 refine ⟨A,C,rfl,?_⟩
 exact hb w' kw _ _ [Dk.rowOf 3 1 (.slice A ys.length C) ys.length (Dk.is ys)] k hW' ha (fun t ht=>by
  rw [List.mem_singleton] at ht
  rw [ht]
  exact ⟨Dk.zam hr (Nat.zero_le _),fun j hj=>(World.ownsRow.lt hr j hj).1⟩) (List.pairwise_singleton _ _) hkw (Nat.le_refl _)
theorem znj (h:Cor W w L q k us) (hk:k≤10000) (hr:q.RegsOk) (hd:∀ x ∈ Dk.keysOf q.due,Dk.InR x) (hl:q.recs.length≤80000) (hl2:q.due.length≤1000) :
  Calls Tryz.prog 30 #[.pointer (some ⟨L.b,0,none⟩)] w fun e w'=>∃ A C,e=.returned (eff A q.tick.2.woken.length C false false false)∧Cor W w' L q.tick.1 k (Dk.rowOf 3 1 (.slice A q.tick.2.woken.length C) q.tick.2.woken.length (Dk.is q.tick.2.woken)::us):=by
 obtain ⟨W1,e1⟩:∃ W1,W1=w.alloc (.cells #[.slice none 0 0,.bool false,.bool false,.bool false] 68):=⟨_,rfl⟩
 have h1:=h.newBox e1
 obtain ⟨ds,ed⟩:∃ ds,Dk.rise (Dk.dueOf (min (q.now+1) 1099511627776) q.due)=ds:=⟨_,rfl⟩
 have K:=wheelTick h1 hk ds ed
 have hdl:ds.length≤1000:=by
  rw [← ed,(Dk.zcg _).length_eq]
  unfold Dk.dueOf Dk.keysOf
  rw [List.length_map]
  exact Nat.le_trans (List.length_filter_le _ _) hl2
 have hdm:∀ x ∈ ds,Dk.InR x:=fun x hx=>by
  rw [← ed,(Dk.zcg _).mem_iff] at hx
  refine hd x ?_
  unfold Dk.dueOf Dk.keysOf at hx
  obtain ⟨p,hp,rfl⟩:=List.mem_map.1 hx
  exact List.mem_map_of_mem (List.mem_filter.1 hp).1
 have c333:=h1.wheelPtr
 unfold Dk.Sp.tick
 dsimp only
 rw [ed]
 have hr':({ q with now:=min (q.now+1) 1099511627776,due:=Dk.leftOf (min (q.now+1) 1099511627776) q.due }:Dk.Sp).RegsOk:=hr
 have hl':({ q with now:=min (q.now+1) 1099511627776,due:=Dk.leftOf (min (q.now+1) 1099511627776) q.due }:Dk.Sp).recs.length≤80000:=hl
 generalize ({ q with now:=min (q.now+1) 1099511627776,due:=Dk.leftOf (min (q.now+1) 1099511627776) q.due }:Dk.Sp)=q1 at *
 have H1:Hid _:=e1.symm
 have HD:Hid (∀ x ∈ ds,Dk.InR x):=hdm
 clear e1 h h1 hd hl hl2 hr ed hdm
 go_enter Tryz.func30,Tryz.ntmps30
 go_wp2_with (rw [H1.out];clear H1)
 refine K.mono ?_
 rintro e w2 ⟨A,C,rfl,h2⟩
 obtain ⟨ts,s2,hb⟩:=h2.opened
 have K2:=zck ds A C s2 (by omega)
 clear K h2 s2 c333
 go_wp2_with fail
 refine K2.mono ?_
 rintro e w3 ⟨A3,C3,rfl,s3⟩
 have h3:=hb w3 (Dk.rowOf 147 2 (.slice A3 ds.length C3) ds.length (Dk.prs (ds.map fun x=>(x,0)))::Dk.rowOf 3 1 (.slice A ds.length C) ds.length (Dk.is ds)::Dk.boxOf w.heap.size #[.slice none 0 0,.bool false,.bool false,.bool false] 68::us) s3
 have K3:=zdf (ds.map fun x=>(x,0)) A3 C3 (by rw [List.length_map];exact h3) (by omega) hr' (fun p hp=>by obtain ⟨x,hx,rfl⟩:=List.mem_map.1 hp;exact HD.out x hx) (by rw [List.length_map];omega) (by rw [List.length_map];omega)
 rw [List.length_map,List.map_map] at K3
 have em:ds.map (Prod.fst ∘ fun x:Int=>(x,(0:Nat)))=ds:=by
  rw [show (Prod.fst ∘ fun x:Int=>(x,(0:Nat)))=id from rfl,List.map_id]
 rw [em] at K3
 clear K2 h3 s3 hb em hr' hl' HD
 go_wp2_with fail
 refine K3.mono ?_
 rintro e w4 ⟨A4,C4,rfl,h4⟩
 have h5:=h4.swap.drop.swap.drop.swap
 have b5:Dk.Box w4 w.heap.size #[.slice none 0 0,.bool false,.bool false,.bool false] 68:=h5.box (by simp)
 have h6:=(h5.setRow (cs':=#[.slice A4 ds.length C4,.bool false,.bool false,.bool false]) rfl).drop
 have d0:=(b5.row (cs':=#[.slice A4 ds.length C4,.bool false,.bool false,.bool false])).cell
 have HB:Hid _:=b5
 clear K3 h4 h5 b5
 go_wp2_with (refine wpList_store_row rfl 68 _ _ rfl w.heap.size #[.slice A4 ds.length C4,.bool false,.bool false,.bool false] rfl rfl 68 _ HB.out.heap sizeEff rfl (zak _ _ _ _ _ _) ?_)
 exact bodyPost_ret (v:=eff A4 ds.length C4 false false false) (by simp [results,Tryz.results30,go_sem,d0]) rfl ⟨A4,C4,rfl,h6⟩
theorem Cor.disk (h:Cor W w L q k us):∃ rest,Dk.Db W w L.bd q.blocks q.asked rest∧(∀ t ∈ us,t ∈ rest)∧∀ w' bs rs new,Dk.Db W w' L.bd bs rs (new++rest)→Cor W w' L { q with blocks:=bs,asked:=rs } k (new++us):=by
 obtain ⟨ks,kw,vm,vr,vs,td,tt,tg,h1,h2,⟨v1,v2,rfl,hf⟩,h4,h5,h6,h7,h8,h8',h9⟩:=Hid.out h
 refine ⟨us++(spBox L q.thr vm vr::memT vm q.mem::recT vr q.recs::codeT L vs q.code::slotT L.bt L.bs ks q.st::wheelT L.bw L.bm kw q.now q.due::(tt++tg)),⟨v1,v2,?_,hf⟩,fun t ht=>List.mem_append_left _ ht,fun w' bs rs new hD=>?_⟩
 ·refine Dk.Sep.perm h9 ?_
  have p:∀ (a b c d e f:Dk.Thing) (x y z:List Dk.Thing),(z++(a::b::c::d::e::f::(x++y))).Perm (x++(z++(a::b::c::d::e::f::y))):=fun a b c d e f x y z=>(List.Perm.append_left z (List.perm_append_comm_assoc [a,b,c,d,e,f] x y)).trans (List.perm_append_comm_assoc z x _)
  exact p _ _ _ _ _ _ (Dk.disk L.bd v1 v2 q.blocks q.asked []) _ us
 ·obtain ⟨v1',v2',s,hf'⟩:=Hid.out hD
  refine ⟨ks,kw,vm,vr,vs,Dk.disk L.bd v1' v2' bs rs [],tt,tg,h1,h2,⟨v1',v2',rfl,hf'⟩,h4,h5,h6,h7,h8,h8',?_⟩
  refine Dk.Sep.perm s ?_
  have p:∀ (a b c d e f:Dk.Thing) (x y z:List Dk.Thing),(x++(z++(a::b::c::d::e::f::y))).Perm (z++(a::b::c::d::e::f::(x++y))):=fun a b c d e f x y z=>(List.perm_append_comm_assoc x z _).trans (List.Perm.append_left z (List.perm_append_comm_assoc x [a,b,c,d,e,f] y))
  have:=p (spBox L q.thr vm vr) (memT vm q.mem) (recT vr q.recs) (codeT L vs q.code) (slotT L.bt L.bs ks q.st) (wheelT L.bw L.bm kw q.now q.due) (Dk.disk L.bd v1' v2' bs rs []) (tt++tg) (new++us)
  show (Dk.disk L.bd v1' v2' bs rs []++(new++(us++_))).Perm _
  rw [← List.append_assoc new us]
  exact this
end
end Go.Proofs.YtglhhlfopccmaaaGreat
