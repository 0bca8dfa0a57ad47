import Derived.Test.YtpnajphbjfehnaaGreatLn22
import Derived.RegionTactic
import Derived.ChangeAlike
import Derived.BigRegion
set_option linter.unusedSimpArgs false
set_option linter.unusedVariables false
set_option linter.unnecessarySimpa false
set_option maxHeartbeats 8000000
set_option maxRecDepth 100000
namespace Dk
theorem Thr.zi8 (t:Thr) (a v:Nat) (h:a < 8):(t.reg a v).cells=t.cells.set (2+a) (.int .u64 (v:Nat)):=by
 have:a=0∨a=1∨a=2∨a=3∨a=4∨a=5∨a=6∨a=7:=by omega
 rcases this with rfl | rfl | rfl | rfl | rfl | rfl | rfl | rfl <;> rfl
end Dk
namespace Go.Proofs.YtpnajphbjfehnaaGreat
open Go.RowKit Go.Lib
section
variable {W w w' : World} {L : Dk.Loc} {q : Dk.Sp} {k n : Nat} {us us' us1 us2 : List Dk.Thing} {t : Dk.Thing}
theorem Cor.reg (h:Cor W w L q k us) (hn:n < 16) (a v:Nat) (ha:a < 8):Cor W (w.setCell ⟨L.b,10+n*20+2+a,none⟩ (.int .u64 (v:Nat))) L (q.setT n ((q.thr n).reg a v)) k us:=by
 have:=h.setT hn (2+a) (by omega) ((q.thr n).reg a v) (.int .u64 (v:Nat)) (Dk.Thr.zi8 _ a v ha)
 rw [← Nat.add_assoc] at this
 exact this
end
section
variable {W w w' : World} {L : Dk.Loc} {q : Dk.Sp} {k n : Nat} {us us' us1 us2 : List Dk.Thing} {t : Dk.Thing}
theorem Cor.hndLt (h:Cor W w L q k us) (hk:k≤100000) (n:Nat):q.hnd n < 18446744073709551616:=by
 obtain ⟨ks,hks,hT,_⟩:=h.slots
 unfold Dk.Sp.hnd
 split
 ·rename_i hu
  exact Dk.hd_lt hT.small (by omega) (Nat.lt_of_lt_of_le (Dk.zcm hu) hT.small.1)
 ·omega
theorem free_any (h:Cor W w L q k us) (hk:k≤100000) (n:Nat) :
  Calls Tryz.prog 214 #[.pointer (some ⟨L.b,0,none⟩),.int .i64 (n:Int)] w fun e w'=>e=.returned (.tuple #[])∧Cor W w' L (q.free n) k us:=by
 have h1:=h.below (Dk.zm (Below.refl _ _))
 have hlt:=h.hndLt hk n
 have K1:=zdp h1 hk n
 have K2:Calls Tryz.prog 228 #[.pointer (some ⟨L.bt,0,none⟩),.int .u64 (q.hnd n:Nat)] w.drew fun e w'=>(∃ v,e=.returned v)∧Cor W w' L (q.free n) k us:=by
  obtain ⟨ks,hks,hT,hw⟩:=h1.slots
  refine (Free_any L.bt L.bs ks q.st (q.hnd n) w.drew hT (by omega) hlt).mono ?_
  rintro e w' ⟨rfl,hT',hg⟩
  exact ⟨⟨_,rfl⟩,hw w' ks _ k hT' hg hks (Nat.le_refl _)⟩
 have c9:=h1.slotPtr
 generalize q.hnd n=g at *
 generalize q.free n=qz at *
 clear h hlt
 go_enter Tryz.func214,Tryz.ntmps214
 go_wp2_with fail
 refine Dk.zav (S:=fun w'=>w'.cell? ⟨L.b,9,none⟩=some (.pointer (some ⟨L.bt,0,none⟩))) [0,1,2,3,4,5] [6,7] (by kernel_rfl) (by kernel_rfl) c9 ?_
 refine Dk.za (v:=.pointer (some ⟨L.b,0,none⟩)) rfl rfl (fun w' hw'=>by go_simp) ?_
 simp only [zD]
 refine Dk.za (v:=.pointer (some ⟨L.b,0,none⟩)) rfl rfl (fun w' hw'=>by go_simp) ?_
 simp only [zD]
 refine Dk.za (v:=.pointer (some ⟨L.b,9,none⟩)) rfl rfl (fun w' hw'=>by go_simp) ?_
 simp only [zD]
 refine Dk.za (v:=.pointer (some ⟨L.bt,0,none⟩)) rfl rfl (fun w' hw'=>by go_simp) ?_
 simp only [zD]
 refine Dk.za (v:=.pointer (some ⟨L.b,0,none⟩)) rfl rfl (fun w' hw'=>by go_simp) ?_
 simp only [zD]
 refine Dk.za (v:=.int .i64 (n:Int)) rfl rfl (fun w' hw'=>by go_simp) ?_
 simp only [zD]
 refine Dk.ze3 (f:=129) (args:=#[.pointer (some ⟨L.b,0,none⟩),.int .i64 (n:Int)]) rfl rfl (by go_simp) ?_
 refine K1.mono ?_
 rintro e w2 ⟨rfl,rfl⟩
 refine ⟨_,rfl,c9,?_⟩
 simp only [zD]
 refine Dk.ze3 (f:=228) (args:=#[.pointer (some ⟨L.bt,0,none⟩),.int .u64 (g:Nat)]) rfl rfl (by go_simp) ?_
 refine K2.mono ?_
 rintro e w2 ⟨⟨v,rfl⟩,h2⟩
 refine ⟨_,rfl,h2.slotPtr,?_⟩
 show NoPanic _ Exit.normal _ _
 refine NoPanic.normal ?_
 simp only [zD]
 clear K1 K2
 (try go_wp2_with fail)
 go_end0
 exact ⟨rfl,h2⟩
end
theorem zb4 (a b c d:Int) (n:Int):(#[.int .i64 a,.int .i64 b,.int .i64 c,.int .i64 d,.int .u64 n]:Array Value).all (·.oneCell')=true:=by simp [Value.oneCell']
theorem thr_all (fn word:Int):(#[.int .i64 fn,.int .i64 0,.int .u64 word,.int .u64 0,.int .u64 0,.int .u64 0,.int .u64 0,.int .u64 0,.int .u64 0,.int .u64 0,.int .i64 0,.int .i64 0,.int .i64 0,.int .i64 0,.int .i64 0,.int .u64 0,.int .u64 0,.bool false,.bool false,.int .i64 0]:Array Value).all (·.oneCell')=true:=by simp [Value.oneCell']
theorem sizeThr:(Tryz.prog.info? 91).map (·.size)=some 20:=by kernel_rfl
theorem sizeIns:(Tryz.prog.info? 75).map (·.size)=some 5:=by kernel_rfl
section
variable {W w w' : World} {L : Dk.Loc} {q : Dk.Sp} {k n : Nat} {us us' us1 us2 : List Dk.Thing} {t : Dk.Thing}
theorem Cor.there (h:Cor W w L q k us) (hn:n < 16) (o m:Nat) (hm:o+m≤20):w.there L.b (10+n*20+o) m:=fun j hj=>by
 refine ⟨?_,h.frozenAt _⟩
 have:=h.cellAt hn (o+j) (by omega)
 rw [← Nat.add_assoc] at this
 rw [this,List.getElem?_eq_getElem (by rw [Dk.Thr.len];omega)]
 rfl
theorem zi2 (h:Cor W w L q k us) (hk:k < 100000) (h16:q.st.length=16) (fn:Int) (word:Nat) :
  Calls Tryz.prog 42 #[.pointer (some ⟨L.b,0,none⟩),.int .i64 fn,.int .u64 (word:Nat)] w fun e w'=>e=.returned (.tuple #[.int .i64 (q.begin fn word).2.1,.int .i64 (q.begin fn word).2.2])∧Cor W w' L (q.begin fn word).1 (k+1) us:=by
 have c9:=h.slotPtr
 obtain ⟨ks,hks,hT,hw⟩:=h.slots
 unfold Dk.Sp.begin
 by_cases hl:Dk.least q.st < q.st.length
 ·rw [if_pos hl]
  have K:Calls Tryz.prog 79 #[.pointer (some ⟨L.bt,0,none⟩)] w fun e w'=>e=.returned (.tuple #[.int .i64 (Dk.least q.st:Nat),.int .u64 (Dk.hd (Dk.taken q.st) (Dk.least q.st):Nat),.int .i64 0])∧Cor W w' L { q with st:=Dk.taken q.st } (k+1) us:=by
   refine (zgi L.bt L.bs ks q.st w hT (by omega)).mono ?_
   rintro e w' (⟨_,rfl,hT',hg⟩ | ⟨hle,_⟩)
   ·exact ⟨rfl,hw w' (ks+1) _ (k+1) hT' hg (by omega) (by omega)⟩
   ·omega
  generalize hm:Dk.least q.st=m at *
  have hm16:m < 16:=by omega
  have i1:(m:Int) < 16:=by omega
  have i2:(0:Int)≤(m:Int):=by omega
  generalize Dk.hd (Dk.taken q.st) m=g at K
  generalize ({ q with st:=Dk.taken q.st }:Dk.Sp)=q1 at *
  clear hT hw h hl hm h16
  go_enter Tryz.func42,Tryz.ntmps42
  go_wp2_with fail
  refine K.mono ?_
  rintro e w1 ⟨rfl,h1⟩
  have HT:Hid (w1.there L.b (10+m*20) 20):=h1.there hm16 0 20 (by omega)
  have h2:=h1.putT hm16 (Dk.Thr.new fn word) (Dk.Thr.new fn word).cells (by rw [Dk.Thr.len];omega) (fun j hj=>by rw [if_pos (by rw [Dk.Thr.len];exact hj)])
  clear K c9 h1
  go_wp2_with (refine wpList_store_mid rfl 91 _ _ rfl L.b (10+m*20) #[.int .i64 fn,.int .i64 0,.int .u64 (word:Nat),.int .u64 0,.int .u64 0,.int .u64 0,.int .u64 0,.int .u64 0,.int .u64 0,.int .u64 0,.int .i64 0,.int .i64 0,.int .i64 0,.int .i64 0,.int .i64 0,.int .u64 0,.int .u64 0,.bool false,.bool false,.int .i64 0] rfl rfl HT.out sizeThr (thr_all _ _) ?_)
  go_ret2
  exact ⟨rfl,h2⟩
 ·rw [if_neg hl]
  have K:Calls Tryz.prog 79 #[.pointer (some ⟨L.bt,0,none⟩)] w fun e w'=>e=.returned (.tuple #[.int .i64 0,.int .u64 0,.int .i64 2])∧Cor W w' L q (k+1) us:=by
   refine (zgi L.bt L.bs ks q.st w hT (by omega)).mono ?_
   rintro e w' (⟨hle,_⟩ | ⟨_,rfl,hT',hg⟩)
   ·omega
   ·exact ⟨rfl,hw w' ks _ (k+1) hT' hg (by omega) (by omega)⟩
  clear hT hw h hl
  go_enter Tryz.func42,Tryz.ntmps42
  go_wp2_with fail
  refine K.mono ?_
  rintro e w1 ⟨rfl,h1⟩
  clear K c9
  go_wp2_with fail
  go_ret2
  exact ⟨rfl,h1⟩
end
end Go.Proofs.YtpnajphbjfehnaaGreat
namespace Dk
theorem Sp.wake1_st (q:Sp) (p:Int × Nat):(q.wake1 p).st=q.st:=rfl
theorem Sp.wake_st (q:Sp):∀ l,(q.wake l).st=q.st:=by
 intro l
 unfold Sp.wake
 induction l generalizing q with
 | nil=>rfl
 | cons p r ih=>rw [List.foldl_cons,ih,Sp.wake1_st]
def Sp.RegsOk (q:Sp):Prop:=∀ n,∃ a:Nat,a < 8∧(q.thr n).ins.a=a
end Dk
namespace Go.Proofs.YtpnajphbjfehnaaGreat
open Go.RowKit Go.Lib
theorem sizeEff:(Tryz.prog.info? 43).map (·.size)=some 4:=by kernel_rfl
theorem zbd (A:Option Addr) (n C:Nat) (a b c:Bool):(#[.slice A n C,.bool a,.bool b,.bool c]:Array Value).all (·.oneCell')=true:=by simp [Value.oneCell']
abbrev eff (A:Option Addr) (n C:Nat) (a b c:Bool):Value:=.agg #[.slice A n C,.bool a,.bool b,.bool c]
section
variable {W w w' : World} {L : Dk.Loc} {q : Dk.Sp} {k n : Nat} {us us' us1 us2 : List Dk.Thing} {t : Dk.Thing}
theorem Cor.lit {e:TypeId} {s m:Nat} {cs:Array Value} (h:Cor W w L q k us) (ew:w'=w.alloc (.cells cs e)) (hc:cs.size=m*s) (hm:m≤10000):Cor W w' L q k (Dk.rowOf e s (.slice (some ⟨w.heap.size,0,none⟩) m m) m cs.toList::us):=by
 subst ew
 refine h.addRow (Dk.zb (Below.refl _ _) _) ?_
 exact World.ownsRow_lit w cs m (Nat.le_refl _) (by unfold maxLen;omega) hc
theorem Cor.nil {e:TypeId} {s:Nat} (h:Cor W w L q k us):Cor W w L q k (Dk.rowOf e s (.slice none 0 0) 0 []::us):=h.addRow (Below.refl _ _) (World.ownsRow_nil _ _ _ _)
theorem fin_det (h:Cor W w L q k us) (hk:k≤100000) (hn:n < 16) (v:Nat) (hd:(q.thr n).det=true) :
  Calls Tryz.prog 199 #[.pointer (some ⟨L.b,0,none⟩),.int .i64 (n:Int),.int .u64 (v:Nat)] w fun e w'=>e=.returned (eff none 0 0 false true false)∧Cor W w' L (q.free n) k us:=by
 obtain ⟨W1,e1⟩:∃ W1,W1=w.alloc (.cells #[.slice none 0 0,.bool false,.bool false,.bool false] 43):=⟨_,rfl⟩
 have h1:=h.newBox e1
 have d17:W1.cell? ⟨L.b,10+n*20+17,none⟩=some (.bool true):=by rw [h1.cellAt hn 17 (by omega),← hd];rfl
 have K:=free_any h1 hk n
 have i1:(n:Int) < 16:=by omega
 have i2:(0:Int)≤(n:Int):=by omega
 have H1:Hid (w.alloc (.cells #[.slice none 0 0,.bool false,.bool false,.bool false] 43)=W1):=e1.symm
 clear h h1 e1 hd
 go_enter Tryz.func199,Tryz.ntmps199
 go_wp2_with (rw [H1.out];clear H1)
 refine K.mono ?_
 rintro e w2 ⟨rfl,h2⟩
 have b2:Dk.Box w2 w.heap.size #[.slice none 0 0,.bool false,.bool false,.bool false] 43:=h2.box (by simp)
 have h3:=(h2.setRow (cs':=#[.slice none 0 0,.bool false,.bool true,.bool false]) rfl).drop
 have d0:=(b2.row (cs':=#[.slice none 0 0,.bool false,.bool true,.bool false])).cell
 have HB:Hid (Dk.Box w2 w.heap.size #[.slice none 0 0,.bool false,.bool false,.bool false] 43):=b2
 clear K d17 h2 b2
 go_wp2_with (refine wpList_store_row rfl 43 _ _ rfl w.heap.size #[.slice none 0 0,.bool false,.bool true,.bool false] rfl rfl 43 _ HB.out.heap sizeEff rfl (zbd _ _ _ _ _ _) ?_)
 exact bodyPost_ret (v:=eff none 0 0 false true false) (by simp [results,Tryz.results199,go_sem,d0]) rfl ⟨rfl,h3⟩
theorem fin_none (h:Cor W w L q k us) (hk:k≤100000) (hn:n < 16) (v:Nat) (hd:(q.thr n).det=false) (hj:(q.thr n).joined=false) :
  Calls Tryz.prog 199 #[.pointer (some ⟨L.b,0,none⟩),.int .i64 (n:Int),.int .u64 (v:Nat)] w fun e w'=>e=.returned (eff none 0 0 false true false)∧Cor W w' L (q.setT n { q.thr n with why:=9,value:=v }) k us:=by
 obtain ⟨W1,e1⟩:∃ W1,W1=w.alloc (.cells #[.slice none 0 0,.bool false,.bool false,.bool false] 43):=⟨_,rfl⟩
 have h1:=h.newBox e1
 have d17:W1.cell? ⟨L.b,10+n*20+17,none⟩=some (.bool false):=by rw [h1.cellAt hn 17 (by omega),← hd];rfl
 have d18:W1.cell? ⟨L.b,10+n*20+18,none⟩=some (.bool false):=by rw [h1.cellAt hn 18 (by omega),← hj];rfl
 have d10:W1.cell? ⟨L.b,10+n*20+10,none⟩=some (.int .i64 (q.thr n).why):=h1.cellAt hn 10 (by omega)
 have f10:=h1.frozenAt (10+n*20+10)
 obtain ⟨W2,e2⟩:∃ W2,W2=W1.setCell ⟨L.b,10+n*20+10,none⟩ (.int .i64 9):=⟨_,rfl⟩
 have h2:=h1.setT hn 10 (by omega) { q.thr n with why:=9 } (.int .i64 9) rfl
 rw [← e2] at h2
 have d16:W2.cell? ⟨L.b,10+n*20+16,none⟩=some (.int .u64 ((q.thr n).value:Nat)):=by rw [h2.cellAt hn 16 (by omega)];simp [Dk.Sp.setT,Dk.upd_same,Dk.Thr.cells]
 have f16:=h2.frozenAt (10+n*20+16)
 obtain ⟨W3,e3⟩:∃ W3,W3=W2.setCell ⟨L.b,10+n*20+16,none⟩ (.int .u64 (v:Nat)):=⟨_,rfl⟩
 have h3:=h2.setT hn 16 (by omega) { q.thr n with why:=9,value:=v } (.int .u64 (v:Nat)) (by simp [Dk.Sp.setT,Dk.upd_same,Dk.Thr.cells])
 have eq3:(q.setT n { q.thr n with why:=9 }).setT n { q.thr n with why:=9,value:=v }=q.setT n { q.thr n with why:=9,value:=v }:=by unfold Dk.Sp.setT;simp only [Dk.upd_upd]
 rw [← e3,eq3] at h3
 have b3:Dk.Box W3 w.heap.size #[.slice none 0 0,.bool false,.bool false,.bool false] 43:=h3.box (by simp)
 have h4:=(h3.setRow (cs':=#[.slice none 0 0,.bool false,.bool true,.bool false]) rfl).drop
 have i1:(n:Int) < 16:=by omega
 have i2:(0:Int)≤(n:Int):=by omega
 have H1:Hid (w.alloc (.cells #[.slice none 0 0,.bool false,.bool false,.bool false] 43)=W1):=e1.symm
 have H2:Hid (W1.setCell ⟨L.b,10+n*20+10,none⟩ (.int .i64 9)=W2):=e2.symm
 have H3:Hid (W2.setCell ⟨L.b,10+n*20+16,none⟩ (.int .u64 (v:Nat))=W3):=e3.symm
 have HB:Hid (Dk.Box W3 w.heap.size #[.slice none 0 0,.bool false,.bool false,.bool false] 43):=b3
 clear h h1 h2 h3 e1 e2 e3 hd hj eq3 b3
 go_enter Tryz.func199,Tryz.ntmps199
 go_wp2_with (first | (rw [H1.out];clear H1) | (rw [H2.out];clear H2) | (rw [H3.out];clear H3) | (refine wpList_store_row rfl 43 _ _ rfl w.heap.size #[.slice none 0 0,.bool false,.bool true,.bool false] rfl rfl 43 _ HB.out.heap sizeEff rfl (zbd _ _ _ _ _ _) ?_))
 have d0:=(HB.out.row (cs':=#[.slice none 0 0,.bool false,.bool true,.bool false])).cell
 exact bodyPost_ret (v:=eff none 0 0 false true false) (by simp [results,Tryz.results199,go_sem,d0]) rfl ⟨rfl,h4⟩
end
section
variable {W w w' : World} {L : Dk.Loc} {q : Dk.Sp} {k n : Nat} {us us' us1 us2 : List Dk.Thing} {t : Dk.Thing}
theorem Cor.disk (h:Cor W w L q k us):∃ rest,Dk.Db W w L.bd q.blocks q.asked rest∧(∀ t ∈ us,t ∈ rest)∧∀ w' bs rs new,Dk.Db W w' L.bd bs rs (new++rest)→Cor W w' L { q with blocks:=bs,asked:=rs } k (new++us):=by
 obtain ⟨ks,kw,vm,vr,vs,td,tt,tg,h1,h2,⟨v1,v2,rfl,hf⟩,h4,h5,h6,h7,h8,h8',h9⟩:=Hid.out h
 refine ⟨us++(spBox L q.thr vm vr::memT vm q.mem::recT vr q.recs::codeT L vs q.code::slotT L.bt L.bs ks q.st::wheelT L.bw L.bm kw q.now q.due::(tt++tg)),⟨v1,v2,?_,hf⟩,fun t ht=>List.mem_append_left _ ht,fun w' bs rs new hD=>?_⟩
 ·refine Dk.Sep.perm h9 ?_
  have p:∀ (a b c d e f:Dk.Thing) (x y z:List Dk.Thing),(z++(a::b::c::d::e::f::(x++y))).Perm (x++(z++(a::b::c::d::e::f::y))):=fun a b c d e f x y z=>(List.Perm.append_left z (List.perm_append_comm_assoc [a,b,c,d,e,f] x y)).trans (List.perm_append_comm_assoc z x _)
  exact p _ _ _ _ _ _ (Dk.disk L.bd v1 v2 q.blocks q.asked []) _ us
 ·obtain ⟨v1',v2',s,hf'⟩:=Hid.out hD
  refine ⟨ks,kw,vm,vr,vs,Dk.disk L.bd v1' v2' bs rs [],tt,tg,h1,h2,⟨v1',v2',rfl,hf'⟩,h4,h5,h6,h7,h8,h8',?_⟩
  refine Dk.Sep.perm s ?_
  have p:∀ (a b c d e f:Dk.Thing) (x y z:List Dk.Thing),(x++(z++(a::b::c::d::e::f::y))).Perm (z++(a::b::c::d::e::f::(x++y))):=fun a b c d e f x y z=>(List.perm_append_comm_assoc x z _).trans (List.Perm.append_left z (List.perm_append_comm_assoc x [a,b,c,d,e,f] y))
  have:=p (spBox L q.thr vm vr) (memT vm q.mem) (recT vr q.recs) (codeT L vs q.code) (slotT L.bt L.bs ks q.st) (wheelT L.bw L.bm kw q.now q.due) (Dk.disk L.bd v1' v2' bs rs []) (tt++tg) (new++us)
  show (Dk.disk L.bd v1' v2' bs rs []++(new++(us++_))).Perm _
  rw [← List.append_assoc new us]
  exact this
end
section
variable {W w w' : World} {L : Dk.Loc} {q : Dk.Sp} {k n : Nat} {us us' us1 us2 : List Dk.Thing} {t : Dk.Thing}
theorem ins_row {B:Nat} {u:Value} {xs:List Dk.Ins} (h:w.ownsRow B 75 5 u xs.length (xs.flatMap Dk.Ins.cells)) (hx:∀ i ∈ xs,i.ok):∃ A C,u=.slice A xs.length C∧Dk.SlN w.heap.size w A xs.length C xs:=by
 obtain ⟨A,C,rfl,h1,h2⟩:=Dk.zf h
 refine ⟨A,C,rfl,rfl,h1,h2,hx,fun h0=>?_⟩
 obtain ⟨g,C',x,ev,_,_,_,hc,_,_⟩:=Dk.zc7 (k:=0) h (by omega)
 obtain rfl:A=some ⟨g,0,none⟩:=by injection ev
 have hlt:g < w.heap.size:=(World.ownsRow.lt h g rfl).2
 refine ⟨g,0,rfl,hlt,fun j hj=>?_⟩
 have key:∀ m,m < 5→w.cell? ⟨g,0+j*5+m,none⟩=(xs.getD j Dk.Ins.zero).cells[m]?:=fun m hm=>by
  obtain ⟨g',C2,x2,ev2,_,_,ex,ec,_,_⟩:=Dk.zc7 (k:=j*5+m) h (by omega)
  obtain rfl:g=g':=by injection ev2 with q1;injection q1 with q2;injection q2
  have hj':xs[j]? = some (xs.getD j Dk.Ins.zero):=by rw [List.getD_eq_getElem?_getD,List.getElem?_eq_getElem hj];rfl
  rw [Dk.flat_get Dk.Ins.len xs j m _ hj' hm] at ex
  rw [Nat.zero_add,ec,ex]
 exact ⟨key 0 (by omega),key 1 (by omega),key 2 (by omega),key 3 (by omega),key 4 (by omega)⟩
theorem Cor.code (h:Cor W w L q k us):Dk.PrgAt w.heap.size w ⟨L.cA,L.cL,L.cC,none,0,0,none,0,0⟩ q.prog∧∀ j,j < 8→w.cell? ⟨L.b,j,none⟩=(L.head (.slice none 0 0))[j]?:=by
 obtain ⟨ks,kw,vm,vr,vs,td,tt,tg,h1,h2,h3,h4,h5,h6,h7,h8,h8',h9⟩:=Hid.out h
 have hb:Dk.Box w L.b (L.body q.thr vm vr).toArray 96:=h9.box (by simp [parts,spBox])
 have hmem:codeT L vs q.code ∈ us++parts L q ks kw vm vr vs td tt tg:=by simp [parts]
 refine ⟨⟨?_,?_,?_,?_,?_,?_,?_,?_⟩,fun j hj=>?_⟩
 ·obtain ⟨A,C,ev,c1,c2⟩:=h9.nestLen hmem
  injection ev with q1 q2 q3
  have e2:q.code.length=L.cL:=q2.symm
  refine ⟨e2,by show L.cL≤L.cC;omega,by show L.cC≤_;omega,fun h0=>?_⟩
  have h0':0 < q.code.length:=by rw [e2];exact h0
  obtain ⟨g,C',u,xs,ev',_,_,hu,hx,hc,_,hr,_⟩:=h9.inner hmem h0'
  injection ev' with r1 r2 r3
  refine ⟨g,0,r1,?_,fun j hj=>?_⟩
  ·have hr1:=(h9.get hmem).1
   rw [r1] at hr1
   exact (World.ownsRow.lt hr1 g rfl).2
  ·have hj':j < q.code.length:=by rw [e2];exact hj
   obtain ⟨g',C'',u',xs',ev'',_,_,hu',hx',hc',_,hr',_⟩:=h9.inner hmem hj'
   injection ev'' with t1 t2 t3
   have eg:g=g':=by rw [r1] at t1;injection t1 with t4;injection t4
   subst eg
   obtain ⟨A',C3,rfl,hN⟩:=ins_row hr' (fun i hi=>h8 xs' (List.mem_of_getElem? hx') i hi)
   have ex:q.prog.funcs.getD j []=xs':=by
    show q.code.getD j []=xs'
    rw [List.getD_eq_getElem?_getD,hx'];rfl
   rw [ex,Nat.zero_add]
   exact ⟨A',xs'.length,C3,hc',hN⟩
 ·exact ⟨rfl,Nat.le_refl _,by show 0≤maxLen;omega,(fun x hx=>by simp [Dk.Sp.prog] at hx),fun h0=>absurd h0 (by show ¬ 0 < 0;omega)⟩
 ·exact ⟨rfl,Nat.le_refl _,by show 0≤maxLen;omega,(fun x hx=>by simp [Dk.Sp.prog] at hx),fun h0=>absurd h0 (by show ¬ 0 < 0;omega)⟩
 all_goals first | (show Dk.i64 0;unfold Dk.i64;omega) | skip
 rw [hb.cell,List.getElem?_toArray,Dk.zbb _ _ _ _ (by omega)]
 have:j=0∨j=1∨j=2∨j=3∨j=4∨j=5∨j=6∨j=7:=by omega
 rcases this with rfl | rfl | rfl | rfl | rfl | rfl | rfl | rfl <;> rfl
end
end Go.Proofs.YtpnajphbjfehnaaGreat
