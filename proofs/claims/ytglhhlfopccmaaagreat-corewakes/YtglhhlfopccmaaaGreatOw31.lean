import Derived.Test.YtglhhlfopccmaaaGreatOw30
import Derived.Deep.CutRange
set_option linter.unusedSimpArgs false
set_option linter.unusedVariables false
set_option linter.unnecessarySimpa false
set_option maxHeartbeats 8000000
set_option maxRecDepth 100000
namespace Dk
open Go Go.RowKit
theorem zr {P:Go.Program} {S:World→Prop} {Z:List Nat} {Q:Exit→Act→World→Prop} {L:List Oper} {j:Nat} {js:List Nat} {a:Act} {w:World} {o:Oper} (ho:L[j]? = some o) (hg:o.guard=none)
  (h:o.wp P a w (fun a' w'=>(j ∉ Z→S w')∧lineY P L.toArray Q S Z js a' w') Q):lineY P L.toArray Q S Z (j::js) a w:=by
 have hw:Region.wanted o (yielded L.toArray a.tmps)=true:=by simp [Region.wanted,hg]
 have ho':L.toArray[j]? = some o:=by simpa using ho
 unfold lineY wpOp
 simp only [ho',hw,if_true]
 exact .inl h
end Dk
namespace Go.Proofs.YtglhhlfopccmaaaGreat
open Go.RowKit Go.Lib
section
variable {W w w' : World} {L : Dk.Loc} {q : Dk.Sp} {k n : Nat} {us us' us1 us2 : List Dk.Thing} {t : Dk.Thing}
theorem zei (h:Cor W w L q k us) (f:Dk.Frm):Calls Tryz.prog 60 #[.agg #[.slice L.cA L.cL L.cC,.int .i64 0,.int .i64 0,.int .i64 0,.slice none 0 0,.slice none 0 0,.int .i64 0,.int .i64 0],Dk.fv f] w fun e w'=>e=.returned (.tuple #[Dk.iv (Dk.nextI q.prog f),.bool (Dk.nextB q.prog f)])∧Cor W w' L q k us:=by
 refine (Next_any ⟨L.cA,L.cL,L.cC,none,0,0,none,0,0⟩ q.prog f w h.code.1).mono ?_
 rintro e w' ⟨rfl,u⟩
 exact ⟨rfl,h.below u⟩
end
end Go.Proofs.YtglhhlfopccmaaaGreat
namespace Dk
def whyIf (waits:Bool) (r w2 why:Int):Int:=if waits=true∧r=0 then w2 else why
end Dk
namespace Go.Proofs.YtglhhlfopccmaaaGreat
open Go.RowKit Go.Lib
abbrev dcs (x y:Nat) (r why:Int) (vb vw:Value):Array Value:=#[.int .u64 (x:Nat),.int .u64 (y:Nat),.int .i64 r,.int .i64 why,vb,vw]
theorem sizeDeed:(Tryz.prog.info? 204).map (·.size)=some 6:=by kernel_rfl
theorem zq (x y:Nat) (r why:Int) (A A':Option Addr) (m C m' C':Nat):(dcs x y r why (.slice A m C) (.slice A' m' C')).all (·.oneCell')=true:=by simp [Value.oneCell']
def bxD (b:Nat) (x y:Nat) (r why:Int) (vb vw:Value):Dk.Thing:=Dk.boxOf b (dcs x y r why vb vw) 204
def lists (Ab Aw:Option Addr) (Cb Cw:Nat) (d:Dk.Deed):List Dk.Thing:=[Dk.rowOf 3 1 (.slice Ab d.begun.length Cb) d.begun.length (Dk.is d.begun),Dk.rowOf 147 2 (.slice Aw d.woken.length Cw) d.woken.length (Dk.prs d.woken)]
abbrev dval (Ab Aw:Option Addr) (Cb Cw:Nat) (d:Dk.Deed):Value:=.agg (dcs d.x d.y d.result d.why (.slice Ab d.begun.length Cb) (.slice Aw d.woken.length Cw))
section
variable {W w w' : World} {L : Dk.Loc} {q : Dk.Sp} {k n : Nat} {us us' us1 us2 : List Dk.Thing} {t : Dk.Thing}
theorem Cor.two (h:Cor W w L q k us) (e1 e2:TypeId) (s1 s2:Nat):Cor W w L q k (Dk.rowOf e1 s1 (.slice none 0 0) 0 []::Dk.rowOf e2 s2 (.slice none 0 0) 0 []::us):=(h.nil (e:=e2) (s:=s2)).nil
theorem zaw (b x y:Nat) (r why:Int) (vb vw:Value) (h:Cor W w L q k (bxD b x y r why vb vw::us)) (waits:Bool) (w2:Int) :
  Calls Tryz.prog 154 #[.pointer (some ⟨b,0,none⟩),.bool waits,.int .i64 w2] w fun e w'=>e=.returned (.tuple #[])∧Cor W w' L q k (bxD b x y r (Dk.whyIf waits r w2 why) vb vw::us):=by
 have hb:Dk.Box w b (dcs x y r why vb vw) 204:=h.box (by simp [bxD])
 have c2:w.cell? ⟨b,2,none⟩=some (.int .i64 r):=hb.cell 2
 have c3:w.cell? ⟨b,3,none⟩=some (.int .i64 why):=hb.cell 3
 have f3:=hb.frozen 3
 have h2:Cor W (w.setCell ⟨b,3,none⟩ (.int .i64 w2)) L q k (bxD b x y r w2 vb vw::us):=h.setBox (o:=3) (.int .i64 w2)
 have HC:Hid (Cor W w L q k (bxD b x y r why vb vw::us)):=h
 clear h hb
 unfold Dk.whyIf
 cases waits
 ·rw [if_neg (by simp)]
  go_enter Tryz.func154,Tryz.ntmps154
  go_wp2
  go_end0
  exact ⟨rfl,HC.out⟩
 ·by_cases hr:r=0
  ·subst hr
   rw [if_pos ⟨rfl,rfl⟩]
   go_enter Tryz.func154,Tryz.ntmps154
   go_wp2
   go_end0
   exact ⟨rfl,h2⟩
  ·rw [if_neg (by simp [hr])]
   have y1:(r == 0)=false:=by simpa using hr
   go_enter Tryz.func154,Tryz.ntmps154
   go_wp2
   go_end0
   exact ⟨rfl,HC.out⟩
theorem zci (b x y:Nat) (r why:Int) (vb vw:Value) (who:Int) (h:Cor W w L q k (bxD b x y r why vb vw::us)) :
  Calls Tryz.prog 156 #[.pointer (some ⟨b,0,none⟩),.bool false,.int .i64 who] w fun e w'=>e=.returned (.tuple #[])∧w'=w:=by
 go_enter Tryz.func156,Tryz.ntmps156
 go_wp2
 go_end0
 exact ⟨rfl,rfl⟩
theorem zcu (b x y:Nat) (r why:Int) (vb:Value) (who:Int) (h:Cor W w L q k (bxD b x y r why vb (.slice none 0 0)::us)) :
  Calls Tryz.prog 156 #[.pointer (some ⟨b,0,none⟩),.bool true,.int .i64 who] w fun e w'=>∃ A C,e=.returned (.tuple #[])∧Cor W w' L q k (bxD b x y r why vb (.slice A 1 C)::Dk.rowOf 147 2 (.slice A 1 C) 1 (Dk.prs [(who,0)])::us):=by
 have hb:Dk.Box w b (dcs x y r why vb (.slice none 0 0)) 204:=h.box (by simp [bxD])
 have c5:w.cell? ⟨b,5,none⟩=some (.slice none 0 0):=hb.cell 5
 obtain ⟨v',w4,hrun,h4,_⟩:=Cor.appendK (us1:=[]) KWk (h.nil (e:=147) (s:=2)) [.int .i64 who,.int .u64 0] rfl (by simp [Value.oneCell']) (by omega)
 obtain ⟨A,C,ev,_,_⟩:=Dk.zc (h4.row (e:=147) (s:=2) (v:=v') (m:=1) (xs:=[.int .i64 who,.int .u64 0]) (by simp))
 subst ev
 have b4:Dk.Box w4 b (dcs x y r why vb (.slice none 0 0)) 204:=h4.box (by simp [bxD])
 have d5:w4.cell? ⟨b,5,none⟩=some (.slice none 0 0):=b4.cell 5
 have f5:=b4.frozen 5
 have h5:Cor W (w4.setCell ⟨b,5,none⟩ (.slice A 1 C)) L q k (bxD b x y r why vb (.slice A 1 C)::Dk.rowOf 147 2 (.slice A 1 C) 1 (Dk.prs [(who,0)])::us):=Cor.setBox (o:=5) (Cor.swap h4) (.slice A 1 C)
 clear h hb h4 b4
 go_enter Tryz.func156,Tryz.ntmps156
 go_wp2_with (at_builtin;refine Lib.wpList_append_run _ rfl _ _ _ _ rfl _ _ rfl rfl _ _ hrun ?_)
 go_end0
 exact ⟨A,C,rfl,h5⟩
theorem Cor.gates (h:Cor W w L q k us):∃ rest,Gt W w L.bg q.gates 16 rest∧Dk.GIn q.gates∧∀ w' S' new k',Gt W w' L.bg S' k' (new++rest)→Dk.GIn S'→Cor W w' L { q with gates:=S' } k (new++us):=by
 obtain ⟨ks,kw,vm,vr,vs,td,tt,tg,h1,h2,h3,h4,h5,h6,h7,h8,h8',h9⟩:=Hid.out h
 refine ⟨us++(spBox L q.thr vm vr::memT vm q.mem::recT vr q.recs::codeT L vs q.code::slotT L.bt L.bs ks q.st::wheelT L.bw L.bm kw q.now q.due::(td++tt)),⟨tg,h5,by simpa [parts] using h9,h6⟩,h7,fun w' S' new k' hG hS=>?_⟩
 have hf:=hG.fair
 obtain ⟨tg',h5',h9',h6'⟩:=Hid.out hG
 exact ⟨ks,kw,vm,vr,vs,td,tt,tg',h1,h2,h3,h4,h5',Dk.fair_ok hf hS h6',hS,h8,h8',by simpa [parts] using h9'⟩
theorem wheelSleep (h:Cor W w L q k us) (hk:k < 100000) (hn:n < 16) (m:Nat) (hm:0 < m) :
  Calls Tryz.prog 164 #[.pointer (some ⟨L.bw,0,none⟩),.int .i64 (n:Int),.int .i64 (wrap64 m)] w fun e w'=>e=.returned (.int .i64 (q.sleep n m).2.result)∧Cor W w' L (q.sleep n m).1 (k+1) us:=by
 obtain ⟨kw,hkw,hW,hb⟩:=h.wheel
 unfold Dk.Sp.sleep
 rw [if_neg (by omega)]
 by_cases h1:wrap64 m < 1
 ·rw [if_pos (.inl h1)]
  refine (zni L.bw n (wrap64 m) w h1).mono ?_
  rintro e w' ⟨rfl,rfl⟩
  exact ⟨rfl,h.mono (by omega)⟩
 by_cases h2:1099511627776 < wrap64 m
 ·rw [if_pos (.inr h2)]
  refine (zlo L.bw n (wrap64 m) w h2).mono ?_
  rintro e w' ⟨rfl,rfl⟩
  exact ⟨rfl,h.mono (by omega)⟩
 rw [if_neg (by omega)]
 by_cases h3:(n:Int) ∈ Dk.keysOf q.due
 ·rw [if_pos h3]
  refine (zln hW (Dk.InR.i64 (Dk.zay hn)) (by omega) (by omega) h3).mono ?_
  rintro e w' ⟨rfl,rfl⟩
  exact ⟨rfl,h.mono (by omega)⟩
 ·rw [if_neg h3]
  refine (Sleep_ok hW (Dk.InR.i64 (Dk.zay hn)) (by omega) (by omega) h3 (by omega)).mono ?_
  rintro e w' ⟨rfl,hW',ha⟩
  exact ⟨rfl,hb w' (kw+1) _ _ [] (k+1) hW' ha (fun t ht=>absurd ht (by simp)) List.Pairwise.nil (by omega) (by omega)⟩
theorem diskAsk (h:Cor W w L q k us) (hn:n < 16) (c:Bool) (x block:Nat) (wb:Int) (hx:x < 2 ^ 64) (hl:q.asked.length≤1000) (hbl:q.blocks.length≤1000) :
  Calls Tryz.prog 161 #[.pointer (some ⟨L.bd,0,none⟩),.agg #[.int .i64 (n:Int),.int .i64 wb,.bool c,.int .u64 (x:Nat)]] w fun e w'=>e=.returned (.int .i64 (q.askW n c x block wb).2.result)∧Cor W w' L (q.askW n c x block wb).1 k us:=by
 obtain ⟨rest,hD,_,hb⟩:=h.disk
 unfold Dk.Sp.askW
 have hB:∀ b:Nat,b < q.blocks.length→Dk.i64 (b:Int):=fun b hb=>by unfold Dk.i64;omega
 by_cases h1:wb < 0∨(q.blocks.length:Int)≤wb
 ·rw [if_pos h1]
  refine (Ask_arg hD n wb c x h1).mono ?_
  rintro e w' ⟨rfl,hD'⟩
  exact ⟨rfl,hb w' _ _ [] hD'⟩
 ·rw [if_neg h1]
  obtain ⟨b,rfl⟩:∃ b:Nat,wb=b:=⟨wb.toNat,by omega⟩
  cases h2:Dk.waitsK q.asked n
  ·simp only [Bool.false_eq_true,if_false]
   refine (Ask_ok hD n b c x (by omega) h2 ⟨Dk.InR.i64 (Dk.zay hn),hB b (by omega),hx⟩ hl).mono ?_
   rintro e w' ⟨rfl,hD'⟩
   exact ⟨rfl,hb w' _ _ [] hD'⟩
  ·simp only [if_true]
   refine (Ask_busy hD n b c x (by omega) h2).mono ?_
   rintro e w' ⟨rfl,hD'⟩
   exact ⟨rfl,hb w' _ _ [] hD'⟩
end
end Go.Proofs.YtglhhlfopccmaaaGreat
namespace Dk
section
variable {α : Type} {p : α → Prop} {l : List (List α)}
theorem ze1 (h:∀ x ∈ l,∀ y ∈ x,p y) (i:Nat) {z:List α} (hz:∀ y ∈ z,p y):∀ x ∈ l.set i z,∀ y ∈ x,p y:=fun x hx=>by
 rcases List.mem_or_eq_of_mem_set hx with hx | rfl
 ·exact h x hx
 ·exact hz
theorem zbg (h:∀ x ∈ l,∀ y ∈ x,p y) (i:Nat):∀ y ∈ l.getD i [],p y:=fun y hy=>by
 rw [List.getD_eq_getElem?_getD] at hy
 cases e:l[i]? with
 | none=>rw [e] at hy;exact absurd hy (by simp)
 | some x=>rw [e] at hy;exact h x (List.mem_of_getElem? e) y hy
theorem zg5 {z:List α} (h:∀ y ∈ z,p y) (i:Nat):∀ y ∈ z.eraseIdx i,p y:=fun y hy=>h y (List.mem_of_mem_eraseIdx hy)
theorem zg6 {z:List α} (h:∀ y ∈ z,p y) {a:α} (ha:p a):∀ y ∈ z++[a],p y:=fun y hy=>by
 rcases List.mem_append.1 hy with hy | hy
 ·exact h y hy
 ·rw [List.mem_singleton] at hy;rw [hy];exact ha
theorem in_at {z:List α} {d:α} (h:∀ y ∈ z,p y) (hd:p d) (i:Nat):p (z.getD i d):=by
 rw [List.getD_eq_getElem?_getD]
 cases e:z[i]? with
 | none=>exact hd
 | some x=>exact h x (List.mem_of_getElem? e)
end
theorem zan:InR 0:=by unfold InR;omega
section
variable {S : St} {who ch : Int} {c n : Nat}
theorem GIn.open (h:GIn S) (n:Nat) (ch:Int):GIn (S.open n ch).1∧InR (S.open n ch).2.1:=by
 unfold St.open
 dsimp only
 split
 ·exact ⟨⟨h.wait,h.conds,h.downs⟩,zan⟩
 ·exact ⟨⟨ze1 h.wait n (zg5 (zbg h.wait n) _),h.conds,h.downs⟩,in_at (zbg h.wait n) zan _⟩
theorem GIn.lock (h:GIn S) (hw:InR who) (n:Nat):GIn (S.lock who n).1:=by
 unfold St.lock
 split
 ·exact h
 ·split
  ·exact ⟨ze1 h.wait n (zg6 (zbg h.wait n) hw),h.conds,h.downs⟩
  ·exact ⟨h.wait,h.conds,h.downs⟩
theorem GIn.unlock (h:GIn S) (who:Int) (n:Nat) (ch:Int):GIn (S.unlock who n ch).1∧InR (S.unlock who n ch).2.1:=by
 unfold St.unlock
 split
 ·exact ⟨h,zan⟩
 ·exact h.open n ch
theorem GIn.hold (h:GIn S) (hw:InR who) (c n:Nat) (ch:Int):GIn (S.hold who c n ch).1∧InR (S.hold who c n ch).2.1:=by
 unfold St.hold
 split
 ·exact ⟨h,zan⟩
 ·split
  ·exact ⟨h,zan⟩
  ·have ⟨h1,h2⟩:=h.open n ch
   exact ⟨⟨h1.wait,ze1 (p:=fun p:Int × Int=>InR p.1) h.conds c (zg6 (p:=fun p:Int × Int=>InR p.1) (zbg (p:=fun p:Int × Int=>InR p.1) h.conds c) (a:=(who,(n:Int))) hw),h1.downs⟩,h2⟩
theorem GIn.down (h:GIn S) (hw:InR who) (n:Nat):GIn (S.down who n).1:=by
 unfold St.down
 split
 ·exact h
 ·split
  ·exact ⟨h.wait,h.conds,h.downs⟩
  ·exact ⟨h.wait,h.conds,ze1 h.downs n (zg6 (zbg h.downs n) hw)⟩
theorem GIn.up (h:GIn S) (n:Nat) (ch:Int):GIn (S.up n ch).1∧InR (S.up n ch).2.1:=by
 unfold St.up
 split
 ·exact ⟨⟨h.wait,h.conds,ze1 h.downs n (zg5 (zbg h.downs n) _)⟩,in_at (zbg h.downs n) zan _⟩
 ·split
  ·exact ⟨h,zan⟩
  ·exact ⟨⟨h.wait,h.conds,h.downs⟩,zan⟩
theorem GIn.goes:∀ (r:List (Int × Int)) {S:St} (h:GIn S) (hr:∀ p ∈ r,InR p.1),GIn (S.goes r).1∧(∀ x ∈ (S.goes r).2,InR x)∧(S.goes r).1.conds=S.conds
 | [],S,h,_=>⟨h,by intro x hx;exact absurd hx (by simp [St.goes]),rfl⟩
 | p::r,S,h,hr=>by
  have hp:=hr p (List.mem_cons_self ..)
  have h1:GIn (S.goes1 p).1∧(∀ x ∈ (S.goes1 p).2,InR x)∧(S.goes1 p).1.conds=S.conds:=by
   unfold St.goes1
   dsimp only
   split
   ·exact ⟨⟨ze1 h.wait _ (zg6 (zbg h.wait _) hp),h.conds,h.downs⟩,fun x hx=>absurd hx (by simp),rfl⟩
   ·exact ⟨⟨h.wait,h.conds,h.downs⟩,fun x hx=>by rw [List.mem_singleton] at hx;rw [hx];exact hp,rfl⟩
  have ih:=GIn.goes r h1.1 (fun x hx=>hr x (List.mem_cons_of_mem _ hx))
  have e:S.goes (p::r)=(((S.goes1 p).1.goes r).1,(S.goes1 p).2++((S.goes1 p).1.goes r).2):=rfl
  rw [e]
  refine ⟨ih.1,fun x hx=>?_,ih.2.2.trans h1.2.2⟩
  rcases List.mem_append.1 hx with hx | hx
  ·exact h1.2.1 x hx
  ·exact ih.2.1 x hx
theorem GIn.signal (h:GIn S) (c:Nat) (ch:Int) (all:Bool):GIn (S.signal c ch all).1∧(∀ x ∈ (S.signal c ch all).2,InR x)∧(S.signal c ch all).1.conds=S.conds.set c (S.kept c ch all):=by
 have ht:∀ p ∈ S.told c ch all,InR p.1:=by
  have hg:=zbg (p:=fun p:Int × Int=>InR p.1) h.conds c
  unfold St.told
  dsimp only
  split
  ·exact hg
  ·split
   ·intro p hp;exact absurd hp (by simp)
   ·intro p hp
    rw [List.mem_singleton] at hp
    rw [hp]
    exact in_at (p:=fun p:Int × Int=>InR p.1) hg zan _
 have hk:∀ p ∈ S.kept c ch all,InR p.1:=by
  have hg:=zbg (p:=fun p:Int × Int=>InR p.1) h.conds c
  unfold St.kept
  dsimp only
  split
  ·intro p hp;exact absurd hp (by simp)
  ·split
   ·intro p hp;exact absurd hp (by simp)
   ·exact zg5 (p:=fun p:Int × Int=>InR p.1) hg _
 exact GIn.goes _ ⟨h.wait,ze1 (p:=fun p:Int × Int=>InR p.1) h.conds c hk,h.downs⟩ ht
end
end Dk
namespace Go.Proofs.YtglhhlfopccmaaaGreat
open Go.RowKit Go.Lib
section
variable {W w w' : World} {L : Dk.Loc} {q : Dk.Sp} {k n c m : Nat} {ch : Int} {us us' us1 us2 : List Dk.Thing} {t : Dk.Thing}
theorem gLock (h:Cor W w L q k us) (hn:n < 16) (hm:m < q.gates.owner.length) :
  Calls Tryz.prog 153 #[.pointer (some ⟨L.bg,0,none⟩),.int .i64 (n:Int),.int .i64 (m:Int)] w fun e w'=>e=.returned (.tuple #[.bool (q.gates.lock n m).2.1,.int .i64 (q.gates.lock n m).2.2])∧Cor W w' L { q with gates:=(q.gates.lock n m).1 } k us:=by
 obtain ⟨rest,hG,hI,hb⟩:=h.gates
 refine (Lock_all hG (by omega) hm (Dk.InR.i64 (Dk.zay hn))).mono ?_
 rintro e w' ⟨rfl,h'⟩
 exact ⟨rfl,hb w' _ [] _ h' (hI.lock (Dk.zay hn) m)⟩
theorem gUnlock (h:Cor W w L q k us) (hn:n < 16) (hm:m < q.gates.owner.length) (hc:Dk.i64 ch) :
  Calls Tryz.prog 155 #[.pointer (some ⟨L.bg,0,none⟩),.int .i64 (n:Int),.int .i64 (m:Int),.int .i64 ch] w fun e w'=>e=.returned (.tuple #[.int .i64 (q.gates.unlock n m ch).2.1,.bool (q.gates.unlock n m ch).2.2.1,.int .i64 (q.gates.unlock n m ch).2.2.2])∧Cor W w' L { q with gates:=(q.gates.unlock n m ch).1 } k us:=by
 obtain ⟨rest,hG,hI,hb⟩:=h.gates
 refine (zlp hG (by omega) hm hc).mono ?_
 rintro e w' ⟨rfl,h'⟩
 exact ⟨rfl,hb w' _ [] _ h' (hI.unlock _ m ch).1⟩
theorem gHold (h:Cor W w L q k us) (hn:n < 16) (hc:c < q.gates.conds.length) (hm:m < q.gates.owner.length) (hch:Dk.i64 ch) :
  Calls Tryz.prog 157 #[.pointer (some ⟨L.bg,0,none⟩),.int .i64 (n:Int),.int .i64 (c:Int),.int .i64 (m:Int),.int .i64 ch] w fun e w'=>e=.returned (.tuple #[.int .i64 (q.gates.hold n c m ch).2.1,.bool (q.gates.hold n c m ch).2.2.1,.int .i64 (q.gates.hold n c m ch).2.2.2])∧Cor W w' L { q with gates:=(q.gates.hold n c m ch).1 } k us:=by
 obtain ⟨rest,hG,hI,hb⟩:=h.gates
 refine (Wait_all hG (by omega) hc hm (Dk.InR.i64 (Dk.zay hn)) hch).mono ?_
 rintro e w' ⟨rfl,h'⟩
 exact ⟨rfl,hb w' _ [] _ h' (hI.hold (Dk.zay hn) c m ch).1⟩
theorem gDown (h:Cor W w L q k us) (hn:n < 16) (hm:m < q.gates.count.length) :
  Calls Tryz.prog 158 #[.pointer (some ⟨L.bg,0,none⟩),.int .i64 (n:Int),.int .i64 (m:Int)] w fun e w'=>e=.returned (.tuple #[.bool (q.gates.down n m).2.1,.int .i64 (q.gates.down n m).2.2])∧Cor W w' L { q with gates:=(q.gates.down n m).1 } k us:=by
 obtain ⟨rest,hG,hI,hb⟩:=h.gates
 refine (Down_all hG (by omega) hm (Dk.InR.i64 (Dk.zay hn))).mono ?_
 rintro e w' ⟨rfl,h'⟩
 exact ⟨rfl,hb w' _ [] _ h' (hI.down (Dk.zay hn) m)⟩
theorem gUp (h:Cor W w L q k us) (hm:m < q.gates.count.length) (hc:Dk.i64 ch) :
  Calls Tryz.prog 159 #[.pointer (some ⟨L.bg,0,none⟩),.int .i64 (m:Int),.int .i64 ch] w fun e w'=>e=.returned (.tuple #[.int .i64 (q.gates.up m ch).2.1,.bool (q.gates.up m ch).2.2.1,.int .i64 (q.gates.up m ch).2.2.2])∧Cor W w' L { q with gates:=(q.gates.up m ch).1 } k us:=by
 obtain ⟨rest,hG,hI,hb⟩:=h.gates
 refine (Up_all hG (by omega) hm hc).mono ?_
 rintro e w' ⟨rfl,h'⟩
 exact ⟨rfl,hb w' _ [] _ h' (hI.up m ch).1⟩
theorem gWaiters (h:Cor W w L q k us) (hm:m < q.gates.conds.length) (l:List Int) (el:(q.gates.conds.getD m []).map Prod.fst=l) :
  Calls Tryz.prog 203 #[.pointer (some ⟨L.bg,0,none⟩),.int .i64 2,.int .i64 (m:Int)] w fun e w'=>∃ A C,e=.returned (.slice A l.length C)∧Cor W w' L q k (Dk.rowOf 3 1 (.slice A l.length C) l.length (Dk.is l)::us):=by
 obtain ⟨rest,hG,hI,hb⟩:=h.gates
 refine (Waiters2 hG (by omega) hm l el).mono ?_
 rintro e w' ⟨A,C,rfl,h'⟩
 exact ⟨A,C,rfl,hb w' _ [_] _ h' hI⟩
theorem gSignal (h:Cor W w L q k us) (hm:m < q.gates.conds.length) (hc:Dk.i64 ch) (all:Bool) :
  Calls Tryz.prog 204 #[.pointer (some ⟨L.bg,0,none⟩),.int .i64 (m:Int),.int .i64 ch,.bool all] w fun e w'=>∃ A C,e=.returned (.tuple #[.slice A (q.gates.signal m ch all).2.length C,.int .i64 0])∧Cor W w' L { q with gates:=(q.gates.signal m ch all).1 } k (Dk.rowOf 3 1 (.slice A (q.gates.signal m ch all).2.length C) (q.gates.signal m ch all).2.length (Dk.is (q.gates.signal m ch all).2)::us):=by
 obtain ⟨rest,hG,hI,hb⟩:=h.gates
 refine (zll hG (by omega) hm hc all).mono ?_
 rintro e w' ⟨A,C,rfl,h'⟩
 exact ⟨A,C,rfl,hb w' _ [_] _ h' (hI.signal m ch all).1⟩
end
end Go.Proofs.YtglhhlfopccmaaaGreat
namespace Dk
theorem Sp.zmg (q:Sp) (l:List Int) (x:Int):q.moved (l++[x])=(q.moved l).setT x.toNat { (q.moved l).thr x.toNat with why:=1 }:=by
 unfold Sp.moved
 rw [List.foldl_append]
 rfl
end Dk
namespace Go.Proofs.YtglhhlfopccmaaaGreat
open Go.RowKit Go.Lib
section
variable {W w w' : World} {L : Dk.Loc} {q : Dk.Sp} {k n c m : Nat} {ch : Int} {us us' us1 us2 : List Dk.Thing} {t : Dk.Thing}
theorem signal_t (h:Cor W w L q k us) (hm:m < q.gates.conds.length) (hc:Dk.i64 ch) (all:Bool) (xs ys zs:List Int) (ex:(q.gates.conds.getD m []).map Prod.fst=xs) (q1:Dk.Sp) (e1:{ q with gates:=(q.gates.signal m ch all).1 }=q1) (ez:(q.gates.signal m ch all).2=zs) (hm1:m < q1.gates.conds.length) (ey:(q1.gates.conds.getD m []).map Prod.fst=ys) (hx:∀ x ∈ xs,Dk.InR x) (hy:∀ y ∈ ys,Dk.i64 y) :
  Calls Tryz.prog 160 #[.pointer (some ⟨L.b,0,none⟩),.int .i64 (m:Int),.int .i64 ch,.bool all] w fun e w'=>∃ A C,e=.returned (.slice A zs.length C)∧Cor W w' L (q1.moved (xs.filter fun w=>!ys.contains w)) k (Dk.rowOf 3 1 (.slice A zs.length C) zs.length (Dk.is zs)::us):=by
 have c0:=h.gatePtr
 have K0:=gWaiters h hm xs ex
 have HX:Hid (∀ x ∈ xs,Dk.InR x):=hx
 have HY:Hid (∀ y ∈ ys,Dk.i64 y):=hy
 have HM:Hid (m < q1.gates.conds.length):=hm1
 have HE:Hid _:=ey
 have HG:Hid (∀ (w:World) (us:List Dk.Thing),Cor W w L q k us→Calls Tryz.prog 204 #[.pointer (some ⟨L.bg,0,none⟩),.int .i64 (m:Int),.int .i64 ch,.bool all] w fun e w'=>∃ A C,e=.returned (.tuple #[.slice A zs.length C,.int .i64 0])∧Cor W w' L q1 k (Dk.rowOf 3 1 (.slice A zs.length C) zs.length (Dk.is zs)::us)):=by
  intro w us h
  have K:=gSignal h hm hc all
  rw [e1,ez] at K
  exact K
 obtain ⟨nx,enx⟩:∃ n,n=xs.length:=⟨_,rfl⟩
 have HN:Hid (nx=xs.length):=enx
 rw [← enx] at K0
 clear hx hy hm1 ey ex e1 ez enx hm hc h
 go_enter Tryz.func160,Tryz.ntmps160
 go_wp2_with fail
 refine K0.mono ?_
 rintro e w1 ⟨A,C,rfl,h1⟩
 clear K0 c0
 have c1:=h1.gatePtr
 have K1:=HG.out w1 _ h1
 clear h1 HG
 go_wp2_with fail
 refine K1.mono ?_
 rintro e w2 ⟨A2,C2,rfl,h2⟩
 clear K1 c1
 have c2:=h2.gatePtr
 have K2:=gWaiters h2 HM.out ys HE.out
 clear h2 HM HE
 go_wp2_with fail
 refine K2.mono ?_
 rintro e w3 ⟨A3,C3,rfl,h3⟩
 clear K2 c2
 have HR:Hid (Cor W w3 L q1 k (Dk.rowOf 3 1 (.slice A3 ys.length C3) ys.length (Dk.is ys)::Dk.rowOf 3 1 (.slice A2 zs.length C2) zs.length (Dk.is zs)::Dk.rowOf 3 1 (.slice A nx C) nx (Dk.is xs)::us)):=h3
 clear h3
 generalize ys.length=ny at *
 go_wp2_with fail
 go_loopw [40] (fun i w'=>∃ (j:Nat),j≤nx∧i=.int .i64 j∧Cor W w' L (q1.moved ((xs.take j).filter fun w=>!ys.contains w)) k (Dk.rowOf 3 1 (.slice A3 ny C3) ny (Dk.is ys)::Dk.rowOf 3 1 (.slice A2 zs.length C2) zs.length (Dk.is zs)::Dk.rowOf 3 1 (.slice A nx C) nx (Dk.is xs)::us)) (fun i w'=>nx - (intOf i).toNat)
 case atStart=>exact ⟨0,Nat.zero_le _,rfl,HR.out⟩
 case round=>
  clear HR
  obtain ⟨j,hj,rfl,hC⟩:=hrel
  by_cases hlt:j < nx
  ·have hlt':j < xs.length:=by have:=HN.out;omega
   obtain ⟨x,ep⟩:∃ x,xs[j]? = some x:=⟨_,List.getElem?_eq_getElem hlt'⟩
   obtain ⟨a,ha,ea⟩:∃ a:Nat,a < 16∧x=a:=by
    obtain ⟨q0,q1⟩:=HX.out x (List.mem_of_getElem? ep)
    exact ⟨x.toNat,by omega,(Int.toNat_of_nonneg q0).symm⟩
   subst ea
   have hrow:=hC.row (e:=3) (s:=1) (v:=.slice A nx C) (m:=nx) (xs:=Dk.is xs) (by simp)
   obtain ⟨g,C9,x2,ev,e1,e2,ex2,ec,ef,_⟩:=Dk.zbf hrow hlt
   rw [List.getElem?_map,ep] at ex2
   cases ex2
   obtain rfl:A=some ⟨g,0,none⟩:=by injection ev
   have hyr:=hC.row (e:=3) (s:=1) (v:=.slice A3 ny C3) (m:=ny) (xs:=Dk.is ys) (by simp)
   have eny:ny=ys.length:=by
    have:=hyr.1
    simp [Dk.is] at this
    omega
   have hyr':=hyr
   rw [eny] at hyr'
   obtain ⟨A',C',ev',hs⟩:=Dk.zbe hyr' HY.out
   rw [← eny] at ev'
   injection ev' with v1 v2 v3
   subst v1 v3
   have KC:=zd4 A3 ys.length C3 ys (a:Int) wr hs
   rw [← eny] at KC
   clear hyr hyr' eny hs hrow ev ef v2
   unfold maxLen at e2
   have et:(xs.take (j+1)).filter (fun w=>!ys.contains w)=(xs.take j).filter (fun w=>!ys.contains w)++(if ys.contains (a:Int) then [] else [(a:Int)]):=by
    rw [List.take_add_one,ep,Option.toList_some,List.filter_append]
    rw [List.filter_cons,List.filter_nil]
    cases ys.contains (a:Int) <;> rfl
   have i1:(a:Int) < 16:=by omega
   have i2:(0:Int)≤(a:Int):=by omega
   have HT:Hid _:=et
   clear et ep
   cases hcn:ys.contains (a:Int)
   ·rw [hcn] at KC
    have HQ:Hid (q1.moved ((xs.take (j+1)).filter fun w=>!ys.contains w)=(q1.moved ((xs.take j).filter fun w=>!ys.contains w)).setT a { (q1.moved ((xs.take j).filter fun w=>!ys.contains w)).thr a with why:=1 }):=by
     have:=HT.out
     rw [hcn] at this
     rw [this]
     exact Dk.Sp.zmg _ _ _
    generalize q1.moved ((xs.take j).filter fun w=>!ys.contains w)=qj at *
    have c10:wr.cell? ⟨L.b,10+a*20+10,none⟩=some (.int .i64 (qj.thr a).why):=hC.cellAt ha 10 (by omega)
    have f10:=hC.frozenAt (10+a*20+10)
    have h4:=hC.setT ha 10 (by omega) { qj.thr a with why:=1 } (.int .i64 1) rfl
    rw [← HQ.out] at h4
    have H4:Hid _:=h4
    clear h4 hC HQ HT hcn
    go_wp2_with (go_at_call 205;refine KC.mono ?_;rintro e w' ⟨rfl,ew⟩;subst w')
    go_roundw
    case rel=>exact ⟨j+1,by omega,by go_num,H4.out⟩
    case measure=>simp [intOf];omega
   ·rw [hcn] at KC
    have HQ:Hid (q1.moved ((xs.take (j+1)).filter fun w=>!ys.contains w)=q1.moved ((xs.take j).filter fun w=>!ys.contains w)):=by
     have:=HT.out
     rw [hcn] at this
     rw [this]
     exact congrArg q1.moved (List.append_nil _)
    have h4:=hC
    rw [← HQ.out] at h4
    have H4:Hid _:=h4
    clear h4 hC HQ HT hcn
    go_wp2_with (go_at_call 205;refine KC.mono ?_;rintro e w' ⟨rfl,ew⟩;subst w')
    go_roundw
    case rel=>exact ⟨j+1,by omega,by go_num,H4.out⟩
    case measure=>simp [intOf];omega
  ·obtain rfl:j=nx:=by omega
   have z1:decide ((j:Int) < (j:Int))=false:=decide_eq_false (by omega)
   have hD:Cor W wr L (q1.moved (xs.filter fun w=>!ys.contains w)) k (Dk.rowOf 3 1 (.slice A2 zs.length C2) zs.length (Dk.is zs)::us):=by
    have e:xs.take j=xs:=List.take_of_length_le (by have:=HN.out;omega)
    rw [e] at hC
    exact hC.drop.swap.drop
   clear hC
   go_wp2_with fail
   go_ret
   exact ⟨A2,C2,rfl,hD⟩
theorem zge (h:Cor W w L q k us) (hm:m < q.gates.conds.length) (hI:Dk.GIn q.gates) (hc:Dk.i64 ch) (all:Bool) :
  Calls Tryz.prog 160 #[.pointer (some ⟨L.b,0,none⟩),.int .i64 (m:Int),.int .i64 ch,.bool all] w fun e w'=>∃ A C,e=.returned (.slice A (q.signal m ch all).2.length C)∧Cor W w' L (q.signal m ch all).1 k (Dk.rowOf 3 1 (.slice A (q.signal m ch all).2.length C) (q.signal m ch all).2.length (Dk.is (q.signal m ch all).2)::us):=by
 obtain ⟨g1,g2,g3⟩:=hI.signal m ch all
 have i1:=Dk.zbg (p:=fun p:Int × Int=>Dk.InR p.1) hI.conds m
 have i2:=Dk.zbg (p:=fun p:Int × Int=>Dk.InR p.1) g1.conds m
 exact signal_t h hm hc all _ _ _ rfl _ rfl rfl (by rw [g3,List.length_set];exact hm) rfl (fun x hx=>by
  obtain ⟨p,hp,rfl⟩:=List.mem_map.1 hx
  exact i1 p hp) (fun x hx=>by
  obtain ⟨p,hp,rfl⟩:=List.mem_map.1 hx
  exact (i2 p hp).i64)
end
end Go.Proofs.YtglhhlfopccmaaaGreat
