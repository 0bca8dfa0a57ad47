import Derived.Test.YtglhhlfopccmaaaGreatOr43
set_option linter.unusedSimpArgs false
set_option linter.unusedVariables false
set_option linter.unnecessarySimpa false
set_option maxHeartbeats 8000000
set_option maxRecDepth 100000
namespace Dk
open Go Go.RowKit
def readyM (cs:List Cell) (n:Int):List Int:=if n < 0 then [] else match cs[n.toNat]? with
 | none=>[]
 | some c=>c.q.ready
def recsM (cs:List Cell) (n:Int):List Rec:=if n < 0 then [] else match cs[n.toNat]? with
 | none=>[]
 | some c=>c.q.recs
theorem run_in {q:Sp} (h16:q.st.length=16) (slot ch:Int):(q.run slot ch).2.2=0 ↔ slot ∈ q.ready:=by
 constructor
 ·intro h
  unfold Sp.run at h
  dsimp only at h
  by_cases hu:q.usedB slot=false
  ·rw [if_pos hu] at h
   exact absurd h (show ¬ (1:Int)=0 by decide)
  rw [if_neg hu] at h
  by_cases hw:(q.thr slot.toNat).why≠0
  ·rw [if_pos hw] at h
   exact absurd h (show ¬ (4:Int)=0 by decide)
  have hu':q.usedB slot=true:=by simpa using hu
  unfold Sp.usedB at hu'
  rw [Bool.and_eq_true,decide_eq_true_iff] at hu'
  have hlt:=ze7 hu'.2
  rw [h16] at hlt
  unfold Sp.ready usl
  refine List.mem_filter.2 ⟨List.mem_map.2 ⟨slot.toNat,List.mem_filter.2 ⟨List.mem_range.2 hlt,hu'.2⟩,?_⟩,?_⟩
  ·show ((slot.toNat:Nat):Int)=slot
   omega
  ·have:(q.thr slot.toNat).why=0:=by omega
   simp [this]
 ·intro h
  obtain ⟨n,rfl,hn,hu,hw⟩:=zj3 h
  have e:((n:Nat):Int).toNat=n:=by omega
  unfold Sp.run
  dsimp only
  rw [e]
  have hu':¬ q.usedB (n:Int)=false:=by unfold Sp.usedB;rw [e,hu];simp
  rw [if_neg hu',if_neg (by rw [hw];simp)]
  repeat' split
  all_goals rfl
theorem set_at {cs:List Cell} {i:Nat} {c c':Cell} (hc:cs[i]? = some c):(cs.set i c')[i]? = some c':=List.getElem?_set_self (List.getElem?_eq_some_iff.1 hc).1
theorem doM_same {cs:List Cell} {ak asp ath ach:Int} (h:(doM cs ak asp ath ach).2≠0):readyM (doM cs ak asp ath ach).1 asp=readyM cs asp∧recsM (doM cs ak asp ath ach).1 asp=recsM cs asp:=by
 unfold doM at h ⊢
 by_cases h1:ak=1
 ·rw [if_pos h1] at h ⊢
  by_cases h0:asp < 0
  ·rw [if_pos h0];exact ⟨rfl,rfl⟩
  ·rw [if_neg h0] at h ⊢
   cases hc:cs[asp.toNat]? with
   | none=>exact ⟨rfl,rfl⟩
   | some c=>
    rw [hc] at h
    have e:=(zom h).1
    unfold readyM recsM Cell.go
    rw [if_neg h0,if_neg h0,if_neg h0,if_neg h0]
    dsimp only
    rw [set_at hc,hc]
    dsimp only
    rw [e]
    exact ⟨rfl,rfl⟩
 rw [if_neg h1] at h ⊢
 by_cases h2:ak=2
 ·rw [if_pos h2] at h ⊢
  by_cases h0:asp < 0
  ·rw [if_pos h0];exact ⟨rfl,rfl⟩
  ·rw [if_neg h0] at h ⊢
   cases hc:cs[asp.toNat]? with
   | none=>exact ⟨rfl,rfl⟩
   | some c=>
    rw [hc] at h
    have e:=(done_no h).1
    unfold readyM recsM Cell.go
    rw [if_neg h0,if_neg h0,if_neg h0,if_neg h0]
    dsimp only
    rw [set_at hc,hc]
    dsimp only
    rw [e]
    exact ⟨rfl,rfl⟩
 rw [if_neg h2] at h ⊢
 by_cases h3:ak=3
 ·rw [if_pos h3] at h
  exact absurd rfl h
 ·rw [if_neg h3];exact ⟨rfl,rfl⟩
theorem doM_run {cs:List Cell} (h16:∀ c ∈ cs,c.q.st.length=16) (asp ath ach:Int):(doM cs 1 asp ath ach).2=0 ↔ ath ∈ readyM cs asp:=by
 unfold doM readyM
 rw [if_pos rfl]
 by_cases h0:asp < 0
 ·rw [if_pos h0,if_pos h0];simp
 rw [if_neg h0,if_neg h0]
 cases hc:cs[asp.toNat]? with
 | none=>simp
 | some c=>exact run_in (h16 c (List.mem_of_getElem? hc)) ath ach
theorem doM_len (cs:List Cell) (ak asp ath ach:Int):(doM cs ak asp ath ach).1.length=cs.length:=by
 unfold doM
 repeat' split
 all_goals simp
theorem zlg {cs:List Cell} {n:Int}:∀ x ∈ readyM cs n,i64 x:=by
 intro x hx
 unfold readyM at hx
 split at hx
 ·simp at hx
 ·split at hx
  ·simp at hx
  ·exact zoe x hx
theorem M_no {cs:List Cell} {n:Int} (h:n < 0∨(cs.length:Int)≤n):readyM cs n=[]∧recsM cs n=[]:=by
 unfold readyM recsM
 by_cases h0:n < 0
 ·rw [if_pos h0,if_pos h0];exact ⟨rfl,rfl⟩
 ·rw [if_neg h0,if_neg h0,List.getElem?_eq_none (by omega)]
  exact ⟨rfl,rfl⟩
theorem M_yes {cs:List Cell} {k:Nat} {c:Cell} (h:cs[k]? = some c):readyM cs (k:Int)=c.q.ready∧recsM cs (k:Int)=c.q.recs:=by
 unfold readyM recsM
 rw [if_neg (by omega),if_neg (by omega),show ((k:Nat):Int).toNat=k by omega,h]
 exact ⟨rfl,rfl⟩
theorem zf0 (cs:List Cell) (n:Int):(n < 0∨(cs.length:Int)≤n)∨∃ (k:Nat) (c:Cell),n=k∧cs[k]? = some c:=by
 by_cases h:n < 0∨(cs.length:Int)≤n
 ·exact Or.inl h
 ·exact Or.inr ⟨n.toNat,cs[n.toNat]'(by omega),by omega,List.getElem?_eq_getElem (by omega)⟩
end Dk
namespace Go.Proofs.YtglhhlfopccmaaaGreat
open Go.RowKit Go.Lib
section
variable {W w w' : World} {b j : Nat} {lev : Nat → Nat} {cs : List Dk.Cell} {us us' : List Dk.Thing}
theorem OneM.nil (h:OneM W w b cs lev us) (e:TypeId) (s:Nat):OneM W w b cs lev (Dk.rowOf e s (.slice none 0 0) 0 []::us):=h.with fun _ _ s'=>s'.nil e s
theorem OneM.h16 (h:OneM W w b cs lev us):∀ c ∈ cs,c.q.st.length=16:=fun c hc=>by
 obtain ⟨i,hi⟩:=List.getElem?_of_mem hc
 obtain ⟨rest,hG,hB,_⟩:=h.at hi
 rw [hG.dims.sl]
 exact hB.h16
theorem zdc (h:OneM W w b cs lev us) (n:Int):Calls Tryz.prog 40 #[.pointer (some ⟨b,0,none⟩),.int .i64 n] w fun e w'=>∃ A C,e=.returned (.slice A (Dk.readyM cs n).length C)∧OneM W w' b cs lev (Dk.rowOf 3 1 (.slice A (Dk.readyM cs n).length C) (Dk.readyM cs n).length (Dk.is (Dk.readyM cs n))::us):=by
 rcases Dk.zf0 cs n with hn | ⟨k,c,rfl,hc⟩
 ·rw [(Dk.M_no hn).1]
  refine (zmc h n hn).mono ?_
  rintro e w' ⟨rfl,rfl⟩
  exact ⟨none,0,rfl,h.nil 3 1⟩
 ·rw [(Dk.M_yes hc).1]
  exact ze9 h hc
theorem zbz (h:OneM W w b cs lev us) (hl:∀ i,lev i≤150) (n:Int):Calls Tryz.prog 38 #[.pointer (some ⟨b,0,none⟩),.int .i64 n] w fun e w'=>∃ A C,e=.returned (.slice A (Dk.recsM cs n).length C)∧OneM W w' b cs lev (Dk.rowOf 74 6 (.slice A (Dk.recsM cs n).length C) (Dk.recsM cs n).length ((Dk.recsM cs n).flatMap Dk.Rec.cells)::us):=by
 rcases Dk.zf0 cs n with hn | ⟨k,c,rfl,hc⟩
 ·rw [(Dk.M_no hn).2]
  refine (zh8 h n hn).mono ?_
  rintro e w' ⟨rfl,rfl⟩
  exact ⟨none,0,rfl,h.nil _ 6⟩
 ·rw [(Dk.M_yes hc).2]
  exact zb0 h hc (hl k)
theorem DoO_any (h:OneM W w b cs (fun _=>j) us) (hj:j≤149) (h8:cs.length≤8) (ak asp ath ach:Int) (i2:Dk.i64 ach):Calls Tryz.prog 36 #[.pointer (some ⟨b,0,none⟩),.agg #[.int .i64 ak,.int .i64 asp,.int .i64 ath,.int .i64 ach]] w fun e w'=>e=.returned (.int .i64 (Dk.doM cs ak asp ath ach).2)∧OneM W w' b (Dk.doM cs ak asp ath ach).1 (fun _=>j+1) us:=by
 have up:∀ (w':World) cs',OneM W w' b cs' (fun _=>j) us→OneM W w' b cs' (fun _=>j+1) us:=fun w' cs' h=>h.le (fun _=>by omega)
 by_cases h1:ak=1
 ·subst h1
  rcases Dk.zf0 cs asp with hn | ⟨k,c,rfl,hc⟩
  ·have e:Dk.doM cs 1 asp ath ach=(cs,1):=by
    unfold Dk.doM
    rw [if_pos rfl]
    by_cases h0:asp < 0
    ·rw [if_pos h0]
    ·rw [if_neg h0,List.getElem?_eq_none (by omega)]
   rw [e]
   refine (zjg h asp ath ach hn).mono ?_
   rintro e w' ⟨rfl,h'⟩
   exact ⟨rfl,up _ _ h'⟩
  ·have e:Dk.doM cs 1 (k:Int) ath ach=(cs.set k (c.go (c.q.run ath ach).1),(c.q.run ath ach).2.2):=by
    unfold Dk.doM
    rw [if_pos rfl,if_neg (by omega),show ((k:Nat):Int).toNat=k by omega,hc]
   rw [e]
   refine (zgz h ath ach k c hc (by omega) i2).mono ?_
   rintro e w' ⟨rfl,h'⟩
   exact ⟨rfl,h'.le (upd_le (fun _=>Nat.le_refl _))⟩
 by_cases h2:ak=2
 ·subst h2
  rcases Dk.zf0 cs asp with hn | ⟨k,c,rfl,hc⟩
  ·have e:Dk.doM cs 2 asp ath ach=(cs,1):=by
    unfold Dk.doM
    rw [if_neg (by decide),if_pos rfl]
    by_cases h0:asp < 0
    ·rw [if_pos h0]
    ·rw [if_neg h0,List.getElem?_eq_none (by omega)]
   rw [e]
   refine (zlx h asp ath ach hn).mono ?_
   rintro e w' ⟨rfl,h'⟩
   exact ⟨rfl,up _ _ h'⟩
  ·have e:Dk.doM cs 2 (k:Int) ath ach=(cs.set k (c.go (c.q.done ach).1),(c.q.done ach).2.2):=by
    unfold Dk.doM
    rw [if_neg (by decide),if_pos rfl,if_neg (by omega),show ((k:Nat):Int).toNat=k by omega,hc]
   rw [e]
   refine (zkd h ath ach k c hc (by omega) i2).mono ?_
   rintro e w' ⟨rfl,h'⟩
   exact ⟨rfl,h'.le (upd_le (fun _=>Nat.le_refl _))⟩
 by_cases h3:ak=3
 ·subst h3
  have e:Dk.doM cs 3 asp ath ach=(cs.map Dk.Cell.tick,0):=rfl
  rw [e]
  exact DoTick h asp ath ach (fun _=>by omega) h8
 ·have e:Dk.doM cs ak asp ath ach=(cs,1):=by
   unfold Dk.doM
   rw [if_neg h1,if_neg h2,if_neg h3]
  rw [e]
  refine (DoOther h ak asp ath ach h1 h2 h3).mono ?_
  rintro e w' ⟨rfl,h'⟩
  exact ⟨rfl,up _ _ h'⟩
theorem NewO_any {A:Option Addr} {L C:Nat} {ps:List (Dk.Sh × Dk.Prg)} (w:World) (h:Dk.SlP w.heap.size w A L C ps) :
  Calls Tryz.prog 33 #[.slice A L C] w fun e w'=>(∃ z:Int,z≠0∧e=.returned (.tuple #[.pointer none,.int .i64 z])∧Below w.heap.size w w')∨(∃ b cs,e=.returned (.tuple #[.pointer (some ⟨b,0,none⟩),.int .i64 0])∧OneM w w' b cs (fun _=>0) []∧cs.length=ps.length∧cs.length≤8∧1≤cs.length∧cs.map Dk.Cell.q=ps.map (fun x=>Dk.Sp.fresh x.2)∧cs.map Dk.Cell.q0=ps.map (fun x=>Dk.Sp.fresh x.2)):=by
 by_cases hL:1≤L∧L≤8
 ·refine (NewO_t w h (Nat.le_refl _) hL).mono ?_
  rintro e w' (⟨hz,rfl,hb⟩ | ⟨hz,b,cs,rfl,hO,hq,hq0⟩)
  ·exact Or.inl ⟨_,hz,rfl,hb⟩
  ·have e:=congrArg List.length hq
   rw [List.length_map,List.length_map] at e
   have:=h.len
   exact Or.inr ⟨b,cs,rfl,hO,e,by omega,by omega,hq,hq0⟩
 ·refine (NewO_few w (by omega) ⟨h.cap,h.max⟩).mono ?_
  rintro e w' ⟨rfl,rfl⟩
  exact Or.inl ⟨1,by decide,rfl,Below.refl _ _⟩
end
end Go.Proofs.YtglhhlfopccmaaaGreat
namespace Dk
open Go Go.RowKit
theorem zmp {B:Nat} {w:World} {A:Option Addr} {L C:Nat} {ac:List (List Int)} (h:Row 4 [] IsInts B w A L C ac) (h0:0 < L):∃ b o,A=some ⟨b,o,none⟩∧b < B∧∀ k,k < L→∃ x0 x1 x2 x3,(i64 x0∧i64 x1∧i64 x2∧i64 x3)∧w.cell? ⟨b,o+k*4,none⟩=some (.int .i64 x0)∧w.cell? ⟨b,o+k*4+1,none⟩=some (.int .i64 x1)∧w.cell? ⟨b,o+k*4+2,none⟩=some (.int .i64 x2)∧w.cell? ⟨b,o+k*4+3,none⟩=some (.int .i64 x3):=by
 obtain ⟨b,o,e,hb,hc⟩:=h.cells h0
 refine ⟨b,o,e,hb,fun k hk=>?_⟩
 obtain ⟨vs,h1,⟨rfl,h2⟩,h3⟩:=hc k hk
 match hm:ac.getD k [],h1,h2,h3 with
 | [x0,x1,x2,x3],_,h2,h3=>exact ⟨x0,x1,x2,x3,⟨h2 x0 (by simp),h2 x1 (by simp),h2 x2 (by simp),h2 x3 (by simp)⟩,h3 0 (by omega),h3 1 (by omega),h3 2 (by omega),h3 3 (by omega)⟩
end Dk
namespace Go.Proofs.YtglhhlfopccmaaaGreat
open Go.RowKit Go.Lib
theorem zh6 {A A':Option Addr} {L C Ln C':Nat} {ps:List (Dk.Sh × Dk.Prg)} {acts:List (List Int)} (w:World) (hp:Dk.SlP w.heap.size w A L C ps) (hr:Dk.Row 4 [] Dk.IsInts w.heap.size w A' Ln C' acts) :
  Calls Tryz.prog 11 #[.slice A L C,.slice A' Ln C'] w fun e w'=>e=.returned (.bool true)∧Below w.heap.size w w':=by
 have K:=NewO_any w hp
 have HR:Hid (Dk.Row 4 [] Dk.IsInts w.heap.size w A' Ln C' acts):=hr
 have hcap:=hr.cap
 have hmax:=hr.max
 unfold maxLen at hmax
 clear hp hr
 go_enter Tryz.func11,Tryz.ntmps11
 go_wp2_with fail
 refine K.mono ?_
 rintro e w1 (⟨z,hz,rfl,u1⟩ | ⟨b,cs0,rfl,hO,_,h8,_⟩)
 ·have hz':(z != 0)=true:=by simp [hz]
  have HU:Hid (Below w.heap.size w w1):=u1
  clear K u1
  go_wp2_with fail
  refine (zfb w1).mono ?_
  rintro e w2 ⟨rfl,u2⟩
  have HU2:Hid (Below w.heap.size w w2):=Dk.zk HU.out u2
  clear u2
  go_wp2_with fail
  go_ret
  exact ⟨rfl,HU2.out⟩
 ·have HO:Hid (OneM w w1 b cs0 (fun _=>0) []):=hO
  have H80:Hid (cs0.length≤8):=h8
  clear K hO h8
  go_wp2_with fail
  go_loopw [7] (fun i w'=>∃ (j:Nat) (cs:List Dk.Cell),i=.int .i64 j∧j≤Ln∧j≤100∧Hid (cs.length≤8)∧OneM w w' b cs (fun _=>j) []) (fun i w'=>Ln - (intOf i).toNat)
  case atStart=>exact ⟨0,cs0,rfl,Nat.zero_le _,by omega,H80,HO.out⟩
  case round=>
   obtain ⟨j,cs,rfl,hj,hj2,h8,hO⟩:=hrel
   clear HO H80
   by_cases hlt:j < Ln∧j < 100
   ·obtain ⟨hlt,hl2⟩:=hlt
    obtain ⟨bb,o,rfl,hb,hc⟩:=Dk.zmp HR.out (by omega)
    obtain ⟨x0,x1,x2,x3,⟨_,_,_,i3⟩,c0,c1,c2,c3⟩:=hc j hlt
    have uT:=hO.out
    rw [← uT.cell (by show bb < _;exact hb)] at c0 c1 c2 c3
    have HJ:Hid (j+1≤Ln∧j+1≤100):=⟨hlt,hl2⟩
    have m1:(j:Int) < (Ln:Int):=by omega
    have m2:(j:Int) < 100:=by omega
    have m3:(0:Int)≤(j:Int):=by omega
    obtain ⟨W2,e2⟩:∃ W2,W2=wr.alloc (.cells #[.int .i64 x0,.int .i64 x1,.int .i64 x2,.int .i64 x3] 88):=⟨_,rfl⟩
    have h2:=hO.newBox e2
    have cb:=(h2.box (a:=wr.heap.size) (ce:=#[.int .i64 x0,.int .i64 x1,.int .i64 x2,.int .i64 x3]) (e:=88) (by simp)).cell
    have K1:=zdc h2 x1
    have H2:Hid _:=e2.symm
    have HH2:Hid _:=h2
    clear hc uT hO e2 h2
    go_wp2_with (rw [H2.out];clear H2)
    refine K1.mono ?_
    rintro e w3 ⟨A1,C1,rfl,h3⟩
    clear K1 cb c0 c1 c2 c3 HH2
    have c3:=(h3.box (a:=wr.heap.size) (ce:=#[.int .i64 x0,.int .i64 x1,.int .i64 x2,.int .i64 x3]) (e:=88) (by simp)).cell
    have K2:=zbz h3 (fun _=>by omega) x1
    generalize hx:Dk.readyM cs x1=xs at *
    go_wp2_with fail
    refine K2.mono ?_
    rintro e w4 ⟨A2,C2,rfl,h4⟩
    clear K2 c3 h3
    have c4:=(h4.box (a:=wr.heap.size) (ce:=#[.int .i64 x0,.int .i64 x1,.int .i64 x2,.int .i64 x3]) (e:=88) (by simp)).cell
    have h4':=h4.drop
    have K3:=DoO_any h4' (by omega) h8.out x0 x1 x2 x3 i3
    have hs:=@Dk.doM_same cs x0 x1 x2 x3
    have hl:=Dk.doM_len cs x0 x1 x2 x3
    have hin:x0=1→((Dk.doM cs x0 x1 x2 x3).2=0 ↔ x2 ∈ xs):=fun h=>by
     rw [h,← hx]
     exact Dk.doM_run h4.h16 x1 x2 x3
    have HX:Hid (∀ x ∈ xs,Dk.i64 x):=by
     rw [← hx]
     exact Dk.zlg
    rw [hx] at hs
    generalize Dk.recsM cs x1=rs at *
    have h9:=h8.out
    generalize Dk.doM cs x0 x1 x2 x3=pr at *
    obtain ⟨cs',z⟩:=pr
    dsimp only at hs hl hin K3
    have HL:Hid (cs'.length≤8):=by show _≤_;omega
    clear hx h8 h9 hl
    go_wp2_with fail
    refine K3.mono ?_
    rintro e w5 ⟨rfl,h5⟩
    clear K3 h4 h4' c4 i3
    have c5:=(h5.box (a:=wr.heap.size) (ce:=#[.int .i64 x0,.int .i64 x1,.int .i64 x2,.int .i64 x3]) (e:=88) (by simp)).cell
    have KI:=In_any A1 xs.length C1 xs x2 w5 (zhw (e:=3) (h5.row (by simp)) HX.out)
    by_cases hz:z=0
    ·have z1:(z == 0)=true:=by simp [hz]
     have z2:(z != 0)=false:=by simp [hz]
     have z3:decide (z=0)=true:=by simp [hz]
     clear hs
     by_cases hk:x0=1
     ·have hcn:xs.contains x2=true:=by simpa using (hin hk).1 hz
      have k1:(x0 == 1)=true:=by simp [hk]
      have k2:decide (x0=1)=true:=by simp [hk]
      rw [hcn] at KI
      clear hin
      subst hz
      subst hk
      go_wp2_with fail
      refine KI.mono ?_
      rintro e w' ⟨rfl,ew⟩
      subst w'
      clear KI
      have HE:Hid (OneM w w5 b cs' (fun _=>j+1) []):=h5.drop.drop
      clear h5
      go_wp2_with fail
      go_roundw
      case rel=>exact ⟨j+1,cs',by go_num,HJ.out.1,HJ.out.2,HL.out,HE.out⟩
      case measure=>
       have:=HJ.out
       simp [intOf];omega
     ·have k1:(x0 == 1)=false:=by simp [hk]
      have k2:decide (x0=1)=false:=by simp [hk]
      clear KI hin
      subst hz
      have HE:Hid (OneM w w5 b cs' (fun _=>j+1) []):=h5.drop.drop
      clear h5
      go_wp2_with fail
      go_roundw
      case rel=>exact ⟨j+1,cs',by go_num,HJ.out.1,HJ.out.2,HL.out,HE.out⟩
      case measure=>
       have:=HJ.out
       simp [intOf];omega
    ·have z1:(z == 0)=false:=by simp [hz]
     have z2:(z != 0)=true:=by simp [hz]
     have z3:decide (z=0)=false:=by simp [hz]
     obtain ⟨hs1,hs2⟩:=hs hz
     by_cases hk:x0=1
     ·have hcn:xs.contains x2=false:=by
       have:¬ x2 ∈ xs:=fun h=>hz ((hin hk).2 h)
       simpa using this
      have k1:(x0 == 1)=true:=by simp [hk]
      have k2:decide (x0=1)=true:=by simp [hk]
      rw [hcn] at KI
      clear hin hs
      subst hk
      go_wp2_with fail
      refine KI.mono ?_
      rintro e w' ⟨rfl,ew⟩
      subst w'
      clear KI
      have K5:=zdc h5 x1
      rw [hs1] at K5
      go_wp2_with fail
      refine K5.mono ?_
      rintro e w6 ⟨A3,C3,rfl,h6⟩
      clear K5 h5
      have K6:=zd7 A1 A3 xs.length C1 C3 xs w6 (zhw (e:=3) (h6.row (by simp)) HX.out) (zhw (e:=3) (h6.row (by simp)) HX.out)
      have h6':=h6.drop
      go_wp2_with fail
      refine K6.mono ?_
      rintro e w7 ⟨rfl,u7⟩
      have h7:=h6'.below u7
      have c7:=(h7.box (a:=wr.heap.size) (ce:=#[.int .i64 1,.int .i64 x1,.int .i64 x2,.int .i64 x3]) (e:=88) (by simp)).cell
      clear K6 h6 h6' u7 c5
      have K7:=zbz h7 (fun _=>by have:=HJ.out.2;omega) x1
      rw [hs2] at K7
      go_wp2_with fail
      refine K7.mono ?_
      rintro e w8 ⟨A4,C4,rfl,h8⟩
      have HE:Hid (OneM w w8 b cs' (fun _=>j+1) []):=h8.drop.drop.drop
      clear K7 h7 h8 c7
      go_wp2_with fail
      go_roundw
      case rel=>exact ⟨j+1,cs',by go_num,HJ.out.1,HJ.out.2,HL.out,HE.out⟩
      case measure=>
       have:=HJ.out
       simp [intOf];omega
     ·have k1:(x0 == 1)=false:=by simp [hk]
      have k2:decide (x0=1)=false:=by simp [hk]
      clear KI hin hs
      have K5:=zdc h5 x1
      rw [hs1] at K5
      go_wp2_with fail
      refine K5.mono ?_
      rintro e w6 ⟨A3,C3,rfl,h6⟩
      clear K5 h5
      have K6:=zd7 A1 A3 xs.length C1 C3 xs w6 (zhw (e:=3) (h6.row (by simp)) HX.out) (zhw (e:=3) (h6.row (by simp)) HX.out)
      have h6':=h6.drop
      go_wp2_with fail
      refine K6.mono ?_
      rintro e w7 ⟨rfl,u7⟩
      have h7:=h6'.below u7
      have c7:=(h7.box (a:=wr.heap.size) (ce:=#[.int .i64 x0,.int .i64 x1,.int .i64 x2,.int .i64 x3]) (e:=88) (by simp)).cell
      clear K6 h6 h6' u7 c5
      have K7:=zbz h7 (fun _=>by have:=HJ.out.2;omega) x1
      rw [hs2] at K7
      go_wp2_with fail
      refine K7.mono ?_
      rintro e w8 ⟨A4,C4,rfl,h8⟩
      have HE:Hid (OneM w w8 b cs' (fun _=>j+1) []):=h8.drop.drop.drop
      clear K7 h7 h8 c7
      go_wp2_with fail
      go_roundw
      case rel=>exact ⟨j+1,cs',by go_num,HJ.out.1,HJ.out.2,HL.out,HE.out⟩
      case measure=>
       have:=HJ.out
       simp [intOf];omega
   ·have HU:Hid (Below w.heap.size w wr):=hO.out
    have fin:(¬ ((j:Int) < (Ln:Int)))∨((j:Int) < (Ln:Int)∧¬ ((j:Int) < 100)):=by omega
    clear hO h8
    rcases fin with m1 | ⟨m1,m2⟩
    all_goals
     go_wp2_with fail
     refine (zfb wr).mono ?_
     rintro e w4 ⟨rfl,u4⟩
     have HU4:Hid (Below w.heap.size w w4):=Dk.zk HU.out u4
     clear u4
     go_wp2_with fail
     go_ret
     exact ⟨rfl,HU4.out⟩
end Go.Proofs.YtglhhlfopccmaaaGreat
