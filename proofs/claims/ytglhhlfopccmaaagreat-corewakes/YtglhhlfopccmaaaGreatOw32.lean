import Derived.Test.YtglhhlfopccmaaaGreatOw31
set_option linter.unusedSimpArgs false
set_option linter.unusedVariables false
set_option linter.unnecessarySimpa false
set_option maxHeartbeats 8000000
set_option maxRecDepth 100000
namespace Go.Proofs.YtglhhlfopccmaaaGreat
open Go.RowKit Go.Lib
section
variable {W w w' : World} {L : Dk.Loc} {q qz : Dk.Sp} {k n : Nat} {us us' us1 us2 : List Dk.Thing} {t : Dk.Thing} {ch : Int}
theorem zcl (xs:List Int) (A:Option Addr) (C:Nat) (h:Cor W w L q k (Dk.rowOf 3 1 (.slice A xs.length C) xs.length (Dk.is xs)::us)) (hm:xs.length≤5000) :
  Calls Tryz.prog 70 #[.slice A xs.length C] w fun e w'=>∃ A' C',e=.returned (.slice A' xs.length C')∧Cor W w' L q k (Dk.rowOf 147 2 (.slice A' xs.length C') xs.length (Dk.prs (xs.map fun x=>(x,0)))::Dk.rowOf 3 1 (.slice A xs.length C) xs.length (Dk.is xs)::us):=by
 obtain ⟨ks,kw,vm,vr,vs,td,tt,tg,h1,h2,h3,h4,h5,h6,h7,h8,h8',h9⟩:=Hid.out h
 refine (zck xs A C h9 hm).mono ?_
 rintro e w' ⟨A',C',rfl,h'⟩
 exact ⟨A',C',rfl,ks,kw,vm,vr,vs,td,tt,tg,h1,h2,h3,h4,h5,h6,h7,h8,h8',h'⟩
theorem zpg (h:Cor W w L q k us) (hn:n < 16) (a b c:Int) (m:Nat) (hm:m < 1000) (pin:Bool) (r:Int) (hK:∀ w us,Cor W w L q k us→Calls Tryz.prog 153 #[.pointer (some ⟨L.bg,0,none⟩),.int .i64 (n:Int),.int .i64 (m:Int)] w fun e w'=>e=.returned (.tuple #[.bool pin,.int .i64 r])∧Cor W w' L qz k us) :
  Calls Tryz.prog 127 #[.pointer (some ⟨L.b,0,none⟩),.int .i64 (n:Int),.agg #[.int .i64 25,.int .i64 a,.int .i64 b,.int .i64 c,.int .u64 (m:Nat)],.int .i64 ch] w fun e w'=>e=.returned (dval none none 0 0 ⟨m,0,r,Dk.whyIf (!pin) r 1 0,[],[]⟩)∧Cor W w' L qz k us:=by
 obtain ⟨W1,e1⟩:∃ W1,W1=w.alloc (.cells #[.int .i64 25,.int .i64 a,.int .i64 b,.int .i64 c,.int .u64 (m:Nat)] 112):=⟨_,rfl⟩
 obtain ⟨W2,e2⟩:∃ W2,W2=W1.alloc (.cells #[.int .u64 0,.int .u64 0,.int .i64 0,.int .i64 0,.slice none 0 0,.slice none 0 0] 204):=⟨_,rfl⟩
 obtain ⟨W4,e4⟩:∃ W4,W4=W2.alloc (.cells #[.int .u64 (m:Nat),.int .u64 0,.int .i64 0,.int .i64 0,.slice none 0 0,.slice none 0 0] 204):=⟨_,rfl⟩
 have h2:=((h.newBox e1).newBox e2).swap
 have b2:Dk.Box W2 w.heap.size #[.int .i64 25,.int .i64 a,.int .i64 b,.int .i64 c,.int .u64 (m:Nat)] 112:=h2.box (by simp)
 have o4:W2.cell? ⟨w.heap.size,4,none⟩=some (.int .u64 (m:Nat)):=b2.cell 4
 have h4:Cor W W4 L q k (bxD W2.heap.size m 0 0 0 (.slice none 0 0) (.slice none 0 0)::Dk.boxOf w.heap.size #[.int .i64 25,.int .i64 a,.int .i64 b,.int .i64 c,.int .u64 (m:Nat)] 112::Dk.boxOf W1.heap.size #[.int .u64 0,.int .u64 0,.int .i64 0,.int .i64 0,.slice none 0 0,.slice none 0 0] 204::us):=h2.newBox e4
 have b4:Dk.Box W4 w.heap.size #[.int .i64 25,.int .i64 a,.int .i64 b,.int .i64 c,.int .u64 (m:Nat)] 112:=h4.box (by simp)
 have p0:W4.cell? ⟨w.heap.size,0,none⟩=some (.int .i64 25):=b4.cell 0
 have p3:W4.cell? ⟨w.heap.size,3,none⟩=some (.int .i64 c):=b4.cell 3
 have g4:=h4.gatePtr
 have i1:(m:Int) < 1000:=by omega
 have i2:(0:Int)≤(m:Int):=by omega
 have H1:Hid _:=e1.symm
 have H2:Hid _:=e2.symm
 have H4:Hid _:=e4.symm
 have K4:=hK _ _ h4
 generalize eY:Dk.whyIf (!pin) r 1 0=why
 have EY:Hid _:=eY
 clear h h2 h4 hK b2 b4 e1 e2 e4 eY
 go_enter Tryz.func127,Tryz.ntmps127
 go_wp2_with (first | (rw [H1.out];clear H1) | (rw [H2.out];clear H2) | (rw [H4.out];clear H4))
 refine K4.mono ?_
 rintro e w5 ⟨rfl,h5⟩
 have b5:Dk.Box w5 W2.heap.size #[.int .u64 (m:Nat),.int .u64 0,.int .i64 0,.int .i64 0,.slice none 0 0,.slice none 0 0] 204:=h5.box (by simp [bxD,dcs])
 have c2:w5.cell? ⟨W2.heap.size,2,none⟩=some (.int .i64 0):=b5.cell 2
 have f2:=b5.frozen 2
 obtain ⟨W6,e6⟩:∃ W6,W6=w5.setCell ⟨W2.heap.size,2,none⟩ (.int .i64 r):=⟨_,rfl⟩
 have h6:Cor W W6 L qz k (bxD W2.heap.size m 0 r 0 (.slice none 0 0) (.slice none 0 0)::Dk.boxOf w.heap.size #[.int .i64 25,.int .i64 a,.int .i64 b,.int .i64 c,.int .u64 (m:Nat)] 112::Dk.boxOf W1.heap.size #[.int .u64 0,.int .u64 0,.int .i64 0,.int .i64 0,.slice none 0 0,.slice none 0 0] 204::us):=by rw [e6];exact h5.setBox (o:=2) _
 have K6:=zaw W2.heap.size m 0 r 0 (.slice none 0 0) (.slice none 0 0) h6 (!pin) 1
 have H6:Hid _:=e6.symm
 clear K4 h5 h6 b5 e6 o4 p0 p3 g4
 go_wp2_with (rw [H6.out];clear H6)
 refine K6.mono ?_
 rintro e w7 ⟨rfl,h7⟩
 rw [EY.out] at h7
 clear K6
 have bX:Dk.Box w7 W2.heap.size #[.int .u64 (m:Nat),.int .u64 0,.int .i64 r,.int .i64 why,.slice none 0 0,.slice none 0 0] 204:=h7.box (by simp [bxD,dcs])
 have cX:=bX.cell
 have zX:Dk.Box w7 W1.heap.size #[.int .u64 0,.int .u64 0,.int .i64 0,.int .i64 0,.slice none 0 0,.slice none 0 0] 204:=h7.box (by simp)
 have hX:=((h7.drop.drop.setRow (cs':=#[.int .u64 (m:Nat),.int .u64 0,.int .i64 r,.int .i64 why,.slice none 0 0,.slice none 0 0]) rfl).drop)
 have d0:=(zX.row (cs':=#[.int .u64 (m:Nat),.int .u64 0,.int .i64 r,.int .i64 why,.slice none 0 0,.slice none 0 0])).cell
 have HB:Hid _:=zX
 clear h7 bX zX
 go_wp2_with (refine wpList_store_row rfl 204 _ _ rfl W1.heap.size #[.int .u64 (m:Nat),.int .u64 0,.int .i64 r,.int .i64 why,.slice none 0 0,.slice none 0 0] rfl rfl 204 _ HB.out.heap sizeDeed rfl (zq m 0 _ _ _ _ _ _ _ _) ?_)
 exact bodyPost_ret (v:=.agg #[.int .u64 (m:Nat),.int .u64 0,.int .i64 r,.int .i64 why,.slice none 0 0,.slice none 0 0]) (by simp [results,Tryz.results127,go_sem,d0]) rfl ⟨rfl,hX⟩
theorem zjy (h:Cor W w L q k us) (hn:n < 16) (a b c:Int) (m:Nat) (hm:m < 1000) (who:Int) (pw:Bool) (r:Int) (hK:∀ w us,Cor W w L q k us→Calls Tryz.prog 155 #[.pointer (some ⟨L.bg,0,none⟩),.int .i64 (n:Int),.int .i64 (m:Int),.int .i64 ch] w fun e w'=>e=.returned (.tuple #[.int .i64 who,.bool pw,.int .i64 r])∧Cor W w' L qz k us) :
  Calls Tryz.prog 127 #[.pointer (some ⟨L.b,0,none⟩),.int .i64 (n:Int),.agg #[.int .i64 26,.int .i64 a,.int .i64 b,.int .i64 c,.int .u64 (m:Nat)],.int .i64 ch] w fun e w'=>∃ A C,e=.returned (dval none A 0 C ⟨m,0,r,0,[],if pw then [(who,0)] else []⟩)∧Cor W w' L qz k (Dk.rowOf 147 2 (.slice A (if pw then [(who,0)] else []).length C) (if pw then [(who,0)] else []).length (Dk.prs (if pw then [(who,0)] else []))::us):=by
 obtain ⟨W1,e1⟩:∃ W1,W1=w.alloc (.cells #[.int .i64 26,.int .i64 a,.int .i64 b,.int .i64 c,.int .u64 (m:Nat)] 112):=⟨_,rfl⟩
 obtain ⟨W2,e2⟩:∃ W2,W2=W1.alloc (.cells #[.int .u64 0,.int .u64 0,.int .i64 0,.int .i64 0,.slice none 0 0,.slice none 0 0] 204):=⟨_,rfl⟩
 obtain ⟨W4,e4⟩:∃ W4,W4=W2.alloc (.cells #[.int .u64 (m:Nat),.int .u64 0,.int .i64 0,.int .i64 0,.slice none 0 0,.slice none 0 0] 204):=⟨_,rfl⟩
 have h2:=((h.newBox e1).newBox e2).swap
 have b2:Dk.Box W2 w.heap.size #[.int .i64 26,.int .i64 a,.int .i64 b,.int .i64 c,.int .u64 (m:Nat)] 112:=h2.box (by simp)
 have o4:W2.cell? ⟨w.heap.size,4,none⟩=some (.int .u64 (m:Nat)):=b2.cell 4
 have h4:Cor W W4 L q k (bxD W2.heap.size m 0 0 0 (.slice none 0 0) (.slice none 0 0)::Dk.boxOf w.heap.size #[.int .i64 26,.int .i64 a,.int .i64 b,.int .i64 c,.int .u64 (m:Nat)] 112::Dk.boxOf W1.heap.size #[.int .u64 0,.int .u64 0,.int .i64 0,.int .i64 0,.slice none 0 0,.slice none 0 0] 204::us):=h2.newBox e4
 have b4:Dk.Box W4 w.heap.size #[.int .i64 26,.int .i64 a,.int .i64 b,.int .i64 c,.int .u64 (m:Nat)] 112:=h4.box (by simp)
 have p0:W4.cell? ⟨w.heap.size,0,none⟩=some (.int .i64 26):=b4.cell 0
 have p3:W4.cell? ⟨w.heap.size,3,none⟩=some (.int .i64 c):=b4.cell 3
 have g4:=h4.gatePtr
 have i1:(m:Int) < 1000:=by omega
 have i2:(0:Int)≤(m:Int):=by omega
 have H1:Hid _:=e1.symm
 have H2:Hid _:=e2.symm
 have H4:Hid _:=e4.symm
 have K4:=hK _ _ h4
 clear h h2 h4 hK b2 b4 e1 e2 e4
 go_enter Tryz.func127,Tryz.ntmps127
 go_wp2_with (first | (rw [H1.out];clear H1) | (rw [H2.out];clear H2) | (rw [H4.out];clear H4))
 refine K4.mono ?_
 rintro e w5 ⟨rfl,h5⟩
 have b5:Dk.Box w5 W2.heap.size #[.int .u64 (m:Nat),.int .u64 0,.int .i64 0,.int .i64 0,.slice none 0 0,.slice none 0 0] 204:=h5.box (by simp [bxD,dcs])
 have c2:w5.cell? ⟨W2.heap.size,2,none⟩=some (.int .i64 0):=b5.cell 2
 have f2:=b5.frozen 2
 obtain ⟨W6,e6⟩:∃ W6,W6=w5.setCell ⟨W2.heap.size,2,none⟩ (.int .i64 r):=⟨_,rfl⟩
 have h6:Cor W W6 L qz k (bxD W2.heap.size m 0 r 0 (.slice none 0 0) (.slice none 0 0)::Dk.boxOf w.heap.size #[.int .i64 26,.int .i64 a,.int .i64 b,.int .i64 c,.int .u64 (m:Nat)] 112::Dk.boxOf W1.heap.size #[.int .u64 0,.int .u64 0,.int .i64 0,.int .i64 0,.slice none 0 0,.slice none 0 0] 204::us):=by rw [e6];exact h5.setBox (o:=2) _
 have H6:Hid _:=e6.symm
 clear K4 h5 b5 e6 o4 p0 p3 g4
 cases pw
 ·have K6:=zci (who:=who) W2.heap.size m 0 r 0 (.slice none 0 0) (.slice none 0 0) h6
  go_wp2_with (rw [H6.out];clear H6)
  refine K6.mono ?_
  rintro e w7 ⟨rfl,ew⟩
  subst w7
  clear K6
  have bX:Dk.Box W6 W2.heap.size #[.int .u64 (m:Nat),.int .u64 0,.int .i64 r,.int .i64 0,.slice none 0 0,.slice none 0 0] 204:=h6.box (by simp [bxD,dcs])
  have cX:=bX.cell
  have zX:Dk.Box W6 W1.heap.size #[.int .u64 0,.int .u64 0,.int .i64 0,.int .i64 0,.slice none 0 0,.slice none 0 0] 204:=h6.box (by simp)
  have hX:=((h6.drop.drop.setRow (cs':=#[.int .u64 (m:Nat),.int .u64 0,.int .i64 r,.int .i64 0,.slice none 0 0,.slice none 0 0]) rfl).drop)
  have d0:=(zX.row (cs':=#[.int .u64 (m:Nat),.int .u64 0,.int .i64 r,.int .i64 0,.slice none 0 0,.slice none 0 0])).cell
  have HB:Hid _:=zX
  clear h6 bX zX
  go_wp2_with (refine wpList_store_row rfl 204 _ _ rfl W1.heap.size #[.int .u64 (m:Nat),.int .u64 0,.int .i64 r,.int .i64 0,.slice none 0 0,.slice none 0 0] rfl rfl 204 _ HB.out.heap sizeDeed rfl (zq m 0 _ _ _ _ _ _ _ _) ?_)
  exact bodyPost_ret (v:=.agg #[.int .u64 (m:Nat),.int .u64 0,.int .i64 r,.int .i64 0,.slice none 0 0,.slice none 0 0]) (by simp [results,Tryz.results127,go_sem,d0]) rfl ⟨none,0,rfl,hX.nil⟩
 ·have K6:=zcu W2.heap.size m 0 r 0 (.slice none 0 0) who h6
  clear h6
  go_wp2_with (rw [H6.out];clear H6)
  refine K6.mono ?_
  rintro e w7 ⟨A,C,rfl,h7⟩
  clear K6
  have bX:Dk.Box w7 W2.heap.size #[.int .u64 (m:Nat),.int .u64 0,.int .i64 r,.int .i64 0,.slice none 0 0,.slice A 1 C] 204:=h7.box (by simp [bxD,dcs])
  have cX:=bX.cell
  have zX:Dk.Box w7 W1.heap.size #[.int .u64 0,.int .u64 0,.int .i64 0,.int .i64 0,.slice none 0 0,.slice none 0 0] 204:=h7.box (by simp)
  have hX:=(((h7.drop.swap.drop).swap.setRow (cs':=#[.int .u64 (m:Nat),.int .u64 0,.int .i64 r,.int .i64 0,.slice none 0 0,.slice A 1 C]) rfl).drop)
  have d0:=(zX.row (cs':=#[.int .u64 (m:Nat),.int .u64 0,.int .i64 r,.int .i64 0,.slice none 0 0,.slice A 1 C])).cell
  have HB:Hid _:=zX
  clear h7 bX zX
  go_wp2_with (refine wpList_store_row rfl 204 _ _ rfl W1.heap.size #[.int .u64 (m:Nat),.int .u64 0,.int .i64 r,.int .i64 0,.slice none 0 0,.slice A 1 C] rfl rfl 204 _ HB.out.heap sizeDeed rfl (zq m 0 _ _ _ _ _ _ _ _) ?_)
  exact bodyPost_ret (v:=.agg #[.int .u64 (m:Nat),.int .u64 0,.int .i64 r,.int .i64 0,.slice none 0 0,.slice A 1 C]) (by simp [results,Tryz.results127,go_sem,d0]) rfl ⟨A,C,rfl,hX⟩
theorem zpi (h:Cor W w L q k us) (hn:n < 16) (a b:Int) (c:Nat) (m:Nat) (hm:m < 1000) (who:Int) (pw:Bool) (r:Int) (hK:∀ w us,Cor W w L q k us→Calls Tryz.prog 157 #[.pointer (some ⟨L.bg,0,none⟩),.int .i64 (n:Int),.int .i64 (m:Int),.int .i64 (c:Int),.int .i64 ch] w fun e w'=>e=.returned (.tuple #[.int .i64 who,.bool pw,.int .i64 r])∧Cor W w' L qz k us) (hc:c < 1000) :
  Calls Tryz.prog 127 #[.pointer (some ⟨L.b,0,none⟩),.int .i64 (n:Int),.agg #[.int .i64 27,.int .i64 a,.int .i64 b,.int .i64 (c:Int),.int .u64 (m:Nat)],.int .i64 ch] w fun e w'=>∃ A C,e=.returned (dval none A 0 C ⟨m,c,r,Dk.whyIf true r 2 0,[],if pw then [(who,0)] else []⟩)∧Cor W w' L qz k (Dk.rowOf 147 2 (.slice A (if pw then [(who,0)] else []).length C) (if pw then [(who,0)] else []).length (Dk.prs (if pw then [(who,0)] else []))::us):=by
 obtain ⟨W1,e1⟩:∃ W1,W1=w.alloc (.cells #[.int .i64 27,.int .i64 a,.int .i64 b,.int .i64 (c:Int),.int .u64 (m:Nat)] 112):=⟨_,rfl⟩
 obtain ⟨W2,e2⟩:∃ W2,W2=W1.alloc (.cells #[.int .u64 0,.int .u64 0,.int .i64 0,.int .i64 0,.slice none 0 0,.slice none 0 0] 204):=⟨_,rfl⟩
 obtain ⟨W4,e4⟩:∃ W4,W4=W2.alloc (.cells #[.int .u64 (m:Nat),.int .u64 0,.int .i64 0,.int .i64 0,.slice none 0 0,.slice none 0 0] 204):=⟨_,rfl⟩
 have h2:=((h.newBox e1).newBox e2).swap
 have b2:Dk.Box W2 w.heap.size #[.int .i64 27,.int .i64 a,.int .i64 b,.int .i64 (c:Int),.int .u64 (m:Nat)] 112:=h2.box (by simp)
 have o4:W2.cell? ⟨w.heap.size,4,none⟩=some (.int .u64 (m:Nat)):=b2.cell 4
 have h4:Cor W W4 L q k (bxD W2.heap.size m 0 0 0 (.slice none 0 0) (.slice none 0 0)::Dk.boxOf w.heap.size #[.int .i64 27,.int .i64 a,.int .i64 b,.int .i64 (c:Int),.int .u64 (m:Nat)] 112::Dk.boxOf W1.heap.size #[.int .u64 0,.int .u64 0,.int .i64 0,.int .i64 0,.slice none 0 0,.slice none 0 0] 204::us):=h2.newBox e4
 have b4:Dk.Box W4 w.heap.size #[.int .i64 27,.int .i64 a,.int .i64 b,.int .i64 (c:Int),.int .u64 (m:Nat)] 112:=h4.box (by simp)
 have p0:W4.cell? ⟨w.heap.size,0,none⟩=some (.int .i64 27):=b4.cell 0
 have p3:W4.cell? ⟨w.heap.size,3,none⟩=some (.int .i64 (c:Int)):=b4.cell 3
 have g4:=h4.gatePtr
 have i1:(m:Int) < 1000:=by omega
 have i2:(0:Int)≤(m:Int):=by omega
 have H1:Hid _:=e1.symm
 have H2:Hid _:=e2.symm
 have H4:Hid _:=e4.symm
 have i3:(c:Int) < 1000:=by omega
 have i4:(0:Int)≤(c:Int):=by omega
 have c1:W4.cell? ⟨W2.heap.size,1,none⟩=some (.int .u64 0):=(h4.box (a:=W2.heap.size) (cs:=#[.int .u64 (m:Nat),.int .u64 0,.int .i64 0,.int .i64 0,.slice none 0 0,.slice none 0 0]) (e:=204) (by simp [bxD,dcs])).cell 1
 have f1:=(h4.box (a:=W2.heap.size) (cs:=#[.int .u64 (m:Nat),.int .u64 0,.int .i64 0,.int .i64 0,.slice none 0 0,.slice none 0 0]) (e:=204) (by simp [bxD,dcs])).frozen 1
 obtain ⟨W5,e5⟩:∃ W5,W5=W4.setCell ⟨W2.heap.size,1,none⟩ (.int .u64 (c:Nat)):=⟨_,rfl⟩
 have h5:Cor W W5 L q k (bxD W2.heap.size m c 0 0 (.slice none 0 0) (.slice none 0 0)::Dk.boxOf w.heap.size #[.int .i64 27,.int .i64 a,.int .i64 b,.int .i64 (c:Int),.int .u64 (m:Nat)] 112::Dk.boxOf W1.heap.size #[.int .u64 0,.int .u64 0,.int .i64 0,.int .i64 0,.slice none 0 0,.slice none 0 0] 204::us):=by rw [e5];exact h4.setBox (o:=1) _
 have H5:Hid _:=e5.symm
 have hD:=h5.below (Dk.zh (Below.refl _ _))
 have HS:Dk.Box W5.drew w.heap.size #[.int .i64 27,.int .i64 a,.int .i64 b,.int .i64 (c:Int),.int .u64 (m:Nat)] 112∧W5.drew.cell? ⟨L.b,330,none⟩=some (.pointer (some ⟨L.bg,0,none⟩)):=⟨hD.box (by simp),hD.gatePtr⟩
 have K5:=hK _ _ hD
 generalize eY:Dk.whyIf true r 2 0=why
 have EY:Hid _:=eY
 clear h h2 h4 h5 hK b2 b4 e1 e2 e4 e5 eY hD
 go_enter Tryz.func127,Tryz.ntmps127
 go_wp2_with (first | (rw [H1.out];clear H1) | (rw [H2.out];clear H2) | (rw [H4.out];clear H4) | (rw [H5.out];clear H5))
 refine Dk.zd (S:=fun w'=>Dk.Box w' w.heap.size #[.int .i64 27,.int .i64 a,.int .i64 b,.int .i64 (c:Int),.int .u64 (m:Nat)] 112∧w'.cell? ⟨L.b,330,none⟩=some (.pointer (some ⟨L.bg,0,none⟩))) [] [0,1,2,3,4,5,6,7,8] [9,10,11,12,13,14,15,16,17] 9 (by kernel_rfl) (by kernel_rfl) (by kernel_rfl) (by kernel_rfl) rfl HS _ ?_ (fun a' h=>h)
 refine Dk.za (v:=.pointer (some ⟨L.b,0,none⟩)) rfl rfl (fun w' hw'=>by go_simp) ?_
 simp only [zD]
 refine Dk.za (v:=.pointer (some ⟨L.b,0,none⟩)) rfl rfl (fun w' hw'=>by go_simp) ?_
 simp only [zD]
 refine Dk.za (v:=.pointer (some ⟨L.b,330,none⟩)) rfl rfl (fun w' hw'=>by go_simp) ?_
 simp only [zD]
 refine Dk.za (v:=.pointer (some ⟨L.bg,0,none⟩)) rfl rfl (fun w' hw'=>by have c:=hw'.2;go_simp) ?_
 simp only [zD]
 refine Dk.za (v:=.int .i64 (n:Int)) rfl rfl (fun w' hw'=>by go_simp) ?_
 simp only [zD]
 refine Dk.za (v:=.int .i64 (m:Int)) rfl rfl (fun w' hw'=>by go_simp) ?_
 simp only [zD]
 refine Dk.za (v:=.pointer (some ⟨w.heap.size,3,none⟩)) rfl rfl (fun w' hw'=>by go_simp) ?_
 simp only [zD]
 refine Dk.za (v:=.int .i64 (c:Int)) rfl rfl (fun w' hw'=>by have c:=hw'.1.cell 3;go_simp) ?_
 simp only [zD]
 refine Dk.za (v:=.int .i64 ch) rfl rfl (fun w' hw'=>by go_simp) ?_
 simp only [zD]
 generalize W5.drew=WD at *
 refine Dk.treeY (rs:=[9]) (by kernel_rfl) (by simp) ?_
 intro i hi
 simp only [List.mem_cons,List.not_mem_nil,or_false] at hi
 subst hi
 refine Dk.zm (some 81) rfl rfl rfl (f:=157) (args:=#[.pointer (some ⟨L.bg,0,none⟩),.int .i64 (n:Int),.int .i64 (m:Int),.int .i64 (c:Int),.int .i64 ch]) (by go_simp) ?_
 refine K5.mono ?_
 rintro e w5 ⟨rfl,h5⟩
 refine ⟨_,rfl,fun h=>absurd (by decide) h,?_⟩
 simp only [zD]
 refine Dk.zo (by kernel_rfl) (fun c a w h=>h) _ 1 _ [10,11,12,13,14,15,16] _ _ (by kernel_rfl) ?_ (fun a' h=>h)
 refine Dk.za (v:=.tuple #[.int .i64 who,.bool pw,.int .i64 r]) rfl rfl (fun w' hw'=>by go_simp) ?_
 simp only [zD]
 refine Dk.za (v:=.int .i64 who) rfl rfl (fun w' hw'=>by go_simp) ?_
 simp only [zD]
 refine Dk.za (v:=.bool pw) rfl rfl (fun w' hw'=>by go_simp) ?_
 simp only [zD]
 refine Dk.za (v:=.int .i64 r) rfl rfl (fun w' hw'=>by go_simp) ?_
 simp only [zD]
 refine Dk.za (v:=.int .i64 who) rfl rfl (fun w' hw'=>by go_simp) ?_
 simp only [zD]
 refine Dk.za (v:=.bool pw) rfl rfl (fun w' hw'=>by go_simp) ?_
 simp only [zD]
 refine Dk.za (v:=.pointer (some ⟨W2.heap.size,2,none⟩)) rfl rfl (fun w' hw'=>by go_simp) ?_
 simp only [zD]
 have b5:Dk.Box w5 W2.heap.size #[.int .u64 (m:Nat),.int .u64 (c:Nat),.int .i64 0,.int .i64 0,.slice none 0 0,.slice none 0 0] 204:=h5.box (by simp [bxD,dcs])
 have c2:w5.cell? ⟨W2.heap.size,2,none⟩=some (.int .i64 0):=b5.cell 2
 have f2:=b5.frozen 2
 refine Dk.zl [17] _ _ _ (by kernel_rfl) ?_
 refine Dk.zr rfl rfl ?_
 refine zag (w':=w5.setCell ⟨W2.heap.size,2,none⟩ (.int .i64 r)) (by go_simp) ⟨fun h=>absurd (by decide) h,?_⟩
 simp only [zD]
 show NoPanic _ Exit.normal _ _
 refine NoPanic.normal ?_
 have h6:Cor W (w5.setCell ⟨W2.heap.size,2,none⟩ (.int .i64 r)) L qz k (bxD W2.heap.size m c r 0 (.slice none 0 0) (.slice none 0 0)::Dk.boxOf w.heap.size #[.int .i64 27,.int .i64 a,.int .i64 b,.int .i64 (c:Int),.int .u64 (m:Nat)] 112::Dk.boxOf W1.heap.size #[.int .u64 0,.int .u64 0,.int .i64 0,.int .i64 0,.slice none 0 0,.slice none 0 0] 204::us):=h5.setBox (o:=2) _
 generalize w5.setCell ⟨W2.heap.size,2,none⟩ (.int .i64 r)=W5' at *
 first | (rename_i hK;refine hK _ _ ?_;clear hK) | (rename_i hK _;refine hK _ _ ?_;clear hK)
 have K7:=zaw W2.heap.size m c r 0 (.slice none 0 0) (.slice none 0 0) h6 true 2
 clear K5 h5 h6 b5 c2 f2 o4 p0 p3 g4 c1 f1 HS
 go_wp2_with fail
 refine K7.mono ?_
 rintro e W6 ⟨rfl,h6⟩
 rw [EY.out] at h6
 clear K7
 cases pw
 ·have K6:=zci (who:=who) W2.heap.size m c r why (.slice none 0 0) (.slice none 0 0) h6
  go_wp2_with fail
  refine K6.mono ?_
  rintro e w7 ⟨rfl,ew⟩
  subst w7
  clear K6
  have bX:Dk.Box W6 W2.heap.size #[.int .u64 (m:Nat),.int .u64 (c:Nat),.int .i64 r,.int .i64 why,.slice none 0 0,.slice none 0 0] 204:=h6.box (by simp [bxD,dcs])
  have cX:=bX.cell
  have zX:Dk.Box W6 W1.heap.size #[.int .u64 0,.int .u64 0,.int .i64 0,.int .i64 0,.slice none 0 0,.slice none 0 0] 204:=h6.box (by simp)
  have hX:=((h6.drop.drop.setRow (cs':=#[.int .u64 (m:Nat),.int .u64 (c:Nat),.int .i64 r,.int .i64 why,.slice none 0 0,.slice none 0 0]) rfl).drop)
  have d0:=(zX.row (cs':=#[.int .u64 (m:Nat),.int .u64 (c:Nat),.int .i64 r,.int .i64 why,.slice none 0 0,.slice none 0 0])).cell
  have HB:Hid _:=zX
  clear h6 bX zX
  go_wp2_with (refine wpList_store_row rfl 204 _ _ rfl W1.heap.size #[.int .u64 (m:Nat),.int .u64 (c:Nat),.int .i64 r,.int .i64 why,.slice none 0 0,.slice none 0 0] rfl rfl 204 _ HB.out.heap sizeDeed rfl (zq m c _ _ _ _ _ _ _ _) ?_)
  exact bodyPost_ret (v:=.agg #[.int .u64 (m:Nat),.int .u64 (c:Nat),.int .i64 r,.int .i64 why,.slice none 0 0,.slice none 0 0]) (by simp [results,Tryz.results127,go_sem,d0]) rfl ⟨none,0,rfl,hX.nil⟩
 ·have K6:=zcu W2.heap.size m c r why (.slice none 0 0) who h6
  clear h6
  go_wp2_with fail
  refine K6.mono ?_
  rintro e w7 ⟨A,C,rfl,h7⟩
  clear K6
  have bX:Dk.Box w7 W2.heap.size #[.int .u64 (m:Nat),.int .u64 (c:Nat),.int .i64 r,.int .i64 why,.slice none 0 0,.slice A 1 C] 204:=h7.box (by simp [bxD,dcs])
  have cX:=bX.cell
  have zX:Dk.Box w7 W1.heap.size #[.int .u64 0,.int .u64 0,.int .i64 0,.int .i64 0,.slice none 0 0,.slice none 0 0] 204:=h7.box (by simp)
  have hX:=(((h7.drop.swap.drop).swap.setRow (cs':=#[.int .u64 (m:Nat),.int .u64 (c:Nat),.int .i64 r,.int .i64 why,.slice none 0 0,.slice A 1 C]) rfl).drop)
  have d0:=(zX.row (cs':=#[.int .u64 (m:Nat),.int .u64 (c:Nat),.int .i64 r,.int .i64 why,.slice none 0 0,.slice A 1 C])).cell
  have HB:Hid _:=zX
  clear h7 bX zX
  go_wp2_with (refine wpList_store_row rfl 204 _ _ rfl W1.heap.size #[.int .u64 (m:Nat),.int .u64 (c:Nat),.int .i64 r,.int .i64 why,.slice none 0 0,.slice A 1 C] rfl rfl 204 _ HB.out.heap sizeDeed rfl (zq m c _ _ _ _ _ _ _ _) ?_)
  exact bodyPost_ret (v:=.agg #[.int .u64 (m:Nat),.int .u64 (c:Nat),.int .i64 r,.int .i64 why,.slice none 0 0,.slice A 1 C]) (by simp [results,Tryz.results127,go_sem,d0]) rfl ⟨A,C,rfl,hX⟩
theorem zpf (h:Cor W w L q k us) (hn:n < 16) (a b c:Int) (m:Nat) (hm:m < 1000) (pin:Bool) (r:Int) (hK:∀ w us,Cor W w L q k us→Calls Tryz.prog 158 #[.pointer (some ⟨L.bg,0,none⟩),.int .i64 (n:Int),.int .i64 (m:Int)] w fun e w'=>e=.returned (.tuple #[.bool pin,.int .i64 r])∧Cor W w' L qz k us) :
  Calls Tryz.prog 127 #[.pointer (some ⟨L.b,0,none⟩),.int .i64 (n:Int),.agg #[.int .i64 30,.int .i64 a,.int .i64 b,.int .i64 c,.int .u64 (m:Nat)],.int .i64 ch] w fun e w'=>e=.returned (dval none none 0 0 ⟨m,0,r,Dk.whyIf (!pin) r 3 0,[],[]⟩)∧Cor W w' L qz k us:=by
 obtain ⟨W1,e1⟩:∃ W1,W1=w.alloc (.cells #[.int .i64 30,.int .i64 a,.int .i64 b,.int .i64 c,.int .u64 (m:Nat)] 112):=⟨_,rfl⟩
 obtain ⟨W2,e2⟩:∃ W2,W2=W1.alloc (.cells #[.int .u64 0,.int .u64 0,.int .i64 0,.int .i64 0,.slice none 0 0,.slice none 0 0] 204):=⟨_,rfl⟩
 obtain ⟨W4,e4⟩:∃ W4,W4=W2.alloc (.cells #[.int .u64 (m:Nat),.int .u64 0,.int .i64 0,.int .i64 0,.slice none 0 0,.slice none 0 0] 204):=⟨_,rfl⟩
 have h2:=((h.newBox e1).newBox e2).swap
 have b2:Dk.Box W2 w.heap.size #[.int .i64 30,.int .i64 a,.int .i64 b,.int .i64 c,.int .u64 (m:Nat)] 112:=h2.box (by simp)
 have o4:W2.cell? ⟨w.heap.size,4,none⟩=some (.int .u64 (m:Nat)):=b2.cell 4
 have h4:Cor W W4 L q k (bxD W2.heap.size m 0 0 0 (.slice none 0 0) (.slice none 0 0)::Dk.boxOf w.heap.size #[.int .i64 30,.int .i64 a,.int .i64 b,.int .i64 c,.int .u64 (m:Nat)] 112::Dk.boxOf W1.heap.size #[.int .u64 0,.int .u64 0,.int .i64 0,.int .i64 0,.slice none 0 0,.slice none 0 0] 204::us):=h2.newBox e4
 have b4:Dk.Box W4 w.heap.size #[.int .i64 30,.int .i64 a,.int .i64 b,.int .i64 c,.int .u64 (m:Nat)] 112:=h4.box (by simp)
 have p0:W4.cell? ⟨w.heap.size,0,none⟩=some (.int .i64 30):=b4.cell 0
 have p3:W4.cell? ⟨w.heap.size,3,none⟩=some (.int .i64 c):=b4.cell 3
 have g4:=h4.gatePtr
 have i1:(m:Int) < 1000:=by omega
 have i2:(0:Int)≤(m:Int):=by omega
 have H1:Hid _:=e1.symm
 have H2:Hid _:=e2.symm
 have H4:Hid _:=e4.symm
 have K4:=hK _ _ h4
 generalize eY:Dk.whyIf (!pin) r 3 0=why
 have EY:Hid _:=eY
 clear h h2 h4 hK b2 b4 e1 e2 e4 eY
 go_enter Tryz.func127,Tryz.ntmps127
 go_wp2_with (first | (rw [H1.out];clear H1) | (rw [H2.out];clear H2) | (rw [H4.out];clear H4))
 refine K4.mono ?_
 rintro e w5 ⟨rfl,h5⟩
 have b5:Dk.Box w5 W2.heap.size #[.int .u64 (m:Nat),.int .u64 0,.int .i64 0,.int .i64 0,.slice none 0 0,.slice none 0 0] 204:=h5.box (by simp [bxD,dcs])
 have c2:w5.cell? ⟨W2.heap.size,2,none⟩=some (.int .i64 0):=b5.cell 2
 have f2:=b5.frozen 2
 obtain ⟨W6,e6⟩:∃ W6,W6=w5.setCell ⟨W2.heap.size,2,none⟩ (.int .i64 r):=⟨_,rfl⟩
 have h6:Cor W W6 L qz k (bxD W2.heap.size m 0 r 0 (.slice none 0 0) (.slice none 0 0)::Dk.boxOf w.heap.size #[.int .i64 30,.int .i64 a,.int .i64 b,.int .i64 c,.int .u64 (m:Nat)] 112::Dk.boxOf W1.heap.size #[.int .u64 0,.int .u64 0,.int .i64 0,.int .i64 0,.slice none 0 0,.slice none 0 0] 204::us):=by rw [e6];exact h5.setBox (o:=2) _
 have K6:=zaw W2.heap.size m 0 r 0 (.slice none 0 0) (.slice none 0 0) h6 (!pin) 3
 have H6:Hid _:=e6.symm
 clear K4 h5 h6 b5 e6 o4 p0 p3 g4
 go_wp2_with (rw [H6.out];clear H6)
 refine K6.mono ?_
 rintro e w7 ⟨rfl,h7⟩
 rw [EY.out] at h7
 clear K6
 have bX:Dk.Box w7 W2.heap.size #[.int .u64 (m:Nat),.int .u64 0,.int .i64 r,.int .i64 why,.slice none 0 0,.slice none 0 0] 204:=h7.box (by simp [bxD,dcs])
 have cX:=bX.cell
 have zX:Dk.Box w7 W1.heap.size #[.int .u64 0,.int .u64 0,.int .i64 0,.int .i64 0,.slice none 0 0,.slice none 0 0] 204:=h7.box (by simp)
 have hX:=((h7.drop.drop.setRow (cs':=#[.int .u64 (m:Nat),.int .u64 0,.int .i64 r,.int .i64 why,.slice none 0 0,.slice none 0 0]) rfl).drop)
 have d0:=(zX.row (cs':=#[.int .u64 (m:Nat),.int .u64 0,.int .i64 r,.int .i64 why,.slice none 0 0,.slice none 0 0])).cell
 have HB:Hid _:=zX
 clear h7 bX zX
 go_wp2_with (refine wpList_store_row rfl 204 _ _ rfl W1.heap.size #[.int .u64 (m:Nat),.int .u64 0,.int .i64 r,.int .i64 why,.slice none 0 0,.slice none 0 0] rfl rfl 204 _ HB.out.heap sizeDeed rfl (zq m 0 _ _ _ _ _ _ _ _) ?_)
 exact bodyPost_ret (v:=.agg #[.int .u64 (m:Nat),.int .u64 0,.int .i64 r,.int .i64 why,.slice none 0 0,.slice none 0 0]) (by simp [results,Tryz.results127,go_sem,d0]) rfl ⟨rfl,hX⟩
theorem pass_up (h:Cor W w L q k us) (hn:n < 16) (a b c:Int) (m:Nat) (hm:m < 1000) (who:Int) (pw:Bool) (r:Int) (hK:∀ w us,Cor W w L q k us→Calls Tryz.prog 159 #[.pointer (some ⟨L.bg,0,none⟩),.int .i64 (m:Int),.int .i64 ch] w fun e w'=>e=.returned (.tuple #[.int .i64 who,.bool pw,.int .i64 r])∧Cor W w' L qz k us) :
  Calls Tryz.prog 127 #[.pointer (some ⟨L.b,0,none⟩),.int .i64 (n:Int),.agg #[.int .i64 31,.int .i64 a,.int .i64 b,.int .i64 c,.int .u64 (m:Nat)],.int .i64 ch] w fun e w'=>∃ A C,e=.returned (dval none A 0 C ⟨m,0,r,0,[],if pw then [(who,0)] else []⟩)∧Cor W w' L qz k (Dk.rowOf 147 2 (.slice A (if pw then [(who,0)] else []).length C) (if pw then [(who,0)] else []).length (Dk.prs (if pw then [(who,0)] else []))::us):=by
 obtain ⟨W1,e1⟩:∃ W1,W1=w.alloc (.cells #[.int .i64 31,.int .i64 a,.int .i64 b,.int .i64 c,.int .u64 (m:Nat)] 112):=⟨_,rfl⟩
 obtain ⟨W2,e2⟩:∃ W2,W2=W1.alloc (.cells #[.int .u64 0,.int .u64 0,.int .i64 0,.int .i64 0,.slice none 0 0,.slice none 0 0] 204):=⟨_,rfl⟩
 obtain ⟨W4,e4⟩:∃ W4,W4=W2.alloc (.cells #[.int .u64 (m:Nat),.int .u64 0,.int .i64 0,.int .i64 0,.slice none 0 0,.slice none 0 0] 204):=⟨_,rfl⟩
 have h2:=((h.newBox e1).newBox e2).swap
 have b2:Dk.Box W2 w.heap.size #[.int .i64 31,.int .i64 a,.int .i64 b,.int .i64 c,.int .u64 (m:Nat)] 112:=h2.box (by simp)
 have o4:W2.cell? ⟨w.heap.size,4,none⟩=some (.int .u64 (m:Nat)):=b2.cell 4
 have h4:Cor W W4 L q k (bxD W2.heap.size m 0 0 0 (.slice none 0 0) (.slice none 0 0)::Dk.boxOf w.heap.size #[.int .i64 31,.int .i64 a,.int .i64 b,.int .i64 c,.int .u64 (m:Nat)] 112::Dk.boxOf W1.heap.size #[.int .u64 0,.int .u64 0,.int .i64 0,.int .i64 0,.slice none 0 0,.slice none 0 0] 204::us):=h2.newBox e4
 have b4:Dk.Box W4 w.heap.size #[.int .i64 31,.int .i64 a,.int .i64 b,.int .i64 c,.int .u64 (m:Nat)] 112:=h4.box (by simp)
 have p0:W4.cell? ⟨w.heap.size,0,none⟩=some (.int .i64 31):=b4.cell 0
 have p3:W4.cell? ⟨w.heap.size,3,none⟩=some (.int .i64 c):=b4.cell 3
 have g4:=h4.gatePtr
 have i1:(m:Int) < 1000:=by omega
 have i2:(0:Int)≤(m:Int):=by omega
 have H1:Hid _:=e1.symm
 have H2:Hid _:=e2.symm
 have H4:Hid _:=e4.symm
 have K4:=hK _ _ h4
 clear h h2 h4 hK b2 b4 e1 e2 e4
 go_enter Tryz.func127,Tryz.ntmps127
 go_wp2_with (first | (rw [H1.out];clear H1) | (rw [H2.out];clear H2) | (rw [H4.out];clear H4))
 refine K4.mono ?_
 rintro e w5 ⟨rfl,h5⟩
 have b5:Dk.Box w5 W2.heap.size #[.int .u64 (m:Nat),.int .u64 0,.int .i64 0,.int .i64 0,.slice none 0 0,.slice none 0 0] 204:=h5.box (by simp [bxD,dcs])
 have c2:w5.cell? ⟨W2.heap.size,2,none⟩=some (.int .i64 0):=b5.cell 2
 have f2:=b5.frozen 2
 obtain ⟨W6,e6⟩:∃ W6,W6=w5.setCell ⟨W2.heap.size,2,none⟩ (.int .i64 r):=⟨_,rfl⟩
 have h6:Cor W W6 L qz k (bxD W2.heap.size m 0 r 0 (.slice none 0 0) (.slice none 0 0)::Dk.boxOf w.heap.size #[.int .i64 31,.int .i64 a,.int .i64 b,.int .i64 c,.int .u64 (m:Nat)] 112::Dk.boxOf W1.heap.size #[.int .u64 0,.int .u64 0,.int .i64 0,.int .i64 0,.slice none 0 0,.slice none 0 0] 204::us):=by rw [e6];exact h5.setBox (o:=2) _
 have H6:Hid _:=e6.symm
 clear K4 h5 b5 e6 o4 p0 p3 g4
 cases pw
 ·have K6:=zci (who:=who) W2.heap.size m 0 r 0 (.slice none 0 0) (.slice none 0 0) h6
  go_wp2_with (rw [H6.out];clear H6)
  refine K6.mono ?_
  rintro e w7 ⟨rfl,ew⟩
  subst w7
  clear K6
  have bX:Dk.Box W6 W2.heap.size #[.int .u64 (m:Nat),.int .u64 0,.int .i64 r,.int .i64 0,.slice none 0 0,.slice none 0 0] 204:=h6.box (by simp [bxD,dcs])
  have cX:=bX.cell
  have zX:Dk.Box W6 W1.heap.size #[.int .u64 0,.int .u64 0,.int .i64 0,.int .i64 0,.slice none 0 0,.slice none 0 0] 204:=h6.box (by simp)
  have hX:=((h6.drop.drop.setRow (cs':=#[.int .u64 (m:Nat),.int .u64 0,.int .i64 r,.int .i64 0,.slice none 0 0,.slice none 0 0]) rfl).drop)
  have d0:=(zX.row (cs':=#[.int .u64 (m:Nat),.int .u64 0,.int .i64 r,.int .i64 0,.slice none 0 0,.slice none 0 0])).cell
  have HB:Hid _:=zX
  clear h6 bX zX
  go_wp2_with (refine wpList_store_row rfl 204 _ _ rfl W1.heap.size #[.int .u64 (m:Nat),.int .u64 0,.int .i64 r,.int .i64 0,.slice none 0 0,.slice none 0 0] rfl rfl 204 _ HB.out.heap sizeDeed rfl (zq m 0 _ _ _ _ _ _ _ _) ?_)
  exact bodyPost_ret (v:=.agg #[.int .u64 (m:Nat),.int .u64 0,.int .i64 r,.int .i64 0,.slice none 0 0,.slice none 0 0]) (by simp [results,Tryz.results127,go_sem,d0]) rfl ⟨none,0,rfl,hX.nil⟩
 ·have K6:=zcu W2.heap.size m 0 r 0 (.slice none 0 0) who h6
  clear h6
  go_wp2_with (rw [H6.out];clear H6)
  refine K6.mono ?_
  rintro e w7 ⟨A,C,rfl,h7⟩
  clear K6
  have bX:Dk.Box w7 W2.heap.size #[.int .u64 (m:Nat),.int .u64 0,.int .i64 r,.int .i64 0,.slice none 0 0,.slice A 1 C] 204:=h7.box (by simp [bxD,dcs])
  have cX:=bX.cell
  have zX:Dk.Box w7 W1.heap.size #[.int .u64 0,.int .u64 0,.int .i64 0,.int .i64 0,.slice none 0 0,.slice none 0 0] 204:=h7.box (by simp)
  have hX:=(((h7.drop.swap.drop).swap.setRow (cs':=#[.int .u64 (m:Nat),.int .u64 0,.int .i64 r,.int .i64 0,.slice none 0 0,.slice A 1 C]) rfl).drop)
  have d0:=(zX.row (cs':=#[.int .u64 (m:Nat),.int .u64 0,.int .i64 r,.int .i64 0,.slice none 0 0,.slice A 1 C])).cell
  have HB:Hid _:=zX
  clear h7 bX zX
  go_wp2_with (refine wpList_store_row rfl 204 _ _ rfl W1.heap.size #[.int .u64 (m:Nat),.int .u64 0,.int .i64 r,.int .i64 0,.slice none 0 0,.slice A 1 C] rfl rfl 204 _ HB.out.heap sizeDeed rfl (zq m 0 _ _ _ _ _ _ _ _) ?_)
  exact bodyPost_ret (v:=.agg #[.int .u64 (m:Nat),.int .u64 0,.int .i64 r,.int .i64 0,.slice none 0 0,.slice A 1 C]) (by simp [results,Tryz.results127,go_sem,d0]) rfl ⟨A,C,rfl,hX⟩
theorem zjx (h:Cor W w L q k us) (hn:n < 16) (a b c:Int) (m:Nat) (hm:m < 1000) (zs:List Int) (hz:zs.length≤5000) (hK:∀ w us,Cor W w L q k us→Calls Tryz.prog 160 #[.pointer (some ⟨L.b,0,none⟩),.int .i64 (m:Int),.int .i64 ch,.bool false] w fun e w'=>∃ A C,e=.returned (.slice A zs.length C)∧Cor W w' L qz k (Dk.rowOf 3 1 (.slice A zs.length C) zs.length (Dk.is zs)::us)) :
  Calls Tryz.prog 127 #[.pointer (some ⟨L.b,0,none⟩),.int .i64 (n:Int),.agg #[.int .i64 28,.int .i64 a,.int .i64 b,.int .i64 c,.int .u64 (m:Nat)],.int .i64 ch] w fun e w'=>∃ A C,e=.returned (dval none A 0 C ⟨m,0,0,0,[],zs.map fun w=>(w,0)⟩)∧Cor W w' L qz k (Dk.rowOf 147 2 (.slice A (zs.map fun w=>(w,0)).length C) (zs.map fun w=>(w,0)).length (Dk.prs (zs.map fun w=>(w,0)))::us):=by
 obtain ⟨W1,e1⟩:∃ W1,W1=w.alloc (.cells #[.int .i64 28,.int .i64 a,.int .i64 b,.int .i64 c,.int .u64 (m:Nat)] 112):=⟨_,rfl⟩
 obtain ⟨W2,e2⟩:∃ W2,W2=W1.alloc (.cells #[.int .u64 0,.int .u64 0,.int .i64 0,.int .i64 0,.slice none 0 0,.slice none 0 0] 204):=⟨_,rfl⟩
 obtain ⟨W4,e4⟩:∃ W4,W4=W2.alloc (.cells #[.int .u64 (m:Nat),.int .u64 0,.int .i64 0,.int .i64 0,.slice none 0 0,.slice none 0 0] 204):=⟨_,rfl⟩
 have h2:=((h.newBox e1).newBox e2).swap
 have b2:Dk.Box W2 w.heap.size #[.int .i64 28,.int .i64 a,.int .i64 b,.int .i64 c,.int .u64 (m:Nat)] 112:=h2.box (by simp)
 have o4:W2.cell? ⟨w.heap.size,4,none⟩=some (.int .u64 (m:Nat)):=b2.cell 4
 have h4:Cor W W4 L q k (bxD W2.heap.size m 0 0 0 (.slice none 0 0) (.slice none 0 0)::Dk.boxOf w.heap.size #[.int .i64 28,.int .i64 a,.int .i64 b,.int .i64 c,.int .u64 (m:Nat)] 112::Dk.boxOf W1.heap.size #[.int .u64 0,.int .u64 0,.int .i64 0,.int .i64 0,.slice none 0 0,.slice none 0 0] 204::us):=h2.newBox e4
 have b4:Dk.Box W4 w.heap.size #[.int .i64 28,.int .i64 a,.int .i64 b,.int .i64 c,.int .u64 (m:Nat)] 112:=h4.box (by simp)
 have p0:W4.cell? ⟨w.heap.size,0,none⟩=some (.int .i64 28):=b4.cell 0
 have p3:W4.cell? ⟨w.heap.size,3,none⟩=some (.int .i64 c):=b4.cell 3
 have g4:=h4.gatePtr
 have i1:(m:Int) < 1000:=by omega
 have i2:(0:Int)≤(m:Int):=by omega
 have H1:Hid _:=e1.symm
 have H2:Hid _:=e2.symm
 have H4:Hid _:=e4.symm
 have K4:=hK _ _ h4
 have HN:Hid ((zs.map fun w=>(w,0)).length=zs.length):=List.length_map _
 clear h h2 h4 hK b2 b4 e1 e2 e4
 go_enter Tryz.func127,Tryz.ntmps127
 go_wp2_with (first | (rw [H1.out];clear H1) | (rw [H2.out];clear H2) | (rw [H4.out];clear H4))
 refine K4.mono ?_
 rintro e w5 ⟨A5,C5,rfl,h5⟩
 have K5:=zcl zs A5 C5 h5 hz
 clear K4 h5 o4 p0 p3 g4
 go_wp2_with fail
 refine K5.mono ?_
 rintro e w6 ⟨A,C,rfl,h6⟩
 have h6':Cor W w6 L qz k (bxD W2.heap.size m 0 0 0 (.slice none 0 0) (.slice none 0 0)::Dk.rowOf 147 2 (.slice A zs.length C) zs.length (Dk.prs (zs.map fun x=>(x,0)))::Dk.boxOf w.heap.size #[.int .i64 28,.int .i64 a,.int .i64 b,.int .i64 c,.int .u64 (m:Nat)] 112::Dk.boxOf W1.heap.size #[.int .u64 0,.int .u64 0,.int .i64 0,.int .i64 0,.slice none 0 0,.slice none 0 0] 204::us):=h6.swap.drop.swap
 have b6:Dk.Box w6 W2.heap.size #[.int .u64 (m:Nat),.int .u64 0,.int .i64 0,.int .i64 0,.slice none 0 0,.slice none 0 0] 204:=h6'.box (by simp [bxD,dcs])
 have c5:w6.cell? ⟨W2.heap.size,5,none⟩=some (.slice none 0 0):=b6.cell 5
 have f5:=b6.frozen 5
 obtain ⟨W7,e7⟩:∃ W7,W7=w6.setCell ⟨W2.heap.size,5,none⟩ (.slice A zs.length C):=⟨_,rfl⟩
 have h7:Cor W W7 L qz k (bxD W2.heap.size m 0 0 0 (.slice none 0 0) (.slice A zs.length C)::Dk.rowOf 147 2 (.slice A zs.length C) zs.length (Dk.prs (zs.map fun x=>(x,0)))::Dk.boxOf w.heap.size #[.int .i64 28,.int .i64 a,.int .i64 b,.int .i64 c,.int .u64 (m:Nat)] 112::Dk.boxOf W1.heap.size #[.int .u64 0,.int .u64 0,.int .i64 0,.int .i64 0,.slice none 0 0,.slice none 0 0] 204::us):=by rw [e7];exact h6'.setBox (o:=5) _
 have H7:Hid _:=e7.symm
 clear K5 h6 h6' b6 e7
 have bX:Dk.Box W7 W2.heap.size #[.int .u64 (m:Nat),.int .u64 0,.int .i64 0,.int .i64 0,.slice none 0 0,.slice A zs.length C] 204:=h7.box (by simp [bxD,dcs])
 have cX:=bX.cell
 have zX:Dk.Box W7 W1.heap.size #[.int .u64 0,.int .u64 0,.int .i64 0,.int .i64 0,.slice none 0 0,.slice none 0 0] 204:=h7.box (by simp)
 have hX:=(((h7.drop.swap.drop).swap.setRow (cs':=#[.int .u64 (m:Nat),.int .u64 0,.int .i64 0,.int .i64 0,.slice none 0 0,.slice A zs.length C]) rfl).drop)
 have d0:=(zX.row (cs':=#[.int .u64 (m:Nat),.int .u64 0,.int .i64 0,.int .i64 0,.slice none 0 0,.slice A zs.length C])).cell
 have HB:Hid _:=zX
 clear h7 bX zX
 go_wp2_with (first | (rw [H7.out];clear H7) | (refine wpList_store_row rfl 204 _ _ rfl W1.heap.size #[.int .u64 (m:Nat),.int .u64 0,.int .i64 0,.int .i64 0,.slice none 0 0,.slice A zs.length C] rfl rfl 204 _ HB.out.heap sizeDeed rfl (zq m 0 _ _ _ _ _ _ _ _) ?_))
 exact bodyPost_ret (v:=.agg #[.int .u64 (m:Nat),.int .u64 0,.int .i64 0,.int .i64 0,.slice none 0 0,.slice A zs.length C]) (by simp [results,Tryz.results127,go_sem,d0]) rfl ⟨A,C,by simp [dval,dcs],by rw [HN.out];exact hX⟩
theorem zfs (h:Cor W w L q k us) (hn:n < 16) (a b c:Int) (m:Nat) (hm:m < 1000) (zs:List Int) (hz:zs.length≤5000) (hK:∀ w us,Cor W w L q k us→Calls Tryz.prog 160 #[.pointer (some ⟨L.b,0,none⟩),.int .i64 (m:Int),.int .i64 ch,.bool true] w fun e w'=>∃ A C,e=.returned (.slice A zs.length C)∧Cor W w' L qz k (Dk.rowOf 3 1 (.slice A zs.length C) zs.length (Dk.is zs)::us)) :
  Calls Tryz.prog 127 #[.pointer (some ⟨L.b,0,none⟩),.int .i64 (n:Int),.agg #[.int .i64 29,.int .i64 a,.int .i64 b,.int .i64 c,.int .u64 (m:Nat)],.int .i64 ch] w fun e w'=>∃ A C,e=.returned (dval none A 0 C ⟨m,0,0,0,[],zs.map fun w=>(w,0)⟩)∧Cor W w' L qz k (Dk.rowOf 147 2 (.slice A (zs.map fun w=>(w,0)).length C) (zs.map fun w=>(w,0)).length (Dk.prs (zs.map fun w=>(w,0)))::us):=by
 obtain ⟨W1,e1⟩:∃ W1,W1=w.alloc (.cells #[.int .i64 29,.int .i64 a,.int .i64 b,.int .i64 c,.int .u64 (m:Nat)] 112):=⟨_,rfl⟩
 obtain ⟨W2,e2⟩:∃ W2,W2=W1.alloc (.cells #[.int .u64 0,.int .u64 0,.int .i64 0,.int .i64 0,.slice none 0 0,.slice none 0 0] 204):=⟨_,rfl⟩
 obtain ⟨W4,e4⟩:∃ W4,W4=W2.alloc (.cells #[.int .u64 (m:Nat),.int .u64 0,.int .i64 0,.int .i64 0,.slice none 0 0,.slice none 0 0] 204):=⟨_,rfl⟩
 have h2:=((h.newBox e1).newBox e2).swap
 have b2:Dk.Box W2 w.heap.size #[.int .i64 29,.int .i64 a,.int .i64 b,.int .i64 c,.int .u64 (m:Nat)] 112:=h2.box (by simp)
 have o4:W2.cell? ⟨w.heap.size,4,none⟩=some (.int .u64 (m:Nat)):=b2.cell 4
 have h4:Cor W W4 L q k (bxD W2.heap.size m 0 0 0 (.slice none 0 0) (.slice none 0 0)::Dk.boxOf w.heap.size #[.int .i64 29,.int .i64 a,.int .i64 b,.int .i64 c,.int .u64 (m:Nat)] 112::Dk.boxOf W1.heap.size #[.int .u64 0,.int .u64 0,.int .i64 0,.int .i64 0,.slice none 0 0,.slice none 0 0] 204::us):=h2.newBox e4
 have b4:Dk.Box W4 w.heap.size #[.int .i64 29,.int .i64 a,.int .i64 b,.int .i64 c,.int .u64 (m:Nat)] 112:=h4.box (by simp)
 have p0:W4.cell? ⟨w.heap.size,0,none⟩=some (.int .i64 29):=b4.cell 0
 have p3:W4.cell? ⟨w.heap.size,3,none⟩=some (.int .i64 c):=b4.cell 3
 have g4:=h4.gatePtr
 have i1:(m:Int) < 1000:=by omega
 have i2:(0:Int)≤(m:Int):=by omega
 have H1:Hid _:=e1.symm
 have H2:Hid _:=e2.symm
 have H4:Hid _:=e4.symm
 have K4:=hK _ _ h4
 have HN:Hid ((zs.map fun w=>(w,0)).length=zs.length):=List.length_map _
 clear h h2 h4 hK b2 b4 e1 e2 e4
 go_enter Tryz.func127,Tryz.ntmps127
 go_wp2_with (first | (rw [H1.out];clear H1) | (rw [H2.out];clear H2) | (rw [H4.out];clear H4))
 refine K4.mono ?_
 rintro e w5 ⟨A5,C5,rfl,h5⟩
 have K5:=zcl zs A5 C5 h5 hz
 clear K4 h5 o4 p0 p3 g4
 go_wp2_with fail
 refine K5.mono ?_
 rintro e w6 ⟨A,C,rfl,h6⟩
 have h6':Cor W w6 L qz k (bxD W2.heap.size m 0 0 0 (.slice none 0 0) (.slice none 0 0)::Dk.rowOf 147 2 (.slice A zs.length C) zs.length (Dk.prs (zs.map fun x=>(x,0)))::Dk.boxOf w.heap.size #[.int .i64 29,.int .i64 a,.int .i64 b,.int .i64 c,.int .u64 (m:Nat)] 112::Dk.boxOf W1.heap.size #[.int .u64 0,.int .u64 0,.int .i64 0,.int .i64 0,.slice none 0 0,.slice none 0 0] 204::us):=h6.swap.drop.swap
 have b6:Dk.Box w6 W2.heap.size #[.int .u64 (m:Nat),.int .u64 0,.int .i64 0,.int .i64 0,.slice none 0 0,.slice none 0 0] 204:=h6'.box (by simp [bxD,dcs])
 have c5:w6.cell? ⟨W2.heap.size,5,none⟩=some (.slice none 0 0):=b6.cell 5
 have f5:=b6.frozen 5
 obtain ⟨W7,e7⟩:∃ W7,W7=w6.setCell ⟨W2.heap.size,5,none⟩ (.slice A zs.length C):=⟨_,rfl⟩
 have h7:Cor W W7 L qz k (bxD W2.heap.size m 0 0 0 (.slice none 0 0) (.slice A zs.length C)::Dk.rowOf 147 2 (.slice A zs.length C) zs.length (Dk.prs (zs.map fun x=>(x,0)))::Dk.boxOf w.heap.size #[.int .i64 29,.int .i64 a,.int .i64 b,.int .i64 c,.int .u64 (m:Nat)] 112::Dk.boxOf W1.heap.size #[.int .u64 0,.int .u64 0,.int .i64 0,.int .i64 0,.slice none 0 0,.slice none 0 0] 204::us):=by rw [e7];exact h6'.setBox (o:=5) _
 have H7:Hid _:=e7.symm
 clear K5 h6 h6' b6 e7
 have bX:Dk.Box W7 W2.heap.size #[.int .u64 (m:Nat),.int .u64 0,.int .i64 0,.int .i64 0,.slice none 0 0,.slice A zs.length C] 204:=h7.box (by simp [bxD,dcs])
 have cX:=bX.cell
 have zX:Dk.Box W7 W1.heap.size #[.int .u64 0,.int .u64 0,.int .i64 0,.int .i64 0,.slice none 0 0,.slice none 0 0] 204:=h7.box (by simp)
 have hX:=(((h7.drop.swap.drop).swap.setRow (cs':=#[.int .u64 (m:Nat),.int .u64 0,.int .i64 0,.int .i64 0,.slice none 0 0,.slice A zs.length C]) rfl).drop)
 have d0:=(zX.row (cs':=#[.int .u64 (m:Nat),.int .u64 0,.int .i64 0,.int .i64 0,.slice none 0 0,.slice A zs.length C])).cell
 have HB:Hid _:=zX
 clear h7 bX zX
 go_wp2_with (first | (rw [H7.out];clear H7) | (refine wpList_store_row rfl 204 _ _ rfl W1.heap.size #[.int .u64 (m:Nat),.int .u64 0,.int .i64 0,.int .i64 0,.slice none 0 0,.slice A zs.length C] rfl rfl 204 _ HB.out.heap sizeDeed rfl (zq m 0 _ _ _ _ _ _ _ _) ?_))
 exact bodyPost_ret (v:=.agg #[.int .u64 (m:Nat),.int .u64 0,.int .i64 0,.int .i64 0,.slice none 0 0,.slice A zs.length C]) (by simp [results,Tryz.results127,go_sem,d0]) rfl ⟨A,C,by simp [dval,dcs],by rw [HN.out];exact hX⟩
end
end Go.Proofs.YtglhhlfopccmaaaGreat
namespace Dk
theorem St.zdg:∀ (r:List (Int × Int)) (S:St),(S.goes r).2.length≤r.length
 | [],S=>by simp [St.goes]
 | p::r,S=>by
  have e:S.goes (p::r)=(((S.goes1 p).1.goes r).1,(S.goes1 p).2++((S.goes1 p).1.goes r).2):=rfl
  have ih:=St.zdg r (S.goes1 p).1
  have h1:(S.goes1 p).2.length≤1:=by
   unfold St.goes1
   dsimp only
   split <;> simp
  rw [e]
  simp only [List.length_append,List.length_cons]
  omega
theorem St.zgf (S:St) (c:Nat) (ch:Int) (all:Bool):(S.signal c ch all).2.length≤(S.conds.getD c []).length:=by
 unfold St.signal
 refine Nat.le_trans (St.zdg _ _) ?_
 unfold St.told
 dsimp only
 split
 ·exact Nat.le_refl _
 ·split
  ·simp
  ·simp only [List.length_singleton];omega
structure Sp.Fits (q:Sp) (i:Ins):Prop where
 small:i.n < 1000
 mx:i.op=25∨i.op=26→i.n < q.gates.owner.length
 cv:i.op=27∨i.op=28∨i.op=29→i.n < q.gates.conds.length
 cm:i.op=27→0≤i.c∧i.c.toNat < q.gates.owner.length∧i.c < 1000
 sm:i.op=30∨i.op=31→i.n < q.gates.count.length
end Dk
namespace Go.Proofs.YtglhhlfopccmaaaGreat
open Go.RowKit Go.Lib
section
variable {W w w' : World} {L : Dk.Loc} {q qz : Dk.Sp} {k n : Nat} {us us' us1 us2 : List Dk.Thing} {t : Dk.Thing} {ch : Int}
theorem Cor.gok (h:Cor W w L q k us):Dk.Ok q.gates 16∧Dk.GIn q.gates:=by
 obtain ⟨ks,kw,vm,vr,vs,td,tt,tg,h1,h2,h3,h4,h5,h6,h7,h8,h8',h9⟩:=Hid.out h
 exact ⟨h6,h7⟩
theorem pass_any (h:Cor W w L q k us) (hn:n < 16) (i:Dk.Ins) (hi:q.Fits i) (ho:25≤i.op∧i.op≤31) (hch:Dk.i64 ch) :
  Calls Tryz.prog 127 #[.pointer (some ⟨L.b,0,none⟩),.int .i64 (n:Int),Dk.iv i,.int .i64 ch] w fun e w'=>∃ A C,e=.returned (dval none A 0 C (q.pass n i ch).2)∧Cor W w' L (q.pass n i ch).1 k (Dk.rowOf 147 2 (.slice A (q.pass n i ch).2.woken.length C) (q.pass n i ch).2.woken.length (Dk.prs (q.pass n i ch).2.woken)::us):=by
 obtain ⟨op,a,b,c,m⟩:=i
 obtain ⟨hs,hmx,hcv,hcm,hsm⟩:=hi
 obtain ⟨ok,hI⟩:=h.gok
 dsimp only at hs hmx hcv hcm hsm ho
 have hsz:∀ all,(q.gates.signal m ch all).2.length≤5000:=fun all=>by
  refine Nat.le_trans (Dk.St.zgf _ _ _ _) ?_
  rw [List.getD_eq_getElem?_getD]
  cases e:q.gates.conds[m]? with
  | none=>simp
  | some x=>
   have:=ok.condLen (List.mem_of_getElem? e)
   simp only [Option.getD_some]
   omega
 unfold Dk.Sp.pass
 dsimp only
 by_cases h25:op=25
 ·subst h25
  rw [if_pos rfl]
  refine (zpg h hn a b c m hs _ _ fun w us h=>gLock h hn (hmx (.inl rfl))).mono ?_
  rintro e w' ⟨rfl,h'⟩
  refine ⟨none,0,?_,h'.nil⟩
  have e:Dk.whyIf (!(q.gates.lock n m).2.1) (q.gates.lock n m).2.2 1 0=if (q.gates.lock n m).2.1=false∧(q.gates.lock n m).2.2=0 then (1:Int) else 0:=by unfold Dk.whyIf;cases (q.gates.lock n m).2.1 <;> simp
  rw [e]
 rw [if_neg h25]
 by_cases h26:op=26
 ·subst h26
  rw [if_pos rfl]
  exact zjy h hn a b c m hs _ _ _ fun w us h=>gUnlock h hn (hmx (.inr rfl)) hch
 rw [if_neg h26]
 by_cases h27:op=27
 ·subst h27
  rw [if_pos rfl]
  obtain ⟨c0,c1,c2⟩:=hcm rfl
  obtain ⟨c,rfl⟩:∃ x:Nat,c=x:=⟨c.toNat,by omega⟩
  simp only [Int.toNat_natCast] at c1 ⊢
  refine (zpi h hn a b c m hs _ _ _ (fun w us h=>gHold h hn (hcv (.inl rfl)) c1 hch) (by omega)).mono ?_
  rintro e w' ⟨A,C,rfl,h'⟩
  refine ⟨A,C,?_,h'⟩
  have e:Dk.whyIf true (q.gates.hold n m c ch).2.2.2 2 0=if (q.gates.hold n m c ch).2.2.2=0 then (2:Int) else 0:=by unfold Dk.whyIf;simp only [true_and]
  rw [e]
 rw [if_neg h27]
 by_cases h30:op=30
 ·subst h30
  rw [if_pos rfl]
  refine (zpf h hn a b c m hs _ _ fun w us h=>gDown h hn (hsm (.inl rfl))).mono ?_
  rintro e w' ⟨rfl,h'⟩
  refine ⟨none,0,?_,h'.nil⟩
  have e:Dk.whyIf (!(q.gates.down n m).2.1) (q.gates.down n m).2.2 3 0=if (q.gates.down n m).2.1=false∧(q.gates.down n m).2.2=0 then (3:Int) else 0:=by unfold Dk.whyIf;cases (q.gates.down n m).2.1 <;> simp
  rw [e]
 rw [if_neg h30]
 by_cases h31:op=31
 ·subst h31
  rw [if_pos rfl]
  exact pass_up h hn a b c m hs _ _ _ fun w us h=>gUp h (hsm (.inr rfl)) hch
 rw [if_neg h31]
 by_cases h28:op=28
 ·subst h28
  exact zjx h hn a b c m hs _ (hsz false) fun w us h=>zge h (hcv (.inr (.inl rfl))) hI hch false
 ·obtain rfl:op=29:=by omega
  exact zfs h hn a b c m hs _ (hsz true) fun w us h=>zge h (hcv (.inr (.inr rfl))) hI hch true
end
section
variable {W w w' : World} {L : Dk.Loc} {q : Dk.Sp} {k n : Nat} {us us' us1 us2 : List Dk.Thing} {t : Dk.Thing}
theorem zew {α β:Type} (f:α→List β):∀ (l:List α) (i:Nat) (a:α),l[i]? = some a→(l.flatMap f).Perm (f a++(l.eraseIdx i).flatMap f)
 | [],i,a,h=>by simp at h
 | x::r,0,a,h=>by simp at h;subst h;simp
 | x::r,i+1,a,h=>by
  have ih:=zew f r i a (by simpa using h)
  rw [List.flatMap_cons,List.eraseIdx_cons_succ,List.flatMap_cons]
  exact (List.Perm.append_left (f x) ih).trans (List.perm_append_comm_assoc _ _ _)
theorem zi0 (bt:Nat) (room:Int) (v1 v2 v3:Value) (ws:List Nat) (ps:List (Int × Nat)) (gs:List Int) (us:List Dk.Thing):Dk.tube bt room v1 v2 v3 ws ps gs us=Dk.tube bt room v1 v2 v3 ws ps gs []++us:=rfl
theorem Cor.tube (h:Cor W w L q k us) (m:Nat) (hm:m < q.tubes.length):∃ bt rest g C,L.bts[m]? = some bt∧L.vt=.slice (some ⟨g,0,none⟩) q.tubes.length C∧q.tubes.length≤C∧C≤maxLen∧w.cell? ⟨g,m,none⟩=some (.pointer (some ⟨bt,0,none⟩))∧Dk.Tb W w bt (q.tube m).room (q.tube m).ws (q.tube m).ps (q.tube m).gs rest∧(∀ t ∈ us,t ∈ rest)∧
  ∀ w' t' new,t'.room=(q.tube m).room→Dk.Tb W w' bt (q.tube m).room t'.ws t'.ps t'.gs (new++rest)→Cor W w' L { q with tubes:=q.tubes.set m t' } k (new++us):=by
 obtain ⟨ks,kw,vm,vr,vs,td,tt,tg,h1,h2,h3,⟨ms,em,eb,hf,rfl⟩,h5,h6,h7,h8,h8',h9⟩:=Hid.out h
 have hlen:ms.length=q.tubes.length:=by rw [← em,List.length_map]
 obtain ⟨x,hx⟩:∃ x,ms[m]? = some x:=⟨_,List.getElem?_eq_getElem (by omega)⟩
 have et:q.tube m=x.t:=by
  unfold Dk.Sp.tube
  rw [← em,List.getD_eq_getElem?_getD,List.getElem?_map,hx]
  rfl
 have hrow:w.ownsRow W.heap.size 119 1 L.vt ms.length (ms.map Tm.ptr):=h9.row (by simp [parts])
 obtain ⟨g,C,y,ev,c1,c2,ey,ec,_,_⟩:=Dk.zbf hrow (k:=m) (by omega)
 rw [List.getElem?_map,hx] at ey
 cases ey
 rw [hlen] at ev c1
 have hp:=zew Tm.things ms m x hx
 refine ⟨x.bt,us++(spBox L q.thr vm vr::memT vm q.mem::recT vr q.recs::codeT L vs q.code::slotT L.bt L.bs ks q.st::wheelT L.bw L.bm kw q.now q.due::(td++(Dk.rowOf 119 1 L.vt ms.length (ms.map Tm.ptr)::((ms.eraseIdx m).flatMap Tm.things++tg)))),g,C,by rw [← eb,List.getElem?_map,hx];rfl,ev,c1,c2,ec,?_,fun t ht=>List.mem_append_left _ ht,fun w' t' new hro hT=>?_⟩
 ·rw [et]
  refine ⟨x.v1,x.v2,x.v3,?_,hf x (List.mem_of_getElem? hx)⟩
  show Dk.Sep W w (Dk.tube _ _ _ _ _ _ _ _ _)
  rw [zi0]
  refine h9.perm ?_
  have p:∀ (A B T R G U:List Dk.Thing) (r:Dk.Thing),T.Perm (x.things++R)→(U++(A++(B++(r::T++G)))).Perm (x.things++(U++(A++(B++(r::(R++G)))))):=fun A B T R G U r hT=>by
   have q1:(r::T++G).Perm (x.things++(r::(R++G))):=by
    have q0:(r::T++G).Perm (r::(x.things++R)++G):=(hT.cons r).append_right G
    refine q0.trans ?_
    have:(r::(x.things++(R++G))).Perm (x.things++r::(R++G)):=List.perm_middle.symm
    simpa [List.append_assoc] using this
   refine (List.Perm.append_left U (List.Perm.append_left A (List.Perm.append_left B q1))).trans ?_
   refine (List.Perm.append_left U (List.Perm.append_left A (List.perm_append_comm_assoc _ _ _))).trans ?_
   refine (List.Perm.append_left U (List.perm_append_comm_assoc _ _ _)).trans ?_
   exact List.perm_append_comm_assoc _ _ _
  exact p [spBox L q.thr vm vr,memT vm q.mem,recT vr q.recs,codeT L vs q.code,slotT L.bt L.bs ks q.st,wheelT L.bw L.bm kw q.now q.due] td (ms.flatMap Tm.things) ((ms.eraseIdx m).flatMap Tm.things) tg us (Dk.rowOf 119 1 L.vt ms.length (ms.map Tm.ptr)) hp
 ·obtain ⟨v1,v2,v3,s,hf'⟩:=Hid.out hT
  have hml:m < ms.length:=by omega
  obtain ⟨x',ex'⟩:∃ x':Tm,x'=⟨x.bt,v1,v2,v3,t'⟩:=⟨_,rfl⟩
  have hx':(ms.set m x')[m]? = some x':=List.getElem?_set_self hml
  have hp':=zew Tm.things (ms.set m x') m x' hx'
  rw [List.eraseIdx_set_eq] at hp'
  refine ⟨ks,kw,vm,vr,vs,td,_,tg,h1,h2,h3,⟨ms.set m x',?_,?_,?_,rfl⟩,h5,h6,h7,h8,h8',?_⟩
  ·rw [List.map_set,em,ex']
  ·rw [List.map_set,eb,ex']
   exact Dk.set_self _ _ _ (by rw [← eb,List.getElem?_map,hx];rfl)
  ·intro z hz
   rcases List.mem_or_eq_of_mem_set hz with hz | rfl
   ·exact hf z hz
   ·rw [ex'];exact hf'
  ·have s1:Dk.Sep W w' (x'.things++(new++(us++(spBox L q.thr vm vr::memT vm q.mem::recT vr q.recs::codeT L vs q.code::slotT L.bt L.bs ks q.st::wheelT L.bw L.bm kw q.now q.due::(td++(Dk.rowOf 119 1 L.vt ms.length (ms.map Tm.ptr)::((ms.eraseIdx m).flatMap Tm.things++tg))))))):=by
    rw [ex']
    show Dk.Sep W w' (Dk.tube x.bt t'.room v1 v2 v3 t'.ws t'.ps t'.gs []++_)
    rw [hro,← zi0]
    exact s
   refine s1.perm ?_
   have ep:(ms.set m x').map Tm.ptr=ms.map Tm.ptr:=by
    rw [List.map_set]
    exact Dk.set_self _ _ _ (by rw [List.getElem?_map,hx,ex'];rfl)
   have p:∀ (A B T R G U:List Dk.Thing) (r:Dk.Thing),T.Perm (x'.things++R)→(x'.things++(U++(A++(B++(r::(R++G)))))).Perm (U++(A++(B++(r::T++G)))):=fun A B T R G U r hT=>by
    have q1:(r::T++G).Perm (x'.things++(r::(R++G))):=by
     have q0:(r::T++G).Perm (r::(x'.things++R)++G):=(hT.cons r).append_right G
     refine q0.trans ?_
     have:(r::(x'.things++(R++G))).Perm (x'.things++r::(R++G)):=List.perm_middle.symm
     simpa [List.append_assoc] using this
    refine List.Perm.symm ?_
    refine (List.Perm.append_left U (List.Perm.append_left A (List.Perm.append_left B q1))).trans ?_
    refine (List.Perm.append_left U (List.Perm.append_left A (List.perm_append_comm_assoc _ _ _))).trans ?_
    refine (List.Perm.append_left U (List.perm_append_comm_assoc _ _ _)).trans ?_
    exact List.perm_append_comm_assoc _ _ _
   have:=p [spBox L q.thr vm vr,memT vm q.mem,recT vr q.recs,codeT L vs q.code,slotT L.bt L.bs ks q.st,wheelT L.bw L.bm kw q.now q.due] td ((ms.set m x').flatMap Tm.things) ((ms.eraseIdx m).flatMap Tm.things) tg (new++us) (Dk.rowOf 119 1 L.vt ms.length (ms.map Tm.ptr)) hp'
   rw [List.append_assoc] at this
   unfold parts
   rw [ep,List.length_set]
   simpa [List.append_assoc] using this
end
end Go.Proofs.YtglhhlfopccmaaaGreat
