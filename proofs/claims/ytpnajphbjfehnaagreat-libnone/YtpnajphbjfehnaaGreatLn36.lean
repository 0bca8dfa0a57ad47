import Derived.Test.YtpnajphbjfehnaaGreatLn35
set_option linter.unusedSimpArgs false
set_option linter.unusedVariables false
set_option linter.unnecessarySimpa false
set_option maxHeartbeats 8000000
set_option maxRecDepth 100000
namespace Dk
theorem lxc_bd (sp rb:Nat):∀ n,0≤lxc sp rb n∧lxc sp rb n≤n
 | 0=>⟨Int.le_refl _,Int.le_refl _⟩
 | n+1=>by
  have h:=lxc_bd sp rb n
  unfold lxc
  split <;> omega
end Dk
namespace Go.Proofs.YtpnajphbjfehnaaGreat
open Go.RowKit Go.Lib
theorem zhi (w:World):Calls Tryz.prog 9 #[] w fun e w'=>e=.returned (.bool true)∧Below w.heap.size w w':=by
 obtain ⟨W1,e1⟩:∃ W1,W1=w.alloc (.cells #[.int .i64 1,.int .i64 1,.int .i64 0,.int .i64 0,.int .u64 5] 75):=⟨_,rfl⟩
 obtain ⟨W2,e2⟩:∃ W2,W2=W1.alloc (.cells #[.slice (some ⟨w.heap.size,0,none⟩) 1 1] 71):=⟨_,rfl⟩
 have s2:=((Dk.Sep.begin (Below.refl w.heap.size w)).newBox e1).newBox e2
 have bx1:Dk.Box W2 w.heap.size ([Dk.lbI].flatMap Dk.Ins.cells).toArray 75:=s2.box (b:=w.heap.size) (by simp [Dk.lbI,Dk.Ins.cells])
 have bx2:=s2.box (b:=W1.heap.size) (cs:=#[.slice (some ⟨w.heap.size,0,none⟩) 1 1]) (t:=71) (by simp)
 have g1:Dk.SlN W2.heap.size W2 (some ⟨w.heap.size,0,none⟩) 1 1 [Dk.lbI]:=Dk.SlN.of_box bx1 bx1.lt (by decide) (fun i hi=>by
  rw [List.mem_singleton] at hi
  subst hi
  exact Dk.zjs.2)
 have hp:Dk.PrgAt W2.heap.size W2 ⟨some ⟨W1.heap.size,0,none⟩,1,1,none,0,0,none,0,0⟩ Dk.lbP:=by
  have z:Dk.SlI W2.heap.size W2 none 0 0 []:=⟨rfl,Nat.le_refl _,Nat.zero_le _,fun x hx=>(by cases hx),fun h0=>absurd h0 (by omega)⟩
  refine ⟨⟨rfl,Nat.le_refl _,by unfold maxLen;show 1≤_;omega,fun _=>⟨W1.heap.size,0,rfl,bx2.lt,fun k hk=>?_⟩⟩,z,z,by unfold Dk.i64;simp [Dk.lbP],by unfold Dk.i64;simp [Dk.lbP],by unfold Dk.i64;simp [Dk.lbP],by unfold Dk.i64;simp [Dk.lbP],by unfold Dk.i64;simp [Dk.lbP]⟩
  obtain rfl:k=0:=by have:k < 1:=hk;omega
  exact ⟨_,1,1,by rw [bx2.cell];rfl,g1⟩
 have KN:=NewC_yes (Dk.Sep.begin s2.out) _ Dk.lbP hp (Nat.le_refl _) Dk.lb_check
 have KN':Calls Tryz.prog 10 #[.agg #[.slice (some ⟨W1.heap.size,0,none⟩) 1 1,.int .i64 0,.int .i64 0,.int .i64 0,.slice none 0 0,.slice none 0 0,.int .i64 0,.int .i64 0]] W2 fun e w'=>∃ L:Dk.Loc,e=.returned (.tuple #[.pointer (some ⟨L.b,0,none⟩),.int .i64 0])∧Lives w w' L Dk.lb0 Dk.lb0 0 1 0 []:=KN
 have H1:Hid _:=e1.symm
 have H2:Hid _:=e2.symm
 clear e1 e2 s2 bx1 bx2 g1 hp KN
 go_enter Tryz.func9,Tryz.ntmps9
 go_wp2_with (first | (rw [H1.out];clear H1) | (rw [H2.out];clear H2))
 refine KN'.mono ?_
 rintro e w3 ⟨L,rfl,h3⟩
 obtain ⟨ts,hS,s3⟩:=zbo (s:=0) (h3.cor.mono (k':=10) (by omega))
 have KL:=New_l lbI_i hS s3 (by show (0:Nat)≤2;omega) (p:=2) (by unfold Dk.i64;omega)
 generalize L.b=sp at *
 clear KN' h3 hS s3
 go_wp2_with fail
 refine KL.mono ?_
 rintro e w4 ⟨b,rfl,rb,l4,hl4,h4⟩
 have hl4':l4.st=Dk.lx0 sp rb:=hl4
 obtain ⟨x1,x2,x3,x4⟩:=Dk.lx0_ok sp rb
 have KG:Calls Tryz.prog 16 #[.pointer (some ⟨b,0,none⟩),.int .i64 1] w4 fun e w'=>e=.returned (.bool true)∧∃ l':Dk.Lb Nat,l'.st=Dk.lx1 sp rb∧Dk.LB Dk.lbS w w' b l' []:=by
  have:=zii h4 (k:=1) (by rw [← l4.zab,hl4',x3];omega) (by rw [hl4'];exact x2) (by rw [hl4'];exact x1)
  rw [hl4'] at this
  exact this
 clear KL hl4 h4 hl4'
 go_wp2_with fail
 refine KG.mono ?_
 rintro e w5 ⟨rfl,l5,hl5,h5⟩
 have KG2:=Grant_no h5 (p:=1) (.inr (by rw [hl5];exact x4))
 have HH:Hid (∃ l':Dk.Lb Nat,l'.st=Dk.lxs sp rb 0∧Dk.LB Dk.lbS w w5 b l' []):=⟨l5,hl5,h5⟩
 clear KG hl5 h5 x1 x2 x3 x4
 go_wp2_with (first | (go_at_call 16;refine KG2.mono ?_;rintro e w' ⟨rfl,ew⟩;subst w'))
 clear KG2
 go_loopw [6,7] (fun v6 v7 w'=>∃ j:Nat,j≤20∧v7=.int .i64 j∧v6=.int .i64 (Dk.lxc sp rb j)∧Hid (∃ l':Dk.Lb Nat,l'.st=Dk.lxs sp rb j∧Dk.LB Dk.lbS w w' b l' [])) (fun v6 v7 w'=>20 - (RowKit.intOf v7).toNat)
 case atStart=>exact ⟨0,by omega,rfl,rfl,HH.out⟩
 case round=>
  obtain ⟨j,hj,rfl,rfl,hL⟩:=hrel
  obtain ⟨l1,hl1,h1⟩:=Hid.out hL
  have hx:=Dk.lx_at sp rb hj
  have hs:l1.s=(Dk.lxs sp rb j).s:=congrArg Dk.Ls.s hl1
  have hcb:=Dk.lxc_bd sp rb j
  clear HH hL
  by_cases hlt:j < 20
  ·have KS:Calls Tryz.prog 15 #[.pointer (some ⟨b,0,none⟩),.int .i64 1,.int .i64 0] wr fun e w'=>∃ A C,e=.returned (.tuple #[(Dk.lxd sp rb j).v A C,.int .i64 0])∧∃ l':Dk.Lb Nat,l'.st=Dk.lxs sp rb (j+1)∧Dk.LB Dk.lbS w w' b l' []:=by
    have K:=Step_yes lbI_i h1 (by rw [hs];exact hx.2.2.1) (k:=1) (by rw [hl1];exact hx.2.1) (c:=0) (by unfold Dk.i64;omega) (by rw [hl1];exact hx.1)
    rw [hl1] at K
    refine K.mono ?_
    rintro e w' ⟨A,C,he,l',h2,h3⟩
    exact ⟨A,C,he,l',h2,h3.drop⟩
   have hc1:Dk.lxc sp rb (j+1)=Dk.lxc sp rb j+(if (Dk.lxd sp rb j).cm=true then 1 else 0):=rfl
   generalize Dk.lxd sp rb j=d at *
   generalize Dk.lxc sp rb j=c0 at *
   clear hl1 h1 hx hs
   go_wp2_with fail
   refine KS.mono ?_
   rintro e w6 ⟨A,C,rfl,l6,hl6,h6⟩
   obtain ⟨W7,e7⟩:∃ W,W=w6.alloc (.cells didz 45):=⟨_,rfl⟩
   have h7:=h6.newBox e7
   have b7:Dk.Box W7 w6.heap.size didz 45:=h7.get (t:=Dk.boxOf _ _ _) (by simp)
   have h8:=Dk.LB.setRow (us1:=[]) h7 #[.bool d.cm,.int .i64 d.t,.slice A d.e.woken.length C,.bool d.e.st,.bool d.e.en,.bool d.e.ye]
   obtain ⟨W8,e8⟩:∃ W,W=W7.setRow w6.heap.size #[.bool d.cm,.int .i64 d.t,.slice A d.e.woken.length C,.bool d.e.st,.bool d.e.en,.bool d.e.ye]:=⟨_,rfl⟩
   rw [← e8] at h8
   have b8:Dk.Box W8 w6.heap.size #[.bool d.cm,.int .i64 d.t,.slice A d.e.woken.length C,.bool d.e.st,.bool d.e.en,.bool d.e.ye] 45:=h8.get (t:=Dk.boxOf _ _ _) (by simp)
   have d0:W8.cell? ⟨w6.heap.size,0,none⟩=some (.bool d.cm):=b8.cell 0
   have HB7:Hid _:=b7
   have H7:Hid (w6.alloc (.cells #[.bool false,.int .i64 0,.slice none 0 0,.bool false,.bool false,.bool false] 45)=W7):=e7.symm
   have H8:Hid _:=e8.symm
   have HZ:Hid (∃ l':Dk.Lb Nat,l'.st=Dk.lxs sp rb (j+1)∧Dk.LB Dk.lbS w W8 b l' []):=⟨l6,hl6,h8.drop⟩
   clear KS hl6 h6 e7 h7 b7 h8 e8 b8
   cases hcm:d.cm with
   | true=>
    rw [hcm] at d0 hc1
    rw [if_pos rfl] at hc1
    have hcm':Hid _:=hcm
    clear hcm
    go_wp2_with (first | (rw [H7.out];clear H7) | (refine wpList_store_row rfl 45 _ _ rfl w6.heap.size #[.bool d.cm,.int .i64 d.t,.slice A d.e.woken.length C,.bool d.e.st,.bool d.e.en,.bool d.e.ye] rfl rfl 45 _ HB7.out.heap zc rfl (zh _ _ _ _ _ _ _ _) ?_;rw [H8.out];clear HB7 H8))
    go_roundw
    case rel=>exact ⟨j+1,by omega,by go_num,by rw [hc1],HZ.out⟩
    case measure=>simp [RowKit.intOf];omega
   | false=>
    rw [hcm] at d0 hc1
    rw [if_neg (by decide),Int.add_zero] at hc1
    have hcm':Hid _:=hcm
    clear hcm
    go_wp2_with (first | (rw [H7.out];clear H7) | (refine wpList_store_row rfl 45 _ _ rfl w6.heap.size #[.bool d.cm,.int .i64 d.t,.slice A d.e.woken.length C,.bool d.e.st,.bool d.e.en,.bool d.e.ye] rfl rfl 45 _ HB7.out.heap zc rfl (zh _ _ _ _ _ _ _ _) ?_;rw [H8.out];clear HB7 H8))
    go_roundw
    case rel=>exact ⟨j+1,by omega,by go_num,by rw [hc1],HZ.out⟩
    case measure=>simp [RowKit.intOf];omega
  ·obtain rfl:j=20:=by omega
   obtain ⟨y1,y2,y3,y4⟩:=Dk.lx_end sp rb
   rw [y1]
   have KS:Calls Tryz.prog 15 #[.pointer (some ⟨b,0,none⟩),.int .i64 0,.int .i64 0] wr fun e w'=>e=.returned (.tuple #[Dk.Dd.none.v none 0,.int .i64 11])∧Dk.LB Dk.lbS w w' b l1 []:=Step_no h1 (p:=0) (by rw [hl1];exact y2) 0
   rw [← hl1] at y3 y4
   have HY3:Hid _:=y3
   have HY4:Hid _:=y4
   clear h1 hx hs hcb hl1 y1 y2 y3 y4
   go_wp2_with fail
   refine KS.mono ?_
   rintro e w6 ⟨rfl,h6⟩
   obtain ⟨W7,e7⟩:∃ W,W=w6.alloc (.cells didz 45):=⟨_,rfl⟩
   have h7:=h6.newBox e7
   have b7:Dk.Box W7 w6.heap.size didz 45:=h7.get (t:=Dk.boxOf _ _ _) (by simp)
   have h8:=(Dk.LB.setRow (us1:=[]) h7 didz).drop
   obtain ⟨W8,e8⟩:∃ W,W=W7.setRow w6.heap.size didz:=⟨_,rfl⟩
   rw [← e8] at h8
   have KP:=zip h8
   rw [HY4.out] at KP
   have HB7:Hid _:=b7
   have H7:Hid (w6.alloc (.cells #[.bool false,.int .i64 0,.slice none 0 0,.bool false,.bool false,.bool false] 45)=W7):=e7.symm
   have H8:Hid _:=e8.symm
   have HH8:Hid _:=h8
   clear KS h6 e7 h7 b7 h8 e8
   go_wp2_with (first | (rw [H7.out];clear H7) | (refine wpList_store_row rfl 45 _ _ rfl w6.heap.size didz rfl rfl 45 _ HB7.out.heap zc rfl zcn ?_;rw [H8.out];clear HB7 H8))
   refine KP.mono ?_
   rintro e w9 ⟨A9,C9,rfl,s9⟩
   have h9:=Dk.LB.onto HH8.out s9
   obtain ⟨W10,e10⟩:∃ W,W=w9.alloc (.cells #[.int .i64 1] 3):=⟨_,rfl⟩
   have h10:=h9.lit1 e10
   have i1:∀ x ∈ [(1:Int)],Dk.i64 x:=fun x hx=>by rw [List.mem_singleton] at hx;subst hx;unfold Dk.i64;omega
   have KI:=zij _ _ _ _ _ [1] W10 (h10.ints (A:=A9) (n:=1) (C:=C9) (xs:=[1]) (e:=3) (by simp) rfl i1) (h10.ints (A:=some ⟨w9.heap.size,0,none⟩) (n:=1) (C:=1) (xs:=[1]) (e:=3) (by simp) rfl i1)
   have H10:Hid _:=e10.symm
   have HH10:Hid _:=h10
   clear KP HH8 s9 h9 e10 h10 i1
   go_wp2_with (first | (rw [H10.out];clear H10))
   refine KI.mono ?_
   rintro e w11 ⟨rfl,u11⟩
   have h11:=Dk.LB.below HH10.out u11
   have KK:=Locked_l h11
   rw [HY3.out] at KK
   have HU:Hid _:=h11.up
   clear KI HH10 h11 u11
   go_wp2_with (first | (go_at_call 24;refine KK.mono ?_;rintro e w' ⟨rfl,ew⟩;subst w'))
   go_ret
   exact ⟨rfl,HU.out⟩
theorem zfo (p c:Int) (A:Option Addr) (L C:Nat) (w:World):Calls Tryz.prog 5 #[.int .i64 p,.int .i64 c,.slice A L C] w fun e w'=>e=.returned (.bool true)∧Below w.heap.size w w':=by
 go_enter Tryz.func5,Tryz.ntmps5
 go_wp2_with (first | (go_at_call 19;refine (Tell_nil _ _).mono ?_;rintro e w' ⟨rfl,ew⟩;subst w'))
 refine (Step_nil p c w).mono ?_
 rintro e w1 ⟨rfl,u1⟩
 obtain ⟨W2,e2⟩:∃ W,W=w1.alloc (.cells didz 45):=⟨_,rfl⟩
 have s1:=Dk.Sep.begin u1
 have s2:=s1.newBox e2
 have b2:Dk.Box W2 w1.heap.size didz 45:=s2.box (by simp)
 have s3:=Dk.Sep.setRow (us1:=[]) s2 didz
 obtain ⟨W3,e3⟩:∃ W,W=W2.setRow w1.heap.size didz:=⟨_,rfl⟩
 rw [← e3] at s3
 have HB2:Hid _:=b2
 have H2:Hid (w1.alloc (.cells #[.bool false,.int .i64 0,.slice none 0 0,.bool false,.bool false,.bool false] 45)=W2):=e2.symm
 have H3:Hid _:=e3.symm
 have HS3:Hid (Dk.Sep w W3 [Dk.boxOf w1.heap.size didz 45]):=s3
 clear e2 s1 s2 b2 s3 e3 u1
 go_wp2_with (first | (rw [H2.out];clear H2) | (refine wpList_store_row rfl 45 _ _ rfl w1.heap.size didz rfl rfl 45 _ HB2.out.heap zc rfl zcn ?_;rw [H3.out];clear HB2 H3))
 refine (zik p W3).mono ?_
 rintro e w4 ⟨rfl,u4⟩
 have s4:=Dk.Sep.below HS3.out u4
 obtain ⟨W5,e5⟩:∃ W,W=w4.alloc (.cells vz 55):=⟨_,rfl⟩
 have s5:=s4.newBox e5
 have b5:Dk.Box W5 w4.heap.size vz 55:=s5.box (by simp)
 have s6:=Dk.Sep.setRow (us1:=[]) s5 vz
 obtain ⟨W6,e6⟩:∃ W,W=W5.setRow w4.heap.size vz:=⟨_,rfl⟩
 rw [← e6] at s6
 have HB5:Hid _:=b5
 have H5:Hid (w4.alloc (.cells #[.int .i64 0,.int .i64 0,.slice none 0 0] 55)=W5):=e5.symm
 have H6:Hid _:=e6.symm
 have HS6:Hid _:=s6
 clear HS3 s4 e5 s5 b5 s6 e6 u4
 go_wp2_with (first | (rw [H5.out];clear H5) | (refine wpList_store_row rfl 55 _ _ rfl w4.heap.size vz rfl rfl 55 _ HB5.out.heap zz rfl vz_all ?_;rw [H6.out];clear HB5 H6))
 refine (zhi W6).mono ?_
 rintro e w7 ⟨rfl,u7⟩
 have s7:=Dk.Sep.below HS6.out u7
 have b7:Dk.Box w7 w1.heap.size didz 45:=s7.box (by simp)
 have d0:w7.cell? ⟨w1.heap.size,0,none⟩=some (.bool false):=b7.cell 0
 have HU:Hid _:=s7.out
 clear HS6 s7 b7 u7
 go_wp2_with (first | (go_at_call 16;refine (zih p _).mono ?_;rintro e w' ⟨rfl,ew⟩;subst w') | (go_at_call 17;refine (zhe p _).mono ?_;rintro e w' ⟨rfl,ew⟩;subst w') | (go_at_call 18;refine (zfq p _).mono ?_;rintro e w' ⟨rfl,ew⟩;subst w') | (go_at_call 24;refine (zhd _).mono ?_;rintro e w' ⟨rfl,ew⟩;subst w') | (go_at_call 25;refine (ziq _).mono ?_;rintro e w' ⟨rfl,ew⟩;subst w') | (go_at_call 22;refine (zfr _).mono ?_;rintro e w' ⟨rfl,ew⟩;subst w') | (go_at_call 26;refine (zis _).mono ?_;rintro e w' ⟨rfl,ew⟩;subst w') | (go_at_call 27;refine (zhf _).mono ?_;rintro e w' ⟨rfl,ew⟩;subst w'))
 go_ret
 exact ⟨rfl,HU.out⟩
end Go.Proofs.YtpnajphbjfehnaaGreat
