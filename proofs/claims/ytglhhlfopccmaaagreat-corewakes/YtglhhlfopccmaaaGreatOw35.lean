import Derived.Test.YtglhhlfopccmaaaGreatOw34
set_option linter.unusedSimpArgs false
set_option linter.unusedVariables false
set_option linter.unnecessarySimpa false
set_option maxHeartbeats 8000000
set_option maxRecDepth 100000
namespace Go.Proofs.YtglhhlfopccmaaaGreat
open Go.RowKit Go.Lib
section
variable {W w w' : World} {L : Dk.Loc} {q : Dk.Sp} {k n : Nat} {us us' us1 us2 : List Dk.Thing} {t : Dk.Thing}
theorem join_err (h:Cor W w L q k us) (hk:k≤100000) (h16:q.st.length=16) (hn:n < 16) (op:Int) (a b:Nat) (c:Int) (nn:Nat) (ha:a < 8) (hb:b < 8) (hv:Nat) (ehv:(q.thr n).f.r b=hv) (hh:hv < 18446744073709551616) (r:Int) (hr:(q.find n hv).2=r) (h0:¬ r=0) :
  Calls Tryz.prog 125 #[.pointer (some ⟨L.b,0,none⟩),.int .i64 (n:Int),.pointer (some ⟨L.b,10+n*20,none⟩),.agg #[.int .i64 op,.int .i64 (a:Int),.int .i64 (b:Int),.int .i64 c,.int .u64 (nn:Nat)]] w fun e w'=>e=.returned (.agg #[.int .u64 (hv:Nat),.int .u64 0,.int .i64 r,.int .i64 0,.slice none 0 0,.slice none 0 0])∧Cor W w' L q k us:=by
 obtain ⟨W1,e1⟩:∃ W1,W1=w.alloc (.cells #[.int .i64 op,.int .i64 (a:Int),.int .i64 (b:Int),.int .i64 c,.int .u64 (nn:Nat)] 112):=⟨_,rfl⟩
 obtain ⟨W2,e2⟩:∃ W2,W2=W1.alloc (.cells #[.int .u64 0,.int .u64 0,.int .i64 0,.int .i64 0,.slice none 0 0,.slice none 0 0] 204):=⟨_,rfl⟩
 have h2:=((h.newBox e1).newBox e2).swap
 have hC:=h2.below (Dk.zh (Below.refl _ _))
 have MK:∀ w' us',Cor W w' L q k us'→w'.cell? ⟨L.b,10+n*20+2+b,none⟩=some (.int .u64 (hv:Nat)):=fun w' us' h'=>by rw [h'.regCell hn b hb,ehv]
 have HS0:Dk.Box W2.drew w.heap.size #[.int .i64 op,.int .i64 (a:Int),.int .i64 (b:Int),.int .i64 c,.int .u64 (nn:Nat)] 112∧W2.drew.cell? ⟨L.b,10+n*20+2+b,none⟩=some (.int .u64 (hv:Nat)):=⟨hC.box (by simp),MK _ _ hC⟩
 have KF:∀ w1 us',Cor W w1 L q k us'→Calls Tryz.prog 152 #[.pointer (some ⟨L.b,0,none⟩),.int .i64 (n:Int),.int .u64 (hv:Nat)] w1 fun e w'=>e=.returned (.tuple #[.int .i64 (q.find n hv).1,.int .i64 (q.find n hv).2])∧w'=w1:=fun w1 us' h1=>zec h1 hk h16 n hv hh
 rw [hr] at KF
 generalize (q.find n hv).1=rm at *
 have y1:(r != 0)=true:=by simpa using h0
 clear hr
 have i1:(a:Int) < 8:=by omega
 have i2:(0:Int)≤(a:Int):=by omega
 have i3:(b:Int) < 8:=by omega
 have i4:(0:Int)≤(b:Int):=by omega
 have H1:Hid _:=e1.symm
 have H2:Hid _:=e2.symm
 clear h h2 e1 e2 ehv hh
 go_enter Tryz.func125,Tryz.ntmps125
 go_wp2_with (first | (rw [H1.out];clear H1) | (rw [H2.out];clear H2))
 refine Dk.zf (S:=fun w'=>Dk.Box w' w.heap.size #[.int .i64 op,.int .i64 (a:Int),.int .i64 (b:Int),.int .i64 c,.int .u64 (nn:Nat)] 112∧w'.cell? ⟨L.b,10+n*20+2+b,none⟩=some (.int .u64 (hv:Nat))) [0,1,2,3,4,5,6,7,8] [9,10] (by kernel_rfl) (by kernel_rfl) HS0 ?_
 refine Dk.za (v:=.pointer (some ⟨L.b,10+n*20,none⟩)) rfl rfl (fun w' hw'=>by go_simp) ?_
 simp only [zD]
 refine Dk.za (v:=.pointer (some ⟨w.heap.size,2,none⟩)) rfl rfl (fun w' hw'=>by go_simp) ?_
 simp only [zD]
 refine Dk.za (v:=.int .i64 (b:Int)) rfl rfl (fun w' hw'=>by have c:=hw'.1.cell 2;go_simp) ?_
 simp only [zD]
 refine Dk.za (v:=.pointer (some ⟨L.b,10+n*20,none⟩)) rfl rfl (fun w' hw'=>by go_simp) ?_
 simp only [zD]
 refine Dk.za (v:=.pointer (some ⟨L.b,10+n*20,none⟩)) rfl rfl (fun w' hw'=>by go_simp) ?_
 simp only [zD]
 refine Dk.za (v:=.pointer (some ⟨L.b,10+n*20+2,none⟩)) rfl rfl (fun w' hw'=>by go_simp) ?_
 simp only [zD]
 refine Dk.za (v:=.pointer (some ⟨L.b,10+n*20+2+b,none⟩)) rfl rfl (fun w' hw'=>by go_simp) ?_
 simp only [zD]
 refine Dk.za (v:=.int .u64 (hv:Nat)) rfl rfl (fun w' hw'=>by have c:=hw'.2;go_simp) ?_
 simp only [zD]
 refine Dk.za (v:=.agg #[.int .u64 (hv:Nat),.int .u64 0,.int .i64 0,.int .i64 0,.slice none 0 0,.slice none 0 0]) rfl rfl (fun w' hw'=>by go_simp) ?_
 simp only [zD]
 generalize W2.drew=WD at *
 obtain ⟨W3,e3⟩:∃ W3,W3=WD.alloc (.cells #[.int .u64 0,.int .u64 0,.int .i64 0,.int .i64 0,.slice none 0 0,.slice none 0 0] 204):=⟨_,rfl⟩
 have h3:=hC.newBox e3
 refine Dk.zk rfl rfl ?_
 refine zcm (v:=.pointer (some ⟨WD.heap.size,0,none⟩)) (w':=W3) (by rw [e3];go_simp) ⟨⟨h3.box (by simp),MK _ _ h3⟩,?_⟩
 simp only [zD]
 have b3:Dk.Box W3 WD.heap.size #[.int .u64 0,.int .u64 0,.int .i64 0,.int .i64 0,.slice none 0 0,.slice none 0 0] 204:=h3.box (by simp)
 obtain ⟨W4,e4⟩:∃ W4,W4=W3.setRow WD.heap.size #[.int .u64 (hv:Nat),.int .u64 0,.int .i64 0,.int .i64 0,.slice none 0 0,.slice none 0 0]:=⟨_,rfl⟩
 have h4:=h3.setRow (cs':=#[.int .u64 (hv:Nat),.int .u64 0,.int .i64 0,.int .i64 0,.slice none 0 0,.slice none 0 0]) e4
 refine Dk.zk rfl rfl ?_
 refine wp_store_row 204 _ _ rfl WD.heap.size #[.int .u64 (hv:Nat),.int .u64 0,.int .i64 0,.int .i64 0,.slice none 0 0,.slice none 0 0] rfl rfl 204 _ b3.heap sizeDeed rfl (zaf hv 0 _ _) ?_
 rw [← e4]
 refine ⟨⟨h4.box (by simp),MK _ _ h4⟩,?_⟩
 simp only [zD]
 show NoPanic _ Exit.normal _ _
 refine NoPanic.normal ?_
 rename_i hK
 refine hK _ _ ?_
 clear hK b3 h3 e3 e4 HS0 hC MK
 have b4:Dk.Box W4 WD.heap.size #[.int .u64 (hv:Nat),.int .u64 0,.int .i64 0,.int .i64 0,.slice none 0 0,.slice none 0 0] 204:=h4.box (by simp)
 have k0:W4.cell? ⟨WD.heap.size,0,none⟩=some (.int .u64 (hv:Nat)):=b4.cell 0
 have k2:W4.cell? ⟨WD.heap.size,2,none⟩=some (.int .i64 0):=b4.cell 2
 have k2':=b4.frozen 2
 have K:=KF _ _ h4
 obtain ⟨W5,e5⟩:∃ W5,W5=W4.setCell ⟨WD.heap.size,2,none⟩ (.int .i64 r):=⟨_,rfl⟩
 have h5:Cor W W5 L q k (bxD WD.heap.size hv 0 r 0 (.slice none 0 0) (.slice none 0 0)::Dk.boxOf w.heap.size #[.int .i64 op,.int .i64 (a:Int),.int .i64 (b:Int),.int .i64 c,.int .u64 (nn:Nat)] 112::Dk.boxOf W1.heap.size #[.int .u64 0,.int .u64 0,.int .i64 0,.int .i64 0,.slice none 0 0,.slice none 0 0] 204::us):=by rw [e5];exact h4.setBox (o:=2) (.int .i64 r)
 have b5:Dk.Box W5 WD.heap.size #[.int .u64 (hv:Nat),.int .u64 0,.int .i64 r,.int .i64 0,.slice none 0 0,.slice none 0 0] 204:=h5.box (by simp [bxD,dcs])
 have c5:=b5.cell
 have H5:Hid _:=e5.symm
 clear KF h4 b4 e5
 have zz:Dk.Box W5 W1.heap.size #[.int .u64 0,.int .u64 0,.int .i64 0,.int .i64 0,.slice none 0 0,.slice none 0 0] 204:=h5.box (by simp)
 have hZ:=(h5.drop.drop.setRow (cs':=#[.int .u64 (hv:Nat),.int .u64 0,.int .i64 r,.int .i64 0,.slice none 0 0,.slice none 0 0]) rfl).drop
 have d0:=(zz.row (cs':=#[.int .u64 (hv:Nat),.int .u64 0,.int .i64 r,.int .i64 0,.slice none 0 0,.slice none 0 0])).cell
 have HB:Hid _:=zz
 clear h5 b5 zz
 go_wp2_with (first | (go_at_call 152;refine K.mono ?_;rintro e w' ⟨rfl,ew⟩;subst w') | (rw [H5.out];clear H5) | (refine wpList_store_row rfl 204 _ _ rfl W1.heap.size #[.int .u64 (hv:Nat),.int .u64 0,.int .i64 r,.int .i64 0,.slice none 0 0,.slice none 0 0] rfl rfl 204 _ HB.out.heap sizeDeed rfl (zaf hv 0 _ _) ?_))
 exact bodyPost_ret (v:=.agg #[.int .u64 (hv:Nat),.int .u64 0,.int .i64 r,.int .i64 0,.slice none 0 0,.slice none 0 0]) (by simp [results,Tryz.results125,go_sem,d0]) rfl ⟨rfl,hZ⟩
theorem join_blk (h:Cor W w L q k us) (hk:k≤100000) (h16:q.st.length=16) (hn:n < 16) (op:Int) (a b:Nat) (c:Int) (nn:Nat) (ha:a < 8) (hb:b < 8) (hv:Nat) (ehv:(q.thr n).f.r b=hv) (hh:hv < 18446744073709551616) (m:Nat) (hm:m < 16) (ef:q.find n hv=((m:Int),0)) (hw:¬ (q.thr m).why=9) :
  Calls Tryz.prog 125 #[.pointer (some ⟨L.b,0,none⟩),.int .i64 (n:Int),.pointer (some ⟨L.b,10+n*20,none⟩),.agg #[.int .i64 op,.int .i64 (a:Int),.int .i64 (b:Int),.int .i64 c,.int .u64 (nn:Nat)]] w fun e w'=>e=.returned (.agg #[.int .u64 (hv:Nat),.int .u64 0,.int .i64 0,.int .i64 4,.slice none 0 0,.slice none 0 0])∧Cor W w' L (q.setT m { q.thr m with joined:=true,joiner:=n }) k us:=by
 obtain ⟨W1,e1⟩:∃ W1,W1=w.alloc (.cells #[.int .i64 op,.int .i64 (a:Int),.int .i64 (b:Int),.int .i64 c,.int .u64 (nn:Nat)] 112):=⟨_,rfl⟩
 obtain ⟨W2,e2⟩:∃ W2,W2=W1.alloc (.cells #[.int .u64 0,.int .u64 0,.int .i64 0,.int .i64 0,.slice none 0 0,.slice none 0 0] 204):=⟨_,rfl⟩
 have h2:=((h.newBox e1).newBox e2).swap
 have hC:=h2.below (Dk.zh (Below.refl _ _))
 have MK:∀ w' us',Cor W w' L q k us'→w'.cell? ⟨L.b,10+n*20+2+b,none⟩=some (.int .u64 (hv:Nat)):=fun w' us' h'=>by rw [h'.regCell hn b hb,ehv]
 have HS0:Dk.Box W2.drew w.heap.size #[.int .i64 op,.int .i64 (a:Int),.int .i64 (b:Int),.int .i64 c,.int .u64 (nn:Nat)] 112∧W2.drew.cell? ⟨L.b,10+n*20+2+b,none⟩=some (.int .u64 (hv:Nat)):=⟨hC.box (by simp),MK _ _ hC⟩
 have KF:∀ w1 us',Cor W w1 L q k us'→Calls Tryz.prog 152 #[.pointer (some ⟨L.b,0,none⟩),.int .i64 (n:Int),.int .u64 (hv:Nat)] w1 fun e w'=>e=.returned (.tuple #[.int .i64 (q.find n hv).1,.int .i64 (q.find n hv).2])∧w'=w1:=fun w1 us' h1=>zec h1 hk h16 n hv hh
 rw [ef] at KF
 have j1:(m:Int) < 16:=by omega
 have j2:(0:Int)≤(m:Int):=by omega
 clear ef
 have i1:(a:Int) < 8:=by omega
 have i2:(0:Int)≤(a:Int):=by omega
 have i3:(b:Int) < 8:=by omega
 have i4:(0:Int)≤(b:Int):=by omega
 have H1:Hid _:=e1.symm
 have H2:Hid _:=e2.symm
 clear h h2 e1 e2 ehv hh
 go_enter Tryz.func125,Tryz.ntmps125
 go_wp2_with (first | (rw [H1.out];clear H1) | (rw [H2.out];clear H2))
 refine Dk.zf (S:=fun w'=>Dk.Box w' w.heap.size #[.int .i64 op,.int .i64 (a:Int),.int .i64 (b:Int),.int .i64 c,.int .u64 (nn:Nat)] 112∧w'.cell? ⟨L.b,10+n*20+2+b,none⟩=some (.int .u64 (hv:Nat))) [0,1,2,3,4,5,6,7,8] [9,10] (by kernel_rfl) (by kernel_rfl) HS0 ?_
 refine Dk.za (v:=.pointer (some ⟨L.b,10+n*20,none⟩)) rfl rfl (fun w' hw'=>by go_simp) ?_
 simp only [zD]
 refine Dk.za (v:=.pointer (some ⟨w.heap.size,2,none⟩)) rfl rfl (fun w' hw'=>by go_simp) ?_
 simp only [zD]
 refine Dk.za (v:=.int .i64 (b:Int)) rfl rfl (fun w' hw'=>by have c:=hw'.1.cell 2;go_simp) ?_
 simp only [zD]
 refine Dk.za (v:=.pointer (some ⟨L.b,10+n*20,none⟩)) rfl rfl (fun w' hw'=>by go_simp) ?_
 simp only [zD]
 refine Dk.za (v:=.pointer (some ⟨L.b,10+n*20,none⟩)) rfl rfl (fun w' hw'=>by go_simp) ?_
 simp only [zD]
 refine Dk.za (v:=.pointer (some ⟨L.b,10+n*20+2,none⟩)) rfl rfl (fun w' hw'=>by go_simp) ?_
 simp only [zD]
 refine Dk.za (v:=.pointer (some ⟨L.b,10+n*20+2+b,none⟩)) rfl rfl (fun w' hw'=>by go_simp) ?_
 simp only [zD]
 refine Dk.za (v:=.int .u64 (hv:Nat)) rfl rfl (fun w' hw'=>by have c:=hw'.2;go_simp) ?_
 simp only [zD]
 refine Dk.za (v:=.agg #[.int .u64 (hv:Nat),.int .u64 0,.int .i64 0,.int .i64 0,.slice none 0 0,.slice none 0 0]) rfl rfl (fun w' hw'=>by go_simp) ?_
 simp only [zD]
 generalize W2.drew=WD at *
 obtain ⟨W3,e3⟩:∃ W3,W3=WD.alloc (.cells #[.int .u64 0,.int .u64 0,.int .i64 0,.int .i64 0,.slice none 0 0,.slice none 0 0] 204):=⟨_,rfl⟩
 have h3:=hC.newBox e3
 refine Dk.zk rfl rfl ?_
 refine zcm (v:=.pointer (some ⟨WD.heap.size,0,none⟩)) (w':=W3) (by rw [e3];go_simp) ⟨⟨h3.box (by simp),MK _ _ h3⟩,?_⟩
 simp only [zD]
 have b3:Dk.Box W3 WD.heap.size #[.int .u64 0,.int .u64 0,.int .i64 0,.int .i64 0,.slice none 0 0,.slice none 0 0] 204:=h3.box (by simp)
 obtain ⟨W4,e4⟩:∃ W4,W4=W3.setRow WD.heap.size #[.int .u64 (hv:Nat),.int .u64 0,.int .i64 0,.int .i64 0,.slice none 0 0,.slice none 0 0]:=⟨_,rfl⟩
 have h4:=h3.setRow (cs':=#[.int .u64 (hv:Nat),.int .u64 0,.int .i64 0,.int .i64 0,.slice none 0 0,.slice none 0 0]) e4
 refine Dk.zk rfl rfl ?_
 refine wp_store_row 204 _ _ rfl WD.heap.size #[.int .u64 (hv:Nat),.int .u64 0,.int .i64 0,.int .i64 0,.slice none 0 0,.slice none 0 0] rfl rfl 204 _ b3.heap sizeDeed rfl (zaf hv 0 _ _) ?_
 rw [← e4]
 refine ⟨⟨h4.box (by simp),MK _ _ h4⟩,?_⟩
 simp only [zD]
 show NoPanic _ Exit.normal _ _
 refine NoPanic.normal ?_
 rename_i hK
 refine hK _ _ ?_
 clear hK b3 h3 e3 e4 HS0 hC MK
 have b4:Dk.Box W4 WD.heap.size #[.int .u64 (hv:Nat),.int .u64 0,.int .i64 0,.int .i64 0,.slice none 0 0,.slice none 0 0] 204:=h4.box (by simp)
 have k0:W4.cell? ⟨WD.heap.size,0,none⟩=some (.int .u64 (hv:Nat)):=b4.cell 0
 have k2:W4.cell? ⟨WD.heap.size,2,none⟩=some (.int .i64 0):=b4.cell 2
 have k2':=b4.frozen 2
 have K:=KF _ _ h4
 obtain ⟨W5,e5⟩:∃ W5,W5=W4.setCell ⟨WD.heap.size,2,none⟩ (.int .i64 0):=⟨_,rfl⟩
 have h5:Cor W W5 L q k (bxD WD.heap.size hv 0 0 0 (.slice none 0 0) (.slice none 0 0)::Dk.boxOf w.heap.size #[.int .i64 op,.int .i64 (a:Int),.int .i64 (b:Int),.int .i64 c,.int .u64 (nn:Nat)] 112::Dk.boxOf W1.heap.size #[.int .u64 0,.int .u64 0,.int .i64 0,.int .i64 0,.slice none 0 0,.slice none 0 0] 204::us):=by rw [e5];exact h4.setBox (o:=2) (.int .i64 0)
 have b5:Dk.Box W5 WD.heap.size #[.int .u64 (hv:Nat),.int .u64 0,.int .i64 0,.int .i64 0,.slice none 0 0,.slice none 0 0] 204:=h5.box (by simp [bxD,dcs])
 have c5:=b5.cell
 have H5:Hid _:=e5.symm
 clear KF h4 b4 e5
 have d10:W5.cell? ⟨L.b,10+m*20+10,none⟩=some (.int .i64 (q.thr m).why):=h5.cellAt hm 10 (by omega)
 have c18:W5.cell? ⟨L.b,10+m*20+18,none⟩=some (.bool (q.thr m).joined):=h5.cellAt hm 18 (by omega)
 have f18:=h5.frozenAt (10+m*20+18)
 obtain ⟨W6,e6⟩:∃ W6,W6=W5.setCell ⟨L.b,10+m*20+18,none⟩ (.bool true):=⟨_,rfl⟩
 have h6:=h5.setT hm 18 (by omega) { q.thr m with joined:=true } (.bool true) rfl
 rw [← e6] at h6
 have c19:W6.cell? ⟨L.b,10+m*20+19,none⟩=some (.int .i64 (q.thr m).joiner):=by rw [h6.cellAt hm 19 (by omega)];simp [Dk.Sp.setT,Dk.upd_same,Dk.Thr.cells]
 have f19:=h6.frozenAt (10+m*20+19)
 obtain ⟨W7,e7⟩:∃ W7,W7=W6.setCell ⟨L.b,10+m*20+19,none⟩ (.int .i64 (n:Int)):=⟨_,rfl⟩
 have h7:=h6.setT hm 19 (by omega) { q.thr m with joined:=true,joiner:=n } (.int .i64 (n:Int)) (by simp [Dk.Sp.setT,Dk.upd_same,Dk.Thr.cells])
 have eq7:(q.setT m { q.thr m with joined:=true }).setT m { q.thr m with joined:=true,joiner:=n }=q.setT m { q.thr m with joined:=true,joiner:=n }:=by unfold Dk.Sp.setT;simp only [Dk.zc2]
 rw [← e7,eq7] at h7
 have b7:Dk.Box W7 WD.heap.size #[.int .u64 (hv:Nat),.int .u64 0,.int .i64 0,.int .i64 0,.slice none 0 0,.slice none 0 0] 204:=h7.box (by simp [bxD,dcs])
 have k3:W7.cell? ⟨WD.heap.size,3,none⟩=some (.int .i64 0):=b7.cell 3
 have k3':=b7.frozen 3
 obtain ⟨W8,e8⟩:∃ W8,W8=W7.setCell ⟨WD.heap.size,3,none⟩ (.int .i64 4):=⟨_,rfl⟩
 have h8:Cor W W8 L (q.setT m { q.thr m with joined:=true,joiner:=n }) k (bxD WD.heap.size hv 0 0 4 (.slice none 0 0) (.slice none 0 0)::Dk.boxOf w.heap.size #[.int .i64 op,.int .i64 (a:Int),.int .i64 (b:Int),.int .i64 c,.int .u64 (nn:Nat)] 112::Dk.boxOf W1.heap.size #[.int .u64 0,.int .u64 0,.int .i64 0,.int .i64 0,.slice none 0 0,.slice none 0 0] 204::us):=by rw [e8];exact h7.setBox (o:=3) (.int .i64 4)
 have b8:Dk.Box W8 WD.heap.size #[.int .u64 (hv:Nat),.int .u64 0,.int .i64 0,.int .i64 4,.slice none 0 0,.slice none 0 0] 204:=h8.box (by simp [bxD,dcs])
 have c8:=b8.cell
 have zz:Dk.Box W8 W1.heap.size #[.int .u64 0,.int .u64 0,.int .i64 0,.int .i64 0,.slice none 0 0,.slice none 0 0] 204:=h8.box (by simp)
 have hZ:=(h8.drop.drop.setRow (cs':=#[.int .u64 (hv:Nat),.int .u64 0,.int .i64 0,.int .i64 4,.slice none 0 0,.slice none 0 0]) rfl).drop
 have d0:=(zz.row (cs':=#[.int .u64 (hv:Nat),.int .u64 0,.int .i64 0,.int .i64 4,.slice none 0 0,.slice none 0 0])).cell
 have HB:Hid _:=zz
 have H6:Hid _:=e6.symm
 have H7:Hid _:=e7.symm
 have H8:Hid _:=e8.symm
 clear h5 b5 h6 h7 b7 h8 b8 zz e6 e7 e8 eq7
 go_wp2_with (first | (go_at_call 152;refine K.mono ?_;rintro e w' ⟨rfl,ew⟩;subst w') | (rw [H5.out];clear H5) | (rw [H6.out];clear H6) | (rw [H7.out];clear H7) | (rw [H8.out];clear H8) | (refine wpList_store_row rfl 204 _ _ rfl W1.heap.size #[.int .u64 (hv:Nat),.int .u64 0,.int .i64 0,.int .i64 4,.slice none 0 0,.slice none 0 0] rfl rfl 204 _ HB.out.heap sizeDeed rfl (zaf hv 0 _ _) ?_))
 exact bodyPost_ret (v:=.agg #[.int .u64 (hv:Nat),.int .u64 0,.int .i64 0,.int .i64 4,.slice none 0 0,.slice none 0 0]) (by simp [results,Tryz.results125,go_sem,d0]) rfl ⟨rfl,hZ⟩
theorem join_fin (h:Cor W w L q k us) (hk:k≤100000) (h16:q.st.length=16) (hn:n < 16) (op:Int) (a b:Nat) (c:Int) (nn:Nat) (ha:a < 8) (hb:b < 8) (hv:Nat) (ehv:(q.thr n).f.r b=hv) (hh:hv < 18446744073709551616) (m:Nat) (hm:m < 16) (ef:q.find n hv=((m:Int),0)) (hw:(q.thr m).why=9) (vv:Nat) (evv:(q.thr m).value=vv) :
  Calls Tryz.prog 125 #[.pointer (some ⟨L.b,0,none⟩),.int .i64 (n:Int),.pointer (some ⟨L.b,10+n*20,none⟩),.agg #[.int .i64 op,.int .i64 (a:Int),.int .i64 (b:Int),.int .i64 c,.int .u64 (nn:Nat)]] w fun e w'=>e=.returned (.agg #[.int .u64 (hv:Nat),.int .u64 (vv:Nat),.int .i64 0,.int .i64 0,.slice none 0 0,.slice none 0 0])∧Cor W w' L ((q.setT n ((q.thr n).reg a vv)).free m) k us:=by
 obtain ⟨W1,e1⟩:∃ W1,W1=w.alloc (.cells #[.int .i64 op,.int .i64 (a:Int),.int .i64 (b:Int),.int .i64 c,.int .u64 (nn:Nat)] 112):=⟨_,rfl⟩
 obtain ⟨W2,e2⟩:∃ W2,W2=W1.alloc (.cells #[.int .u64 0,.int .u64 0,.int .i64 0,.int .i64 0,.slice none 0 0,.slice none 0 0] 204):=⟨_,rfl⟩
 have h2:=((h.newBox e1).newBox e2).swap
 have hC:=h2.below (Dk.zh (Below.refl _ _))
 have MK:∀ w' us',Cor W w' L q k us'→w'.cell? ⟨L.b,10+n*20+2+b,none⟩=some (.int .u64 (hv:Nat)):=fun w' us' h'=>by rw [h'.regCell hn b hb,ehv]
 have HS0:Dk.Box W2.drew w.heap.size #[.int .i64 op,.int .i64 (a:Int),.int .i64 (b:Int),.int .i64 c,.int .u64 (nn:Nat)] 112∧W2.drew.cell? ⟨L.b,10+n*20+2+b,none⟩=some (.int .u64 (hv:Nat)):=⟨hC.box (by simp),MK _ _ hC⟩
 have KF:∀ w1 us',Cor W w1 L q k us'→Calls Tryz.prog 152 #[.pointer (some ⟨L.b,0,none⟩),.int .i64 (n:Int),.int .u64 (hv:Nat)] w1 fun e w'=>e=.returned (.tuple #[.int .i64 (q.find n hv).1,.int .i64 (q.find n hv).2])∧w'=w1:=fun w1 us' h1=>zec h1 hk h16 n hv hh
 rw [ef] at KF
 have j1:(m:Int) < 16:=by omega
 have j2:(0:Int)≤(m:Int):=by omega
 clear ef
 have i1:(a:Int) < 8:=by omega
 have i2:(0:Int)≤(a:Int):=by omega
 have i3:(b:Int) < 8:=by omega
 have i4:(0:Int)≤(b:Int):=by omega
 have H1:Hid _:=e1.symm
 have H2:Hid _:=e2.symm
 clear h h2 e1 e2 ehv hh
 go_enter Tryz.func125,Tryz.ntmps125
 go_wp2_with (first | (rw [H1.out];clear H1) | (rw [H2.out];clear H2))
 refine Dk.zf (S:=fun w'=>Dk.Box w' w.heap.size #[.int .i64 op,.int .i64 (a:Int),.int .i64 (b:Int),.int .i64 c,.int .u64 (nn:Nat)] 112∧w'.cell? ⟨L.b,10+n*20+2+b,none⟩=some (.int .u64 (hv:Nat))) [0,1,2,3,4,5,6,7,8] [9,10] (by kernel_rfl) (by kernel_rfl) HS0 ?_
 refine Dk.za (v:=.pointer (some ⟨L.b,10+n*20,none⟩)) rfl rfl (fun w' hw'=>by go_simp) ?_
 simp only [zD]
 refine Dk.za (v:=.pointer (some ⟨w.heap.size,2,none⟩)) rfl rfl (fun w' hw'=>by go_simp) ?_
 simp only [zD]
 refine Dk.za (v:=.int .i64 (b:Int)) rfl rfl (fun w' hw'=>by have c:=hw'.1.cell 2;go_simp) ?_
 simp only [zD]
 refine Dk.za (v:=.pointer (some ⟨L.b,10+n*20,none⟩)) rfl rfl (fun w' hw'=>by go_simp) ?_
 simp only [zD]
 refine Dk.za (v:=.pointer (some ⟨L.b,10+n*20,none⟩)) rfl rfl (fun w' hw'=>by go_simp) ?_
 simp only [zD]
 refine Dk.za (v:=.pointer (some ⟨L.b,10+n*20+2,none⟩)) rfl rfl (fun w' hw'=>by go_simp) ?_
 simp only [zD]
 refine Dk.za (v:=.pointer (some ⟨L.b,10+n*20+2+b,none⟩)) rfl rfl (fun w' hw'=>by go_simp) ?_
 simp only [zD]
 refine Dk.za (v:=.int .u64 (hv:Nat)) rfl rfl (fun w' hw'=>by have c:=hw'.2;go_simp) ?_
 simp only [zD]
 refine Dk.za (v:=.agg #[.int .u64 (hv:Nat),.int .u64 0,.int .i64 0,.int .i64 0,.slice none 0 0,.slice none 0 0]) rfl rfl (fun w' hw'=>by go_simp) ?_
 simp only [zD]
 generalize W2.drew=WD at *
 obtain ⟨W3,e3⟩:∃ W3,W3=WD.alloc (.cells #[.int .u64 0,.int .u64 0,.int .i64 0,.int .i64 0,.slice none 0 0,.slice none 0 0] 204):=⟨_,rfl⟩
 have h3:=hC.newBox e3
 refine Dk.zk rfl rfl ?_
 refine zcm (v:=.pointer (some ⟨WD.heap.size,0,none⟩)) (w':=W3) (by rw [e3];go_simp) ⟨⟨h3.box (by simp),MK _ _ h3⟩,?_⟩
 simp only [zD]
 have b3:Dk.Box W3 WD.heap.size #[.int .u64 0,.int .u64 0,.int .i64 0,.int .i64 0,.slice none 0 0,.slice none 0 0] 204:=h3.box (by simp)
 obtain ⟨W4,e4⟩:∃ W4,W4=W3.setRow WD.heap.size #[.int .u64 (hv:Nat),.int .u64 0,.int .i64 0,.int .i64 0,.slice none 0 0,.slice none 0 0]:=⟨_,rfl⟩
 have h4:=h3.setRow (cs':=#[.int .u64 (hv:Nat),.int .u64 0,.int .i64 0,.int .i64 0,.slice none 0 0,.slice none 0 0]) e4
 refine Dk.zk rfl rfl ?_
 refine wp_store_row 204 _ _ rfl WD.heap.size #[.int .u64 (hv:Nat),.int .u64 0,.int .i64 0,.int .i64 0,.slice none 0 0,.slice none 0 0] rfl rfl 204 _ b3.heap sizeDeed rfl (zaf hv 0 _ _) ?_
 rw [← e4]
 refine ⟨⟨h4.box (by simp),MK _ _ h4⟩,?_⟩
 simp only [zD]
 show NoPanic _ Exit.normal _ _
 refine NoPanic.normal ?_
 rename_i hK
 refine hK _ _ ?_
 clear hK b3 h3 e3 e4 HS0 hC MK
 have b4:Dk.Box W4 WD.heap.size #[.int .u64 (hv:Nat),.int .u64 0,.int .i64 0,.int .i64 0,.slice none 0 0,.slice none 0 0] 204:=h4.box (by simp)
 have k0:W4.cell? ⟨WD.heap.size,0,none⟩=some (.int .u64 (hv:Nat)):=b4.cell 0
 have k2:W4.cell? ⟨WD.heap.size,2,none⟩=some (.int .i64 0):=b4.cell 2
 have k2':=b4.frozen 2
 have K:=KF _ _ h4
 obtain ⟨W5,e5⟩:∃ W5,W5=W4.setCell ⟨WD.heap.size,2,none⟩ (.int .i64 0):=⟨_,rfl⟩
 have h5:Cor W W5 L q k (bxD WD.heap.size hv 0 0 0 (.slice none 0 0) (.slice none 0 0)::Dk.boxOf w.heap.size #[.int .i64 op,.int .i64 (a:Int),.int .i64 (b:Int),.int .i64 c,.int .u64 (nn:Nat)] 112::Dk.boxOf W1.heap.size #[.int .u64 0,.int .u64 0,.int .i64 0,.int .i64 0,.slice none 0 0,.slice none 0 0] 204::us):=by rw [e5];exact h4.setBox (o:=2) (.int .i64 0)
 have b5:Dk.Box W5 WD.heap.size #[.int .u64 (hv:Nat),.int .u64 0,.int .i64 0,.int .i64 0,.slice none 0 0,.slice none 0 0] 204:=h5.box (by simp [bxD,dcs])
 have c5:=b5.cell
 have H5:Hid _:=e5.symm
 clear KF h4 b4 e5
 have d10:W5.cell? ⟨L.b,10+m*20+10,none⟩=some (.int .i64 9):=by rw [h5.cellAt hm 10 (by omega),← hw];rfl
 have d16:W5.cell? ⟨L.b,10+m*20+16,none⟩=some (.int .u64 (vv:Nat)):=by rw [h5.cellAt hm 16 (by omega),← evv];rfl
 have k1:W5.cell? ⟨WD.heap.size,1,none⟩=some (.int .u64 0):=b5.cell 1
 have k1':=b5.frozen 1
 obtain ⟨W6,e6⟩:∃ W6,W6=W5.setCell ⟨WD.heap.size,1,none⟩ (.int .u64 (vv:Nat)):=⟨_,rfl⟩
 have h6:Cor W W6 L q k (bxD WD.heap.size hv vv 0 0 (.slice none 0 0) (.slice none 0 0)::Dk.boxOf w.heap.size #[.int .i64 op,.int .i64 (a:Int),.int .i64 (b:Int),.int .i64 c,.int .u64 (nn:Nat)] 112::Dk.boxOf W1.heap.size #[.int .u64 0,.int .u64 0,.int .i64 0,.int .i64 0,.slice none 0 0,.slice none 0 0] 204::us):=by rw [e6];exact h5.setBox (o:=1) (.int .u64 (vv:Nat))
 have h7:=h6.below (Dk.zh (Below.refl _ _))
 have b7:Dk.Box W6.drew w.heap.size #[.int .i64 op,.int .i64 (a:Int),.int .i64 (b:Int),.int .i64 c,.int .u64 (nn:Nat)] 112:=h7.box (by simp)
 have b7':Dk.Box W6.drew WD.heap.size #[.int .u64 (hv:Nat),.int .u64 (vv:Nat),.int .i64 0,.int .i64 0,.slice none 0 0,.slice none 0 0] 204:=h7.box (by simp [bxD,dcs])
 have r1:=h7.regCell hn a ha
 have r2:=h7.frozenAt (10+n*20+2+a)
 have h8:=h7.reg hn a vv ha
 have HB7:Dk.Box W6.drew w.heap.size #[.int .i64 op,.int .i64 (a:Int),.int .i64 (b:Int),.int .i64 c,.int .u64 (nn:Nat)] 112∧Dk.Box W6.drew WD.heap.size #[.int .u64 (hv:Nat),.int .u64 (vv:Nat),.int .i64 0,.int .i64 0,.slice none 0 0,.slice none 0 0] 204:=⟨b7,b7'⟩
 have H6:Hid _:=e6.symm
 clear h5 b5 h6 h7 b7 b7' e6
 go_wp2_with (first | (go_at_call 152;refine K.mono ?_;rintro e w' ⟨rfl,ew⟩;subst w') | (rw [H5.out];clear H5) | (rw [H6.out];clear H6))
 refine Dk.zf (S:=fun w'=>Dk.Box w' w.heap.size #[.int .i64 op,.int .i64 (a:Int),.int .i64 (b:Int),.int .i64 c,.int .u64 (nn:Nat)] 112∧Dk.Box w' WD.heap.size #[.int .u64 (hv:Nat),.int .u64 (vv:Nat),.int .i64 0,.int .i64 0,.slice none 0 0,.slice none 0 0] 204) [0,1,2,3,4,5,6,7,8] [9] (by kernel_rfl) (by kernel_rfl) HB7 ?_
 refine Dk.za (v:=.pointer (some ⟨L.b,10+n*20,none⟩)) rfl rfl (fun w' hw'=>by go_simp) ?_
 simp only [zD]
 refine Dk.za (v:=.pointer (some ⟨w.heap.size,1,none⟩)) rfl rfl (fun w' hw'=>by go_simp) ?_
 simp only [zD]
 refine Dk.za (v:=.int .i64 (a:Int)) rfl rfl (fun w' hw'=>by have c:=hw'.1.cell 1;go_simp) ?_
 simp only [zD]
 refine Dk.za (v:=.pointer (some ⟨WD.heap.size,1,none⟩)) rfl rfl (fun w' hw'=>by go_simp) ?_
 simp only [zD]
 refine Dk.za (v:=.int .u64 (vv:Nat)) rfl rfl (fun w' hw'=>by have c:=hw'.2.cell 1;go_simp) ?_
 simp only [zD]
 refine Dk.za (v:=.pointer (some ⟨L.b,10+n*20,none⟩)) rfl rfl (fun w' hw'=>by go_simp) ?_
 simp only [zD]
 refine Dk.za (v:=.pointer (some ⟨L.b,10+n*20,none⟩)) rfl rfl (fun w' hw'=>by go_simp) ?_
 simp only [zD]
 refine Dk.za (v:=.pointer (some ⟨L.b,10+n*20+2,none⟩)) rfl rfl (fun w' hw'=>by go_simp) ?_
 simp only [zD]
 refine Dk.za (v:=.pointer (some ⟨L.b,10+n*20+2+a,none⟩)) rfl rfl (fun w' hw'=>by go_simp) ?_
 simp only [zD]
 refine Dk.zk rfl rfl ?_
 refine zag (w':=W6.drew.setCell ⟨L.b,10+n*20+2+a,none⟩ (.int .u64 (vv:Nat))) (by go_simp) ?_
 generalize W6.drew.setCell ⟨L.b,10+n*20+2+a,none⟩ (.int .u64 (vv:Nat))=W8 at *
 refine ⟨⟨h8.box (by simp),h8.box (by simp [bxD,dcs])⟩,?_⟩
 simp only [zD]
 show NoPanic _ Exit.normal _ _
 refine NoPanic.normal ?_
 first | (rename_i hK;refine hK _ _ ?_;clear hK) | (rename_i hK _;refine hK _ _ ?_;clear hK) | (rename_i hK _ _;refine hK _ _ ?_;clear hK)
 have K8:=zed h8 hk m
 clear h8 r1 r2 HB7 k1 k1'
 go_wp2_with fail
 refine K8.mono ?_
 rintro e w9 ⟨rfl,h9⟩
 have b9:Dk.Box w9 WD.heap.size #[.int .u64 (hv:Nat),.int .u64 (vv:Nat),.int .i64 0,.int .i64 0,.slice none 0 0,.slice none 0 0] 204:=h9.box (by simp [bxD,dcs])
 have c9:=b9.cell
 have zz:Dk.Box w9 W1.heap.size #[.int .u64 0,.int .u64 0,.int .i64 0,.int .i64 0,.slice none 0 0,.slice none 0 0] 204:=h9.box (by simp)
 have hZ:=(h9.drop.drop.setRow (cs':=#[.int .u64 (hv:Nat),.int .u64 (vv:Nat),.int .i64 0,.int .i64 0,.slice none 0 0,.slice none 0 0]) rfl).drop
 have d0:=(zz.row (cs':=#[.int .u64 (hv:Nat),.int .u64 (vv:Nat),.int .i64 0,.int .i64 0,.slice none 0 0,.slice none 0 0])).cell
 have HB:Hid _:=zz
 clear h9 b9 zz K8
 go_wp2_with (refine wpList_store_row rfl 204 _ _ rfl W1.heap.size #[.int .u64 (hv:Nat),.int .u64 (vv:Nat),.int .i64 0,.int .i64 0,.slice none 0 0,.slice none 0 0] rfl rfl 204 _ HB.out.heap sizeDeed rfl (zaf hv vv _ _) ?_)
 exact bodyPost_ret (v:=.agg #[.int .u64 (hv:Nat),.int .u64 (vv:Nat),.int .i64 0,.int .i64 0,.slice none 0 0,.slice none 0 0]) (by simp [results,Tryz.results125,go_sem,d0]) rfl ⟨rfl,hZ⟩
theorem zoy (h:Cor W w L q k us) (hk:k≤100000) (h16:q.st.length=16) (hn:n < 16) (op:Int) (a b:Nat) (c:Int) (nn:Nat) (ha:a < 8) (hb:b < 8) (hf:(q.thr n).f.ok) :
  Calls Tryz.prog 125 #[.pointer (some ⟨L.b,0,none⟩),.int .i64 (n:Int),.pointer (some ⟨L.b,10+n*20,none⟩),.agg #[.int .i64 op,.int .i64 (a:Int),.int .i64 (b:Int),.int .i64 c,.int .u64 (nn:Nat)]] w fun e w'=>e=.returned (dval none none 0 0 (q.join n ⟨op,a,b,c,nn⟩).2)∧Cor W w' L (q.join n ⟨op,a,b,c,nn⟩).1 k us:=by
 unfold Dk.Sp.join
 dsimp only
 simp only [Int.toNat_natCast]
 by_cases h0:(q.find n ((q.thr n).f.r b)).2=0
 ·obtain ⟨m,hm,ef,hu,hne⟩:=Dk.Sp.find_ok h16 h0
  rw [ef]
  dsimp only
  rw [if_pos rfl]
  simp only [Int.toNat_natCast]
  by_cases hw:(q.thr m).why=9
  ·rw [if_pos hw]
   exact join_fin h hk h16 hn op a b c nn ha hb _ rfl (hf.r b) m hm ef hw _ rfl
  ·rw [if_neg hw]
   exact join_blk h hk h16 hn op a b c nn ha hb _ rfl (hf.r b) m hm ef hw
 ·rw [if_neg h0]
  exact join_err h hk h16 hn op a b c nn ha hb _ rfl (hf.r b) _ rfl h0
end
end Go.Proofs.YtglhhlfopccmaaaGreat
namespace Dk
theorem Sp.begin_ok {q:Sp} {fn:Int} {word:Nat} (h16:q.st.length=16) (e:(q.begin fn word).2.2=0):∃ m:Nat,m < 16∧(q.begin fn word).2.1=(m:Int):=by
 unfold Sp.begin at e ⊢
 split
 ·rename_i h;exact ⟨least q.st,by omega,rfl⟩
 ·rename_i h;rw [if_neg h] at e;simp at e
end Dk
namespace Go.Proofs.YtglhhlfopccmaaaGreat
open Go.RowKit Go.Lib
section
variable {W w w' : World} {L : Dk.Loc} {q : Dk.Sp} {k n : Nat} {us us' us1 us2 : List Dk.Thing} {t : Dk.Thing}
theorem spawn_no (h:Cor W w L q k us) (hk:k < 100000) (h16:q.st.length=16) (hn:n < 16) (op:Int) (a b:Nat) (c:Int) (m:Nat) (ha:a < 8) (hb:b < 8) (wd:Nat) (ewd:(q.thr n).f.r b=wd) (wm:Int) (ewm:wrap64 (m:Int)=wm) (r:Int) (hr:(q.begin wm wd).2.2=r) (h0:¬ r=0) :
  Calls Tryz.prog 124 #[.pointer (some ⟨L.b,0,none⟩),.pointer (some ⟨L.b,10+n*20,none⟩),.agg #[.int .i64 op,.int .i64 (a:Int),.int .i64 (b:Int),.int .i64 c,.int .u64 (m:Nat)]] w fun e w'=>e=.returned (.agg #[.int .u64 (m:Nat),.int .u64 0,.int .i64 r,.int .i64 0,.slice none 0 0,.slice none 0 0])∧Cor W w' L ((q.begin wm wd).1.setT n (((q.begin wm wd).1.thr n).reg a 0)) (k+1) us:=by
 obtain ⟨W1,e1⟩:∃ W1,W1=w.alloc (.cells #[.int .i64 op,.int .i64 (a:Int),.int .i64 (b:Int),.int .i64 c,.int .u64 (m:Nat)] 112):=⟨_,rfl⟩
 obtain ⟨W2,e2⟩:∃ W2,W2=W1.alloc (.cells #[.int .u64 0,.int .u64 0,.int .i64 0,.int .i64 0,.slice none 0 0,.slice none 0 0] 204):=⟨_,rfl⟩
 have h2:=((h.newBox e1).newBox e2).swap
 have hC:=h2.below (Dk.zh (Below.refl _ _))
 have HS0:Dk.Box W2.drew w.heap.size #[.int .i64 op,.int .i64 (a:Int),.int .i64 (b:Int),.int .i64 c,.int .u64 (m:Nat)] 112∧W2.drew.cell? ⟨L.b,10+n*20+2+b,none⟩=some (.int .u64 (wd:Nat)):=⟨hC.box (by simp),by rw [hC.regCell hn b hb,ewd]⟩
 have KB:=zer hC hk h16 wm wd
 rw [hr] at KB
 generalize (q.begin wm wd).2.1=rm at *
 generalize (q.begin wm wd).1=q1 at *
 have y1:(r != 0)=true:=by simpa using h0
 clear hr
 have i1:(a:Int) < 8:=by omega
 have i2:(0:Int)≤(a:Int):=by omega
 have i3:(b:Int) < 8:=by omega
 have i4:(0:Int)≤(b:Int):=by omega
 have H1:Hid _:=e1.symm
 have H2:Hid _:=e2.symm
 have HW:Hid (wrap64 (m:Int)=wm):=ewm
 clear h h2 e1 e2 hC ewd ewm
 go_enter Tryz.func124,Tryz.ntmps124
 go_wp2_with (first | (rw [H1.out];clear H1) | (rw [H2.out];clear H2))
 refine Dk.zd (S:=fun w'=>Dk.Box w' w.heap.size #[.int .i64 op,.int .i64 (a:Int),.int .i64 (b:Int),.int .i64 c,.int .u64 (m:Nat)] 112∧w'.cell? ⟨L.b,10+n*20+2+b,none⟩=some (.int .u64 (wd:Nat))) [] [0,1,2,3,4,5,6,7,8,9,10,11] [12,13,14,15,16,17] 6 (by kernel_rfl) (by kernel_rfl) (by kernel_rfl) (by kernel_rfl) rfl HS0 _ ?_ (fun a' h=>h)
 refine Dk.za (v:=.pointer (some ⟨L.b,0,none⟩)) rfl rfl (fun w' hw'=>by go_simp) ?_
 simp only [zD]
 refine Dk.za (v:=.pointer (some ⟨w.heap.size,4,none⟩)) rfl rfl (fun w' hw'=>by go_simp) ?_
 simp only [zD]
 refine Dk.za (v:=.int .u64 (m:Nat)) rfl rfl (fun w' hw'=>by have c:=hw'.1.cell 4;go_simp) ?_
 simp only [zD]
 refine Dk.za (v:=.int .i64 wm) rfl rfl (fun w' hw'=>by rw [← HW.out];go_simp;(try go_bits);(try trivial)) ?_
 simp only [zD]
 refine Dk.za (v:=.pointer (some ⟨L.b,10+n*20,none⟩)) rfl rfl (fun w' hw'=>by go_simp) ?_
 simp only [zD]
 refine Dk.za (v:=.pointer (some ⟨w.heap.size,2,none⟩)) rfl rfl (fun w' hw'=>by go_simp) ?_
 simp only [zD]
 refine Dk.za (v:=.int .i64 (b:Int)) rfl rfl (fun w' hw'=>by have c:=hw'.1.cell 2;go_simp) ?_
 simp only [zD]
 refine Dk.za (v:=.pointer (some ⟨L.b,10+n*20,none⟩)) rfl rfl (fun w' hw'=>by go_simp) ?_
 simp only [zD]
 refine Dk.za (v:=.pointer (some ⟨L.b,10+n*20,none⟩)) rfl rfl (fun w' hw'=>by go_simp) ?_
 simp only [zD]
 refine Dk.za (v:=.pointer (some ⟨L.b,10+n*20+2,none⟩)) rfl rfl (fun w' hw'=>by go_simp) ?_
 simp only [zD]
 refine Dk.za (v:=.pointer (some ⟨L.b,10+n*20+2+b,none⟩)) rfl rfl (fun w' hw'=>by go_simp) ?_
 simp only [zD]
 refine Dk.za (v:=.int .u64 (wd:Nat)) rfl rfl (fun w' hw'=>by have c:=hw'.2;go_simp) ?_
 simp only [zD]
 refine Dk.treeY (rs:=[12]) (by kernel_rfl) (by simp) ?_
 intro i hi
 simp only [List.mem_cons,List.not_mem_nil,or_false] at hi
 subst hi
 refine Dk.zm (some 22) rfl rfl rfl (f:=50) (args:=#[.pointer (some ⟨L.b,0,none⟩),.int .i64 wm,.int .u64 (wd:Nat)]) (by go_simp) ?_
 refine (KB).mono ?_
 rintro e w2 ⟨rfl,h6⟩
 refine ⟨_,rfl,fun h=>absurd (by decide) h,?_⟩
 simp only [zD]
 refine Dk.zo (by kernel_rfl) (fun c a w h=>h) _ 0 _ [13,14,15,16,17] _ _ (by kernel_rfl) ?_ (fun a' h=>h)
 refine Dk.za (v:=.tuple #[.int .i64 rm,.int .i64 r]) rfl rfl (fun w' hw'=>by go_simp) ?_
 simp only [zD]
 refine Dk.za (v:=.int .i64 rm) rfl rfl (fun w' hw'=>by go_simp) ?_
 simp only [zD]
 refine Dk.za (v:=.int .i64 r) rfl rfl (fun w' hw'=>by go_simp) ?_
 simp only [zD]
 refine Dk.za (v:=.int .i64 rm) rfl rfl (fun w' hw'=>by go_simp) ?_
 simp only [zD]
 refine Dk.za (v:=.int .i64 r) rfl rfl (fun w' hw'=>by go_simp) ?_
 simp only [zD]
 refine ⟨by kernel_rfl,?_⟩
 show NoPanic _ Exit.normal _ _
 refine NoPanic.normal ?_
 first | (rename_i hK;refine hK _ _ ?_;clear hK) | (rename_i hK _;refine hK _ _ ?_;clear hK)
 have h7:=h6.below (Dk.zh (Below.refl _ _))
 have b7:Dk.Box w2.drew w.heap.size #[.int .i64 op,.int .i64 (a:Int),.int .i64 (b:Int),.int .i64 c,.int .u64 (m:Nat)] 112:=h7.box (by simp)
 have k1:=h7.regCell hn a ha
 have k2:=h7.frozenAt (10+n*20+2+a)
 have h8:=h7.reg hn a 0 ha
 clear h6 h7 HS0 KB
 go_wp2_with fail
 refine Dk.zf (S:=fun w'=>Dk.Box w' w.heap.size #[.int .i64 op,.int .i64 (a:Int),.int .i64 (b:Int),.int .i64 c,.int .u64 (m:Nat)] 112) [0,1,2,3,4,5,6] [7] (by kernel_rfl) (by kernel_rfl) b7 ?_
 refine Dk.za (v:=.pointer (some ⟨L.b,10+n*20,none⟩)) rfl rfl (fun w' hw'=>by go_simp) ?_
 simp only [zD]
 refine Dk.za (v:=.pointer (some ⟨w.heap.size,1,none⟩)) rfl rfl (fun w' hw'=>by go_simp) ?_
 simp only [zD]
 refine Dk.za (v:=.int .i64 (a:Int)) rfl rfl (fun w' hw'=>by have c:=hw'.cell 1;go_simp) ?_
 simp only [zD]
 refine Dk.za (v:=.pointer (some ⟨L.b,10+n*20,none⟩)) rfl rfl (fun w' hw'=>by go_simp) ?_
 simp only [zD]
 refine Dk.za (v:=.pointer (some ⟨L.b,10+n*20,none⟩)) rfl rfl (fun w' hw'=>by go_simp) ?_
 simp only [zD]
 refine Dk.za (v:=.pointer (some ⟨L.b,10+n*20+2,none⟩)) rfl rfl (fun w' hw'=>by go_simp) ?_
 simp only [zD]
 refine Dk.za (v:=.pointer (some ⟨L.b,10+n*20+2+a,none⟩)) rfl rfl (fun w' hw'=>by go_simp) ?_
 simp only [zD]
 refine Dk.zk rfl rfl ?_
 refine zag (w':=w2.drew.setCell ⟨L.b,10+n*20+2+a,none⟩ (.int .u64 0)) (by go_simp) ?_
 have h8':Cor W (w2.drew.setCell ⟨L.b,10+n*20+2+a,none⟩ (.int .u64 0)) L (q1.setT n ((q1.thr n).reg a 0)) (k+1) (Dk.boxOf w.heap.size #[.int .i64 op,.int .i64 (a:Int),.int .i64 (b:Int),.int .i64 c,.int .u64 (m:Nat)] 112::Dk.boxOf W1.heap.size #[.int .u64 0,.int .u64 0,.int .i64 0,.int .i64 0,.slice none 0 0,.slice none 0 0] 204::us):=h8
 clear h8
 generalize w2.drew.setCell ⟨L.b,10+n*20+2+a,none⟩ (.int .u64 0)=W8 at *
 refine ⟨h8'.box (by simp),?_⟩
 simp only [zD]
 show NoPanic _ Exit.normal _ _
 refine NoPanic.normal ?_
 first | (rename_i hK;refine hK _ _ ?_;clear hK) | (rename_i hK _;refine hK _ _ ?_;clear hK) | (rename_i hK _ _;refine hK _ _ ?_;clear hK)
 have b8:Dk.Box W8 w.heap.size #[.int .i64 op,.int .i64 (a:Int),.int .i64 (b:Int),.int .i64 c,.int .u64 (m:Nat)] 112:=h8'.box (by simp)
 have c8:=b8.cell
 have z8:Dk.Box W8 W1.heap.size #[.int .u64 0,.int .u64 0,.int .i64 0,.int .i64 0,.slice none 0 0,.slice none 0 0] 204:=h8'.box (by simp)
 have hZ:=(h8'.drop.setRow (cs':=#[.int .u64 (m:Nat),.int .u64 0,.int .i64 r,.int .i64 0,.slice none 0 0,.slice none 0 0]) rfl).drop
 have d0:=(z8.row (cs':=#[.int .u64 (m:Nat),.int .u64 0,.int .i64 r,.int .i64 0,.slice none 0 0,.slice none 0 0])).cell
 have HB:Hid _:=z8
 clear h8' b8 z8 b7 k1 k2
 go_wp2_with (refine wpList_store_row rfl 204 _ _ rfl W1.heap.size #[.int .u64 (m:Nat),.int .u64 0,.int .i64 r,.int .i64 0,.slice none 0 0,.slice none 0 0] rfl rfl 204 _ HB.out.heap sizeDeed rfl (zaf m 0 _ _) ?_)
 exact bodyPost_ret (v:=.agg #[.int .u64 (m:Nat),.int .u64 0,.int .i64 r,.int .i64 0,.slice none 0 0,.slice none 0 0]) (by simp [results,Tryz.results124,go_sem,d0]) rfl ⟨rfl,hZ⟩
theorem zpz (h:Cor W w L q k us) (hk:k < 100000) (h16:q.st.length=16) (hn:n < 16) (op:Int) (a b:Nat) (c:Int) (m:Nat) (ha:a < 8) (hb:b < 8) (wd:Nat) (ewd:(q.thr n).f.r b=wd) (wm:Int) (ewm:wrap64 (m:Int)=wm) (at_:Nat) (hat:at_ < 16) (hr:(q.begin wm wd).2.2=0) (hr2:(q.begin wm wd).2.1=(at_:Int)) (hh:Nat) (ehh:(q.begin wm wd).1.hnd at_=hh) :
  Calls Tryz.prog 124 #[.pointer (some ⟨L.b,0,none⟩),.pointer (some ⟨L.b,10+n*20,none⟩),.agg #[.int .i64 op,.int .i64 (a:Int),.int .i64 (b:Int),.int .i64 c,.int .u64 (m:Nat)]] w fun e w'=>∃ A C,e=.returned (.agg #[.int .u64 (m:Nat),.int .u64 (hh:Nat),.int .i64 0,.int .i64 0,.slice A 1 C,.slice none 0 0])∧Cor W w' L ((q.begin wm wd).1.setT n (((q.begin wm wd).1.thr n).reg a hh)) (k+1) (Dk.rowOf 3 1 (.slice A 1 C) 1 (Dk.is [(at_:Int)])::us):=by
 obtain ⟨W1,e1⟩:∃ W1,W1=w.alloc (.cells #[.int .i64 op,.int .i64 (a:Int),.int .i64 (b:Int),.int .i64 c,.int .u64 (m:Nat)] 112):=⟨_,rfl⟩
 obtain ⟨W2,e2⟩:∃ W2,W2=W1.alloc (.cells #[.int .u64 0,.int .u64 0,.int .i64 0,.int .i64 0,.slice none 0 0,.slice none 0 0] 204):=⟨_,rfl⟩
 have h2:=((h.newBox e1).newBox e2).swap
 have hC:=h2.below (Dk.zh (Below.refl _ _))
 have HS0:Dk.Box W2.drew w.heap.size #[.int .i64 op,.int .i64 (a:Int),.int .i64 (b:Int),.int .i64 c,.int .u64 (m:Nat)] 112∧W2.drew.cell? ⟨L.b,10+n*20+2+b,none⟩=some (.int .u64 (wd:Nat)):=⟨hC.box (by simp),by rw [hC.regCell hn b hb,ewd]⟩
 have KB:=zer hC hk h16 wm wd
 rw [hr,hr2] at KB
 generalize (q.begin wm wd).1=q1 at *
 have HZ:Hid (W1.heap.size=w.heap.size+1):=by rw [e1,World.size_alloc];exact rfl
 clear hr hr2
 have i1:(a:Int) < 8:=by omega
 have i2:(0:Int)≤(a:Int):=by omega
 have i3:(b:Int) < 8:=by omega
 have i4:(0:Int)≤(b:Int):=by omega
 have H1:Hid _:=e1.symm
 have H2:Hid _:=e2.symm
 have HW:Hid (wrap64 (m:Int)=wm):=ewm
 clear h h2 e1 e2 hC ewd ewm
 go_enter Tryz.func124,Tryz.ntmps124
 go_wp2_with (first | (rw [H1.out];clear H1) | (rw [H2.out];clear H2))
 refine Dk.zd (S:=fun w'=>Dk.Box w' w.heap.size #[.int .i64 op,.int .i64 (a:Int),.int .i64 (b:Int),.int .i64 c,.int .u64 (m:Nat)] 112∧w'.cell? ⟨L.b,10+n*20+2+b,none⟩=some (.int .u64 (wd:Nat))) [] [0,1,2,3,4,5,6,7,8,9,10,11] [12,13,14,15,16,17] 6 (by kernel_rfl) (by kernel_rfl) (by kernel_rfl) (by kernel_rfl) rfl HS0 _ ?_ (fun a' h=>h)
 refine Dk.za (v:=.pointer (some ⟨L.b,0,none⟩)) rfl rfl (fun w' hw'=>by go_simp) ?_
 simp only [zD]
 refine Dk.za (v:=.pointer (some ⟨w.heap.size,4,none⟩)) rfl rfl (fun w' hw'=>by go_simp) ?_
 simp only [zD]
 refine Dk.za (v:=.int .u64 (m:Nat)) rfl rfl (fun w' hw'=>by have c:=hw'.1.cell 4;go_simp) ?_
 simp only [zD]
 refine Dk.za (v:=.int .i64 wm) rfl rfl (fun w' hw'=>by rw [← HW.out];go_simp;(try go_bits);(try trivial)) ?_
 simp only [zD]
 refine Dk.za (v:=.pointer (some ⟨L.b,10+n*20,none⟩)) rfl rfl (fun w' hw'=>by go_simp) ?_
 simp only [zD]
 refine Dk.za (v:=.pointer (some ⟨w.heap.size,2,none⟩)) rfl rfl (fun w' hw'=>by go_simp) ?_
 simp only [zD]
 refine Dk.za (v:=.int .i64 (b:Int)) rfl rfl (fun w' hw'=>by have c:=hw'.1.cell 2;go_simp) ?_
 simp only [zD]
 refine Dk.za (v:=.pointer (some ⟨L.b,10+n*20,none⟩)) rfl rfl (fun w' hw'=>by go_simp) ?_
 simp only [zD]
 refine Dk.za (v:=.pointer (some ⟨L.b,10+n*20,none⟩)) rfl rfl (fun w' hw'=>by go_simp) ?_
 simp only [zD]
 refine Dk.za (v:=.pointer (some ⟨L.b,10+n*20+2,none⟩)) rfl rfl (fun w' hw'=>by go_simp) ?_
 simp only [zD]
 refine Dk.za (v:=.pointer (some ⟨L.b,10+n*20+2+b,none⟩)) rfl rfl (fun w' hw'=>by go_simp) ?_
 simp only [zD]
 refine Dk.za (v:=.int .u64 (wd:Nat)) rfl rfl (fun w' hw'=>by have c:=hw'.2;go_simp) ?_
 simp only [zD]
 refine Dk.treeY (rs:=[12]) (by kernel_rfl) (by simp) ?_
 intro i hi
 simp only [List.mem_cons,List.not_mem_nil,or_false] at hi
 subst hi
 refine Dk.zm (some 22) rfl rfl rfl (f:=50) (args:=#[.pointer (some ⟨L.b,0,none⟩),.int .i64 wm,.int .u64 (wd:Nat)]) (by go_simp) ?_
 refine (KB).mono ?_
 rintro e w2 ⟨rfl,h6⟩
 refine ⟨_,rfl,fun h=>absurd (by decide) h,?_⟩
 simp only [zD]
 refine Dk.zo (by kernel_rfl) (fun c a w h=>h) _ 0 _ [13,14,15,16,17] _ _ (by kernel_rfl) ?_ (fun a' h=>h)
 refine Dk.za (v:=.tuple #[.int .i64 (at_:Int),.int .i64 0]) rfl rfl (fun w' hw'=>by go_simp) ?_
 simp only [zD]
 refine Dk.za (v:=.int .i64 (at_:Int)) rfl rfl (fun w' hw'=>by go_simp) ?_
 simp only [zD]
 refine Dk.za (v:=.int .i64 0) rfl rfl (fun w' hw'=>by go_simp) ?_
 simp only [zD]
 refine Dk.za (v:=.int .i64 (at_:Int)) rfl rfl (fun w' hw'=>by go_simp) ?_
 simp only [zD]
 refine Dk.za (v:=.int .i64 0) rfl rfl (fun w' hw'=>by go_simp) ?_
 simp only [zD]
 refine ⟨by kernel_rfl,?_⟩
 show NoPanic _ Exit.normal _ _
 refine NoPanic.normal ?_
 first | (rename_i hK;refine hK _ _ ?_;clear hK) | (rename_i hK _;refine hK _ _ ?_;clear hK)
 have h7:=h6.below (Dk.zh (Below.refl _ _))
 have b7:Dk.Box w2.drew w.heap.size #[.int .i64 op,.int .i64 (a:Int),.int .i64 (b:Int),.int .i64 c,.int .u64 (m:Nat)] 112:=h7.box (by simp)
 have k1:=h7.regCell hn a ha
 have k2:=h7.frozenAt (10+n*20+2+a)
 have h8:=h7.reg hn a hh ha
 have KH:=zb6 h7 (by omega) at_
 rw [ehh] at KH
 clear h6 h7 HS0 KB
 go_wp2_with fail
 refine Dk.zf (S:=fun w'=>Dk.Box w' w.heap.size #[.int .i64 op,.int .i64 (a:Int),.int .i64 (b:Int),.int .i64 c,.int .u64 (m:Nat)] 112) [0,1,2,3,4,6,7,8] [5,9,10] (by kernel_rfl) (by kernel_rfl) b7 ?_
 refine Dk.za (v:=.pointer (some ⟨L.b,10+n*20,none⟩)) rfl rfl (fun w' hw'=>by go_simp) ?_
 simp only [zD]
 refine Dk.za (v:=.pointer (some ⟨w.heap.size,1,none⟩)) rfl rfl (fun w' hw'=>by go_simp) ?_
 simp only [zD]
 refine Dk.za (v:=.int .i64 (a:Int)) rfl rfl (fun w' hw'=>by have c:=hw'.cell 1;go_simp) ?_
 simp only [zD]
 refine Dk.za (v:=.pointer (some ⟨L.b,0,none⟩)) rfl rfl (fun w' hw'=>by go_simp) ?_
 simp only [zD]
 refine Dk.za (v:=.int .i64 (at_:Int)) rfl rfl (fun w' hw'=>by go_simp) ?_
 simp only [zD]
 refine Dk.za (v:=.pointer (some ⟨L.b,10+n*20,none⟩)) rfl rfl (fun w' hw'=>by go_simp) ?_
 simp only [zD]
 refine Dk.za (v:=.pointer (some ⟨L.b,10+n*20,none⟩)) rfl rfl (fun w' hw'=>by go_simp) ?_
 simp only [zD]
 refine Dk.za (v:=.pointer (some ⟨L.b,10+n*20+2,none⟩)) rfl rfl (fun w' hw'=>by go_simp) ?_
 simp only [zD]
 refine Dk.zax (f:=59) (args:=#[.pointer (some ⟨L.b,0,none⟩),.int .i64 (at_:Int)]) rfl rfl (by go_simp) ?_
 refine KH.mono ?_
 rintro e w3 ⟨rfl,rfl⟩
 refine ⟨_,rfl,b7,?_⟩
 simp only [zD]
 refine Dk.zk rfl rfl ?_
 refine zcm (v:=.pointer (some ⟨L.b,10+n*20+2+a,none⟩)) (w':=w2.drew) (by go_simp) ⟨b7,?_⟩
 simp only [zD]
 refine Dk.zk rfl rfl ?_
 refine zag (w':=w2.drew.setCell ⟨L.b,10+n*20+2+a,none⟩ (.int .u64 (hh:Nat))) (by go_simp) ?_
 generalize w2.drew.setCell ⟨L.b,10+n*20+2+a,none⟩ (.int .u64 (hh:Nat))=W8 at *
 refine ⟨h8.box (by simp),?_⟩
 simp only [zD]
 show NoPanic _ Exit.normal _ _
 refine NoPanic.normal ?_
 first | (rename_i hK;refine hK _ _ ?_;clear hK) | (rename_i hK _;refine hK _ _ ?_;clear hK) | (rename_i hK _ _;refine hK _ _ ?_;clear hK)
 have h9:=h8.below (Dk.zh (Below.refl _ _))
 have r9:W8.drew.cell? ⟨L.b,10+n*20+2+a,none⟩=some (.int .u64 (hh:Nat)):=by
  rw [h9.regCell hn a ha]
  simp [Dk.Sp.setT,Dk.upd_same,Dk.Thr.reg,Dk.Frm.set]
 have HS9:Dk.Box W8.drew w.heap.size #[.int .i64 op,.int .i64 (a:Int),.int .i64 (b:Int),.int .i64 c,.int .u64 (m:Nat)] 112∧W8.drew.cell? ⟨L.b,10+n*20+2+a,none⟩=some (.int .u64 (hh:Nat)):=⟨h9.box (by simp),r9⟩
 clear h8 b7 k1 k2 KH r9
 go_wp2_with fail
 refine Dk.zf (S:=fun w'=>Dk.Box w' w.heap.size #[.int .i64 op,.int .i64 (a:Int),.int .i64 (b:Int),.int .i64 c,.int .u64 (m:Nat)] 112∧w'.cell? ⟨L.b,10+n*20+2+a,none⟩=some (.int .u64 (hh:Nat))) [0,1,2,3,4,5,6,7,8,9,10] [11,12,13] (by kernel_rfl) (by kernel_rfl) HS9 ?_
 refine Dk.za (v:=.pointer (some ⟨w.heap.size,4,none⟩)) rfl rfl (fun w' hw'=>by go_simp) ?_
 simp only [zD]
 refine Dk.za (v:=.int .u64 (m:Nat)) rfl rfl (fun w' hw'=>by have c:=hw'.1.cell 4;go_simp) ?_
 simp only [zD]
 refine Dk.za (v:=.pointer (some ⟨L.b,10+n*20,none⟩)) rfl rfl (fun w' hw'=>by go_simp) ?_
 simp only [zD]
 refine Dk.za (v:=.pointer (some ⟨w.heap.size,1,none⟩)) rfl rfl (fun w' hw'=>by go_simp) ?_
 simp only [zD]
 refine Dk.za (v:=.int .i64 (a:Int)) rfl rfl (fun w' hw'=>by have c:=hw'.1.cell 1;go_simp) ?_
 simp only [zD]
 refine Dk.za (v:=.pointer (some ⟨L.b,10+n*20,none⟩)) rfl rfl (fun w' hw'=>by go_simp) ?_
 simp only [zD]
 refine Dk.za (v:=.pointer (some ⟨L.b,10+n*20,none⟩)) rfl rfl (fun w' hw'=>by go_simp) ?_
 simp only [zD]
 refine Dk.za (v:=.pointer (some ⟨L.b,10+n*20+2,none⟩)) rfl rfl (fun w' hw'=>by go_simp) ?_
 simp only [zD]
 refine Dk.za (v:=.pointer (some ⟨L.b,10+n*20+2+a,none⟩)) rfl rfl (fun w' hw'=>by go_simp) ?_
 simp only [zD]
 refine Dk.za (v:=.int .u64 (hh:Nat)) rfl rfl (fun w' hw'=>by have c:=hw'.2;go_simp) ?_
 simp only [zD]
 refine Dk.za (v:=.int .i64 (at_:Int)) rfl rfl (fun w' hw'=>by go_simp) ?_
 simp only [zD]
 generalize W8.drew=WE at *
 obtain ⟨W9,e9⟩:∃ W9,W9=WE.alloc (.cells #[.int .i64 (at_:Int)] 3):=⟨_,rfl⟩
 have hA:=h9.lit (s:=1) (m:=1) e9 rfl (by omega)
 have rA:W9.cell? ⟨L.b,10+n*20+2+a,none⟩=some (.int .u64 (hh:Nat)):=by rw [e9];exact Lib.cell?_alloc_some _ HS9.2
 refine Dk.zk rfl rfl ?_
 refine zcm (v:=.slice (some ⟨WE.heap.size,0,none⟩) 1 1) (w':=W9) (by rw [e9];go_simp) ⟨⟨hA.box (by simp),rA⟩,?_⟩
 simp only [zD]
 refine Dk.zk rfl rfl ?_
 refine zcm (v:=.agg #[.int .u64 (m:Nat),.int .u64 (hh:Nat),.int .i64 0,.int .i64 0,.slice (some ⟨WE.heap.size,0,none⟩) 1 1,.slice none 0 0]) (w':=W9) (by go_simp) ⟨⟨hA.box (by simp),rA⟩,?_⟩
 simp only [zD]
 have z9:Dk.Box W9 W1.heap.size #[.int .u64 0,.int .u64 0,.int .i64 0,.int .i64 0,.slice none 0 0,.slice none 0 0] 204:=hA.box (by simp)
 have hB:Cor W W9 L (q1.setT n ((q1.thr n).reg a hh)) (k+1) (Dk.boxOf W1.heap.size #[.int .u64 0,.int .u64 0,.int .i64 0,.int .i64 0,.slice none 0 0,.slice none 0 0] 204::Dk.rowOf 3 1 (.slice (some ⟨WE.heap.size,0,none⟩) 1 1) 1 (Dk.is [(at_:Int)])::us):=hA.swap.drop.swap
 have hZ:=hB.setRow (cs':=#[.int .u64 (m:Nat),.int .u64 (hh:Nat),.int .i64 0,.int .i64 0,.slice (some ⟨WE.heap.size,0,none⟩) 1 1,.slice none 0 0]) rfl
 have rZ:(W9.setRow W1.heap.size #[.int .u64 (m:Nat),.int .u64 (hh:Nat),.int .i64 0,.int .i64 0,.slice (some ⟨WE.heap.size,0,none⟩) 1 1,.slice none 0 0]).cell? ⟨L.b,10+n*20+2+a,none⟩=some (.int .u64 (hh:Nat)):=by
  rw [hZ.regCell hn a ha]
  simp [Dk.Sp.setT,Dk.upd_same,Dk.Thr.reg,Dk.Frm.set]
 have bZ:=(hA.box (a:=w.heap.size) (cs:=#[.int .i64 op,.int .i64 (a:Int),.int .i64 (b:Int),.int .i64 c,.int .u64 (m:Nat)]) (e:=112) (by simp))
 have hne:w.heap.size≠W1.heap.size:=by rw [HZ.out];omega
 refine Dk.zk rfl rfl ?_
 refine wp_store_row 204 _ _ rfl W1.heap.size #[.int .u64 (m:Nat),.int .u64 (hh:Nat),.int .i64 0,.int .i64 0,.slice (some ⟨WE.heap.size,0,none⟩) 1 1,.slice none 0 0] rfl rfl 204 _ z9.heap sizeDeed rfl (zq _ _ _ _ _ _ _ _ _ _) ⟨⟨bZ.zas hne,rZ⟩,?_⟩
 simp only [zD]
 show NoPanic _ Exit.normal _ _
 refine NoPanic.normal ?_
 first | (rename_i hK;refine hK _ _ ?_;clear hK) | (rename_i hK _;refine hK _ _ ?_;clear hK) | (rename_i hK _ _;refine hK _ _ ?_;clear hK)
 have d0:=(z9.row (cs':=#[.int .u64 (m:Nat),.int .u64 (hh:Nat),.int .i64 0,.int .i64 0,.slice (some ⟨WE.heap.size,0,none⟩) 1 1,.slice none 0 0])).cell
 have hF:=hZ.drop
 clear h9 HS9 hA hB hZ z9 bZ rA rZ
 go_wp2_with fail
 exact bodyPost_ret (v:=.agg #[.int .u64 (m:Nat),.int .u64 (hh:Nat),.int .i64 0,.int .i64 0,.slice (some ⟨WE.heap.size,0,none⟩) 1 1,.slice none 0 0]) (by simp [results,Tryz.results124,go_sem,d0]) rfl ⟨_,_,rfl,hF⟩
theorem zpy (h:Cor W w L q k us) (hk:k < 99999) (h16:q.st.length=16) (hn:n < 16) (op:Int) (a b:Nat) (c:Int) (m:Nat) (ha:a < 8) (hb:b < 8) :
  Calls Tryz.prog 124 #[.pointer (some ⟨L.b,0,none⟩),.pointer (some ⟨L.b,10+n*20,none⟩),.agg #[.int .i64 op,.int .i64 (a:Int),.int .i64 (b:Int),.int .i64 c,.int .u64 (m:Nat)]] w fun e w'=>∃ A C,e=.returned (dval A none C 0 (q.spawn n ⟨op,a,b,c,m⟩).2)∧Cor W w' L (q.spawn n ⟨op,a,b,c,m⟩).1 (k+1) (Dk.rowOf 3 1 (.slice A (q.spawn n ⟨op,a,b,c,m⟩).2.begun.length C) (q.spawn n ⟨op,a,b,c,m⟩).2.begun.length (Dk.is (q.spawn n ⟨op,a,b,c,m⟩).2.begun)::us):=by
 unfold Dk.Sp.spawn
 dsimp only
 simp only [Int.toNat_natCast]
 by_cases h0:(q.begin (wrap64 (m:Int)) ((q.thr n).f.r b)).2.2=0
 ·rw [if_pos h0]
  obtain ⟨at_,hat,e2⟩:=Dk.Sp.begin_ok h16 h0
  rw [e2]
  simp only [Int.toNat_natCast]
  exact zpz h (by omega) h16 hn op a b c m ha hb _ rfl _ rfl at_ hat h0 e2 _ rfl
 ·rw [if_neg h0]
  refine (spawn_no h (by omega) h16 hn op a b c m ha hb _ rfl _ rfl _ rfl h0).mono ?_
  rintro e w' ⟨rfl,h'⟩
  exact ⟨none,0,rfl,h'.nil⟩
end
end Go.Proofs.YtglhhlfopccmaaaGreat
