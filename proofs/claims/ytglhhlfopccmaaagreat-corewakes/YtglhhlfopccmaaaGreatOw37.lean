import Derived.Test.YtglhhlfopccmaaaGreatOw36
set_option linter.unusedSimpArgs false
set_option linter.unusedVariables false
set_option linter.unnecessarySimpa false
set_option maxHeartbeats 8000000
set_option maxRecDepth 100000
namespace Go.Proofs.YtglhhlfopccmaaaGreat
open Go.RowKit Go.Lib
section
variable {W w w' : World} {L : Dk.Loc} {q qz : Dk.Sp} {k k' n : Nat} {us us' us1 us2 : List Dk.Thing} {t : Dk.Thing} {ch : Int} {d : Dk.Deed}
theorem do_print (h:Cor W w L q k us) (hn:n < 16) (a:Nat) (b c:Int) (m:Nat) (ha:a < 8) (va:Nat) (eva:(q.thr n).f.r a=va) :
  Calls Tryz.prog 97 #[.pointer (some ⟨L.b,0,none⟩),.int .i64 (n:Int),.agg #[.int .i64 38,.int .i64 (a:Int),.int .i64 b,.int .i64 c,.int .u64 (m:Nat)],.int .i64 ch] w (Dd W L q k ⟨va,0,0,0,[],[]⟩ us):=by
 obtain ⟨W1,e1⟩:∃ W1,W1=w.alloc (.cells #[.int .i64 38,.int .i64 (a:Int),.int .i64 b,.int .i64 c,.int .u64 (m:Nat)] 112):=⟨_,rfl⟩
 obtain ⟨W2,e2⟩:∃ W2,W2=W1.alloc (.cells #[.int .u64 0,.int .u64 0,.int .i64 0,.int .i64 0,.slice none 0 0,.slice none 0 0] 204):=⟨_,rfl⟩
 have h2:=((h.newBox e1).newBox e2).swap
 have b2:Dk.Box W2 w.heap.size #[.int .i64 38,.int .i64 (a:Int),.int .i64 b,.int .i64 c,.int .u64 (m:Nat)] 112:=h2.box (by simp)
 have c2:=b2.cell
 have i1:(n:Int) < 16:=by omega
 have i2:(0:Int)≤(n:Int):=by omega
 have H1:Hid _:=e1.symm
 have H2:Hid _:=e2.symm
 have i3a:(a:Int) < 8:=by omega
 have i4a:(0:Int)≤(a:Int):=by omega
 have hC:=h2.below (Dk.zh (Below.refl _ _))
 have HS0:Dk.Box W2.drew w.heap.size #[.int .i64 38,.int .i64 (a:Int),.int .i64 b,.int .i64 c,.int .u64 (m:Nat)] 112∧W2.drew.cell? ⟨L.b,10+n*20+2+a,none⟩=some (.int .u64 (va:Nat)):=⟨hC.box (by simp),by rw [hC.regCell hn a ha,eva]⟩
 have cop:W2.cell? ⟨w.heap.size,0,none⟩=some (.int .i64 38):=b2.cell 0
 clear h h2 b2 c2 e1 e2
 go_enter Tryz.func97,Tryz.ntmps97
 go_wp2_with (first | (rw [H1.out];clear H1) | (rw [H2.out];clear H2))
 refine Dk.zd (S:=fun w'=>Dk.Box w' w.heap.size #[.int .i64 38,.int .i64 (a:Int),.int .i64 b,.int .i64 c,.int .u64 (m:Nat)] 112∧w'.cell? ⟨L.b,10+n*20+2+a,none⟩=some (.int .u64 (va:Nat))) [] [0,1,2,3,4,5,6,7,8] [9] 1 (by kernel_rfl) (by kernel_rfl) (by kernel_rfl) (by kernel_rfl) rfl HS0 _ ?_ (fun a' h=>h)
 refine Dk.za (v:=.pointer (some ⟨L.b,10+n*20,none⟩)) rfl rfl (fun w' hw'=>by go_simp) ?_
 simp only [zD]
 refine Dk.za (v:=.pointer (some ⟨w.heap.size,1,none⟩)) rfl rfl (fun w' hw'=>by go_simp) ?_
 simp only [zD]
 refine Dk.za (v:=.int .i64 (a:Int)) rfl rfl (fun w' hw'=>by have c:=hw'.1.cell 1;go_simp) ?_
 simp only [zD]
 refine Dk.za (v:=.pointer (some ⟨L.b,10+n*20,none⟩)) rfl rfl (fun w' hw'=>by go_simp) ?_
 simp only [zD]
 refine Dk.za (v:=.pointer (some ⟨L.b,10+n*20,none⟩)) rfl rfl (fun w' hw'=>by go_simp) ?_
 simp only [zD]
 refine Dk.za (v:=.pointer (some ⟨L.b,10+n*20+2,none⟩)) rfl rfl (fun w' hw'=>by go_simp) ?_
 simp only [zD]
 refine Dk.za (v:=.pointer (some ⟨L.b,10+n*20+2+a,none⟩)) rfl rfl (fun w' hw'=>by go_simp) ?_
 simp only [zD]
 refine Dk.za (v:=.int .u64 (va:Nat)) rfl rfl (fun w' hw'=>by have c:=hw'.2;go_simp) ?_
 simp only [zD]
 refine Dk.za (v:=.agg #[.int .u64 (va:Nat),.int .u64 0,.int .i64 0,.int .i64 0,.slice none 0 0,.slice none 0 0]) rfl rfl (fun w' hw'=>by go_simp) ?_
 simp only [zD]
 generalize W2.drew=WD at *
 have z5:Dk.Box WD W1.heap.size #[.int .u64 0,.int .u64 0,.int .i64 0,.int .i64 0,.slice none 0 0,.slice none 0 0] 204:=hC.box (by simp)
 have h6:=(hC.drop.setRow (cs':=#[.int .u64 (va:Nat),.int .u64 0,.int .i64 0,.int .i64 0,.slice none 0 0,.slice none 0 0]) rfl).drop
 have d0:=(z5.row (cs':=#[.int .u64 (va:Nat),.int .u64 0,.int .i64 0,.int .i64 0,.slice none 0 0,.slice none 0 0])).cell
 refine Dk.zl [9] _ _ _ (by kernel_rfl) ?_
 refine Dk.zr rfl rfl ?_
 refine wp_store_row 204 _ _ rfl W1.heap.size #[.int .u64 (va:Nat),.int .u64 0,.int .i64 0,.int .i64 0,.slice none 0 0,.slice none 0 0] rfl rfl 204 _ z5.heap sizeDeed rfl (zq va 0 _ _ _ _ _ _ _ _) ⟨fun h=>absurd (by decide) h,?_⟩
 simp only [zD]
 show NoPanic _ Exit.normal _ _
 refine NoPanic.normal ?_
 first | (rename_i hK;refine hK _ _ ?_;clear hK) | (rename_i hK _;refine hK _ _ ?_;clear hK) | (rename_i hK _ _;refine hK _ _ ?_;clear hK)
 clear hC z5 HS0
 go_wp2_with fail
 exact bodyPost_ret (v:=.agg #[.int .u64 (va:Nat),.int .u64 0,.int .i64 0,.int .i64 0,.slice none 0 0,.slice none 0 0]) (by simp [results,Tryz.results97,go_sem,d0]) rfl ⟨none,0,none,0,rfl,h6.two _ _ _ _⟩
theorem do_yield (h:Cor W w L q k us) (hn:n < 16) (a b c:Int) (m:Nat)  :
  Calls Tryz.prog 97 #[.pointer (some ⟨L.b,0,none⟩),.int .i64 (n:Int),.agg #[.int .i64 24,.int .i64 a,.int .i64 b,.int .i64 c,.int .u64 (m:Nat)],.int .i64 ch] w (Dd W L q k ⟨0,0,0,0,[],[]⟩ us):=by
 obtain ⟨W1,e1⟩:∃ W1,W1=w.alloc (.cells #[.int .i64 24,.int .i64 a,.int .i64 b,.int .i64 c,.int .u64 (m:Nat)] 112):=⟨_,rfl⟩
 obtain ⟨W2,e2⟩:∃ W2,W2=W1.alloc (.cells #[.int .u64 0,.int .u64 0,.int .i64 0,.int .i64 0,.slice none 0 0,.slice none 0 0] 204):=⟨_,rfl⟩
 have h2:=((h.newBox e1).newBox e2).swap
 have b2:Dk.Box W2 w.heap.size #[.int .i64 24,.int .i64 a,.int .i64 b,.int .i64 c,.int .u64 (m:Nat)] 112:=h2.box (by simp)
 have c2:=b2.cell
 have i1:(n:Int) < 16:=by omega
 have i2:(0:Int)≤(n:Int):=by omega
 have H1:Hid _:=e1.symm
 have H2:Hid _:=e2.symm
 have z5:Dk.Box W2 W1.heap.size #[.int .u64 0,.int .u64 0,.int .i64 0,.int .i64 0,.slice none 0 0,.slice none 0 0] 204:=h2.box (by simp)
 have h6:=(h2.drop.setRow (cs':=#[.int .u64 0,.int .u64 0,.int .i64 0,.int .i64 0,.slice none 0 0,.slice none 0 0]) rfl).drop
 have d0:=(z5.row (cs':=#[.int .u64 0,.int .u64 0,.int .i64 0,.int .i64 0,.slice none 0 0,.slice none 0 0])).cell
 have HB:Hid _:=z5
 have cop:W2.cell? ⟨w.heap.size,0,none⟩=some (.int .i64 24):=b2.cell 0
 clear h h2 b2 c2 e1 e2 z5
 go_enter Tryz.func97,Tryz.ntmps97
 go_wp2_with (first | (rw [H1.out];clear H1) | (rw [H2.out];clear H2) | (refine wpList_store_row rfl 204 _ _ rfl W1.heap.size #[.int .u64 0,.int .u64 0,.int .i64 0,.int .i64 0,.slice none 0 0,.slice none 0 0] rfl rfl 204 _ HB.out.heap sizeDeed rfl (zq 0 0 _ _ _ _ _ _ _ _) ?_))
 exact bodyPost_ret (v:=.agg #[.int .u64 0,.int .u64 0,.int .i64 0,.int .i64 0,.slice none 0 0,.slice none 0 0]) (by simp [results,Tryz.results97,go_sem,d0]) rfl ⟨none,0,none,0,rfl,h6.two _ _ _ _⟩
theorem do_self (h:Cor W w L q k us) (hn:n < 16) (a:Nat) (b c:Int) (m:Nat) (ha:a < 8) (hk:k≤100000) (hh:Nat) (ehh:q.hnd n=hh) :
  Calls Tryz.prog 97 #[.pointer (some ⟨L.b,0,none⟩),.int .i64 (n:Int),.agg #[.int .i64 32,.int .i64 (a:Int),.int .i64 b,.int .i64 c,.int .u64 (m:Nat)],.int .i64 ch] w (Dd W L (q.setT n ((q.thr n).reg a hh)) k ⟨0,hh,0,0,[],[]⟩ us):=by
 obtain ⟨W1,e1⟩:∃ W1,W1=w.alloc (.cells #[.int .i64 32,.int .i64 (a:Int),.int .i64 b,.int .i64 c,.int .u64 (m:Nat)] 112):=⟨_,rfl⟩
 obtain ⟨W2,e2⟩:∃ W2,W2=W1.alloc (.cells #[.int .u64 0,.int .u64 0,.int .i64 0,.int .i64 0,.slice none 0 0,.slice none 0 0] 204):=⟨_,rfl⟩
 have h2:=((h.newBox e1).newBox e2).swap
 have b2:Dk.Box W2 w.heap.size #[.int .i64 32,.int .i64 (a:Int),.int .i64 b,.int .i64 c,.int .u64 (m:Nat)] 112:=h2.box (by simp)
 have c2:=b2.cell
 have i1:(n:Int) < 16:=by omega
 have i2:(0:Int)≤(n:Int):=by omega
 have H1:Hid _:=e1.symm
 have H2:Hid _:=e2.symm
 have i3a:(a:Int) < 8:=by omega
 have i4a:(0:Int)≤(a:Int):=by omega
 have h7:=h2.below (Dk.zh (Below.refl _ _))
 have b7:Dk.Box W2.drew w.heap.size #[.int .i64 32,.int .i64 (a:Int),.int .i64 b,.int .i64 c,.int .u64 (m:Nat)] 112:=h7.box (by simp)
 have k1:=h7.regCell hn a ha
 have k2:=h7.frozenAt (10+n*20+2+a)
 have h8:=h7.reg hn a hh ha
 have KH:=zb6 h7 hk n
 rw [ehh] at KH
 have cop:W2.cell? ⟨w.heap.size,0,none⟩=some (.int .i64 32):=b2.cell 0
 clear h h2 b2 c2 e1 e2 h7 ehh
 go_enter Tryz.func97,Tryz.ntmps97
 go_wp2_with (first | (rw [H1.out];clear H1) | (rw [H2.out];clear H2))
 refine Dk.zf (S:=fun w'=>Dk.Box w' w.heap.size #[.int .i64 32,.int .i64 (a:Int),.int .i64 b,.int .i64 c,.int .u64 (m:Nat)] 112) [0,1,2,3,4,6,7,8] [5,9,10] (by kernel_rfl) (by kernel_rfl) b7 ?_
 refine Dk.za (v:=.pointer (some ⟨L.b,10+n*20,none⟩)) rfl rfl (fun w' hw'=>by go_simp) ?_
 simp only [zD]
 refine Dk.za (v:=.pointer (some ⟨w.heap.size,1,none⟩)) rfl rfl (fun w' hw'=>by go_simp) ?_
 simp only [zD]
 refine Dk.za (v:=.int .i64 (a:Int)) rfl rfl (fun w' hw'=>by have c:=hw'.cell 1;go_simp) ?_
 simp only [zD]
 refine Dk.za (v:=.pointer (some ⟨L.b,0,none⟩)) rfl rfl (fun w' hw'=>by go_simp) ?_
 simp only [zD]
 refine Dk.za (v:=.int .i64 (n:Int)) rfl rfl (fun w' hw'=>by go_simp) ?_
 simp only [zD]
 refine Dk.za (v:=.pointer (some ⟨L.b,10+n*20,none⟩)) rfl rfl (fun w' hw'=>by go_simp) ?_
 simp only [zD]
 refine Dk.za (v:=.pointer (some ⟨L.b,10+n*20,none⟩)) rfl rfl (fun w' hw'=>by go_simp) ?_
 simp only [zD]
 refine Dk.za (v:=.pointer (some ⟨L.b,10+n*20+2,none⟩)) rfl rfl (fun w' hw'=>by go_simp) ?_
 simp only [zD]
 refine Dk.zax (f:=59) (args:=#[.pointer (some ⟨L.b,0,none⟩),.int .i64 (n:Int)]) rfl rfl (by go_simp) ?_
 refine KH.mono ?_
 rintro e w3 ⟨rfl,rfl⟩
 refine ⟨_,rfl,b7,?_⟩
 simp only [zD]
 refine Dk.zk rfl rfl ?_
 refine zcm (v:=.pointer (some ⟨L.b,10+n*20+2+a,none⟩)) (w':=W2.drew) (by go_simp) ⟨b7,?_⟩
 simp only [zD]
 refine Dk.zk rfl rfl ?_
 refine zag (w':=W2.drew.setCell ⟨L.b,10+n*20+2+a,none⟩ (.int .u64 (hh:Nat))) (by go_simp) ?_
 generalize W2.drew.setCell ⟨L.b,10+n*20+2+a,none⟩ (.int .u64 (hh:Nat))=W8 at *
 refine ⟨h8.box (by simp),?_⟩
 simp only [zD]
 show NoPanic _ Exit.normal _ _
 refine NoPanic.normal ?_
 first | (rename_i hK;refine hK _ _ ?_;clear hK) | (rename_i hK _;refine hK _ _ ?_;clear hK) | (rename_i hK _ _;refine hK _ _ ?_;clear hK)
 have h9:=h8.below (Dk.zh (Below.refl _ _))
 have r9:W8.drew.cell? ⟨L.b,10+n*20+2+a,none⟩=some (.int .u64 (hh:Nat)):=by
  rw [h9.regCell hn a ha]
  simp [Dk.Sp.setT,Dk.upd_same,Dk.Thr.reg,Dk.Frm.set]
 have HS9:Dk.Box W8.drew w.heap.size #[.int .i64 32,.int .i64 (a:Int),.int .i64 b,.int .i64 c,.int .u64 (m:Nat)] 112∧W8.drew.cell? ⟨L.b,10+n*20+2+a,none⟩=some (.int .u64 (hh:Nat)):=⟨h9.box (by simp),r9⟩
 clear h8 b7 k1 k2 KH r9
 go_wp2_with fail
 refine Dk.zd (S:=fun w'=>Dk.Box w' w.heap.size #[.int .i64 32,.int .i64 (a:Int),.int .i64 b,.int .i64 c,.int .u64 (m:Nat)] 112∧w'.cell? ⟨L.b,10+n*20+2+a,none⟩=some (.int .u64 (hh:Nat))) [] [0,1,2,3,4,5,6,7,8] [9] 1 (by kernel_rfl) (by kernel_rfl) (by kernel_rfl) (by kernel_rfl) rfl HS9 _ ?_ (fun a' h=>h)
 refine Dk.za (v:=.pointer (some ⟨L.b,10+n*20,none⟩)) rfl rfl (fun w' hw'=>by go_simp) ?_
 simp only [zD]
 refine Dk.za (v:=.pointer (some ⟨w.heap.size,1,none⟩)) rfl rfl (fun w' hw'=>by go_simp) ?_
 simp only [zD]
 refine Dk.za (v:=.int .i64 (a:Int)) rfl rfl (fun w' hw'=>by have c:=hw'.1.cell 1;go_simp) ?_
 simp only [zD]
 refine Dk.za (v:=.pointer (some ⟨L.b,10+n*20,none⟩)) rfl rfl (fun w' hw'=>by go_simp) ?_
 simp only [zD]
 refine Dk.za (v:=.pointer (some ⟨L.b,10+n*20,none⟩)) rfl rfl (fun w' hw'=>by go_simp) ?_
 simp only [zD]
 refine Dk.za (v:=.pointer (some ⟨L.b,10+n*20+2,none⟩)) rfl rfl (fun w' hw'=>by go_simp) ?_
 simp only [zD]
 refine Dk.za (v:=.pointer (some ⟨L.b,10+n*20+2+a,none⟩)) rfl rfl (fun w' hw'=>by go_simp) ?_
 simp only [zD]
 refine Dk.za (v:=.int .u64 (hh:Nat)) rfl rfl (fun w' hw'=>by have c:=hw'.2;go_simp) ?_
 simp only [zD]
 refine Dk.za (v:=.agg #[.int .u64 0,.int .u64 (hh:Nat),.int .i64 0,.int .i64 0,.slice none 0 0,.slice none 0 0]) rfl rfl (fun w' hw'=>by go_simp) ?_
 simp only [zD]
 generalize W8.drew=WD at *
 have z5:Dk.Box WD W1.heap.size #[.int .u64 0,.int .u64 0,.int .i64 0,.int .i64 0,.slice none 0 0,.slice none 0 0] 204:=h9.box (by simp)
 have h6:=(h9.drop.setRow (cs':=#[.int .u64 0,.int .u64 (hh:Nat),.int .i64 0,.int .i64 0,.slice none 0 0,.slice none 0 0]) rfl).drop
 have d0:=(z5.row (cs':=#[.int .u64 0,.int .u64 (hh:Nat),.int .i64 0,.int .i64 0,.slice none 0 0,.slice none 0 0])).cell
 refine Dk.zl [9] _ _ _ (by kernel_rfl) ?_
 refine Dk.zr rfl rfl ?_
 refine wp_store_row 204 _ _ rfl W1.heap.size #[.int .u64 0,.int .u64 (hh:Nat),.int .i64 0,.int .i64 0,.slice none 0 0,.slice none 0 0] rfl rfl 204 _ z5.heap sizeDeed rfl (zq 0 hh _ _ _ _ _ _ _ _) ⟨fun h=>absurd (by decide) h,?_⟩
 simp only [zD]
 show NoPanic _ Exit.normal _ _
 refine NoPanic.normal ?_
 first | (rename_i hK;refine hK _ _ ?_;clear hK) | (rename_i hK _;refine hK _ _ ?_;clear hK) | (rename_i hK _ _;refine hK _ _ ?_;clear hK)
 clear h9 z5 HS9
 go_wp2_with fail
 exact bodyPost_ret (v:=.agg #[.int .u64 0,.int .u64 (hh:Nat),.int .i64 0,.int .i64 0,.slice none 0 0,.slice none 0 0]) (by simp [results,Tryz.results97,go_sem,d0]) rfl ⟨none,0,none,0,rfl,h6.two _ _ _ _⟩
end
end Go.Proofs.YtglhhlfopccmaaaGreat
namespace Dk
structure Sp.Can (q:Sp) (n:Nat) (i:Ins):Prop where
 h16:q.st.length=16
 a0:0≤i.a∧i.a < 8
 b0:0≤i.b∧i.b < 8
 fits:25≤i.op∧i.op≤31→q.Fits i
 tub:i.op=35∨i.op=36→i.n < q.tubes.length
 fok:(q.thr n).f.ok
 tl:∀ t ∈ q.tubes,t.ws.length≤1000∧t.ps.length≤1000∧t.gs.length≤1000
 al:q.asked.length≤1000
 bl:q.blocks.length≤1000
theorem Sp.zeu (q:Sp) (n h:Nat):(q.detach n h).2.begun=[]∧(q.detach n h).2.woken=[]:=by
 unfold Sp.detach;dsimp only;split
 ·split <;> exact ⟨rfl,rfl⟩
 ·exact ⟨rfl,rfl⟩
theorem Sp.zik (q:Sp) (n:Nat) (i:Ins):(q.join n i).2.begun=[]∧(q.join n i).2.woken=[]:=by
 unfold Sp.join;dsimp only;split
 ·split <;> exact ⟨rfl,rfl⟩
 ·exact ⟨rfl,rfl⟩
theorem Sp.zgg (q:Sp) (n h:Nat):(q.sleep n h).2.begun=[]∧(q.sleep n h).2.woken=[]:=by
 unfold Sp.sleep
 repeat' split
 all_goals exact ⟨rfl,rfl⟩
theorem Sp.znt (q:Sp) (n:Nat) (c:Bool) (x m:Nat) (b:Int):(q.askW n c x m b).2.begun=[]∧(q.askW n c x m b).2.woken=[]:=by
 unfold Sp.askW
 repeat' split
 all_goals exact ⟨rfl,rfl⟩
theorem Sp.zd9 (q:Sp) (n:Nat) (c:Bool) (x m:Nat):(q.ask n c x m).2.begun=[]∧(q.ask n c x m).2.woken=[]:=Sp.znt _ _ _ _ _ _
theorem Sp.zgh (q:Sp) (n:Nat) (i:Ins):(q.spawn n i).2.woken=[]:=by
 unfold Sp.spawn;dsimp only;split <;> rfl
theorem Sp.put_none (q:Sp) (n:Nat) (i:Ins):(q.put n i).2.begun=[]:=rfl
theorem Sp.get_none (q:Sp) (n:Nat) (i:Ins):(q.get n i).2.begun=[]:=by
 unfold Sp.get;dsimp only;split <;> rfl
theorem Sp.zph (q:Sp) (n:Nat) (i:Ins) (ch:Int):(q.pass n i ch).2.begun=[]:=by
 unfold Sp.pass
 dsimp only
 repeat' split
 all_goals rfl
end Dk
namespace Go.Proofs.YtglhhlfopccmaaaGreat
open Go.RowKit Go.Lib
section
variable {W w w' : World} {L : Dk.Loc} {q qz : Dk.Sp} {k k' n : Nat} {us us' us1 us2 : List Dk.Thing} {t : Dk.Thing} {ch : Int} {d : Dk.Deed} {e : Ending} {A : Option Addr} {C : Nat}
theorem Dd.of0 (hb:d.begun=[]∧d.woken=[]) (he:e=.returned (dval none none 0 0 d)) (h:Cor W w' L q k us) (hk:k≤k'):Dd W L q k' d us e w':=by
 refine ⟨none,0,none,0,he,?_⟩
 unfold lists
 rw [hb.1,hb.2]
 exact (h.mono hk).two _ _ _ _
theorem Dd.ofW (hb:d.begun=[]) (he:e=.returned (dval none A 0 C d)) (h:Cor W w' L q k (Dk.rowOf 147 2 (.slice A d.woken.length C) d.woken.length (Dk.prs d.woken)::us)) (hk:k≤k'):Dd W L q k' d us e w':=by
 refine ⟨none,0,A,C,he,?_⟩
 unfold lists
 rw [hb]
 exact (h.mono hk).nil
theorem Dd.ofB (hb:d.woken=[]) (he:e=.returned (dval A none C 0 d)) (h:Cor W w' L q k (Dk.rowOf 3 1 (.slice A d.begun.length C) d.begun.length (Dk.is d.begun)::us)) (hk:k≤k'):Dd W L q k' d us e w':=by
 refine ⟨A,C,none,0,he,?_⟩
 unfold lists
 rw [hb]
 exact (h.mono hk).nil.swap
theorem do_any (h:Cor W w L q k us) (hk:k < 99999) (hn:n < 16) (i:Dk.Ins) (g:q.Can n i) (ho:20≤i.op∧i.op≤38∧i.op≠23) (hch:Dk.i64 ch) :
  Calls Tryz.prog 97 #[.pointer (some ⟨L.b,0,none⟩),.int .i64 (n:Int),Dk.iv i,.int .i64 ch] w (Dd W L (q.deed n i ch).1 (k+1) (q.deed n i ch).2 us):=by
 obtain ⟨op,a,b,c,m⟩:=i
 obtain ⟨h16,⟨a0,a1⟩,⟨b0,b1⟩,fits,tub,fok,tl,al,bl⟩:=g
 dsimp only at a0 a1 b0 b1 fits tub ho
 obtain ⟨a,rfl⟩:∃ x:Nat,a=x:=⟨a.toNat,by omega⟩
 obtain ⟨b,rfl⟩:∃ x:Nat,b=x:=⟨b.toNat,by omega⟩
 have ha:a < 8:=by omega
 have hb:b < 8:=by omega
 unfold Dk.Sp.deed
 dsimp only
 simp only [Int.toNat_natCast]
 by_cases h20:op=20
 ·subst h20
  rw [if_pos rfl]
  refine do_spawn h hn _ _ c m fun w us h=>(zpy h hk h16 hn 20 a b c m ha hb).mono ?_
  rintro e w' ⟨A,C,he,h'⟩
  exact Dd.ofB (Dk.Sp.zgh _ _ _) he h' (Nat.le_refl _)
 rw [if_neg h20]
 by_cases h32:op=32
 ·subst h32
  rw [if_pos rfl]
  refine (do_self h hn a _ c m ha (by omega) _ rfl).mono ?_
  rintro e w' ⟨A,C,A',C',he,h'⟩
  exact ⟨A,C,A',C',he,h'.mono (by omega)⟩
 rw [if_neg h32]
 by_cases h21:op=21
 ·subst h21
  rw [if_pos rfl]
  refine do_join h hn _ _ c m fun w us h=>(zoy h (by omega) h16 hn 21 a b c m ha hb fok).mono ?_
  rintro e w' ⟨he,h'⟩
  exact Dd.of0 (Dk.Sp.zik _ _ _) he h' (by omega)
 rw [if_neg h21]
 by_cases h22:op=22
 ·subst h22
  rw [if_pos rfl]
  refine zoc h hn a _ c m ha _ rfl fun w us h=>(zlz h (by omega) h16 n _ (fok.r a)).mono ?_
  rintro e w' ⟨he,h'⟩
  exact Dd.of0 (Dk.Sp.zeu _ _ _) he h' (by omega)
 rw [if_neg h22]
 by_cases hp:25≤op∧op≤31
 ·rw [if_pos hp]
  have K:∀ w us,Cor W w L q k us→Calls Tryz.prog 127 #[.pointer (some ⟨L.b,0,none⟩),.int .i64 (n:Int),Dk.iv ⟨op,a,b,c,m⟩,.int .i64 ch] w (Dd W L (q.pass n ⟨op,a,b,c,m⟩ ch).1 (k+1) (q.pass n ⟨op,a,b,c,m⟩ ch).2 us):=fun w us h=>by
   refine (pass_any h hn ⟨op,a,b,c,m⟩ (fits hp) hp hch).mono ?_
   rintro e w' ⟨A,C,he,h'⟩
   exact Dd.ofW (Dk.Sp.zph _ _ _ _) he h' (by omega)
  have:op=25∨op=26∨op=27∨op=28∨op=29∨op=30∨op=31:=by omega
  rcases this with rfl | rfl | rfl | rfl | rfl | rfl | rfl
  ·exact zof h hn _ _ c m K
  ·exact zog h hn _ _ c m K
  ·exact zoh h hn _ _ c m K
  ·exact zoi h hn _ _ c m K
  ·exact zoj h hn _ _ c m K
  ·exact zok h hn _ _ c m K
  ·exact zol h hn _ _ c m K
 rw [if_neg hp]
 by_cases h33:op=33
 ·subst h33
  rw [if_pos rfl]
  refine do_read h hn _ b c m hb _ rfl fun w us h=>(znu h hn false 0 _ (by omega) al bl).mono ?_
  rintro e w' ⟨he,h'⟩
  exact Dd.of0 (Dk.Sp.zd9 _ _ _ _ _) he h' (by omega)
 rw [if_neg h33]
 by_cases h34:op=34
 ·subst h34
  rw [if_pos rfl]
  refine do_write h hn a b c m ha _ rfl hb _ rfl fun w us h=>(znu h hn true _ _ (fok.r b) al bl).mono ?_
  rintro e w' ⟨he,h'⟩
  exact Dd.of0 (Dk.Sp.zd9 _ _ _ _ _) he h' (by omega)
 rw [if_neg h34]
 by_cases h35:op=35
 ·subst h35
  rw [if_pos rfl]
  refine do_put h hn _ _ c m fun w us h=>(put_any h hn 35 a b c m ha (tub (.inl rfl)) fok tl).mono ?_
  rintro e w' ⟨A,C,he,h'⟩
  exact Dd.ofW (Dk.Sp.put_none _ _ _) he h' (by omega)
 rw [if_neg h35]
 by_cases h36:op=36
 ·subst h36
  rw [if_pos rfl]
  refine do_get h hn _ _ c m fun w us h=>(get_any h hn 36 a b c m ha (tub (.inr rfl)) tl).mono ?_
  rintro e w' ⟨A,C,he,h'⟩
  exact Dd.ofW (Dk.Sp.get_none _ _ _) he h' (by omega)
 rw [if_neg h36]
 by_cases h37:op=37
 ·subst h37
  rw [if_pos rfl]
  refine do_sleep h hn a _ c m ha _ rfl fun w us h=>(zpw h (by omega) hn _).mono ?_
  rintro e w' ⟨he,h'⟩
  exact Dd.of0 (Dk.Sp.zgg _ _ _) he h' (Nat.le_refl _)
 rw [if_neg h37]
 by_cases h38:op=38
 ·subst h38
  rw [if_pos rfl]
  refine (do_print h hn a _ c m ha _ rfl).mono ?_
  rintro e w' ⟨A,C,A',C',he,h'⟩
  exact ⟨A,C,A',C',he,h'.mono (by omega)⟩
 rw [if_neg h38]
 obtain rfl:op=24:=by omega
 refine (do_yield h hn _ _ c m).mono ?_
 rintro e w' ⟨A,C,A',C',he,h'⟩
 exact ⟨A,C,A',C',he,h'.mono (by omega)⟩
end
section
variable {W w w' : World} {L : Dk.Loc} {q qz : Dk.Sp} {k k' n : Nat} {us us' us1 us2 : List Dk.Thing} {t : Dk.Thing}
theorem zfq (A:Option Addr) (n C:Nat) (hn:n≤C) (hC:C≤maxLen) (w:World):(Builtin.append_ #[23,23] 23 #[.slice A n C,.slice none 0 0]).run Tryz.prog w=.ok (.slice A n C) w:=by
 obtain ⟨i0,hi0,_,_,_⟩:=info_parts K26T.info
 have h1:¬ C < n:=by omega
 simp [Builtin.append_,run_underlying Tryz.underlying23,sizeOf,typeInfo,hi0,Builtin.lenOf,run_firstCells_none,go_sem,h1,hn]
 cases A <;> rfl
theorem Cor.appendS {v:Value} {xs ys:List Int} {A2:Option Addr} {C2:Nat} (h:Cor W w L q k (Dk.rowOf 3 1 v xs.length (Dk.is xs)::Dk.rowOf 3 1 (.slice A2 ys.length C2) ys.length (Dk.is ys)::us)) (hl:xs.length+ys.length≤90000) :
  ∃ A' C' w',(Builtin.append_ #[23,23] 23 #[v,.slice A2 ys.length C2]).run Tryz.prog w=.ok (.slice A' (xs++ys).length C') w'∧Cor W w' L q k (Dk.rowOf 3 1 (.slice A' (xs++ys).length C') (xs++ys).length (Dk.is (xs++ys))::us):=by
 have h2:=h.row (e:=3) (s:=1) (v:=.slice A2 ys.length C2) (m:=ys.length) (xs:=Dk.is ys) (by simp)
 have h1:=h.row (e:=3) (s:=1) (v:=v) (m:=xs.length) (xs:=Dk.is xs) (by simp)
 obtain ⟨A,C,ev,a1,a2⟩:=Dk.zc h1
 obtain ⟨hx,⟨e0,h0⟩ | ⟨g,cap,cur,e1,hb,hg,hn,hm,hs,ht⟩⟩:=id h2
 ·injection e0 with e1 e2 e3
  subst e1 e3
  have ey:ys=[]:=List.eq_nil_of_length_eq_zero h0
  subst ey
  subst ev
  refine ⟨A,C,w,?_,?_⟩
  ·simp only [List.append_nil,List.length_nil]
   exact zfq A _ C a1 a2 w
  ·simp only [List.append_nil]
   exact h.swap.drop
 ·injection e1 with q1 q2 q3
  subst q1 q3
  obtain ⟨v',w',hr,ho,hgr,hf,_⟩:=K26T.append W.heap.size 23 v (Dk.is xs) xs.length w h1 ⟨g,0,none⟩ ys.length C2 (Dk.is ys) (by simp [Dk.is]) (h2.cells (g:=g) rfl) (by simp [Dk.is,Value.oneCell']) (by omega) h.out.size
  obtain ⟨A',C',ev',_,_⟩:=Dk.zc ho
  subst ev'
  have el:(xs++ys).length=xs.length+ys.length:=List.length_append
  have ei:Dk.is (xs++ys)=Dk.is xs++Dk.is ys:=by simp [Dk.is]
  refine ⟨A',C',w',?_,?_⟩
  ·rw [el]
   exact hr
  ·rw [el,ei]
   have h3:=Cor.turn (us1:=[]) (t:=Dk.rowOf 3 1 v xs.length (Dk.is xs)) (us2:=Dk.rowOf 3 1 (.slice (some ⟨g,0,none⟩) ys.length C2) ys.length (Dk.is ys)::us) (t':=Dk.rowOf 3 1 (.slice A' (xs.length+ys.length) C') (xs.length+ys.length) (Dk.is xs++Dk.is ys)) h (Dk.Away.zad hgr (fun k hk=>.inl hk)) (Dk.zam ho (Nat.zero_le _)) (fun k hk=>hf k hk)
   exact h3.swap.drop
end
section
variable {W w w' : World} {L : Dk.Loc} {q qd : Dk.Sp} {k k' n : Nat} {us us' us1 us2 : List Dk.Thing} {t : Dk.Thing} {ch : Int}
theorem act_stop (h:Cor W w L q k us) (hn:n < 16) (op a b c:Int) (m:Nat) (x y:Nat) (r:Int) (why:Int) (hw:why≠0) (bg:List Int) (wk:List (Int × Nat)) (yl:Bool) (hy:(op == 24)=yl) (pc:Int) (epc:(qd.thr n).f.pc=pc) (hpc:0≤pc∧pc < 1000000) (hk:k'≤100000)
  (q4:Dk.Sp) (eq4:(qd.setT n { (qd.thr n).next with why:=why,ins:=⟨op,a,b,c,m⟩ })=q4) (hrc:q4.recs.length+wk.length < 80000) (q5:Dk.Sp) (eq5:q4.tell n ⟨0,op,x,y,r,false⟩=q5) (hro:q5.RegsOk) (hrl:q5.recs.length≤q4.recs.length+1) (hin:∀ p ∈ wk,Dk.InR p.1) (nr:Nat) (enr:(bg++wk.map Prod.fst).length=nr) (hwk:wk.length≤5000) (hbg:bg.length≤5000)
  (hK:∀ w us,Cor W w L q k us→Calls Tryz.prog 97 #[.pointer (some ⟨L.b,0,none⟩),.int .i64 (n:Int),.agg #[.int .i64 op,.int .i64 a,.int .i64 b,.int .i64 c,.int .u64 (m:Nat)],.int .i64 ch] w (Dd W L qd k' ⟨x,y,r,why,bg,wk⟩ us)) :
  Calls Tryz.prog 67 #[.pointer (some ⟨L.b,0,none⟩),.int .i64 (n:Int),.agg #[.int .i64 op,.int .i64 a,.int .i64 b,.int .i64 c,.int .u64 (m:Nat)],.int .i64 ch] w fun e w'=>∃ A C,e=.returned (eff A nr C true false yl)∧Cor W w' L (q5.wake wk) k' (Dk.rowOf 3 1 (.slice A nr C) nr (Dk.is (bg++wk.map Prod.fst))::us):=by
 obtain ⟨W1,e1⟩:∃ W1,W1=w.alloc (.cells #[.int .i64 op,.int .i64 a,.int .i64 b,.int .i64 c,.int .u64 (m:Nat)] 112):=⟨_,rfl⟩
 obtain ⟨W2,e2⟩:∃ W2,W2=W1.alloc (.cells #[.slice none 0 0,.bool false,.bool false,.bool false] 68):=⟨_,rfl⟩
 have h2:=((h.newBox e1).newBox e2).swap
 have b2:Dk.Box W2 w.heap.size #[.int .i64 op,.int .i64 a,.int .i64 b,.int .i64 c,.int .u64 (m:Nat)] 112:=h2.box (by simp)
 have c2:=b2.cell
 have i1:(n:Int) < 16:=by omega
 have i2:(0:Int)≤(n:Int):=by omega
 have K2:=hK _ _ h2
 have H1:Hid _:=e1.symm
 have H2:Hid _:=e2.symm
 have EQ4:Hid _:=eq4
 have EQ5:Hid _:=eq5
 have HRO:Hid q5.RegsOk:=hro
 have HIN:Hid (∀ p ∈ wk,Dk.InR p.1):=hin
 have HY:Hid _:=hy
 have HNR:Hid _:=enr
 clear h h2 hK b2 e1 e2 eq4 eq5 hro hin hy enr
 go_enter Tryz.func67,Tryz.ntmps67
 go_wp2_with (first | (rw [H1.out];clear H1) | (rw [H2.out];clear H2))
 refine K2.mono ?_
 rintro e w5 ⟨Ab,Cb,Aw,Cw,rfl,h5⟩
 obtain ⟨W6,e6⟩:∃ W6,W6=w5.alloc (.cells #[.int .u64 (x:Nat),.int .u64 (y:Nat),.int .i64 r,.int .i64 why,.slice Ab bg.length Cb,.slice Aw wk.length Cw] 204):=⟨_,rfl⟩
 have h6:Cor W W6 L qd k' (Dk.boxOf w5.heap.size (dcs x y r why (.slice Ab bg.length Cb) (.slice Aw wk.length Cw)) 204::Dk.rowOf 3 1 (.slice Ab bg.length Cb) bg.length (Dk.is bg)::Dk.rowOf 147 2 (.slice Aw wk.length Cw) wk.length (Dk.prs wk)::Dk.boxOf w.heap.size #[.int .i64 op,.int .i64 a,.int .i64 b,.int .i64 c,.int .u64 (m:Nat)] 112::Dk.boxOf W1.heap.size #[.slice none 0 0,.bool false,.bool false,.bool false] 68::us):=Cor.newBox h5 e6
 have b6:Dk.Box W6 w5.heap.size #[.int .u64 (x:Nat),.int .u64 (y:Nat),.int .i64 r,.int .i64 why,.slice Ab bg.length Cb,.slice Aw wk.length Cw] 204:=h6.box (by simp [dcs])
 have y6:W6.cell? ⟨w5.heap.size,3,none⟩=some (.int .i64 why):=b6.cell 3
 have p6:W6.cell? ⟨L.b,10+n*20+1,none⟩=some (.int .i64 pc):=by rw [h6.cellAt hn 1 (by omega),← epc];rfl
 have f6:=h6.frozenAt (10+n*20+1)
 have ew:wrap64 (pc+1)=pc+1:=by unfold wrap64;omega
 obtain ⟨W7,e7⟩:∃ W7,W7=W6.setCell ⟨L.b,10+n*20+1,none⟩ (.int .i64 (pc+1)):=⟨_,rfl⟩
 have h7:Cor W W7 L (qd.setT n ((qd.thr n).next)) k' (Dk.boxOf w5.heap.size (dcs x y r why (.slice Ab bg.length Cb) (.slice Aw wk.length Cw)) 204::Dk.rowOf 3 1 (.slice Ab bg.length Cb) bg.length (Dk.is bg)::Dk.rowOf 147 2 (.slice Aw wk.length Cw) wk.length (Dk.prs wk)::Dk.boxOf w.heap.size #[.int .i64 op,.int .i64 a,.int .i64 b,.int .i64 c,.int .u64 (m:Nat)] 112::Dk.boxOf W1.heap.size #[.slice none 0 0,.bool false,.bool false,.bool false] 68::us):=by
  rw [e7]
  refine h6.setT hn 1 (by omega) _ _ ?_
  unfold Dk.Thr.next
  rw [epc,ew]
  rfl
 have b7:Dk.Box W7 w5.heap.size #[.int .u64 (x:Nat),.int .u64 (y:Nat),.int .i64 r,.int .i64 why,.slice Ab bg.length Cb,.slice Aw wk.length Cw] 204:=h7.box (by simp [dcs])
 have i7:Dk.Box W7 w.heap.size #[.int .i64 op,.int .i64 a,.int .i64 b,.int .i64 c,.int .u64 (m:Nat)] 112:=h7.box (by simp)
 have c7:=i7.cell
 have y7:W7.cell? ⟨w5.heap.size,3,none⟩=some (.int .i64 why):=b7.cell 3
 have H6:Hid _:=e6.symm
 have H7:Hid _:=e7.symm
 have yy:(why != 0)=true:=by simpa using hw
 have KB:=znw h7 hn why ⟨op,a,b,c,m⟩
 clear K2 h5 h6 h7 b6 b7 i7 e6 e7 c2 ew
 go_wp2_with (first | (rw [H6.out];clear H6) | (rw [H7.out];clear H7))
 refine KB.mono ?_
 rintro e w8 ⟨rfl,h8⟩
 have eqq:((qd.setT n ((qd.thr n).next)).setT n { (qd.setT n ((qd.thr n).next)).thr n with why:=why,ins:=⟨op,a,b,c,m⟩ })=q4:=by
  rw [← EQ4.out]
  unfold Dk.Sp.setT
  simp only [Dk.zc2,Dk.upd_same]
 rw [eqq] at h8
 clear KB c7 y7 y6 p6 f6 eqq EQ4
 have b8:Dk.Box w8 w5.heap.size #[.int .u64 (x:Nat),.int .u64 (y:Nat),.int .i64 r,.int .i64 why,.slice Ab bg.length Cb,.slice Aw wk.length Cw] 204:=h8.box (by simp [dcs])
 have i8:Dk.Box w8 w.heap.size #[.int .i64 op,.int .i64 a,.int .i64 b,.int .i64 c,.int .u64 (m:Nat)] 112:=h8.box (by simp)
 have o8:w8.cell? ⟨w.heap.size,0,none⟩=some (.int .i64 op):=i8.cell 0
 have x8:w8.cell? ⟨w5.heap.size,0,none⟩=some (.int .u64 (x:Nat)):=b8.cell 0
 have y8:w8.cell? ⟨w5.heap.size,1,none⟩=some (.int .u64 (y:Nat)):=b8.cell 1
 have r8:w8.cell? ⟨w5.heap.size,2,none⟩=some (.int .i64 r):=b8.cell 2
 have KT:=zct h8 hk n ⟨0,op,x,y,r,false⟩ (by omega)
 rw [EQ5.out] at KT
 clear h8 b8 i8 EQ5
 go_wp2_with fail
 refine KT.mono ?_
 rintro e w9 ⟨rfl,h9⟩
 have hC:=h9.below (Dk.zh (Below.refl _ _))
 have HS:Dk.Box w9.drew w.heap.size #[.int .i64 op,.int .i64 a,.int .i64 b,.int .i64 c,.int .u64 (m:Nat)] 112∧Dk.Box w9.drew w5.heap.size #[.int .u64 (x:Nat),.int .u64 (y:Nat),.int .i64 r,.int .i64 why,.slice Ab bg.length Cb,.slice Aw wk.length Cw] 204:=⟨hC.box (by simp),hC.box (by simp [dcs])⟩
 have KG:=zdf wk Aw Cw (us:=Dk.boxOf w5.heap.size (dcs x y r why (.slice Ab bg.length Cb) (.slice Aw wk.length Cw)) 204::Dk.rowOf 3 1 (.slice Ab bg.length Cb) bg.length (Dk.is bg)::Dk.boxOf w.heap.size #[.int .i64 op,.int .i64 a,.int .i64 b,.int .i64 c,.int .u64 (m:Nat)] 112::Dk.boxOf W1.heap.size #[.slice none 0 0,.bool false,.bool false,.bool false] 68::us) (Cor.perm hC (((List.Perm.swap _ _ _).cons _).trans (List.Perm.swap _ _ _))) hk HRO.out HIN.out (by omega) hwk
 have hy:=HY.out
 clear KT h9 o8 x8 y8 r8 hC
 go_wp2_with fail
 refine Dk.zd (S:=fun w'=>Dk.Box w' w.heap.size #[.int .i64 op,.int .i64 a,.int .i64 b,.int .i64 c,.int .u64 (m:Nat)] 112∧Dk.Box w' w5.heap.size #[.int .u64 (x:Nat),.int .u64 (y:Nat),.int .i64 r,.int .i64 why,.slice Ab bg.length Cb,.slice Aw wk.length Cw] 204) [] [0,1,2,3,4,7,8,9,10] [11,12] 4 (by kernel_rfl) (by kernel_rfl) (by kernel_rfl) (by kernel_rfl) rfl HS _ ?_ (fun a' h=>h)
 refine Dk.za (v:=.pointer (some ⟨w5.heap.size,4,none⟩)) rfl rfl (fun w' hw'=>by go_simp) ?_
 simp only [zD]
 refine Dk.za (v:=.slice Ab bg.length Cb) rfl rfl (fun w' hw'=>by have c:=hw'.2.cell 4;go_simp) ?_
 simp only [zD]
 refine Dk.za (v:=.pointer (some ⟨L.b,0,none⟩)) rfl rfl (fun w' hw'=>by go_simp) ?_
 simp only [zD]
 refine Dk.za (v:=.pointer (some ⟨w5.heap.size,5,none⟩)) rfl rfl (fun w' hw'=>by go_simp) ?_
 simp only [zD]
 refine Dk.za (v:=.slice Aw wk.length Cw) rfl rfl (fun w' hw'=>by have c:=hw'.2.cell 5;go_simp) ?_
 simp only [zD]
 refine Dk.za (v:=.bool true) rfl rfl (fun w' hw'=>by go_simp) ?_
 simp only [zD]
 refine Dk.za (v:=.pointer (some ⟨w.heap.size,0,none⟩)) rfl rfl (fun w' hw'=>by go_simp) ?_
 simp only [zD]
 refine Dk.za (v:=.int .i64 op) rfl rfl (fun w' hw'=>by have c:=hw'.1.cell 0;go_simp) ?_
 simp only [zD]
 refine Dk.za (v:=.bool yl) rfl rfl (fun w' hw'=>by go_simp) ?_
 simp only [zD]
 clear HS
 generalize w9.drew=WD at *
 refine Dk.treeY (rs:=[5]) (by kernel_rfl) (by simp) ?_
 intro i hi
 simp only [List.mem_cons,List.not_mem_nil,or_false] at hi
 subst hi
 refine Dk.zm (some 67) rfl rfl rfl (f:=69) (args:=#[.pointer (some ⟨L.b,0,none⟩),.slice Aw wk.length Cw]) (by go_simp) ?_
 refine KG.mono ?_
 rintro e wa ⟨A',C',rfl,ha⟩
 refine ⟨_,rfl,fun _=>⟨ha.box (by simp),ha.box (by simp [dcs])⟩,?_⟩
 simp only [zD]
 have el:(wk.map Prod.fst).length=wk.length:=List.length_map _
 have hb:Cor W wa L (q5.wake wk) k' (Dk.rowOf 3 1 (.slice Ab bg.length Cb) bg.length (Dk.is bg)::Dk.rowOf 3 1 (.slice A' (wk.map Prod.fst).length C') (wk.map Prod.fst).length (Dk.is (wk.map Prod.fst))::Dk.boxOf w5.heap.size (dcs x y r why (.slice Ab bg.length Cb) (.slice Aw wk.length Cw)) 204::Dk.boxOf w.heap.size #[.int .i64 op,.int .i64 a,.int .i64 b,.int .i64 c,.int .u64 (m:Nat)] 112::Dk.boxOf W1.heap.size #[.slice none 0 0,.bool false,.bool false,.bool false] 68::us):=by
  rw [el]
  exact ha.swap.drop.perm (((List.Perm.swap _ _ _).cons _).trans (List.Perm.swap _ _ _))
 obtain ⟨A,C,wb,hrun,hc⟩:=hb.appendS (by rw [el];omega)
 rw [el,HNR.out] at hrun
 rw [HNR.out] at hc
 refine Dk.zl [6,11,12] _ _ _ (by kernel_rfl) ?_
 refine Dk.zr rfl rfl ?_
 refine Lib.wp_append_run _ _ _ _ _ rfl _ _ rfl rfl _ _ hrun ⟨fun _=>⟨hc.box (by simp),hc.box (by simp [dcs])⟩,?_⟩
 simp only [zD]
 refine Dk.zj (v:=.agg #[.slice A nr C,.bool true,.bool false,.bool yl]) (w':=wb) (some 73) rfl rfl rfl (by go_simp) (fun h=>absurd (by decide) h) ?_
 simp only [zD]
 have hd:Cor W wb L (q5.wake wk) k' (Dk.boxOf W1.heap.size #[.slice none 0 0,.bool false,.bool false,.bool false] 68::Dk.rowOf 3 1 (.slice A nr C) nr (Dk.is (bg++wk.map Prod.fst))::us):=hc.swap.drop.swap.drop.swap
 have z5:Dk.Box wb W1.heap.size #[.slice none 0 0,.bool false,.bool false,.bool false] 68:=hd.box (by simp)
 have hf:=(hd.setRow (cs':=#[.slice A nr C,.bool true,.bool false,.bool yl]) rfl).drop
 have d0:=(z5.row (cs':=#[.slice A nr C,.bool true,.bool false,.bool yl])).cell
 refine Dk.zr rfl rfl ?_
 refine wp_store_row 68 _ _ rfl W1.heap.size #[.slice A nr C,.bool true,.bool false,.bool yl] rfl rfl 68 _ z5.heap sizeEff rfl (zak _ _ _ _ _ _) ⟨fun h=>absurd (by decide) h,?_⟩
 simp only [zD]
 show NoPanic _ Exit.normal _ _
 refine NoPanic.normal ?_
 first | (rename_i hK;refine hK _ _ ?_;clear hK) | (rename_i hK _;refine hK _ _ ?_;clear hK) | (rename_i hK _ _;refine hK _ _ ?_;clear hK)
 clear KG ha hb hrun hc hd z5
 go_wp2_with fail
 exact bodyPost_ret (v:=eff A nr C true false yl) (by simp [results,Tryz.results67,go_sem,d0]) rfl ⟨A,C,rfl,hf⟩
theorem act_goes (h:Cor W w L q k us) (hn:n < 16) (op a b c:Int) (m:Nat) (x y:Nat) (r:Nat) (hr:r < 1000) (bg:List Int) (wk:List (Int × Nat)) (yl:Bool) (hy:(op == 24)=yl) (pc:Int) (epc:(qd.thr n).f.pc=pc) (hpc:0≤pc∧pc < 1000000) (hk:k'≤100000)
  (q4:Dk.Sp) (eq4:(qd.setT n (((qd.thr n).next).reg 7 r))=q4) (hrc:q4.recs.length+wk.length < 80000) (q5:Dk.Sp) (eq5:q4.tell n ⟨0,op,x,y,(r:Int),true⟩=q5) (hro:q5.RegsOk) (hrl:q5.recs.length≤q4.recs.length+1) (hin:∀ p ∈ wk,Dk.InR p.1) (nr:Nat) (enr:(bg++wk.map Prod.fst).length=nr) (hwk:wk.length≤5000) (hbg:bg.length≤5000)
  (hK:∀ w us,Cor W w L q k us→Calls Tryz.prog 97 #[.pointer (some ⟨L.b,0,none⟩),.int .i64 (n:Int),.agg #[.int .i64 op,.int .i64 a,.int .i64 b,.int .i64 c,.int .u64 (m:Nat)],.int .i64 ch] w (Dd W L qd k' ⟨x,y,(r:Int),0,bg,wk⟩ us)) :
  Calls Tryz.prog 67 #[.pointer (some ⟨L.b,0,none⟩),.int .i64 (n:Int),.agg #[.int .i64 op,.int .i64 a,.int .i64 b,.int .i64 c,.int .u64 (m:Nat)],.int .i64 ch] w fun e w'=>∃ A C,e=.returned (eff A nr C false false yl)∧Cor W w' L (q5.wake wk) k' (Dk.rowOf 3 1 (.slice A nr C) nr (Dk.is (bg++wk.map Prod.fst))::us):=by
 obtain ⟨W1,e1⟩:∃ W1,W1=w.alloc (.cells #[.int .i64 op,.int .i64 a,.int .i64 b,.int .i64 c,.int .u64 (m:Nat)] 112):=⟨_,rfl⟩
 obtain ⟨W2,e2⟩:∃ W2,W2=W1.alloc (.cells #[.slice none 0 0,.bool false,.bool false,.bool false] 68):=⟨_,rfl⟩
 have h2:=((h.newBox e1).newBox e2).swap
 have b2:Dk.Box W2 w.heap.size #[.int .i64 op,.int .i64 a,.int .i64 b,.int .i64 c,.int .u64 (m:Nat)] 112:=h2.box (by simp)
 have c2:=b2.cell
 have i1:(n:Int) < 16:=by omega
 have i2:(0:Int)≤(n:Int):=by omega
 have K2:=hK _ _ h2
 have H1:Hid _:=e1.symm
 have H2:Hid _:=e2.symm
 have EQ4:Hid _:=eq4
 have EQ5:Hid _:=eq5
 have HRO:Hid q5.RegsOk:=hro
 have HIN:Hid (∀ p ∈ wk,Dk.InR p.1):=hin
 have HY:Hid _:=hy
 have HNR:Hid _:=enr
 clear h h2 hK b2 e1 e2 eq4 eq5 hro hin hy enr
 go_enter Tryz.func67,Tryz.ntmps67
 go_wp2_with (first | (rw [H1.out];clear H1) | (rw [H2.out];clear H2))
 refine K2.mono ?_
 rintro e w5 ⟨Ab,Cb,Aw,Cw,rfl,h5⟩
 obtain ⟨W6,e6⟩:∃ W6,W6=w5.alloc (.cells #[.int .u64 (x:Nat),.int .u64 (y:Nat),.int .i64 (r:Int),.int .i64 0,.slice Ab bg.length Cb,.slice Aw wk.length Cw] 204):=⟨_,rfl⟩
 have h6:Cor W W6 L qd k' (Dk.boxOf w5.heap.size (dcs x y (r:Int) 0 (.slice Ab bg.length Cb) (.slice Aw wk.length Cw)) 204::Dk.rowOf 3 1 (.slice Ab bg.length Cb) bg.length (Dk.is bg)::Dk.rowOf 147 2 (.slice Aw wk.length Cw) wk.length (Dk.prs wk)::Dk.boxOf w.heap.size #[.int .i64 op,.int .i64 a,.int .i64 b,.int .i64 c,.int .u64 (m:Nat)] 112::Dk.boxOf W1.heap.size #[.slice none 0 0,.bool false,.bool false,.bool false] 68::us):=Cor.newBox h5 e6
 have b6:Dk.Box W6 w5.heap.size #[.int .u64 (x:Nat),.int .u64 (y:Nat),.int .i64 (r:Int),.int .i64 0,.slice Ab bg.length Cb,.slice Aw wk.length Cw] 204:=h6.box (by simp [dcs])
 have y6:W6.cell? ⟨w5.heap.size,3,none⟩=some (.int .i64 0):=b6.cell 3
 have p6:W6.cell? ⟨L.b,10+n*20+1,none⟩=some (.int .i64 pc):=by rw [h6.cellAt hn 1 (by omega),← epc];rfl
 have f6:=h6.frozenAt (10+n*20+1)
 have ew:wrap64 (pc+1)=pc+1:=by unfold wrap64;omega
 obtain ⟨W7,e7⟩:∃ W7,W7=W6.setCell ⟨L.b,10+n*20+1,none⟩ (.int .i64 (pc+1)):=⟨_,rfl⟩
 have h7:Cor W W7 L (qd.setT n ((qd.thr n).next)) k' (Dk.boxOf w5.heap.size (dcs x y (r:Int) 0 (.slice Ab bg.length Cb) (.slice Aw wk.length Cw)) 204::Dk.rowOf 3 1 (.slice Ab bg.length Cb) bg.length (Dk.is bg)::Dk.rowOf 147 2 (.slice Aw wk.length Cw) wk.length (Dk.prs wk)::Dk.boxOf w.heap.size #[.int .i64 op,.int .i64 a,.int .i64 b,.int .i64 c,.int .u64 (m:Nat)] 112::Dk.boxOf W1.heap.size #[.slice none 0 0,.bool false,.bool false,.bool false] 68::us):=by
  rw [e7]
  refine h6.setT hn 1 (by omega) _ _ ?_
  unfold Dk.Thr.next
  rw [epc,ew]
  rfl
 have b7:Dk.Box W7 w5.heap.size #[.int .u64 (x:Nat),.int .u64 (y:Nat),.int .i64 (r:Int),.int .i64 0,.slice Ab bg.length Cb,.slice Aw wk.length Cw] 204:=h7.box (by simp [dcs])
 have i7:Dk.Box W7 w.heap.size #[.int .i64 op,.int .i64 a,.int .i64 b,.int .i64 c,.int .u64 (m:Nat)] 112:=h7.box (by simp)
 have c7:=i7.cell
 have y7:W7.cell? ⟨w5.heap.size,3,none⟩=some (.int .i64 0):=b7.cell 3
 have H6:Hid _:=e6.symm
 have H7:Hid _:=e7.symm
 have h7d:=h7.below (Dk.zh (Below.refl _ _))
 have b7d:Dk.Box W7.drew w5.heap.size #[.int .u64 (x:Nat),.int .u64 (y:Nat),.int .i64 (r:Int),.int .i64 0,.slice Ab bg.length Cb,.slice Aw wk.length Cw] 204:=h7d.box (by simp [dcs])
 have kk1:=h7d.regCell hn 7 (by omega)
 have kk2:=h7d.frozenAt (10+n*20+2+7)
 have hR:=h7d.reg hn 7 r (by omega)
 have eqq:((qd.setT n ((qd.thr n).next)).setT n (((qd.setT n ((qd.thr n).next)).thr n).reg 7 r))=q4:=by
  rw [← EQ4.out]
  unfold Dk.Sp.setT
  simp only [Dk.zc2,Dk.upd_same]
 rw [eqq] at hR
 have ir:(r:Int) < 1000:=by omega
 have ir0:(0:Int)≤(r:Int):=by omega
 clear K2 h5 h6 h7 h7d b6 b7 i7 e6 e7 c2 ew eqq EQ4
 go_wp2_with (first | (rw [H6.out];clear H6) | (rw [H7.out];clear H7))
 refine Dk.zf (S:=fun w'=>Dk.Box w' w5.heap.size #[.int .u64 (x:Nat),.int .u64 (y:Nat),.int .i64 (r:Int),.int .i64 0,.slice Ab bg.length Cb,.slice Aw wk.length Cw] 204) [0,1,2,3,4,5,6,7] [8] (by kernel_rfl) (by kernel_rfl) b7d ?_
 refine Dk.za (v:=.pointer (some ⟨L.b,10+n*20,none⟩)) rfl rfl (fun w' hw'=>by go_simp) ?_
 simp only [zD]
 refine Dk.za (v:=.pointer (some ⟨w5.heap.size,2,none⟩)) rfl rfl (fun w' hw'=>by go_simp) ?_
 simp only [zD]
 refine Dk.za (v:=.int .i64 (r:Int)) rfl rfl (fun w' hw'=>by have c:=hw'.cell 2;go_simp) ?_
 simp only [zD]
 refine Dk.za (v:=.int .u64 (r:Nat)) rfl rfl (fun w' hw'=>by go_simp;(try go_bits);(try trivial)) ?_
 simp only [zD]
 refine Dk.za (v:=.pointer (some ⟨L.b,10+n*20,none⟩)) rfl rfl (fun w' hw'=>by go_simp) ?_
 simp only [zD]
 refine Dk.za (v:=.pointer (some ⟨L.b,10+n*20,none⟩)) rfl rfl (fun w' hw'=>by go_simp) ?_
 simp only [zD]
 refine Dk.za (v:=.pointer (some ⟨L.b,10+n*20+2,none⟩)) rfl rfl (fun w' hw'=>by go_simp) ?_
 simp only [zD]
 refine Dk.za (v:=.pointer (some ⟨L.b,10+n*20+2+7,none⟩)) rfl rfl (fun w' hw'=>by go_simp) ?_
 simp only [zD]
 refine Dk.zk rfl rfl ?_
 refine zag (w':=W7.drew.setCell ⟨L.b,10+n*20+2+7,none⟩ (.int .u64 (r:Nat))) (by go_simp) ?_
 generalize W7.drew.setCell ⟨L.b,10+n*20+2+7,none⟩ (.int .u64 (r:Nat))=w8 at *
 have h8:Cor W w8 L q4 k' (Dk.boxOf w5.heap.size (dcs x y (r:Int) 0 (.slice Ab bg.length Cb) (.slice Aw wk.length Cw)) 204::Dk.rowOf 3 1 (.slice Ab bg.length Cb) bg.length (Dk.is bg)::Dk.rowOf 147 2 (.slice Aw wk.length Cw) wk.length (Dk.prs wk)::Dk.boxOf w.heap.size #[.int .i64 op,.int .i64 a,.int .i64 b,.int .i64 c,.int .u64 (m:Nat)] 112::Dk.boxOf W1.heap.size #[.slice none 0 0,.bool false,.bool false,.bool false] 68::us):=hR
 clear hR
 refine ⟨h8.box (by simp [dcs]),?_⟩
 simp only [zD]
 show NoPanic _ Exit.normal _ _
 refine NoPanic.normal ?_
 first | (rename_i hK;refine hK _ _ ?_;clear hK) | (rename_i hK _;refine hK _ _ ?_;clear hK) | (rename_i hK _ _;refine hK _ _ ?_;clear hK)
 clear c7 y7 y6 p6 f6 b7d kk1 kk2
 have b8:Dk.Box w8 w5.heap.size #[.int .u64 (x:Nat),.int .u64 (y:Nat),.int .i64 (r:Int),.int .i64 0,.slice Ab bg.length Cb,.slice Aw wk.length Cw] 204:=h8.box (by simp [dcs])
 have i8:Dk.Box w8 w.heap.size #[.int .i64 op,.int .i64 a,.int .i64 b,.int .i64 c,.int .u64 (m:Nat)] 112:=h8.box (by simp)
 have o8:w8.cell? ⟨w.heap.size,0,none⟩=some (.int .i64 op):=i8.cell 0
 have x8:w8.cell? ⟨w5.heap.size,0,none⟩=some (.int .u64 (x:Nat)):=b8.cell 0
 have y8:w8.cell? ⟨w5.heap.size,1,none⟩=some (.int .u64 (y:Nat)):=b8.cell 1
 have r8:w8.cell? ⟨w5.heap.size,2,none⟩=some (.int .i64 (r:Int)):=b8.cell 2
 have KT:=zct h8 hk n ⟨0,op,x,y,(r:Int),true⟩ (by omega)
 rw [EQ5.out] at KT
 clear h8 b8 i8 EQ5
 go_wp2_with fail
 refine KT.mono ?_
 rintro e w9 ⟨rfl,h9⟩
 have hC:=h9.below (Dk.zh (Below.refl _ _))
 have HS:Dk.Box w9.drew w.heap.size #[.int .i64 op,.int .i64 a,.int .i64 b,.int .i64 c,.int .u64 (m:Nat)] 112∧Dk.Box w9.drew w5.heap.size #[.int .u64 (x:Nat),.int .u64 (y:Nat),.int .i64 (r:Int),.int .i64 0,.slice Ab bg.length Cb,.slice Aw wk.length Cw] 204:=⟨hC.box (by simp),hC.box (by simp [dcs])⟩
 have KG:=zdf wk Aw Cw (us:=Dk.boxOf w5.heap.size (dcs x y (r:Int) 0 (.slice Ab bg.length Cb) (.slice Aw wk.length Cw)) 204::Dk.rowOf 3 1 (.slice Ab bg.length Cb) bg.length (Dk.is bg)::Dk.boxOf w.heap.size #[.int .i64 op,.int .i64 a,.int .i64 b,.int .i64 c,.int .u64 (m:Nat)] 112::Dk.boxOf W1.heap.size #[.slice none 0 0,.bool false,.bool false,.bool false] 68::us) (Cor.perm hC (((List.Perm.swap _ _ _).cons _).trans (List.Perm.swap _ _ _))) hk HRO.out HIN.out (by omega) hwk
 have hy:=HY.out
 clear KT h9 o8 x8 y8 r8 hC
 go_wp2_with fail
 refine Dk.zd (S:=fun w'=>Dk.Box w' w.heap.size #[.int .i64 op,.int .i64 a,.int .i64 b,.int .i64 c,.int .u64 (m:Nat)] 112∧Dk.Box w' w5.heap.size #[.int .u64 (x:Nat),.int .u64 (y:Nat),.int .i64 (r:Int),.int .i64 0,.slice Ab bg.length Cb,.slice Aw wk.length Cw] 204) [] [0,1,2,3,4,7,8,9,10] [11,12] 4 (by kernel_rfl) (by kernel_rfl) (by kernel_rfl) (by kernel_rfl) rfl HS _ ?_ (fun a' h=>h)
 refine Dk.za (v:=.pointer (some ⟨w5.heap.size,4,none⟩)) rfl rfl (fun w' hw'=>by go_simp) ?_
 simp only [zD]
 refine Dk.za (v:=.slice Ab bg.length Cb) rfl rfl (fun w' hw'=>by have c:=hw'.2.cell 4;go_simp) ?_
 simp only [zD]
 refine Dk.za (v:=.pointer (some ⟨L.b,0,none⟩)) rfl rfl (fun w' hw'=>by go_simp) ?_
 simp only [zD]
 refine Dk.za (v:=.pointer (some ⟨w5.heap.size,5,none⟩)) rfl rfl (fun w' hw'=>by go_simp) ?_
 simp only [zD]
 refine Dk.za (v:=.slice Aw wk.length Cw) rfl rfl (fun w' hw'=>by have c:=hw'.2.cell 5;go_simp) ?_
 simp only [zD]
 refine Dk.za (v:=.bool false) rfl rfl (fun w' hw'=>by go_simp) ?_
 simp only [zD]
 refine Dk.za (v:=.pointer (some ⟨w.heap.size,0,none⟩)) rfl rfl (fun w' hw'=>by go_simp) ?_
 simp only [zD]
 refine Dk.za (v:=.int .i64 op) rfl rfl (fun w' hw'=>by have c:=hw'.1.cell 0;go_simp) ?_
 simp only [zD]
 refine Dk.za (v:=.bool yl) rfl rfl (fun w' hw'=>by go_simp) ?_
 simp only [zD]
 clear HS
 generalize w9.drew=WD at *
 refine Dk.treeY (rs:=[5]) (by kernel_rfl) (by simp) ?_
 intro i hi
 simp only [List.mem_cons,List.not_mem_nil,or_false] at hi
 subst hi
 refine Dk.zm (some 67) rfl rfl rfl (f:=69) (args:=#[.pointer (some ⟨L.b,0,none⟩),.slice Aw wk.length Cw]) (by go_simp) ?_
 refine KG.mono ?_
 rintro e wa ⟨A',C',rfl,ha⟩
 refine ⟨_,rfl,fun _=>⟨ha.box (by simp),ha.box (by simp [dcs])⟩,?_⟩
 simp only [zD]
 have el:(wk.map Prod.fst).length=wk.length:=List.length_map _
 have hb:Cor W wa L (q5.wake wk) k' (Dk.rowOf 3 1 (.slice Ab bg.length Cb) bg.length (Dk.is bg)::Dk.rowOf 3 1 (.slice A' (wk.map Prod.fst).length C') (wk.map Prod.fst).length (Dk.is (wk.map Prod.fst))::Dk.boxOf w5.heap.size (dcs x y (r:Int) 0 (.slice Ab bg.length Cb) (.slice Aw wk.length Cw)) 204::Dk.boxOf w.heap.size #[.int .i64 op,.int .i64 a,.int .i64 b,.int .i64 c,.int .u64 (m:Nat)] 112::Dk.boxOf W1.heap.size #[.slice none 0 0,.bool false,.bool false,.bool false] 68::us):=by
  rw [el]
  exact ha.swap.drop.perm (((List.Perm.swap _ _ _).cons _).trans (List.Perm.swap _ _ _))
 obtain ⟨A,C,wb,hrun,hc⟩:=hb.appendS (by rw [el];omega)
 rw [el,HNR.out] at hrun
 rw [HNR.out] at hc
 refine Dk.zl [6,11,12] _ _ _ (by kernel_rfl) ?_
 refine Dk.zr rfl rfl ?_
 refine Lib.wp_append_run _ _ _ _ _ rfl _ _ rfl rfl _ _ hrun ⟨fun _=>⟨hc.box (by simp),hc.box (by simp [dcs])⟩,?_⟩
 simp only [zD]
 refine Dk.zj (v:=.agg #[.slice A nr C,.bool false,.bool false,.bool yl]) (w':=wb) (some 73) rfl rfl rfl (by go_simp) (fun h=>absurd (by decide) h) ?_
 simp only [zD]
 have hd:Cor W wb L (q5.wake wk) k' (Dk.boxOf W1.heap.size #[.slice none 0 0,.bool false,.bool false,.bool false] 68::Dk.rowOf 3 1 (.slice A nr C) nr (Dk.is (bg++wk.map Prod.fst))::us):=hc.swap.drop.swap.drop.swap
 have z5:Dk.Box wb W1.heap.size #[.slice none 0 0,.bool false,.bool false,.bool false] 68:=hd.box (by simp)
 have hf:=(hd.setRow (cs':=#[.slice A nr C,.bool false,.bool false,.bool yl]) rfl).drop
 have d0:=(z5.row (cs':=#[.slice A nr C,.bool false,.bool false,.bool yl])).cell
 refine Dk.zr rfl rfl ?_
 refine wp_store_row 68 _ _ rfl W1.heap.size #[.slice A nr C,.bool false,.bool false,.bool yl] rfl rfl 68 _ z5.heap sizeEff rfl (zak _ _ _ _ _ _) ⟨fun h=>absurd (by decide) h,?_⟩
 simp only [zD]
 show NoPanic _ Exit.normal _ _
 refine NoPanic.normal ?_
 first | (rename_i hK;refine hK _ _ ?_;clear hK) | (rename_i hK _;refine hK _ _ ?_;clear hK) | (rename_i hK _ _;refine hK _ _ ?_;clear hK)
 clear KG ha hb hrun hc hd z5
 go_wp2_with fail
 exact bodyPost_ret (v:=eff A nr C false false yl) (by simp [results,Tryz.results67,go_sem,d0]) rfl ⟨A,C,rfl,hf⟩
end
end Go.Proofs.YtglhhlfopccmaaaGreat
