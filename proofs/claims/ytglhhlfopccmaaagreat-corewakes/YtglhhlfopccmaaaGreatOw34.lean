import Derived.Test.YtglhhlfopccmaaaGreatOw33
set_option linter.unusedSimpArgs false
set_option linter.unusedVariables false
set_option linter.unnecessarySimpa false
set_option maxHeartbeats 8000000
set_option maxRecDepth 100000
namespace Dk
theorem Sp.getW_no (q:Sp) (n m:Nat) (h:(q.getW n m).2.2.1=false):(q.getW n m).2.2.2.2=false:=by
 unfold Sp.getW at h ⊢
 dsimp only at h ⊢
 split
 ·rfl
 ·rename_i h0
  rw [if_neg h0] at h
  split
  ·rfl
  ·rename_i y ws e
   rw [e] at h
   dsimp only at h
   split at h <;> simp at h
end Dk
namespace Go.Proofs.YtglhhlfopccmaaaGreat
open Go.RowKit Go.Lib
section
variable {W w w' : World} {L : Dk.Loc} {q : Dk.Sp} {k n : Nat} {us us' us1 us2 : List Dk.Thing} {t : Dk.Thing}
theorem Cor.regCell (h:Cor W w L q k us) (hn:n < 16) (a:Nat) (ha:a < 8):w.cell? ⟨L.b,10+n*20+2+a,none⟩=some (.int .u64 ((q.thr n).f.r a:Nat)):=by
 have:=h.cellAt hn (2+a) (by omega)
 rw [← Nat.add_assoc] at this
 rw [this]
 have:a=0∨a=1∨a=2∨a=3∨a=4∨a=5∨a=6∨a=7:=by omega
 rcases this with rfl | rfl | rfl | rfl | rfl | rfl | rfl | rfl <;> rfl
theorem get_no (h:Cor W w L q k us) (hn:n < 16) (op:Int) (a:Nat) (bb c:Int) (m:Nat) (ha:a < 8) (hm:m < q.tubes.length) (hl:∀ t ∈ q.tubes,t.ws.length≤1000∧t.ps.length≤1000∧t.gs.length≤1000) (ht:(q.getW n m).2.2.1=false) :
  Calls Tryz.prog 130 #[.pointer (some ⟨L.b,0,none⟩),.int .i64 (n:Int),.pointer (some ⟨L.b,10+n*20,none⟩),.agg #[.int .i64 op,.int .i64 (a:Int),.int .i64 bb,.int .i64 c,.int .u64 (m:Nat)]] w fun e w'=>e=.returned (.agg #[.int .u64 (m:Nat),.int .u64 0,.int .i64 0,.int .i64 6,.slice none 0 0,.slice none 0 0])∧Cor W w' L (q.getW n m).1 k us:=by
 obtain ⟨W1,e1⟩:∃ W1,W1=w.alloc (.cells #[.int .i64 op,.int .i64 (a:Int),.int .i64 bb,.int .i64 c,.int .u64 (m:Nat)] 112):=⟨_,rfl⟩
 obtain ⟨W2,e2⟩:∃ W2,W2=W1.alloc (.cells #[.int .u64 0,.int .u64 0,.int .i64 0,.int .i64 0,.slice none 0 0,.slice none 0 0] 204):=⟨_,rfl⟩
 obtain ⟨W3,e3⟩:∃ W3,W3=W2.alloc (.cells #[.int .u64 (m:Nat),.int .u64 0,.int .i64 0,.int .i64 0,.slice none 0 0,.slice none 0 0] 204):=⟨_,rfl⟩
 have h2:=((h.newBox e1).newBox e2).swap
 have h3:=h2.newBox e3
 have b3:Dk.Box W3 w.heap.size #[.int .i64 op,.int .i64 (a:Int),.int .i64 bb,.int .i64 c,.int .u64 (m:Nat)] 112:=h3.box (by simp)
 have b2:Dk.Box W2 w.heap.size #[.int .i64 op,.int .i64 (a:Int),.int .i64 bb,.int .i64 c,.int .u64 (m:Nat)] 112:=h2.box (by simp)
 have cm2:W2.cell? ⟨w.heap.size,4,none⟩=some (.int .u64 (m:Nat)):=b2.cell 4
 have hC:=h3.below (Dk.zh (Below.refl _ _))
 obtain ⟨bt,_,g,C,hbt,evt,cg1,cg2,_,_,_,_⟩:=h.tube m hm
 have KP:∀ w1 us',Cor W w1 L q k us'→Calls Tryz.prog 163 #[.pointer (some ⟨bt,0,none⟩),.int .i64 (n:Int)] w1 fun e w'=>e=.returned (.tuple #[.int .u64 ((q.getW n m).2.1:Nat),.bool (q.getW n m).2.2.1,.int .i64 (q.getW n m).2.2.2.1,.bool (q.getW n m).2.2.2.2])∧Cor W w' L (q.getW n m).1 k us':=fun w1 us' h1=>tubeGet h1 hn m hm hl bt hbt
 have MT:∀ w' us',Cor W w' L q k us'→w'.cell? ⟨L.b,331,none⟩=some (.slice (some ⟨g,0,none⟩) q.tubes.length C)∧w'.cell? ⟨g,m,none⟩=some (.pointer (some ⟨bt,0,none⟩)):=fun w' us' h'=>by
  obtain ⟨bt',_,g',C',hbt',evt',_,_,hc',_,_,_⟩:=h'.tube m hm
  rw [hbt] at hbt'
  cases hbt'
  rw [evt] at evt'
  injection evt' with q1 q2 q3
  injection q1 with q4
  injection q4 with q5
  subst q5
  exact ⟨by rw [h'.tubePtr,evt],hc'⟩
 have HS3:Dk.Box W3.drew w.heap.size #[.int .i64 op,.int .i64 (a:Int),.int .i64 bb,.int .i64 c,.int .u64 (m:Nat)] 112∧(W3.drew.cell? ⟨L.b,331,none⟩=some (.slice (some ⟨g,0,none⟩) q.tubes.length C)∧W3.drew.cell? ⟨g,m,none⟩=some (.pointer (some ⟨bt,0,none⟩))):=⟨hC.box (by simp),MT _ _ hC⟩
 have hpw:=Dk.Sp.getW_no q n m ht
 rw [ht,hpw] at KP
 clear ht hpw
 generalize (q.getW n m).1=qz at *
 generalize (q.getW n m).2.1=wd at *
 generalize (q.getW n m).2.2.2.1=pp at *
 generalize q.tubes.length=tl at *
 unfold maxLen at cg2
 have i1:(a:Int) < 8:=by omega
 have i2:(0:Int)≤(a:Int):=by omega
 have i3:(m:Int) < (tl:Int):=by omega
 have i4:(0:Int)≤(m:Int):=by omega
 have H1:Hid _:=e1.symm
 have H2:Hid _:=e2.symm
 have H3:Hid _:=e3.symm
 have HC:Hid (Cor W W3.drew L q k _):=hC
 clear h h2 h3 b2 b3 hC e1 e2 e3 hl evt MT
 go_enter Tryz.func130,Tryz.ntmps130
 go_wp2_with (first | (rw [H1.out];clear H1) | (rw [H2.out];clear H2) | (rw [H3.out];clear H3))
 refine Dk.zd (S:=fun w'=>Dk.Box w' w.heap.size #[.int .i64 op,.int .i64 (a:Int),.int .i64 bb,.int .i64 c,.int .u64 (m:Nat)] 112∧(w'.cell? ⟨L.b,331,none⟩=some (.slice (some ⟨g,0,none⟩) tl C)∧w'.cell? ⟨g,m,none⟩=some (.pointer (some ⟨bt,0,none⟩)))) [] [0,1,2,3,4,5,6,7,8] [9,10,11,12,13,14,15,16,17,18] 10 (by kernel_rfl) (by kernel_rfl) (by kernel_rfl) (by kernel_rfl) rfl HS3 _ ?_ (fun a' h=>h)
 refine Dk.za (v:=.pointer (some ⟨L.b,0,none⟩)) rfl rfl (fun w' hw'=>by go_simp) ?_
 simp only [zD]
 refine Dk.za (v:=.pointer (some ⟨L.b,0,none⟩)) rfl rfl (fun w' hw'=>by go_simp) ?_
 simp only [zD]
 refine Dk.za (v:=.pointer (some ⟨L.b,331,none⟩)) rfl rfl (fun w' hw'=>by go_simp) ?_
 simp only [zD]
 refine Dk.za (v:=.slice (some ⟨g,0,none⟩) tl C) rfl rfl (fun w' hw'=>by have c:=hw'.2.1;go_simp) ?_
 simp only [zD]
 refine Dk.za (v:=.pointer (some ⟨w.heap.size,4,none⟩)) rfl rfl (fun w' hw'=>by go_simp) ?_
 simp only [zD]
 refine Dk.za (v:=.int .u64 (m:Nat)) rfl rfl (fun w' hw'=>by have c:=hw'.1.cell 4;go_simp) ?_
 simp only [zD]
 refine Dk.za (v:=.pointer (some ⟨g,m,none⟩)) rfl rfl (fun w' hw'=>by go_simp) ?_
 simp only [zD]
 refine Dk.za (v:=.pointer (some ⟨bt,0,none⟩)) rfl rfl (fun w' hw'=>by have c:=hw'.2.2;go_simp) ?_
 simp only [zD]
 refine Dk.za (v:=.int .i64 (n:Int)) rfl rfl (fun w' hw'=>by go_simp) ?_
 simp only [zD]
 refine Dk.treeY (rs:=[9]) (by kernel_rfl) (by simp) ?_
 intro i hi
 simp only [List.mem_cons,List.not_mem_nil,or_false] at hi
 subst hi
 refine Dk.zm (some 27) rfl rfl rfl (f:=163) (args:=#[.pointer (some ⟨bt,0,none⟩),.int .i64 (n:Int)]) (by go_simp) ?_
 refine (KP _ _ HC.out).mono ?_
 rintro e w2 ⟨rfl,h6⟩
 refine ⟨_,rfl,fun h=>absurd (by decide) h,?_⟩
 simp only [zD]
 refine Dk.zo (by kernel_rfl) (fun c a w h=>h) _ 0 _ [10,11,12,13,14,15,16,17,18] _ _ (by kernel_rfl) ?_ (fun a' h=>h)
 refine Dk.za (v:=.tuple #[.int .u64 (wd:Nat),.bool false,.int .i64 pp,.bool false]) rfl rfl (fun w' hw'=>by go_simp) ?_
 simp only [zD]
 refine Dk.za (v:=.int .u64 (wd:Nat)) rfl rfl (fun w' hw'=>by go_simp) ?_
 simp only [zD]
 refine Dk.za (v:=.bool false) rfl rfl (fun w' hw'=>by go_simp) ?_
 simp only [zD]
 refine Dk.za (v:=.int .i64 pp) rfl rfl (fun w' hw'=>by go_simp) ?_
 simp only [zD]
 refine Dk.za (v:=.bool false) rfl rfl (fun w' hw'=>by go_simp) ?_
 simp only [zD]
 refine Dk.za (v:=.int .u64 (wd:Nat)) rfl rfl (fun w' hw'=>by go_simp) ?_
 simp only [zD]
 refine Dk.za (v:=.bool false) rfl rfl (fun w' hw'=>by go_simp) ?_
 simp only [zD]
 refine Dk.za (v:=.int .i64 pp) rfl rfl (fun w' hw'=>by go_simp) ?_
 simp only [zD]
 refine Dk.za (v:=.bool false) rfl rfl (fun w' hw'=>by go_simp) ?_
 simp only [zD]
 refine ⟨by kernel_rfl,?_⟩
 show NoPanic _ Exit.normal _ _
 refine NoPanic.normal ?_
 first | (rename_i hK;refine hK _ _ ?_;clear hK) | (rename_i hK _;refine hK _ _ ?_;clear hK)
 have K7:=zaw W2.heap.size m 0 0 0 (.slice none 0 0) (.slice none 0 0) h6 true 6
 clear h6 HS3 HC KP
 go_wp2_with fail
 refine K7.mono ?_
 rintro e w7 ⟨rfl,h7⟩
 have h7':Cor W w7 L qz k (bxD W2.heap.size m 0 0 6 (.slice none 0 0) (.slice none 0 0)::Dk.boxOf w.heap.size #[.int .i64 op,.int .i64 (a:Int),.int .i64 bb,.int .i64 c,.int .u64 (m:Nat)] 112::Dk.boxOf W1.heap.size #[.int .u64 0,.int .u64 0,.int .i64 0,.int .i64 0,.slice none 0 0,.slice none 0 0] 204::us):=h7
 have K8:=zci W2.heap.size m 0 0 6 (.slice none 0 0) (.slice none 0 0) pp h7'
 have b7:Dk.Box w7 W2.heap.size #[.int .u64 (m:Nat),.int .u64 0,.int .i64 0,.int .i64 6,.slice none 0 0,.slice none 0 0] 204:=h7'.box (by simp [bxD,dcs])
 have c7:=b7.cell
 have z7:Dk.Box w7 W1.heap.size #[.int .u64 0,.int .u64 0,.int .i64 0,.int .i64 0,.slice none 0 0,.slice none 0 0] 204:=h7'.box (by simp)
 have h8:=(h7'.drop.drop.setRow (cs':=#[.int .u64 (m:Nat),.int .u64 0,.int .i64 0,.int .i64 6,.slice none 0 0,.slice none 0 0]) rfl).drop
 have d0:=(z7.row (cs':=#[.int .u64 (m:Nat),.int .u64 0,.int .i64 0,.int .i64 6,.slice none 0 0,.slice none 0 0])).cell
 have HB:Hid _:=z7
 clear K7 h7 h7' b7 z7
 go_wp2_with (first | (go_at_call 156;refine K8.mono ?_;rintro e w' ⟨rfl,ew⟩;subst w') | (refine wpList_store_row rfl 204 _ _ rfl W1.heap.size #[.int .u64 (m:Nat),.int .u64 0,.int .i64 0,.int .i64 6,.slice none 0 0,.slice none 0 0] rfl rfl 204 _ HB.out.heap sizeDeed rfl (zaf m 0 _ _) ?_))
 exact bodyPost_ret (v:=.agg #[.int .u64 (m:Nat),.int .u64 0,.int .i64 0,.int .i64 6,.slice none 0 0,.slice none 0 0]) (by simp [results,Tryz.results130,go_sem,d0]) rfl ⟨rfl,h8⟩
theorem get_yes (h:Cor W w L q k us) (hn:n < 16) (op:Int) (a:Nat) (bb c:Int) (m:Nat) (ha:a < 8) (hm:m < q.tubes.length) (hl:∀ t ∈ q.tubes,t.ws.length≤1000∧t.ps.length≤1000∧t.gs.length≤1000) (ht:(q.getW n m).2.2.1=true) :
  Calls Tryz.prog 130 #[.pointer (some ⟨L.b,0,none⟩),.int .i64 (n:Int),.pointer (some ⟨L.b,10+n*20,none⟩),.agg #[.int .i64 op,.int .i64 (a:Int),.int .i64 bb,.int .i64 c,.int .u64 (m:Nat)]] w fun e w'=>∃ A C,e=.returned (.agg #[.int .u64 (m:Nat),.int .u64 ((q.getW n m).2.1:Nat),.int .i64 0,.int .i64 0,.slice none 0 0,.slice A (if (q.getW n m).2.2.2.2 then 1 else 0) C])∧Cor W w' L ((q.getW n m).1.setT n (((q.getW n m).1.thr n).reg a (q.getW n m).2.1)) k (Dk.rowOf 147 2 (.slice A (if (q.getW n m).2.2.2.2 then 1 else 0) C) (if (q.getW n m).2.2.2.2 then 1 else 0) (Dk.prs (if (q.getW n m).2.2.2.2 then [((q.getW n m).2.2.2.1,0)] else []))::us):=by
 obtain ⟨W1,e1⟩:∃ W1,W1=w.alloc (.cells #[.int .i64 op,.int .i64 (a:Int),.int .i64 bb,.int .i64 c,.int .u64 (m:Nat)] 112):=⟨_,rfl⟩
 obtain ⟨W2,e2⟩:∃ W2,W2=W1.alloc (.cells #[.int .u64 0,.int .u64 0,.int .i64 0,.int .i64 0,.slice none 0 0,.slice none 0 0] 204):=⟨_,rfl⟩
 obtain ⟨W3,e3⟩:∃ W3,W3=W2.alloc (.cells #[.int .u64 (m:Nat),.int .u64 0,.int .i64 0,.int .i64 0,.slice none 0 0,.slice none 0 0] 204):=⟨_,rfl⟩
 have h2:=((h.newBox e1).newBox e2).swap
 have h3:=h2.newBox e3
 have b3:Dk.Box W3 w.heap.size #[.int .i64 op,.int .i64 (a:Int),.int .i64 bb,.int .i64 c,.int .u64 (m:Nat)] 112:=h3.box (by simp)
 have b2:Dk.Box W2 w.heap.size #[.int .i64 op,.int .i64 (a:Int),.int .i64 bb,.int .i64 c,.int .u64 (m:Nat)] 112:=h2.box (by simp)
 have cm2:W2.cell? ⟨w.heap.size,4,none⟩=some (.int .u64 (m:Nat)):=b2.cell 4
 have hC:=h3.below (Dk.zh (Below.refl _ _))
 obtain ⟨bt,_,g,C,hbt,evt,cg1,cg2,_,_,_,_⟩:=h.tube m hm
 have KP:∀ w1 us',Cor W w1 L q k us'→Calls Tryz.prog 163 #[.pointer (some ⟨bt,0,none⟩),.int .i64 (n:Int)] w1 fun e w'=>e=.returned (.tuple #[.int .u64 ((q.getW n m).2.1:Nat),.bool (q.getW n m).2.2.1,.int .i64 (q.getW n m).2.2.2.1,.bool (q.getW n m).2.2.2.2])∧Cor W w' L (q.getW n m).1 k us':=fun w1 us' h1=>tubeGet h1 hn m hm hl bt hbt
 have MT:∀ w' us',Cor W w' L q k us'→w'.cell? ⟨L.b,331,none⟩=some (.slice (some ⟨g,0,none⟩) q.tubes.length C)∧w'.cell? ⟨g,m,none⟩=some (.pointer (some ⟨bt,0,none⟩)):=fun w' us' h'=>by
  obtain ⟨bt',_,g',C',hbt',evt',_,_,hc',_,_,_⟩:=h'.tube m hm
  rw [hbt] at hbt'
  cases hbt'
  rw [evt] at evt'
  injection evt' with q1 q2 q3
  injection q1 with q4
  injection q4 with q5
  subst q5
  exact ⟨by rw [h'.tubePtr,evt],hc'⟩
 have HS3:Dk.Box W3.drew w.heap.size #[.int .i64 op,.int .i64 (a:Int),.int .i64 bb,.int .i64 c,.int .u64 (m:Nat)] 112∧(W3.drew.cell? ⟨L.b,331,none⟩=some (.slice (some ⟨g,0,none⟩) q.tubes.length C)∧W3.drew.cell? ⟨g,m,none⟩=some (.pointer (some ⟨bt,0,none⟩))):=⟨hC.box (by simp),MT _ _ hC⟩
 rw [ht] at KP
 clear ht
 generalize (q.getW n m).1=qz at *
 generalize (q.getW n m).2.1=wd at *
 generalize (q.getW n m).2.2.2.1=pp at *
 generalize (q.getW n m).2.2.2.2=pw at *
 generalize q.tubes.length=tl at *
 unfold maxLen at cg2
 have i1:(a:Int) < 8:=by omega
 have i2:(0:Int)≤(a:Int):=by omega
 have i3:(m:Int) < (tl:Int):=by omega
 have i4:(0:Int)≤(m:Int):=by omega
 have H1:Hid _:=e1.symm
 have H2:Hid _:=e2.symm
 have H3:Hid _:=e3.symm
 have HC:Hid (Cor W W3.drew L q k _):=hC
 clear h h2 h3 b2 b3 hC e1 e2 e3 hl evt MT
 go_enter Tryz.func130,Tryz.ntmps130
 go_wp2_with (first | (rw [H1.out];clear H1) | (rw [H2.out];clear H2) | (rw [H3.out];clear H3))
 refine Dk.zd (S:=fun w'=>Dk.Box w' w.heap.size #[.int .i64 op,.int .i64 (a:Int),.int .i64 bb,.int .i64 c,.int .u64 (m:Nat)] 112∧(w'.cell? ⟨L.b,331,none⟩=some (.slice (some ⟨g,0,none⟩) tl C)∧w'.cell? ⟨g,m,none⟩=some (.pointer (some ⟨bt,0,none⟩)))) [] [0,1,2,3,4,5,6,7,8] [9,10,11,12,13,14,15,16,17,18] 10 (by kernel_rfl) (by kernel_rfl) (by kernel_rfl) (by kernel_rfl) rfl HS3 _ ?_ (fun a' h=>h)
 refine Dk.za (v:=.pointer (some ⟨L.b,0,none⟩)) rfl rfl (fun w' hw'=>by go_simp) ?_
 simp only [zD]
 refine Dk.za (v:=.pointer (some ⟨L.b,0,none⟩)) rfl rfl (fun w' hw'=>by go_simp) ?_
 simp only [zD]
 refine Dk.za (v:=.pointer (some ⟨L.b,331,none⟩)) rfl rfl (fun w' hw'=>by go_simp) ?_
 simp only [zD]
 refine Dk.za (v:=.slice (some ⟨g,0,none⟩) tl C) rfl rfl (fun w' hw'=>by have c:=hw'.2.1;go_simp) ?_
 simp only [zD]
 refine Dk.za (v:=.pointer (some ⟨w.heap.size,4,none⟩)) rfl rfl (fun w' hw'=>by go_simp) ?_
 simp only [zD]
 refine Dk.za (v:=.int .u64 (m:Nat)) rfl rfl (fun w' hw'=>by have c:=hw'.1.cell 4;go_simp) ?_
 simp only [zD]
 refine Dk.za (v:=.pointer (some ⟨g,m,none⟩)) rfl rfl (fun w' hw'=>by go_simp) ?_
 simp only [zD]
 refine Dk.za (v:=.pointer (some ⟨bt,0,none⟩)) rfl rfl (fun w' hw'=>by have c:=hw'.2.2;go_simp) ?_
 simp only [zD]
 refine Dk.za (v:=.int .i64 (n:Int)) rfl rfl (fun w' hw'=>by go_simp) ?_
 simp only [zD]
 refine Dk.treeY (rs:=[9]) (by kernel_rfl) (by simp) ?_
 intro i hi
 simp only [List.mem_cons,List.not_mem_nil,or_false] at hi
 subst hi
 refine Dk.zm (some 27) rfl rfl rfl (f:=163) (args:=#[.pointer (some ⟨bt,0,none⟩),.int .i64 (n:Int)]) (by go_simp) ?_
 refine (KP _ _ HC.out).mono ?_
 rintro e w2 ⟨rfl,h6⟩
 refine ⟨_,rfl,fun h=>absurd (by decide) h,?_⟩
 simp only [zD]
 refine Dk.zo (by kernel_rfl) (fun c a w h=>h) _ 0 _ [10,11,12,13,14,15,16,17,18] _ _ (by kernel_rfl) ?_ (fun a' h=>h)
 refine Dk.za (v:=.tuple #[.int .u64 (wd:Nat),.bool true,.int .i64 pp,.bool pw]) rfl rfl (fun w' hw'=>by go_simp) ?_
 simp only [zD]
 refine Dk.za (v:=.int .u64 (wd:Nat)) rfl rfl (fun w' hw'=>by go_simp) ?_
 simp only [zD]
 refine Dk.za (v:=.bool true) rfl rfl (fun w' hw'=>by go_simp) ?_
 simp only [zD]
 refine Dk.za (v:=.int .i64 pp) rfl rfl (fun w' hw'=>by go_simp) ?_
 simp only [zD]
 refine Dk.za (v:=.bool pw) rfl rfl (fun w' hw'=>by go_simp) ?_
 simp only [zD]
 refine Dk.za (v:=.int .u64 (wd:Nat)) rfl rfl (fun w' hw'=>by go_simp) ?_
 simp only [zD]
 refine Dk.za (v:=.bool true) rfl rfl (fun w' hw'=>by go_simp) ?_
 simp only [zD]
 refine Dk.za (v:=.int .i64 pp) rfl rfl (fun w' hw'=>by go_simp) ?_
 simp only [zD]
 refine Dk.za (v:=.bool pw) rfl rfl (fun w' hw'=>by go_simp) ?_
 simp only [zD]
 refine ⟨by kernel_rfl,?_⟩
 show NoPanic _ Exit.normal _ _
 refine NoPanic.normal ?_
 first | (rename_i hK;refine hK _ _ ?_;clear hK) | (rename_i hK _;refine hK _ _ ?_;clear hK)
 have h7:=h6.below (Dk.zh (Below.refl _ _))
 have b7:Dk.Box w2.drew w.heap.size #[.int .i64 op,.int .i64 (a:Int),.int .i64 bb,.int .i64 c,.int .u64 (m:Nat)] 112:=h7.box (by simp)
 have k1:=h7.regCell hn a ha
 have k2:=h7.frozenAt (10+n*20+2+a)
 have h8:=h7.reg hn a wd ha
 have HC7:Hid (Cor W w2.drew L qz k _):=h7
 clear h6 h7 HS3 HC KP
 go_wp2_with fail
 refine Dk.zf (S:=fun w'=>Dk.Box w' w.heap.size #[.int .i64 op,.int .i64 (a:Int),.int .i64 bb,.int .i64 c,.int .u64 (m:Nat)] 112) [0,1,2,3,4,5,6,7,8] [9,10,11] (by kernel_rfl) (by kernel_rfl) b7 ?_
 refine Dk.za (v:=.pointer (some ⟨L.b,10+n*20,none⟩)) rfl rfl (fun w' hw'=>by go_simp) ?_
 simp only [zD]
 refine Dk.za (v:=.pointer (some ⟨w.heap.size,1,none⟩)) rfl rfl (fun w' hw'=>by go_simp) ?_
 simp only [zD]
 refine Dk.za (v:=.int .i64 (a:Int)) rfl rfl (fun w' hw'=>by have c:=hw'.cell 1;go_simp) ?_
 simp only [zD]
 refine Dk.za (v:=.int .u64 (wd:Nat)) rfl rfl (fun w' hw'=>by go_simp) ?_
 simp only [zD]
 refine Dk.za (v:=.int .u64 (wd:Nat)) rfl rfl (fun w' hw'=>by go_simp) ?_
 simp only [zD]
 refine Dk.za (v:=.pointer (some ⟨L.b,10+n*20,none⟩)) rfl rfl (fun w' hw'=>by go_simp) ?_
 simp only [zD]
 refine Dk.za (v:=.pointer (some ⟨L.b,10+n*20,none⟩)) rfl rfl (fun w' hw'=>by go_simp) ?_
 simp only [zD]
 refine Dk.za (v:=.pointer (some ⟨L.b,10+n*20+2,none⟩)) rfl rfl (fun w' hw'=>by go_simp) ?_
 simp only [zD]
 refine Dk.za (v:=.pointer (some ⟨L.b,10+n*20+2+a,none⟩)) rfl rfl (fun w' hw'=>by go_simp) ?_
 simp only [zD]
 refine Dk.zk rfl rfl ?_
 refine zag (w':=w2.drew.setCell ⟨L.b,10+n*20+2+a,none⟩ (.int .u64 (wd:Nat))) (by go_simp) ?_
 generalize w2.drew.setCell ⟨L.b,10+n*20+2+a,none⟩ (.int .u64 (wd:Nat))=W8 at *
 refine ⟨h8.box (by simp),?_⟩
 simp only [zD]
 refine Dk.zk rfl rfl ?_
 refine zcm (v:=.pointer (some ⟨W2.heap.size,1,none⟩)) (w':=W8) (by go_simp) ⟨h8.box (by simp),?_⟩
 simp only [zD]
 have b8:Dk.Box W8 W2.heap.size #[.int .u64 (m:Nat),.int .u64 0,.int .i64 0,.int .i64 0,.slice none 0 0,.slice none 0 0] 204:=h8.box (by simp)
 have k3:W8.cell? ⟨W2.heap.size,1,none⟩=some (.int .u64 0):=b8.cell 1
 have k4:=b8.frozen 1
 have h9:Cor W (W8.setCell ⟨W2.heap.size,1,none⟩ (.int .u64 (wd:Nat))) L (qz.setT n ((qz.thr n).reg a wd)) k (bxD W2.heap.size m wd 0 0 (.slice none 0 0) (.slice none 0 0)::Dk.boxOf w.heap.size #[.int .i64 op,.int .i64 (a:Int),.int .i64 bb,.int .i64 c,.int .u64 (m:Nat)] 112::Dk.boxOf W1.heap.size #[.int .u64 0,.int .u64 0,.int .i64 0,.int .i64 0,.slice none 0 0,.slice none 0 0] 204::us):=h8.setBox (o:=1) _
 refine Dk.zk rfl rfl ?_
 refine zag (w':=W8.setCell ⟨W2.heap.size,1,none⟩ (.int .u64 (wd:Nat))) (by go_simp) ?_
 generalize W8.setCell ⟨W2.heap.size,1,none⟩ (.int .u64 (wd:Nat))=W9 at *
 refine ⟨h9.box (by simp),?_⟩
 simp only [zD]
 show NoPanic _ Exit.normal _ _
 refine NoPanic.normal ?_
 first | (rename_i hK;refine hK _ _ ?_;clear hK) | (rename_i hK _;refine hK _ _ ?_;clear hK)
 have K7:=zaw W2.heap.size m wd 0 0 (.slice none 0 0) (.slice none 0 0) h9 false 6
 clear h8 h9 b7 b8 k1 k2 k3 k4 HC7
 go_wp2_with fail
 refine K7.mono ?_
 rintro e w7 ⟨rfl,h7⟩
 have h7':Cor W w7 L (qz.setT n ((qz.thr n).reg a wd)) k (bxD W2.heap.size m wd 0 0 (.slice none 0 0) (.slice none 0 0)::Dk.boxOf w.heap.size #[.int .i64 op,.int .i64 (a:Int),.int .i64 bb,.int .i64 c,.int .u64 (m:Nat)] 112::Dk.boxOf W1.heap.size #[.int .u64 0,.int .u64 0,.int .i64 0,.int .i64 0,.slice none 0 0,.slice none 0 0] 204::us):=h7
 clear K7 h7
 cases pw
 ·have K8:=zci W2.heap.size m wd 0 0 (.slice none 0 0) (.slice none 0 0) pp h7'
  have b7:Dk.Box w7 W2.heap.size #[.int .u64 (m:Nat),.int .u64 (wd:Nat),.int .i64 0,.int .i64 0,.slice none 0 0,.slice none 0 0] 204:=h7'.box (by simp [bxD,dcs])
  have c7:=b7.cell
  have z7:Dk.Box w7 W1.heap.size #[.int .u64 0,.int .u64 0,.int .i64 0,.int .i64 0,.slice none 0 0,.slice none 0 0] 204:=h7'.box (by simp)
  have h8:=(h7'.drop.drop.setRow (cs':=#[.int .u64 (m:Nat),.int .u64 (wd:Nat),.int .i64 0,.int .i64 0,.slice none 0 0,.slice none 0 0]) rfl).drop
  have d0:=(z7.row (cs':=#[.int .u64 (m:Nat),.int .u64 (wd:Nat),.int .i64 0,.int .i64 0,.slice none 0 0,.slice none 0 0])).cell
  have HB:Hid _:=z7
  clear h7' b7 z7
  go_wp2_with (first | (go_at_call 156;refine K8.mono ?_;rintro e w' ⟨rfl,ew⟩;subst w') | (refine wpList_store_row rfl 204 _ _ rfl W1.heap.size #[.int .u64 (m:Nat),.int .u64 (wd:Nat),.int .i64 0,.int .i64 0,.slice none 0 0,.slice none 0 0] rfl rfl 204 _ HB.out.heap sizeDeed rfl (zaf m wd _ _) ?_))
  exact bodyPost_ret (v:=.agg #[.int .u64 (m:Nat),.int .u64 (wd:Nat),.int .i64 0,.int .i64 0,.slice none 0 0,.slice none 0 0]) (by simp [results,Tryz.results130,go_sem,d0]) rfl ⟨none,0,rfl,h8.nil⟩
 ·have K8:=zcu W2.heap.size m wd 0 0 (.slice none 0 0) pp h7'
  clear h7'
  go_wp2_with fail
  refine K8.mono ?_
  rintro e w8 ⟨A8,C8,rfl,h8⟩
  have b8:Dk.Box w8 W2.heap.size #[.int .u64 (m:Nat),.int .u64 (wd:Nat),.int .i64 0,.int .i64 0,.slice none 0 0,.slice A8 1 C8] 204:=h8.box (by simp [bxD,dcs])
  have c8:=b8.cell
  have z8:Dk.Box w8 W1.heap.size #[.int .u64 0,.int .u64 0,.int .i64 0,.int .i64 0,.slice none 0 0,.slice none 0 0] 204:=h8.box (by simp)
  have hA:Cor W w8 L (qz.setT n ((qz.thr n).reg a wd)) k (Dk.boxOf W1.heap.size #[.int .u64 0,.int .u64 0,.int .i64 0,.int .i64 0,.slice none 0 0,.slice none 0 0] 204::Dk.rowOf 147 2 (.slice A8 1 C8) 1 (Dk.prs [(pp,0)])::us):=(h8.drop.swap.drop).swap
  have hB:=(hA.setRow (cs':=#[.int .u64 (m:Nat),.int .u64 (wd:Nat),.int .i64 0,.int .i64 0,.slice none 0 0,.slice A8 1 C8]) rfl).drop
  have d0:=(z8.row (cs':=#[.int .u64 (m:Nat),.int .u64 (wd:Nat),.int .i64 0,.int .i64 0,.slice none 0 0,.slice A8 1 C8])).cell
  have HB:Hid _:=z8
  clear K8 h8 b8 z8 hA
  go_wp2_with (refine wpList_store_row rfl 204 _ _ rfl W1.heap.size #[.int .u64 (m:Nat),.int .u64 (wd:Nat),.int .i64 0,.int .i64 0,.slice none 0 0,.slice A8 1 C8] rfl rfl 204 _ HB.out.heap sizeDeed rfl (zq _ _ _ _ _ _ _ _ _ _) ?_)
  exact bodyPost_ret (v:=.agg #[.int .u64 (m:Nat),.int .u64 (wd:Nat),.int .i64 0,.int .i64 0,.slice none 0 0,.slice A8 1 C8]) (by simp [results,Tryz.results130,go_sem,d0]) rfl ⟨A8,C8,rfl,hB⟩
theorem get_any (h:Cor W w L q k us) (hn:n < 16) (op:Int) (a:Nat) (bb c:Int) (m:Nat) (ha:a < 8) (hm:m < q.tubes.length) (hl:∀ t ∈ q.tubes,t.ws.length≤1000∧t.ps.length≤1000∧t.gs.length≤1000) :
  Calls Tryz.prog 130 #[.pointer (some ⟨L.b,0,none⟩),.int .i64 (n:Int),.pointer (some ⟨L.b,10+n*20,none⟩),.agg #[.int .i64 op,.int .i64 (a:Int),.int .i64 bb,.int .i64 c,.int .u64 (m:Nat)]] w fun e w'=>∃ A C,e=.returned (dval none A 0 C (q.get n ⟨op,a,bb,c,m⟩).2)∧Cor W w' L (q.get n ⟨op,a,bb,c,m⟩).1 k (Dk.rowOf 147 2 (.slice A (q.get n ⟨op,a,bb,c,m⟩).2.woken.length C) (q.get n ⟨op,a,bb,c,m⟩).2.woken.length (Dk.prs (q.get n ⟨op,a,bb,c,m⟩).2.woken)::us):=by
 unfold Dk.Sp.get
 dsimp only
 cases ht:(q.getW n m).2.2.1
 ·simp only [Bool.false_eq_true,if_false]
  refine (get_no h hn op a bb c m ha hm hl ht).mono ?_
  rintro e w' ⟨rfl,h'⟩
  exact ⟨none,0,rfl,h'.nil⟩
 ·simp only [if_true]
  refine (get_yes h hn op a bb c m ha hm hl ht).mono ?_
  rintro e w' ⟨A,C,rfl,h'⟩
  refine ⟨A,C,?_,?_⟩
  ·cases (q.getW n m).2.2.2.2 <;> rfl
  ·cases hp:(q.getW n m).2.2.2.2
   ·rw [hp] at h';exact h'
   ·rw [hp] at h';exact h'
end
end Go.Proofs.YtglhhlfopccmaaaGreat
namespace Dk
theorem Sp.find_ok {q:Sp} {own h:Nat} (h16:q.st.length=16) (e:(q.find own h).2=0):∃ m:Nat,m < 16∧q.find own h=((m:Int),0)∧us q.st m=true∧m≠own:=by
 unfold Sp.find at e ⊢
 split at e
 ·simp at e
 ·rename_i k hk
  split at e
  ·simp at e
  ·rename_i h1
   split at e
   ·simp at e
   ·rename_i h2
    obtain ⟨a,_,b,_⟩:=zbo hk
    rw [if_neg h1,if_neg h2]
    exact ⟨k,by omega,rfl,a,fun e=>h1 (.inl e)⟩
end Dk
namespace Go.Proofs.YtglhhlfopccmaaaGreat
open Go.RowKit Go.Lib
section
variable {W w w' : World} {L : Dk.Loc} {q : Dk.Sp} {k n : Nat} {us us' us1 us2 : List Dk.Thing} {t : Dk.Thing}
theorem zlz (h:Cor W w L q k us) (hk:k≤100000) (h16:q.st.length=16) (n hd:Nat) (hh:hd < 18446744073709551616) :
  Calls Tryz.prog 126 #[.pointer (some ⟨L.b,0,none⟩),.int .i64 (n:Int),.int .u64 (hd:Nat)] w fun e w'=>e=.returned (dval none none 0 0 (q.detach n hd).2)∧Cor W w' L (q.detach n hd).1 k us:=by
 obtain ⟨W1,e1⟩:∃ W1,W1=w.alloc (.cells dnil 204):=⟨_,rfl⟩
 have h1:=h.newBox e1
 have K:=zec h1 hk h16 n hd hh
 have H1:Hid _:=e1.symm
 unfold Dk.Sp.detach
 dsimp only
 by_cases h0:(q.find n hd).2=0
 ·obtain ⟨m,hm,ef,hu,hne⟩:=Dk.Sp.find_ok h16 h0
  rw [ef] at K ⊢
  dsimp only
  rw [if_pos rfl]
  simp only [Int.toNat_natCast] at *
  have i1:(m:Int) < 16:=by omega
  have i2:(0:Int)≤(m:Int):=by omega
  have d10:W1.cell? ⟨L.b,10+m*20+10,none⟩=some (.int .i64 (q.thr m).why):=h1.cellAt hm 10 (by omega)
  by_cases hw:(q.thr m).why=9
  ·rw [if_pos hw]
   rw [hw] at d10
   have K2:=zed h1 hk m
   clear h h1 e1 ef h0 hu hne
   go_enter Tryz.func126,Tryz.ntmps126
   go_wp2_with (first | (rw [H1.out];clear H1) | (go_at_call 152;refine K.mono ?_;rintro e w' ⟨rfl,ew⟩;subst w'))
   refine K2.mono ?_
   rintro e w2 ⟨rfl,h2⟩
   have z2:Dk.Box w2 w.heap.size dnil 204:=h2.box (by simp)
   have h3:=(h2.setRow (cs':=#[.int .u64 (hd:Nat),.int .u64 0,.int .i64 0,.int .i64 0,.slice none 0 0,.slice none 0 0]) rfl).drop
   have d0:=(z2.row (cs':=#[.int .u64 (hd:Nat),.int .u64 0,.int .i64 0,.int .i64 0,.slice none 0 0,.slice none 0 0])).cell
   have HB:Hid _:=z2
   clear K K2 h2 z2 d10
   go_wp2_with (refine wpList_store_row rfl 204 _ _ rfl w.heap.size #[.int .u64 (hd:Nat),.int .u64 0,.int .i64 0,.int .i64 0,.slice none 0 0,.slice none 0 0] rfl rfl 204 _ HB.out.heap sizeDeed rfl (zaf hd 0 _ _) ?_)
   exact bodyPost_ret (v:=.agg #[.int .u64 (hd:Nat),.int .u64 0,.int .i64 0,.int .i64 0,.slice none 0 0,.slice none 0 0]) (by simp [results,Tryz.results126,go_sem,d0]) rfl ⟨rfl,h3⟩
  ·rw [if_neg hw]
   obtain ⟨W2,e2⟩:∃ W2,W2=W1.setCell ⟨L.b,10+m*20+17,none⟩ (.bool true):=⟨_,rfl⟩
   have c17:W1.cell? ⟨L.b,10+m*20+17,none⟩=some (.bool (q.thr m).det):=h1.cellAt hm 17 (by omega)
   have f17:=h1.frozenAt (10+m*20+17)
   have h2:=h1.setT hm 17 (by omega) { q.thr m with det:=true } (.bool true) rfl
   rw [← e2] at h2
   have z2:Dk.Box W2 w.heap.size dnil 204:=h2.box (by simp)
   have h3:=(h2.setRow (cs':=#[.int .u64 (hd:Nat),.int .u64 0,.int .i64 0,.int .i64 0,.slice none 0 0,.slice none 0 0]) rfl).drop
   have d0:=(z2.row (cs':=#[.int .u64 (hd:Nat),.int .u64 0,.int .i64 0,.int .i64 0,.slice none 0 0,.slice none 0 0])).cell
   have HB:Hid _:=z2
   have H2:Hid _:=e2.symm
   generalize q.setT m { q.thr m with det:=true }=qz at *
   generalize (q.thr m).why=wy at *
   clear h h1 h2 e1 e2 z2 ef h0 hu hne
   go_enter Tryz.func126,Tryz.ntmps126
   go_wp2_with (first | (rw [H1.out];clear H1) | (go_at_call 152;refine K.mono ?_;rintro e w' ⟨rfl,ew⟩;subst w') | (rw [H2.out];clear H2) | (refine wpList_store_row rfl 204 _ _ rfl w.heap.size #[.int .u64 (hd:Nat),.int .u64 0,.int .i64 0,.int .i64 0,.slice none 0 0,.slice none 0 0] rfl rfl 204 _ HB.out.heap sizeDeed rfl (zaf hd 0 _ _) ?_))
   exact bodyPost_ret (v:=.agg #[.int .u64 (hd:Nat),.int .u64 0,.int .i64 0,.int .i64 0,.slice none 0 0,.slice none 0 0]) (by simp [results,Tryz.results126,go_sem,d0]) rfl ⟨rfl,h3⟩
 ·rw [if_neg h0]
  have z1:Dk.Box W1 w.heap.size dnil 204:=h1.box (by simp)
  generalize (q.find n hd).2=r at *
  generalize (q.find n hd).1=rm at *
  have y1:(r != 0)=true:=by simpa using h0
  have h3:=(h1.setRow (cs':=#[.int .u64 (hd:Nat),.int .u64 0,.int .i64 r,.int .i64 0,.slice none 0 0,.slice none 0 0]) rfl).drop
  have d0:=(z1.row (cs':=#[.int .u64 (hd:Nat),.int .u64 0,.int .i64 r,.int .i64 0,.slice none 0 0,.slice none 0 0])).cell
  have HB:Hid _:=z1
  clear h h1 e1 z1
  go_enter Tryz.func126,Tryz.ntmps126
  go_wp2_with (first | (rw [H1.out];clear H1) | (go_at_call 152;refine K.mono ?_;rintro e w' ⟨rfl,ew⟩;subst w') | (refine wpList_store_row rfl 204 _ _ rfl w.heap.size #[.int .u64 (hd:Nat),.int .u64 0,.int .i64 r,.int .i64 0,.slice none 0 0,.slice none 0 0] rfl rfl 204 _ HB.out.heap sizeDeed rfl (zaf hd 0 _ _) ?_))
  exact bodyPost_ret (v:=.agg #[.int .u64 (hd:Nat),.int .u64 0,.int .i64 r,.int .i64 0,.slice none 0 0,.slice none 0 0]) (by simp [results,Tryz.results126,go_sem,d0]) rfl ⟨rfl,h3⟩
end
end Go.Proofs.YtglhhlfopccmaaaGreat
