import Derived.Test.YtglhhlfopccmaaaGreatOw38
set_option linter.unusedSimpArgs false
set_option linter.unusedVariables false
set_option linter.unnecessarySimpa false
set_option maxHeartbeats 8000000
set_option maxRecDepth 100000
namespace Go.Proofs.YtglhhlfopccmaaaGreat
open Go.RowKit Go.Lib
section
variable {W w w' : World} {L : Dk.Loc} {q : Dk.Sp} {k n : Nat} {us us' us1 us2 : List Dk.Thing} {t : Dk.Thing}
theorem zpk (h:Cor W w L q k us) (hk:k≤100000) (hn:n < 16) (op:Int) (a b:Nat) (c:Int) (nn:Nat) (ha:a < 8) (hb:b < 8) (hf:(q.thr n).f.ok) (hi:(⟨op,a,b,c,nn⟩:Dk.Ins).ok) (hm:q.mem.length≤1000) (hx:Dk.faultB (q.thr n).f ⟨op,a,b,c,nn⟩ q.mem.length=true) (hc:Dk.codeB ⟨op,a,b,c,nn⟩=true) (hs:op=18∨op=19) (hl:q.recs.length≤70000) (hr:q.RegsOk) (hin:∀ m,Dk.InR (q.thr m).joiner) :
  Calls Tryz.prog 66 #[.pointer (some ⟨L.b,0,none⟩),.int .i64 (n:Int),.agg #[.int .i64 op,.int .i64 (a:Int),.int .i64 (b:Int),.int .i64 c,.int .u64 (nn:Nat)]] w fun e w'=>∃ A C,e=.returned (eff A ((q.tell n (Dk.Sp.access ⟨op,a,b,c,nn⟩ (q.thr n).f Dk.Frm.zero 6)).fin n 18446744073709551615).2.woken.length C false true false)∧Cor W w' L ((q.tell n (Dk.Sp.access ⟨op,a,b,c,nn⟩ (q.thr n).f Dk.Frm.zero 6)).fin n 18446744073709551615).1 k (Dk.rowOf 3 1 (.slice A ((q.tell n (Dk.Sp.access ⟨op,a,b,c,nn⟩ (q.thr n).f Dk.Frm.zero 6)).fin n 18446744073709551615).2.woken.length C) ((q.tell n (Dk.Sp.access ⟨op,a,b,c,nn⟩ (q.thr n).f Dk.Frm.zero 6)).fin n 18446744073709551615).2.woken.length (Dk.is ((q.tell n (Dk.Sp.access ⟨op,a,b,c,nn⟩ (q.thr n).f Dk.Frm.zero 6)).fin n 18446744073709551615).2.woken)::us):=by
 obtain ⟨W1,e1⟩:∃ W1,W1=w.alloc (.cells #[.int .i64 op,.int .i64 (a:Int),.int .i64 (b:Int),.int .i64 c,.int .u64 (nn:Nat)] 112):=⟨_,rfl⟩
 obtain ⟨W2,e2⟩:∃ W2,W2=W1.alloc (.cells #[.slice none 0 0,.bool false,.bool false,.bool false] 68):=⟨_,rfl⟩
 have z1:W1.heap.size=w.heap.size+1:=by rw [e1,World.size_alloc]
 have h2:=((h.newBox e1).newBox e2).swap
 have hd:=h2.below (Dk.zh (Below.refl _ _))
 obtain ⟨mA,mC,c8d,hrow⟩:=hd.memAt
 have KP:∀ w1 us',Cor W w1 L q k us'→w1.cell? ⟨L.b,8,none⟩=some (.slice mA q.mem.length mC)→Calls Tryz.prog 94 #[Dk.fv (q.thr n).f,.agg #[.int .i64 op,.int .i64 (a:Int),.int .i64 (b:Int),.int .i64 c,.int .u64 (nn:Nat)],.slice mA q.mem.length mC] w1 fun e w'=>e=.returned (.tuple #[Dk.fv Dk.Frm.zero,.slice none 0 0,.int .i64 6])∧Cor W w' L q k us'∧w'.cell? ⟨L.b,8,none⟩=some (.slice mA q.mem.length mC):=fun w1 us' h1 c1=>zjz h1 mA mC c1 _ ⟨op,a,b,c,nn⟩ hi hc hx hm
 have hmw:∀ x ∈ Dk.doneM (q.thr n).f ⟨op,a,b,c,nn⟩ q.mem,x < 2 ^ 64:=zeb hf h.words
 have hml:(Dk.doneM (q.thr n).f ⟨op,a,b,c,nn⟩ q.mem).length=q.mem.length:=Dk.zb4 _ _ _
 have MK:∀ w' us',Cor W w' L q k us'→(w'.cell? ⟨L.b,10+n*20,none⟩=some (.int .i64 (q.thr n).f.fn)∧w'.cell? ⟨L.b,10+n*20+1,none⟩=some (.int .i64 (q.thr n).f.pc)∧w'.cell? ⟨L.b,10+n*20+2,none⟩=some (.int .u64 ((q.thr n).f.r 0:Nat))∧w'.cell? ⟨L.b,10+n*20+3,none⟩=some (.int .u64 ((q.thr n).f.r 1:Nat))∧w'.cell? ⟨L.b,10+n*20+4,none⟩=some (.int .u64 ((q.thr n).f.r 2:Nat))∧w'.cell? ⟨L.b,10+n*20+5,none⟩=some (.int .u64 ((q.thr n).f.r 3:Nat))∧w'.cell? ⟨L.b,10+n*20+6,none⟩=some (.int .u64 ((q.thr n).f.r 4:Nat))∧w'.cell? ⟨L.b,10+n*20+7,none⟩=some (.int .u64 ((q.thr n).f.r 5:Nat))∧w'.cell? ⟨L.b,10+n*20+8,none⟩=some (.int .u64 ((q.thr n).f.r 6:Nat))∧w'.cell? ⟨L.b,10+n*20+9,none⟩=some (.int .u64 ((q.thr n).f.r 7:Nat))):=fun w' us' h'=>⟨h'.cellAt hn 0 (by omega),h'.cellAt hn 1 (by omega),h'.cellAt hn 2 (by omega),h'.cellAt hn 3 (by omega),h'.cellAt hn 4 (by omega),h'.cellAt hn 5 (by omega),h'.cellAt hn 6 (by omega),h'.cellAt hn 7 (by omega),h'.cellAt hn 8 (by omega),h'.cellAt hn 9 (by omega)⟩
 have KS:∀ w,Calls Tryz.prog 95 #[.int .i64 op] w fun e w'=>e=.returned (.bool true)∧w'=w:=fun w=>by
  have:=zhl op w
  have hsb:Dk.seenB op=true:=by rcases hs with rfl | rfl <;> rfl
  rw [hsb] at this
  exact this
 have KA:=fun w=>zfy op a b c nn ha hb (q.thr n).f Dk.Frm.zero 6 w
 have MK2:∀ w' us',Cor W w' L (q.tell n (Dk.Sp.access ⟨op,a,b,c,nn⟩ (q.thr n).f Dk.Frm.zero 6)) k us'→(w'.cell? ⟨L.b,10+n*20,none⟩=some (.int .i64 (q.thr n).f.fn)∧w'.cell? ⟨L.b,10+n*20+1,none⟩=some (.int .i64 (q.thr n).f.pc)∧w'.cell? ⟨L.b,10+n*20+2,none⟩=some (.int .u64 ((q.thr n).f.r 0:Nat))∧w'.cell? ⟨L.b,10+n*20+3,none⟩=some (.int .u64 ((q.thr n).f.r 1:Nat))∧w'.cell? ⟨L.b,10+n*20+4,none⟩=some (.int .u64 ((q.thr n).f.r 2:Nat))∧w'.cell? ⟨L.b,10+n*20+5,none⟩=some (.int .u64 ((q.thr n).f.r 3:Nat))∧w'.cell? ⟨L.b,10+n*20+6,none⟩=some (.int .u64 ((q.thr n).f.r 4:Nat))∧w'.cell? ⟨L.b,10+n*20+7,none⟩=some (.int .u64 ((q.thr n).f.r 5:Nat))∧w'.cell? ⟨L.b,10+n*20+8,none⟩=some (.int .u64 ((q.thr n).f.r 6:Nat))∧w'.cell? ⟨L.b,10+n*20+9,none⟩=some (.int .u64 ((q.thr n).f.r 7:Nat))):=fun w' us' h'=>⟨h'.cellAt hn 0 (by omega),h'.cellAt hn 1 (by omega),h'.cellAt hn 2 (by omega),h'.cellAt hn 3 (by omega),h'.cellAt hn 4 (by omega),h'.cellAt hn 5 (by omega),h'.cellAt hn 6 (by omega),h'.cellAt hn 7 (by omega),h'.cellAt hn 8 (by omega),h'.cellAt hn 9 (by omega)⟩
 have KF:∀ w1 us',Cor W w1 L (q.tell n (Dk.Sp.access ⟨op,a,b,c,nn⟩ (q.thr n).f Dk.Frm.zero 6)) k us'→Calls Tryz.prog 93 #[.pointer (some ⟨L.b,0,none⟩),.int .i64 (n:Int),.int .u64 18446744073709551615] w1 fun e w'=>∃ A C,e=.returned (eff A ((q.tell n (Dk.Sp.access ⟨op,a,b,c,nn⟩ (q.thr n).f Dk.Frm.zero 6)).fin n 18446744073709551615).2.woken.length C false true false)∧Cor W w' L ((q.tell n (Dk.Sp.access ⟨op,a,b,c,nn⟩ (q.thr n).f Dk.Frm.zero 6)).fin n 18446744073709551615).1 k (Dk.rowOf 3 1 (.slice A ((q.tell n (Dk.Sp.access ⟨op,a,b,c,nn⟩ (q.thr n).f Dk.Frm.zero 6)).fin n 18446744073709551615).2.woken.length C) ((q.tell n (Dk.Sp.access ⟨op,a,b,c,nn⟩ (q.thr n).f Dk.Frm.zero 6)).fin n 18446744073709551615).2.woken.length (Dk.is ((q.tell n (Dk.Sp.access ⟨op,a,b,c,nn⟩ (q.thr n).f Dk.Frm.zero 6)).fin n 18446744073709551615).2.woken)::us'):=fun w1 us' h1=>zor h1 hk hn 18446744073709551615 hr hin (by show (q.recs++[_]).length≤_;rw [List.length_append];simp;omega)
 have KT:∀ w1 us',Cor W w1 L q k us'→Calls Tryz.prog 92 #[.pointer (some ⟨L.b,0,none⟩),.int .i64 (n:Int),recv (Dk.Sp.access ⟨op,a,b,c,nn⟩ (q.thr n).f Dk.Frm.zero 6)] w1 fun e w'=>e=.returned (.tuple #[])∧Cor W w' L (q.tell n (Dk.Sp.access ⟨op,a,b,c,nn⟩ (q.thr n).f Dk.Frm.zero 6)) k us':=fun w1 us' h1=>zct h1 hk n _ (by omega)
 generalize eF2:((q.tell n (Dk.Sp.access ⟨op,a,b,c,nn⟩ (q.thr n).f Dk.Frm.zero 6)).fin n 18446744073709551615).2.woken=wk at *
 generalize ((q.tell n (Dk.Sp.access ⟨op,a,b,c,nn⟩ (q.thr n).f Dk.Frm.zero 6)).fin n 18446744073709551615).1=qe at *
 generalize (q.tell n (Dk.Sp.access ⟨op,a,b,c,nn⟩ (q.thr n).f Dk.Frm.zero 6))=qt at *
 generalize (q.thr n).f=f at *
 generalize Dk.Sp.access ⟨op,a,b,c,nn⟩ f Dk.Frm.zero 6=rc at *
 have i1:(n:Int) < 16:=by omega
 have i2:(0:Int)≤(n:Int):=by omega
 have H1:Hid _:=e1.symm
 have H2:Hid _:=e2.symm
 clear h h2 e1 e2 z1 hrow hml hx hc hs hi hf eF2 hmw
 go_enter Tryz.func66,Tryz.ntmps66
 go_upto_region 2 with (first | (rw [H1.out];clear H1) | (rw [H2.out];clear H2))
 go_cut [8,9,10] from 16 to 57 (fun v8 v9 v10 w'=>∃ bx,v8=.pointer (some ⟨bx,0,none⟩)∧v9=.slice none 0 0∧v10=.int .i64 6∧Cor W w' L q k (Dk.boxOf bx (Dk.fc Dk.Frm.zero) 110::Dk.boxOf w.heap.size #[.int .i64 op,.int .i64 (a:Int),.int .i64 (b:Int),.int .i64 c,.int .u64 (nn:Nat)] 112::Dk.boxOf W1.heap.size #[.slice none 0 0,.bool false,.bool false,.bool false] 68::us))
 case first=>
  refine Dk.zd (S:=fun w'=>Cor W w' L q k (Dk.boxOf w.heap.size #[.int .i64 op,.int .i64 (a:Int),.int .i64 (b:Int),.int .i64 c,.int .u64 (nn:Nat)] 112::Dk.boxOf W1.heap.size #[.slice none 0 0,.bool false,.bool false,.bool false] 68::us)∧w'.cell? ⟨L.b,8,none⟩=some (.slice mA q.mem.length mC)) [] [0,1,2,3,4,5,6,7,8] [9,10,11,12,13,15,16,17] 9 (by kernel_rfl) (by kernel_rfl) (by kernel_rfl) (by kernel_rfl) rfl ⟨hd,c8d⟩ _ ?_ (fun a' h=>h)
  refine Dk.za (v:=.pointer (some ⟨L.b,10+n*20,none⟩)) rfl rfl (fun w' hw'=>by go_simp) ?_
  simp only [zD]
  refine Dk.za (v:=.pointer (some ⟨L.b,10+n*20,none⟩)) rfl rfl (fun w' hw'=>by go_simp) ?_
  simp only [zD]
  refine Dk.za (v:=.pointer (some ⟨L.b,10+n*20,none⟩)) rfl rfl (fun w' hw'=>by go_simp) ?_
  simp only [zD]
  refine Dk.za (v:=Dk.fv f) rfl rfl (fun w' hw'=>by obtain ⟨c0,c1,c2,c3,c4,c5,c6,c7,c8,c9⟩:=MK _ _ hw'.1;go_simp) ?_
  simp only [zD]
  refine Dk.za (v:=.agg #[.int .i64 op,.int .i64 (a:Int),.int .i64 (b:Int),.int .i64 c,.int .u64 (nn:Nat)]) rfl rfl (fun w' hw'=>by have cb:=(hw'.1.box (a:=w.heap.size) (cs:=#[.int .i64 op,.int .i64 (a:Int),.int .i64 (b:Int),.int .i64 c,.int .u64 (nn:Nat)]) (e:=112) (by simp)).cell;go_simp) ?_
  simp only [zD]
  refine Dk.za (v:=.pointer (some ⟨L.b,0,none⟩)) rfl rfl (fun w' hw'=>by go_simp) ?_
  simp only [zD]
  refine Dk.za (v:=.pointer (some ⟨L.b,0,none⟩)) rfl rfl (fun w' hw'=>by go_simp) ?_
  simp only [zD]
  refine Dk.za (v:=.pointer (some ⟨L.b,8,none⟩)) rfl rfl (fun w' hw'=>by go_simp) ?_
  simp only [zD]
  refine Dk.za (v:=.slice mA q.mem.length mC) rfl rfl (fun w' hw'=>by have c8:=hw'.2;go_simp) ?_
  simp only [zD]
  generalize W2.drew=WD at *
  refine Dk.treeY (rs:=[9,14]) (by kernel_rfl) (by simp) ?_
  intro i hi
  simp only [List.mem_cons,List.not_mem_nil,or_false] at hi
  rcases hi with rfl | rfl
  ·refine Dk.zm (some 26) rfl rfl rfl (f:=94) (args:=#[Dk.fv f,.agg #[.int .i64 op,.int .i64 (a:Int),.int .i64 (b:Int),.int .i64 c,.int .u64 (nn:Nat)],.slice mA q.mem.length mC]) (by go_simp) ?_
   refine (KP _ _ hd c8d).mono ?_
   rintro e w2 ⟨rfl,h2,c2⟩
   refine ⟨_,rfl,fun h=>absurd (by decide) h,?_⟩
   simp only [zD]
   refine Dk.zo (by kernel_rfl) (fun c a w h=>h) _ 4 _ [10,11,12,13] _ _ (by kernel_rfl) ?_ (fun a' h=>h)
   refine Dk.za (v:=.tuple #[Dk.fv Dk.Frm.zero,.slice none 0 0,.int .i64 6]) rfl rfl (fun w' hw'=>by go_simp) ?_
   simp only [zD]
   refine Dk.za (v:=Dk.fv Dk.Frm.zero) rfl rfl (fun w' hw'=>by go_simp) ?_
   simp only [zD]
   refine Dk.za (v:=.slice none 0 0) rfl rfl (fun w' hw'=>by go_simp) ?_
   simp only [zD]
   refine Dk.za (v:=.int .i64 6) rfl rfl (fun w' hw'=>by go_simp) ?_
   simp only [zD]
   refine Dk.treeY (rs:=[14]) (by kernel_rfl) (by simp) ?_
   intro i hi
   simp only [List.mem_cons,List.not_mem_nil,or_false] at hi
   subst hi
   obtain ⟨w3,ew3⟩:∃ w3,w3=w2.alloc (.cells #[.int .i64 0,.int .i64 0,.int .u64 0,.int .u64 0,.int .u64 0,.int .u64 0,.int .u64 0,.int .u64 0,.int .u64 0,.int .u64 0] 110):=⟨_,rfl⟩
   refine Dk.ze (v:=.pointer (some ⟨w2.heap.size,0,none⟩)) (w':=w3) (some 8) rfl rfl rfl (by rw [ew3];go_simp) ⟨fun _=>⟨(h2.newBox ew3).drop,by rw [ew3];exact Lib.cell?_alloc_some _ c2⟩,?_⟩
   simp only [zD]
   have q3:=h2.newBox ew3
   refine Dk.zl [15,16,17] _ _ _ (by kernel_rfl) ?_
   refine Dk.zr rfl rfl ?_
   have HB:Dk.Box w3 (w2.heap.size) #[.int .i64 0,.int .i64 0,.int .u64 0,.int .u64 0,.int .u64 0,.int .u64 0,.int .u64 0,.int .u64 0,.int .u64 0,.int .u64 0] 110:=q3.box (by simp)
   refine wp_store_row 110 _ _ rfl w2.heap.size (Dk.fc Dk.Frm.zero) rfl rfl 110 _ HB.heap zai rfl (Dk.zah _) ⟨fun h=>absurd (by decide) h,?_⟩
   simp only [zD]
   refine Dk.zj (v:=.slice none 0 0) (w':=w3.setRow w2.heap.size (Dk.fc Dk.Frm.zero)) (some 9) rfl rfl rfl (by go_simp) (fun h=>absurd (by decide) h) ?_
   simp only [zD]
   refine Dk.zj (v:=.int .i64 6) (w':=w3.setRow w2.heap.size (Dk.fc Dk.Frm.zero)) (some 10) rfl rfl rfl (by go_simp) (fun h=>absurd (by decide) h) ?_
   simp only [zD]
   show NoPanic _ Exit.normal _ _
   refine NoPanic.normal ?_
   rename_i hK
   refine hK _ _ ?_
   go_meet
   exact ⟨w2.heap.size,rfl,rfl,rfl,q3.setRow rfl⟩
  ·obtain ⟨w3,ew3⟩:∃ w3,w3=WD.alloc (.cells #[.int .i64 0,.int .i64 0,.int .u64 0,.int .u64 0,.int .u64 0,.int .u64 0,.int .u64 0,.int .u64 0,.int .u64 0,.int .u64 0] 110):=⟨_,rfl⟩
   refine Dk.ze (v:=.pointer (some ⟨WD.heap.size,0,none⟩)) (w':=w3) (some 8) rfl rfl rfl (by rw [ew3];go_simp) ⟨fun _=>⟨(hd.newBox ew3).drop,by rw [ew3];exact Lib.cell?_alloc_some _ c8d⟩,?_⟩
   simp only [zD]
   have q3:=hd.newBox ew3
   have c83:w3.cell? ⟨L.b,8,none⟩=some (.slice mA q.mem.length mC):=by rw [ew3];exact Lib.cell?_alloc_some _ c8d
   refine Dk.treeY (rs:=[9]) (by kernel_rfl) (by simp) ?_
   intro i hi
   simp only [List.mem_cons,List.not_mem_nil,or_false] at hi
   subst hi
   refine Dk.zm (some 26) rfl rfl rfl (f:=94) (args:=#[Dk.fv f,.agg #[.int .i64 op,.int .i64 (a:Int),.int .i64 (b:Int),.int .i64 c,.int .u64 (nn:Nat)],.slice mA q.mem.length mC]) (by go_simp) ?_
   refine (KP _ _ q3 c83).mono ?_
   rintro e w2 ⟨rfl,q2,c2⟩
   refine ⟨_,rfl,fun h=>absurd (by decide) h,?_⟩
   simp only [zD]
   refine Dk.zo (by kernel_rfl) (fun c a w h=>h) _ 3 _ [10,11,12,13] _ _ (by kernel_rfl) ?_ (fun a' h=>h)
   refine Dk.za (v:=.tuple #[Dk.fv Dk.Frm.zero,.slice none 0 0,.int .i64 6]) rfl rfl (fun w' hw'=>by go_simp) ?_
   simp only [zD]
   refine Dk.za (v:=Dk.fv Dk.Frm.zero) rfl rfl (fun w' hw'=>by go_simp) ?_
   simp only [zD]
   refine Dk.za (v:=.slice none 0 0) rfl rfl (fun w' hw'=>by go_simp) ?_
   simp only [zD]
   refine Dk.za (v:=.int .i64 6) rfl rfl (fun w' hw'=>by go_simp) ?_
   simp only [zD]
   refine Dk.zl [15,16,17] _ _ _ (by kernel_rfl) ?_
   refine Dk.zr rfl rfl ?_
   have HB:Dk.Box w2 (WD.heap.size) #[.int .i64 0,.int .i64 0,.int .u64 0,.int .u64 0,.int .u64 0,.int .u64 0,.int .u64 0,.int .u64 0,.int .u64 0,.int .u64 0] 110:=q2.box (by simp)
   refine wp_store_row 110 _ _ rfl WD.heap.size (Dk.fc Dk.Frm.zero) rfl rfl 110 _ HB.heap zai rfl (Dk.zah _) ⟨fun h=>absurd (by decide) h,?_⟩
   simp only [zD]
   refine Dk.zj (v:=.slice none 0 0) (w':=w2.setRow WD.heap.size (Dk.fc Dk.Frm.zero)) (some 9) rfl rfl rfl (by go_simp) (fun h=>absurd (by decide) h) ?_
   simp only [zD]
   refine Dk.zj (v:=.int .i64 6) (w':=w2.setRow WD.heap.size (Dk.fc Dk.Frm.zero)) (some 10) rfl rfl rfl (by go_simp) (fun h=>absurd (by decide) h) ?_
   simp only [zD]
   show NoPanic _ Exit.normal _ _
   refine NoPanic.normal ?_
   rename_i hK
   refine hK _ _ ?_
   go_meet
   exact ⟨WD.heap.size,rfl,rfl,rfl,q2.setRow rfl⟩
 case rest=>
  obtain ⟨bx,rfl,rfl,rfl,hC⟩:=hcut
  have ci:=(hC.box (a:=w.heap.size) (cs:=#[.int .i64 op,.int .i64 (a:Int),.int .i64 (b:Int),.int .i64 c,.int .u64 (nn:Nat)]) (e:=112) (by simp)).cell
  have hC2:=hC.below (Dk.zh (Below.refl _ _))
  have S0:Dk.Box wc.drew w.heap.size #[.int .i64 op,.int .i64 (a:Int),.int .i64 (b:Int),.int .i64 c,.int .u64 (nn:Nat)] 112∧Dk.Box wc.drew bx (Dk.fc Dk.Frm.zero) 110∧(wc.drew.cell? ⟨L.b,10+n*20,none⟩=some (.int .i64 f.fn)∧wc.drew.cell? ⟨L.b,10+n*20+1,none⟩=some (.int .i64 f.pc)∧wc.drew.cell? ⟨L.b,10+n*20+2,none⟩=some (.int .u64 (f.r 0:Nat))∧wc.drew.cell? ⟨L.b,10+n*20+3,none⟩=some (.int .u64 (f.r 1:Nat))∧wc.drew.cell? ⟨L.b,10+n*20+4,none⟩=some (.int .u64 (f.r 2:Nat))∧wc.drew.cell? ⟨L.b,10+n*20+5,none⟩=some (.int .u64 (f.r 3:Nat))∧wc.drew.cell? ⟨L.b,10+n*20+6,none⟩=some (.int .u64 (f.r 4:Nat))∧wc.drew.cell? ⟨L.b,10+n*20+7,none⟩=some (.int .u64 (f.r 5:Nat))∧wc.drew.cell? ⟨L.b,10+n*20+8,none⟩=some (.int .u64 (f.r 6:Nat))∧wc.drew.cell? ⟨L.b,10+n*20+9,none⟩=some (.int .u64 (f.r 7:Nat))):=⟨hC2.box (by simp),hC2.box (by simp),MK _ _ hC2⟩
  have HS0:Hid _:=S0
  have HC:Hid (Cor W wc.drew L q k _):=hC2
  clear S0 hC hC2 KP hd c8d
  go_wp2_with (go_at_call 95;refine (KS _).mono ?_;rintro e w' ⟨rfl,ew⟩;subst w')
  refine Dk.zf (S:=fun w'=>Dk.Box w' w.heap.size #[.int .i64 op,.int .i64 (a:Int),.int .i64 (b:Int),.int .i64 c,.int .u64 (nn:Nat)] 112∧Dk.Box w' bx (Dk.fc Dk.Frm.zero) 110∧(w'.cell? ⟨L.b,10+n*20,none⟩=some (.int .i64 f.fn)∧w'.cell? ⟨L.b,10+n*20+1,none⟩=some (.int .i64 f.pc)∧w'.cell? ⟨L.b,10+n*20+2,none⟩=some (.int .u64 (f.r 0:Nat))∧w'.cell? ⟨L.b,10+n*20+3,none⟩=some (.int .u64 (f.r 1:Nat))∧w'.cell? ⟨L.b,10+n*20+4,none⟩=some (.int .u64 (f.r 2:Nat))∧w'.cell? ⟨L.b,10+n*20+5,none⟩=some (.int .u64 (f.r 3:Nat))∧w'.cell? ⟨L.b,10+n*20+6,none⟩=some (.int .u64 (f.r 4:Nat))∧w'.cell? ⟨L.b,10+n*20+7,none⟩=some (.int .u64 (f.r 5:Nat))∧w'.cell? ⟨L.b,10+n*20+8,none⟩=some (.int .u64 (f.r 6:Nat))∧w'.cell? ⟨L.b,10+n*20+9,none⟩=some (.int .u64 (f.r 7:Nat)))) [0,1,2,3,4,5,6,7,8] [9,10] (by kernel_rfl) (by kernel_rfl) HS0.out ?_
  refine Dk.za (v:=.pointer (some ⟨L.b,0,none⟩)) rfl rfl (fun w' hw'=>by go_simp) ?_
  simp only [zD]
  refine Dk.za (v:=.int .i64 (n:Int)) rfl rfl (fun w' hw'=>by go_simp) ?_
  simp only [zD]
  refine Dk.za (v:=.agg #[.int .i64 op,.int .i64 (a:Int),.int .i64 (b:Int),.int .i64 c,.int .u64 (nn:Nat)]) rfl rfl (fun w' hw'=>by have cb:=hw'.1.cell;go_simp) ?_
  simp only [zD]
  refine Dk.za (v:=.pointer (some ⟨L.b,10+n*20,none⟩)) rfl rfl (fun w' hw'=>by go_simp) ?_
  simp only [zD]
  refine Dk.za (v:=.pointer (some ⟨L.b,10+n*20,none⟩)) rfl rfl (fun w' hw'=>by go_simp) ?_
  simp only [zD]
  refine Dk.za (v:=.pointer (some ⟨L.b,10+n*20,none⟩)) rfl rfl (fun w' hw'=>by go_simp) ?_
  simp only [zD]
  refine Dk.za (v:=Dk.fv f) rfl rfl (fun w' hw'=>by obtain ⟨c0,c1,c2,c3,c4,c5,c6,c7,c8,c9⟩:=hw'.2.2;go_simp) ?_
  simp only [zD]
  refine Dk.za (v:=Dk.fv Dk.Frm.zero) rfl rfl (fun w' hw'=>by have cb:=hw'.2.1.cell;go_simp) ?_
  simp only [zD]
  refine Dk.za (v:=.int .i64 6) rfl rfl (fun w' hw'=>by go_simp) ?_
  simp only [zD]
  refine Dk.zax (f:=96) (args:=#[.agg #[.int .i64 op,.int .i64 (a:Int),.int .i64 (b:Int),.int .i64 c,.int .u64 (nn:Nat)],Dk.fv f,Dk.fv Dk.Frm.zero,.int .i64 6]) rfl rfl (by go_simp) ?_
  refine (KA _).mono ?_
  rintro e w5 ⟨rfl,u5⟩
  have h5:=HC.out.below u5
  refine ⟨_,rfl,⟨h5.box (by simp),h5.box (by simp),MK _ _ h5⟩,?_⟩
  simp only [zD]
  refine Dk.zax (f:=92) (args:=#[.pointer (some ⟨L.b,0,none⟩),.int .i64 (n:Int),recv rc]) rfl rfl (by go_simp) ?_
  refine (KT _ _ h5).mono ?_
  rintro e w6 ⟨rfl,h6⟩
  refine ⟨_,rfl,⟨h6.box (by simp),h6.box (by simp),MK2 _ _ h6⟩,?_⟩
  simp only [zD]
  show NoPanic _ Exit.normal _ _
  refine NoPanic.normal ?_
  first | (rename_i hK;refine hK _ _ ?_;clear hK) | (rename_i hK _;refine hK _ _ ?_;clear hK)
  clear KA KT h5 HC HS0 MK MK2 ci
  have K6:=KF _ _ h6
  clear KF h6
  go_wp2_with fail
  refine K6.mono ?_
  rintro e w7 ⟨A7,C7,rfl,h7⟩
  have h8:=h7.swap.drop
  have h9:Cor W w7 L qe k (Dk.rowOf 3 1 (.slice A7 wk.length C7) wk.length (Dk.is wk)::Dk.boxOf W1.heap.size #[.slice none 0 0,.bool false,.bool false,.bool false] 68::us):=h7.map fun ts s=>s.sub (((((List.sublist_cons_self _ _).trans (List.sublist_cons_self _ _)).cons_cons _)).append_right ts)
  have hA:=h9.swap
  have b9:Dk.Box w7 W1.heap.size #[.slice none 0 0,.bool false,.bool false,.bool false] 68:=hA.box (by simp)
  have hB:=(hA.setRow (cs':=#[.slice A7 wk.length C7,.bool false,.bool true,.bool false]) rfl).drop
  have d0:=(b9.row (cs':=#[.slice A7 wk.length C7,.bool false,.bool true,.bool false])).cell
  have HB:Hid _:=b9
  clear h7 h8 h9 hA b9 K6
  go_wp2_with (refine wpList_store_row rfl 68 _ _ rfl W1.heap.size #[.slice A7 wk.length C7,.bool false,.bool true,.bool false] rfl rfl 68 _ HB.out.heap sizeEff rfl (zak _ _ _ _ _ _) ?_)
  exact bodyPost_ret (v:=eff A7 wk.length C7 false true false) (by simp [results,Tryz.results66,go_sem,d0]) rfl ⟨A7,C7,rfl,hB⟩
end
section
variable {W w w' : World} {L : Dk.Loc} {q qa qz : Dk.Sp} {k k' n : Nat} {us us' us1 us2 : List Dk.Thing} {t : Dk.Thing} {ch : Int} {E : Dk.Eff}
theorem zpu (h:Cor W w L q k us) (hk:k≤100000) (j:Int) (hu:q.usedB j=false) :
  Calls Tryz.prog 28 #[.pointer (some ⟨L.b,0,none⟩),.int .i64 j,.int .i64 ch] w fun e w'=>e=.returned (.tuple #[eff none 0 0 false false false,.int .i64 1])∧Cor W w' L q k us:=by
 obtain ⟨W1,e1⟩:∃ W1,W1=w.alloc (.cells #[.slice none 0 0,.bool false,.bool false,.bool false] 68):=⟨_,rfl⟩
 have h1:=h.newBox e1
 have b1:Dk.Box W1 w.heap.size #[.slice none 0 0,.bool false,.bool false,.bool false] 68:=h1.box (by simp)
 have K1:=zp5 h1 hk j hu
 have h2:=(h1.setRow (cs':=#[.slice none 0 0,.bool false,.bool false,.bool false]) rfl).drop
 have d0:=(b1.row (cs':=#[.slice none 0 0,.bool false,.bool false,.bool false])).cell
 have HB:Hid _:=b1
 have H1:Hid _:=e1.symm
 have HC:Hid (Cor W _ L q k us):=h2
 clear e1 b1 h h1 h2 hu
 go_enter Tryz.func28,Tryz.ntmps28
 go_wp2_with (first | (rw [H1.out];clear H1) | (go_at_call 57;refine K1.mono ?_;rintro e w' ⟨rfl,ew⟩;subst w') | (refine wpList_store_row rfl 68 _ _ rfl w.heap.size #[.slice none 0 0,.bool false,.bool false,.bool false] rfl rfl 68 _ HB.out.heap sizeEff rfl (zak _ _ _ _ _ _) ?_))
 exact bodyPost_ret (v:=.tuple #[eff none 0 0 false false false,.int .i64 1]) (by simp [results,Tryz.results28,go_sem,d0]) rfl ⟨rfl,HC.out⟩
theorem run_busy (h:Cor W w L q k us) (hk:k≤100000) (hn:n < 16) (hu:Dk.us q.st n=true) (hw:¬ (q.thr n).why=0) :
  Calls Tryz.prog 28 #[.pointer (some ⟨L.b,0,none⟩),.int .i64 (n:Int),.int .i64 ch] w fun e w'=>e=.returned (.tuple #[eff none 0 0 false false false,.int .i64 4])∧Cor W w' L q k us:=by
 obtain ⟨W1,e1⟩:∃ W1,W1=w.alloc (.cells #[.slice none 0 0,.bool false,.bool false,.bool false] 68):=⟨_,rfl⟩
 have h1:=h.newBox e1
 have b1:Dk.Box W1 w.heap.size #[.slice none 0 0,.bool false,.bool false,.bool false] 68:=h1.box (by simp)
 have K1:=zbl h1 hk n hn hu
 have d10:W1.cell? ⟨L.b,10+n*20+10,none⟩=some (.int .i64 (q.thr n).why):=h1.cellAt hn 10 (by omega)
 have h2:=(h1.setRow (cs':=#[.slice none 0 0,.bool false,.bool false,.bool false]) rfl).drop
 have d0:=(b1.row (cs':=#[.slice none 0 0,.bool false,.bool false,.bool false])).cell
 generalize (q.thr n).why=wy at *
 have y1:(wy != 0)=true:=by simpa using hw
 have HB:Hid _:=b1
 have H1:Hid _:=e1.symm
 have HC:Hid (Cor W _ L q k us):=h2
 clear e1 b1 h h1 h2 hu hw
 go_enter Tryz.func28,Tryz.ntmps28
 go_wp2_with (first | (rw [H1.out];clear H1) | (go_at_call 57;refine K1.mono ?_;rintro e w' ⟨rfl,ew⟩;subst w') | (refine wpList_store_row rfl 68 _ _ rfl w.heap.size #[.slice none 0 0,.bool false,.bool false,.bool false] rfl rfl 68 _ HB.out.heap sizeEff rfl (zak _ _ _ _ _ _) ?_))
 exact bodyPost_ret (v:=.tuple #[eff none 0 0 false false false,.int .i64 4]) (by simp [results,Tryz.results28,go_sem,d0]) rfl ⟨rfl,HC.out⟩
end
section
variable {W w w' : World} {L : Dk.Loc} {q : Dk.Sp} {k n : Nat} {us us' us1 us2 : List Dk.Thing} {t : Dk.Thing}
theorem zmm (h:Cor W w L q k us) (hk:k≤100000) (hn:n < 16) (op:Int) (a b:Nat) (c:Int) (nn:Nat) (ha:a < 8) (hb:b < 8) (hf:(q.thr n).f.ok) (hi:(⟨op,a,b,c,nn⟩:Dk.Ins).ok) (hm:q.mem.length≤1000) (hx:Dk.faultB (q.thr n).f ⟨op,a,b,c,nn⟩ q.mem.length=false) (hc:Dk.codeB ⟨op,a,b,c,nn⟩=true) (hs:op=18∨op=19) (hl:q.recs.length≤70000) :
  Calls Tryz.prog 66 #[.pointer (some ⟨L.b,0,none⟩),.int .i64 (n:Int),.agg #[.int .i64 op,.int .i64 (a:Int),.int .i64 (b:Int),.int .i64 c,.int .u64 (nn:Nat)]] w fun e w'=>e=.returned (eff none 0 0 false false false)∧Cor W w' L { (q.tell n (Dk.Sp.access ⟨op,a,b,c,nn⟩ (q.thr n).f (Dk.doneF (q.thr n).f ⟨op,a,b,c,nn⟩ q.mem) 0)) with mem:=Dk.doneM (q.thr n).f ⟨op,a,b,c,nn⟩ q.mem,thr:=Dk.upd q.thr n { q.thr n with f:=Dk.doneF (q.thr n).f ⟨op,a,b,c,nn⟩ q.mem } } k us:=by
 obtain ⟨W1,e1⟩:∃ W1,W1=w.alloc (.cells #[.int .i64 op,.int .i64 (a:Int),.int .i64 (b:Int),.int .i64 c,.int .u64 (nn:Nat)] 112):=⟨_,rfl⟩
 obtain ⟨W2,e2⟩:∃ W2,W2=W1.alloc (.cells #[.slice none 0 0,.bool false,.bool false,.bool false] 68):=⟨_,rfl⟩
 have z1:W1.heap.size=w.heap.size+1:=by rw [e1,World.size_alloc]
 have h2:=((h.newBox e1).newBox e2).swap
 have hd:=h2.below (Dk.zh (Below.refl _ _))
 obtain ⟨mA,mC,c8d,hrow⟩:=hd.memAt
 have KP:∀ w1 us',Cor W w1 L q k us'→w1.cell? ⟨L.b,8,none⟩=some (.slice mA q.mem.length mC)→Calls Tryz.prog 94 #[Dk.fv (q.thr n).f,.agg #[.int .i64 op,.int .i64 (a:Int),.int .i64 (b:Int),.int .i64 c,.int .u64 (nn:Nat)],.slice mA q.mem.length mC] w1 fun e w'=>∃ wb,e=.returned (.tuple #[Dk.fv (Dk.doneF (q.thr n).f ⟨op,a,b,c,nn⟩ q.mem),.slice (some ⟨wb,0,none⟩) q.mem.length q.mem.length,.int .i64 0])∧Cor W w' L q k (Dk.rowOf 38 1 (.slice (some ⟨wb,0,none⟩) q.mem.length q.mem.length) q.mem.length (Dk.uwK (Dk.doneM (q.thr n).f ⟨op,a,b,c,nn⟩ q.mem))::us')∧w'.cell? ⟨L.b,8,none⟩=some (.slice mA q.mem.length mC):=fun w1 us' h1 c1=>zk6 h1 mA mC c1 _ ⟨op,a,b,c,nn⟩ hf hi hc hx hm
 have hmw:∀ x ∈ Dk.doneM (q.thr n).f ⟨op,a,b,c,nn⟩ q.mem,x < 2 ^ 64:=zeb hf h.words
 have hml:(Dk.doneM (q.thr n).f ⟨op,a,b,c,nn⟩ q.mem).length=q.mem.length:=Dk.zb4 _ _ _
 have MK:∀ w' us',Cor W w' L q k us'→(w'.cell? ⟨L.b,10+n*20,none⟩=some (.int .i64 (q.thr n).f.fn)∧w'.cell? ⟨L.b,10+n*20+1,none⟩=some (.int .i64 (q.thr n).f.pc)∧w'.cell? ⟨L.b,10+n*20+2,none⟩=some (.int .u64 ((q.thr n).f.r 0:Nat))∧w'.cell? ⟨L.b,10+n*20+3,none⟩=some (.int .u64 ((q.thr n).f.r 1:Nat))∧w'.cell? ⟨L.b,10+n*20+4,none⟩=some (.int .u64 ((q.thr n).f.r 2:Nat))∧w'.cell? ⟨L.b,10+n*20+5,none⟩=some (.int .u64 ((q.thr n).f.r 3:Nat))∧w'.cell? ⟨L.b,10+n*20+6,none⟩=some (.int .u64 ((q.thr n).f.r 4:Nat))∧w'.cell? ⟨L.b,10+n*20+7,none⟩=some (.int .u64 ((q.thr n).f.r 5:Nat))∧w'.cell? ⟨L.b,10+n*20+8,none⟩=some (.int .u64 ((q.thr n).f.r 6:Nat))∧w'.cell? ⟨L.b,10+n*20+9,none⟩=some (.int .u64 ((q.thr n).f.r 7:Nat))):=fun w' us' h'=>⟨h'.cellAt hn 0 (by omega),h'.cellAt hn 1 (by omega),h'.cellAt hn 2 (by omega),h'.cellAt hn 3 (by omega),h'.cellAt hn 4 (by omega),h'.cellAt hn 5 (by omega),h'.cellAt hn 6 (by omega),h'.cellAt hn 7 (by omega),h'.cellAt hn 8 (by omega),h'.cellAt hn 9 (by omega)⟩
 have KS:∀ w,Calls Tryz.prog 95 #[.int .i64 op] w fun e w'=>e=.returned (.bool true)∧w'=w:=fun w=>by
  have:=zhl op w
  have hsb:Dk.seenB op=true:=by rcases hs with rfl | rfl <;> rfl
  rw [hsb] at this
  exact this
 have KA:=fun w=>zfy op a b c nn ha hb (q.thr n).f (Dk.doneF (q.thr n).f ⟨op,a,b,c,nn⟩ q.mem) 0 w
 have MK2:∀ w' us',Cor W w' L (q.tell n (Dk.Sp.access ⟨op,a,b,c,nn⟩ (q.thr n).f (Dk.doneF (q.thr n).f ⟨op,a,b,c,nn⟩ q.mem) 0)) k us'→(w'.cell? ⟨L.b,10+n*20,none⟩=some (.int .i64 (q.thr n).f.fn)∧w'.cell? ⟨L.b,10+n*20+1,none⟩=some (.int .i64 (q.thr n).f.pc)∧w'.cell? ⟨L.b,10+n*20+2,none⟩=some (.int .u64 ((q.thr n).f.r 0:Nat))∧w'.cell? ⟨L.b,10+n*20+3,none⟩=some (.int .u64 ((q.thr n).f.r 1:Nat))∧w'.cell? ⟨L.b,10+n*20+4,none⟩=some (.int .u64 ((q.thr n).f.r 2:Nat))∧w'.cell? ⟨L.b,10+n*20+5,none⟩=some (.int .u64 ((q.thr n).f.r 3:Nat))∧w'.cell? ⟨L.b,10+n*20+6,none⟩=some (.int .u64 ((q.thr n).f.r 4:Nat))∧w'.cell? ⟨L.b,10+n*20+7,none⟩=some (.int .u64 ((q.thr n).f.r 5:Nat))∧w'.cell? ⟨L.b,10+n*20+8,none⟩=some (.int .u64 ((q.thr n).f.r 6:Nat))∧w'.cell? ⟨L.b,10+n*20+9,none⟩=some (.int .u64 ((q.thr n).f.r 7:Nat))):=fun w' us' h'=>⟨h'.cellAt hn 0 (by omega),h'.cellAt hn 1 (by omega),h'.cellAt hn 2 (by omega),h'.cellAt hn 3 (by omega),h'.cellAt hn 4 (by omega),h'.cellAt hn 5 (by omega),h'.cellAt hn 6 (by omega),h'.cellAt hn 7 (by omega),h'.cellAt hn 8 (by omega),h'.cellAt hn 9 (by omega)⟩
 have FIN:∀ w',Cor W w' L ({ (q.tell n (Dk.Sp.access ⟨op,a,b,c,nn⟩ (q.thr n).f (Dk.doneF (q.thr n).f ⟨op,a,b,c,nn⟩ q.mem) 0)).setT n { q.thr n with f:=Dk.doneF (q.thr n).f ⟨op,a,b,c,nn⟩ q.mem } with mem:=Dk.doneM (q.thr n).f ⟨op,a,b,c,nn⟩ q.mem }) k us→Cor W w' L { (q.tell n (Dk.Sp.access ⟨op,a,b,c,nn⟩ (q.thr n).f (Dk.doneF (q.thr n).f ⟨op,a,b,c,nn⟩ q.mem) 0)) with mem:=Dk.doneM (q.thr n).f ⟨op,a,b,c,nn⟩ q.mem,thr:=Dk.upd q.thr n { q.thr n with f:=Dk.doneF (q.thr n).f ⟨op,a,b,c,nn⟩ q.mem } } k us:=fun w' h'=>h'
 have PUTF:∀ j,j < 20→({ q.thr n with f:=Dk.doneF (q.thr n).f ⟨op,a,b,c,nn⟩ q.mem }:Dk.Thr).cells[j]? = if j < (Dk.fc (Dk.doneF (q.thr n).f ⟨op,a,b,c,nn⟩ q.mem)).toList.length then (Dk.fc (Dk.doneF (q.thr n).f ⟨op,a,b,c,nn⟩ q.mem)).toList[j]? else ((q.tell n (Dk.Sp.access ⟨op,a,b,c,nn⟩ (q.thr n).f (Dk.doneF (q.thr n).f ⟨op,a,b,c,nn⟩ q.mem) 0)).thr n).cells[j]?:=fun j hj=>by
  have:j=0∨j=1∨j=2∨j=3∨j=4∨j=5∨j=6∨j=7∨j=8∨j=9∨j=10∨j=11∨j=12∨j=13∨j=14∨j=15∨j=16∨j=17∨j=18∨j=19:=by omega
  rcases this with rfl | rfl | rfl | rfl | rfl | rfl | rfl | rfl | rfl | rfl | rfl | rfl | rfl | rfl | rfl | rfl | rfl | rfl | rfl | rfl <;> rfl
 have KT:∀ w1 us',Cor W w1 L q k us'→Calls Tryz.prog 92 #[.pointer (some ⟨L.b,0,none⟩),.int .i64 (n:Int),recv (Dk.Sp.access ⟨op,a,b,c,nn⟩ (q.thr n).f (Dk.doneF (q.thr n).f ⟨op,a,b,c,nn⟩ q.mem) 0)] w1 fun e w'=>e=.returned (.tuple #[])∧Cor W w' L (q.tell n (Dk.Sp.access ⟨op,a,b,c,nn⟩ (q.thr n).f (Dk.doneF (q.thr n).f ⟨op,a,b,c,nn⟩ q.mem) 0)) k us':=fun w1 us' h1=>zct h1 hk n _ (by omega)
 generalize (q.tell n (Dk.Sp.access ⟨op,a,b,c,nn⟩ (q.thr n).f (Dk.doneF (q.thr n).f ⟨op,a,b,c,nn⟩ q.mem) 0))=qt at *
 generalize eF:Dk.doneF (q.thr n).f ⟨op,a,b,c,nn⟩ q.mem=fz at *
 generalize eM:Dk.doneM (q.thr n).f ⟨op,a,b,c,nn⟩ q.mem=mz at *
 generalize eT:({ q.thr n with f:=fz }:Dk.Thr)=tz at *
 generalize (q.thr n).f=f at *
 generalize Dk.Sp.access ⟨op,a,b,c,nn⟩ f fz 0=rc at *
 have i1:(n:Int) < 16:=by omega
 have i2:(0:Int)≤(n:Int):=by omega
 have H1:Hid _:=e1.symm
 have H2:Hid _:=e2.symm
 have HP:Hid _:=PUTF
 have HZ:Hid (mz.length=q.mem.length):=hml
 clear h h2 e1 e2 z1 hrow hml hx hc hs hi hf eF eM eT PUTF
 go_enter Tryz.func66,Tryz.ntmps66
 go_upto_region 2 with (first | (rw [H1.out];clear H1) | (rw [H2.out];clear H2))
 go_cut [8,9,10] from 16 to 57 (fun v8 v9 v10 w'=>∃ bx wb,v8=.pointer (some ⟨bx,0,none⟩)∧v9=.slice (some ⟨wb,0,none⟩) q.mem.length q.mem.length∧v10=.int .i64 0∧Cor W w' L q k (Dk.boxOf bx (Dk.fc fz) 110::Dk.rowOf 38 1 (.slice (some ⟨wb,0,none⟩) q.mem.length q.mem.length) q.mem.length (Dk.uwK mz)::Dk.boxOf w.heap.size #[.int .i64 op,.int .i64 (a:Int),.int .i64 (b:Int),.int .i64 c,.int .u64 (nn:Nat)] 112::Dk.boxOf W1.heap.size #[.slice none 0 0,.bool false,.bool false,.bool false] 68::us))
 case first=>
  refine Dk.zd (S:=fun w'=>Cor W w' L q k (Dk.boxOf w.heap.size #[.int .i64 op,.int .i64 (a:Int),.int .i64 (b:Int),.int .i64 c,.int .u64 (nn:Nat)] 112::Dk.boxOf W1.heap.size #[.slice none 0 0,.bool false,.bool false,.bool false] 68::us)∧w'.cell? ⟨L.b,8,none⟩=some (.slice mA q.mem.length mC)) [] [0,1,2,3,4,5,6,7,8] [9,10,11,12,13,15,16,17] 9 (by kernel_rfl) (by kernel_rfl) (by kernel_rfl) (by kernel_rfl) rfl ⟨hd,c8d⟩ _ ?_ (fun a' h=>h)
  refine Dk.za (v:=.pointer (some ⟨L.b,10+n*20,none⟩)) rfl rfl (fun w' hw'=>by go_simp) ?_
  simp only [zD]
  refine Dk.za (v:=.pointer (some ⟨L.b,10+n*20,none⟩)) rfl rfl (fun w' hw'=>by go_simp) ?_
  simp only [zD]
  refine Dk.za (v:=.pointer (some ⟨L.b,10+n*20,none⟩)) rfl rfl (fun w' hw'=>by go_simp) ?_
  simp only [zD]
  refine Dk.za (v:=Dk.fv f) rfl rfl (fun w' hw'=>by obtain ⟨c0,c1,c2,c3,c4,c5,c6,c7,c8,c9⟩:=MK _ _ hw'.1;go_simp) ?_
  simp only [zD]
  refine Dk.za (v:=.agg #[.int .i64 op,.int .i64 (a:Int),.int .i64 (b:Int),.int .i64 c,.int .u64 (nn:Nat)]) rfl rfl (fun w' hw'=>by have cb:=(hw'.1.box (a:=w.heap.size) (cs:=#[.int .i64 op,.int .i64 (a:Int),.int .i64 (b:Int),.int .i64 c,.int .u64 (nn:Nat)]) (e:=112) (by simp)).cell;go_simp) ?_
  simp only [zD]
  refine Dk.za (v:=.pointer (some ⟨L.b,0,none⟩)) rfl rfl (fun w' hw'=>by go_simp) ?_
  simp only [zD]
  refine Dk.za (v:=.pointer (some ⟨L.b,0,none⟩)) rfl rfl (fun w' hw'=>by go_simp) ?_
  simp only [zD]
  refine Dk.za (v:=.pointer (some ⟨L.b,8,none⟩)) rfl rfl (fun w' hw'=>by go_simp) ?_
  simp only [zD]
  refine Dk.za (v:=.slice mA q.mem.length mC) rfl rfl (fun w' hw'=>by have c8:=hw'.2;go_simp) ?_
  simp only [zD]
  generalize W2.drew=WD at *
  refine Dk.treeY (rs:=[9,14]) (by kernel_rfl) (by simp) ?_
  intro i hi
  simp only [List.mem_cons,List.not_mem_nil,or_false] at hi
  rcases hi with rfl | rfl
  ·refine Dk.zm (some 26) rfl rfl rfl (f:=94) (args:=#[Dk.fv f,.agg #[.int .i64 op,.int .i64 (a:Int),.int .i64 (b:Int),.int .i64 c,.int .u64 (nn:Nat)],.slice mA q.mem.length mC]) (by go_simp) ?_
   refine (KP _ _ hd c8d).mono ?_
   rintro e w2 ⟨wb,rfl,h2,c2⟩
   refine ⟨_,rfl,fun h=>absurd (by decide) h,?_⟩
   simp only [zD]
   refine Dk.zo (by kernel_rfl) (fun c a w h=>h) _ 4 _ [10,11,12,13] _ _ (by kernel_rfl) ?_ (fun a' h=>h)
   refine Dk.za (v:=.tuple #[Dk.fv fz,.slice (some ⟨wb,0,none⟩) q.mem.length q.mem.length,.int .i64 0]) rfl rfl (fun w' hw'=>by go_simp) ?_
   simp only [zD]
   refine Dk.za (v:=Dk.fv fz) rfl rfl (fun w' hw'=>by go_simp) ?_
   simp only [zD]
   refine Dk.za (v:=.slice (some ⟨wb,0,none⟩) q.mem.length q.mem.length) rfl rfl (fun w' hw'=>by go_simp) ?_
   simp only [zD]
   refine Dk.za (v:=.int .i64 0) rfl rfl (fun w' hw'=>by go_simp) ?_
   simp only [zD]
   refine Dk.treeY (rs:=[14]) (by kernel_rfl) (by simp) ?_
   intro i hi
   simp only [List.mem_cons,List.not_mem_nil,or_false] at hi
   subst hi
   obtain ⟨w3,ew3⟩:∃ w3,w3=w2.alloc (.cells #[.int .i64 0,.int .i64 0,.int .u64 0,.int .u64 0,.int .u64 0,.int .u64 0,.int .u64 0,.int .u64 0,.int .u64 0,.int .u64 0] 110):=⟨_,rfl⟩
   refine Dk.ze (v:=.pointer (some ⟨w2.heap.size,0,none⟩)) (w':=w3) (some 8) rfl rfl rfl (by rw [ew3];go_simp) ⟨fun _=>⟨(h2.drop.newBox ew3).drop,by rw [ew3];exact Lib.cell?_alloc_some _ c2⟩,?_⟩
   simp only [zD]
   have q3:=h2.newBox ew3
   refine Dk.zl [15,16,17] _ _ _ (by kernel_rfl) ?_
   refine Dk.zr rfl rfl ?_
   have HB:Dk.Box w3 (w2.heap.size) #[.int .i64 0,.int .i64 0,.int .u64 0,.int .u64 0,.int .u64 0,.int .u64 0,.int .u64 0,.int .u64 0,.int .u64 0,.int .u64 0] 110:=q3.box (by simp)
   refine wp_store_row 110 _ _ rfl w2.heap.size (Dk.fc fz) rfl rfl 110 _ HB.heap zai rfl (Dk.zah _) ⟨fun h=>absurd (by decide) h,?_⟩
   simp only [zD]
   refine Dk.zj (v:=.slice (some ⟨wb,0,none⟩) q.mem.length q.mem.length) (w':=w3.setRow w2.heap.size (Dk.fc fz)) (some 9) rfl rfl rfl (by go_simp) (fun h=>absurd (by decide) h) ?_
   simp only [zD]
   refine Dk.zj (v:=.int .i64 0) (w':=w3.setRow w2.heap.size (Dk.fc fz)) (some 10) rfl rfl rfl (by go_simp) (fun h=>absurd (by decide) h) ?_
   simp only [zD]
   show NoPanic _ Exit.normal _ _
   refine NoPanic.normal ?_
   rename_i hK
   refine hK _ _ ?_
   go_meet
   exact ⟨w2.heap.size,wb,rfl,rfl,rfl,q3.setRow rfl⟩
  ·obtain ⟨w3,ew3⟩:∃ w3,w3=WD.alloc (.cells #[.int .i64 0,.int .i64 0,.int .u64 0,.int .u64 0,.int .u64 0,.int .u64 0,.int .u64 0,.int .u64 0,.int .u64 0,.int .u64 0] 110):=⟨_,rfl⟩
   refine Dk.ze (v:=.pointer (some ⟨WD.heap.size,0,none⟩)) (w':=w3) (some 8) rfl rfl rfl (by rw [ew3];go_simp) ⟨fun _=>⟨(hd.newBox ew3).drop,by rw [ew3];exact Lib.cell?_alloc_some _ c8d⟩,?_⟩
   simp only [zD]
   have q3:=hd.newBox ew3
   have c83:w3.cell? ⟨L.b,8,none⟩=some (.slice mA q.mem.length mC):=by rw [ew3];exact Lib.cell?_alloc_some _ c8d
   refine Dk.treeY (rs:=[9]) (by kernel_rfl) (by simp) ?_
   intro i hi
   simp only [List.mem_cons,List.not_mem_nil,or_false] at hi
   subst hi
   refine Dk.zm (some 26) rfl rfl rfl (f:=94) (args:=#[Dk.fv f,.agg #[.int .i64 op,.int .i64 (a:Int),.int .i64 (b:Int),.int .i64 c,.int .u64 (nn:Nat)],.slice mA q.mem.length mC]) (by go_simp) ?_
   refine (KP _ _ q3 c83).mono ?_
   rintro e w2 ⟨wb,rfl,q2,c2⟩
   refine ⟨_,rfl,fun h=>absurd (by decide) h,?_⟩
   simp only [zD]
   refine Dk.zo (by kernel_rfl) (fun c a w h=>h) _ 3 _ [10,11,12,13] _ _ (by kernel_rfl) ?_ (fun a' h=>h)
   refine Dk.za (v:=.tuple #[Dk.fv fz,.slice (some ⟨wb,0,none⟩) q.mem.length q.mem.length,.int .i64 0]) rfl rfl (fun w' hw'=>by go_simp) ?_
   simp only [zD]
   refine Dk.za (v:=Dk.fv fz) rfl rfl (fun w' hw'=>by go_simp) ?_
   simp only [zD]
   refine Dk.za (v:=.slice (some ⟨wb,0,none⟩) q.mem.length q.mem.length) rfl rfl (fun w' hw'=>by go_simp) ?_
   simp only [zD]
   refine Dk.za (v:=.int .i64 0) rfl rfl (fun w' hw'=>by go_simp) ?_
   simp only [zD]
   refine Dk.zl [15,16,17] _ _ _ (by kernel_rfl) ?_
   refine Dk.zr rfl rfl ?_
   have HB:Dk.Box w2 (WD.heap.size) #[.int .i64 0,.int .i64 0,.int .u64 0,.int .u64 0,.int .u64 0,.int .u64 0,.int .u64 0,.int .u64 0,.int .u64 0,.int .u64 0] 110:=q2.box (by simp)
   refine wp_store_row 110 _ _ rfl WD.heap.size (Dk.fc fz) rfl rfl 110 _ HB.heap zai rfl (Dk.zah _) ⟨fun h=>absurd (by decide) h,?_⟩
   simp only [zD]
   refine Dk.zj (v:=.slice (some ⟨wb,0,none⟩) q.mem.length q.mem.length) (w':=w2.setRow WD.heap.size (Dk.fc fz)) (some 9) rfl rfl rfl (by go_simp) (fun h=>absurd (by decide) h) ?_
   simp only [zD]
   refine Dk.zj (v:=.int .i64 0) (w':=w2.setRow WD.heap.size (Dk.fc fz)) (some 10) rfl rfl rfl (by go_simp) (fun h=>absurd (by decide) h) ?_
   simp only [zD]
   show NoPanic _ Exit.normal _ _
   refine NoPanic.normal ?_
   rename_i hK
   refine hK _ _ ?_
   go_meet
   exact ⟨WD.heap.size,wb,rfl,rfl,rfl,q2.swap.setRow rfl⟩
 case rest=>
  obtain ⟨bx,wb,rfl,rfl,rfl,hC⟩:=hcut
  have ci:=(hC.box (a:=w.heap.size) (cs:=#[.int .i64 op,.int .i64 (a:Int),.int .i64 (b:Int),.int .i64 c,.int .u64 (nn:Nat)]) (e:=112) (by simp)).cell
  have hC2:=hC.below (Dk.zh (Below.refl _ _))
  have S0:Dk.Box wc.drew w.heap.size #[.int .i64 op,.int .i64 (a:Int),.int .i64 (b:Int),.int .i64 c,.int .u64 (nn:Nat)] 112∧Dk.Box wc.drew bx (Dk.fc fz) 110∧(wc.drew.cell? ⟨L.b,10+n*20,none⟩=some (.int .i64 f.fn)∧wc.drew.cell? ⟨L.b,10+n*20+1,none⟩=some (.int .i64 f.pc)∧wc.drew.cell? ⟨L.b,10+n*20+2,none⟩=some (.int .u64 (f.r 0:Nat))∧wc.drew.cell? ⟨L.b,10+n*20+3,none⟩=some (.int .u64 (f.r 1:Nat))∧wc.drew.cell? ⟨L.b,10+n*20+4,none⟩=some (.int .u64 (f.r 2:Nat))∧wc.drew.cell? ⟨L.b,10+n*20+5,none⟩=some (.int .u64 (f.r 3:Nat))∧wc.drew.cell? ⟨L.b,10+n*20+6,none⟩=some (.int .u64 (f.r 4:Nat))∧wc.drew.cell? ⟨L.b,10+n*20+7,none⟩=some (.int .u64 (f.r 5:Nat))∧wc.drew.cell? ⟨L.b,10+n*20+8,none⟩=some (.int .u64 (f.r 6:Nat))∧wc.drew.cell? ⟨L.b,10+n*20+9,none⟩=some (.int .u64 (f.r 7:Nat))):=⟨hC2.box (by simp),hC2.box (by simp),MK _ _ hC2⟩
  have HS0:Hid _:=S0
  have HC:Hid (Cor W wc.drew L q k _):=hC2
  clear S0 hC hC2 KP hd c8d
  go_wp2_with (go_at_call 95;refine (KS _).mono ?_;rintro e w' ⟨rfl,ew⟩;subst w')
  refine Dk.zf (S:=fun w'=>Dk.Box w' w.heap.size #[.int .i64 op,.int .i64 (a:Int),.int .i64 (b:Int),.int .i64 c,.int .u64 (nn:Nat)] 112∧Dk.Box w' bx (Dk.fc fz) 110∧(w'.cell? ⟨L.b,10+n*20,none⟩=some (.int .i64 f.fn)∧w'.cell? ⟨L.b,10+n*20+1,none⟩=some (.int .i64 f.pc)∧w'.cell? ⟨L.b,10+n*20+2,none⟩=some (.int .u64 (f.r 0:Nat))∧w'.cell? ⟨L.b,10+n*20+3,none⟩=some (.int .u64 (f.r 1:Nat))∧w'.cell? ⟨L.b,10+n*20+4,none⟩=some (.int .u64 (f.r 2:Nat))∧w'.cell? ⟨L.b,10+n*20+5,none⟩=some (.int .u64 (f.r 3:Nat))∧w'.cell? ⟨L.b,10+n*20+6,none⟩=some (.int .u64 (f.r 4:Nat))∧w'.cell? ⟨L.b,10+n*20+7,none⟩=some (.int .u64 (f.r 5:Nat))∧w'.cell? ⟨L.b,10+n*20+8,none⟩=some (.int .u64 (f.r 6:Nat))∧w'.cell? ⟨L.b,10+n*20+9,none⟩=some (.int .u64 (f.r 7:Nat)))) [0,1,2,3,4,5,6,7,8] [9,10] (by kernel_rfl) (by kernel_rfl) HS0.out ?_
  refine Dk.za (v:=.pointer (some ⟨L.b,0,none⟩)) rfl rfl (fun w' hw'=>by go_simp) ?_
  simp only [zD]
  refine Dk.za (v:=.int .i64 (n:Int)) rfl rfl (fun w' hw'=>by go_simp) ?_
  simp only [zD]
  refine Dk.za (v:=.agg #[.int .i64 op,.int .i64 (a:Int),.int .i64 (b:Int),.int .i64 c,.int .u64 (nn:Nat)]) rfl rfl (fun w' hw'=>by have cb:=hw'.1.cell;go_simp) ?_
  simp only [zD]
  refine Dk.za (v:=.pointer (some ⟨L.b,10+n*20,none⟩)) rfl rfl (fun w' hw'=>by go_simp) ?_
  simp only [zD]
  refine Dk.za (v:=.pointer (some ⟨L.b,10+n*20,none⟩)) rfl rfl (fun w' hw'=>by go_simp) ?_
  simp only [zD]
  refine Dk.za (v:=.pointer (some ⟨L.b,10+n*20,none⟩)) rfl rfl (fun w' hw'=>by go_simp) ?_
  simp only [zD]
  refine Dk.za (v:=Dk.fv f) rfl rfl (fun w' hw'=>by obtain ⟨c0,c1,c2,c3,c4,c5,c6,c7,c8,c9⟩:=hw'.2.2;go_simp) ?_
  simp only [zD]
  refine Dk.za (v:=Dk.fv fz) rfl rfl (fun w' hw'=>by have cb:=hw'.2.1.cell;go_simp) ?_
  simp only [zD]
  refine Dk.za (v:=.int .i64 0) rfl rfl (fun w' hw'=>by go_simp) ?_
  simp only [zD]
  refine Dk.zax (f:=96) (args:=#[.agg #[.int .i64 op,.int .i64 (a:Int),.int .i64 (b:Int),.int .i64 c,.int .u64 (nn:Nat)],Dk.fv f,Dk.fv fz,.int .i64 0]) rfl rfl (by go_simp) ?_
  refine (KA _).mono ?_
  rintro e w5 ⟨rfl,u5⟩
  have h5:=HC.out.below u5
  refine ⟨_,rfl,⟨h5.box (by simp),h5.box (by simp),MK _ _ h5⟩,?_⟩
  simp only [zD]
  refine Dk.zax (f:=92) (args:=#[.pointer (some ⟨L.b,0,none⟩),.int .i64 (n:Int),recv rc]) rfl rfl (by go_simp) ?_
  refine (KT _ _ h5).mono ?_
  rintro e w6 ⟨rfl,h6⟩
  refine ⟨_,rfl,⟨h6.box (by simp),h6.box (by simp),MK2 _ _ h6⟩,?_⟩
  simp only [zD]
  show NoPanic _ Exit.normal _ _
  refine NoPanic.normal ?_
  first | (rename_i hK;refine hK _ _ ?_;clear hK) | (rename_i hK _;refine hK _ _ ?_;clear hK)
  clear KA KT h5 HC HS0 MK MK2 ci
  have cb:=(h6.box (a:=bx) (cs:=Dk.fc fz) (e:=110) (by simp)).cell
  have ht:w6.there L.b (10+n*20) 10:=h6.there hn 0 10 (by omega)
  obtain ⟨W3,e3⟩:∃ W3,W3=w6.setCells L.b (10+n*20) (Dk.fc fz).toList:=⟨_,rfl⟩
  have h3:=h6.putT hn tz (Dk.fc fz).toList (by simp) HP.out
  rw [← e3] at h3
  obtain ⟨A8,C8,c8,_⟩:=h3.memAt
  have f8:=h3.frozenAt 8
  obtain ⟨W4,e4⟩:∃ W4,W4=W3.setCell ⟨L.b,8,none⟩ (.slice (some ⟨wb,0,none⟩) q.mem.length q.mem.length):=⟨_,rfl⟩
  have h4:=Cor.setMem (m:=mz) (v:=.slice (some ⟨wb,0,none⟩) q.mem.length q.mem.length) (us:=Dk.boxOf w.heap.size #[.int .i64 op,.int .i64 (a:Int),.int .i64 (b:Int),.int .i64 c,.int .u64 (nn:Nat)] 112::Dk.boxOf W1.heap.size #[.slice none 0 0,.bool false,.bool false,.bool false] 68::us) (by rw [HZ.out];exact h3.drop) hmw
  rw [← e4] at h4
  have b4:Dk.Box W4 W1.heap.size #[.slice none 0 0,.bool false,.bool false,.bool false] 68:=h4.box (by simp)
  have h5:=FIN _ ((h4.drop.setRow (cs':=#[.slice none 0 0,.bool false,.bool false,.bool false]) rfl).drop)
  have d0:=(b4.row (cs':=#[.slice none 0 0,.bool false,.bool false,.bool false])).cell
  have HB:Hid _:=b4
  have HT:Hid _:=ht
  have H3:Hid _:=e3.symm
  have H4:Hid _:=e4.symm
  clear h6 h3 h4 b4 ht e3 e4 FIN hmw
  go_wp2_with (first | (refine wpList_store_mid rfl 110 _ _ rfl L.b (10+n*20) (Dk.fc fz) rfl rfl HT.out zai (Dk.zah _) ?_;rw [H3.out];clear H3) | (rw [H4.out];clear H4) | (refine wpList_store_row rfl 68 _ _ rfl W1.heap.size #[.slice none 0 0,.bool false,.bool false,.bool false] rfl rfl 68 _ HB.out.heap sizeEff rfl (zak _ _ _ _ _ _) ?_))
  exact bodyPost_ret (v:=eff none 0 0 false false false) (by simp [results,Tryz.results66,go_sem,d0]) rfl ⟨rfl,h5⟩
end
end Go.Proofs.YtglhhlfopccmaaaGreat
namespace Dk
structure Sp.DeedOk (q:Sp) (n:Nat) (i:Ins) (ch:Int):Prop where
 pc:((q.deed n i ch).1.thr n).f.pc=(q.thr n).f.pc
 res:0≤(q.deed n i ch).2.result∧(q.deed n i ch).2.result < 1000
 wk:∀ p ∈ (q.deed n i ch).2.woken,InR p.1
 wl:(q.deed n i ch).2.woken.length≤16
 bl:(q.deed n i ch).2.begun.length≤16
 regs:(q.deed n i ch).1.RegsOk
 recs:(q.deed n i ch).1.recs.length=q.recs.length
theorem Sp.RegsOk.setT {q:Sp} (h:q.RegsOk) (n:Nat) (th:Thr) (hi:∃ a:Nat,a < 8∧th.ins.a=a):(q.setT n th).RegsOk:=fun m=>by
 unfold Sp.setT
 dsimp only
 by_cases e:m=n
 ·subst e
  rw [upd_same]
  exact hi
 ·rw [upd_ne _ _ e]
  exact h m
theorem fault_op {f:Frm} {i:Ins} {m:Nat} (h:faultB f i m=true):i.op=18∨i.op=19:=by
 unfold faultB at h
 simp only [Bool.or_eq_true,Bool.and_eq_true,decide_eq_true_eq] at h
 rcases h with ⟨h,_⟩ | ⟨h,_⟩
 ·exact .inl h
 ·exact .inr h
end Dk
namespace Go.Proofs.YtglhhlfopccmaaaGreat
open Go.RowKit Go.Lib
section
variable {W w w' : World} {L : Dk.Loc} {q qa qz : Dk.Sp} {k k' n : Nat} {us us' us1 us2 : List Dk.Thing} {t : Dk.Thing} {ch : Int} {E : Dk.Eff}
theorem zpj (h:Cor W w L q k us) (hk:k≤100000) (hn:n < 16) (i:Dk.Ins) (hi:i.ok) (a0:0≤i.a∧i.a < 8) (b0:0≤i.b∧i.b < 8) (hf:(q.thr n).f.ok) (hc:Dk.codeB i=true) (ho:1≤i.op∧i.op≤19) (hm:q.mem.length≤1000) (hl:q.recs.length≤70000) (hr:q.RegsOk) (hin:∀ m,Dk.InR (q.thr m).joiner) :
  Calls Tryz.prog 66 #[.pointer (some ⟨L.b,0,none⟩),.int .i64 (n:Int),Dk.iv i] w (Ef W L (q.plain n i).1 k (q.plain n i).2 us):=by
 obtain ⟨op,a,b,c,m⟩:=i
 dsimp only at a0 b0 ho
 obtain ⟨a,rfl⟩:∃ x:Nat,a=x:=⟨a.toNat,by omega⟩
 obtain ⟨b,rfl⟩:∃ x:Nat,b=x:=⟨b.toNat,by omega⟩
 have hseen:Dk.seenB op=decide (op=18∨op=19):=by
  unfold Dk.seenB Dk.withinB
  by_cases h1:op=18∨op=19
  ·rw [decide_eq_true h1];rcases h1 with rfl | rfl <;> rfl
  ·rw [decide_eq_false h1];simp;omega
 unfold Dk.Sp.plain
 dsimp only
 by_cases hx:Dk.faultB (q.thr n).f ⟨op,a,b,c,m⟩ q.mem.length=true
 ·rw [if_pos hx]
  have h18:=Dk.fault_op hx
  dsimp only at h18
  rw [hseen,decide_eq_true h18,if_pos rfl]
  refine (zpk h hk hn op a b c m (by omega) (by omega) hf hi hm hx hc h18 hl hr hin).mono ?_
  rintro e w' ⟨A,C,he,h'⟩
  refine ⟨A,C,?_,h'⟩
  have e2:((q.tell n (Dk.Sp.access ⟨op,a,b,c,m⟩ (q.thr n).f Dk.Frm.zero 6)).fin n 18446744073709551615).2.stopped=false∧((q.tell n (Dk.Sp.access ⟨op,a,b,c,m⟩ (q.thr n).f Dk.Frm.zero 6)).fin n 18446744073709551615).2.ended=true∧((q.tell n (Dk.Sp.access ⟨op,a,b,c,m⟩ (q.thr n).f Dk.Frm.zero 6)).fin n 18446744073709551615).2.yielded=false:=by
   unfold Dk.Sp.fin
   repeat' split
   all_goals exact ⟨rfl,rfl,rfl⟩
  rw [e2.1,e2.2.1,e2.2.2]
  exact he
 ·rw [if_neg hx]
  have hx':Dk.faultB (q.thr n).f ⟨op,a,b,c,m⟩ q.mem.length=false:=by simpa using hx
  by_cases h18:op=18∨op=19
  ·rw [hseen,decide_eq_true h18,if_pos rfl]
   refine (zmm h hk hn op a b c m (by omega) (by omega) hf hi hm hx' hc h18 hl).mono ?_
   rintro e w' ⟨he,h'⟩
   exact ⟨none,0,he,h'.nil⟩
  ·rw [hseen,decide_eq_false h18,if_neg (by simp)]
   refine (zj0 h hk hn ⟨op,a,b,c,m⟩ hf hi hm hx' hc (by rw [hseen,decide_eq_false h18])).mono ?_
   rintro e w' ⟨he,h'⟩
   exact ⟨none,0,he,h'.nil⟩
theorem act_any (h:Cor W w L q k us) (hk:k < 99999) (hn:n < 16) (i:Dk.Ins) (g:q.Can n i) (ho:20≤i.op∧i.op≤38∧i.op≠23) (hch:Dk.i64 ch) (D:q.DeedOk n i ch) (hpc:0≤(q.thr n).f.pc∧(q.thr n).f.pc < 1000000) (hl:q.recs.length≤70000) :
  Calls Tryz.prog 67 #[.pointer (some ⟨L.b,0,none⟩),.int .i64 (n:Int),Dk.iv i,.int .i64 ch] w (Ef W L (q.act n i ch).1 (k+1) (q.act n i ch).2 us):=by
 have hK:∀ w us,Cor W w L q k us→Calls Tryz.prog 97 #[.pointer (some ⟨L.b,0,none⟩),.int .i64 (n:Int),Dk.iv i,.int .i64 ch] w (Dd W L (q.deed n i ch).1 (k+1) (q.deed n i ch).2 us):=fun w us h=>do_any h hk hn i g ho hch
 obtain ⟨dpc,dres,dwk,dwl,dbl,dregs,drecs⟩:=D
 have ha:=g.a0
 unfold Dk.Sp.act
 dsimp only
 generalize (q.deed n i ch).1=qd at *
 generalize (q.deed n i ch).2=d at *
 obtain ⟨x,y,r,why,bg,wk⟩:=d
 obtain ⟨op,a,b,c,m⟩:=i
 dsimp only at *
 by_cases hw:why=0
 ·subst hw
  obtain ⟨r,rfl⟩:∃ z:Nat,r=z:=⟨r.toNat,by omega⟩
  rw [if_pos rfl,Int.toNat_natCast]
  have hq4:(qd.setT n (((qd.thr n).next).reg 7 r)).RegsOk:=dregs.setT n _ (dregs n)
  refine (act_goes h hn op a b c m x y r (by omega) bg wk _ rfl _ rfl (by rw [dpc];exact hpc) (by omega) _ rfl (by
   show qd.recs.length+_ < _
   omega) _ rfl hq4 (by
   show (qd.recs++[_]).length≤qd.recs.length+1
   simp) dwk _ rfl (by omega) (by omega) hK).mono ?_
  rintro e w' ⟨A,C,he,h'⟩
  refine ⟨A,C,?_,h'⟩
  rw [he]
  rfl
 ·rw [if_neg hw]
  have hq4:(qd.setT n { (qd.thr n).next with why:=why,ins:=⟨op,a,b,c,m⟩ }).RegsOk:=dregs.setT n _ ⟨a.toNat,by omega,by dsimp only;omega⟩
  have e1:decide (why=0)=false:=decide_eq_false hw
  have e2:decide (why≠0)=true:=decide_eq_true hw
  rw [e1,e2]
  refine (act_stop h hn op a b c m x y r why hw bg wk _ rfl _ rfl (by rw [dpc];exact hpc) (by omega) _ rfl (by
   show qd.recs.length+_ < _
   omega) _ rfl hq4 (by
   show (qd.recs++[_]).length≤qd.recs.length+1
   simp) dwk _ rfl (by omega) (by omega) hK).mono ?_
  rintro e w' ⟨A,C,he,h'⟩
  exact ⟨A,C,he,h'⟩
end
end Go.Proofs.YtglhhlfopccmaaaGreat
