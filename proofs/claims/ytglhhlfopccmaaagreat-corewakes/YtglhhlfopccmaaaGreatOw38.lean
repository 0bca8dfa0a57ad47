import Derived.Test.YtglhhlfopccmaaaGreatOw37
set_option linter.unusedSimpArgs false
set_option linter.unusedVariables false
set_option linter.unnecessarySimpa false
set_option maxHeartbeats 8000000
set_option maxRecDepth 100000
namespace Go.Proofs.YtglhhlfopccmaaaGreat
open Go.RowKit Go.Lib
def Ef (W:World) (L:Dk.Loc) (q:Dk.Sp) (k:Nat) (E:Dk.Eff) (us:List Dk.Thing) (e:Ending) (w':World):Prop:=∃ A C,e=.returned (eff A E.woken.length C E.stopped E.ended E.yielded)∧Cor W w' L q k (Dk.rowOf 3 1 (.slice A E.woken.length C) E.woken.length (Dk.is E.woken)::us)
def Ef0 (W:World) (L:Dk.Loc) (q:Dk.Sp) (k:Nat) (E:Dk.Eff) (us:List Dk.Thing) (e:Ending) (w':World):Prop:=∃ A C,e=.returned (.tuple #[eff A E.woken.length C E.stopped E.ended E.yielded,.int .i64 0])∧Cor W w' L q k (Dk.rowOf 3 1 (.slice A E.woken.length C) E.woken.length (Dk.is E.woken)::us)
section
variable {W w w' : World} {L : Dk.Loc} {q qa qz : Dk.Sp} {k k' n : Nat} {us us' us1 us2 : List Dk.Thing} {t : Dk.Thing} {ch : Int} {E : Dk.Eff}
theorem run_last (h:Cor W w L q k us) (hk:k≤100000) (hn:n < 16) (hu:Dk.us q.st n=true) (hw:(q.thr n).why=0) (i:Dk.Ins) (ei:Dk.nextI q.prog (q.thr n).f=i) (nb:Bool) (enb:Dk.nextB q.prog (q.thr n).f=nb) (hnb:nb=false) (hK:∀ w us,Cor W w L q k us→Calls Tryz.prog 65 #[.pointer (some ⟨L.b,0,none⟩),.int .i64 (n:Int),.int .u64 0] w (Ef W L qz k' E us)) :
  Calls Tryz.prog 28 #[.pointer (some ⟨L.b,0,none⟩),.int .i64 (n:Int),.int .i64 ch] w (Ef0 W L qz k' E us):=by
 obtain ⟨W1,e1⟩:∃ W1,W1=w.alloc (.cells #[.slice none 0 0,.bool false,.bool false,.bool false] 68):=⟨_,rfl⟩
 have h1:=h.newBox e1
 obtain ⟨uz,euz⟩:∃ uz,uz=Dk.boxOf w.heap.size #[.slice none 0 0,.bool false,.bool false,.bool false] 68::us:=⟨_,rfl⟩
 rw [← euz] at h1
 have K1:=zbl h1 hk n hn hu
 have d10:W1.cell? ⟨L.b,10+n*20+10,none⟩=some (.int .i64 0):=by rw [h1.cellAt hn 10 (by omega),← hw];rfl
 have hd:=h1.below (Dk.zh (Below.refl _ _))
 have KN:∀ w1 us',Cor W w1 L q k us'→Calls Tryz.prog 60 #[.agg #[.slice L.cA L.cL L.cC,.int .i64 0,.int .i64 0,.int .i64 0,.slice none 0 0,.slice none 0 0,.int .i64 0,.int .i64 0],Dk.fv (q.thr n).f] w1 fun e w'=>e=.returned (.tuple #[Dk.iv (Dk.nextI q.prog (q.thr n).f),.bool (Dk.nextB q.prog (q.thr n).f)])∧Cor W w' L q k us':=fun w1 us' h1=>zei h1 _
 have MK:∀ w',Cor W w' L q k uz→(w'.cell? ⟨L.b,0,none⟩=some (.slice L.cA L.cL L.cC)∧w'.cell? ⟨L.b,1,none⟩=some (.int .i64 0)∧w'.cell? ⟨L.b,2,none⟩=some (.int .i64 0)∧w'.cell? ⟨L.b,3,none⟩=some (.int .i64 0)∧w'.cell? ⟨L.b,4,none⟩=some (.slice none 0 0)∧w'.cell? ⟨L.b,5,none⟩=some (.slice none 0 0)∧w'.cell? ⟨L.b,6,none⟩=some (.int .i64 0)∧w'.cell? ⟨L.b,7,none⟩=some (.int .i64 0)∧w'.cell? ⟨L.b,10+n*20,none⟩=some (.int .i64 (q.thr n).f.fn)∧w'.cell? ⟨L.b,10+n*20+1,none⟩=some (.int .i64 (q.thr n).f.pc)∧w'.cell? ⟨L.b,10+n*20+2,none⟩=some (.int .u64 ((q.thr n).f.r 0:Nat))∧w'.cell? ⟨L.b,10+n*20+3,none⟩=some (.int .u64 ((q.thr n).f.r 1:Nat))∧w'.cell? ⟨L.b,10+n*20+4,none⟩=some (.int .u64 ((q.thr n).f.r 2:Nat))∧w'.cell? ⟨L.b,10+n*20+5,none⟩=some (.int .u64 ((q.thr n).f.r 3:Nat))∧w'.cell? ⟨L.b,10+n*20+6,none⟩=some (.int .u64 ((q.thr n).f.r 4:Nat))∧w'.cell? ⟨L.b,10+n*20+7,none⟩=some (.int .u64 ((q.thr n).f.r 5:Nat))∧w'.cell? ⟨L.b,10+n*20+8,none⟩=some (.int .u64 ((q.thr n).f.r 6:Nat))∧w'.cell? ⟨L.b,10+n*20+9,none⟩=some (.int .u64 ((q.thr n).f.r 7:Nat))):=fun w' h'=>⟨h'.code.2 0 (by omega),h'.code.2 1 (by omega),h'.code.2 2 (by omega),h'.code.2 3 (by omega),h'.code.2 4 (by omega),h'.code.2 5 (by omega),h'.code.2 6 (by omega),h'.code.2 7 (by omega),h'.cellAt hn 0 (by omega),h'.cellAt hn 1 (by omega),h'.cellAt hn 2 (by omega),h'.cellAt hn 3 (by omega),h'.cellAt hn 4 (by omega),h'.cellAt hn 5 (by omega),h'.cellAt hn 6 (by omega),h'.cellAt hn 7 (by omega),h'.cellAt hn 8 (by omega),h'.cellAt hn 9 (by omega)⟩
 rw [ei,enb] at KN
 have H1:Hid _:=e1.symm
 have HU:Hid _:=euz
 have HNB:Hid _:=hnb
 generalize (q.thr n).f=f at *
 clear h h1 hu hw ei enb e1 euz hnb
 go_enter Tryz.func28,Tryz.ntmps28
 go_upto_region 6 with (first | (rw [H1.out];clear H1) | (go_at_call 57;refine K1.mono ?_;rintro e w' ⟨rfl,ew⟩;subst w'))
 go_cut [9,10] from 23 to 39 (fun v9 v10 w'=>∃ bx,v9=.pointer (some ⟨bx,0,none⟩)∧v10=.bool nb∧Cor W w' L q k (Dk.boxOf bx #[.int .i64 i.op,.int .i64 i.a,.int .i64 i.b,.int .i64 i.c,.int .u64 (i.n:Nat)] 112::uz))
 case first=>
  refine Dk.zd (S:=fun w'=>Cor W w' L q k uz) [] [0,1,2,3,4,5,6,7] [8,9,10,11,13,14] 7 (by kernel_rfl) (by kernel_rfl) (by kernel_rfl) (by kernel_rfl) rfl hd _ ?_ (fun a' h=>h)
  refine Dk.za (v:=.pointer (some ⟨L.b,0,none⟩)) rfl rfl (fun w' hw'=>by go_simp) ?_
  simp only [zD]
  refine Dk.za (v:=.pointer (some ⟨L.b,0,none⟩)) rfl rfl (fun w' hw'=>by go_simp) ?_
  simp only [zD]
  refine Dk.za (v:=.pointer (some ⟨L.b,0,none⟩)) rfl rfl (fun w' hw'=>by go_simp) ?_
  simp only [zD]
  refine Dk.za (v:=.agg #[.slice L.cA L.cL L.cC,.int .i64 0,.int .i64 0,.int .i64 0,.slice none 0 0,.slice none 0 0,.int .i64 0,.int .i64 0]) rfl rfl (fun w' hw'=>by obtain ⟨c0,c1,c2,c3,c4,c5,c6,c7,c8,c9,c10,c11,c12,c13,c14,c15,c16,c17⟩:=MK _ hw';go_simp) ?_
  simp only [zD]
  refine Dk.za (v:=.pointer (some ⟨L.b,10+n*20,none⟩)) rfl rfl (fun w' hw'=>by go_simp) ?_
  simp only [zD]
  refine Dk.za (v:=.pointer (some ⟨L.b,10+n*20,none⟩)) rfl rfl (fun w' hw'=>by go_simp) ?_
  simp only [zD]
  refine Dk.za (v:=.pointer (some ⟨L.b,10+n*20,none⟩)) rfl rfl (fun w' hw'=>by go_simp) ?_
  simp only [zD]
  refine Dk.za (v:=.agg (Dk.fc f)) rfl rfl (fun w' hw'=>by obtain ⟨c0,c1,c2,c3,c4,c5,c6,c7,c8,c9,c10,c11,c12,c13,c14,c15,c16,c17⟩:=MK _ hw';go_simp) ?_
  simp only [zD]
  generalize W1.drew=WD at *
  refine Dk.treeY (rs:=[8,12]) (by kernel_rfl) (by simp) ?_
  intro i hi
  simp only [List.mem_cons,List.not_mem_nil,or_false] at hi
  rcases hi with rfl | rfl
  ·refine Dk.zm (some 32) rfl rfl rfl (f:=60) (args:=#[.agg #[.slice L.cA L.cL L.cC,.int .i64 0,.int .i64 0,.int .i64 0,.slice none 0 0,.slice none 0 0,.int .i64 0,.int .i64 0],Dk.fv f]) (by go_simp) ?_
   refine (KN _ _ hd).mono ?_
   rintro e w2 ⟨rfl,h2⟩
   refine ⟨_,rfl,fun _=>h2,?_⟩
   simp only [zD]
   refine Dk.zo (by kernel_rfl) (fun c a w h=>h) _ 3 _ [9,10,11] _ _ (by kernel_rfl) ?_ (fun a' h=>h)
   refine Dk.za (v:=.tuple #[.agg #[.int .i64 i.op,.int .i64 i.a,.int .i64 i.b,.int .i64 i.c,.int .u64 (i.n:Nat)],.bool nb]) rfl rfl (fun w' hw'=>by go_simp) ?_
   simp only [zD]
   refine Dk.za (v:=.agg #[.int .i64 i.op,.int .i64 i.a,.int .i64 i.b,.int .i64 i.c,.int .u64 (i.n:Nat)]) rfl rfl (fun w' hw'=>by go_simp) ?_
   simp only [zD]
   refine Dk.za (v:=.bool nb) rfl rfl (fun w' hw'=>by go_simp) ?_
   simp only [zD]
   refine Dk.treeY (rs:=[12]) (by kernel_rfl) (by simp) ?_
   intro i hi
   simp only [List.mem_cons,List.not_mem_nil,or_false] at hi
   subst hi
   obtain ⟨w3,ew3⟩:∃ w3,w3=w2.alloc (.cells #[.int .i64 0,.int .i64 0,.int .i64 0,.int .i64 0,.int .u64 0] 112):=⟨_,rfl⟩
   refine Dk.ze (v:=.pointer (some ⟨w2.heap.size,0,none⟩)) (w':=w3) (some 9) rfl rfl rfl (by rw [ew3];go_simp) ⟨fun _=>(h2.newBox ew3).drop,?_⟩
   simp only [zD]
   have h3:=(h2.newBox ew3).drop
   have q3:=h2.newBox ew3
   refine Dk.zl [13,14] _ _ _ (by kernel_rfl) ?_
   refine Dk.zr rfl rfl ?_
   have HB:Dk.Box w3 (w2.heap.size) #[.int .i64 0,.int .i64 0,.int .i64 0,.int .i64 0,.int .u64 0] 112:=q3.box (by simp)
   refine wp_store_row 112 _ _ rfl w2.heap.size #[.int .i64 i.op,.int .i64 i.a,.int .i64 i.b,.int .i64 i.c,.int .u64 (i.n:Nat)] rfl rfl 112 _ HB.heap sizeIns rfl (zca _ _ _ _ _) ⟨fun h=>absurd (by decide) h,?_⟩
   simp only [zD]
   refine Dk.zj (v:=.bool nb) (w':=w3.setRow w2.heap.size #[.int .i64 i.op,.int .i64 i.a,.int .i64 i.b,.int .i64 i.c,.int .u64 (i.n:Nat)]) (some 10) rfl rfl rfl (by go_simp) (fun h=>absurd (by decide) h) ?_
   simp only [zD]
   show NoPanic _ Exit.normal _ _
   refine NoPanic.normal ?_
   rename_i hK
   refine hK _ _ ?_
   go_meet
   exact ⟨w2.heap.size,rfl,rfl,q3.setRow rfl⟩
  ·obtain ⟨w3,ew3⟩:∃ w3,w3=WD.alloc (.cells #[.int .i64 0,.int .i64 0,.int .i64 0,.int .i64 0,.int .u64 0] 112):=⟨_,rfl⟩
   refine Dk.ze (v:=.pointer (some ⟨WD.heap.size,0,none⟩)) (w':=w3) (some 9) rfl rfl rfl (by rw [ew3];go_simp) ⟨fun _=>(hd.newBox ew3).drop,?_⟩
   simp only [zD]
   have q3:=hd.newBox ew3
   refine Dk.treeY (rs:=[8]) (by kernel_rfl) (by simp) ?_
   intro i hi
   simp only [List.mem_cons,List.not_mem_nil,or_false] at hi
   subst hi
   refine Dk.zm (some 32) rfl rfl rfl (f:=60) (args:=#[.agg #[.slice L.cA L.cL L.cC,.int .i64 0,.int .i64 0,.int .i64 0,.slice none 0 0,.slice none 0 0,.int .i64 0,.int .i64 0],Dk.fv f]) (by go_simp) ?_
   refine (KN _ _ q3).mono ?_
   rintro e w2 ⟨rfl,q2⟩
   refine ⟨_,rfl,fun _=>q2.drop,?_⟩
   simp only [zD]
   refine Dk.zo (by kernel_rfl) (fun c a w h=>h) _ 2 _ [9,10,11] _ _ (by kernel_rfl) ?_ (fun a' h=>h)
   refine Dk.za (v:=.tuple #[.agg #[.int .i64 i.op,.int .i64 i.a,.int .i64 i.b,.int .i64 i.c,.int .u64 (i.n:Nat)],.bool nb]) rfl rfl (fun w' hw'=>by go_simp) ?_
   simp only [zD]
   refine Dk.za (v:=.agg #[.int .i64 i.op,.int .i64 i.a,.int .i64 i.b,.int .i64 i.c,.int .u64 (i.n:Nat)]) rfl rfl (fun w' hw'=>by go_simp) ?_
   simp only [zD]
   refine Dk.za (v:=.bool nb) rfl rfl (fun w' hw'=>by go_simp) ?_
   simp only [zD]
   refine Dk.zl [13,14] _ _ _ (by kernel_rfl) ?_
   refine Dk.zr rfl rfl ?_
   have HB:Dk.Box w2 (WD.heap.size) #[.int .i64 0,.int .i64 0,.int .i64 0,.int .i64 0,.int .u64 0] 112:=q2.box (by simp)
   refine wp_store_row 112 _ _ rfl WD.heap.size #[.int .i64 i.op,.int .i64 i.a,.int .i64 i.b,.int .i64 i.c,.int .u64 (i.n:Nat)] rfl rfl 112 _ HB.heap sizeIns rfl (zca _ _ _ _ _) ⟨fun h=>absurd (by decide) h,?_⟩
   simp only [zD]
   refine Dk.zj (v:=.bool nb) (w':=w2.setRow WD.heap.size #[.int .i64 i.op,.int .i64 i.a,.int .i64 i.b,.int .i64 i.c,.int .u64 (i.n:Nat)]) (some 10) rfl rfl rfl (by go_simp) (fun h=>absurd (by decide) h) ?_
   simp only [zD]
   show NoPanic _ Exit.normal _ _
   refine NoPanic.normal ?_
   rename_i hK
   refine hK _ _ ?_
   go_meet
   exact ⟨WD.heap.size,rfl,rfl,q2.setRow rfl⟩
 case rest=>
  obtain ⟨bx,rfl,rfl,hC⟩:=hcut
  have hnb:=HNB.out
  subst hnb
  clear HNB
  have hb:Dk.Box wc bx #[.int .i64 i.op,.int .i64 i.a,.int .i64 i.b,.int .i64 i.c,.int .u64 (i.n:Nat)] 112:=hC.box (by simp)
  have cb:=hb.cell
  clear hd MK KN
  have K5:=hK _ _ hC
  clear hC hK
  go_wp2_with fail
  refine K5.mono ?_
  rintro e w5 ⟨A,C,rfl,h5⟩
  have z5:Dk.Box w5 w.heap.size #[.slice none 0 0,.bool false,.bool false,.bool false] 68:=by rw [HU.out] at h5;exact h5.box (by simp)
  have h6:Cor W (w5.setRow w.heap.size #[.slice A E.woken.length C,.bool E.stopped,.bool E.ended,.bool E.yielded]) L qz k' (Dk.rowOf 3 1 (.slice A E.woken.length C) E.woken.length (Dk.is E.woken)::us):=by
   rw [HU.out] at h5
   exact (h5.swap.drop.swap.setRow (cs':=#[.slice A E.woken.length C,.bool E.stopped,.bool E.ended,.bool E.yielded]) rfl).drop
  have d0:=(z5.row (cs':=#[.slice A E.woken.length C,.bool E.stopped,.bool E.ended,.bool E.yielded])).cell
  have HB:Hid _:=z5
  clear K5 h5 z5 cb hb
  go_wp2_with (refine wpList_store_row rfl 68 _ _ rfl w.heap.size #[.slice A E.woken.length C,.bool E.stopped,.bool E.ended,.bool E.yielded] rfl rfl 68 _ HB.out.heap sizeEff rfl (zak _ _ _ _ _ _) ?_)
  exact bodyPost_ret (v:=.tuple #[eff A E.woken.length C E.stopped E.ended E.yielded,.int .i64 0]) (by simp [results,Tryz.results28,go_sem,d0]) rfl ⟨A,C,rfl,h6⟩
theorem zpv (h:Cor W w L q k us) (hk:k≤100000) (hn:n < 16) (hu:Dk.us q.st n=true) (hw:(q.thr n).why=0) (i:Dk.Ins) (ei:Dk.nextI q.prog (q.thr n).f=i) (nb:Bool) (enb:Dk.nextB q.prog (q.thr n).f=nb) (hnb:nb=true) (h23:i.op≠23) (hcl:Dk.classOf i.op=1) (hK:∀ w us,Cor W w L q k us→Calls Tryz.prog 66 #[.pointer (some ⟨L.b,0,none⟩),.int .i64 (n:Int),Dk.iv i] w (Ef W L qz k' E us)) :
  Calls Tryz.prog 28 #[.pointer (some ⟨L.b,0,none⟩),.int .i64 (n:Int),.int .i64 ch] w (Ef0 W L qz k' E us):=by
 obtain ⟨W1,e1⟩:∃ W1,W1=w.alloc (.cells #[.slice none 0 0,.bool false,.bool false,.bool false] 68):=⟨_,rfl⟩
 have h1:=h.newBox e1
 obtain ⟨uz,euz⟩:∃ uz,uz=Dk.boxOf w.heap.size #[.slice none 0 0,.bool false,.bool false,.bool false] 68::us:=⟨_,rfl⟩
 rw [← euz] at h1
 have K1:=zbl h1 hk n hn hu
 have d10:W1.cell? ⟨L.b,10+n*20+10,none⟩=some (.int .i64 0):=by rw [h1.cellAt hn 10 (by omega),← hw];rfl
 have hd:=h1.below (Dk.zh (Below.refl _ _))
 have KN:∀ w1 us',Cor W w1 L q k us'→Calls Tryz.prog 60 #[.agg #[.slice L.cA L.cL L.cC,.int .i64 0,.int .i64 0,.int .i64 0,.slice none 0 0,.slice none 0 0,.int .i64 0,.int .i64 0],Dk.fv (q.thr n).f] w1 fun e w'=>e=.returned (.tuple #[Dk.iv (Dk.nextI q.prog (q.thr n).f),.bool (Dk.nextB q.prog (q.thr n).f)])∧Cor W w' L q k us':=fun w1 us' h1=>zei h1 _
 have MK:∀ w',Cor W w' L q k uz→(w'.cell? ⟨L.b,0,none⟩=some (.slice L.cA L.cL L.cC)∧w'.cell? ⟨L.b,1,none⟩=some (.int .i64 0)∧w'.cell? ⟨L.b,2,none⟩=some (.int .i64 0)∧w'.cell? ⟨L.b,3,none⟩=some (.int .i64 0)∧w'.cell? ⟨L.b,4,none⟩=some (.slice none 0 0)∧w'.cell? ⟨L.b,5,none⟩=some (.slice none 0 0)∧w'.cell? ⟨L.b,6,none⟩=some (.int .i64 0)∧w'.cell? ⟨L.b,7,none⟩=some (.int .i64 0)∧w'.cell? ⟨L.b,10+n*20,none⟩=some (.int .i64 (q.thr n).f.fn)∧w'.cell? ⟨L.b,10+n*20+1,none⟩=some (.int .i64 (q.thr n).f.pc)∧w'.cell? ⟨L.b,10+n*20+2,none⟩=some (.int .u64 ((q.thr n).f.r 0:Nat))∧w'.cell? ⟨L.b,10+n*20+3,none⟩=some (.int .u64 ((q.thr n).f.r 1:Nat))∧w'.cell? ⟨L.b,10+n*20+4,none⟩=some (.int .u64 ((q.thr n).f.r 2:Nat))∧w'.cell? ⟨L.b,10+n*20+5,none⟩=some (.int .u64 ((q.thr n).f.r 3:Nat))∧w'.cell? ⟨L.b,10+n*20+6,none⟩=some (.int .u64 ((q.thr n).f.r 4:Nat))∧w'.cell? ⟨L.b,10+n*20+7,none⟩=some (.int .u64 ((q.thr n).f.r 5:Nat))∧w'.cell? ⟨L.b,10+n*20+8,none⟩=some (.int .u64 ((q.thr n).f.r 6:Nat))∧w'.cell? ⟨L.b,10+n*20+9,none⟩=some (.int .u64 ((q.thr n).f.r 7:Nat))):=fun w' h'=>⟨h'.code.2 0 (by omega),h'.code.2 1 (by omega),h'.code.2 2 (by omega),h'.code.2 3 (by omega),h'.code.2 4 (by omega),h'.code.2 5 (by omega),h'.code.2 6 (by omega),h'.code.2 7 (by omega),h'.cellAt hn 0 (by omega),h'.cellAt hn 1 (by omega),h'.cellAt hn 2 (by omega),h'.cellAt hn 3 (by omega),h'.cellAt hn 4 (by omega),h'.cellAt hn 5 (by omega),h'.cellAt hn 6 (by omega),h'.cellAt hn 7 (by omega),h'.cellAt hn 8 (by omega),h'.cellAt hn 9 (by omega)⟩
 rw [ei,enb] at KN
 have H1:Hid _:=e1.symm
 have HU:Hid _:=euz
 have HNB:Hid _:=hnb
 have y23:(i.op == 23)=false:=by simpa using h23
 have ycl:(Dk.classOf i.op == 1)=true:=by simpa using hcl
 generalize (q.thr n).f=f at *
 clear h h1 hu hw ei enb e1 euz hnb
 go_enter Tryz.func28,Tryz.ntmps28
 go_upto_region 6 with (first | (rw [H1.out];clear H1) | (go_at_call 57;refine K1.mono ?_;rintro e w' ⟨rfl,ew⟩;subst w'))
 go_cut [9,10] from 23 to 39 (fun v9 v10 w'=>∃ bx,v9=.pointer (some ⟨bx,0,none⟩)∧v10=.bool nb∧Cor W w' L q k (Dk.boxOf bx #[.int .i64 i.op,.int .i64 i.a,.int .i64 i.b,.int .i64 i.c,.int .u64 (i.n:Nat)] 112::uz))
 case first=>
  refine Dk.zd (S:=fun w'=>Cor W w' L q k uz) [] [0,1,2,3,4,5,6,7] [8,9,10,11,13,14] 7 (by kernel_rfl) (by kernel_rfl) (by kernel_rfl) (by kernel_rfl) rfl hd _ ?_ (fun a' h=>h)
  refine Dk.za (v:=.pointer (some ⟨L.b,0,none⟩)) rfl rfl (fun w' hw'=>by go_simp) ?_
  simp only [zD]
  refine Dk.za (v:=.pointer (some ⟨L.b,0,none⟩)) rfl rfl (fun w' hw'=>by go_simp) ?_
  simp only [zD]
  refine Dk.za (v:=.pointer (some ⟨L.b,0,none⟩)) rfl rfl (fun w' hw'=>by go_simp) ?_
  simp only [zD]
  refine Dk.za (v:=.agg #[.slice L.cA L.cL L.cC,.int .i64 0,.int .i64 0,.int .i64 0,.slice none 0 0,.slice none 0 0,.int .i64 0,.int .i64 0]) rfl rfl (fun w' hw'=>by obtain ⟨c0,c1,c2,c3,c4,c5,c6,c7,c8,c9,c10,c11,c12,c13,c14,c15,c16,c17⟩:=MK _ hw';go_simp) ?_
  simp only [zD]
  refine Dk.za (v:=.pointer (some ⟨L.b,10+n*20,none⟩)) rfl rfl (fun w' hw'=>by go_simp) ?_
  simp only [zD]
  refine Dk.za (v:=.pointer (some ⟨L.b,10+n*20,none⟩)) rfl rfl (fun w' hw'=>by go_simp) ?_
  simp only [zD]
  refine Dk.za (v:=.pointer (some ⟨L.b,10+n*20,none⟩)) rfl rfl (fun w' hw'=>by go_simp) ?_
  simp only [zD]
  refine Dk.za (v:=.agg (Dk.fc f)) rfl rfl (fun w' hw'=>by obtain ⟨c0,c1,c2,c3,c4,c5,c6,c7,c8,c9,c10,c11,c12,c13,c14,c15,c16,c17⟩:=MK _ hw';go_simp) ?_
  simp only [zD]
  generalize W1.drew=WD at *
  refine Dk.treeY (rs:=[8,12]) (by kernel_rfl) (by simp) ?_
  intro i hi
  simp only [List.mem_cons,List.not_mem_nil,or_false] at hi
  rcases hi with rfl | rfl
  ·refine Dk.zm (some 32) rfl rfl rfl (f:=60) (args:=#[.agg #[.slice L.cA L.cL L.cC,.int .i64 0,.int .i64 0,.int .i64 0,.slice none 0 0,.slice none 0 0,.int .i64 0,.int .i64 0],Dk.fv f]) (by go_simp) ?_
   refine (KN _ _ hd).mono ?_
   rintro e w2 ⟨rfl,h2⟩
   refine ⟨_,rfl,fun _=>h2,?_⟩
   simp only [zD]
   refine Dk.zo (by kernel_rfl) (fun c a w h=>h) _ 3 _ [9,10,11] _ _ (by kernel_rfl) ?_ (fun a' h=>h)
   refine Dk.za (v:=.tuple #[.agg #[.int .i64 i.op,.int .i64 i.a,.int .i64 i.b,.int .i64 i.c,.int .u64 (i.n:Nat)],.bool nb]) rfl rfl (fun w' hw'=>by go_simp) ?_
   simp only [zD]
   refine Dk.za (v:=.agg #[.int .i64 i.op,.int .i64 i.a,.int .i64 i.b,.int .i64 i.c,.int .u64 (i.n:Nat)]) rfl rfl (fun w' hw'=>by go_simp) ?_
   simp only [zD]
   refine Dk.za (v:=.bool nb) rfl rfl (fun w' hw'=>by go_simp) ?_
   simp only [zD]
   refine Dk.treeY (rs:=[12]) (by kernel_rfl) (by simp) ?_
   intro i hi
   simp only [List.mem_cons,List.not_mem_nil,or_false] at hi
   subst hi
   obtain ⟨w3,ew3⟩:∃ w3,w3=w2.alloc (.cells #[.int .i64 0,.int .i64 0,.int .i64 0,.int .i64 0,.int .u64 0] 112):=⟨_,rfl⟩
   refine Dk.ze (v:=.pointer (some ⟨w2.heap.size,0,none⟩)) (w':=w3) (some 9) rfl rfl rfl (by rw [ew3];go_simp) ⟨fun _=>(h2.newBox ew3).drop,?_⟩
   simp only [zD]
   have h3:=(h2.newBox ew3).drop
   have q3:=h2.newBox ew3
   refine Dk.zl [13,14] _ _ _ (by kernel_rfl) ?_
   refine Dk.zr rfl rfl ?_
   have HB:Dk.Box w3 (w2.heap.size) #[.int .i64 0,.int .i64 0,.int .i64 0,.int .i64 0,.int .u64 0] 112:=q3.box (by simp)
   refine wp_store_row 112 _ _ rfl w2.heap.size #[.int .i64 i.op,.int .i64 i.a,.int .i64 i.b,.int .i64 i.c,.int .u64 (i.n:Nat)] rfl rfl 112 _ HB.heap sizeIns rfl (zca _ _ _ _ _) ⟨fun h=>absurd (by decide) h,?_⟩
   simp only [zD]
   refine Dk.zj (v:=.bool nb) (w':=w3.setRow w2.heap.size #[.int .i64 i.op,.int .i64 i.a,.int .i64 i.b,.int .i64 i.c,.int .u64 (i.n:Nat)]) (some 10) rfl rfl rfl (by go_simp) (fun h=>absurd (by decide) h) ?_
   simp only [zD]
   show NoPanic _ Exit.normal _ _
   refine NoPanic.normal ?_
   rename_i hK
   refine hK _ _ ?_
   go_meet
   exact ⟨w2.heap.size,rfl,rfl,q3.setRow rfl⟩
  ·obtain ⟨w3,ew3⟩:∃ w3,w3=WD.alloc (.cells #[.int .i64 0,.int .i64 0,.int .i64 0,.int .i64 0,.int .u64 0] 112):=⟨_,rfl⟩
   refine Dk.ze (v:=.pointer (some ⟨WD.heap.size,0,none⟩)) (w':=w3) (some 9) rfl rfl rfl (by rw [ew3];go_simp) ⟨fun _=>(hd.newBox ew3).drop,?_⟩
   simp only [zD]
   have q3:=hd.newBox ew3
   refine Dk.treeY (rs:=[8]) (by kernel_rfl) (by simp) ?_
   intro i hi
   simp only [List.mem_cons,List.not_mem_nil,or_false] at hi
   subst hi
   refine Dk.zm (some 32) rfl rfl rfl (f:=60) (args:=#[.agg #[.slice L.cA L.cL L.cC,.int .i64 0,.int .i64 0,.int .i64 0,.slice none 0 0,.slice none 0 0,.int .i64 0,.int .i64 0],Dk.fv f]) (by go_simp) ?_
   refine (KN _ _ q3).mono ?_
   rintro e w2 ⟨rfl,q2⟩
   refine ⟨_,rfl,fun _=>q2.drop,?_⟩
   simp only [zD]
   refine Dk.zo (by kernel_rfl) (fun c a w h=>h) _ 2 _ [9,10,11] _ _ (by kernel_rfl) ?_ (fun a' h=>h)
   refine Dk.za (v:=.tuple #[.agg #[.int .i64 i.op,.int .i64 i.a,.int .i64 i.b,.int .i64 i.c,.int .u64 (i.n:Nat)],.bool nb]) rfl rfl (fun w' hw'=>by go_simp) ?_
   simp only [zD]
   refine Dk.za (v:=.agg #[.int .i64 i.op,.int .i64 i.a,.int .i64 i.b,.int .i64 i.c,.int .u64 (i.n:Nat)]) rfl rfl (fun w' hw'=>by go_simp) ?_
   simp only [zD]
   refine Dk.za (v:=.bool nb) rfl rfl (fun w' hw'=>by go_simp) ?_
   simp only [zD]
   refine Dk.zl [13,14] _ _ _ (by kernel_rfl) ?_
   refine Dk.zr rfl rfl ?_
   have HB:Dk.Box w2 (WD.heap.size) #[.int .i64 0,.int .i64 0,.int .i64 0,.int .i64 0,.int .u64 0] 112:=q2.box (by simp)
   refine wp_store_row 112 _ _ rfl WD.heap.size #[.int .i64 i.op,.int .i64 i.a,.int .i64 i.b,.int .i64 i.c,.int .u64 (i.n:Nat)] rfl rfl 112 _ HB.heap sizeIns rfl (zca _ _ _ _ _) ⟨fun h=>absurd (by decide) h,?_⟩
   simp only [zD]
   refine Dk.zj (v:=.bool nb) (w':=w2.setRow WD.heap.size #[.int .i64 i.op,.int .i64 i.a,.int .i64 i.b,.int .i64 i.c,.int .u64 (i.n:Nat)]) (some 10) rfl rfl rfl (by go_simp) (fun h=>absurd (by decide) h) ?_
   simp only [zD]
   show NoPanic _ Exit.normal _ _
   refine NoPanic.normal ?_
   rename_i hK
   refine hK _ _ ?_
   go_meet
   exact ⟨WD.heap.size,rfl,rfl,q2.setRow rfl⟩
 case rest=>
  obtain ⟨bx,rfl,rfl,hC⟩:=hcut
  have hnb:=HNB.out
  subst hnb
  clear HNB
  have hb:Dk.Box wc bx #[.int .i64 i.op,.int .i64 i.a,.int .i64 i.b,.int .i64 i.c,.int .u64 (i.n:Nat)] 112:=hC.box (by simp)
  have cb:=hb.cell
  clear hd MK KN
  have K5:=hK _ _ hC
  have KC:=fun op w=>zdc op w
  clear hC hK
  go_wp2_with (go_at_call 61;refine (KC _ _).mono ?_;rintro e w' ⟨rfl,rfl⟩)
  refine K5.mono ?_
  rintro e w5 ⟨A,C,rfl,h5⟩
  have z5:Dk.Box w5 w.heap.size #[.slice none 0 0,.bool false,.bool false,.bool false] 68:=by rw [HU.out] at h5;exact h5.box (by simp)
  have h6:Cor W (w5.setRow w.heap.size #[.slice A E.woken.length C,.bool E.stopped,.bool E.ended,.bool E.yielded]) L qz k' (Dk.rowOf 3 1 (.slice A E.woken.length C) E.woken.length (Dk.is E.woken)::us):=by
   rw [HU.out] at h5
   exact (h5.swap.drop.swap.setRow (cs':=#[.slice A E.woken.length C,.bool E.stopped,.bool E.ended,.bool E.yielded]) rfl).drop
  have d0:=(z5.row (cs':=#[.slice A E.woken.length C,.bool E.stopped,.bool E.ended,.bool E.yielded])).cell
  have HB:Hid _:=z5
  clear K5 h5 z5 cb hb
  go_wp2_with (refine wpList_store_row rfl 68 _ _ rfl w.heap.size #[.slice A E.woken.length C,.bool E.stopped,.bool E.ended,.bool E.yielded] rfl rfl 68 _ HB.out.heap sizeEff rfl (zak _ _ _ _ _ _) ?_)
  exact bodyPost_ret (v:=.tuple #[eff A E.woken.length C E.stopped E.ended E.yielded,.int .i64 0]) (by simp [results,Tryz.results28,go_sem,d0]) rfl ⟨A,C,rfl,h6⟩
theorem run_act (h:Cor W w L q k us) (hk:k≤100000) (hn:n < 16) (hu:Dk.us q.st n=true) (hw:(q.thr n).why=0) (i:Dk.Ins) (ei:Dk.nextI q.prog (q.thr n).f=i) (nb:Bool) (enb:Dk.nextB q.prog (q.thr n).f=nb) (hnb:nb=true) (h23:i.op≠23) (hcl:¬ Dk.classOf i.op=1) (hK:∀ w us,Cor W w L q k us→Calls Tryz.prog 67 #[.pointer (some ⟨L.b,0,none⟩),.int .i64 (n:Int),Dk.iv i,.int .i64 ch] w (Ef W L qz k' E us)) :
  Calls Tryz.prog 28 #[.pointer (some ⟨L.b,0,none⟩),.int .i64 (n:Int),.int .i64 ch] w (Ef0 W L qz k' E us):=by
 obtain ⟨W1,e1⟩:∃ W1,W1=w.alloc (.cells #[.slice none 0 0,.bool false,.bool false,.bool false] 68):=⟨_,rfl⟩
 have h1:=h.newBox e1
 obtain ⟨uz,euz⟩:∃ uz,uz=Dk.boxOf w.heap.size #[.slice none 0 0,.bool false,.bool false,.bool false] 68::us:=⟨_,rfl⟩
 rw [← euz] at h1
 have K1:=zbl h1 hk n hn hu
 have d10:W1.cell? ⟨L.b,10+n*20+10,none⟩=some (.int .i64 0):=by rw [h1.cellAt hn 10 (by omega),← hw];rfl
 have hd:=h1.below (Dk.zh (Below.refl _ _))
 have KN:∀ w1 us',Cor W w1 L q k us'→Calls Tryz.prog 60 #[.agg #[.slice L.cA L.cL L.cC,.int .i64 0,.int .i64 0,.int .i64 0,.slice none 0 0,.slice none 0 0,.int .i64 0,.int .i64 0],Dk.fv (q.thr n).f] w1 fun e w'=>e=.returned (.tuple #[Dk.iv (Dk.nextI q.prog (q.thr n).f),.bool (Dk.nextB q.prog (q.thr n).f)])∧Cor W w' L q k us':=fun w1 us' h1=>zei h1 _
 have MK:∀ w',Cor W w' L q k uz→(w'.cell? ⟨L.b,0,none⟩=some (.slice L.cA L.cL L.cC)∧w'.cell? ⟨L.b,1,none⟩=some (.int .i64 0)∧w'.cell? ⟨L.b,2,none⟩=some (.int .i64 0)∧w'.cell? ⟨L.b,3,none⟩=some (.int .i64 0)∧w'.cell? ⟨L.b,4,none⟩=some (.slice none 0 0)∧w'.cell? ⟨L.b,5,none⟩=some (.slice none 0 0)∧w'.cell? ⟨L.b,6,none⟩=some (.int .i64 0)∧w'.cell? ⟨L.b,7,none⟩=some (.int .i64 0)∧w'.cell? ⟨L.b,10+n*20,none⟩=some (.int .i64 (q.thr n).f.fn)∧w'.cell? ⟨L.b,10+n*20+1,none⟩=some (.int .i64 (q.thr n).f.pc)∧w'.cell? ⟨L.b,10+n*20+2,none⟩=some (.int .u64 ((q.thr n).f.r 0:Nat))∧w'.cell? ⟨L.b,10+n*20+3,none⟩=some (.int .u64 ((q.thr n).f.r 1:Nat))∧w'.cell? ⟨L.b,10+n*20+4,none⟩=some (.int .u64 ((q.thr n).f.r 2:Nat))∧w'.cell? ⟨L.b,10+n*20+5,none⟩=some (.int .u64 ((q.thr n).f.r 3:Nat))∧w'.cell? ⟨L.b,10+n*20+6,none⟩=some (.int .u64 ((q.thr n).f.r 4:Nat))∧w'.cell? ⟨L.b,10+n*20+7,none⟩=some (.int .u64 ((q.thr n).f.r 5:Nat))∧w'.cell? ⟨L.b,10+n*20+8,none⟩=some (.int .u64 ((q.thr n).f.r 6:Nat))∧w'.cell? ⟨L.b,10+n*20+9,none⟩=some (.int .u64 ((q.thr n).f.r 7:Nat))):=fun w' h'=>⟨h'.code.2 0 (by omega),h'.code.2 1 (by omega),h'.code.2 2 (by omega),h'.code.2 3 (by omega),h'.code.2 4 (by omega),h'.code.2 5 (by omega),h'.code.2 6 (by omega),h'.code.2 7 (by omega),h'.cellAt hn 0 (by omega),h'.cellAt hn 1 (by omega),h'.cellAt hn 2 (by omega),h'.cellAt hn 3 (by omega),h'.cellAt hn 4 (by omega),h'.cellAt hn 5 (by omega),h'.cellAt hn 6 (by omega),h'.cellAt hn 7 (by omega),h'.cellAt hn 8 (by omega),h'.cellAt hn 9 (by omega)⟩
 rw [ei,enb] at KN
 have H1:Hid _:=e1.symm
 have HU:Hid _:=euz
 have HNB:Hid _:=hnb
 have y23:(i.op == 23)=false:=by simpa using h23
 have ycl:(Dk.classOf i.op == 1)=false:=by simpa using hcl
 generalize (q.thr n).f=f at *
 clear h h1 hu hw ei enb e1 euz hnb
 go_enter Tryz.func28,Tryz.ntmps28
 go_upto_region 6 with (first | (rw [H1.out];clear H1) | (go_at_call 57;refine K1.mono ?_;rintro e w' ⟨rfl,ew⟩;subst w'))
 go_cut [9,10] from 23 to 39 (fun v9 v10 w'=>∃ bx,v9=.pointer (some ⟨bx,0,none⟩)∧v10=.bool nb∧Cor W w' L q k (Dk.boxOf bx #[.int .i64 i.op,.int .i64 i.a,.int .i64 i.b,.int .i64 i.c,.int .u64 (i.n:Nat)] 112::uz))
 case first=>
  refine Dk.zd (S:=fun w'=>Cor W w' L q k uz) [] [0,1,2,3,4,5,6,7] [8,9,10,11,13,14] 7 (by kernel_rfl) (by kernel_rfl) (by kernel_rfl) (by kernel_rfl) rfl hd _ ?_ (fun a' h=>h)
  refine Dk.za (v:=.pointer (some ⟨L.b,0,none⟩)) rfl rfl (fun w' hw'=>by go_simp) ?_
  simp only [zD]
  refine Dk.za (v:=.pointer (some ⟨L.b,0,none⟩)) rfl rfl (fun w' hw'=>by go_simp) ?_
  simp only [zD]
  refine Dk.za (v:=.pointer (some ⟨L.b,0,none⟩)) rfl rfl (fun w' hw'=>by go_simp) ?_
  simp only [zD]
  refine Dk.za (v:=.agg #[.slice L.cA L.cL L.cC,.int .i64 0,.int .i64 0,.int .i64 0,.slice none 0 0,.slice none 0 0,.int .i64 0,.int .i64 0]) rfl rfl (fun w' hw'=>by obtain ⟨c0,c1,c2,c3,c4,c5,c6,c7,c8,c9,c10,c11,c12,c13,c14,c15,c16,c17⟩:=MK _ hw';go_simp) ?_
  simp only [zD]
  refine Dk.za (v:=.pointer (some ⟨L.b,10+n*20,none⟩)) rfl rfl (fun w' hw'=>by go_simp) ?_
  simp only [zD]
  refine Dk.za (v:=.pointer (some ⟨L.b,10+n*20,none⟩)) rfl rfl (fun w' hw'=>by go_simp) ?_
  simp only [zD]
  refine Dk.za (v:=.pointer (some ⟨L.b,10+n*20,none⟩)) rfl rfl (fun w' hw'=>by go_simp) ?_
  simp only [zD]
  refine Dk.za (v:=.agg (Dk.fc f)) rfl rfl (fun w' hw'=>by obtain ⟨c0,c1,c2,c3,c4,c5,c6,c7,c8,c9,c10,c11,c12,c13,c14,c15,c16,c17⟩:=MK _ hw';go_simp) ?_
  simp only [zD]
  generalize W1.drew=WD at *
  refine Dk.treeY (rs:=[8,12]) (by kernel_rfl) (by simp) ?_
  intro i hi
  simp only [List.mem_cons,List.not_mem_nil,or_false] at hi
  rcases hi with rfl | rfl
  ·refine Dk.zm (some 32) rfl rfl rfl (f:=60) (args:=#[.agg #[.slice L.cA L.cL L.cC,.int .i64 0,.int .i64 0,.int .i64 0,.slice none 0 0,.slice none 0 0,.int .i64 0,.int .i64 0],Dk.fv f]) (by go_simp) ?_
   refine (KN _ _ hd).mono ?_
   rintro e w2 ⟨rfl,h2⟩
   refine ⟨_,rfl,fun _=>h2,?_⟩
   simp only [zD]
   refine Dk.zo (by kernel_rfl) (fun c a w h=>h) _ 3 _ [9,10,11] _ _ (by kernel_rfl) ?_ (fun a' h=>h)
   refine Dk.za (v:=.tuple #[.agg #[.int .i64 i.op,.int .i64 i.a,.int .i64 i.b,.int .i64 i.c,.int .u64 (i.n:Nat)],.bool nb]) rfl rfl (fun w' hw'=>by go_simp) ?_
   simp only [zD]
   refine Dk.za (v:=.agg #[.int .i64 i.op,.int .i64 i.a,.int .i64 i.b,.int .i64 i.c,.int .u64 (i.n:Nat)]) rfl rfl (fun w' hw'=>by go_simp) ?_
   simp only [zD]
   refine Dk.za (v:=.bool nb) rfl rfl (fun w' hw'=>by go_simp) ?_
   simp only [zD]
   refine Dk.treeY (rs:=[12]) (by kernel_rfl) (by simp) ?_
   intro i hi
   simp only [List.mem_cons,List.not_mem_nil,or_false] at hi
   subst hi
   obtain ⟨w3,ew3⟩:∃ w3,w3=w2.alloc (.cells #[.int .i64 0,.int .i64 0,.int .i64 0,.int .i64 0,.int .u64 0] 112):=⟨_,rfl⟩
   refine Dk.ze (v:=.pointer (some ⟨w2.heap.size,0,none⟩)) (w':=w3) (some 9) rfl rfl rfl (by rw [ew3];go_simp) ⟨fun _=>(h2.newBox ew3).drop,?_⟩
   simp only [zD]
   have h3:=(h2.newBox ew3).drop
   have q3:=h2.newBox ew3
   refine Dk.zl [13,14] _ _ _ (by kernel_rfl) ?_
   refine Dk.zr rfl rfl ?_
   have HB:Dk.Box w3 (w2.heap.size) #[.int .i64 0,.int .i64 0,.int .i64 0,.int .i64 0,.int .u64 0] 112:=q3.box (by simp)
   refine wp_store_row 112 _ _ rfl w2.heap.size #[.int .i64 i.op,.int .i64 i.a,.int .i64 i.b,.int .i64 i.c,.int .u64 (i.n:Nat)] rfl rfl 112 _ HB.heap sizeIns rfl (zca _ _ _ _ _) ⟨fun h=>absurd (by decide) h,?_⟩
   simp only [zD]
   refine Dk.zj (v:=.bool nb) (w':=w3.setRow w2.heap.size #[.int .i64 i.op,.int .i64 i.a,.int .i64 i.b,.int .i64 i.c,.int .u64 (i.n:Nat)]) (some 10) rfl rfl rfl (by go_simp) (fun h=>absurd (by decide) h) ?_
   simp only [zD]
   show NoPanic _ Exit.normal _ _
   refine NoPanic.normal ?_
   rename_i hK
   refine hK _ _ ?_
   go_meet
   exact ⟨w2.heap.size,rfl,rfl,q3.setRow rfl⟩
  ·obtain ⟨w3,ew3⟩:∃ w3,w3=WD.alloc (.cells #[.int .i64 0,.int .i64 0,.int .i64 0,.int .i64 0,.int .u64 0] 112):=⟨_,rfl⟩
   refine Dk.ze (v:=.pointer (some ⟨WD.heap.size,0,none⟩)) (w':=w3) (some 9) rfl rfl rfl (by rw [ew3];go_simp) ⟨fun _=>(hd.newBox ew3).drop,?_⟩
   simp only [zD]
   have q3:=hd.newBox ew3
   refine Dk.treeY (rs:=[8]) (by kernel_rfl) (by simp) ?_
   intro i hi
   simp only [List.mem_cons,List.not_mem_nil,or_false] at hi
   subst hi
   refine Dk.zm (some 32) rfl rfl rfl (f:=60) (args:=#[.agg #[.slice L.cA L.cL L.cC,.int .i64 0,.int .i64 0,.int .i64 0,.slice none 0 0,.slice none 0 0,.int .i64 0,.int .i64 0],Dk.fv f]) (by go_simp) ?_
   refine (KN _ _ q3).mono ?_
   rintro e w2 ⟨rfl,q2⟩
   refine ⟨_,rfl,fun _=>q2.drop,?_⟩
   simp only [zD]
   refine Dk.zo (by kernel_rfl) (fun c a w h=>h) _ 2 _ [9,10,11] _ _ (by kernel_rfl) ?_ (fun a' h=>h)
   refine Dk.za (v:=.tuple #[.agg #[.int .i64 i.op,.int .i64 i.a,.int .i64 i.b,.int .i64 i.c,.int .u64 (i.n:Nat)],.bool nb]) rfl rfl (fun w' hw'=>by go_simp) ?_
   simp only [zD]
   refine Dk.za (v:=.agg #[.int .i64 i.op,.int .i64 i.a,.int .i64 i.b,.int .i64 i.c,.int .u64 (i.n:Nat)]) rfl rfl (fun w' hw'=>by go_simp) ?_
   simp only [zD]
   refine Dk.za (v:=.bool nb) rfl rfl (fun w' hw'=>by go_simp) ?_
   simp only [zD]
   refine Dk.zl [13,14] _ _ _ (by kernel_rfl) ?_
   refine Dk.zr rfl rfl ?_
   have HB:Dk.Box w2 (WD.heap.size) #[.int .i64 0,.int .i64 0,.int .i64 0,.int .i64 0,.int .u64 0] 112:=q2.box (by simp)
   refine wp_store_row 112 _ _ rfl WD.heap.size #[.int .i64 i.op,.int .i64 i.a,.int .i64 i.b,.int .i64 i.c,.int .u64 (i.n:Nat)] rfl rfl 112 _ HB.heap sizeIns rfl (zca _ _ _ _ _) ⟨fun h=>absurd (by decide) h,?_⟩
   simp only [zD]
   refine Dk.zj (v:=.bool nb) (w':=w2.setRow WD.heap.size #[.int .i64 i.op,.int .i64 i.a,.int .i64 i.b,.int .i64 i.c,.int .u64 (i.n:Nat)]) (some 10) rfl rfl rfl (by go_simp) (fun h=>absurd (by decide) h) ?_
   simp only [zD]
   show NoPanic _ Exit.normal _ _
   refine NoPanic.normal ?_
   rename_i hK
   refine hK _ _ ?_
   go_meet
   exact ⟨WD.heap.size,rfl,rfl,q2.setRow rfl⟩
 case rest=>
  obtain ⟨bx,rfl,rfl,hC⟩:=hcut
  have hnb:=HNB.out
  subst hnb
  clear HNB
  have hb:Dk.Box wc bx #[.int .i64 i.op,.int .i64 i.a,.int .i64 i.b,.int .i64 i.c,.int .u64 (i.n:Nat)] 112:=hC.box (by simp)
  have cb:=hb.cell
  clear hd MK KN
  have K5:=hK _ _ hC
  have KC:=fun op w=>zdc op w
  clear hC hK
  go_wp2_with (go_at_call 61;refine (KC _ _).mono ?_;rintro e w' ⟨rfl,rfl⟩)
  refine K5.mono ?_
  rintro e w5 ⟨A,C,rfl,h5⟩
  have z5:Dk.Box w5 w.heap.size #[.slice none 0 0,.bool false,.bool false,.bool false] 68:=by rw [HU.out] at h5;exact h5.box (by simp)
  have h6:Cor W (w5.setRow w.heap.size #[.slice A E.woken.length C,.bool E.stopped,.bool E.ended,.bool E.yielded]) L qz k' (Dk.rowOf 3 1 (.slice A E.woken.length C) E.woken.length (Dk.is E.woken)::us):=by
   rw [HU.out] at h5
   exact (h5.swap.drop.swap.setRow (cs':=#[.slice A E.woken.length C,.bool E.stopped,.bool E.ended,.bool E.yielded]) rfl).drop
  have d0:=(z5.row (cs':=#[.slice A E.woken.length C,.bool E.stopped,.bool E.ended,.bool E.yielded])).cell
  have HB:Hid _:=z5
  clear K5 h5 z5 cb hb
  go_wp2_with (refine wpList_store_row rfl 68 _ _ rfl w.heap.size #[.slice A E.woken.length C,.bool E.stopped,.bool E.ended,.bool E.yielded] rfl rfl 68 _ HB.out.heap sizeEff rfl (zak _ _ _ _ _ _) ?_)
  exact bodyPost_ret (v:=.tuple #[eff A E.woken.length C E.stopped E.ended E.yielded,.int .i64 0]) (by simp [results,Tryz.results28,go_sem,d0]) rfl ⟨A,C,rfl,h6⟩
end
section
variable {W w w' : World} {L : Dk.Loc} {q qa qz : Dk.Sp} {k k' n : Nat} {us us' us1 us2 : List Dk.Thing} {t : Dk.Thing} {ch : Int} {E : Dk.Eff}
theorem run_exit (h:Cor W w L q k us) (hk:k≤100000) (hn:n < 16) (hu:Dk.us q.st n=true) (hw:(q.thr n).why=0) (i:Dk.Ins) (ei:Dk.nextI q.prog (q.thr n).f=i) (nb:Bool) (enb:Dk.nextB q.prog (q.thr n).f=nb) (hnb:nb=true) (h23:i.op=23) (a:Nat) (ha:a < 8) (ea:i.a=a) (va:Nat) (eva:(q.thr n).f.r a=va) (pc:Int) (epc:(q.thr n).f.pc=pc) (hpc:0≤pc∧pc < 1000000) (qa:Dk.Sp) (eqa:q.setT n ((q.thr n).next)=qa) (hK:∀ w us,Cor W w L qa k us→Calls Tryz.prog 65 #[.pointer (some ⟨L.b,0,none⟩),.int .i64 (n:Int),.int .u64 (va:Nat)] w (Ef W L qz k' E us)) :
  Calls Tryz.prog 28 #[.pointer (some ⟨L.b,0,none⟩),.int .i64 (n:Int),.int .i64 ch] w (Ef0 W L qz k' E us):=by
 obtain ⟨W1,e1⟩:∃ W1,W1=w.alloc (.cells #[.slice none 0 0,.bool false,.bool false,.bool false] 68):=⟨_,rfl⟩
 have h1:=h.newBox e1
 obtain ⟨uz,euz⟩:∃ uz,uz=Dk.boxOf w.heap.size #[.slice none 0 0,.bool false,.bool false,.bool false] 68::us:=⟨_,rfl⟩
 rw [← euz] at h1
 have K1:=zbl h1 hk n hn hu
 have d10:W1.cell? ⟨L.b,10+n*20+10,none⟩=some (.int .i64 0):=by rw [h1.cellAt hn 10 (by omega),← hw];rfl
 have hd:=h1.below (Dk.zh (Below.refl _ _))
 have KN:∀ w1 us',Cor W w1 L q k us'→Calls Tryz.prog 60 #[.agg #[.slice L.cA L.cL L.cC,.int .i64 0,.int .i64 0,.int .i64 0,.slice none 0 0,.slice none 0 0,.int .i64 0,.int .i64 0],Dk.fv (q.thr n).f] w1 fun e w'=>e=.returned (.tuple #[Dk.iv (Dk.nextI q.prog (q.thr n).f),.bool (Dk.nextB q.prog (q.thr n).f)])∧Cor W w' L q k us':=fun w1 us' h1=>zei h1 _
 have MK:∀ w',Cor W w' L q k uz→(w'.cell? ⟨L.b,0,none⟩=some (.slice L.cA L.cL L.cC)∧w'.cell? ⟨L.b,1,none⟩=some (.int .i64 0)∧w'.cell? ⟨L.b,2,none⟩=some (.int .i64 0)∧w'.cell? ⟨L.b,3,none⟩=some (.int .i64 0)∧w'.cell? ⟨L.b,4,none⟩=some (.slice none 0 0)∧w'.cell? ⟨L.b,5,none⟩=some (.slice none 0 0)∧w'.cell? ⟨L.b,6,none⟩=some (.int .i64 0)∧w'.cell? ⟨L.b,7,none⟩=some (.int .i64 0)∧w'.cell? ⟨L.b,10+n*20,none⟩=some (.int .i64 (q.thr n).f.fn)∧w'.cell? ⟨L.b,10+n*20+1,none⟩=some (.int .i64 (q.thr n).f.pc)∧w'.cell? ⟨L.b,10+n*20+2,none⟩=some (.int .u64 ((q.thr n).f.r 0:Nat))∧w'.cell? ⟨L.b,10+n*20+3,none⟩=some (.int .u64 ((q.thr n).f.r 1:Nat))∧w'.cell? ⟨L.b,10+n*20+4,none⟩=some (.int .u64 ((q.thr n).f.r 2:Nat))∧w'.cell? ⟨L.b,10+n*20+5,none⟩=some (.int .u64 ((q.thr n).f.r 3:Nat))∧w'.cell? ⟨L.b,10+n*20+6,none⟩=some (.int .u64 ((q.thr n).f.r 4:Nat))∧w'.cell? ⟨L.b,10+n*20+7,none⟩=some (.int .u64 ((q.thr n).f.r 5:Nat))∧w'.cell? ⟨L.b,10+n*20+8,none⟩=some (.int .u64 ((q.thr n).f.r 6:Nat))∧w'.cell? ⟨L.b,10+n*20+9,none⟩=some (.int .u64 ((q.thr n).f.r 7:Nat))):=fun w' h'=>⟨h'.code.2 0 (by omega),h'.code.2 1 (by omega),h'.code.2 2 (by omega),h'.code.2 3 (by omega),h'.code.2 4 (by omega),h'.code.2 5 (by omega),h'.code.2 6 (by omega),h'.code.2 7 (by omega),h'.cellAt hn 0 (by omega),h'.cellAt hn 1 (by omega),h'.cellAt hn 2 (by omega),h'.cellAt hn 3 (by omega),h'.cellAt hn 4 (by omega),h'.cellAt hn 5 (by omega),h'.cellAt hn 6 (by omega),h'.cellAt hn 7 (by omega),h'.cellAt hn 8 (by omega),h'.cellAt hn 9 (by omega)⟩
 rw [ei,enb] at KN
 have H1:Hid _:=e1.symm
 have HU:Hid _:=euz
 have HNB:Hid _:=hnb
 have ew:wrap64 (pc+1)=pc+1:=by unfold wrap64;omega
 have HP:Hid (∀ w us,Cor W w L q k us→w.cell? ⟨L.b,10+n*20+1,none⟩=some (.int .i64 pc)∧w.frozen? ⟨L.b,10+n*20+1,none⟩=false∧Cor W (w.setCell ⟨L.b,10+n*20+1,none⟩ (.int .i64 (pc+1))) L qa k us):=fun w us h=>by
  refine ⟨by rw [h.cellAt hn 1 (by omega),← epc];rfl,h.frozenAt _,?_⟩
  rw [← eqa]
  refine h.setT hn 1 (by omega) _ _ ?_
  unfold Dk.Thr.next
  rw [epc,ew]
  rfl
 have HR:Hid (∀ w us,Cor W w L qa k us→w.cell? ⟨L.b,10+n*20+2+a,none⟩=some (.int .u64 (va:Nat))):=fun w us h=>by
  rw [h.regCell hn a ha,← eva,← eqa]
  simp [Dk.Sp.setT,Dk.upd_same,Dk.Thr.next,Dk.Frm.to]
 have HE23:Hid (i.op=23):=h23
 have HEA:Hid (i.a=a):=ea
 clear epc eva eqa h23 ea
 generalize (q.thr n).f=f at *
 clear h h1 hu hw ei enb e1 euz hnb
 go_enter Tryz.func28,Tryz.ntmps28
 go_upto_region 6 with (first | (rw [H1.out];clear H1) | (go_at_call 57;refine K1.mono ?_;rintro e w' ⟨rfl,ew⟩;subst w'))
 go_cut [9,10] from 23 to 39 (fun v9 v10 w'=>∃ bx,v9=.pointer (some ⟨bx,0,none⟩)∧v10=.bool nb∧Cor W w' L q k (Dk.boxOf bx #[.int .i64 i.op,.int .i64 i.a,.int .i64 i.b,.int .i64 i.c,.int .u64 (i.n:Nat)] 112::uz))
 case first=>
  refine Dk.zd (S:=fun w'=>Cor W w' L q k uz) [] [0,1,2,3,4,5,6,7] [8,9,10,11,13,14] 7 (by kernel_rfl) (by kernel_rfl) (by kernel_rfl) (by kernel_rfl) rfl hd _ ?_ (fun a' h=>h)
  refine Dk.za (v:=.pointer (some ⟨L.b,0,none⟩)) rfl rfl (fun w' hw'=>by go_simp) ?_
  simp only [zD]
  refine Dk.za (v:=.pointer (some ⟨L.b,0,none⟩)) rfl rfl (fun w' hw'=>by go_simp) ?_
  simp only [zD]
  refine Dk.za (v:=.pointer (some ⟨L.b,0,none⟩)) rfl rfl (fun w' hw'=>by go_simp) ?_
  simp only [zD]
  refine Dk.za (v:=.agg #[.slice L.cA L.cL L.cC,.int .i64 0,.int .i64 0,.int .i64 0,.slice none 0 0,.slice none 0 0,.int .i64 0,.int .i64 0]) rfl rfl (fun w' hw'=>by obtain ⟨c0,c1,c2,c3,c4,c5,c6,c7,c8,c9,c10,c11,c12,c13,c14,c15,c16,c17⟩:=MK _ hw';go_simp) ?_
  simp only [zD]
  refine Dk.za (v:=.pointer (some ⟨L.b,10+n*20,none⟩)) rfl rfl (fun w' hw'=>by go_simp) ?_
  simp only [zD]
  refine Dk.za (v:=.pointer (some ⟨L.b,10+n*20,none⟩)) rfl rfl (fun w' hw'=>by go_simp) ?_
  simp only [zD]
  refine Dk.za (v:=.pointer (some ⟨L.b,10+n*20,none⟩)) rfl rfl (fun w' hw'=>by go_simp) ?_
  simp only [zD]
  refine Dk.za (v:=.agg (Dk.fc f)) rfl rfl (fun w' hw'=>by obtain ⟨c0,c1,c2,c3,c4,c5,c6,c7,c8,c9,c10,c11,c12,c13,c14,c15,c16,c17⟩:=MK _ hw';go_simp) ?_
  simp only [zD]
  generalize W1.drew=WD at *
  refine Dk.treeY (rs:=[8,12]) (by kernel_rfl) (by simp) ?_
  intro i hi
  simp only [List.mem_cons,List.not_mem_nil,or_false] at hi
  rcases hi with rfl | rfl
  ·refine Dk.zm (some 32) rfl rfl rfl (f:=60) (args:=#[.agg #[.slice L.cA L.cL L.cC,.int .i64 0,.int .i64 0,.int .i64 0,.slice none 0 0,.slice none 0 0,.int .i64 0,.int .i64 0],Dk.fv f]) (by go_simp) ?_
   refine (KN _ _ hd).mono ?_
   rintro e w2 ⟨rfl,h2⟩
   refine ⟨_,rfl,fun _=>h2,?_⟩
   simp only [zD]
   refine Dk.zo (by kernel_rfl) (fun c a w h=>h) _ 3 _ [9,10,11] _ _ (by kernel_rfl) ?_ (fun a' h=>h)
   refine Dk.za (v:=.tuple #[.agg #[.int .i64 i.op,.int .i64 i.a,.int .i64 i.b,.int .i64 i.c,.int .u64 (i.n:Nat)],.bool nb]) rfl rfl (fun w' hw'=>by go_simp) ?_
   simp only [zD]
   refine Dk.za (v:=.agg #[.int .i64 i.op,.int .i64 i.a,.int .i64 i.b,.int .i64 i.c,.int .u64 (i.n:Nat)]) rfl rfl (fun w' hw'=>by go_simp) ?_
   simp only [zD]
   refine Dk.za (v:=.bool nb) rfl rfl (fun w' hw'=>by go_simp) ?_
   simp only [zD]
   refine Dk.treeY (rs:=[12]) (by kernel_rfl) (by simp) ?_
   intro i hi
   simp only [List.mem_cons,List.not_mem_nil,or_false] at hi
   subst hi
   obtain ⟨w3,ew3⟩:∃ w3,w3=w2.alloc (.cells #[.int .i64 0,.int .i64 0,.int .i64 0,.int .i64 0,.int .u64 0] 112):=⟨_,rfl⟩
   refine Dk.ze (v:=.pointer (some ⟨w2.heap.size,0,none⟩)) (w':=w3) (some 9) rfl rfl rfl (by rw [ew3];go_simp) ⟨fun _=>(h2.newBox ew3).drop,?_⟩
   simp only [zD]
   have h3:=(h2.newBox ew3).drop
   have q3:=h2.newBox ew3
   refine Dk.zl [13,14] _ _ _ (by kernel_rfl) ?_
   refine Dk.zr rfl rfl ?_
   have HB:Dk.Box w3 (w2.heap.size) #[.int .i64 0,.int .i64 0,.int .i64 0,.int .i64 0,.int .u64 0] 112:=q3.box (by simp)
   refine wp_store_row 112 _ _ rfl w2.heap.size #[.int .i64 i.op,.int .i64 i.a,.int .i64 i.b,.int .i64 i.c,.int .u64 (i.n:Nat)] rfl rfl 112 _ HB.heap sizeIns rfl (zca _ _ _ _ _) ⟨fun h=>absurd (by decide) h,?_⟩
   simp only [zD]
   refine Dk.zj (v:=.bool nb) (w':=w3.setRow w2.heap.size #[.int .i64 i.op,.int .i64 i.a,.int .i64 i.b,.int .i64 i.c,.int .u64 (i.n:Nat)]) (some 10) rfl rfl rfl (by go_simp) (fun h=>absurd (by decide) h) ?_
   simp only [zD]
   show NoPanic _ Exit.normal _ _
   refine NoPanic.normal ?_
   rename_i hK
   refine hK _ _ ?_
   go_meet
   exact ⟨w2.heap.size,rfl,rfl,q3.setRow rfl⟩
  ·obtain ⟨w3,ew3⟩:∃ w3,w3=WD.alloc (.cells #[.int .i64 0,.int .i64 0,.int .i64 0,.int .i64 0,.int .u64 0] 112):=⟨_,rfl⟩
   refine Dk.ze (v:=.pointer (some ⟨WD.heap.size,0,none⟩)) (w':=w3) (some 9) rfl rfl rfl (by rw [ew3];go_simp) ⟨fun _=>(hd.newBox ew3).drop,?_⟩
   simp only [zD]
   have q3:=hd.newBox ew3
   refine Dk.treeY (rs:=[8]) (by kernel_rfl) (by simp) ?_
   intro i hi
   simp only [List.mem_cons,List.not_mem_nil,or_false] at hi
   subst hi
   refine Dk.zm (some 32) rfl rfl rfl (f:=60) (args:=#[.agg #[.slice L.cA L.cL L.cC,.int .i64 0,.int .i64 0,.int .i64 0,.slice none 0 0,.slice none 0 0,.int .i64 0,.int .i64 0],Dk.fv f]) (by go_simp) ?_
   refine (KN _ _ q3).mono ?_
   rintro e w2 ⟨rfl,q2⟩
   refine ⟨_,rfl,fun _=>q2.drop,?_⟩
   simp only [zD]
   refine Dk.zo (by kernel_rfl) (fun c a w h=>h) _ 2 _ [9,10,11] _ _ (by kernel_rfl) ?_ (fun a' h=>h)
   refine Dk.za (v:=.tuple #[.agg #[.int .i64 i.op,.int .i64 i.a,.int .i64 i.b,.int .i64 i.c,.int .u64 (i.n:Nat)],.bool nb]) rfl rfl (fun w' hw'=>by go_simp) ?_
   simp only [zD]
   refine Dk.za (v:=.agg #[.int .i64 i.op,.int .i64 i.a,.int .i64 i.b,.int .i64 i.c,.int .u64 (i.n:Nat)]) rfl rfl (fun w' hw'=>by go_simp) ?_
   simp only [zD]
   refine Dk.za (v:=.bool nb) rfl rfl (fun w' hw'=>by go_simp) ?_
   simp only [zD]
   refine Dk.zl [13,14] _ _ _ (by kernel_rfl) ?_
   refine Dk.zr rfl rfl ?_
   have HB:Dk.Box w2 (WD.heap.size) #[.int .i64 0,.int .i64 0,.int .i64 0,.int .i64 0,.int .u64 0] 112:=q2.box (by simp)
   refine wp_store_row 112 _ _ rfl WD.heap.size #[.int .i64 i.op,.int .i64 i.a,.int .i64 i.b,.int .i64 i.c,.int .u64 (i.n:Nat)] rfl rfl 112 _ HB.heap sizeIns rfl (zca _ _ _ _ _) ⟨fun h=>absurd (by decide) h,?_⟩
   simp only [zD]
   refine Dk.zj (v:=.bool nb) (w':=w2.setRow WD.heap.size #[.int .i64 i.op,.int .i64 i.a,.int .i64 i.b,.int .i64 i.c,.int .u64 (i.n:Nat)]) (some 10) rfl rfl rfl (by go_simp) (fun h=>absurd (by decide) h) ?_
   simp only [zD]
   show NoPanic _ Exit.normal _ _
   refine NoPanic.normal ?_
   rename_i hK
   refine hK _ _ ?_
   go_meet
   exact ⟨WD.heap.size,rfl,rfl,q2.setRow rfl⟩
 case rest=>
  obtain ⟨bx,rfl,rfl,hC⟩:=hcut
  have hnb:=HNB.out
  subst hnb
  clear HNB
  have hb:Dk.Box wc bx #[.int .i64 i.op,.int .i64 i.a,.int .i64 i.b,.int .i64 i.c,.int .u64 (i.n:Nat)] 112:=hC.box (by simp)
  have cb:=hb.cell
  clear hd MK KN
  obtain ⟨p1,f1,h2⟩:=HP.out _ _ hC
  obtain ⟨W2,e2⟩:∃ W2,W2=wc.setCell ⟨L.b,10+n*20+1,none⟩ (.int .i64 (pc+1)):=⟨_,rfl⟩
  rw [← e2] at h2
  have hD:=h2.below (Dk.zh (Below.refl _ _))
  have HS:Dk.Box W2.drew bx #[.int .i64 i.op,.int .i64 i.a,.int .i64 i.b,.int .i64 i.c,.int .u64 (i.n:Nat)] 112∧W2.drew.cell? ⟨L.b,10+n*20+2+a,none⟩=some (.int .u64 (va:Nat)):=⟨hD.box (by simp),HR.out _ _ hD⟩
  have K5:=hK _ _ hD
  have o0:wc.cell? ⟨bx,0,none⟩=some (.int .i64 23):=by rw [← HE23.out];exact hb.cell 0
  have i3:(a:Int) < 8:=by omega
  have i4:(0:Int)≤(a:Int):=by omega
  have H2:Hid _:=e2.symm
  clear hC hK h2 hD cb hb e2
  go_wp2_with (rw [H2.out];clear H2)
  refine Dk.zd (S:=fun w'=>Dk.Box w' bx #[.int .i64 i.op,.int .i64 i.a,.int .i64 i.b,.int .i64 i.c,.int .u64 (i.n:Nat)] 112∧w'.cell? ⟨L.b,10+n*20+2+a,none⟩=some (.int .u64 (va:Nat))) [] [0,1,2,3,4,5,6,7,8,9] [10,11,12] 3 (by kernel_rfl) (by kernel_rfl) (by kernel_rfl) (by kernel_rfl) rfl HS _ ?_ (fun a' h=>h)
  refine Dk.za (v:=.pointer (some ⟨L.b,0,none⟩)) rfl rfl (fun w' hw'=>by go_simp) ?_
  simp only [zD]
  refine Dk.za (v:=.int .i64 (n:Int)) rfl rfl (fun w' hw'=>by go_simp) ?_
  simp only [zD]
  refine Dk.za (v:=.pointer (some ⟨L.b,10+n*20,none⟩)) rfl rfl (fun w' hw'=>by go_simp) ?_
  simp only [zD]
  refine Dk.za (v:=.pointer (some ⟨bx,1,none⟩)) rfl rfl (fun w' hw'=>by go_simp) ?_
  simp only [zD]
  refine Dk.za (v:=.int .i64 (a:Int)) rfl rfl (fun w' hw'=>by have c:=hw'.1.cell 1;rw [HEA.out] at c;go_simp) ?_
  simp only [zD]
  refine Dk.za (v:=.pointer (some ⟨L.b,10+n*20,none⟩)) rfl rfl (fun w' hw'=>by go_simp) ?_
  simp only [zD]
  refine Dk.za (v:=.pointer (some ⟨L.b,10+n*20,none⟩)) rfl rfl (fun w' hw'=>by go_simp) ?_
  simp only [zD]
  refine Dk.za (v:=.pointer (some ⟨L.b,10+n*20+2,none⟩)) rfl rfl (fun w' hw'=>by go_simp) ?_
  simp only [zD]
  refine Dk.za (v:=.pointer (some ⟨L.b,10+n*20+2+a,none⟩)) rfl rfl (fun w' hw'=>by go_simp) ?_
  simp only [zD]
  refine Dk.za (v:=.int .u64 (va:Nat)) rfl rfl (fun w' hw'=>by have c:=hw'.2;go_simp) ?_
  simp only [zD]
  clear HS
  generalize W2.drew=WE at *
  refine Dk.treeY (rs:=[10]) (by kernel_rfl) (by simp) ?_
  intro j hj
  simp only [List.mem_cons,List.not_mem_nil,or_false] at hj
  subst hj
  refine Dk.zm (some 63) rfl rfl rfl (f:=65) (args:=#[.pointer (some ⟨L.b,0,none⟩),.int .i64 (n:Int),.int .u64 (va:Nat)]) (by go_simp) ?_
  refine K5.mono ?_
  rintro e w5 ⟨A,C,rfl,h5⟩
  refine ⟨_,rfl,fun h=>absurd (by decide) h,?_⟩
  simp only [zD]
  have z5:Dk.Box w5 w.heap.size #[.slice none 0 0,.bool false,.bool false,.bool false] 68:=by rw [HU.out] at h5;exact h5.box (by simp)
  have h6:Cor W (w5.setRow w.heap.size #[.slice A E.woken.length C,.bool E.stopped,.bool E.ended,.bool E.yielded]) L qz k' (Dk.rowOf 3 1 (.slice A E.woken.length C) E.woken.length (Dk.is E.woken)::us):=by
   rw [HU.out] at h5
   exact (h5.swap.drop.swap.setRow (cs':=#[.slice A E.woken.length C,.bool E.stopped,.bool E.ended,.bool E.yielded]) rfl).drop
  have d0:=(z5.row (cs':=#[.slice A E.woken.length C,.bool E.stopped,.bool E.ended,.bool E.yielded])).cell
  refine Dk.zl [11,12] _ _ _ (by kernel_rfl) ?_
  refine Dk.zr rfl rfl ?_
  refine wp_store_row 68 _ _ rfl w.heap.size #[.slice A E.woken.length C,.bool E.stopped,.bool E.ended,.bool E.yielded] rfl rfl 68 _ z5.heap sizeEff rfl (zak _ _ _ _ _ _) ⟨fun h=>absurd (by decide) h,?_⟩
  simp only [zD]
  refine Dk.zj (v:=.int .i64 0) (w':=w5.setRow w.heap.size #[.slice A E.woken.length C,.bool E.stopped,.bool E.ended,.bool E.yielded]) (some 7) rfl rfl rfl (by go_simp) (fun h=>absurd (by decide) h) ?_
  simp only [zD]
  show NoPanic _ Exit.normal _ _
  refine NoPanic.normal ?_
  first | (rename_i hK;refine hK _ _ ?_;clear hK) | (rename_i hK _;refine hK _ _ ?_;clear hK) | (rename_i hK _ _;refine hK _ _ ?_;clear hK)
  clear K5 h5 z5
  go_wp2_with fail
  exact bodyPost_ret (v:=.tuple #[eff A E.woken.length C E.stopped E.ended E.yielded,.int .i64 0]) (by simp [results,Tryz.results28,go_sem,d0]) rfl ⟨A,C,rfl,h6⟩
end
end Go.Proofs.YtglhhlfopccmaaaGreat
