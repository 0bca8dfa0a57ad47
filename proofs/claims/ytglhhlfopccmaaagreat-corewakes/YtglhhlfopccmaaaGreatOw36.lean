import Derived.Test.YtglhhlfopccmaaaGreatOw35
set_option linter.unusedSimpArgs false
set_option linter.unusedVariables false
set_option linter.unnecessarySimpa false
set_option maxHeartbeats 8000000
set_option maxRecDepth 100000
namespace Go.Proofs.YtglhhlfopccmaaaGreat
open Go.RowKit Go.Lib
def Dd (W:World) (L:Dk.Loc) (q:Dk.Sp) (k:Nat) (d:Dk.Deed) (us:List Dk.Thing) (e:Ending) (w':World):Prop:=∃ Ab Cb Aw Cw,e=.returned (dval Ab Aw Cb Cw d)∧Cor W w' L q k (lists Ab Aw Cb Cw d++us)
section
variable {W w w' : World} {L : Dk.Loc} {q qz : Dk.Sp} {k k' n : Nat} {us us' us1 us2 : List Dk.Thing} {t : Dk.Thing} {ch : Int} {d : Dk.Deed}
theorem do_spawn (h:Cor W w L q k us) (hn:n < 16) (a b c:Int) (m:Nat) (hK:∀ w us,Cor W w L q k us→Calls Tryz.prog 124 #[.pointer (some ⟨L.b,0,none⟩),.pointer (some ⟨L.b,10+n*20,none⟩),.agg #[.int .i64 20,.int .i64 a,.int .i64 b,.int .i64 c,.int .u64 (m:Nat)]] w (Dd W L qz k' d us)) :
  Calls Tryz.prog 97 #[.pointer (some ⟨L.b,0,none⟩),.int .i64 (n:Int),.agg #[.int .i64 20,.int .i64 a,.int .i64 b,.int .i64 c,.int .u64 (m:Nat)],.int .i64 ch] w (Dd W L qz k' d us):=by
 obtain ⟨W1,e1⟩:∃ W1,W1=w.alloc (.cells #[.int .i64 20,.int .i64 a,.int .i64 b,.int .i64 c,.int .u64 (m:Nat)] 112):=⟨_,rfl⟩
 obtain ⟨W2,e2⟩:∃ W2,W2=W1.alloc (.cells #[.int .u64 0,.int .u64 0,.int .i64 0,.int .i64 0,.slice none 0 0,.slice none 0 0] 204):=⟨_,rfl⟩
 have h2:=((h.newBox e1).newBox e2).swap
 have b2:Dk.Box W2 w.heap.size #[.int .i64 20,.int .i64 a,.int .i64 b,.int .i64 c,.int .u64 (m:Nat)] 112:=h2.box (by simp)
 have c2:=b2.cell
 have i1:(n:Int) < 16:=by omega
 have i2:(0:Int)≤(n:Int):=by omega
 have H1:Hid _:=e1.symm
 have H2:Hid _:=e2.symm
 have K:=hK _ _ h2
 clear h h2 hK b2 e1 e2
 go_enter Tryz.func97,Tryz.ntmps97
 go_wp2_with (first | (rw [H1.out];clear H1) | (rw [H2.out];clear H2))
 refine K.mono ?_
 rintro e w5 ⟨Ab,Cb,Aw,Cw,rfl,h5⟩
 have z5:Dk.Box w5 W1.heap.size #[.int .u64 0,.int .u64 0,.int .i64 0,.int .i64 0,.slice none 0 0,.slice none 0 0] 204:=h5.box (by simp [lists])
 have h6:Cor W (w5.setRow W1.heap.size (dcs d.x d.y d.result d.why (.slice Ab d.begun.length Cb) (.slice Aw d.woken.length Cw))) L qz k' (lists Ab Aw Cb Cw d++us):=by
  have p1:=(h5.perm (us':=Dk.boxOf w.heap.size _ _::Dk.boxOf W1.heap.size #[.int .u64 0,.int .u64 0,.int .i64 0,.int .i64 0,.slice none 0 0,.slice none 0 0] 204::(lists Ab Aw Cb Cw d++us)) (List.perm_middle.trans (List.Perm.cons _ List.perm_middle))).drop
  exact (p1.setRow (cs':=(dcs d.x d.y d.result d.why (.slice Ab d.begun.length Cb) (.slice Aw d.woken.length Cw))) rfl).drop
 have d0:=(z5.row (cs':=(dcs d.x d.y d.result d.why (.slice Ab d.begun.length Cb) (.slice Aw d.woken.length Cw)))).cell
 have HB:Hid _:=z5
 clear K h5 z5 c2
 go_wp2_with (refine wpList_store_row rfl 204 _ _ rfl W1.heap.size (dcs d.x d.y d.result d.why (.slice Ab d.begun.length Cb) (.slice Aw d.woken.length Cw)) rfl rfl 204 _ HB.out.heap sizeDeed rfl (zq _ _ _ _ _ _ _ _ _ _) ?_)
 exact bodyPost_ret (v:=.agg (dcs d.x d.y d.result d.why (.slice Ab d.begun.length Cb) (.slice Aw d.woken.length Cw))) (by simp [results,Tryz.results97,go_sem,d0]) rfl ⟨Ab,Cb,Aw,Cw,rfl,h6⟩
theorem do_join (h:Cor W w L q k us) (hn:n < 16) (a b c:Int) (m:Nat) (hK:∀ w us,Cor W w L q k us→Calls Tryz.prog 125 #[.pointer (some ⟨L.b,0,none⟩),.int .i64 (n:Int),.pointer (some ⟨L.b,10+n*20,none⟩),.agg #[.int .i64 21,.int .i64 a,.int .i64 b,.int .i64 c,.int .u64 (m:Nat)]] w (Dd W L qz k' d us)) :
  Calls Tryz.prog 97 #[.pointer (some ⟨L.b,0,none⟩),.int .i64 (n:Int),.agg #[.int .i64 21,.int .i64 a,.int .i64 b,.int .i64 c,.int .u64 (m:Nat)],.int .i64 ch] w (Dd W L qz k' d us):=by
 obtain ⟨W1,e1⟩:∃ W1,W1=w.alloc (.cells #[.int .i64 21,.int .i64 a,.int .i64 b,.int .i64 c,.int .u64 (m:Nat)] 112):=⟨_,rfl⟩
 obtain ⟨W2,e2⟩:∃ W2,W2=W1.alloc (.cells #[.int .u64 0,.int .u64 0,.int .i64 0,.int .i64 0,.slice none 0 0,.slice none 0 0] 204):=⟨_,rfl⟩
 have h2:=((h.newBox e1).newBox e2).swap
 have b2:Dk.Box W2 w.heap.size #[.int .i64 21,.int .i64 a,.int .i64 b,.int .i64 c,.int .u64 (m:Nat)] 112:=h2.box (by simp)
 have c2:=b2.cell
 have i1:(n:Int) < 16:=by omega
 have i2:(0:Int)≤(n:Int):=by omega
 have H1:Hid _:=e1.symm
 have H2:Hid _:=e2.symm
 have K:=hK _ _ h2
 clear h h2 hK b2 e1 e2
 go_enter Tryz.func97,Tryz.ntmps97
 go_wp2_with (first | (rw [H1.out];clear H1) | (rw [H2.out];clear H2))
 refine K.mono ?_
 rintro e w5 ⟨Ab,Cb,Aw,Cw,rfl,h5⟩
 have z5:Dk.Box w5 W1.heap.size #[.int .u64 0,.int .u64 0,.int .i64 0,.int .i64 0,.slice none 0 0,.slice none 0 0] 204:=h5.box (by simp [lists])
 have h6:Cor W (w5.setRow W1.heap.size (dcs d.x d.y d.result d.why (.slice Ab d.begun.length Cb) (.slice Aw d.woken.length Cw))) L qz k' (lists Ab Aw Cb Cw d++us):=by
  have p1:=(h5.perm (us':=Dk.boxOf w.heap.size _ _::Dk.boxOf W1.heap.size #[.int .u64 0,.int .u64 0,.int .i64 0,.int .i64 0,.slice none 0 0,.slice none 0 0] 204::(lists Ab Aw Cb Cw d++us)) (List.perm_middle.trans (List.Perm.cons _ List.perm_middle))).drop
  exact (p1.setRow (cs':=(dcs d.x d.y d.result d.why (.slice Ab d.begun.length Cb) (.slice Aw d.woken.length Cw))) rfl).drop
 have d0:=(z5.row (cs':=(dcs d.x d.y d.result d.why (.slice Ab d.begun.length Cb) (.slice Aw d.woken.length Cw)))).cell
 have HB:Hid _:=z5
 clear K h5 z5 c2
 go_wp2_with (refine wpList_store_row rfl 204 _ _ rfl W1.heap.size (dcs d.x d.y d.result d.why (.slice Ab d.begun.length Cb) (.slice Aw d.woken.length Cw)) rfl rfl 204 _ HB.out.heap sizeDeed rfl (zq _ _ _ _ _ _ _ _ _ _) ?_)
 exact bodyPost_ret (v:=.agg (dcs d.x d.y d.result d.why (.slice Ab d.begun.length Cb) (.slice Aw d.woken.length Cw))) (by simp [results,Tryz.results97,go_sem,d0]) rfl ⟨Ab,Cb,Aw,Cw,rfl,h6⟩
theorem do_put (h:Cor W w L q k us) (hn:n < 16) (a b c:Int) (m:Nat) (hK:∀ w us,Cor W w L q k us→Calls Tryz.prog 129 #[.pointer (some ⟨L.b,0,none⟩),.int .i64 (n:Int),.pointer (some ⟨L.b,10+n*20,none⟩),.agg #[.int .i64 35,.int .i64 a,.int .i64 b,.int .i64 c,.int .u64 (m:Nat)]] w (Dd W L qz k' d us)) :
  Calls Tryz.prog 97 #[.pointer (some ⟨L.b,0,none⟩),.int .i64 (n:Int),.agg #[.int .i64 35,.int .i64 a,.int .i64 b,.int .i64 c,.int .u64 (m:Nat)],.int .i64 ch] w (Dd W L qz k' d us):=by
 obtain ⟨W1,e1⟩:∃ W1,W1=w.alloc (.cells #[.int .i64 35,.int .i64 a,.int .i64 b,.int .i64 c,.int .u64 (m:Nat)] 112):=⟨_,rfl⟩
 obtain ⟨W2,e2⟩:∃ W2,W2=W1.alloc (.cells #[.int .u64 0,.int .u64 0,.int .i64 0,.int .i64 0,.slice none 0 0,.slice none 0 0] 204):=⟨_,rfl⟩
 have h2:=((h.newBox e1).newBox e2).swap
 have b2:Dk.Box W2 w.heap.size #[.int .i64 35,.int .i64 a,.int .i64 b,.int .i64 c,.int .u64 (m:Nat)] 112:=h2.box (by simp)
 have c2:=b2.cell
 have i1:(n:Int) < 16:=by omega
 have i2:(0:Int)≤(n:Int):=by omega
 have H1:Hid _:=e1.symm
 have H2:Hid _:=e2.symm
 have K:=hK _ _ h2
 clear h h2 hK b2 e1 e2
 go_enter Tryz.func97,Tryz.ntmps97
 go_wp2_with (first | (rw [H1.out];clear H1) | (rw [H2.out];clear H2))
 refine K.mono ?_
 rintro e w5 ⟨Ab,Cb,Aw,Cw,rfl,h5⟩
 have z5:Dk.Box w5 W1.heap.size #[.int .u64 0,.int .u64 0,.int .i64 0,.int .i64 0,.slice none 0 0,.slice none 0 0] 204:=h5.box (by simp [lists])
 have h6:Cor W (w5.setRow W1.heap.size (dcs d.x d.y d.result d.why (.slice Ab d.begun.length Cb) (.slice Aw d.woken.length Cw))) L qz k' (lists Ab Aw Cb Cw d++us):=by
  have p1:=(h5.perm (us':=Dk.boxOf w.heap.size _ _::Dk.boxOf W1.heap.size #[.int .u64 0,.int .u64 0,.int .i64 0,.int .i64 0,.slice none 0 0,.slice none 0 0] 204::(lists Ab Aw Cb Cw d++us)) (List.perm_middle.trans (List.Perm.cons _ List.perm_middle))).drop
  exact (p1.setRow (cs':=(dcs d.x d.y d.result d.why (.slice Ab d.begun.length Cb) (.slice Aw d.woken.length Cw))) rfl).drop
 have d0:=(z5.row (cs':=(dcs d.x d.y d.result d.why (.slice Ab d.begun.length Cb) (.slice Aw d.woken.length Cw)))).cell
 have HB:Hid _:=z5
 clear K h5 z5 c2
 go_wp2_with (refine wpList_store_row rfl 204 _ _ rfl W1.heap.size (dcs d.x d.y d.result d.why (.slice Ab d.begun.length Cb) (.slice Aw d.woken.length Cw)) rfl rfl 204 _ HB.out.heap sizeDeed rfl (zq _ _ _ _ _ _ _ _ _ _) ?_)
 exact bodyPost_ret (v:=.agg (dcs d.x d.y d.result d.why (.slice Ab d.begun.length Cb) (.slice Aw d.woken.length Cw))) (by simp [results,Tryz.results97,go_sem,d0]) rfl ⟨Ab,Cb,Aw,Cw,rfl,h6⟩
theorem do_get (h:Cor W w L q k us) (hn:n < 16) (a b c:Int) (m:Nat) (hK:∀ w us,Cor W w L q k us→Calls Tryz.prog 130 #[.pointer (some ⟨L.b,0,none⟩),.int .i64 (n:Int),.pointer (some ⟨L.b,10+n*20,none⟩),.agg #[.int .i64 36,.int .i64 a,.int .i64 b,.int .i64 c,.int .u64 (m:Nat)]] w (Dd W L qz k' d us)) :
  Calls Tryz.prog 97 #[.pointer (some ⟨L.b,0,none⟩),.int .i64 (n:Int),.agg #[.int .i64 36,.int .i64 a,.int .i64 b,.int .i64 c,.int .u64 (m:Nat)],.int .i64 ch] w (Dd W L qz k' d us):=by
 obtain ⟨W1,e1⟩:∃ W1,W1=w.alloc (.cells #[.int .i64 36,.int .i64 a,.int .i64 b,.int .i64 c,.int .u64 (m:Nat)] 112):=⟨_,rfl⟩
 obtain ⟨W2,e2⟩:∃ W2,W2=W1.alloc (.cells #[.int .u64 0,.int .u64 0,.int .i64 0,.int .i64 0,.slice none 0 0,.slice none 0 0] 204):=⟨_,rfl⟩
 have h2:=((h.newBox e1).newBox e2).swap
 have b2:Dk.Box W2 w.heap.size #[.int .i64 36,.int .i64 a,.int .i64 b,.int .i64 c,.int .u64 (m:Nat)] 112:=h2.box (by simp)
 have c2:=b2.cell
 have i1:(n:Int) < 16:=by omega
 have i2:(0:Int)≤(n:Int):=by omega
 have H1:Hid _:=e1.symm
 have H2:Hid _:=e2.symm
 have K:=hK _ _ h2
 clear h h2 hK b2 e1 e2
 go_enter Tryz.func97,Tryz.ntmps97
 go_wp2_with (first | (rw [H1.out];clear H1) | (rw [H2.out];clear H2))
 refine K.mono ?_
 rintro e w5 ⟨Ab,Cb,Aw,Cw,rfl,h5⟩
 have z5:Dk.Box w5 W1.heap.size #[.int .u64 0,.int .u64 0,.int .i64 0,.int .i64 0,.slice none 0 0,.slice none 0 0] 204:=h5.box (by simp [lists])
 have h6:Cor W (w5.setRow W1.heap.size (dcs d.x d.y d.result d.why (.slice Ab d.begun.length Cb) (.slice Aw d.woken.length Cw))) L qz k' (lists Ab Aw Cb Cw d++us):=by
  have p1:=(h5.perm (us':=Dk.boxOf w.heap.size _ _::Dk.boxOf W1.heap.size #[.int .u64 0,.int .u64 0,.int .i64 0,.int .i64 0,.slice none 0 0,.slice none 0 0] 204::(lists Ab Aw Cb Cw d++us)) (List.perm_middle.trans (List.Perm.cons _ List.perm_middle))).drop
  exact (p1.setRow (cs':=(dcs d.x d.y d.result d.why (.slice Ab d.begun.length Cb) (.slice Aw d.woken.length Cw))) rfl).drop
 have d0:=(z5.row (cs':=(dcs d.x d.y d.result d.why (.slice Ab d.begun.length Cb) (.slice Aw d.woken.length Cw)))).cell
 have HB:Hid _:=z5
 clear K h5 z5 c2
 go_wp2_with (refine wpList_store_row rfl 204 _ _ rfl W1.heap.size (dcs d.x d.y d.result d.why (.slice Ab d.begun.length Cb) (.slice Aw d.woken.length Cw)) rfl rfl 204 _ HB.out.heap sizeDeed rfl (zq _ _ _ _ _ _ _ _ _ _) ?_)
 exact bodyPost_ret (v:=.agg (dcs d.x d.y d.result d.why (.slice Ab d.begun.length Cb) (.slice Aw d.woken.length Cw))) (by simp [results,Tryz.results97,go_sem,d0]) rfl ⟨Ab,Cb,Aw,Cw,rfl,h6⟩
end
section
variable {W w w' : World} {L : Dk.Loc} {q qz : Dk.Sp} {k k' n : Nat} {us us' us1 us2 : List Dk.Thing} {t : Dk.Thing} {ch : Int} {d : Dk.Deed}
theorem zof (h:Cor W w L q k us) (hn:n < 16) (a b c:Int) (m:Nat) (hK:∀ w us,Cor W w L q k us→Calls Tryz.prog 127 #[.pointer (some ⟨L.b,0,none⟩),.int .i64 (n:Int),.agg #[.int .i64 25,.int .i64 a,.int .i64 b,.int .i64 c,.int .u64 (m:Nat)],.int .i64 ch] w (Dd W L qz k' d us)) :
  Calls Tryz.prog 97 #[.pointer (some ⟨L.b,0,none⟩),.int .i64 (n:Int),.agg #[.int .i64 25,.int .i64 a,.int .i64 b,.int .i64 c,.int .u64 (m:Nat)],.int .i64 ch] w (Dd W L qz k' d us):=by
 obtain ⟨W1,e1⟩:∃ W1,W1=w.alloc (.cells #[.int .i64 25,.int .i64 a,.int .i64 b,.int .i64 c,.int .u64 (m:Nat)] 112):=⟨_,rfl⟩
 obtain ⟨W2,e2⟩:∃ W2,W2=W1.alloc (.cells #[.int .u64 0,.int .u64 0,.int .i64 0,.int .i64 0,.slice none 0 0,.slice none 0 0] 204):=⟨_,rfl⟩
 have h2:=((h.newBox e1).newBox e2).swap
 have b2:Dk.Box W2 w.heap.size #[.int .i64 25,.int .i64 a,.int .i64 b,.int .i64 c,.int .u64 (m:Nat)] 112:=h2.box (by simp)
 have c2:=b2.cell
 have i1:(n:Int) < 16:=by omega
 have i2:(0:Int)≤(n:Int):=by omega
 have H1:Hid _:=e1.symm
 have H2:Hid _:=e2.symm
 have K:=hK _ _ h2
 clear h h2 hK b2 e1 e2
 go_enter Tryz.func97,Tryz.ntmps97
 go_wp2_with (first | (rw [H1.out];clear H1) | (rw [H2.out];clear H2))
 refine K.mono ?_
 rintro e w5 ⟨Ab,Cb,Aw,Cw,rfl,h5⟩
 have z5:Dk.Box w5 W1.heap.size #[.int .u64 0,.int .u64 0,.int .i64 0,.int .i64 0,.slice none 0 0,.slice none 0 0] 204:=h5.box (by simp [lists])
 have h6:Cor W (w5.setRow W1.heap.size (dcs d.x d.y d.result d.why (.slice Ab d.begun.length Cb) (.slice Aw d.woken.length Cw))) L qz k' (lists Ab Aw Cb Cw d++us):=by
  have p1:=(h5.perm (us':=Dk.boxOf w.heap.size _ _::Dk.boxOf W1.heap.size #[.int .u64 0,.int .u64 0,.int .i64 0,.int .i64 0,.slice none 0 0,.slice none 0 0] 204::(lists Ab Aw Cb Cw d++us)) (List.perm_middle.trans (List.Perm.cons _ List.perm_middle))).drop
  exact (p1.setRow (cs':=(dcs d.x d.y d.result d.why (.slice Ab d.begun.length Cb) (.slice Aw d.woken.length Cw))) rfl).drop
 have d0:=(z5.row (cs':=(dcs d.x d.y d.result d.why (.slice Ab d.begun.length Cb) (.slice Aw d.woken.length Cw)))).cell
 have HB:Hid _:=z5
 clear K h5 z5 c2
 go_wp2_with (refine wpList_store_row rfl 204 _ _ rfl W1.heap.size (dcs d.x d.y d.result d.why (.slice Ab d.begun.length Cb) (.slice Aw d.woken.length Cw)) rfl rfl 204 _ HB.out.heap sizeDeed rfl (zq _ _ _ _ _ _ _ _ _ _) ?_)
 exact bodyPost_ret (v:=.agg (dcs d.x d.y d.result d.why (.slice Ab d.begun.length Cb) (.slice Aw d.woken.length Cw))) (by simp [results,Tryz.results97,go_sem,d0]) rfl ⟨Ab,Cb,Aw,Cw,rfl,h6⟩
theorem zog (h:Cor W w L q k us) (hn:n < 16) (a b c:Int) (m:Nat) (hK:∀ w us,Cor W w L q k us→Calls Tryz.prog 127 #[.pointer (some ⟨L.b,0,none⟩),.int .i64 (n:Int),.agg #[.int .i64 26,.int .i64 a,.int .i64 b,.int .i64 c,.int .u64 (m:Nat)],.int .i64 ch] w (Dd W L qz k' d us)) :
  Calls Tryz.prog 97 #[.pointer (some ⟨L.b,0,none⟩),.int .i64 (n:Int),.agg #[.int .i64 26,.int .i64 a,.int .i64 b,.int .i64 c,.int .u64 (m:Nat)],.int .i64 ch] w (Dd W L qz k' d us):=by
 obtain ⟨W1,e1⟩:∃ W1,W1=w.alloc (.cells #[.int .i64 26,.int .i64 a,.int .i64 b,.int .i64 c,.int .u64 (m:Nat)] 112):=⟨_,rfl⟩
 obtain ⟨W2,e2⟩:∃ W2,W2=W1.alloc (.cells #[.int .u64 0,.int .u64 0,.int .i64 0,.int .i64 0,.slice none 0 0,.slice none 0 0] 204):=⟨_,rfl⟩
 have h2:=((h.newBox e1).newBox e2).swap
 have b2:Dk.Box W2 w.heap.size #[.int .i64 26,.int .i64 a,.int .i64 b,.int .i64 c,.int .u64 (m:Nat)] 112:=h2.box (by simp)
 have c2:=b2.cell
 have i1:(n:Int) < 16:=by omega
 have i2:(0:Int)≤(n:Int):=by omega
 have H1:Hid _:=e1.symm
 have H2:Hid _:=e2.symm
 have K:=hK _ _ h2
 clear h h2 hK b2 e1 e2
 go_enter Tryz.func97,Tryz.ntmps97
 go_wp2_with (first | (rw [H1.out];clear H1) | (rw [H2.out];clear H2))
 refine K.mono ?_
 rintro e w5 ⟨Ab,Cb,Aw,Cw,rfl,h5⟩
 have z5:Dk.Box w5 W1.heap.size #[.int .u64 0,.int .u64 0,.int .i64 0,.int .i64 0,.slice none 0 0,.slice none 0 0] 204:=h5.box (by simp [lists])
 have h6:Cor W (w5.setRow W1.heap.size (dcs d.x d.y d.result d.why (.slice Ab d.begun.length Cb) (.slice Aw d.woken.length Cw))) L qz k' (lists Ab Aw Cb Cw d++us):=by
  have p1:=(h5.perm (us':=Dk.boxOf w.heap.size _ _::Dk.boxOf W1.heap.size #[.int .u64 0,.int .u64 0,.int .i64 0,.int .i64 0,.slice none 0 0,.slice none 0 0] 204::(lists Ab Aw Cb Cw d++us)) (List.perm_middle.trans (List.Perm.cons _ List.perm_middle))).drop
  exact (p1.setRow (cs':=(dcs d.x d.y d.result d.why (.slice Ab d.begun.length Cb) (.slice Aw d.woken.length Cw))) rfl).drop
 have d0:=(z5.row (cs':=(dcs d.x d.y d.result d.why (.slice Ab d.begun.length Cb) (.slice Aw d.woken.length Cw)))).cell
 have HB:Hid _:=z5
 clear K h5 z5 c2
 go_wp2_with (refine wpList_store_row rfl 204 _ _ rfl W1.heap.size (dcs d.x d.y d.result d.why (.slice Ab d.begun.length Cb) (.slice Aw d.woken.length Cw)) rfl rfl 204 _ HB.out.heap sizeDeed rfl (zq _ _ _ _ _ _ _ _ _ _) ?_)
 exact bodyPost_ret (v:=.agg (dcs d.x d.y d.result d.why (.slice Ab d.begun.length Cb) (.slice Aw d.woken.length Cw))) (by simp [results,Tryz.results97,go_sem,d0]) rfl ⟨Ab,Cb,Aw,Cw,rfl,h6⟩
theorem zoh (h:Cor W w L q k us) (hn:n < 16) (a b c:Int) (m:Nat) (hK:∀ w us,Cor W w L q k us→Calls Tryz.prog 127 #[.pointer (some ⟨L.b,0,none⟩),.int .i64 (n:Int),.agg #[.int .i64 27,.int .i64 a,.int .i64 b,.int .i64 c,.int .u64 (m:Nat)],.int .i64 ch] w (Dd W L qz k' d us)) :
  Calls Tryz.prog 97 #[.pointer (some ⟨L.b,0,none⟩),.int .i64 (n:Int),.agg #[.int .i64 27,.int .i64 a,.int .i64 b,.int .i64 c,.int .u64 (m:Nat)],.int .i64 ch] w (Dd W L qz k' d us):=by
 obtain ⟨W1,e1⟩:∃ W1,W1=w.alloc (.cells #[.int .i64 27,.int .i64 a,.int .i64 b,.int .i64 c,.int .u64 (m:Nat)] 112):=⟨_,rfl⟩
 obtain ⟨W2,e2⟩:∃ W2,W2=W1.alloc (.cells #[.int .u64 0,.int .u64 0,.int .i64 0,.int .i64 0,.slice none 0 0,.slice none 0 0] 204):=⟨_,rfl⟩
 have h2:=((h.newBox e1).newBox e2).swap
 have b2:Dk.Box W2 w.heap.size #[.int .i64 27,.int .i64 a,.int .i64 b,.int .i64 c,.int .u64 (m:Nat)] 112:=h2.box (by simp)
 have c2:=b2.cell
 have i1:(n:Int) < 16:=by omega
 have i2:(0:Int)≤(n:Int):=by omega
 have H1:Hid _:=e1.symm
 have H2:Hid _:=e2.symm
 have K:=hK _ _ h2
 clear h h2 hK b2 e1 e2
 go_enter Tryz.func97,Tryz.ntmps97
 go_wp2_with (first | (rw [H1.out];clear H1) | (rw [H2.out];clear H2))
 refine K.mono ?_
 rintro e w5 ⟨Ab,Cb,Aw,Cw,rfl,h5⟩
 have z5:Dk.Box w5 W1.heap.size #[.int .u64 0,.int .u64 0,.int .i64 0,.int .i64 0,.slice none 0 0,.slice none 0 0] 204:=h5.box (by simp [lists])
 have h6:Cor W (w5.setRow W1.heap.size (dcs d.x d.y d.result d.why (.slice Ab d.begun.length Cb) (.slice Aw d.woken.length Cw))) L qz k' (lists Ab Aw Cb Cw d++us):=by
  have p1:=(h5.perm (us':=Dk.boxOf w.heap.size _ _::Dk.boxOf W1.heap.size #[.int .u64 0,.int .u64 0,.int .i64 0,.int .i64 0,.slice none 0 0,.slice none 0 0] 204::(lists Ab Aw Cb Cw d++us)) (List.perm_middle.trans (List.Perm.cons _ List.perm_middle))).drop
  exact (p1.setRow (cs':=(dcs d.x d.y d.result d.why (.slice Ab d.begun.length Cb) (.slice Aw d.woken.length Cw))) rfl).drop
 have d0:=(z5.row (cs':=(dcs d.x d.y d.result d.why (.slice Ab d.begun.length Cb) (.slice Aw d.woken.length Cw)))).cell
 have HB:Hid _:=z5
 clear K h5 z5 c2
 go_wp2_with (refine wpList_store_row rfl 204 _ _ rfl W1.heap.size (dcs d.x d.y d.result d.why (.slice Ab d.begun.length Cb) (.slice Aw d.woken.length Cw)) rfl rfl 204 _ HB.out.heap sizeDeed rfl (zq _ _ _ _ _ _ _ _ _ _) ?_)
 exact bodyPost_ret (v:=.agg (dcs d.x d.y d.result d.why (.slice Ab d.begun.length Cb) (.slice Aw d.woken.length Cw))) (by simp [results,Tryz.results97,go_sem,d0]) rfl ⟨Ab,Cb,Aw,Cw,rfl,h6⟩
theorem zoi (h:Cor W w L q k us) (hn:n < 16) (a b c:Int) (m:Nat) (hK:∀ w us,Cor W w L q k us→Calls Tryz.prog 127 #[.pointer (some ⟨L.b,0,none⟩),.int .i64 (n:Int),.agg #[.int .i64 28,.int .i64 a,.int .i64 b,.int .i64 c,.int .u64 (m:Nat)],.int .i64 ch] w (Dd W L qz k' d us)) :
  Calls Tryz.prog 97 #[.pointer (some ⟨L.b,0,none⟩),.int .i64 (n:Int),.agg #[.int .i64 28,.int .i64 a,.int .i64 b,.int .i64 c,.int .u64 (m:Nat)],.int .i64 ch] w (Dd W L qz k' d us):=by
 obtain ⟨W1,e1⟩:∃ W1,W1=w.alloc (.cells #[.int .i64 28,.int .i64 a,.int .i64 b,.int .i64 c,.int .u64 (m:Nat)] 112):=⟨_,rfl⟩
 obtain ⟨W2,e2⟩:∃ W2,W2=W1.alloc (.cells #[.int .u64 0,.int .u64 0,.int .i64 0,.int .i64 0,.slice none 0 0,.slice none 0 0] 204):=⟨_,rfl⟩
 have h2:=((h.newBox e1).newBox e2).swap
 have b2:Dk.Box W2 w.heap.size #[.int .i64 28,.int .i64 a,.int .i64 b,.int .i64 c,.int .u64 (m:Nat)] 112:=h2.box (by simp)
 have c2:=b2.cell
 have i1:(n:Int) < 16:=by omega
 have i2:(0:Int)≤(n:Int):=by omega
 have H1:Hid _:=e1.symm
 have H2:Hid _:=e2.symm
 have K:=hK _ _ h2
 clear h h2 hK b2 e1 e2
 go_enter Tryz.func97,Tryz.ntmps97
 go_wp2_with (first | (rw [H1.out];clear H1) | (rw [H2.out];clear H2))
 refine K.mono ?_
 rintro e w5 ⟨Ab,Cb,Aw,Cw,rfl,h5⟩
 have z5:Dk.Box w5 W1.heap.size #[.int .u64 0,.int .u64 0,.int .i64 0,.int .i64 0,.slice none 0 0,.slice none 0 0] 204:=h5.box (by simp [lists])
 have h6:Cor W (w5.setRow W1.heap.size (dcs d.x d.y d.result d.why (.slice Ab d.begun.length Cb) (.slice Aw d.woken.length Cw))) L qz k' (lists Ab Aw Cb Cw d++us):=by
  have p1:=(h5.perm (us':=Dk.boxOf w.heap.size _ _::Dk.boxOf W1.heap.size #[.int .u64 0,.int .u64 0,.int .i64 0,.int .i64 0,.slice none 0 0,.slice none 0 0] 204::(lists Ab Aw Cb Cw d++us)) (List.perm_middle.trans (List.Perm.cons _ List.perm_middle))).drop
  exact (p1.setRow (cs':=(dcs d.x d.y d.result d.why (.slice Ab d.begun.length Cb) (.slice Aw d.woken.length Cw))) rfl).drop
 have d0:=(z5.row (cs':=(dcs d.x d.y d.result d.why (.slice Ab d.begun.length Cb) (.slice Aw d.woken.length Cw)))).cell
 have HB:Hid _:=z5
 clear K h5 z5 c2
 go_wp2_with (refine wpList_store_row rfl 204 _ _ rfl W1.heap.size (dcs d.x d.y d.result d.why (.slice Ab d.begun.length Cb) (.slice Aw d.woken.length Cw)) rfl rfl 204 _ HB.out.heap sizeDeed rfl (zq _ _ _ _ _ _ _ _ _ _) ?_)
 exact bodyPost_ret (v:=.agg (dcs d.x d.y d.result d.why (.slice Ab d.begun.length Cb) (.slice Aw d.woken.length Cw))) (by simp [results,Tryz.results97,go_sem,d0]) rfl ⟨Ab,Cb,Aw,Cw,rfl,h6⟩
theorem zoj (h:Cor W w L q k us) (hn:n < 16) (a b c:Int) (m:Nat) (hK:∀ w us,Cor W w L q k us→Calls Tryz.prog 127 #[.pointer (some ⟨L.b,0,none⟩),.int .i64 (n:Int),.agg #[.int .i64 29,.int .i64 a,.int .i64 b,.int .i64 c,.int .u64 (m:Nat)],.int .i64 ch] w (Dd W L qz k' d us)) :
  Calls Tryz.prog 97 #[.pointer (some ⟨L.b,0,none⟩),.int .i64 (n:Int),.agg #[.int .i64 29,.int .i64 a,.int .i64 b,.int .i64 c,.int .u64 (m:Nat)],.int .i64 ch] w (Dd W L qz k' d us):=by
 obtain ⟨W1,e1⟩:∃ W1,W1=w.alloc (.cells #[.int .i64 29,.int .i64 a,.int .i64 b,.int .i64 c,.int .u64 (m:Nat)] 112):=⟨_,rfl⟩
 obtain ⟨W2,e2⟩:∃ W2,W2=W1.alloc (.cells #[.int .u64 0,.int .u64 0,.int .i64 0,.int .i64 0,.slice none 0 0,.slice none 0 0] 204):=⟨_,rfl⟩
 have h2:=((h.newBox e1).newBox e2).swap
 have b2:Dk.Box W2 w.heap.size #[.int .i64 29,.int .i64 a,.int .i64 b,.int .i64 c,.int .u64 (m:Nat)] 112:=h2.box (by simp)
 have c2:=b2.cell
 have i1:(n:Int) < 16:=by omega
 have i2:(0:Int)≤(n:Int):=by omega
 have H1:Hid _:=e1.symm
 have H2:Hid _:=e2.symm
 have K:=hK _ _ h2
 clear h h2 hK b2 e1 e2
 go_enter Tryz.func97,Tryz.ntmps97
 go_wp2_with (first | (rw [H1.out];clear H1) | (rw [H2.out];clear H2))
 refine K.mono ?_
 rintro e w5 ⟨Ab,Cb,Aw,Cw,rfl,h5⟩
 have z5:Dk.Box w5 W1.heap.size #[.int .u64 0,.int .u64 0,.int .i64 0,.int .i64 0,.slice none 0 0,.slice none 0 0] 204:=h5.box (by simp [lists])
 have h6:Cor W (w5.setRow W1.heap.size (dcs d.x d.y d.result d.why (.slice Ab d.begun.length Cb) (.slice Aw d.woken.length Cw))) L qz k' (lists Ab Aw Cb Cw d++us):=by
  have p1:=(h5.perm (us':=Dk.boxOf w.heap.size _ _::Dk.boxOf W1.heap.size #[.int .u64 0,.int .u64 0,.int .i64 0,.int .i64 0,.slice none 0 0,.slice none 0 0] 204::(lists Ab Aw Cb Cw d++us)) (List.perm_middle.trans (List.Perm.cons _ List.perm_middle))).drop
  exact (p1.setRow (cs':=(dcs d.x d.y d.result d.why (.slice Ab d.begun.length Cb) (.slice Aw d.woken.length Cw))) rfl).drop
 have d0:=(z5.row (cs':=(dcs d.x d.y d.result d.why (.slice Ab d.begun.length Cb) (.slice Aw d.woken.length Cw)))).cell
 have HB:Hid _:=z5
 clear K h5 z5 c2
 go_wp2_with (refine wpList_store_row rfl 204 _ _ rfl W1.heap.size (dcs d.x d.y d.result d.why (.slice Ab d.begun.length Cb) (.slice Aw d.woken.length Cw)) rfl rfl 204 _ HB.out.heap sizeDeed rfl (zq _ _ _ _ _ _ _ _ _ _) ?_)
 exact bodyPost_ret (v:=.agg (dcs d.x d.y d.result d.why (.slice Ab d.begun.length Cb) (.slice Aw d.woken.length Cw))) (by simp [results,Tryz.results97,go_sem,d0]) rfl ⟨Ab,Cb,Aw,Cw,rfl,h6⟩
theorem zok (h:Cor W w L q k us) (hn:n < 16) (a b c:Int) (m:Nat) (hK:∀ w us,Cor W w L q k us→Calls Tryz.prog 127 #[.pointer (some ⟨L.b,0,none⟩),.int .i64 (n:Int),.agg #[.int .i64 30,.int .i64 a,.int .i64 b,.int .i64 c,.int .u64 (m:Nat)],.int .i64 ch] w (Dd W L qz k' d us)) :
  Calls Tryz.prog 97 #[.pointer (some ⟨L.b,0,none⟩),.int .i64 (n:Int),.agg #[.int .i64 30,.int .i64 a,.int .i64 b,.int .i64 c,.int .u64 (m:Nat)],.int .i64 ch] w (Dd W L qz k' d us):=by
 obtain ⟨W1,e1⟩:∃ W1,W1=w.alloc (.cells #[.int .i64 30,.int .i64 a,.int .i64 b,.int .i64 c,.int .u64 (m:Nat)] 112):=⟨_,rfl⟩
 obtain ⟨W2,e2⟩:∃ W2,W2=W1.alloc (.cells #[.int .u64 0,.int .u64 0,.int .i64 0,.int .i64 0,.slice none 0 0,.slice none 0 0] 204):=⟨_,rfl⟩
 have h2:=((h.newBox e1).newBox e2).swap
 have b2:Dk.Box W2 w.heap.size #[.int .i64 30,.int .i64 a,.int .i64 b,.int .i64 c,.int .u64 (m:Nat)] 112:=h2.box (by simp)
 have c2:=b2.cell
 have i1:(n:Int) < 16:=by omega
 have i2:(0:Int)≤(n:Int):=by omega
 have H1:Hid _:=e1.symm
 have H2:Hid _:=e2.symm
 have K:=hK _ _ h2
 clear h h2 hK b2 e1 e2
 go_enter Tryz.func97,Tryz.ntmps97
 go_wp2_with (first | (rw [H1.out];clear H1) | (rw [H2.out];clear H2))
 refine K.mono ?_
 rintro e w5 ⟨Ab,Cb,Aw,Cw,rfl,h5⟩
 have z5:Dk.Box w5 W1.heap.size #[.int .u64 0,.int .u64 0,.int .i64 0,.int .i64 0,.slice none 0 0,.slice none 0 0] 204:=h5.box (by simp [lists])
 have h6:Cor W (w5.setRow W1.heap.size (dcs d.x d.y d.result d.why (.slice Ab d.begun.length Cb) (.slice Aw d.woken.length Cw))) L qz k' (lists Ab Aw Cb Cw d++us):=by
  have p1:=(h5.perm (us':=Dk.boxOf w.heap.size _ _::Dk.boxOf W1.heap.size #[.int .u64 0,.int .u64 0,.int .i64 0,.int .i64 0,.slice none 0 0,.slice none 0 0] 204::(lists Ab Aw Cb Cw d++us)) (List.perm_middle.trans (List.Perm.cons _ List.perm_middle))).drop
  exact (p1.setRow (cs':=(dcs d.x d.y d.result d.why (.slice Ab d.begun.length Cb) (.slice Aw d.woken.length Cw))) rfl).drop
 have d0:=(z5.row (cs':=(dcs d.x d.y d.result d.why (.slice Ab d.begun.length Cb) (.slice Aw d.woken.length Cw)))).cell
 have HB:Hid _:=z5
 clear K h5 z5 c2
 go_wp2_with (refine wpList_store_row rfl 204 _ _ rfl W1.heap.size (dcs d.x d.y d.result d.why (.slice Ab d.begun.length Cb) (.slice Aw d.woken.length Cw)) rfl rfl 204 _ HB.out.heap sizeDeed rfl (zq _ _ _ _ _ _ _ _ _ _) ?_)
 exact bodyPost_ret (v:=.agg (dcs d.x d.y d.result d.why (.slice Ab d.begun.length Cb) (.slice Aw d.woken.length Cw))) (by simp [results,Tryz.results97,go_sem,d0]) rfl ⟨Ab,Cb,Aw,Cw,rfl,h6⟩
theorem zol (h:Cor W w L q k us) (hn:n < 16) (a b c:Int) (m:Nat) (hK:∀ w us,Cor W w L q k us→Calls Tryz.prog 127 #[.pointer (some ⟨L.b,0,none⟩),.int .i64 (n:Int),.agg #[.int .i64 31,.int .i64 a,.int .i64 b,.int .i64 c,.int .u64 (m:Nat)],.int .i64 ch] w (Dd W L qz k' d us)) :
  Calls Tryz.prog 97 #[.pointer (some ⟨L.b,0,none⟩),.int .i64 (n:Int),.agg #[.int .i64 31,.int .i64 a,.int .i64 b,.int .i64 c,.int .u64 (m:Nat)],.int .i64 ch] w (Dd W L qz k' d us):=by
 obtain ⟨W1,e1⟩:∃ W1,W1=w.alloc (.cells #[.int .i64 31,.int .i64 a,.int .i64 b,.int .i64 c,.int .u64 (m:Nat)] 112):=⟨_,rfl⟩
 obtain ⟨W2,e2⟩:∃ W2,W2=W1.alloc (.cells #[.int .u64 0,.int .u64 0,.int .i64 0,.int .i64 0,.slice none 0 0,.slice none 0 0] 204):=⟨_,rfl⟩
 have h2:=((h.newBox e1).newBox e2).swap
 have b2:Dk.Box W2 w.heap.size #[.int .i64 31,.int .i64 a,.int .i64 b,.int .i64 c,.int .u64 (m:Nat)] 112:=h2.box (by simp)
 have c2:=b2.cell
 have i1:(n:Int) < 16:=by omega
 have i2:(0:Int)≤(n:Int):=by omega
 have H1:Hid _:=e1.symm
 have H2:Hid _:=e2.symm
 have K:=hK _ _ h2
 clear h h2 hK b2 e1 e2
 go_enter Tryz.func97,Tryz.ntmps97
 go_wp2_with (first | (rw [H1.out];clear H1) | (rw [H2.out];clear H2))
 refine K.mono ?_
 rintro e w5 ⟨Ab,Cb,Aw,Cw,rfl,h5⟩
 have z5:Dk.Box w5 W1.heap.size #[.int .u64 0,.int .u64 0,.int .i64 0,.int .i64 0,.slice none 0 0,.slice none 0 0] 204:=h5.box (by simp [lists])
 have h6:Cor W (w5.setRow W1.heap.size (dcs d.x d.y d.result d.why (.slice Ab d.begun.length Cb) (.slice Aw d.woken.length Cw))) L qz k' (lists Ab Aw Cb Cw d++us):=by
  have p1:=(h5.perm (us':=Dk.boxOf w.heap.size _ _::Dk.boxOf W1.heap.size #[.int .u64 0,.int .u64 0,.int .i64 0,.int .i64 0,.slice none 0 0,.slice none 0 0] 204::(lists Ab Aw Cb Cw d++us)) (List.perm_middle.trans (List.Perm.cons _ List.perm_middle))).drop
  exact (p1.setRow (cs':=(dcs d.x d.y d.result d.why (.slice Ab d.begun.length Cb) (.slice Aw d.woken.length Cw))) rfl).drop
 have d0:=(z5.row (cs':=(dcs d.x d.y d.result d.why (.slice Ab d.begun.length Cb) (.slice Aw d.woken.length Cw)))).cell
 have HB:Hid _:=z5
 clear K h5 z5 c2
 go_wp2_with (refine wpList_store_row rfl 204 _ _ rfl W1.heap.size (dcs d.x d.y d.result d.why (.slice Ab d.begun.length Cb) (.slice Aw d.woken.length Cw)) rfl rfl 204 _ HB.out.heap sizeDeed rfl (zq _ _ _ _ _ _ _ _ _ _) ?_)
 exact bodyPost_ret (v:=.agg (dcs d.x d.y d.result d.why (.slice Ab d.begun.length Cb) (.slice Aw d.woken.length Cw))) (by simp [results,Tryz.results97,go_sem,d0]) rfl ⟨Ab,Cb,Aw,Cw,rfl,h6⟩
end
section
variable {W w w' : World} {L : Dk.Loc} {q qz : Dk.Sp} {k k' n : Nat} {us us' us1 us2 : List Dk.Thing} {t : Dk.Thing} {ch : Int} {d : Dk.Deed}
theorem zoc (h:Cor W w L q k us) (hn:n < 16) (a:Nat) (b c:Int) (m:Nat) (ha:a < 8) (va:Nat) (eva:(q.thr n).f.r a=va) (hK:∀ w us,Cor W w L q k us→Calls Tryz.prog 126 #[.pointer (some ⟨L.b,0,none⟩),.int .i64 (n:Int),.int .u64 (va:Nat)] w (Dd W L qz k' d us)) :
  Calls Tryz.prog 97 #[.pointer (some ⟨L.b,0,none⟩),.int .i64 (n:Int),.agg #[.int .i64 22,.int .i64 (a:Int),.int .i64 b,.int .i64 c,.int .u64 (m:Nat)],.int .i64 ch] w (Dd W L qz k' d us):=by
 obtain ⟨W1,e1⟩:∃ W1,W1=w.alloc (.cells #[.int .i64 22,.int .i64 (a:Int),.int .i64 b,.int .i64 c,.int .u64 (m:Nat)] 112):=⟨_,rfl⟩
 obtain ⟨W2,e2⟩:∃ W2,W2=W1.alloc (.cells #[.int .u64 0,.int .u64 0,.int .i64 0,.int .i64 0,.slice none 0 0,.slice none 0 0] 204):=⟨_,rfl⟩
 have h2:=((h.newBox e1).newBox e2).swap
 have b2:Dk.Box W2 w.heap.size #[.int .i64 22,.int .i64 (a:Int),.int .i64 b,.int .i64 c,.int .u64 (m:Nat)] 112:=h2.box (by simp)
 have c2:=b2.cell
 have i1:(n:Int) < 16:=by omega
 have i2:(0:Int)≤(n:Int):=by omega
 have H1:Hid _:=e1.symm
 have H2:Hid _:=e2.symm
 have i3a:(a:Int) < 8:=by omega
 have i4a:(0:Int)≤(a:Int):=by omega
 have hC:=h2.below (Dk.zh (Below.refl _ _))
 have HS0:Dk.Box W2.drew w.heap.size #[.int .i64 22,.int .i64 (a:Int),.int .i64 b,.int .i64 c,.int .u64 (m:Nat)] 112∧W2.drew.cell? ⟨L.b,10+n*20+2+a,none⟩=some (.int .u64 (va:Nat)):=⟨hC.box (by simp),by rw [hC.regCell hn a ha,eva]⟩
 have K:=hK _ _ hC
 have cop:W2.cell? ⟨w.heap.size,0,none⟩=some (.int .i64 22):=b2.cell 0
 clear h h2 hK b2 c2 e1 e2 hC
 go_enter Tryz.func97,Tryz.ntmps97
 go_wp2_with (first | (rw [H1.out];clear H1) | (rw [H2.out];clear H2))
 refine Dk.zd (S:=fun w'=>Dk.Box w' w.heap.size #[.int .i64 22,.int .i64 (a:Int),.int .i64 b,.int .i64 c,.int .u64 (m:Nat)] 112∧w'.cell? ⟨L.b,10+n*20+2+a,none⟩=some (.int .u64 (va:Nat))) [] [0,1,2,3,4,5,6,7,8,9] [10,11] 2 (by kernel_rfl) (by kernel_rfl) (by kernel_rfl) (by kernel_rfl) rfl HS0 _ ?_ (fun a' h=>h)
 refine Dk.za (v:=.pointer (some ⟨L.b,0,none⟩)) rfl rfl (fun w' hw'=>by go_simp) ?_
 simp only [zD]
 refine Dk.za (v:=.int .i64 (n:Int)) rfl rfl (fun w' hw'=>by go_simp) ?_
 simp only [zD]
 refine Dk.za (v:=.pointer (some ⟨L.b,10+n*20,none⟩)) rfl rfl (fun w' hw'=>by go_simp) ?_
 simp only [zD]
 refine Dk.za (v:=.pointer (some ⟨w.heap.size,1,none⟩)) rfl rfl (fun w' hw'=>by go_simp) ?_
 simp only [zD]
 refine Dk.za (v:=.int .i64 (a:Int)) rfl rfl (fun w' hw'=>by have c:=hw'.1.cell 1;go_simp) ?_
 simp only [zD]
 refine Dk.za (v:=.pointer (some ⟨L.b,10+n*20,none⟩)) rfl rfl (fun w' hw'=>by go_simp) ?_
 simp only [zD]
 refine Dk.za (v:=.pointer (some ⟨L.b,10+n*20,none⟩)) rfl rfl (fun w' hw'=>by go_simp) ?_
 simp only [zD]
 refine Dk.za (v:=.pointer (some ⟨L.b,10+n*20+2,none⟩)) rfl rfl (fun w' hw'=>by go_simp) ?_
 simp only [zD]
 refine Dk.za (v:=.pointer (some ⟨L.b,10+n*20+2+a,none⟩)) rfl rfl (fun w' hw'=>by go_simp) ?_
 simp only [zD]
 refine Dk.za (v:=.int .u64 (va:Nat)) rfl rfl (fun w' hw'=>by have c:=hw'.2;go_simp) ?_
 simp only [zD]
 generalize W2.drew=WD at *
 refine Dk.treeY (rs:=[10]) (by kernel_rfl) (by simp) ?_
 intro i hi
 simp only [List.mem_cons,List.not_mem_nil,or_false] at hi
 subst hi
 refine Dk.zm (some 63) rfl rfl rfl (f:=126) (args:=#[.pointer (some ⟨L.b,0,none⟩),.int .i64 (n:Int),.int .u64 (va:Nat)]) (by go_simp) ?_
 refine K.mono ?_
 rintro e w5 ⟨Ab,Cb,Aw,Cw,rfl,h5⟩
 refine ⟨_,rfl,fun h=>absurd (by decide) h,?_⟩
 simp only [zD]
 have z5:Dk.Box w5 W1.heap.size #[.int .u64 0,.int .u64 0,.int .i64 0,.int .i64 0,.slice none 0 0,.slice none 0 0] 204:=h5.box (by simp [lists])
 have h6:Cor W (w5.setRow W1.heap.size (dcs d.x d.y d.result d.why (.slice Ab d.begun.length Cb) (.slice Aw d.woken.length Cw))) L qz k' (lists Ab Aw Cb Cw d++us):=by
  have p1:=(h5.perm (us':=Dk.boxOf w.heap.size _ _::Dk.boxOf W1.heap.size #[.int .u64 0,.int .u64 0,.int .i64 0,.int .i64 0,.slice none 0 0,.slice none 0 0] 204::(lists Ab Aw Cb Cw d++us)) (List.perm_middle.trans (List.Perm.cons _ List.perm_middle))).drop
  exact (p1.setRow (cs':=(dcs d.x d.y d.result d.why (.slice Ab d.begun.length Cb) (.slice Aw d.woken.length Cw))) rfl).drop
 have d0:=(z5.row (cs':=(dcs d.x d.y d.result d.why (.slice Ab d.begun.length Cb) (.slice Aw d.woken.length Cw)))).cell
 refine Dk.zl [11] _ _ _ (by kernel_rfl) ?_
 refine Dk.zr rfl rfl ?_
 refine wp_store_row 204 _ _ rfl W1.heap.size (dcs d.x d.y d.result d.why (.slice Ab d.begun.length Cb) (.slice Aw d.woken.length Cw)) rfl rfl 204 _ z5.heap sizeDeed rfl (zq _ _ _ _ _ _ _ _ _ _) ⟨fun h=>absurd (by decide) h,?_⟩
 simp only [zD]
 show NoPanic _ Exit.normal _ _
 refine NoPanic.normal ?_
 first | (rename_i hK;refine hK _ _ ?_;clear hK) | (rename_i hK _;refine hK _ _ ?_;clear hK) | (rename_i hK _ _;refine hK _ _ ?_;clear hK)
 clear K h5 z5 HS0
 go_wp2_with fail
 exact bodyPost_ret (v:=.agg (dcs d.x d.y d.result d.why (.slice Ab d.begun.length Cb) (.slice Aw d.woken.length Cw))) (by simp [results,Tryz.results97,go_sem,d0]) rfl ⟨Ab,Cb,Aw,Cw,rfl,h6⟩
theorem do_sleep (h:Cor W w L q k us) (hn:n < 16) (a:Nat) (b c:Int) (m:Nat) (ha:a < 8) (va:Nat) (eva:(q.thr n).f.r a=va) (hK:∀ w us,Cor W w L q k us→Calls Tryz.prog 131 #[.pointer (some ⟨L.b,0,none⟩),.int .i64 (n:Int),.int .u64 (va:Nat)] w (Dd W L qz k' d us)) :
  Calls Tryz.prog 97 #[.pointer (some ⟨L.b,0,none⟩),.int .i64 (n:Int),.agg #[.int .i64 37,.int .i64 (a:Int),.int .i64 b,.int .i64 c,.int .u64 (m:Nat)],.int .i64 ch] w (Dd W L qz k' d us):=by
 obtain ⟨W1,e1⟩:∃ W1,W1=w.alloc (.cells #[.int .i64 37,.int .i64 (a:Int),.int .i64 b,.int .i64 c,.int .u64 (m:Nat)] 112):=⟨_,rfl⟩
 obtain ⟨W2,e2⟩:∃ W2,W2=W1.alloc (.cells #[.int .u64 0,.int .u64 0,.int .i64 0,.int .i64 0,.slice none 0 0,.slice none 0 0] 204):=⟨_,rfl⟩
 have h2:=((h.newBox e1).newBox e2).swap
 have b2:Dk.Box W2 w.heap.size #[.int .i64 37,.int .i64 (a:Int),.int .i64 b,.int .i64 c,.int .u64 (m:Nat)] 112:=h2.box (by simp)
 have c2:=b2.cell
 have i1:(n:Int) < 16:=by omega
 have i2:(0:Int)≤(n:Int):=by omega
 have H1:Hid _:=e1.symm
 have H2:Hid _:=e2.symm
 have i3a:(a:Int) < 8:=by omega
 have i4a:(0:Int)≤(a:Int):=by omega
 have hC:=h2.below (Dk.zh (Below.refl _ _))
 have HS0:Dk.Box W2.drew w.heap.size #[.int .i64 37,.int .i64 (a:Int),.int .i64 b,.int .i64 c,.int .u64 (m:Nat)] 112∧W2.drew.cell? ⟨L.b,10+n*20+2+a,none⟩=some (.int .u64 (va:Nat)):=⟨hC.box (by simp),by rw [hC.regCell hn a ha,eva]⟩
 have K:=hK _ _ hC
 have cop:W2.cell? ⟨w.heap.size,0,none⟩=some (.int .i64 37):=b2.cell 0
 clear h h2 hK b2 c2 e1 e2 hC
 go_enter Tryz.func97,Tryz.ntmps97
 go_wp2_with (first | (rw [H1.out];clear H1) | (rw [H2.out];clear H2))
 refine Dk.zd (S:=fun w'=>Dk.Box w' w.heap.size #[.int .i64 37,.int .i64 (a:Int),.int .i64 b,.int .i64 c,.int .u64 (m:Nat)] 112∧w'.cell? ⟨L.b,10+n*20+2+a,none⟩=some (.int .u64 (va:Nat))) [] [0,1,2,3,4,5,6,7,8,9] [10,11] 2 (by kernel_rfl) (by kernel_rfl) (by kernel_rfl) (by kernel_rfl) rfl HS0 _ ?_ (fun a' h=>h)
 refine Dk.za (v:=.pointer (some ⟨L.b,0,none⟩)) rfl rfl (fun w' hw'=>by go_simp) ?_
 simp only [zD]
 refine Dk.za (v:=.int .i64 (n:Int)) rfl rfl (fun w' hw'=>by go_simp) ?_
 simp only [zD]
 refine Dk.za (v:=.pointer (some ⟨L.b,10+n*20,none⟩)) rfl rfl (fun w' hw'=>by go_simp) ?_
 simp only [zD]
 refine Dk.za (v:=.pointer (some ⟨w.heap.size,1,none⟩)) rfl rfl (fun w' hw'=>by go_simp) ?_
 simp only [zD]
 refine Dk.za (v:=.int .i64 (a:Int)) rfl rfl (fun w' hw'=>by have c:=hw'.1.cell 1;go_simp) ?_
 simp only [zD]
 refine Dk.za (v:=.pointer (some ⟨L.b,10+n*20,none⟩)) rfl rfl (fun w' hw'=>by go_simp) ?_
 simp only [zD]
 refine Dk.za (v:=.pointer (some ⟨L.b,10+n*20,none⟩)) rfl rfl (fun w' hw'=>by go_simp) ?_
 simp only [zD]
 refine Dk.za (v:=.pointer (some ⟨L.b,10+n*20+2,none⟩)) rfl rfl (fun w' hw'=>by go_simp) ?_
 simp only [zD]
 refine Dk.za (v:=.pointer (some ⟨L.b,10+n*20+2+a,none⟩)) rfl rfl (fun w' hw'=>by go_simp) ?_
 simp only [zD]
 refine Dk.za (v:=.int .u64 (va:Nat)) rfl rfl (fun w' hw'=>by have c:=hw'.2;go_simp) ?_
 simp only [zD]
 generalize W2.drew=WD at *
 refine Dk.treeY (rs:=[10]) (by kernel_rfl) (by simp) ?_
 intro i hi
 simp only [List.mem_cons,List.not_mem_nil,or_false] at hi
 subst hi
 refine Dk.zm (some 139) rfl rfl rfl (f:=131) (args:=#[.pointer (some ⟨L.b,0,none⟩),.int .i64 (n:Int),.int .u64 (va:Nat)]) (by go_simp) ?_
 refine K.mono ?_
 rintro e w5 ⟨Ab,Cb,Aw,Cw,rfl,h5⟩
 refine ⟨_,rfl,fun h=>absurd (by decide) h,?_⟩
 simp only [zD]
 have z5:Dk.Box w5 W1.heap.size #[.int .u64 0,.int .u64 0,.int .i64 0,.int .i64 0,.slice none 0 0,.slice none 0 0] 204:=h5.box (by simp [lists])
 have h6:Cor W (w5.setRow W1.heap.size (dcs d.x d.y d.result d.why (.slice Ab d.begun.length Cb) (.slice Aw d.woken.length Cw))) L qz k' (lists Ab Aw Cb Cw d++us):=by
  have p1:=(h5.perm (us':=Dk.boxOf w.heap.size _ _::Dk.boxOf W1.heap.size #[.int .u64 0,.int .u64 0,.int .i64 0,.int .i64 0,.slice none 0 0,.slice none 0 0] 204::(lists Ab Aw Cb Cw d++us)) (List.perm_middle.trans (List.Perm.cons _ List.perm_middle))).drop
  exact (p1.setRow (cs':=(dcs d.x d.y d.result d.why (.slice Ab d.begun.length Cb) (.slice Aw d.woken.length Cw))) rfl).drop
 have d0:=(z5.row (cs':=(dcs d.x d.y d.result d.why (.slice Ab d.begun.length Cb) (.slice Aw d.woken.length Cw)))).cell
 refine Dk.zl [11] _ _ _ (by kernel_rfl) ?_
 refine Dk.zr rfl rfl ?_
 refine wp_store_row 204 _ _ rfl W1.heap.size (dcs d.x d.y d.result d.why (.slice Ab d.begun.length Cb) (.slice Aw d.woken.length Cw)) rfl rfl 204 _ z5.heap sizeDeed rfl (zq _ _ _ _ _ _ _ _ _ _) ⟨fun h=>absurd (by decide) h,?_⟩
 simp only [zD]
 show NoPanic _ Exit.normal _ _
 refine NoPanic.normal ?_
 first | (rename_i hK;refine hK _ _ ?_;clear hK) | (rename_i hK _;refine hK _ _ ?_;clear hK) | (rename_i hK _ _;refine hK _ _ ?_;clear hK)
 clear K h5 z5 HS0
 go_wp2_with fail
 exact bodyPost_ret (v:=.agg (dcs d.x d.y d.result d.why (.slice Ab d.begun.length Cb) (.slice Aw d.woken.length Cw))) (by simp [results,Tryz.results97,go_sem,d0]) rfl ⟨Ab,Cb,Aw,Cw,rfl,h6⟩
theorem do_read (h:Cor W w L q k us) (hn:n < 16) (a:Int) (b:Nat) (c:Int) (m:Nat) (hb:b < 8) (vb:Nat) (evb:(q.thr n).f.r b=vb) (hK:∀ w us,Cor W w L q k us→Calls Tryz.prog 128 #[.pointer (some ⟨L.b,0,none⟩),.agg #[.int .i64 (n:Int),.int .i64 0,.bool false,.int .u64 0],.int .u64 (vb:Nat)] w (Dd W L qz k' d us)) :
  Calls Tryz.prog 97 #[.pointer (some ⟨L.b,0,none⟩),.int .i64 (n:Int),.agg #[.int .i64 33,.int .i64 a,.int .i64 (b:Int),.int .i64 c,.int .u64 (m:Nat)],.int .i64 ch] w (Dd W L qz k' d us):=by
 obtain ⟨W1,e1⟩:∃ W1,W1=w.alloc (.cells #[.int .i64 33,.int .i64 a,.int .i64 (b:Int),.int .i64 c,.int .u64 (m:Nat)] 112):=⟨_,rfl⟩
 obtain ⟨W2,e2⟩:∃ W2,W2=W1.alloc (.cells #[.int .u64 0,.int .u64 0,.int .i64 0,.int .i64 0,.slice none 0 0,.slice none 0 0] 204):=⟨_,rfl⟩
 have h2:=((h.newBox e1).newBox e2).swap
 have b2:Dk.Box W2 w.heap.size #[.int .i64 33,.int .i64 a,.int .i64 (b:Int),.int .i64 c,.int .u64 (m:Nat)] 112:=h2.box (by simp)
 have c2:=b2.cell
 have i1:(n:Int) < 16:=by omega
 have i2:(0:Int)≤(n:Int):=by omega
 have H1:Hid _:=e1.symm
 have H2:Hid _:=e2.symm
 have i3b:(b:Int) < 8:=by omega
 have i4b:(0:Int)≤(b:Int):=by omega
 have hC:=h2.below (Dk.zh (Below.refl _ _))
 have HS0:Dk.Box W2.drew w.heap.size #[.int .i64 33,.int .i64 a,.int .i64 (b:Int),.int .i64 c,.int .u64 (m:Nat)] 112∧W2.drew.cell? ⟨L.b,10+n*20+2+b,none⟩=some (.int .u64 (vb:Nat)):=⟨hC.box (by simp),by rw [hC.regCell hn b hb,evb]⟩
 have K:=hK _ _ hC
 have cop:W2.cell? ⟨w.heap.size,0,none⟩=some (.int .i64 33):=b2.cell 0
 clear h h2 hK b2 c2 e1 e2 hC
 go_enter Tryz.func97,Tryz.ntmps97
 go_wp2_with (first | (rw [H1.out];clear H1) | (rw [H2.out];clear H2))
 refine Dk.zd (S:=fun w'=>Dk.Box w' w.heap.size #[.int .i64 33,.int .i64 a,.int .i64 (b:Int),.int .i64 c,.int .u64 (m:Nat)] 112∧w'.cell? ⟨L.b,10+n*20+2+b,none⟩=some (.int .u64 (vb:Nat))) [] [0,1,2,3,4,5,6,7,8,9,10] [11,12] 2 (by kernel_rfl) (by kernel_rfl) (by kernel_rfl) (by kernel_rfl) rfl HS0 _ ?_ (fun a' h=>h)
 refine Dk.za (v:=.pointer (some ⟨L.b,0,none⟩)) rfl rfl (fun w' hw'=>by go_simp) ?_
 simp only [zD]
 refine Dk.za (v:=.int .i64 (n:Int)) rfl rfl (fun w' hw'=>by go_simp) ?_
 simp only [zD]
 refine Dk.za (v:=.agg #[.int .i64 (n:Int),.int .i64 0,.bool false,.int .u64 0]) rfl rfl (fun w' hw'=>by go_simp) ?_
 simp only [zD]
 refine Dk.za (v:=.pointer (some ⟨L.b,10+n*20,none⟩)) rfl rfl (fun w' hw'=>by go_simp) ?_
 simp only [zD]
 refine Dk.za (v:=.pointer (some ⟨w.heap.size,2,none⟩)) rfl rfl (fun w' hw'=>by go_simp) ?_
 simp only [zD]
 refine Dk.za (v:=.int .i64 (b:Int)) rfl rfl (fun w' hw'=>by have c:=hw'.1.cell 2;go_simp) ?_
 simp only [zD]
 refine Dk.za (v:=.pointer (some ⟨L.b,10+n*20,none⟩)) rfl rfl (fun w' hw'=>by go_simp) ?_
 simp only [zD]
 refine Dk.za (v:=.pointer (some ⟨L.b,10+n*20,none⟩)) rfl rfl (fun w' hw'=>by go_simp) ?_
 simp only [zD]
 refine Dk.za (v:=.pointer (some ⟨L.b,10+n*20+2,none⟩)) rfl rfl (fun w' hw'=>by go_simp) ?_
 simp only [zD]
 refine Dk.za (v:=.pointer (some ⟨L.b,10+n*20+2+b,none⟩)) rfl rfl (fun w' hw'=>by go_simp) ?_
 simp only [zD]
 refine Dk.za (v:=.int .u64 (vb:Nat)) rfl rfl (fun w' hw'=>by have c:=hw'.2;go_simp) ?_
 simp only [zD]
 generalize W2.drew=WD at *
 refine Dk.treeY (rs:=[11]) (by kernel_rfl) (by simp) ?_
 intro i hi
 simp only [List.mem_cons,List.not_mem_nil,or_false] at hi
 subst hi
 refine Dk.zm (some 90) rfl rfl rfl (f:=128) (args:=#[.pointer (some ⟨L.b,0,none⟩),.agg #[.int .i64 (n:Int),.int .i64 0,.bool false,.int .u64 0],.int .u64 (vb:Nat)]) (by go_simp) ?_
 refine K.mono ?_
 rintro e w5 ⟨Ab,Cb,Aw,Cw,rfl,h5⟩
 refine ⟨_,rfl,fun h=>absurd (by decide) h,?_⟩
 simp only [zD]
 have z5:Dk.Box w5 W1.heap.size #[.int .u64 0,.int .u64 0,.int .i64 0,.int .i64 0,.slice none 0 0,.slice none 0 0] 204:=h5.box (by simp [lists])
 have h6:Cor W (w5.setRow W1.heap.size (dcs d.x d.y d.result d.why (.slice Ab d.begun.length Cb) (.slice Aw d.woken.length Cw))) L qz k' (lists Ab Aw Cb Cw d++us):=by
  have p1:=(h5.perm (us':=Dk.boxOf w.heap.size _ _::Dk.boxOf W1.heap.size #[.int .u64 0,.int .u64 0,.int .i64 0,.int .i64 0,.slice none 0 0,.slice none 0 0] 204::(lists Ab Aw Cb Cw d++us)) (List.perm_middle.trans (List.Perm.cons _ List.perm_middle))).drop
  exact (p1.setRow (cs':=(dcs d.x d.y d.result d.why (.slice Ab d.begun.length Cb) (.slice Aw d.woken.length Cw))) rfl).drop
 have d0:=(z5.row (cs':=(dcs d.x d.y d.result d.why (.slice Ab d.begun.length Cb) (.slice Aw d.woken.length Cw)))).cell
 refine Dk.zl [12] _ _ _ (by kernel_rfl) ?_
 refine Dk.zr rfl rfl ?_
 refine wp_store_row 204 _ _ rfl W1.heap.size (dcs d.x d.y d.result d.why (.slice Ab d.begun.length Cb) (.slice Aw d.woken.length Cw)) rfl rfl 204 _ z5.heap sizeDeed rfl (zq _ _ _ _ _ _ _ _ _ _) ⟨fun h=>absurd (by decide) h,?_⟩
 simp only [zD]
 show NoPanic _ Exit.normal _ _
 refine NoPanic.normal ?_
 first | (rename_i hK;refine hK _ _ ?_;clear hK) | (rename_i hK _;refine hK _ _ ?_;clear hK) | (rename_i hK _ _;refine hK _ _ ?_;clear hK)
 clear K h5 z5 HS0
 go_wp2_with fail
 exact bodyPost_ret (v:=.agg (dcs d.x d.y d.result d.why (.slice Ab d.begun.length Cb) (.slice Aw d.woken.length Cw))) (by simp [results,Tryz.results97,go_sem,d0]) rfl ⟨Ab,Cb,Aw,Cw,rfl,h6⟩
theorem do_write (h:Cor W w L q k us) (hn:n < 16) (a b:Nat) (c:Int) (m:Nat) (ha:a < 8) (va:Nat) (eva:(q.thr n).f.r a=va) (hb:b < 8) (vb:Nat) (evb:(q.thr n).f.r b=vb) (hK:∀ w us,Cor W w L q k us→Calls Tryz.prog 128 #[.pointer (some ⟨L.b,0,none⟩),.agg #[.int .i64 (n:Int),.int .i64 0,.bool true,.int .u64 (vb:Nat)],.int .u64 (va:Nat)] w (Dd W L qz k' d us)) :
  Calls Tryz.prog 97 #[.pointer (some ⟨L.b,0,none⟩),.int .i64 (n:Int),.agg #[.int .i64 34,.int .i64 (a:Int),.int .i64 (b:Int),.int .i64 c,.int .u64 (m:Nat)],.int .i64 ch] w (Dd W L qz k' d us):=by
 obtain ⟨W1,e1⟩:∃ W1,W1=w.alloc (.cells #[.int .i64 34,.int .i64 (a:Int),.int .i64 (b:Int),.int .i64 c,.int .u64 (m:Nat)] 112):=⟨_,rfl⟩
 obtain ⟨W2,e2⟩:∃ W2,W2=W1.alloc (.cells #[.int .u64 0,.int .u64 0,.int .i64 0,.int .i64 0,.slice none 0 0,.slice none 0 0] 204):=⟨_,rfl⟩
 have h2:=((h.newBox e1).newBox e2).swap
 have b2:Dk.Box W2 w.heap.size #[.int .i64 34,.int .i64 (a:Int),.int .i64 (b:Int),.int .i64 c,.int .u64 (m:Nat)] 112:=h2.box (by simp)
 have c2:=b2.cell
 have i1:(n:Int) < 16:=by omega
 have i2:(0:Int)≤(n:Int):=by omega
 have H1:Hid _:=e1.symm
 have H2:Hid _:=e2.symm
 have i3a:(a:Int) < 8:=by omega
 have i4a:(0:Int)≤(a:Int):=by omega
 have i3b:(b:Int) < 8:=by omega
 have i4b:(0:Int)≤(b:Int):=by omega
 have hC:=h2.below (Dk.zh (Below.refl _ _))
 have HS0:Dk.Box W2.drew w.heap.size #[.int .i64 34,.int .i64 (a:Int),.int .i64 (b:Int),.int .i64 c,.int .u64 (m:Nat)] 112∧W2.drew.cell? ⟨L.b,10+n*20+2+a,none⟩=some (.int .u64 (va:Nat))∧W2.drew.cell? ⟨L.b,10+n*20+2+b,none⟩=some (.int .u64 (vb:Nat)):=⟨hC.box (by simp),by rw [hC.regCell hn a ha,eva],by rw [hC.regCell hn b hb,evb]⟩
 have K:=hK _ _ hC
 have cop:W2.cell? ⟨w.heap.size,0,none⟩=some (.int .i64 34):=b2.cell 0
 clear h h2 hK b2 c2 e1 e2 hC
 go_enter Tryz.func97,Tryz.ntmps97
 go_wp2_with (first | (rw [H1.out];clear H1) | (rw [H2.out];clear H2))
 refine Dk.zd (S:=fun w'=>Dk.Box w' w.heap.size #[.int .i64 34,.int .i64 (a:Int),.int .i64 (b:Int),.int .i64 c,.int .u64 (m:Nat)] 112∧w'.cell? ⟨L.b,10+n*20+2+a,none⟩=some (.int .u64 (va:Nat))∧w'.cell? ⟨L.b,10+n*20+2+b,none⟩=some (.int .u64 (vb:Nat))) [] [0,1,2,3,4,5,6,7,8,9,10,11,12,13,14,15,16,17,18] [19,20] 2 (by kernel_rfl) (by kernel_rfl) (by kernel_rfl) (by kernel_rfl) rfl HS0 _ ?_ (fun a' h=>h)
 refine Dk.za (v:=.pointer (some ⟨L.b,0,none⟩)) rfl rfl (fun w' hw'=>by go_simp) ?_
 simp only [zD]
 refine Dk.za (v:=.int .i64 (n:Int)) rfl rfl (fun w' hw'=>by go_simp) ?_
 simp only [zD]
 refine Dk.za (v:=.pointer (some ⟨L.b,10+n*20,none⟩)) rfl rfl (fun w' hw'=>by go_simp) ?_
 simp only [zD]
 refine Dk.za (v:=.pointer (some ⟨w.heap.size,2,none⟩)) rfl rfl (fun w' hw'=>by go_simp) ?_
 simp only [zD]
 refine Dk.za (v:=.int .i64 (b:Int)) rfl rfl (fun w' hw'=>by have c:=hw'.1.cell 2;go_simp) ?_
 simp only [zD]
 refine Dk.za (v:=.pointer (some ⟨L.b,10+n*20,none⟩)) rfl rfl (fun w' hw'=>by go_simp) ?_
 simp only [zD]
 refine Dk.za (v:=.pointer (some ⟨L.b,10+n*20,none⟩)) rfl rfl (fun w' hw'=>by go_simp) ?_
 simp only [zD]
 refine Dk.za (v:=.pointer (some ⟨L.b,10+n*20+2,none⟩)) rfl rfl (fun w' hw'=>by go_simp) ?_
 simp only [zD]
 refine Dk.za (v:=.pointer (some ⟨L.b,10+n*20+2+b,none⟩)) rfl rfl (fun w' hw'=>by go_simp) ?_
 simp only [zD]
 refine Dk.za (v:=.int .u64 (vb:Nat)) rfl rfl (fun w' hw'=>by have c:=hw'.2.2;go_simp) ?_
 simp only [zD]
 refine Dk.za (v:=.agg #[.int .i64 (n:Int),.int .i64 0,.bool true,.int .u64 (vb:Nat)]) rfl rfl (fun w' hw'=>by go_simp) ?_
 simp only [zD]
 refine Dk.za (v:=.pointer (some ⟨L.b,10+n*20,none⟩)) rfl rfl (fun w' hw'=>by go_simp) ?_
 simp only [zD]
 refine Dk.za (v:=.pointer (some ⟨w.heap.size,1,none⟩)) rfl rfl (fun w' hw'=>by go_simp) ?_
 simp only [zD]
 refine Dk.za (v:=.int .i64 (a:Int)) rfl rfl (fun w' hw'=>by have c:=hw'.1.cell 1;go_simp) ?_
 simp only [zD]
 refine Dk.za (v:=.pointer (some ⟨L.b,10+n*20,none⟩)) rfl rfl (fun w' hw'=>by go_simp) ?_
 simp only [zD]
 refine Dk.za (v:=.pointer (some ⟨L.b,10+n*20,none⟩)) rfl rfl (fun w' hw'=>by go_simp) ?_
 simp only [zD]
 refine Dk.za (v:=.pointer (some ⟨L.b,10+n*20+2,none⟩)) rfl rfl (fun w' hw'=>by go_simp) ?_
 simp only [zD]
 refine Dk.za (v:=.pointer (some ⟨L.b,10+n*20+2+a,none⟩)) rfl rfl (fun w' hw'=>by go_simp) ?_
 simp only [zD]
 refine Dk.za (v:=.int .u64 (va:Nat)) rfl rfl (fun w' hw'=>by have c:=hw'.2.1;go_simp) ?_
 simp only [zD]
 generalize W2.drew=WD at *
 refine Dk.treeY (rs:=[19]) (by kernel_rfl) (by simp) ?_
 intro i hi
 simp only [List.mem_cons,List.not_mem_nil,or_false] at hi
 subst hi
 refine Dk.zm (some 112) rfl rfl rfl (f:=128) (args:=#[.pointer (some ⟨L.b,0,none⟩),.agg #[.int .i64 (n:Int),.int .i64 0,.bool true,.int .u64 (vb:Nat)],.int .u64 (va:Nat)]) (by go_simp) ?_
 refine K.mono ?_
 rintro e w5 ⟨Ab,Cb,Aw,Cw,rfl,h5⟩
 refine ⟨_,rfl,fun h=>absurd (by decide) h,?_⟩
 simp only [zD]
 have z5:Dk.Box w5 W1.heap.size #[.int .u64 0,.int .u64 0,.int .i64 0,.int .i64 0,.slice none 0 0,.slice none 0 0] 204:=h5.box (by simp [lists])
 have h6:Cor W (w5.setRow W1.heap.size (dcs d.x d.y d.result d.why (.slice Ab d.begun.length Cb) (.slice Aw d.woken.length Cw))) L qz k' (lists Ab Aw Cb Cw d++us):=by
  have p1:=(h5.perm (us':=Dk.boxOf w.heap.size _ _::Dk.boxOf W1.heap.size #[.int .u64 0,.int .u64 0,.int .i64 0,.int .i64 0,.slice none 0 0,.slice none 0 0] 204::(lists Ab Aw Cb Cw d++us)) (List.perm_middle.trans (List.Perm.cons _ List.perm_middle))).drop
  exact (p1.setRow (cs':=(dcs d.x d.y d.result d.why (.slice Ab d.begun.length Cb) (.slice Aw d.woken.length Cw))) rfl).drop
 have d0:=(z5.row (cs':=(dcs d.x d.y d.result d.why (.slice Ab d.begun.length Cb) (.slice Aw d.woken.length Cw)))).cell
 refine Dk.zl [20] _ _ _ (by kernel_rfl) ?_
 refine Dk.zr rfl rfl ?_
 refine wp_store_row 204 _ _ rfl W1.heap.size (dcs d.x d.y d.result d.why (.slice Ab d.begun.length Cb) (.slice Aw d.woken.length Cw)) rfl rfl 204 _ z5.heap sizeDeed rfl (zq _ _ _ _ _ _ _ _ _ _) ⟨fun h=>absurd (by decide) h,?_⟩
 simp only [zD]
 show NoPanic _ Exit.normal _ _
 refine NoPanic.normal ?_
 first | (rename_i hK;refine hK _ _ ?_;clear hK) | (rename_i hK _;refine hK _ _ ?_;clear hK) | (rename_i hK _ _;refine hK _ _ ?_;clear hK)
 clear K h5 z5 HS0
 go_wp2_with fail
 exact bodyPost_ret (v:=.agg (dcs d.x d.y d.result d.why (.slice Ab d.begun.length Cb) (.slice Aw d.woken.length Cw))) (by simp [results,Tryz.results97,go_sem,d0]) rfl ⟨Ab,Cb,Aw,Cw,rfl,h6⟩
end
end Go.Proofs.YtglhhlfopccmaaaGreat
