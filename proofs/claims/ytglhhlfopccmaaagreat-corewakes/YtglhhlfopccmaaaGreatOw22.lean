import Derived.Test.YtglhhlfopccmaaaGreatOw21
import Derived.Shelf.Slices.Delete
set_option linter.unusedSimpArgs false
set_option linter.unusedVariables false
set_option linter.unnecessarySimpa false
set_option maxHeartbeats 8000000
set_option maxRecDepth 100000
namespace Go.Proofs
open Go.Shelf
def Tryz.zjq:Go.Shelf.Ren:=⟨fun | 108=>235 | n=>n,fun | 28=>23 | 3=>3 | 0=>0 | 4=>4 | n=>n,fun | n=>n⟩
theorem Tryz.lays108:Go.Proofs.Lays.n108 Tryz.prog Tryz.zjq:={
 mixed:=by kernel_rfl
 f108:=Tryz.func235.trans (congrArg some (by kernel_rfl))
 t0:=Tryz.underlying0
 a0:=Tryz.isAgg0
 z0:=Tryz.sizeOf0
 v0:=Tryz.zeroValue0
 t3:=Tryz.underlying3
 a3:=Tryz.isAgg3
 z3:=Tryz.sizeOf3
 v3:=Tryz.zeroValue3
 t4:=Tryz.underlying4
 a4:=Tryz.isAgg4
 z4:=Tryz.sizeOf4
 v4:=Tryz.zeroValue4
 t28:=Tryz.underlying23
 a28:=Tryz.isAgg23
 z28:=Tryz.sizeOf23
 v28:=Tryz.zeroValue23 }
def Tryz.zjp:Go.Shelf.Ren:=⟨fun | 107=>205 | 108=>235 | n=>n,fun | 28=>23 | 3=>3 | 4=>4 | 0=>0 | n=>n,fun | n=>n⟩
theorem Tryz.lays107:Go.Proofs.Lays.n107 Tryz.prog Tryz.zjp:={
 mixed:=by kernel_rfl
 f107:=Tryz.func205.trans (congrArg some (by kernel_rfl))
 f108:=Tryz.func235.trans (congrArg some (by kernel_rfl))
 t0:=Tryz.underlying0
 a0:=Tryz.isAgg0
 z0:=Tryz.sizeOf0
 v0:=Tryz.zeroValue0
 t3:=Tryz.underlying3
 a3:=Tryz.isAgg3
 z3:=Tryz.sizeOf3
 v3:=Tryz.zeroValue3
 t4:=Tryz.underlying4
 a4:=Tryz.isAgg4
 z4:=Tryz.sizeOf4
 v4:=Tryz.zeroValue4
 t28:=Tryz.underlying23
 a28:=Tryz.isAgg23
 z28:=Tryz.sizeOf23
 v28:=Tryz.zeroValue23 }
def Tryz.zhb:Go.Shelf.Ren:=⟨fun | 23=>240 | n=>n,fun | 22=>23 | 3=>3 | 4=>4 | 0=>0 | n=>n,fun | n=>n⟩
theorem Tryz.laysNm223:Go.Proofs.Lays2.n23 Tryz.prog Tryz.zhb:={
 mixed:=by kernel_rfl
 f23:=Tryz.func240.trans (congrArg some (by kernel_rfl))
 t0:=Tryz.underlying0
 a0:=Tryz.isAgg0
 z0:=Tryz.sizeOf0
 v0:=Tryz.zeroValue0
 t3:=Tryz.underlying3
 a3:=Tryz.isAgg3
 z3:=Tryz.sizeOf3
 v3:=Tryz.zeroValue3
 t4:=Tryz.underlying4
 a4:=Tryz.isAgg4
 z4:=Tryz.sizeOf4
 v4:=Tryz.zeroValue4
 t22:=Tryz.underlying23
 a22:=Tryz.isAgg23
 z22:=Tryz.sizeOf23
 v22:=Tryz.zeroValue23
 i3:=by kernel_rfl }
end Go.Proofs
namespace Go.Proofs.YtglhhlfopccmaaaGreat
open Go.RowKit
theorem Index_any (A:Option Addr) (L C:Nat) (xs:List Int) (x:Int) (w:World) (h:Dk.SlI w.heap.size w A L C xs) :
  Calls Tryz.prog 235 #[.slice A L C,.int .i64 x] w fun e w'=>e=.returned (.int .i64 (Lib.idxOf xs x))∧w'=w:=by
 have hl:=h.len
 have hc:=h.cap
 have hm:=h.max
 unfold maxLen at hm
 by_cases h0:0 < L
 ·obtain ⟨b,o,rfl,hb,hcell⟩:=h.cells h0
  have c:=Any.slices_Index_int Tryz.lays108 b o L C xs x w (by omega) (by omega) (fun j hj=>hcell j (by omega))
  rw [← hl,List.take_length] at c
  rw [← hl]
  exact c
 ·obtain rfl:L=0:=by omega
  obtain rfl:xs=[]:=List.eq_nil_of_length_eq_zero hl
  exact Any.slices_Index_int_empty Tryz.lays108 A C x w
theorem zd4 (A:Option Addr) (L C:Nat) (xs:List Int) (x:Int) (w:World) (h:Dk.SlI w.heap.size w A L C xs) :
  Calls Tryz.prog 205 #[.slice A L C,.int .i64 x] w fun e w'=>e=.returned (.bool (xs.contains x))∧w'=w:=by
 have hl:=h.len
 have hc:=h.cap
 have hm:=h.max
 unfold maxLen at hm
 by_cases h0:0 < L
 ·obtain ⟨b,o,rfl,hb,hcell⟩:=h.cells h0
  have c:=Any.slices_Contains_int Tryz.lays107 b o L C xs x w (by omega) (by omega) (fun j hj=>hcell j (by omega))
  rw [← hl,List.take_length] at c
  rw [← hl]
  exact c
 ·obtain rfl:L=0:=by omega
  obtain rfl:xs=[]:=List.eq_nil_of_length_eq_zero hl
  exact Any.slices_Contains_int_empty Tryz.lays107 A C x w
theorem zlh (B:Nat) (v:Value) (xs:List Int) (k:Nat) (w:World) (h:w.ownsRow B 3 1 v xs.length (Dk.is xs)) (hk:k < xs.length) :
  Calls Tryz.prog 240 #[v,.int .i64 (k:Int),.int .i64 ((k:Int)+1)] w fun e w'=>∃ v',e=.returned v'∧w'.ownsRow B 3 1 v' (xs.eraseIdx k).length (Dk.is (xs.eraseIdx k))∧w.grownBy w' v.ownBlock∧Dk.From w v v':=by
 have hv:v≠.slice none 0 0:=by
  rintro rfl
  obtain ⟨_,⟨_,h0⟩ | ⟨g,cap,cur,e,_⟩⟩:=h
  ·omega
  ·cases e
 obtain ⟨g,cap,rfl,hb,hg,hn,hm,_,hH⟩:=Lib.holds_of_ownsRow (enc:=Value.int .i64) h hv
 have hm':=hm
 unfold maxLen at hm'
 have c:=Any.slices_Delete_int Tryz.laysNm223 g 0 cap k (k+1) xs w hH hn (by omega) (by omega) (by omega)
 refine Calls.mono c ?_
 rintro e w' ⟨rfl,q,rfl⟩
 have hel:(xs.eraseIdx k).length=xs.length - 1:=by rw [List.length_eraseIdx,if_pos hk]
 refine ⟨_,rfl,?_,?_,Dk.From.same _ rfl⟩
 ·have hy:(xs.take k++xs.drop (k+1)++List.replicate (k+1 - k) 0).length=xs.length:=by simp;omega
  have o:=Lib.ownsRow_putRow (q:=q) (k:=xs.length - 1) h hy (by omega)
  rw [hel,show xs.length - (k+1 - k)=xs.length - 1 by omega]
  have ht:(xs.take k++xs.drop (k+1)++List.replicate (k+1 - k) 0).take (xs.length - 1)=xs.eraseIdx k:=by
   rw [List.eraseIdx_eq_take_drop_succ,List.take_append_of_le_length (by simp;omega),List.take_of_length_le (by simp;omega)]
  rw [ht] at o
  exact o
 ·exact ⟨rfl,rfl,rfl,by simp [Sort.ahead],fun j hj hr=>by
   simp [Sort.putRow,Sort.mapBlock,Sort.ahead,Array.getElem?_modify,Value.ownBlock] at hr ⊢
   exact fun e=>absurd e.symm hr⟩
end Go.Proofs.YtglhhlfopccmaaaGreat
namespace Dk
open Go Go.RowKit
def lim (n:Int):Nat:=if n < 0 then 0 else if 4 < n then 4 else n.toNat
theorem lim_eq (n:Int):min (max n 0) 4=(lim n:Int):=by
 unfold lim
 split
 ·omega
 ·split <;> omega
theorem zk1 (n:Int):lim n≤4:=by
 unfold lim
 split
 ·omega
 ·split <;> omega
def cl (x:Int):Int:=if x < 0 then 0 else if 1048576 < x then 1048576 else x
theorem cl_eq (x:Int):min (max x 0) 1048576=cl x:=by
 unfold cl
 split
 ·omega
 ·split <;> omega
theorem cl_ok (x:Int):0≤cl x∧cl x≤1048576:=by
 unfold cl
 split
 ·omega
 ·split <;> omega
theorem len_eq (L:Nat):min (max (L:Int) 0) 4=((min L 4:Nat):Int):=by omega
def start (m c:Int) (xs:List Int):St:=⟨List.replicate (lim m) 0,List.replicate (lim m) false,List.replicate (lim m) [],List.replicate (lim c) [],(xs.take 4).map cl,List.replicate (min xs.length 4) []⟩
theorem zeg {α:Type}:∀ n,lens (List.replicate n ([]:List α))=0
 | 0=>rfl
 | n+1=>by
  have:=zeg (α:=α) n
  unfold lens at this ⊢
  rw [List.replicate_succ,List.map_cons,List.sum_cons,this]
  rfl
theorem zg0 {α:Type} (g:α→Int) (x:Int):∀ n,cts g x (List.replicate n ([]:List α))=0
 | 0=>rfl
 | n+1=>by
  have:=zg0 g x n
  unfold cts at this ⊢
  rw [List.replicate_succ,List.map_cons,List.sum_cons,this]
  rfl
theorem start_ok (m c:Int) (xs:List Int) (hx:∀ x ∈ xs,i64 x):Ok (start m c xs) 0:=by
 have h1:=zk1 m
 have h2:=zk1 c
 refine ⟨by simp [start],by simp [start],by simp [start];omega,by simp [start];omega,fun x hx=>?_,fun l hl x hx=>?_,fun l hl x hx=>?_,fun l hl p hp=>?_,fun x hx=>?_,?_⟩
 ·rw [List.eq_of_mem_replicate hx];exact ⟨by decide,by decide⟩
 ·rw [List.eq_of_mem_replicate hl] at hx;simp at hx
 ·rw [List.eq_of_mem_replicate hl] at hx;simp at hx
 ·rw [List.eq_of_mem_replicate hl] at hp;simp at hp
 ·obtain ⟨y,_,rfl⟩:=List.mem_map.1 hx
  exact cl_ok y
 ·show lens _+lens _+lens _≤0
  rw [start,zeg,zeg,zeg]
  exact Nat.le_refl _
theorem zkw {α:Type} (n i:Nat):(List.replicate n ([]:List α)).getD i []=[]:=by
 rw [List.getD_eq_getElem?_getD,List.getElem?_replicate]
 split <;> rfl
theorem zms (m c:Int) (xs:List Int):Fair (start m c xs):=by
 refine ⟨fun x=>?_,fun n _ _=>zkw _ _,fun n _ _=>zkw _ _⟩
 show cts _ _ _+cts _ _ _+cts _ _ _≤1
 rw [start,zg0,zg0,zg0]
 exact Nat.zero_le _
end Dk
namespace Go.Proofs.YtglhhlfopccmaaaGreat
open Go.RowKit
theorem zcm {P:Program} {o:Oper} {a:Act} {w w':World} {v:Value} {K:Act→World→Prop} {Q:Exit→Act→World→Prop} (h:(execOp a.eval o).run P w=.ok (.value v) w') (hK:K (a.put o.dst v) w'):o.wp P a w K Q:=by
 unfold Oper.wp
 rw [h]
 exact hK
open Go.RowKit Go.Lib
theorem zbz {fn:Func} {t u v x:Tmp} (h:fn.results=#[.tmp t,.tmp u,.tmp v,.tmp x]) (tmps:Array Value) (P:Program) (w:World) :
  (results fn tmps).run P w=.ok (.tuple #[tmps.getD t undef,tmps.getD u undef,tmps.getD v undef,tmps.getD x undef]) w:=by
 simp [results,h]
section
variable {W w : World} {bt : Nat} {room : Int} {ws : List Nat} {ps : List (Int × Nat)} {gs : List Int} {us : List Dk.Thing}
theorem znf (h:Dk.Tb W w bt room ws ps gs us) (x:Int) (y:Nat) (hw:Dk.waitsT ps gs x=true) :
  Calls Tryz.prog 162 #[.pointer (some ⟨bt,0,none⟩),.int .i64 x,.int .u64 (y:Nat)] w fun e w'=>e=.returned (.tuple #[.bool false,.int .i64 0,.bool false])∧Dk.Tb W w' bt room ws ps gs us:=by
 have K:=za6 h x
 rw [hw] at K
 clear hw
 go_enter Tryz.func162,Tryz.ntmps162
 go_wp2_with fail
 refine K.mono ?_
 rintro e w' ⟨rfl,hb⟩
 have h':=h.below hb
 clear h K hb
 go_wp2_with fail
 go_ret3
 exact ⟨rfl,h'⟩
theorem zne {g:Int} (h:Dk.Tb W w bt room ws ps (g::gs) us) (x:Int) (y:Nat) (hw:Dk.waitsT ps (g::gs) x=false) :
  Calls Tryz.prog 162 #[.pointer (some ⟨bt,0,none⟩),.int .i64 x,.int .u64 (y:Nat)] w fun e w'=>e=.returned (.tuple #[.bool true,.int .i64 g,.bool true])∧Dk.Tb W w' bt room ws ps gs us:=by
 have K:=za6 h x
 rw [hw] at K
 clear hw
 go_enter Tryz.func162,Tryz.ntmps162
 go_wp2_with fail
 refine K.mono ?_
 rintro e w' ⟨rfl,hb⟩
 have h':=h.below hb
 clear h K hb
 go_wp2_with fail
 refine (zl6 h').mono ?_
 rintro e w1 ⟨rfl,h1⟩
 clear h'
 go_wp2_with fail
 go_ret3
 exact ⟨rfl,h1⟩
theorem Put_room (h:Dk.Tb W w bt room ws ps [] us) (x:Int) (y:Nat) (hw:Dk.waitsT ps [] x=false) (hy:y < 2 ^ 64) (hr:ws.length < Dk.most room) (hl:ws.length≤1000) :
  Calls Tryz.prog 162 #[.pointer (some ⟨bt,0,none⟩),.int .i64 x,.int .u64 (y:Nat)] w fun e w'=>e=.returned (.tuple #[.bool true,.int .i64 0,.bool false])∧Dk.Tb W w' bt room (ws++[y]) ps [] us:=by
 have K:=za6 h x
 rw [hw] at K
 have HR:Hid (decide (ws.length < Dk.most room)=true):=decide_eq_true hr
 clear hw hr
 go_enter Tryz.func162,Tryz.ntmps162
 go_wp2_with fail
 refine K.mono ?_
 rintro e w1 ⟨rfl,hb⟩
 have h1:=h.below hb
 clear h K hb
 go_wp2_with fail
 refine (zis h1).mono ?_
 rintro e w' ⟨rfl,hw'⟩
 subst w'
 go_wp2_with fail
 refine (zez h1).mono ?_
 rw [HR.out]
 rintro e w2 ⟨rfl,hb⟩
 have h2:=h1.below hb
 clear h1 hb HR
 obtain ⟨A,n,C,A',n',C',w3,c1,r1,d1,f1,h3⟩:=Tb.add1 h2 y hy hl
 clear h2 hy
 go_wp2_with (at_builtin;refine Lib.wpList_append_run _ rfl _ _ _ _ rfl _ _ rfl rfl _ _ r1 ?_)
 go_ret3
 exact ⟨rfl,h3⟩
theorem Put_full (h:Dk.Tb W w bt room ws ps [] us) (x:Int) (y:Nat) (hw:Dk.waitsT ps [] x=false) (hx:Dk.i64 x) (hy:y < 2 ^ 64) (hr:¬ ws.length < Dk.most room) (hl:ps.length≤1000) :
  Calls Tryz.prog 162 #[.pointer (some ⟨bt,0,none⟩),.int .i64 x,.int .u64 (y:Nat)] w fun e w'=>e=.returned (.tuple #[.bool false,.int .i64 0,.bool false])∧Dk.Tb W w' bt room ws (ps++[(x,y)]) [] us:=by
 have K:=za6 h x
 rw [hw] at K
 have HR:Hid (decide (ws.length < Dk.most room)=false):=decide_eq_false hr
 clear hw hr
 go_enter Tryz.func162,Tryz.ntmps162
 go_wp2_with fail
 refine K.mono ?_
 rintro e w1 ⟨rfl,hb⟩
 have h1:=h.below hb
 clear h K hb
 go_wp2_with fail
 refine (zis h1).mono ?_
 rintro e w' ⟨rfl,hw'⟩
 subst w'
 go_wp2_with fail
 refine (zez h1).mono ?_
 rw [HR.out]
 rintro e w2 ⟨rfl,hb⟩
 have h2:=h1.below hb
 clear h1 hb HR
 obtain ⟨A,n,C,A',n',C',w3,c1,r1,d1,f1,h3⟩:=Tb.add2 h2 x y hx hy hl
 clear h2 hy hx
 go_wp2_with (at_builtin;refine Lib.wpList_append_run _ rfl _ _ _ _ rfl _ _ rfl rfl _ _ r1 ?_)
 go_ret3
 exact ⟨rfl,h3⟩
theorem zm8 (h:Dk.Tb W w bt room ws ps gs us) (x:Int) (hw:Dk.waitsT ps gs x=true) :
  Calls Tryz.prog 163 #[.pointer (some ⟨bt,0,none⟩),.int .i64 x] w fun e w'=>e=.returned (.tuple #[.int .u64 0,.bool false,.int .i64 0,.bool false])∧Dk.Tb W w' bt room ws ps gs us:=by
 have K:=za6 h x
 rw [hw] at K
 clear hw
 go_enter Tryz.func163,Tryz.ntmps163
 go_wp2_with fail
 refine K.mono ?_
 rintro e w' ⟨rfl,hb⟩
 have h':=h.below hb
 clear h K hb
 go_wp2_with fail
 (try simp only [Exit.inBlock,Exit.then])
 refine bodyPost_ret (zbz rfl _ _ _) rfl ?_
 exact ⟨rfl,h'⟩
theorem Get_none (h:Dk.Tb W w bt room [] ps gs us) (x:Int) (hw:Dk.waitsT ps gs x=false) (hx:Dk.i64 x) (hl:gs.length≤1000) :
  Calls Tryz.prog 163 #[.pointer (some ⟨bt,0,none⟩),.int .i64 x] w fun e w'=>e=.returned (.tuple #[.int .u64 0,.bool false,.int .i64 0,.bool false])∧Dk.Tb W w' bt room [] ps (gs++[x]) us:=by
 have K:=za6 h x
 rw [hw] at K
 clear hw
 go_enter Tryz.func163,Tryz.ntmps163
 go_wp2_with fail
 refine K.mono ?_
 rintro e w1 ⟨rfl,hb⟩
 have h1:=h.below hb
 clear h K hb
 go_wp2_with fail
 refine (zmi h1).mono ?_
 rintro e w' ⟨rfl,hw'⟩
 subst w'
 obtain ⟨A,n,C,A',n',C',w3,c1,r1,d1,f1,h3⟩:=Tb.add3 h1 x hx hl
 clear h1 hx
 go_wp2_with (at_builtin;refine Lib.wpList_append_run _ rfl _ _ _ _ rfl _ _ rfl rfl _ _ r1 ?_)
 (try simp only [Exit.inBlock,Exit.then])
 refine bodyPost_ret (zbz rfl _ _ _) rfl ?_
 exact ⟨rfl,h3⟩
theorem Get_one {y:Nat} (h:Dk.Tb W w bt room (y::ws) [] gs us) (x:Int) (hw:Dk.waitsT [] gs x=false) :
  Calls Tryz.prog 163 #[.pointer (some ⟨bt,0,none⟩),.int .i64 x] w fun e w'=>e=.returned (.tuple #[.int .u64 (y:Nat),.bool true,.int .i64 0,.bool false])∧Dk.Tb W w' bt room ws [] gs us:=by
 have K:=za6 h x
 rw [hw] at K
 clear hw
 go_enter Tryz.func163,Tryz.ntmps163
 go_wp2_with fail
 refine K.mono ?_
 rintro e w1 ⟨rfl,hb⟩
 have h1:=h.below hb
 clear h K hb
 go_wp2_with fail
 refine (zev h1).mono ?_
 rintro e w2 ⟨rfl,h2⟩
 clear h1
 go_wp2_with fail
 refine (zmh h2).mono ?_
 rintro e w3 ⟨rfl,hb⟩
 have h3:=h2.below hb
 clear h2 hb
 obtain ⟨W4,e4⟩:∃ W4,W4=w3.alloc (.cells #[.int .i64 0,.int .u64 0] 298):=⟨_,rfl⟩
 have h4:=Tb.newBox h3 e4
 have b4:Dk.Box W4 w3.heap.size #[.int .i64 0,.int .u64 0] 298:=Tb.box h4 (by simp)
 obtain ⟨W5,e5⟩:∃ W5,W5=W4.setRow w3.heap.size #[.int .i64 0,.int .u64 0]:=⟨_,rfl⟩
 have h5:=Tb.setRow h4 e5
 have b5:Dk.Box W5 w3.heap.size #[.int .i64 0,.int .u64 0] 298:=Tb.box h5 (by simp)
 have c5:W5.cell? ⟨w3.heap.size,0,none⟩=some (.int .i64 0):=b5.cell 0
 have H4:Hid (w3.alloc (.cells #[.int .i64 0,.int .u64 0] 298)=W4):=e4.symm
 have H5:Hid (W4.setRow w3.heap.size #[.int .i64 0,.int .u64 0]=W5):=e5.symm
 have HB:Hid (Dk.Box W4 w3.heap.size #[.int .i64 0,.int .u64 0] 298):=b4
 clear e4 e5 h3 h4 b4 b5
 go_wp2_with (first | (rw [H4.out];clear H4) | (refine wpList_store_row rfl 298 _ _ rfl w3.heap.size #[.int .i64 0,.int .u64 0] rfl rfl 298 _ HB.out.heap zcf rfl (pair_cells _ _) ?_;rw [H5.out];clear HB))
 go_quiet (fail)
 go_wp2_with fail
 (try simp only [Exit.inBlock,Exit.then])
 refine bodyPost_ret (zbz rfl _ _ _) rfl ?_
 exact ⟨rfl,Tb.drop (h5.below (Dk.zx (Below.refl _ _) _))⟩
theorem Get_more {y z:Nat} {q:Int} (h:Dk.Tb W w bt room (y::ws) ((q,z)::ps) gs us) (x:Int) (hw:Dk.waitsT ((q,z)::ps) gs x=false) (hl:ws.length≤1000) :
  Calls Tryz.prog 163 #[.pointer (some ⟨bt,0,none⟩),.int .i64 x] w fun e w'=>e=.returned (.tuple #[.int .u64 (y:Nat),.bool true,.int .i64 q,.bool true])∧Dk.Tb W w' bt room (ws++[z]) ps gs us:=by
 have K:=za6 h x
 have hz:z < 2 ^ 64:=(h.fit.ps (q,z) (by simp)).2
 rw [hw] at K
 clear hw
 go_enter Tryz.func163,Tryz.ntmps163
 go_wp2_with fail
 refine K.mono ?_
 rintro e w1 ⟨rfl,hb⟩
 have h1:=h.below hb
 clear h K hb
 go_wp2_with fail
 refine (zev h1).mono ?_
 rintro e w2 ⟨rfl,h2⟩
 clear h1
 go_wp2_with fail
 refine (zjj h2).mono ?_
 rintro e w3 ⟨rfl,h3⟩
 clear h2
 obtain ⟨W4,e4⟩:∃ W4,W4=w3.alloc (.cells #[.int .i64 0,.int .u64 0] 298):=⟨_,rfl⟩
 have h4:=Tb.newBox h3 e4
 have b4:Dk.Box W4 w3.heap.size #[.int .i64 0,.int .u64 0] 298:=Tb.box h4 (by simp)
 obtain ⟨W5,e5⟩:∃ W5,W5=W4.setRow w3.heap.size #[.int .i64 q,.int .u64 (z:Nat)]:=⟨_,rfl⟩
 have h5:=Tb.setRow h4 e5
 have b5:Dk.Box W5 w3.heap.size #[.int .i64 q,.int .u64 (z:Nat)] 298:=Tb.box h5 (by simp)
 have H4:Hid (w3.alloc (.cells #[.int .i64 0,.int .u64 0] 298)=W4):=e4.symm
 have H5:Hid (W4.setRow w3.heap.size #[.int .i64 q,.int .u64 (z:Nat)]=W5):=e5.symm
 have HB:Hid (Dk.Box W4 w3.heap.size #[.int .i64 0,.int .u64 0] 298):=b4
 -- the drawn statement
 have h6:=h5.below (Dk.zh (Below.refl _ _))
 obtain ⟨A,n,C,A',n',C',w7,c1,r1,d1,f1,h7⟩:=Tb.add1 h6 z hz hl
 have b6:W5.drew.cell? ⟨w3.heap.size,1,none⟩=some (.int .u64 (z:Nat)):=b5.drew.cell 1
 obtain ⟨W7,e7⟩:∃ W7,W7=w7.setCell ⟨bt,1,none⟩ (.slice A' n' C'):=⟨_,rfl⟩
 rw [← e7] at h7
 have b7:W7.cell? ⟨w3.heap.size,0,none⟩=some (.int .i64 q):=(Tb.box h7 (b:=w3.heap.size) (cs:=#[.int .i64 q,.int .u64 (z:Nat)]) (e:=298) (by simp)).cell 0
 have hne7:bt≠w3.heap.size:=by
  obtain ⟨v1,v2,v3,t,_⟩:=Hid.out h3
  exact Nat.ne_of_lt t.head.lt
 have H7:Hid (w7.setCell ⟨bt,1,none⟩ (.slice A' n' C')=W7):=e7.symm
 have hb7:w7.cell? ⟨w3.heap.size,1,none⟩=some (.int .u64 (z:Nat)):=by
  have q:=(Tb.box h7 (b:=w3.heap.size) (cs:=#[.int .i64 q,.int .u64 (z:Nat)]) (e:=298) (by simp)).cell 1
  rw [e7,World.cell?_setCell_far _ _ _ _ hne7] at q
  exact q
 have HB7:Hid (w7.cell? ⟨w3.heap.size,1,none⟩=some (.int .u64 (z:Nat))):=hb7
 have HR:Hid _:=r1
 have HD:Hid (w7.cell? ⟨bt,1,none⟩=some (.slice A n C)∧w7.frozen? ⟨bt,1,none⟩=false):=⟨d1,f1⟩
 clear e4 e5 e7 h3 h4 h5 h6 b4 b5 hz r1 d1 f1 hb7
 go_wp2_with (first | (rw [H4.out];clear H4) | (refine wpList_store_row rfl 298 _ _ rfl w3.heap.size #[.int .i64 q,.int .u64 (z:Nat)] rfl rfl 298 _ HB.out.heap zcf rfl (pair_cells _ _) ?_;rw [H5.out];clear HB))
 refine Dk.zbs (z:=11) (S:=fun w'=>w'.cell? ⟨bt,1,none⟩=some (.slice A n C)∧w'.cell? ⟨w3.heap.size,1,none⟩=some (.int .u64 (z:Nat))) [0,1,2,3,4,5,6] [7,8,9,10,11] (by kernel_rfl) (by kernel_rfl) (by kernel_rfl) ⟨c1,b6⟩ ?_
 refine Dk.za (v:=.pointer (some ⟨bt,0,none⟩)) rfl rfl (fun w' hw'=>by go_simp) ?_
 simp only [zD]
 refine Dk.za (v:=.pointer (some ⟨bt,0,none⟩)) rfl rfl (fun w' hw'=>by go_simp) ?_
 simp only [zD]
 refine Dk.za (v:=.pointer (some ⟨bt,0,none⟩)) rfl rfl (fun w' hw'=>by go_simp) ?_
 simp only [zD]
 refine Dk.za (v:=.pointer (some ⟨bt,1,none⟩)) rfl rfl (fun w' hw'=>by go_simp) ?_
 simp only [zD]
 refine Dk.za (v:=.slice A n C) rfl rfl (fun w' hw'=>by have:=hw'.1;go_simp) ?_
 simp only [zD]
 refine Dk.za (v:=.pointer (some ⟨w3.heap.size,1,none⟩)) rfl rfl (fun w' hw'=>by go_simp) ?_
 simp only [zD]
 refine Dk.za (v:=.int .u64 (z:Nat)) rfl rfl (fun w' hw'=>by have:=hw'.2;go_simp) ?_
 simp only [zD]
 obtain ⟨W6,e6⟩:∃ W6,W6=W5.drew.alloc (.cells #[.int .u64 (z:Nat)] 38):=⟨_,rfl⟩
 have S6:W6.cell? ⟨bt,1,none⟩=some (.slice A n C)∧W6.cell? ⟨w3.heap.size,1,none⟩=some (.int .u64 (z:Nat)):=by rw [e6];exact ⟨Lib.cell?_alloc_some _ c1,Lib.cell?_alloc_some _ b6⟩
 have e5s:W5.drew.heap.size=W5.heap.size:=rfl
 refine Dk.zal (v:=.slice (some ⟨W5.drew.heap.size,0,none⟩) 1 1) (w':=W6) rfl rfl (by rw [e6];go_simp) (fun _=>S6) ?_
 simp only [zD]
 have r6:=HR.out
 rw [← e6,e5s] at r6
 refine Dk.zal (v:=(.slice A' n' C')) (w':=w7) rfl rfl (by simp only [execOp,resolve,invoke,builtin];simp [Act.eval,r6]) (fun _=>⟨HD.out.1,HB7.out⟩) ?_
 simp only [zD]
 refine Dk.zal (v:=.pointer (some ⟨bt,0,none⟩)) (w':=w7) rfl rfl (by go_simp) (fun _=>⟨HD.out.1,HB7.out⟩) ?_
 simp only [zD]
 refine Dk.zal (v:=.pointer (some ⟨bt,1,none⟩)) (w':=w7) rfl rfl (by go_simp) (fun _=>⟨HD.out.1,HB7.out⟩) ?_
 simp only [zD]
 refine Dk.zdu (w':=W7) rfl rfl (by rw [← H7.out];have q1:=HD.out.1;have q2:=HD.out.2;go_simp) (fun h=>absurd rfl h) ?_
 simp only [zD]
 rename_i hK
 refine hK _ _ ?_
 clear r6 S6 e6 e5s HR HD HB7 H7 H5 c1 b6 hK
 go_wp2_with fail
 go_quiet (fail)
 go_wp2_with fail
 (try simp only [Exit.inBlock,Exit.then])
 refine bodyPost_ret (zbz rfl _ _ _) rfl ?_
 exact ⟨rfl,Tb.drop (h7.below (Dk.zx (Below.refl _ _) _))⟩
end
theorem K22:Dk.SlK Tryz.prog 23 3 (.int .i64 0) 1 8:=⟨Tryz.underlying23,info3,rfl,by decide,by decide⟩
end Go.Proofs.YtglhhlfopccmaaaGreat
namespace Dk
open Go Go.RowKit
theorem zmk {w:World} {base b n cap s:Nat} {cur:Array Value} {t:TypeId} {vs:List Value} (h:Dk.Box w b cur t) (hb:base≤b) (hc:cur.size=cap*s) (hm:cap≤maxLen) (hn:vs.length=n*s) (hl:n≤cap) (hv:∀ j,j < n*s→cur[j]? = vs[j]?):w.ownsRow base t s (.slice (some ⟨b,0,none⟩) n cap) n vs:=by
 refine ⟨hn,.inr ⟨b,cap,cur,rfl,hb,h.heap,hl,hm,hc,?_⟩⟩
 apply List.ext_getElem?
 intro j
 rw [List.getElem?_take]
 by_cases hj:j < n*s
 ·rw [if_pos hj,Array.getElem?_toList];exact hv j hj
 ·rw [if_neg hj,List.getElem?_eq_none (by omega)]
section
variable {W w w' : World} {t t' : Thing} {ts us us1 us2 : List Thing} {e : TypeId} {q : Nat} {v : Value}
theorem zbb {B n k:Nat} {xs:List Value} (hr:w.ownsRow B e q v n xs) (hk:k < n*q):∃ g C x,v=.slice (some ⟨g,0,none⟩) n C∧n≤C∧C≤maxLen∧xs[k]? = some x∧w.cell? ⟨g,k,none⟩=some x∧w.frozen? ⟨g,k,none⟩=false∧∀ y,(w.setCell ⟨g,k,none⟩ y).ownsRow B e q v n (xs.set k y):=by
 obtain ⟨hl,⟨_,h0⟩ | ⟨g,cap,cur,rfl,hb,hgg,h1,h2,h3,h4⟩⟩:=id hr
 ·rw [h0] at hk;omega
 have hx:xs[k]? = some xs[k]:=List.getElem?_eq_getElem (by omega)
 have hc:=hr.cells (g:=g) rfl k _ hx
 rw [Addr.add_lit,Nat.zero_add] at hc
 have bx:Box w g cur e:=⟨hgg⟩
 have hle:n*q≤cap*q:=Nat.mul_le_mul_right _ h1
 refine ⟨g,cap,_,rfl,h1,h2,hx,hc,bx.frozen k,fun y=>?_⟩
 refine zmk (bx.set k y) hb (by rw [Array.size_setIfInBounds];exact h3) h2 (by rw [List.length_set];exact hl) h1 (fun i hi=>?_)
 rw [Array.getElem?_setIfInBounds]
 have hi':cur[i]? = xs[i]?:=by
  rw [← h4,List.getElem?_take,if_pos (by omega),Array.getElem?_toList]
 by_cases hij:k=i
 ·subst hij
  rw [if_pos rfl,if_pos (by omega),List.getElem?_set_self (by omega)]
 ·rw [if_neg hij,hi',List.getElem?_set_ne hij]
theorem Sep.cellq {n k:Nat} {xs:List Value} (h:Sep W w (us1++rowOf e q v n xs::us2)) (hk:k < n*q):∃ g C x,v=.slice (some ⟨g,0,none⟩) n C∧n≤C∧C≤maxLen∧xs[k]? = some x∧w.cell? ⟨g,k,none⟩=some x∧w.frozen? ⟨g,k,none⟩=false∧∀ y,Sep W (w.setCell ⟨g,k,none⟩ y) (us1++rowOf e q v n (xs.set k y)::us2):=by
 have hr:=h.row (e:=e) (s:=q) (v:=v) (n:=n) (xs:=xs) (by simp)
 obtain ⟨g,C,x,ev,h1,h2,hx,hc,hf,hs⟩:=zbb hr hk
 refine ⟨g,C,x,ev,h1,h2,hx,hc,hf,fun y=>?_⟩
 refine Sep.turn (t:=rowOf e q v n xs) (t':=rowOf e q v n (xs.set k y)) h ?_ (zam (hs y) (Nat.zero_le _)) (fun j hj=>.inl hj)
 subst ev
 exact (Away.refl (rowOf e q (.slice (some ⟨g,0,none⟩) n C) n xs).own w).set (b:=g) (.inl rfl) _ _
theorem Sep.cellg {n k g C:Nat} {x:Value} {xs:List Value} (h:Sep W w (us1++rowOf e q (.slice (some ⟨g,0,none⟩) n C) n xs::us2)) (hl:xs.length=n*q) (hx:xs[k]? = some x):w.cell? ⟨g,k,none⟩=some x∧w.frozen? ⟨g,k,none⟩=false∧∀ y,Sep W (w.setCell ⟨g,k,none⟩ y) (us1++rowOf e q (.slice (some ⟨g,0,none⟩) n C) n (xs.set k y)::us2):=by
 obtain ⟨g',C',x',ev,h1,h2,hx',hc,hf,hs⟩:=h.cellq (k:=k) (by rw [← hl];exact zv hx)
 cases ev
 rw [hx] at hx'
 cases hx'
 exact ⟨hc,hf,hs⟩
theorem Sep.rowLen {n:Nat} {xs:List Value} (h:Sep W w ts) (ht:rowOf e q v n xs ∈ ts):xs.length=n*q:=(h.row ht).1
theorem Sep.addRow {n:Nat} {xs:List Value} (h:Sep W w ts) (b:Below w.heap.size w w') (hr:w'.ownsRow w.heap.size e q v n xs):Sep W w' (rowOf e q v n xs::ts):=
 h.add b (zam hr (Nat.zero_le _)) (fun k hk=>(World.ownsRow.lt hr k hk).1)
end
end Dk
namespace Go.Proofs.YtglhhlfopccmaaaGreat
open Go.RowKit Go.Maps
theorem law3:Keyed Tryz.prog 3:=int_keyed Tryz.underlying3
theorem zero3 (w:World):(zeroValue 3).run Tryz.prog w=.ok (.int .i64 0) w:=by kernel_rfl
theorem wf_of {x:Int} (h:Dk.i64 x):(Lit.int .i64 x).wf=true:=by
 unfold Dk.i64 at h
 exact WalkArith.wf_i64 (by omega)
def Told (w:World) (bm:Nat) (L:List (Int × Int)):Prop:=∃ D:DataW Unit,w.ownsMap Tryz.prog 3 (plainElem Tryz.prog 3) bm L.length D∧Dk.Tells D L∧Maps.size D=L.length
theorem Told.lt {w:World} {bm:Nat} {L:List (Int × Int)} (h:Told w bm L):bm < w.heap.size:=by
 obtain ⟨D,h,_⟩:=h
 exact h.lt
theorem Told.of_block {w w':World} {bm:Nat} {L:List (Int × Int)} (h:Told w bm L) (e:w'.heap[bm]? = w.heap[bm]?):Told w' bm L:=by
 obtain ⟨D,⟨es,clock,hb,r⟩,ht⟩:=h
 exact ⟨D,⟨es,clock,e.trans hb,r⟩,ht⟩
def mapOf (bm:Nat) (L:List (Int × Int)):Dk.Thing:={
 own:=fun k=>k=bm
 holds:=fun w=>Told w bm L
 local_:=fun w w' h hk=>h.of_block (hk bm rfl)
 lt:=fun w h k hk=>hk ▸ h.lt }
theorem tight {w:World} {b n:Nat} {D:DataW Unit} (h:w.ownsMap Tryz.prog 3 (plainElem Tryz.prog 3) b n D):w.ownsMap Tryz.prog 3 (plainElem Tryz.prog 3) b (Maps.size D) D:=by
 obtain ⟨es,clock,hb,F,hs,e⟩:=h
 refine ⟨es,clock,hb,F,?_,e⟩
 rw [e]
 simp [Maps.size,length_sorted]
theorem Told.look {w:World} {bm:Nat} {L:List (Int × Int)} (h:Told w bm L) {x c:Int} (hi:Dk.i64 x) (hx:(x,c) ∈ L):(Instr.lookup 165 (.map (some bm)) (.int .i64 x) false).run Tryz.prog w=.ok (.int .i64 c) w:=by
 obtain ⟨D,ho,ht,_⟩:=h
 obtain ⟨es,clock,hb,F,_,rfl⟩:=id ho
 rcases Maps.fit_look false law3 Tryz.underlying165 (zero3 w) hb F (keyOf_int_mk Tryz.underlying3 (wf_of hi)) with ⟨hrun,_,hat⟩ | ⟨e0,y,_,_,hrun,hRv,hat,_⟩
 ·have:=ht.has hx
  rw [Maps.has_false_of_atKey hat] at this
  cases this
 ·have h1:=ht.yes _ hx (.lit (.int .i64 0))
  rw [hat] at h1
  obtain ⟨a,ea,e,_⟩:=plainElem_int_inv Tryz.underlying3 hRv
  rw [e] at h1
  simp at h1
  rw [h1] at ea
  rw [hrun,ea]
  rfl
theorem Told.put {w:World} {bm:Nat} {L:List (Int × Int)} (h:Told w bm L) {x c:Int} (hi:Dk.i64 x) (hc:Dk.i64 c) (hx:x ∉ Dk.keysOf L) (hl:L.length≤1000) :
  ∃ w',(Instr.mapUpdate 165 (.map (some bm)) (.int .i64 x) (.int .i64 c)).run Tryz.prog w=.ok () w'∧Told w' bm (L++[(x,c)])∧w.grownBy w' (some bm):=by
 obtain ⟨D,ho,ht,hs⟩:=h
 obtain ⟨w',hr,ho',hg⟩:=ho.update law3 Tryz.underlying165 (by unfold maxLen;omega) (keyOf_int_mk Tryz.underlying3 (wf_of hi)) (plainElem_int Tryz.underlying3 (wf_of hc))
 refine ⟨w',hr,⟨_,by rw [List.length_append];exact ho',ht.put hx,?_⟩,hg⟩
 rw [Maps.size_put (ho.tidy law3),ht.no x hx]
 simp [hs]
theorem Told.del {w:World} {bm:Nat} {L:List (Int × Int)} (h:Told w bm L) {x c:Int} {k:Nat} (hi:Dk.i64 x) (hk:L[k]? = some (x,c)) :
  ∃ w',(Builtin.delete_ #[165,3] 0 #[.map (some bm),.int .i64 x]).run Tryz.prog w=.ok (.tuple #[]) w'∧Told w' bm (L.eraseIdx k)∧w.grownBy w' (some bm):=by
 obtain ⟨D,ho,ht,hs⟩:=h
 have hkl:=Dk.zv hk
 obtain ⟨w',hr,ho',hg⟩:=ho.drop law3 Tryz.underlying165 (keyOf_int_mk Tryz.underlying3 (wf_of hi)) 0
 have hsz:=Maps.size_del (k:=.int .i64 x) (ho.tidy law3)
 rw [ht.has (List.mem_of_getElem? hk)] at hsz
 have hel:(L.eraseIdx k).length=L.length - 1:=by rw [List.length_eraseIdx,if_pos hkl]
 have hf:(L.filter fun p=>p.1 != x)=L.eraseIdx k:=by
  have hn:=ht.nodup
  have e:=List.getElem?_eq_some_iff.1 hk
  have es:L=L.take k++(x,c)::L.drop (k+1):=by
   rw [← e.2,List.getElem_cons_drop,List.take_append_drop]
  rw [List.eraseIdx_eq_take_drop_succ]
  conv=>lhs;rw [es]
  rw [es] at hn
  unfold Dk.keysOf at hn
  rw [List.map_append,List.map_cons] at hn
  have hn2:=List.nodup_append.1 hn
  have hn3:=List.nodup_cons.1 hn2.2.1
  rw [List.filter_append,List.filter_cons_of_neg (by simp),List.filter_eq_self.2 (fun p hp=>?_),List.filter_eq_self.2 (fun p hp=>?_)]
  ·have h3:x ∉ (L.drop (k+1)).map Prod.fst:=hn3.1
   have:p.1≠x:=fun ee=>h3 (by rw [← ee];exact List.mem_map_of_mem hp)
   simpa using this
  ·have:p.1≠x:=fun ee=>hn2.2.2 p.1 (List.mem_map_of_mem hp) x (by simp) ee
   simpa using this
 refine ⟨w',hr,⟨_,?_,by rw [← hf];exact ht.del x,?_⟩,hg.grown⟩
 ·have:=tight ho'
  rw [show Maps.size (D.del (.int .i64 x))=(L.eraseIdx k).length by simp at hsz;omega] at this
  exact this
 ·simp at hsz
  omega
theorem Told.made (w:World):Told (w.alloc (.map #[] 0)) w.heap.size []:=⟨.map [],World.ownsMap_made w Tryz.prog 3 _,Dk.Tells.empty,rfl⟩
open Go.RowKit
section
variable {W w : World} {e : TypeId} {q g n C o : Nat} {Hs : List Value} {u : Value} {xs : List Int} {us : List Dk.Thing}
theorem zha (h:Dk.Sep W w (Dk.rowOf e q (.slice (some ⟨g,0,none⟩) n C) n Hs::Dk.rowOf 3 1 u xs.length (Dk.is xs)::us)) (ho:Hs[o]? = some u) (who:Int) (hl:xs.length≤1000) :
  Calls Tryz.prog 231 #[.pointer (some ⟨g,o,none⟩),.int .i64 who] w fun e' w'=>e'=.returned (.tuple #[])∧∃ u',Dk.Sep W w' (Dk.rowOf e q (.slice (some ⟨g,0,none⟩) n C) n (Hs.set o u')::Dk.rowOf 3 1 u' (xs++[who]).length (Dk.is (xs++[who]))::us):=by
 have hlen:Hs.length=n*q:=h.rowLen (List.mem_cons_self ..)
 have cu:w.cell? ⟨g,o,none⟩=some u:=(h.cellg (us1:=[]) hlen ho).1
 obtain ⟨u',w1,hrun,h1,hne⟩:=Dk.Sep.append (us1:=[_]) K22 h (x:=.int .i64 who) rfl (by omega)
 obtain ⟨d1,d2,d3⟩:=Dk.Sep.cellg (us1:=[]) h1 hlen ho
 have h2:=d3 u'
 obtain ⟨A,Cu,eu,_,_⟩:=Dk.zc (h.row (e:=3) (s:=1) (v:=u) (n:=xs.length) (xs:=Dk.is xs) (by simp))
 obtain ⟨A',Cu',eu',_,_⟩:=Dk.zc (h1.row (e:=3) (s:=1) (v:=u') (n:=xs.length+1) (xs:=Dk.is xs++[.int .i64 who]) (by simp))
 subst eu eu'
 rw [show Dk.is xs++[.int .i64 who]=Dk.is (xs++[who]) by simp,show xs.length+1=(xs++[who]).length by simp] at h2
 have H2:Hid _:=h2
 clear d3 h1 h h2 hne
 go_enter Tryz.func231,Tryz.ntmps231
 go_wp2_with (at_builtin;refine Lib.wpList_append_run _ rfl _ _ _ _ rfl _ _ rfl rfl _ _ hrun ?_)
 refine bodyPost_end (results_none rfl _ _ _) rfl ?_
 rw [show xs.length+1=(xs++[who]).length by simp]
 exact ⟨rfl,_,H2.out⟩
theorem zjn {b o L Ca:Nat} {A:Option Addr} (hc:w.cell? ⟨b,o,none⟩=some (.slice A L Ca)) (hs:Dk.SlI w.heap.size w A L Ca xs) (x:Int) :
  Calls Tryz.prog 226 #[.pointer (some ⟨b,o,none⟩),.int .i64 x] w fun e' w'=>e'=.returned (.bool (xs.contains x))∧w'=w:=by
 have K:=zd4 A L Ca xs x w hs
 generalize xs.contains x=r at K ⊢
 clear hs
 go_enter Tryz.func226,Tryz.ntmps226
 go_wp2_with fail
 refine K.mono ?_
 rintro e' w' ⟨rfl,hw'⟩
 subst w'
 clear K
 go_wp2_with fail
 go_ret
 exact ⟨rfl,rfl⟩
theorem zdm {b o Ca:Nat} {A:Option Addr} (hc:w.cell? ⟨b,o,none⟩=some (.slice A 0 Ca)) (ch:Int) :
  Calls Tryz.prog 232 #[.pointer (some ⟨b,o,none⟩),.int .i64 ch] w fun e' w'=>e'=.returned (.tuple #[.int .i64 0,.bool false])∧w'=w:=by
 go_enter Tryz.func232,Tryz.ntmps232
 go_wp2
 go_ret2
 exact ⟨rfl,rfl⟩
theorem zfk (h:Dk.Sep W w (Dk.rowOf e q (.slice (some ⟨g,0,none⟩) n C) n Hs::Dk.rowOf 3 1 u xs.length (Dk.is xs)::us)) (ho:Hs[o]? = some u) (k:Int) (hi:Dk.i64 k) (hn:0 < xs.length) (hl:xs.length≤1000) (a:Nat) (ea:Dk.at_ k xs.length=a) :
  Calls Tryz.prog 232 #[.pointer (some ⟨g,o,none⟩),.int .i64 k] w fun e' w'=>e'=.returned (.tuple #[.int .i64 (xs.getD a 0),.bool true])∧∃ u',Dk.Sep W w' (Dk.rowOf e q (.slice (some ⟨g,0,none⟩) n C) n (Hs.set o u')::Dk.rowOf 3 1 u' (xs.eraseIdx a).length (Dk.is (xs.eraseIdx a))::us):=by
 obtain ⟨hi1,hi2⟩:=hi
 have ha:=Dk.zgw k hn
 have q1:=Dk.tmod_le k hn
 have q2:=Dk.at_up k hn
 rw [ea] at ha q2
 clear ea
 have hlen:Hs.length=n*q:=h.rowLen (List.mem_cons_self ..)
 have cu:w.cell? ⟨g,o,none⟩=some u:=(h.cellg (us1:=[]) hlen ho).1
 have hr:=h.row (e:=3) (s:=1) (v:=u) (n:=xs.length) (xs:=Dk.is xs) (by simp)
 have K:=zlh W.heap.size u xs a w hr ha
 obtain ⟨gu,Cu,x,eu,_,hm,hx,hcx,_,_⟩:=Dk.zbf hr ha
 rw [List.getElem?_map] at hx
 obtain ⟨y,hy,exy⟩:=Option.map_eq_some_iff.1 hx
 subst exy
 rw [Dk.getD_some hy]
 have fin:∀ v' w',w'.ownsRow W.heap.size 3 1 v' (xs.eraseIdx a).length (Dk.is (xs.eraseIdx a))→w.grownBy w' u.ownBlock→Dk.From w u v'→(∃ A L C,v'=.slice A L C)∧w'.cell? ⟨g,o,none⟩=some u∧w'.frozen? ⟨g,o,none⟩=false∧Dk.Sep W (w'.setCell ⟨g,o,none⟩ v') (Dk.rowOf e q (.slice (some ⟨g,0,none⟩) n C) n (Hs.set o v')::Dk.rowOf 3 1 v' (xs.eraseIdx a).length (Dk.is (xs.eraseIdx a))::us):=by
  intro v' w' ho' hg hf
  have h1:=Dk.Sep.turn (us1:=[_]) (t:=Dk.rowOf 3 1 u xs.length (Dk.is xs)) (t':=Dk.rowOf 3 1 v' (xs.eraseIdx a).length (Dk.is (xs.eraseIdx a))) h (Dk.Away.zad hg (fun k hk=>.inl hk)) (Dk.zam ho' (Nat.zero_le _)) (fun k hk=>hf k hk)
  obtain ⟨d1,d2,d3⟩:=Dk.Sep.cellg (us1:=[]) h1 hlen ho
  obtain ⟨A',C',e',_,_⟩:=Dk.zc ho'
  exact ⟨⟨A',_,C',e'⟩,d1,d2,d3 v'⟩
 have HF:Hid _:=fin
 subst eu
 unfold maxLen at hm
 have hne:(xs.length:Int)≠0:=by omega
 have z0:decide ((xs.length:Int)=0)=false:=decide_eq_false hne
 have q3:k.tmod (xs.length:Int)+(xs.length:Int)≤2000:=by omega
 have q4:0≤k.tmod (xs.length:Int)+(xs.length:Int):=by omega
 have q5:(k.tmod (xs.length:Int)+(xs.length:Int)).tmod (xs.length:Int)=(a:Int):=by rw [Int.tmod_eq_emod_of_nonneg q4];exact q2
 have q6:(a:Int)≤1000:=by omega
 have w1:IntKind.i64.wrap (k.tmod (xs.length:Int))=k.tmod (xs.length:Int):=by rw [IntKind.wrap_i64];omega
 have w2:IntKind.i64.wrap (k.tmod (xs.length:Int)+(xs.length:Int))=k.tmod (xs.length:Int)+(xs.length:Int):=by rw [IntKind.wrap_i64];omega
 have w3:IntKind.i64.wrap ((k.tmod (xs.length:Int)+(xs.length:Int)).tmod (xs.length:Int))=(a:Int):=by rw [q5,IntKind.wrap_i64];omega
 clear fin h hr hx hy q1 q2 q3 q4
 go_enter Tryz.func232,Tryz.ntmps232
 go_wp2_with fail
 refine K.mono ?_
 rintro e' w' ⟨v',rfl,ho',hg,hf⟩
 obtain ⟨⟨A',L',C',rfl⟩,d1,d2,hfin⟩:=HF.out v' w' ho' hg hf
 have HW:Hid _:=hfin
 clear hfin ho' hg hf HF K cu hcx
 go_wp2_with fail
 go_ret2
 exact ⟨rfl,_,HW.out⟩
theorem nils22 (w:World):(Builtin.append_ #[23,23] 23 #[.slice none 0 0,.slice none 0 0]).run Tryz.prog w=.ok (.slice none 0 0) w:=by
 obtain ⟨i0,hi0,_,_,_⟩:=info_parts info3
 simp [Builtin.append_,run_underlying Tryz.underlying23,sizeOf,typeInfo,hi0,Builtin.lenOf,run_firstCells_none,go_sem]
theorem copy_any {ty e:TypeId} {z:Value} {s bytes:Nat} (K:Dk.SlK Tryz.prog ty e z s bytes) (hn:∀ w,(Builtin.append_ #[ty,ty] ty #[.slice none 0 0,.slice none 0 0]).run Tryz.prog w=.ok (.slice none 0 0) w) (B:Nat) (v:Value) (n:Nat) (xs:List Value) (w:World) (h:w.ownsRow B e s v n xs) (h1:∀ u ∈ xs,u.oneCell'=true) (hl:n≤10000) :
  ∃ v' w',(Builtin.append_ #[ty,ty] ty #[.slice none 0 0,v]).run Tryz.prog w=.ok v' w'∧w'.ownsRow w.heap.size e s v' n xs∧Below w.heap.size w w':=by
 obtain ⟨hx,⟨rfl,h0⟩ | ⟨g,cap,cur,rfl,hb,hg,hn,hm,hs,ht⟩⟩:=id h
 ·subst h0
  obtain rfl:xs=[]:=List.eq_nil_of_length_eq_zero (by simpa using hx)
  exact ⟨_,w,hn w,World.ownsRow_nil _ _ _ _,Below.refl _ _⟩
 ·obtain ⟨v',w',hr,ho,hg,_,_⟩:=K.append w.heap.size ty (.slice none 0 0) [] 0 w (World.ownsRow_nil _ _ _ _) ⟨g,0,none⟩ n cap xs hx (h.cells (g:=g) rfl) h1 (by omega) (Nat.le_refl _)
  rw [Nat.zero_add,List.nil_append] at ho
  exact ⟨v',w',hr,ho,⟨hg.os,hg.tape,hg.output,hg.size,fun k hk=>hg.block k hk (by simp [Value.ownBlock])⟩⟩
theorem all_any {b o:Nat} {B:Nat} (hc:w.cell? ⟨b,o,none⟩=some u) (hr:w.ownsRow B 3 1 u xs.length (Dk.is xs)) (hl:xs.length≤1000) :
  Calls Tryz.prog 233 #[.pointer (some ⟨b,o,none⟩)] w fun e' w'=>∃ A C,e'=.returned (.slice A xs.length C)∧Hid (Below w.heap.size w w')∧Hid (w'.ownsRow w.heap.size 3 1 (.slice A xs.length C) xs.length (Dk.is xs)):=by
 obtain ⟨v',w',hrun,ho,hu⟩:=copy_any K22 nils22 _ u _ _ w hr (Dk.is_one _) (by omega)
 obtain ⟨A,C,ev,hc',hm⟩:=Dk.zc hr
 obtain ⟨A',C',ev',_,_⟩:=Dk.zc ho
 subst ev ev'
 have HR:Hid (w'.ownsRow w.heap.size 3 1 (.slice A' xs.length C') xs.length (Dk.is xs)):=ho
 have HU:Hid (Below w.heap.size w w'):=hu
 clear ho hu hr
 go_enter Tryz.func233,Tryz.ntmps233
 go_wp2_with (at_builtin;refine Lib.wpList_append_run _ rfl _ _ _ _ rfl _ _ rfl rfl _ _ hrun ?_)
 go_ret
 exact ⟨_,_,rfl,HU,HR⟩
end
section
variable {W w : World} {e : TypeId} {q g n C o : Nat} {Hs : List Value} {u : Value} {xs : List Int} {us : List Dk.Thing}
theorem zcp {owner:Int} {owned:Bool} (c1:w.cell? ⟨g,o+1,none⟩=some (.int .i64 owner)) (c2:w.cell? ⟨g,o+2,none⟩=some (.bool owned)) (who:Int) :
  Calls Tryz.prog 195 #[.pointer (some ⟨g,o,none⟩),.int .i64 who] w fun e' w'=>e'=.returned (.bool (owned && decide (owner=who)))∧w'=w:=by
 cases owned
 ·go_enter Tryz.func195,Tryz.ntmps195
  go_wp2
  go_ret
  exact ⟨rfl,rfl⟩
 ·obtain ⟨r,er⟩:∃ r,decide (owner=who)=r:=⟨_,rfl⟩
  have er2:(owner == who)=r:=by rw [← er];rfl
  rw [Bool.true_and,er]
  go_enter Tryz.func195,Tryz.ntmps195
  go_wp2
  go_ret
  exact ⟨rfl,rfl⟩
theorem zo1 (h:Dk.Sep W w (Dk.rowOf e q (.slice (some ⟨g,0,none⟩) n C) n Hs::Dk.rowOf 3 1 u xs.length (Dk.is xs)::us)) (h0:Hs[o]? = some u) (h2:Hs[o+2]? = some (.bool true)) (who:Int) (hl:xs.length≤1000) :
  Calls Tryz.prog 196 #[.pointer (some ⟨g,o,none⟩),.int .i64 who] w fun e' w'=>e'=.returned (.bool false)∧∃ u',Dk.Sep W w' (Dk.rowOf e q (.slice (some ⟨g,0,none⟩) n C) n (Hs.set o u')::Dk.rowOf 3 1 u' (xs++[who]).length (Dk.is (xs++[who]))::us):=by
 have hlen:Hs.length=n*q:=h.rowLen (List.mem_cons_self ..)
 have c2:w.cell? ⟨g,o+2,none⟩=some (.bool true):=(h.cellg (us1:=[]) hlen h2).1
 have K:=zha h h0 who hl
 clear h h0 h2
 go_enter Tryz.func196,Tryz.ntmps196
 go_wp2_with fail
 refine K.mono ?_
 rintro e' w' ⟨rfl,u',h'⟩
 clear K c2
 go_wp2_with fail
 go_ret
 exact ⟨rfl,u',h'⟩
theorem lock_free {x:Value} (h:Dk.Sep W w (Dk.rowOf e q (.slice (some ⟨g,0,none⟩) n C) n Hs::us)) (h1:Hs[o+1]? = some (.int .i64 0)) (h2:Hs[o+2]? = some (.bool false)) (who:Int) :
  Calls Tryz.prog 196 #[.pointer (some ⟨g,o,none⟩),.int .i64 who] w fun e' w'=>e'=.returned (.bool true)∧Dk.Sep W w' (Dk.rowOf e q (.slice (some ⟨g,0,none⟩) n C) n ((Hs.set (o+1) (.int .i64 who)).set (o+2) (.bool true))::us):=by
 have hlen:Hs.length=n*q:=h.rowLen (List.mem_cons_self ..)
 obtain ⟨c2,f2,_⟩:=h.cellg (us1:=[]) hlen h2
 obtain ⟨c1,f1,s1⟩:=h.cellg (us1:=[]) hlen h1
 have hs1:=s1 (.int .i64 who)
 obtain ⟨W1,e1⟩:∃ W1,W1=w.setCell ⟨g,o+1,none⟩ (.int .i64 who):=⟨_,rfl⟩
 rw [← e1] at hs1
 obtain ⟨d2,z2,s2⟩:=Dk.Sep.cellg (us1:=[]) hs1 (k:=o+2) (x:=.bool false) (by rw [List.length_set];exact hlen) (by rw [List.getElem?_set_ne (by omega)];exact h2)
 have HS:Hid _:=s2 (.bool true)
 have HE:Hid (w.setCell ⟨g,o+1,none⟩ (.int .i64 who)=W1):=e1.symm
 clear s1 s2 hs1 h e1 h1 h2
 go_enter Tryz.func196,Tryz.ntmps196
 go_wp2_with (rw [HE.out];clear HE)
 go_ret
 exact ⟨rfl,HS.out⟩
theorem zka {A:Option Addr} {Ca:Nat} {y:Int} (h:Dk.Sep W w (Dk.rowOf e q (.slice (some ⟨g,0,none⟩) n C) n Hs::us)) (h0:Hs[o]? = some (.slice A 0 Ca)) (h1:Hs[o+1]? = some (.int .i64 y)) (h2:Hs[o+2]? = some (.bool true)) (ch:Int) :
  Calls Tryz.prog 197 #[.pointer (some ⟨g,o,none⟩),.int .i64 ch] w fun e' w'=>e'=.returned (.tuple #[.int .i64 0,.bool false])∧Dk.Sep W w' (Dk.rowOf e q (.slice (some ⟨g,0,none⟩) n C) n ((Hs.set (o+1) (.int .i64 0)).set (o+2) (.bool false))::us):=by
 have hlen:Hs.length=n*q:=h.rowLen (List.mem_cons_self ..)
 obtain ⟨c0,_,_⟩:=h.cellg (us1:=[]) hlen h0
 obtain ⟨c2,f2,_⟩:=h.cellg (us1:=[]) hlen h2
 obtain ⟨c1,f1,s1⟩:=h.cellg (us1:=[]) hlen h1
 have hs1:=s1 (.int .i64 0)
 obtain ⟨W1,e1⟩:∃ W1,W1=w.setCell ⟨g,o+1,none⟩ (.int .i64 0):=⟨_,rfl⟩
 rw [← e1] at hs1
 obtain ⟨d2,z2,s2⟩:=Dk.Sep.cellg (us1:=[]) hs1 (k:=o+2) (x:=.bool true) (by rw [List.length_set];exact hlen) (by rw [List.getElem?_set_ne (by omega)];exact h2)
 have hs2:=s2 (.bool false)
 obtain ⟨W2,e2⟩:∃ W2,W2=W1.setCell ⟨g,o+2,none⟩ (.bool false):=⟨_,rfl⟩
 rw [← e2] at hs2
 have h1l:=Dk.zv h1
 have h2l:=Dk.zv h2
 have t1:∀ y:Dk.Up W2,y.wd.cell? ⟨g,o+1,none⟩=some (.int .i64 0):=fun y=>(Dk.Sep.cellg (us1:=[]) (hs2.below y.property) (by rw [List.length_set,List.length_set];exact hlen) (by rw [List.getElem?_set_ne (by omega),List.getElem?_set_self h1l])).1
 have t2:∀ y:Dk.Up W2,y.wd.cell? ⟨g,o+2,none⟩=some (.bool false):=fun y=>(Dk.Sep.cellg (us1:=[]) (hs2.below y.property) (by rw [List.length_set,List.length_set];exact hlen) (by rw [List.getElem?_set_self (by rw [List.length_set];exact h2l)])).1
 have hne:Nonempty (Dk.Up W2):=⟨⟨W2,Below.refl _ _⟩⟩
 have K:=zdm c0 ch
 have HS:Hid _:=hs2
 have HE:Hid (w.setCell ⟨g,o+1,none⟩ (.int .i64 0)=W1):=e1.symm
 have HE2:Hid (W1.setCell ⟨g,o+2,none⟩ (.bool false)=W2):=e2.symm
 clear s1 s2 hs1 hs2 h e1 e2 h1 h2 h1l h2l c0
 go_enter Tryz.func197,Tryz.ntmps197
 go_wp2_with fail
 refine K.mono ?_
 rintro e' w' ⟨rfl,hw'⟩
 subst w'
 clear K
 go_wp2_with (first | (rw [HE.out];clear HE) | (rw [HE2.out];clear HE2))
 refine Dk.zat (by kernel_rfl) (by kernel_rfl) ?_
 repeat (go_big_quiet_step (fail))
 refine wpQuiet_nil ?_
 intro _ hw'
 obtain ⟨y,hw''⟩:=hw'
 subst hw''
 have h':=Dk.Sep.below HS.out y.property
 clear HS t1 t2 hne
 go_wp2_with fail
 go_ret2
 exact ⟨rfl,h'⟩
theorem zkb {y:Int} (h:Dk.Sep W w (Dk.rowOf e q (.slice (some ⟨g,0,none⟩) n C) n Hs::Dk.rowOf 3 1 u xs.length (Dk.is xs)::us)) (h0:Hs[o]? = some u) (h1:Hs[o+1]? = some (.int .i64 y)) (h2:Hs[o+2]? = some (.bool true)) (k:Int) (hi:Dk.i64 k) (hn:0 < xs.length) (hl:xs.length≤1000) (a:Nat) (ea:Dk.at_ k xs.length=a) :
  Calls Tryz.prog 197 #[.pointer (some ⟨g,o,none⟩),.int .i64 k] w fun e' w'=>e'=.returned (.tuple #[.int .i64 (xs.getD a 0),.bool true])∧∃ u',Dk.Sep W w' (Dk.rowOf e q (.slice (some ⟨g,0,none⟩) n C) n (((Hs.set o u').set (o+1) (.int .i64 (xs.getD a 0))).set (o+2) (.bool true))::Dk.rowOf 3 1 u' (xs.eraseIdx a).length (Dk.is (xs.eraseIdx a))::us):=by
 have hlen:Hs.length=n*q:=h.rowLen (List.mem_cons_self ..)
 have K:=zfk h h0 k hi hn hl a ea
 generalize xs.getD a 0=x at K ⊢
 have h0l:=Dk.zv h0
 have h1l:=Dk.zv h1
 have h2l:=Dk.zv h2
 clear h ea hi
 go_enter Tryz.func197,Tryz.ntmps197
 go_wp2_with fail
 refine K.mono ?_
 rintro e' w ⟨rfl,u',h⟩
 clear K
 obtain ⟨c1,f1,s1⟩:=h.cellg (us1:=[]) (k:=o+1) (x:=.int .i64 y) (by rw [List.length_set];exact hlen) (by rw [List.getElem?_set_ne (by omega)];exact h1)
 have hs1:=s1 (.int .i64 x)
 obtain ⟨W1,e1⟩:∃ W1,W1=w.setCell ⟨g,o+1,none⟩ (.int .i64 x):=⟨_,rfl⟩
 rw [← e1] at hs1
 obtain ⟨d2,z2,s2⟩:=Dk.Sep.cellg (us1:=[]) hs1 (k:=o+2) (x:=.bool true) (by rw [List.length_set,List.length_set];exact hlen) (by rw [List.getElem?_set_ne (by omega),List.getElem?_set_ne (by omega)];exact h2)
 have hs2:=s2 (.bool true)
 obtain ⟨W2,e2⟩:∃ W2,W2=W1.setCell ⟨g,o+2,none⟩ (.bool true):=⟨_,rfl⟩
 rw [← e2] at hs2
 have t1:∀ y:Dk.Up W2,y.wd.cell? ⟨g,o+1,none⟩=some (.int .i64 x):=fun y=>(Dk.Sep.cellg (us1:=[]) (hs2.below y.property) (by rw [List.length_set,List.length_set,List.length_set];exact hlen) (by rw [List.getElem?_set_ne (by omega),List.getElem?_set_self (by rw [List.length_set];exact h1l)])).1
 have t2:∀ y:Dk.Up W2,y.wd.cell? ⟨g,o+2,none⟩=some (.bool true):=fun y=>(Dk.Sep.cellg (us1:=[]) (hs2.below y.property) (by rw [List.length_set,List.length_set,List.length_set];exact hlen) (by rw [List.getElem?_set_self (by rw [List.length_set,List.length_set];exact h2l)])).1
 have hne:Nonempty (Dk.Up W2):=⟨⟨W2,Below.refl _ _⟩⟩
 have HS:Hid _:=hs2
 have HE:Hid (w.setCell ⟨g,o+1,none⟩ (.int .i64 x)=W1):=e1.symm
 have HE2:Hid (W1.setCell ⟨g,o+2,none⟩ (.bool true)=W2):=e2.symm
 clear s1 s2 hs1 hs2 h e1 e2 h1 h2 h1l h2l h0 h0l
 go_wp2_with (first | (rw [HE.out];clear HE) | (rw [HE2.out];clear HE2))
 refine Dk.zat (by kernel_rfl) (by kernel_rfl) ?_
 repeat (go_big_quiet_step (fail))
 refine wpQuiet_nil ?_
 intro _ hw'
 obtain ⟨y,hw''⟩:=hw'
 subst hw''
 have h':=Dk.Sep.below HS.out y.property
 clear HS t1 t2 hne
 go_wp2_with fail
 go_ret2
 exact ⟨rfl,u',h'⟩
theorem zop {c:Int} (h:Dk.Sep W w (Dk.rowOf e q (.slice (some ⟨g,0,none⟩) n C) n Hs::us)) (h1:Hs[o+1]? = some (.int .i64 c)) (hc:0 < c∧c≤1048576) (who:Int) :
  Calls Tryz.prog 201 #[.pointer (some ⟨g,o,none⟩),.int .i64 who] w fun e' w'=>e'=.returned (.bool true)∧Dk.Sep W w' (Dk.rowOf e q (.slice (some ⟨g,0,none⟩) n C) n (Hs.set (o+1) (.int .i64 (c - 1)))::us):=by
 have hlen:Hs.length=n*q:=h.rowLen (List.mem_cons_self ..)
 obtain ⟨c1,f1,s1⟩:=h.cellg (us1:=[]) hlen h1
 have HS:Hid _:=s1 (.int .i64 (c - 1))
 have z0:decide (c=0)=false:=decide_eq_false (by omega)
 have z1:(c == 0)=false:=by simpa using z0
 have z2:IntKind.i64.wrap (c - 1)=c - 1:=by rw [IntKind.wrap_i64];omega
 clear s1 h h1
 go_enter Tryz.func201,Tryz.ntmps201
 go_wp2
 go_ret
 exact ⟨rfl,HS.out⟩
theorem zoo (h:Dk.Sep W w (Dk.rowOf e q (.slice (some ⟨g,0,none⟩) n C) n Hs::Dk.rowOf 3 1 u xs.length (Dk.is xs)::us)) (h0:Hs[o]? = some u) (h1:Hs[o+1]? = some (.int .i64 0)) (who:Int) (hl:xs.length≤1000) :
  Calls Tryz.prog 201 #[.pointer (some ⟨g,o,none⟩),.int .i64 who] w fun e' w'=>e'=.returned (.bool false)∧∃ u',Dk.Sep W w' (Dk.rowOf e q (.slice (some ⟨g,0,none⟩) n C) n (Hs.set o u')::Dk.rowOf 3 1 u' (xs++[who]).length (Dk.is (xs++[who]))::us):=by
 have hlen:Hs.length=n*q:=h.rowLen (List.mem_cons_self ..)
 have c1:w.cell? ⟨g,o+1,none⟩=some (.int .i64 0):=(h.cellg (us1:=[]) hlen h1).1
 have K:=zha h h0 who hl
 clear h h0 h1
 go_enter Tryz.func201,Tryz.ntmps201
 go_wp2_with fail
 refine K.mono ?_
 rintro e' w' ⟨rfl,u',h'⟩
 clear K c1
 go_wp2_with fail
 go_ret
 exact ⟨rfl,u',h'⟩
theorem up_take (h:Dk.Sep W w (Dk.rowOf e q (.slice (some ⟨g,0,none⟩) n C) n Hs::Dk.rowOf 3 1 u xs.length (Dk.is xs)::us)) (h0:Hs[o]? = some u) (k:Int) (hi:Dk.i64 k) (hn:0 < xs.length) (hl:xs.length≤1000) (a:Nat) (ea:Dk.at_ k xs.length=a) :
  Calls Tryz.prog 202 #[.pointer (some ⟨g,o,none⟩),.int .i64 k] w fun e' w'=>e'=.returned (.tuple #[.int .i64 (xs.getD a 0),.bool true,.int .i64 0])∧∃ u',Dk.Sep W w' (Dk.rowOf e q (.slice (some ⟨g,0,none⟩) n C) n (Hs.set o u')::Dk.rowOf 3 1 u' (xs.eraseIdx a).length (Dk.is (xs.eraseIdx a))::us):=by
 have K:=zfk h h0 k hi hn hl a ea
 generalize xs.getD a 0=x at K ⊢
 clear h h0 hi ea
 go_enter Tryz.func202,Tryz.ntmps202
 go_wp2_with fail
 refine K.mono ?_
 rintro e' w' ⟨rfl,u',h'⟩
 clear K
 go_wp2_with fail
 go_ret3
 exact ⟨rfl,u',h'⟩
theorem up_full_ {A:Option Addr} {Ca:Nat} (c0:w.cell? ⟨g,o,none⟩=some (.slice A 0 Ca)) (c1:w.cell? ⟨g,o+1,none⟩=some (.int .i64 1048576)) (k:Int) :
  Calls Tryz.prog 202 #[.pointer (some ⟨g,o,none⟩),.int .i64 k] w fun e' w'=>e'=.returned (.tuple #[.int .i64 0,.bool false,.int .i64 2])∧w'=w:=by
 have K:=zdm c0 k
 go_enter Tryz.func202,Tryz.ntmps202
 go_wp2_with fail
 refine K.mono ?_
 rintro e' w' ⟨rfl,hw'⟩
 subst w'
 clear K
 go_wp2_with fail
 go_ret3
 exact ⟨rfl,rfl⟩
theorem up_more_ {A:Option Addr} {Ca:Nat} {c:Int} (h:Dk.Sep W w (Dk.rowOf e q (.slice (some ⟨g,0,none⟩) n C) n Hs::us)) (h0:Hs[o]? = some (.slice A 0 Ca)) (h1:Hs[o+1]? = some (.int .i64 c)) (hc:0≤c∧c < 1048576) (k:Int) :
  Calls Tryz.prog 202 #[.pointer (some ⟨g,o,none⟩),.int .i64 k] w fun e' w'=>e'=.returned (.tuple #[.int .i64 0,.bool false,.int .i64 0])∧Dk.Sep W w' (Dk.rowOf e q (.slice (some ⟨g,0,none⟩) n C) n (Hs.set (o+1) (.int .i64 (c+1)))::us):=by
 have hlen:Hs.length=n*q:=h.rowLen (List.mem_cons_self ..)
 obtain ⟨c0,_,_⟩:=h.cellg (us1:=[]) hlen h0
 obtain ⟨c1,f1,s1⟩:=h.cellg (us1:=[]) hlen h1
 have HS:Hid _:=s1 (.int .i64 (c+1))
 have z0:decide (c=1048576)=false:=decide_eq_false (by omega)
 have z1:(c == 1048576)=false:=by simpa using z0
 have z2:IntKind.i64.wrap (c+1)=c+1:=by rw [IntKind.wrap_i64];omega
 have K:=zdm c0 k
 clear s1 h h0 h1
 go_enter Tryz.func202,Tryz.ntmps202
 go_wp2_with fail
 refine K.mono ?_
 rintro e' w' ⟨rfl,hw'⟩
 subst w'
 clear K
 go_wp2_with fail
 go_ret3
 exact ⟨rfl,HS.out⟩
end
theorem zhm:(Tryz.prog.info? 324).map (·.size)=some 2:=by kernel_rfl
theorem zfg (a b:Int):(#[.int .i64 a,.int .i64 b]:Array Value).all (·.oneCell')=true:=by simp [Value.oneCell']
theorem info82:(Tryz.prog.info? 324).map (fun i=>(i.zero,i.size,i.bytes))=some (some (.agg #[.int .i64 0,.int .i64 0]),2,16):=by kernel_rfl
theorem K79:Dk.SlK Tryz.prog 321 324 (.agg #[.int .i64 0,.int .i64 0]) 2 16:=⟨Tryz.underlying321,info82,rfl,by decide,by decide⟩
theorem away_row {S:Nat→Prop} {w w':World} {b:Nat} (h:Dk.Away S w w') (hb:S b∨w.heap.size≤b) (cs:Array Value):Dk.Away S w (w'.setRow b cs):=
 ⟨h.os,h.tape,h.output,by simp [World.setRow];exact h.size,fun k hk hn=>(setRow_other w' b k cs (fun e=>by subst e;exact hb.elim hn (fun h1=>absurd hk (by omega)))).trans (h.block k hk hn)⟩
theorem zgd {W w w':World} {b:Nat} {cs cs':Array Value} {e:TypeId} {us:List Dk.Thing} (h:Dk.Sep W w (Dk.boxOf b cs e::us)) (ew:w'=w.setRow b cs'):Dk.Sep W w' (Dk.boxOf b cs' e::us):=by
 subst ew
 exact h.turn (us1:=[]) (t:=Dk.boxOf b cs e) (t':=Dk.boxOf b cs' e) (away_row (S:=(Dk.boxOf b cs e).own) (Dk.Away.refl _ _) (.inl rfl) _) ((h.box (b:=b) (cs:=cs) (t:=e) (by simp)).row) (fun k hk=>.inl hk)
section
variable {W w : World} {e : TypeId} {q g n C o bm : Nat} {Hs : List Value} {u : Value} {xs : List Int} {L : List (Int × Int)} {us us' : List Dk.Thing}
theorem zmp (h:Dk.Sep W w (us'++mapOf bm L::us)) {x c:Int} (hi:Dk.i64 x) (hc:Dk.i64 c) (hx:x ∉ Dk.keysOf L) (hl:L.length≤1000) :
  ∃ w',(Instr.mapUpdate 165 (.map (some bm)) (.int .i64 x) (.int .i64 c)).run Tryz.prog w=.ok () w'∧Dk.Sep W w' (us'++mapOf bm (L++[(x,c)])::us):=by
 obtain ⟨w',hr,ht,hg⟩:=Told.put (h.get (t:=mapOf bm L) (by simp)) hi hc hx hl
 exact ⟨w',hr,h.turn (t:=mapOf bm L) (t':=mapOf bm (L++[(x,c)])) (Dk.Away.zad hg (fun k hk=>.inl (Option.some.inj hk).symm)) ht (fun k hk=>.inl hk)⟩
theorem zmo (h:Dk.Sep W w (us'++mapOf bm L::us)) {x c:Int} {k:Nat} (hi:Dk.i64 x) (hk:L[k]? = some (x,c)) :
  ∃ w',(Builtin.delete_ #[165,3] 0 #[.map (some bm),.int .i64 x]).run Tryz.prog w=.ok (.tuple #[]) w'∧Dk.Sep W w' (us'++mapOf bm (L.eraseIdx k)::us):=by
 obtain ⟨w',hr,ht,hg⟩:=Told.del (h.get (t:=mapOf bm L) (by simp)) hi hk
 exact ⟨w',hr,h.turn (t:=mapOf bm L) (t':=mapOf bm (L.eraseIdx k)) (Dk.Away.zad hg (fun k hk=>.inl (Option.some.inj hk).symm)) ht (fun k hk=>.inl hk)⟩
theorem zn8 (h:Dk.Sep W w (Dk.rowOf e q (.slice (some ⟨g,0,none⟩) n C) n Hs::Dk.rowOf 3 1 u xs.length (Dk.is xs)::mapOf bm L::us)) (h0:Hs[o]? = some u) (h1:Hs[o+1]? = some (.map (some bm))) (who m:Int) (hl:xs.length≤1000) (hi:Dk.i64 who) (hm:Dk.i64 m) (hx:who ∉ Dk.keysOf L) (hL:L.length≤1000) :
  Calls Tryz.prog 199 #[.pointer (some ⟨g,o,none⟩),.int .i64 who,.int .i64 m] w fun e' w'=>e'=.returned (.tuple #[])∧∃ u',Dk.Sep W w' (Dk.rowOf e q (.slice (some ⟨g,0,none⟩) n C) n (Hs.set o u')::Dk.rowOf 3 1 u' (xs++[who]).length (Dk.is (xs++[who]))::mapOf bm (L++[(who,m)])::us):=by
 have hlen:Hs.length=n*q:=h.rowLen (List.mem_cons_self ..)
 have K:=zha h h0 who hl
 clear h
 go_enter Tryz.func199,Tryz.ntmps199
 go_wp2_with fail
 refine K.mono ?_
 rintro e' w1 ⟨rfl,u',h⟩
 have c1:w1.cell? ⟨g,o+1,none⟩=some (.map (some bm)):=(h.cellg (us1:=[]) (by rw [List.length_set];exact hlen) (by rw [List.getElem?_set_ne (by omega)];exact h1)).1
 obtain ⟨w2,hrun,h2⟩:=zmp (us':=[_,_]) h hi hm hx hL
 have H2:Hid _:=h2
 clear K h h2 h0 h1 hx hi hm
 go_wp2_with fail
 go_end0
 exact ⟨rfl,_,H2.out⟩
theorem zle (h:Dk.Sep W w (Dk.rowOf e q (.slice (some ⟨g,0,none⟩) n C) n Hs::mapOf bm L::us)) (h1:Hs[o+1]? = some (.map (some bm))) {k:Nat} {who m:Int} (hi:Dk.i64 who) (hk:L[k]? = some (who,m)) :
  Calls Tryz.prog 248 #[.pointer (some ⟨g,o,none⟩),.int .i64 who] w fun e' w'=>e'=.returned (.agg #[.int .i64 who,.int .i64 m])∧Dk.Sep W w' (Dk.rowOf e q (.slice (some ⟨g,0,none⟩) n C) n Hs::mapOf bm (L.eraseIdx k)::us):=by
 have hlen:Hs.length=n*q:=h.rowLen (List.mem_cons_self ..)
 obtain ⟨W1,e1⟩:∃ W1,W1=w.alloc (.cells #[.int .i64 0,.int .i64 0] 324):=⟨_,rfl⟩
 have s1:=h.newBox e1
 have c1:W1.cell? ⟨g,o+1,none⟩=some (.map (some bm)):=(Dk.Sep.cellg (us1:=[_]) s1 hlen h1).1
 have hlook:=Told.look (s1.get (t:=mapOf bm L) (by simp)) hi (List.mem_of_getElem? hk)
 obtain ⟨W2,hrun,s2⟩:=zmo (us':=[_,_]) s1 hi hk
 have c2:W2.cell? ⟨g,o+1,none⟩=some (.map (some bm)):=(Dk.Sep.cellg (us1:=[_]) s2 hlen h1).1
 have b2:Dk.Box W2 w.heap.size #[.int .i64 0,.int .i64 0] 324:=s2.box (by simp)
 obtain ⟨W3,e3⟩:∃ W3,W3=W2.setRow w.heap.size #[.int .i64 who,.int .i64 m]:=⟨_,rfl⟩
 have s3:=zgd s2 e3
 have b3:Dk.Box W3 w.heap.size #[.int .i64 who,.int .i64 m] 324:=s3.box (by simp)
 have d0:=b3.cell
 have s4:=s3.sub (List.sublist_cons_self _ _)
 have H1:Hid (w.alloc (.cells #[.int .i64 0,.int .i64 0] 324)=W1):=e1.symm
 have H3:Hid (W2.setRow w.heap.size #[.int .i64 who,.int .i64 m]=W3):=e3.symm
 have HB2:Hid _:=b2
 have HD:Hid _:=d0
 have HS:Hid _:=s4
 clear e1 e3 s1 s2 s3 s4 b2 b3 h h1 hk hi d0
 go_enter Tryz.func248,Tryz.ntmps248
 go_wp2_with (first | (rw [H1.out];clear H1) | (refine wpList_store_row rfl 324 _ _ rfl w.heap.size #[.int .i64 who,.int .i64 m] rfl rfl 324 _ HB2.out.heap zhm rfl (zfg _ _) ?_;rw [H3.out];clear HB2))
 have d0:=HD.out
 exact bodyPost_ret (v:=.agg #[.int .i64 who,.int .i64 m]) (by simp [results,Tryz.results248,go_sem,d0]) rfl ⟨rfl,HS.out⟩
end
end Go.Proofs.YtglhhlfopccmaaaGreat
