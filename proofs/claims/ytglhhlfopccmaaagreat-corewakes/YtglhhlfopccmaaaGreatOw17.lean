import Derived.Test.YtglhhlfopccmaaaGreatOw16
import Derived.Shelf.Sort.Plain
import Derived.Shelf.Slices.In.SortNone
import Derived.Sort.OwnSortedInts
set_option linter.unusedSimpArgs false
set_option linter.unusedVariables false
set_option linter.unnecessarySimpa false
set_option maxHeartbeats 8000000
set_option maxRecDepth 100000
namespace Go.Proofs
open Go.Shelf
def Tryz.zjr:Go.Shelf.Ren:=⟨fun | 189=>104 | 125=>134 | 257=>133 | 128=>174 | 129=>175 | 294=>165 | 295=>166 | 296=>167 | 297=>168 | 298=>169 | 299=>170 | 216=>171 | 300=>172 | 301=>173 | 328=>213 | 329=>214 | 330=>215 | 331=>216 | 332=>217 | 215=>218 | 343=>243 | n=>n,fun | 28=>23 | 3=>3 | 46=>229 | 0=>0 | 51=>279 | 53=>38 | 4=>4 | 183=>273 | 182=>272 | 131=>276 | 5=>5 | 9=>9 | 218=>304 | 222=>308 | 228=>333 | 229=>334 | n=>n,fun | n=>n⟩
theorem Tryz.lays189:Go.Proofs.Lays.n189 Tryz.prog Tryz.zjr:={
 mixed:=by kernel_rfl
 f125:=Tryz.func134.trans (congrArg some (by kernel_rfl))
 f128:=Tryz.func174.trans (congrArg some (by kernel_rfl))
 f129:=Tryz.func175.trans (congrArg some (by kernel_rfl))
 f189:=Tryz.func104.trans (congrArg some (by kernel_rfl))
 f215:=Tryz.func218.trans (congrArg some (by kernel_rfl))
 f216:=Tryz.func171.trans (congrArg some (by kernel_rfl))
 f257:=Tryz.func133.trans (congrArg some (by kernel_rfl))
 f294:=Tryz.func165.trans (congrArg some (by kernel_rfl))
 f295:=Tryz.func166.trans (congrArg some (by kernel_rfl))
 f296:=Tryz.func167.trans (congrArg some (by kernel_rfl))
 f297:=Tryz.func168.trans (congrArg some (by kernel_rfl))
 f298:=Tryz.func169.trans (congrArg some (by kernel_rfl))
 f299:=Tryz.func170.trans (congrArg some (by kernel_rfl))
 f300:=Tryz.func172.trans (congrArg some (by kernel_rfl))
 f301:=Tryz.func173.trans (congrArg some (by kernel_rfl))
 f328:=Tryz.func213.trans (congrArg some (by kernel_rfl))
 f329:=Tryz.func214.trans (congrArg some (by kernel_rfl))
 f330:=Tryz.func215.trans (congrArg some (by kernel_rfl))
 f331:=Tryz.func216.trans (congrArg some (by kernel_rfl))
 f332:=Tryz.func217.trans (congrArg some (by kernel_rfl))
 f343:=Tryz.func243.trans (congrArg some (by kernel_rfl))
 t0:=Tryz.underlying0
 a0:=Tryz.isAgg0
 z0:=Tryz.sizeOf0
 v0:=Tryz.zeroValue0
 t3:=Tryz.underlying3
 a3:=Tryz.isAgg3
 z3:=Tryz.sizeOf3
 v3:=Tryz.zeroValue3
 t4:=Tryz.underlying4
 a4:=Tryz.isAgg4
 z4:=Tryz.sizeOf4
 v4:=Tryz.zeroValue4
 t5:=Tryz.underlying5
 a5:=Tryz.isAgg5
 z5:=Tryz.sizeOf5
 v5:=Tryz.zeroValue5
 t9:=Tryz.underlying9
 a9:=Tryz.isAgg9
 z9:=Tryz.sizeOf9
 v9:=Tryz.zeroValue9
 t28:=Tryz.underlying23
 a28:=Tryz.isAgg23
 z28:=Tryz.sizeOf23
 v28:=Tryz.zeroValue23
 t46:=Tryz.underlying229
 a46:=Tryz.isAgg229
 z46:=Tryz.sizeOf229
 v46:=Tryz.zeroValue229
 t51:=Tryz.underlying279
 a51:=Tryz.isAgg279
 z51:=Tryz.sizeOf279
 v51:=Tryz.zeroValue279
 t53:=Tryz.underlying38
 a53:=Tryz.isAgg38
 z53:=Tryz.sizeOf38
 v53:=Tryz.zeroValue38
 t131:=Tryz.underlying276
 a131:=Tryz.isAgg276
 z131:=Tryz.sizeOf276
 v131:=Tryz.zeroValue276
 t182:=Tryz.underlying272
 a182:=Tryz.isAgg272
 z182:=Tryz.sizeOf272
 v182:=Tryz.zeroValue272
 t183:=Tryz.underlying273
 a183:=Tryz.isAgg273
 z183:=Tryz.sizeOf273
 v183:=Tryz.zeroValue273
 t218:=Tryz.underlying304
 a218:=Tryz.isAgg304
 z218:=Tryz.sizeOf304
 v218:=Tryz.zeroValue304
 t222:=Tryz.underlying308
 a222:=Tryz.isAgg308
 z222:=Tryz.sizeOf308
 v222:=Tryz.zeroValue308
 t228:=Tryz.underlying333
 a228:=Tryz.isAgg333
 z228:=Tryz.sizeOf333
 v228:=Tryz.zeroValue333
 t229:=Tryz.underlying334
 a229:=Tryz.isAgg334
 z229:=Tryz.sizeOf334
 v229:=Tryz.zeroValue334 }
end Go.Proofs
namespace Go.Proofs.YtglhhlfopccmaaaGreat
open Go.RowKit Go.Sort
theorem Sort_any (base:Nat) (v:Value) (ss:List Int) (w:World) (h:w.ownsRow base 3 1 v ss.length (Dk.is ss)) (hl:ss.length≤100000) :
  Calls Tryz.prog 104 #[v] w fun e w'=>e=.returned (.tuple #[])∧w'.ownsRow base 3 1 v ss.length (Dk.is (ss.mergeSort fun x y=>decide (x≤y)))∧w.grownBy w' v.ownBlock:=by
 obtain ⟨_,⟨rfl,h0⟩ | ⟨g,cap,cur,rfl,hbase,hb,h1,h2,h3,h4⟩⟩:=id h
 ·obtain rfl:ss=[]:=List.eq_nil_of_length_eq_zero h0
  refine (Any.slices_Sort_int_none Tryz.lays189 none 0 w).mono ?_
  rintro e w' ⟨rfl,rfl⟩
  exact ⟨rfl,by simpa using h,World.grownBy.refl _ _⟩
 ·have hH:Holds (Value.int .i64) w g 0 ss.toArray:=holds_of_blockI hb (by simpa using h4)
  have hgl:g < w.heap.size:=(Array.getElem?_eq_some_iff.1 hb).1
  refine (Any.slices_Sort_int Tryz.lays189 g 0 cap ss w hH hgl (by omega)).mono ?_
  rintro e w' ⟨rfl,nn,os,rfl⟩
  exact ⟨rfl,ownsRow_sortedI (by simp) hbase hb h1 h2 h3,grownBy_sortedI _⟩
open Go.RowKit Go.Maps
section
variable {B M : Nat} {w : World} {bd bm : Nat} {now : Int} {L : List (Int × Int)}
theorem zni (bd:Nat) (x n:Int) (w:World) (h:n < 1):Calls Tryz.prog 164 #[.pointer (some ⟨bd,0,none⟩),.int .i64 x,.int .i64 n] w fun e w'=>e=.returned (.int .i64 1)∧w'=w:=by
 go_enter Tryz.func164,Tryz.ntmps164
 go_wp2
 go_ret
 exact ⟨rfl,rfl⟩
theorem zlo (bd:Nat) (x n:Int) (w:World) (h:1099511627776 < n):Calls Tryz.prog 164 #[.pointer (some ⟨bd,0,none⟩),.int .i64 x,.int .i64 n] w fun e w'=>e=.returned (.int .i64 1)∧w'=w:=by
 have y1:decide (n < 1)=false:=by simp;omega
 have y2:decide (n > 1099511627776)=true:=by simp;omega
 go_enter Tryz.func164,Tryz.ntmps164
 go_wp2
 go_ret
 exact ⟨rfl,rfl⟩
theorem zln (h:WH B M w bd bm now L) {x n:Int} (hi:Dk.i64 x) (h1:1≤n) (h2:n≤1099511627776) (hx:x ∈ Dk.keysOf L):Calls Tryz.prog 164 #[.pointer (some ⟨bd,0,none⟩),.int .i64 x,.int .i64 n] w fun e w'=>e=.returned (.int .i64 4)∧w'=w:=by
 have y1:decide (n < 1)=false:=by simp;omega
 have y2:decide (n > 1099511627776)=false:=by simp;omega
 have c1:w.cell? ⟨bd,1,none⟩=some (.map (some bm)):=h.head.cell 1
 obtain ⟨c,hc⟩:=Dk.zbw.1 hx
 have hl:=h.map.look_yes hi hc
 clear h hi hx hc
 go_enter Tryz.func164,Tryz.ntmps164
 go_wp2
 go_ret
 exact ⟨rfl,rfl⟩
theorem not_none (bm:Nat) (w:World):(binOp BinOp.eql 165 (.map (some bm)) (.map none)).run Tryz.prog w=.ok (.bool false) w:=by kernel_rfl
theorem WH.put (h:WH B M w bd bm now L) {x c:Int} (hi:Dk.i64 x) (hc:Dk.i64 c) (hx:x ∉ Dk.keysOf L) (hM:M < 100000) (q:Nat) :
  ∃ w',(Instr.mapUpdate 165 (.map (some bm)) (.int .i64 x) (.int .i64 c)).run Tryz.prog (w.drewN q)=.ok () w'∧WH B (M+1) w' bd bm now (L++[(x,c)])∧Dk.Away (AtW bd bm) w w':=by
 have h':=h.up (Dk.zx (Below.refl _ _) q)
 obtain ⟨D,n,hn,ho,ht⟩:=h'.map
 obtain ⟨w',hr,ho',hg⟩:=ho.update law3W Tryz.underlying165 (by unfold maxLen;omega) (keyOf_int_mk Tryz.underlying3 (zlf hi)) (plainElem_int Tryz.underlying3 (zlf hc))
 have ne:=h.ne
 refine ⟨w',hr,⟨h.base,h.baseM,h.lo,h.hi,h'.head.far hg ne,⟨_,n+1,by omega,ho',ht.put hx⟩,fun p hp=>?_⟩,?_⟩
 ·rcases List.mem_append.1 hp with hp | hp
  ·exact h.wf p hp
  ·rw [List.mem_singleton] at hp
   rw [hp]
   exact ⟨hi,hc⟩
 ·exact (Dk.Away.of_up (Dk.zx (Below.refl _ _) q)).trans (Dk.Away.zad (S:=AtW bd bm) hg (fun k hk=>.inl (.inr (Option.some.inj hk).symm))) (fun k hk=>.inl hk)
theorem Sleep_ok (h:WH B M w bd bm now L) {x n:Int} (hi:Dk.i64 x) (h1:1≤n) (h2:n≤1099511627776) (hx:x ∉ Dk.keysOf L) (hM:M < 100000):Calls Tryz.prog 164 #[.pointer (some ⟨bd,0,none⟩),.int .i64 x,.int .i64 n] w fun e w'=>e=.returned (.int .i64 0)∧WH B (M+1) w' bd bm now (L++[(x,min (now+n) 1099511627776)])∧Dk.Away (AtW bd bm) w w':=by
 have y1:decide (n < 1)=false:=by simp;omega
 have y2:decide (n > 1099511627776)=false:=by simp;omega
 have c1:∀ q,(w.drewN q).cell? ⟨bd,1,none⟩=some (.map (some bm)):=fun q=>(h.head.drewN q).cell 1
 have c1':w.cell? ⟨bd,1,none⟩=some (.map (some bm)):=h.head.cell 1
 have hl:=h.map.look_no hi hx
 have K:∀ q,Calls Tryz.prog 102 #[.pointer (some ⟨bd,0,none⟩),.int .i64 n] (w.drewN q) fun e w'=>e=.returned (.int .i64 (min (now+n) 1099511627776))∧w'=w.drewN q:=fun q=>zh3 n (h.up (Dk.zx (Below.refl _ _) q)) h1 h2
 have hc:Dk.i64 (min (now+n) 1099511627776):=by have:=h.lo;have:=h.hi;unfold Dk.i64;omega
 have P:=fun q=>h.put hi hc hx hM q
 generalize min (now+n) 1099511627776=c at *
 have HP:Hid _:=P
 have hnn:=not_none bm w
 clear P h hi hx hc
 go_enter Tryz.func164,Tryz.ntmps164
 go_wp2
 refine Dk.zae (C:=fun w'=>∃ n,w'=w.drewN n) (D:=fun w'=>WH B (M+1) w' bd bm now (L++[(x,c)])∧Dk.Away (AtW bd bm) w w') (by kernel_rfl) (by kernel_rfl) ⟨1,rfl⟩ (by simp) ?_
 dsimp only [List.dropLast]
 repeat (go_big_quiet_step ((first | (go_at_call 102;exact (K _).mono fun e w' h=>⟨h.1,_,h.2⟩))))
 refine wpQuiet_nil ?_
 refine ⟨_,rfl,rfl,?_,?_⟩
 ·rintro _ ⟨nq,rfl⟩
  obtain ⟨w',hr,hw⟩:=HP.out nq
  refine ⟨w',?_,hw⟩
  simp [execOp,Act.eval,hr]
 ·rintro w' hw
  have HW:Hid _:=hw
  clear hw
  go_wp2
  go_ret
  exact ⟨rfl,HW.out⟩
end
section
variable {B M : Nat} {w : World} {bd bm : Nat} {now : Int} {L : List (Int × Int)}
theorem zj9 (h:WH B M w bd bm now L) (hM:M≤10000):Calls Tryz.prog 103 #[.pointer (some ⟨bd,0,none⟩)] w fun e w'=>∃ v ss,e=.returned v∧w'.ownsRow w.heap.size 3 1 v ss.length (Dk.is ss)∧ss.length≤M∧ss.Perm (Dk.dueOf now L)∧WH B M w' bd bm now (Dk.leftOf now L)∧w.grownBy w' (some bm):=by
 obtain ⟨D,n,hn,hown,ht⟩:=h.map
 obtain ⟨i0,hi0,hz0,hz1,hz2⟩:=info_parts info3
 have hne:=h.ne
 have hbl:=hown.lt
 have hdl:=h.head.lt
 have hsz:=hown.size_le
 have c1:w.cell? ⟨bd,1,none⟩=some (.map (some bm)):=h.head.cell 1
 have fin:∀ w' D',w'.ownsMap Tryz.prog 3 (plainElem Tryz.prog 3) bm n D'→Dk.Tells D' (Dk.leftOf now L)→w.grownBy w' (some bm)→WH B M w' bd bm now (Dk.leftOf now L):=fun w' D' ho' ht' hg=>⟨h.base,h.baseM,h.lo,h.hi,h.head.far hg hne,⟨D',n,hn,ho',ht'⟩,fun p hp=>h.wf p (List.mem_filter.1 hp).1⟩
 have cells:∀ w',w.grownBy w' (some bm)→w'.cell? ⟨bd,0,none⟩=some (.int .i64 now)∧w'.cell? ⟨bd,1,none⟩=some (.map (some bm)):=fun w' hg=>⟨(h.head.far hg hne).cell 0,(h.head.far hg hne).cell 1⟩
 have HF:Hid _:=fin
 have HC:Hid _:=cells
 have hnd:=ht.nodup
 clear fin cells h
 go_enter Tryz.func103,Tryz.ntmps103
 go_wp2_with (first
  | (at_range;refine wpList_range_own _ rfl _ 165 rfl 3 3 law3W Tryz.underlying165 _ bm n _ rfl hown ?_;intro w0 hrg0 hg0 hs0)
  | fail)
 go_frame
 go_loopw [3] (fun v wr=>∃ (left:Lit→Bool) (cnt:Nat) (ss:List Int) (D':DataW Unit) (A:Option Addr) (C:Nat),v=.slice A ss.length C∧wr.ranges Tryz.prog 3 (plainElem Tryz.prog 3) bm w.heap.size n D' left cnt∧ss.length+cnt≤M∧
   wr.ownsRow w.heap.size 3 1 (.slice A ss.length C) ss.length (Dk.is ss)∧Hid (Dk.Tells D' (L.filter (Dk.stays now left)))∧Hid (Dk.Taken now L left ss)∧Hid (w.grownBy wr (some bm)))
  (fun _ wr=>wr.rangeLeft bm w.heap.size)
 case atStart=>exact ⟨_,_,[],D,none,0,rfl,hrg0,by simp;omega,World.ownsRow_nil _ _ _ _,by rw [Dk.zj7 ht];exact ht,Dk.Taken.start ht now,hg0.but _⟩
 case round=>
  obtain ⟨left,cnt,ss,D',A,C,rfl,hrg,hcs,hrow,HT,HK,HG⟩:=hrel
  clear hown hrg0 hg0 hs0 c1 ht
  go_wp2_with (first
   | (at_next;refine wpList_next_ranges_ii _ rfl _ rfl 3 3 .i64 .i64 law3W Tryz.underlying3 Tryz.underlying3 bm w.heap.size n _ _ _ rfl hrg ?_ ?_)
   | fail)
  ·intro _ hl0
   have hw:=HF.out wr D' hrg.owns (by rw [← Dk.zp3 hl0];exact HT.out) HG.out
   have hp:=HK.out.perm hnd hl0
   have HW:Hid _:=hw
   have HP:Hid _:=hp
   have HR:Hid _:=hrow
   clear hw hp hrow hrg
   go_wp2_with fail
   go_ret
   exact ⟨_,ss,rfl,HR.out,by omega,HP.out,HW.out,HG.out⟩
  ·intro x c w1 cnt1 hwx hwc hlx hat hrg1 hlt hg1 hs1 hen
   have hL:(x,c) ∈ L:=(List.mem_filter.1 (HT.out.of_at hat)).1
   have hrow1:=hrow.kept hg1 (Or.inr (row_ne_iter hrow hrg).symm)
   have hgw1:w.grownBy w1 (some bm):=HG.out.andThen hg1 (fun j hj=>by cases hj;exact Or.inl (Nat.le_refl _))
   obtain ⟨c0,c1⟩:=HC.out w1 hgw1
   have hB1:w.heap.size≤w1.heap.size:=hgw1.size
   by_cases hc:c≤now
   ·have y1:decide (c≤now)=true:=by simpa using hc
    have HT2:Hid (Dk.Tells (D'.del (.int .i64 x)) (L.filter (Dk.stays now (Dk.struck left x)))):=by rw [← Dk.zmu hnd hL hc];exact HT.out.del x
    have HK2:Hid (Dk.Taken now L (Dk.struck left x) (ss++[x])):=HK.out.step hnd hlx hL hc
    obtain ⟨W,eW⟩:∃ W,W=w1.alloc (.cells #[.int .i64 x] 3):=⟨_,rfl⟩
    have uW:Below w1.heap.size w1 W:=by rw [eW];exact Dk.zb (Below.refl _ _) _
    have rowW:W.ownsRow w.heap.size 3 1 (.slice A ss.length C) ss.length (Dk.is ss):=by rw [eW];exact hrow1.alloc _
    have rgW:W.ranges Tryz.prog 3 (plainElem Tryz.prog 3) bm w.heap.size n D' (fun z=>left z && !z.sameKey (.int .i64 x)) cnt1:=by rw [eW];exact hrg1.alloc _
    obtain ⟨v',w3,hr,ho3,hg3,hf3,_⟩:=zja w.heap.size 23 (.slice A ss.length C) (Dk.is ss) ss.length W rowW ⟨w1.heap.size,0,none⟩ 1 1 [.int .i64 x] rfl (one_new w1 W _ 3 eW) (fun u hu=>by simp at hu;subst hu;rfl) (by omega) (by have:=uW.size;omega)
    have hrg3:=rgW.kept hg3 (row_ne_low rowW hbl) (row_ne_iter rowW rgW)
    have hgw3:w.grownBy w3 (some bm):=(Dk.far_up hgw1 uW).andThen hg3 (fun j hj=>Or.inl (rowW.lt j hj).1)
    obtain ⟨d0,d1⟩:=HC.out w3 hgw3
    have HG3:Hid (w.grownBy w3 (some bm)):=hgw3
    have HO3:Hid (w3.ownsRow w.heap.size 3 1 v' (ss.length+1) (Dk.is ss++[.int .i64 x])):=ho3
    have HR0:Hid (wr.ranges Tryz.prog 3 (plainElem Tryz.prog 3) bm w.heap.size n D' left cnt):=hrg
    obtain ⟨A',C',rfl,_,_⟩:=Dk.zc ho3
    rw [eW] at hr
    clear hs1 HT HK HG hgw1 hrow hL hat hlx hc hrg hgw3 ho3 hg3 hf3 rgW rowW uW hrow1 hrg1
    go_wp2_with (first
     | (at_delete;refine wpList_delete_ranges _ rfl _ _ 165 3 rfl 3 law3W Tryz.underlying165 _ bm w.heap.size n _ _ _ rfl hrg3 _ _ rfl (keyOf_int_mk Tryz.underlying3 hwx) ?_;intro w4 cnt4 hrg4 hle hturn;go_frame)
     | (at_builtin;refine Lib.wpList_append_run _ rfl _ _ _ _ rfl _ _ rfl rfl _ _ hr ?_))
    rw [strike_twice] at hrg4
    go_roundw
    case rel=>
     refine ⟨_,cnt4,ss++[x],_,A',C',by simp,hrg4,by simp;omega,?_,HT2,HK2,HG3.out.andThen hturn.grown (fun j hj=>by cases hj;exact Or.inr rfl)⟩
     have hr3:w3.ownsRow w.heap.size 3 1 (.slice A' (ss.length+1) C') (ss.length+1) (Dk.is ss++[.int .i64 x]):=HO3.out
     have:=hr3.kept hturn.grown (Or.inr (row_ne_low hr3 hbl).symm)
     simpa [Dk.is] using this
    case measure=>rw [hrg4.left_eq,World.ranges.left_eq HR0.out];omega
   ·have y1:decide (c≤now)=false:=by simpa using hc
    have HT2:Hid (Dk.Tells D' (L.filter (Dk.stays now (Dk.struck left x)))):=by rw [← Dk.zmt hnd hL (by omega)];exact HT.out
    have HK2:Hid (Dk.Taken now L (Dk.struck left x) ss):=HK.out.pass hnd hL (by omega)
    have HGW:Hid _:=hgw1
    have HR0:Hid (wr.ranges Tryz.prog 3 (plainElem Tryz.prog 3) bm w.heap.size n D' left cnt):=hrg
    clear hs1 HT HK HG hgw1 hrow hL hat hlx hc hrg
    go_wp2_with fail
    go_roundw
    case rel=>exact ⟨_,cnt1,ss,D',A,C,rfl,hrg1,by omega,hrow1,HT2,HK2,HGW⟩
    case measure=>rw [hrg1.left_eq,World.ranges.left_eq HR0.out];exact hlt
theorem WH.tick (h:WH B M w bd bm now L) {t:Int} (h0:0≤t) (h1:t≤1099511627776):WH B M (w.setCell ⟨bd,0,none⟩ (.int .i64 t)) bd bm t L∧Dk.Away (AtW bd bm) w (w.setCell ⟨bd,0,none⟩ (.int .i64 t)):=
 ⟨⟨h.base,h.baseM,h0,h1,h.head.set 0 _,h.map.of_block (Below.heap_setCell w ⟨bd,0,none⟩ _ bm (fun e=>h.ne e.symm)),h.wf⟩,(Dk.Away.refl _ w).set (.inl (.inl rfl)) _ _⟩
theorem Tick_any (h:WH B M w bd bm now L) (hM:M≤10000):Calls Tryz.prog 71 #[.pointer (some ⟨bd,0,none⟩)] w fun e w'=>∃ v ys,e=.returned v∧w'.ownsRow w.heap.size 3 1 v ys.length (Dk.is ys)∧Dk.Rising ys∧ys.Perm (Dk.dueOf (min (now+1) 1099511627776) L)∧
  WH B M w' bd bm (min (now+1) 1099511627776) (Dk.leftOf (min (now+1) 1099511627776) L)∧Dk.Away (AtW bd bm) w w':=by
 have K:=zh3 1 h (by omega) (by omega)
 have ht:0≤min (now+1) 1099511627776:=by have:=h.lo;omega
 have c0:w.cell? ⟨bd,0,none⟩=some (.int .i64 now):=h.head.cell 0
 have f0:w.frozen? ⟨bd,0,none⟩=false:=h.head.frozen 0
 have hT:min (now+1) 1099511627776≤1099511627776:=by omega
 generalize min (now+1) 1099511627776=t at *
 obtain ⟨h1,a1⟩:=h.tick ht hT
 obtain ⟨W,eW⟩:∃ W,W=w.setCell ⟨bd,0,none⟩ (.int .i64 t):=⟨_,rfl⟩
 rw [← eW] at h1 a1
 have K2:=zj9 h1 hM
 have hsz:w.heap.size≤W.heap.size:=a1.size
 have hbd:bd < W.heap.size:=h1.head.lt
 have hbm:bm < W.heap.size:=h1.map.lt
 have HE:Hid _:=eW
 have HA:Hid _:=a1
 clear h1 a1 h eW ht hT
 go_enter Tryz.func71,Tryz.ntmps71
 go_wp2_with (first | (go_at_call 102;refine K.mono ?_;rintro e w' ⟨rfl,hw'⟩;subst w'))
 rw [← HE.out]
 refine K2.mono ?_
 rintro e w2 ⟨v,ss,rfl,ho,hl,hp,hw,hg⟩
 have K3:=Sort_any _ v ss w2 ho (by omega)
 have HO:Hid (w2.ownsRow W.heap.size 3 1 v ss.length (Dk.is ss)):=ho
 have HP:Hid _:=hp
 have HW:Hid _:=hw
 have HG:Hid _:=hg
 obtain ⟨A,C,rfl,_,_⟩:=Dk.zc ho
 clear ho hp hw hg c0 f0 K K2
 go_wp2_with fail
 refine K3.mono ?_
 rintro e w3 ⟨rfl,ho3,hg3⟩
 have HO3:Hid (w3.ownsRow W.heap.size 3 1 (.slice A ss.length C) ss.length (Dk.is (ss.mergeSort fun x y=>decide (x≤y)))):=ho3
 have HG3:Hid _:=hg3
 clear ho3 hg3 K3
 go_wp2_with fail
 go_ret
 have hne:∀ k,Value.ownBlock (.slice A ss.length C)=some k→W.heap.size≤k:=fun k hk=>(World.ownsRow.lt HO.out k hk).1
 have a3:Dk.Away (fun k=>Value.ownBlock (.slice A ss.length C)=some k) w2 w3:=Dk.Away.zad HG3.out (fun k hk=>.inl hk)
 refine ⟨_,ss.mergeSort fun x y=>decide (x≤y),rfl,?_,Dk.zfd ss,(List.mergeSort_perm ss _).trans HP.out,HW.out.away a3 (fun e=>by have:=hne _ e;omega) (fun e=>by have:=hne _ e;omega),?_⟩
 ·have:=Dk.zam HO3.out hsz
  simpa using this
 ·refine (HA.out.trans (Dk.Away.zad (S:=AtW bd bm) HG.out (fun k hk=>.inl (.inr (Option.some.inj hk).symm))) (fun k hk=>.inl hk)).trans a3 (fun k hk=>.inr ?_)
  have:=hne k hk
  omega
end
end Go.Proofs.YtglhhlfopccmaaaGreat
