import Derived.Test.YtpnajphbjfehnaaGreatLn29
import Derived.Shelf.Spec.SlicesInsertGrow
set_option linter.unusedSimpArgs false
set_option linter.unusedVariables false
set_option linter.unnecessarySimpa false
set_option maxHeartbeats 8000000
set_option maxRecDepth 100000
namespace Go.Proofs.YtpnajphbjfehnaaGreat
open Go.RowKit
theorem New_anyD (w:World) :
  Calls Tryz.prog 80 #[] w fun e w'=>e=.returned (.pointer (some ⟨w.heap.size,0,none⟩))∧Dk.DQ w.heap.size w' w.heap.size (.slice none 0 0) []∧Below w.heap.size w w'∧w'.heap.size=w.heap.size+1:=by
 go_enter Tryz.func80,Tryz.ntmps80
 go_wp2
 go_ret
 exact ⟨rfl,⟨Nat.le_refl _,Dk.Box.new w _ 206,World.ownsRow_nil _ _ _ _,by simp [Value.ownBlock],fun x hx=>by simp at hx⟩,Dk.zb (Below.refl _ _) _,by simp⟩
theorem zf9 (B bd:Nat) (v:Value) (xs:List Int) (x:Int) (w:World) (h:Dk.DQ B w bd v xs) :
  Calls Tryz.prog 206 #[.pointer (some ⟨bd,0,none⟩),.int .i64 x] w fun e w'=>e=.returned (.bool (!xs.contains x))∧w'=w:=by
 obtain ⟨A,C,rfl,hS⟩:=Dk.za2 h.row h.wf
 have c0:w.cell? ⟨bd,0,none⟩=some (.slice A xs.length C):=h.head.cell 0
 have K:=zce A xs.length C xs x w hS
 generalize xs.contains x=r at K
 clear hS h
 go_enter Tryz.func206,Tryz.ntmps206
 go_wp2_with (go_at_call 205;refine K.mono ?_;rintro e w' ⟨rfl,hw'⟩;subst w')
 go_ret
 exact ⟨rfl,rfl⟩
theorem za8 (B bd:Nat) (v:Value) (xs:List Int) (w:World) (h:Dk.DQ B w bd v xs) :
  Calls Tryz.prog 180 #[.pointer (some ⟨bd,0,none⟩)] w fun e w'=>e=.returned (.bool xs.isEmpty)∧w'=w:=by
 obtain ⟨A,C,rfl,hS⟩:=Dk.za2 h.row h.wf
 have c0:w.cell? ⟨bd,0,none⟩=some (.slice A xs.length C):=h.head.cell 0
 have hc:=hS.cap
 have hm:=hS.max
 unfold maxLen at hm
 clear hS h
 go_enter Tryz.func180,Tryz.ntmps180
 go_wp2
 go_ret
 refine ⟨?_,rfl⟩
 cases xs with
 | nil=>simp
 | cons y r=>simp;omega
def Went (B:Nat) (w:World) (bd:Nat) (v:Value) (w':World) (xs':List Int):Prop:=∃ v',Dk.DQ B w' bd v' xs'∧Dk.Away (Dk.At bd v) w w'∧Dk.From w v v'
theorem Push_yes (B bd:Nat) (v:Value) (xs:List Int) (x:Int) (w:World) (h:Dk.DQ B w bd v xs) (hx:xs.contains x=false) (hi:Dk.i64 x) (hl:xs.length≤1000) :
  Calls Tryz.prog 178 #[.pointer (some ⟨bd,0,none⟩),.int .i64 x] w fun e w'=>e=.returned (.bool true)∧Went B w bd v w' (xs++[x]):=by
 have K:=zf9 B bd v xs x w h
 rw [hx] at K
 have hB:B≤w.heap.size:=Nat.le_trans h.base (Nat.le_of_lt h.head.lt)
 obtain ⟨A,C,e,_,_⟩:=Dk.zf h.row
 obtain ⟨W,eW⟩:∃ W,W=w.alloc (.cells #[.int .i64 x] 3):=⟨_,rfl⟩
 have uW:Below w.heap.size w W:=by rw [eW];exact Dk.zb (Below.refl _ _) _
 have hW:=h.up uW
 have hsz:w.heap.size≤W.heap.size:=uW.size
 have ap:∀ ty,∃ v' w',(Builtin.append_ #[23,23] ty #[v,.slice (some ⟨w.heap.size,0,none⟩) 1 1]).run Tryz.prog W=.ok v' w'∧w'.ownsRow B 3 1 v' (xs.length+1) (Dk.is xs++[.int .i64 x])∧W.grownBy w' v.ownBlock∧Dk.From W v v'∧(v'=.slice none 0 0 ↔ v=.slice none 0 0∧1=0):=fun ty=>
  zcu B ty v (Dk.is xs) xs.length W hW.row ⟨w.heap.size,0,none⟩ 1 1 [.int .i64 x] rfl (one_new w W _ 3 eW) (fun u hu=>by simp at hu;subst hu;rfl) (by omega) (by omega)
 subst e
 have c0:w.cell? ⟨bd,0,none⟩=some (.slice A xs.length C):=h.head.cell 0
 obtain ⟨v',w',hr,ho,hg,hf,_⟩:=ap 23
 have ho':w'.ownsRow B 3 1 v' (xs++[x]).length (Dk.is (xs++[x])):=by rw [List.length_append,Dk.is,List.map_append];exact ho
 obtain ⟨hD,hA⟩:=hW.put ho' hg hf (fun y hy=>by
  rcases List.mem_append.1 hy with hy | hy
  ·exact h.wf y hy
  ·rw [List.mem_singleton] at hy;rw [hy];exact hi)
 have hwent:Went B w bd (.slice A xs.length C) (w'.setCell ⟨bd,0,none⟩ v') (xs++[x]):=⟨v',hD,(Dk.Away.of_up uW).trans hA (fun k hk=>.inl hk),hf.mono hsz⟩
 obtain ⟨A',C',rfl,_,_⟩:=Dk.zf ho
 have hb':w'.cell? ⟨bd,0,none⟩=some (.slice A xs.length C):=by
  have hb:Dk.Box w' bd #[.slice A xs.length C] 206:=⟨by rw [hg.block bd hW.head.lt (fun e=>hW.ne e.symm)];exact hW.head.heap⟩
  exact hb.cell 0
 have hf':w'.frozen? ⟨bd,0,none⟩=false:=by
  have hb:Dk.Box w' bd #[.slice A xs.length C] 206:=⟨by rw [hg.block bd hW.head.lt (fun e=>hW.ne e.symm)];exact hW.head.heap⟩
  exact hb.frozen 0
 have HW:Hid _:=hwent
 rw [eW] at hr
 clear hwent hD hA ho' ho hg hf hx h hW ap uW hsz
 go_enter Tryz.func178,Tryz.ntmps178
 go_wp2_with (first | (go_at_call 206;refine K.mono ?_;rintro e w' ⟨rfl,hw'⟩;subst w') | (at_builtin;refine Lib.wpList_append_run _ rfl _ _ _ _ rfl _ _ rfl rfl _ _ hr ?_))
 go_ret
 exact ⟨rfl,HW.out⟩
theorem zfd (B bd:Nat) (v:Value) (xs:List Int) (k:Nat) (w:World) (h:Dk.DQ B w bd v xs) (hk:k < xs.length) (hl:xs.length≤1000) :
  Calls Tryz.prog 181 #[.pointer (some ⟨bd,0,none⟩),.int .i64 (k:Int)] w fun e w'=>e=.returned (.int .i64 (xs.getD k 0))∧Went B w bd v w' (xs.eraseIdx k):=by
 have K2:=zhc B v xs k w h.row hk
 have fin:∀ v' w',w'.ownsRow B 3 1 v' (xs.eraseIdx k).length (Dk.is (xs.eraseIdx k))→w.grownBy w' v.ownBlock→Dk.From w v v'→Went B w bd v (w'.setCell ⟨bd,0,none⟩ v') (xs.eraseIdx k)∧(∃ A L C,v'=.slice A L C)∧w'.cell? ⟨bd,0,none⟩=some v∧w'.frozen? ⟨bd,0,none⟩=false:=by
  intro v' w' ho hg hf
  obtain ⟨hD,hA⟩:=h.put ho hg hf (fun y hy=>h.wf y (List.mem_of_mem_eraseIdx hy))
  have hb:Dk.Box w' bd #[v] 206:=⟨by rw [hg.block bd h.head.lt (fun e=>h.ne e.symm)];exact h.head.heap⟩
  obtain ⟨A',C',e',_,_⟩:=Dk.zf ho
  exact ⟨⟨v',hD,hA,hf⟩,⟨A',_,C',e'⟩,hb.cell 0,hb.frozen 0⟩
 obtain ⟨A,C,rfl,hS⟩:=Dk.za2 h.row h.wf
 have hcap:=hS.cap
 have hmax:=hS.max
 unfold maxLen at hmax
 have c0:w.cell? ⟨bd,0,none⟩=some (.slice A xs.length C):=h.head.cell 0
 obtain ⟨b,o,rfl,hb,hc⟩:=hS.cells (by omega)
 have c1:=hc k hk
 have HF:Hid _:=fin
 generalize xs.getD k 0=y at c1
 clear fin h hS hc
 go_enter Tryz.func181,Tryz.ntmps181
 go_wp2_with fail
 refine K2.mono ?_
 rintro e w' ⟨v',rfl,ho,hg,hf⟩
 obtain ⟨hwent,⟨A',L',C',rfl⟩,cb,fb⟩:=HF.out v' w' ho hg hf
 have HW:Hid _:=hwent
 clear hwent ho hg hf HF c0 c1 K2
 go_wp2_with fail
 go_ret
 exact ⟨rfl,HW.out⟩
theorem Pop_no (B bd:Nat) (v:Value) (w:World) (h:Dk.DQ B w bd v []) :
  Calls Tryz.prog 149 #[.pointer (some ⟨bd,0,none⟩)] w fun e w'=>e=.returned (.tuple #[.int .i64 0,.bool false])∧w'=w:=by
 have K:=za8 B bd v [] w h
 rw [List.isEmpty_nil] at K
 clear h
 go_enter Tryz.func149,Tryz.ntmps149
 go_wp2_with (go_at_call 180;refine K.mono ?_;rintro e w' ⟨rfl,hw'⟩;subst w')
 go_ret2
 exact ⟨rfl,rfl⟩
theorem Pop_yes (B bd:Nat) (v:Value) (x:Int) (xs:List Int) (w:World) (h:Dk.DQ B w bd v (x::xs)) (hl:xs.length≤900) :
  Calls Tryz.prog 149 #[.pointer (some ⟨bd,0,none⟩)] w fun e w'=>e=.returned (.tuple #[.int .i64 x,.bool true])∧Went B w bd v w' xs:=by
 have K:=za8 B bd v _ w h
 rw [List.isEmpty_cons] at K
 have K2:=zfd B bd v (x::xs) 0 w h (by simp) (by simp;omega)
 rw [List.eraseIdx_cons_zero,List.getD_cons_zero] at K2
 clear h
 go_enter Tryz.func149,Tryz.ntmps149
 go_wp2_with (first | (go_at_call 180;refine K.mono ?_;rintro e w' ⟨rfl,hw'⟩;subst w'))
 refine K2.mono ?_
 rintro e w' ⟨rfl,hW⟩
 have HW:Hid _:=hW
 clear hW
 go_wp2_with fail
 go_ret2
 exact ⟨rfl,HW.out⟩
theorem zdi (B bd:Nat) (v:Value) (w:World) (h:Dk.DQ B w bd v []) :
  Calls Tryz.prog 150 #[.pointer (some ⟨bd,0,none⟩)] w fun e w'=>e=.returned (.tuple #[.int .i64 0,.bool false])∧w'=w:=by
 have K:=za8 B bd v [] w h
 rw [List.isEmpty_nil] at K
 clear h
 go_enter Tryz.func150,Tryz.ntmps150
 go_wp2_with (go_at_call 180;refine K.mono ?_;rintro e w' ⟨rfl,hw'⟩;subst w')
 go_ret2
 exact ⟨rfl,rfl⟩
theorem zfp (B bd:Nat) (v:Value) (x:Int) (xs:List Int) (w:World) (h:Dk.DQ B w bd v (xs++[x])) (hl:xs.length≤900) :
  Calls Tryz.prog 150 #[.pointer (some ⟨bd,0,none⟩)] w fun e w'=>e=.returned (.tuple #[.int .i64 x,.bool true])∧Went B w bd v w' xs:=by
 have K:=za8 B bd v _ w h
 have he:(xs++[x]).isEmpty=false:=by simp
 rw [he] at K
 have hll:(xs++[x]).length=xs.length+1:=by simp
 have K2:=zfd B bd v (xs++[x]) xs.length w h (by omega) (by omega)
 have e1:(xs++[x]).eraseIdx xs.length=xs:=by rw [List.eraseIdx_append_of_length_le (by omega)];simp
 have e2:(xs++[x]).getD xs.length 0=x:=by simp [List.getD]
 rw [e1,e2] at K2
 obtain ⟨A,C,rfl,hC,hM⟩:=Dk.zf h.row
 unfold maxLen at hM
 have c0:w.cell? ⟨bd,0,none⟩=some (.slice A (xs.length+1) C):=by rw [← hll];exact h.head.cell 0
 clear h e1 e2 he
 go_enter Tryz.func150,Tryz.ntmps150
 go_wp2_with (first | (go_at_call 180;refine K.mono ?_;rintro e w' ⟨rfl,hw'⟩;subst w'))
 refine K2.mono ?_
 rintro e w' ⟨rfl,hW⟩
 have HW:Hid _:=hW
 clear hW
 go_wp2_with fail
 go_ret2
 exact ⟨rfl,HW.out⟩
theorem zfs (ty:TypeId) (C:Nat) (w:World):(Builtin.append_ #[23,23] ty #[.slice none 0 0,.slice none 0 C]).run Tryz.prog w=.ok (.slice none 0 0) w:=by
 obtain ⟨i0,hi0,hz0,hz1,hz2⟩:=info_parts info3
 simp [Builtin.append_,run_underlying Tryz.underlying23,Go.sizeOf,typeInfo,hi0,Builtin.lenOf,Builtin.firstCells,loadCells,loadCellsFrom]
theorem zfn (B bd:Nat) (v:Value) (xs:List Int) (w:World) (h:Dk.DQ B w bd v xs) (hl:xs.length≤1000) :
  Calls Tryz.prog 69 #[.pointer (some ⟨bd,0,none⟩)] w fun e w'=>∃ v',e=.returned v'∧w'.ownsRow w.heap.size 3 1 v' xs.length (Dk.is xs)∧Below w.heap.size w w':=by
 have key:∃ v' w',(Builtin.append_ #[23,23] 23 #[.slice none 0 0,v]).run Tryz.prog w=.ok v' w'∧w'.ownsRow w.heap.size 3 1 v' xs.length (Dk.is xs)∧Below w.heap.size w w':=by
  obtain ⟨_,⟨rfl,h0⟩ | ⟨g,cap,cur,rfl,hb,hg,hn,hm,hs,ht⟩⟩:=id h.row
  ·obtain rfl:xs=[]:=List.eq_nil_of_length_eq_zero h0
   exact ⟨_,w,zfs 23 0 w,World.ownsRow_nil _ _ _ _,Below.refl _ _⟩
  ·obtain ⟨v',w',hr,ho,hg,_,_⟩:=zcu w.heap.size 23 (.slice none 0 0) [] 0 w (World.ownsRow_nil _ _ _ _) ⟨g,0,none⟩ xs.length cap (Dk.is xs) (by simp) (h.row.cells (g:=g) rfl) (fun u hu=>by obtain ⟨y,_,rfl⟩:=List.mem_map.1 hu;rfl) (by omega) (Nat.le_refl _)
   rw [Nat.zero_add,List.nil_append] at ho
   exact ⟨v',w',hr,ho,⟨hg.os,hg.tape,hg.output,hg.size,fun k hk=>hg.block k hk (by simp [Value.ownBlock])⟩⟩
 obtain ⟨v',w',hr,ho,hu⟩:=key
 obtain ⟨A,C,rfl,_,_⟩:=Dk.zf h.row
 obtain ⟨A',C',rfl,_,_⟩:=Dk.zf ho
 have c0:w.cell? ⟨bd,0,none⟩=some (.slice A xs.length C):=h.head.cell 0
 have HO:Hid _:=ho
 have HU:Hid _:=hu
 clear ho hu h
 go_enter Tryz.func69,Tryz.ntmps69
 go_wp2_with (at_builtin;refine Lib.wpList_append_run _ rfl _ _ _ _ rfl _ _ rfl rfl _ _ hr ?_)
 go_ret
 exact ⟨_,rfl,HO.out,HU.out⟩
end Go.Proofs.YtpnajphbjfehnaaGreat
namespace Dk
open Go Go.RowKit
def dqT (bd:Nat) (v:Value) (xs:List Int):Thing:={
 own:=At bd v
 holds:=fun w=>DQ 0 w bd v xs
 local_:=fun w w' h hk=>⟨h.base,⟨(hk bd (.inl rfl)).trans h.head.heap⟩,zbz h.row (fun k hkk=>hk k (.inr hkk)),h.ne,h.wf⟩
 lt:=fun w h k hk=>hk.elim (fun e=>e ▸ h.head.lt) (fun e=>(World.ownsRow.lt h.row k e).2) }
def ptrs (ds:List (Nat × Value × List Int)):List Value:=ds.map fun d=>.pointer (some ⟨d.1,0,none⟩)
def dqs (ds:List (Nat × Value × List Int)):List Thing:=ds.map fun d=>dqT d.1 d.2.1 d.2.2
def R0 (b:Nat) (rs:List (List Int)) (ts:List Thing):Prop:=∃ V ds,rs=ds.map (fun d=>d.2.2)∧ts=boxOf b #[V] 149::rowOf 146 1 V ds.length (ptrs ds)::dqs ds
def Turned (w:World) (bd:Nat) (v:Value) (w':World) (xs':List Int):Prop:=∃ v',DQ 0 w' bd v' xs'∧Away (At bd v) w w'∧From w v v'
theorem zi7 {w:World} {a:Addr} {v:Value} (h:w.cell? a=some v):a.block < w.heap.size:=by
 refine Nat.lt_of_not_le fun hc=>?_
 unfold World.cell? at h
 rw [Array.getElem?_eq_none hc] at h
 cases h
theorem split_at {α:Type} (l:List α) (k:Nat) (hk:k < l.length):∃ l1 x l2,l=l1++x::l2∧l1.length=k:=
 ⟨l.take k,l[k],l.drop (k+1),by rw [List.getElem_cons_drop,List.take_append_drop],by rw [List.length_take];omega⟩
theorem R0.head {W w:World} {b:Nat} {rs:List (List Int)} {us ts:List Thing} (h:R0 b rs ts) (s:Sep W w (us++ts)):∃ A C,Box w b #[.slice A rs.length C] 149∧rs.length≤C∧C≤maxLen∧
  ∀ k,k < rs.length→∃ g bd v,A=some ⟨g,0,none⟩∧w.cell? ⟨g,k,none⟩=some (.pointer (some ⟨bd,0,none⟩))∧DQ 0 w bd v (rs.getD k [])∧
   ∀ w' xs',Turned w bd v w' xs'→∃ ts',R0 b (rs.set k xs') ts'∧Sep W w' (us++ts'):=by
 obtain ⟨V,ds,rfl,rfl⟩:=h
 have hb:=s.box (b:=b) (cs:=#[V]) (t:=149) (by simp)
 have hr:=s.row (e:=146) (s:=1) (v:=V) (n:=ds.length) (xs:=ptrs ds) (by simp)
 obtain ⟨A,C,rfl,h1,h2⟩:=zf hr
 simp only [List.length_map]
 refine ⟨A,C,hb,h1,h2,fun k hk=>?_⟩
 obtain ⟨g,C',x,ev,_,_,hx,hc,_,_⟩:=za3 hr hk
 injection ev with e1 _ e2
 subst e1
 subst e2
 obtain ⟨d1,⟨bd,v,xs⟩,d2,rfl,rfl⟩:=split_at ds k hk
 have e1:(ptrs (d1++(bd,v,xs)::d2))[d1.length]? = some (.pointer (some ⟨bd,0,none⟩)):=by simp [ptrs]
 rw [e1] at hx
 cases hx
 have e2:((d1++(bd,v,xs)::d2).map (fun d=>d.2.2)).getD d1.length []=xs:=by simp [List.getD]
 have e3:∀ v' xs',((d1++(bd,v,xs)::d2).map (fun d=>d.2.2)).set d1.length xs'=(d1++(bd,(v':Value),xs')::d2).map (fun d=>d.2.2):=fun v' xs'=>by
  rw [List.map_append,List.set_append_right _ _ (by simp)]
  simp
 have e4:∀ v' xs',ptrs (d1++(bd,v',xs')::d2)=ptrs (d1++(bd,v,xs)::d2):=fun v' xs'=>by simp [ptrs]
 have e5:∀ v' xs',us++(boxOf b #[.slice (some ⟨g,0,none⟩) (d1++(bd,v,xs)::d2).length C] 149::rowOf 146 1 (.slice (some ⟨g,0,none⟩) (d1++(bd,v,xs)::d2).length C) (d1++(bd,v,xs)::d2).length (ptrs (d1++(bd,v,xs)::d2))::dqs (d1++(bd,v',xs')::d2)) =
   (us++(boxOf b #[.slice (some ⟨g,0,none⟩) (d1++(bd,v,xs)::d2).length C] 149::rowOf 146 1 (.slice (some ⟨g,0,none⟩) (d1++(bd,v,xs)::d2).length C) (d1++(bd,v,xs)::d2).length (ptrs (d1++(bd,v,xs)::d2))::dqs d1))++dqT bd v' xs'::dqs d2:=fun v' xs'=>by simp [dqs]
 rw [e5] at s
 refine ⟨g,bd,v,rfl,hc,by rw [e2];exact s.get (t:=dqT bd v xs) (by simp),fun w' xs' hT=>?_⟩
 obtain ⟨v',hD,ha,hf⟩:=hT
 have s':=Sep.turn (t:=dqT bd v xs) (t':=dqT bd v' xs') s ha hD (fun j hj=>by
  rcases hj with rfl | hj
  ·exact .inl (.inl rfl)
  ·exact (hf j hj).imp .inr id)
 refine ⟨_,⟨.slice (some ⟨g,0,none⟩) (d1++(bd,v,xs)::d2).length C,d1++(bd,v',xs')::d2,e3 v' xs',rfl⟩,?_⟩
 rw [e4 v' xs',show (d1++(bd,v',xs')::d2).length=(d1++(bd,v,xs)::d2).length by simp,e5]
 exact s'
theorem R0.same {W w w':World} {b:Nat} {rs:List (List Int)} {us ts:List Thing} (h:R0 b rs ts) (s:Sep W w (us++ts)) (u:Below w.heap.size w w'):∃ ts',R0 b rs ts'∧Sep W w' (us++ts'):=⟨ts,h,s.below u⟩
theorem Few.rowz {N:Nat} {rs:List (List Int)} (h:Few N rs) (k:Nat) (hk:k < rs.length):(rs.getD k []).length≤N:=by
 have h1:=zcy rs k hk
 have h2:=h.len
 rw [h1,List.length_append,List.length_append] at h2
 omega
theorem zkx {rs:List (List Int)} {t:Int} {k:Nat} (hk:k < rs.length) (hc:(rs.getD k []).contains t=true) (hn:∀ j,j < k→(rs.getD j []).contains t=false):whereK rs t=k:=by
 unfold whereK
 rw [List.findIdx_eq hk]
 have e:∀ j (hj:j < rs.length),rs.getD j []=rs[j]:=fun j hj=>by simp [List.getD,hj]
 rw [e k hk] at hc
 exact ⟨hc,fun j hj=>by rw [← e j (by omega)];exact hn j hj⟩
theorem zib {rs:List (List Int)} {t:Int} (hn:∀ j,j < rs.length→(rs.getD j []).contains t=false):whereK rs t=rs.length:=by
 unfold whereK
 rw [List.findIdx_eq_length]
 intro r hr
 obtain ⟨j,hj,rfl⟩:=List.getElem_of_mem hr
 have:=hn j hj
 simpa [List.getD,hj] using this
theorem empty_at {rs:List (List Int)} {k:Nat} (hk:k < rs.length) (hc:(rs.getD k []).isEmpty=false):emptyR rs=false:=by
 have e:rs.getD k []=rs[k]:=by simp [List.getD,hk]
 rw [e] at hc
 unfold emptyR
 cases h:rs.all fun r=>r.isEmpty
 ·rfl
 ·rw [List.all_eq_true] at h
  rw [h _ (List.getElem_mem hk)] at hc
  cases hc
theorem zho {rs:List (List Int)} (hn:∀ j,j < rs.length→(rs.getD j []).isEmpty=true):emptyR rs=true:=by
 unfold emptyR
 rw [List.all_eq_true]
 intro r hr
 obtain ⟨j,hj,rfl⟩:=List.getElem_of_mem hr
 have:=hn j hj
 simpa [List.getD,hj] using this
theorem first_at {rs:List (List Int)} {k:Nat} (hk:k < rs.length) (hc:(rs.getD k []).isEmpty=false) (hn:∀ j,j < k→(rs.getD j []).isEmpty=true):firstR rs=k:=by
 unfold firstR
 rw [List.findIdx_eq hk]
 have e:∀ j (hj:j < rs.length),rs.getD j []=rs[j]:=fun j hj=>by simp [List.getD,hj]
 rw [e k hk] at hc
 exact ⟨by simpa using hc,fun j hj=>by have:=hn j hj;rw [e j (by omega)] at this;simpa using this⟩
theorem zhp {rs:List (List Int)} (hn:∀ j,j < rs.length→(rs.getD j []).isEmpty=true):firstR rs=rs.length:=by
 unfold firstR
 rw [List.findIdx_eq_length]
 intro r hr
 obtain ⟨j,hj,rfl⟩:=List.getElem_of_mem hr
 have:=hn j hj
 simpa [List.getD,hj] using this
theorem zbs {rs:List (List Int)} {t:Int}:rs.flatten.contains t=decide (whereK rs t < rs.length):=by
 unfold whereK
 cases h:rs.flatten.contains t
 ·symm
  refine decide_eq_false fun hc=>?_
  rw [List.findIdx_lt_length] at hc
  obtain ⟨r,hr,hc⟩:=hc
  have:t ∈ rs.flatten:=List.mem_flatten.2 ⟨r,hr,List.contains_iff_mem.1 hc⟩
  rw [List.contains_iff_mem.2 this] at h
  cases h
 ·symm
  refine decide_eq_true ?_
  obtain ⟨r,hr,hc⟩:=List.mem_flatten.1 (List.contains_iff_mem.1 h)
  rw [List.findIdx_lt_length]
  exact ⟨r,hr,List.contains_iff_mem.2 hc⟩
end Dk
namespace Go.Proofs.YtpnajphbjfehnaaGreat
open Go.RowKit
theorem count_nil (w:World):Calls Tryz.prog 109 #[.pointer none] w fun e w'=>e=.returned (.int .i64 0)∧w'=w:=by
 go_enter Tryz.func109,Tryz.ntmps109
 go_wp2
 go_ret
 exact ⟨rfl,rfl⟩
theorem zcw {b n C:Nat} {A:Option Addr} {w:World} (h:Dk.Box w b #[.slice A n C] 149) (hn:n≤64):Calls Tryz.prog 109 #[.pointer (some ⟨b,0,none⟩)] w fun e w'=>e=.returned (.int .i64 (n:Int))∧w'=w:=by
 have c0:w.cell? ⟨b,0,none⟩=some (.slice A n C):=h.cell 0
 clear h
 go_enter Tryz.func109,Tryz.ntmps109
 go_wp2
 go_ret
 exact ⟨rfl,rfl⟩
theorem zc1 (p:Int) (w:World):Calls Tryz.prog 68 #[.pointer none,.int .i64 p] w fun e w'=>e=.returned (.bool false)∧w'=w:=by
 by_cases h0:0≤p
 ·have h1:decide ((0:Int)≤p)=true:=decide_eq_true h0
  have h2:decide (p < 0)=false:=decide_eq_false (by omega)
  go_enter Tryz.func68,Tryz.ntmps68
  go_wp2_with (go_at_call 109;refine (count_nil w).mono ?_;rintro e w' ⟨rfl,hw'⟩;subst w')
  go_ret
  exact ⟨rfl,rfl⟩
 ·have h1:decide ((0:Int)≤p)=false:=decide_eq_false h0
  go_enter Tryz.func68,Tryz.ntmps68
  go_wp2_with fail
  go_ret
  exact ⟨rfl,rfl⟩
theorem zc0 {b n C:Nat} {A:Option Addr} {w:World} (h:Dk.Box w b #[.slice A n C] 149) (hn:n≤64) (p:Int):Calls Tryz.prog 68 #[.pointer (some ⟨b,0,none⟩),.int .i64 p] w fun e w'=>e=.returned (.bool (decide (0≤p) && decide (p < (n:Int))))∧w'=w:=by
 have K:=zcw h hn
 clear h
 by_cases h0:0≤p
 ·have h1:decide ((0:Int)≤p)=true:=decide_eq_true h0
  rw [h1,Bool.true_and]
  generalize hr:decide (p < (n:Int))=r
  go_enter Tryz.func68,Tryz.ntmps68
  go_wp2_with (go_at_call 109;refine K.mono ?_;rintro e w' ⟨rfl,hw'⟩;subst w')
  go_ret
  exact ⟨by simp [hr],rfl⟩
 ·have h1:decide ((0:Int)≤p)=false:=decide_eq_false h0
  rw [h1,Bool.false_and]
  go_enter Tryz.func68,Tryz.ntmps68
  go_wp2_with fail
  go_ret
  exact ⟨rfl,rfl⟩
section
variable {W w : World} {b N : Nat} {rs : List (List Int)} {us ts : List Dk.Thing}
theorem Row_any (hR:Dk.R0 b rs ts) (s:Dk.Sep W w (us++ts)) (hF:Dk.Few N rs) (hN:N≤200) (p:Int):Calls Tryz.prog 29 #[.pointer (some ⟨b,0,none⟩),.int .i64 p] w fun e w'=>∃ A C,e=.returned (.slice A (Dk.rowL rs p).length C)∧∃ ts',Dk.R0 b rs ts'∧Dk.Sep W w' (Dk.rowOf 3 1 (.slice A (Dk.rowL rs p).length C) (Dk.rowL rs p).length (Dk.is (Dk.rowL rs p))::(us++ts')):=by
 obtain ⟨A,C,hb,hC,hM,hk⟩:=hR.head s
 unfold maxLen at hM
 have hl:=hF.rows
 have K:=zc0 hb hl p
 by_cases hp:Dk.inRows rs p=true
 ·have hp':=Dk.zw.1 hp
  obtain ⟨k,rfl⟩:∃ k:Nat,p=k:=⟨p.toNat,by omega⟩
  have hkl:k < rs.length:=by omega
  have er:Dk.rowL rs (k:Int)=rs.getD k []:=by unfold Dk.rowL;rw [if_pos hp];rfl
  rw [er]
  have hle:=hF.rowz k hkl
  obtain ⟨g,bd,v,rfl,c1,hD,_⟩:=hk k hkl
  have c0:w.cell? ⟨b,0,none⟩=some (.slice (some ⟨g,0,none⟩) rs.length C):=hb.cell 0
  rw [show (decide ((0:Int)≤(k:Int)) && decide ((k:Int) < (rs.length:Int)))=true by simp;omega] at K
  generalize rs.getD k []=xs at hle hD ⊢
  have KA:=zfn 0 bd v xs w hD (by omega)
  have fin:∀ v' w',w'.ownsRow w.heap.size 3 1 v' xs.length (Dk.is xs)→Below w.heap.size w w'→∃ A C,v'=.slice A xs.length C∧∃ ts',Dk.R0 b rs ts'∧Dk.Sep W w' (Dk.rowOf 3 1 (.slice A xs.length C) xs.length (Dk.is xs)::(us++ts')):=by
   intro v' w' ho u
   obtain ⟨A,C,rfl,_,_⟩:=Dk.zf ho
   exact ⟨A,C,rfl,ts,hR,s.add u (Dk.zx ho (Nat.zero_le _)) (fun j hj=>(ho.lt j hj).1)⟩
  have HF:Hid _:=fin
  have HL:Hid _:=hle
  clear fin hle hD hb hR s hF hp er hk
  go_enter Tryz.func29,Tryz.ntmps29
  go_wp2_with (first | (go_at_call 68;refine K.mono ?_;rintro e w' ⟨rfl,hw'⟩;subst w'))
  refine KA.mono ?_
  rintro e w1 ⟨v',rfl,ho,hu⟩
  obtain ⟨A',C',rfl,h⟩:=HF.out v' w1 ho hu
  have HH:Hid _:=h
  clear h ho hu HF KA K c0 c1
  go_wp2_with fail
  go_ret
  exact ⟨A',C',rfl,HH.out⟩
 ·have er:Dk.rowL rs p=[]:=by unfold Dk.rowL;rw [if_neg hp]
  rw [er]
  rw [show (decide ((0:Int)≤p) && decide (p < (rs.length:Int)))=false from (by unfold Dk.inRows at hp;simpa using hp)] at K
  have fin:∃ ts',Dk.R0 b rs ts'∧Dk.Sep W w (Dk.rowOf 3 1 (.slice none 0 0) 0 (Dk.is [])::(us++ts')):=⟨ts,hR,s.add (Below.refl _ _) (World.ownsRow_nil _ _ _ _) (fun k hk=>by simp [Dk.rowOf,Value.ownBlock] at hk)⟩
  have HF:Hid _:=fin
  clear fin hb hR s hF hp er hk
  go_enter Tryz.func29,Tryz.ntmps29
  go_wp2_with (first | (go_at_call 68;refine K.mono ?_;rintro e w' ⟨rfl,hw'⟩;subst w'))
  go_ret
  exact ⟨none,0,rfl,HF.out⟩
theorem zet (hR:Dk.R0 b rs ts) (s:Dk.Sep W w (us++ts)) (hF:Dk.Few N rs) (hN:N≤200) (t:Int):Calls Tryz.prog 177 #[.pointer (some ⟨b,0,none⟩),.int .i64 t] w fun e w'=>e=.returned (.tuple #[.int .i64 (Dk.whereT rs t),.bool (decide (Dk.whereK rs t < rs.length))])∧Below w.heap.size w w':=by
 obtain ⟨A,C,hb,hC,hM,hk⟩:=hR.head s
 unfold maxLen at hM
 have hl:=hF.rows
 have K:=zcw hb hl
 have look:∀ w',Below w.heap.size w w'→∀ k,k < rs.length→∃ g bd v,A=some ⟨g,0,none⟩∧w'.cell? ⟨b,0,none⟩=some (.slice A rs.length C)∧w'.cell? ⟨g,k,none⟩=some (.pointer (some ⟨bd,0,none⟩))∧Dk.DQ 0 w' bd v (rs.getD k [])∧(rs.getD k []).length≤200:=by
  intro w' u k hkl
  obtain ⟨g,bd,v,e,c1,hD,_⟩:=hk k hkl
  exact ⟨g,bd,v,e,(hb.up u).cell 0,by rw [u.cell (Dk.zi7 c1)];exact c1,hD.up u,Nat.le_trans (hF.rowz k hkl) hN⟩
 have HK:Hid _:=look
 generalize hn:rs.length=n at *
 clear look hk hb hR s hF
 go_enter Tryz.func177,Tryz.ntmps177
 go_wp2_with (first | (go_at_call 109;refine K.mono ?_;rintro e w' ⟨rfl,hw'⟩;subst w'))
 go_loopw [9] (fun i w'=>∃ k:Nat,k≤n∧i=.int .i64 k∧Hid (Below w.heap.size w w')∧Hid (∀ j,j < k→(rs.getD j []).contains t=false)) (fun i w'=>n - (RowKit.intOf i).toNat)
 case atStart=>exact ⟨0,Nat.zero_le _,rfl,Below.refl _ _,fun j hj=>absurd hj (Nat.not_lt_zero _)⟩
 case round=>
  obtain ⟨k,hkn,rfl,HB,HN⟩:=hrel
  by_cases hlt:k < n
  ·obtain ⟨g,bd,v,rfl,c0,c1,hD,hle⟩:=HK.out _ HB.out k hlt
   have HW:Hid _:=fun h=>Dk.zkx (rs:=rs) (t:=t) (k:=k) (by omega) h HN.out
   have HM:Hid ((rs.getD k []).contains t=false→∀ j,j < k+1→(rs.getD j []).contains t=false):=fun hc j hj=>by
    rcases Nat.lt_or_ge j k with h | h
    ·exact HN.out j h
    ·obtain rfl:j=k:=by omega
     exact hc
   clear HN
   generalize rs.getD k []=xs at hD hle HW HM
   have KA:=zfn 0 bd v xs wr hD (by omega)
   have fin:∀ v' w',w'.ownsRow wr.heap.size 3 1 v' xs.length (Dk.is xs)→Below wr.heap.size wr w'→∃ A' C',v'=.slice A' xs.length C'∧Dk.SlI w'.heap.size w' A' xs.length C' xs∧Below w.heap.size w w':=by
    intro v' w' ho u
    obtain ⟨A',C',e,h⟩:=Dk.za2 ho hD.wf
    exact ⟨A',C',e,h,Dk.zg HB.out u⟩
   have HF:Hid _:=fin
   clear fin hD
   go_wp2_with fail
   refine KA.mono ?_
   rintro e w1 ⟨v',rfl,ho,hu⟩
   obtain ⟨A',C',rfl,hS,u1⟩:=HF.out v' w1 ho hu
   have KC:=zce A' xs.length C' xs t w1 hS
   clear HF KA c0 c1 ho hu hS
   by_cases hc:xs.contains t=true
   ·rw [hc] at KC
    have e1:Hid (Dk.whereK rs t=k):=HW.out hc
    have HU:Hid _:=u1
    clear hc u1 HW HM
    go_wp2_with fail
    refine KC.mono ?_
    rintro e w2 ⟨rfl,hw2⟩
    subst w2
    go_wp2_with fail
    go_ret2
    refine ⟨?_,HU.out⟩
    unfold Dk.whereT
    rw [e1.out,hn,if_pos hlt]
    simp [hlt]
   ·rw [show xs.contains t=false by simpa using hc] at KC
    have e1:Hid _:=HM.out (by simpa using hc)
    have HU:Hid _:=u1
    clear hc u1 HW HM
    go_wp2_with fail
    refine KC.mono ?_
    rintro e w2 ⟨rfl,hw2⟩
    subst w2
    go_wp2_with fail
    go_roundw
    case rel=>exact ⟨k+1,by omega,by go_num,HU.out,e1.out⟩
    case measure=>simp [RowKit.intOf];omega
  ·have HW:Hid (Dk.whereK rs t=n):=(Dk.zib (fun j hj=>HN.out j (by omega))).trans hn
   go_wp2
   go_ret2
   have:=HW.out
   refine ⟨?_,HB.out⟩
   unfold Dk.whereT
   simp [HW.out,hn]
theorem ziv (t:Int) (w:World):Calls Tryz.prog 177 #[.pointer none,.int .i64 t] w fun e w'=>e=.returned (.tuple #[.int .i64 0,.bool false])∧w'=w:=by
 go_enter Tryz.func177,Tryz.ntmps177
 go_wp2_with (first | (go_at_call 109;refine (count_nil w).mono ?_;rintro e w' ⟨rfl,hw'⟩;subst w'))
 go_loopw [9] (fun i w'=>i=.int .i64 0∧w'=w) (fun i w'=>0)
 case atStart=>exact ⟨rfl,rfl⟩
 case round=>
  obtain ⟨rfl,hw⟩:=hrel
  subst wr
  go_wp2
  go_ret2
  exact ⟨rfl,rfl⟩
theorem zig (w:World):Calls Tryz.prog 125 #[.pointer none] w fun e w'=>e=.returned (.bool true)∧w'=w:=by
 go_enter Tryz.func125,Tryz.ntmps125
 go_wp2_with (first | (go_at_call 109;refine (count_nil w).mono ?_;rintro e w' ⟨rfl,hw'⟩;subst w'))
 go_loopw [6] (fun i w'=>i=.int .i64 0∧w'=w) (fun i w'=>0)
 case atStart=>exact ⟨rfl,rfl⟩
 case round=>
  obtain ⟨rfl,hw⟩:=hrel
  subst wr
  go_wp2
  go_ret
  exact ⟨rfl,rfl⟩
theorem Row_nil (p:Int) (w:World):Calls Tryz.prog 29 #[.pointer none,.int .i64 p] w fun e w'=>e=.returned (.slice none 0 0)∧w'=w:=by
 go_enter Tryz.func29,Tryz.ntmps29
 go_wp2_with (first | (go_at_call 68;refine (zc1 p w).mono ?_;rintro e w' ⟨rfl,hw'⟩;subst w'))
 go_ret
 exact ⟨rfl,rfl⟩
theorem Add_nil (p t:Int) (w:World):Calls Tryz.prog 143 #[.pointer none,.int .i64 p,.int .i64 t] w fun e w'=>e=.returned (.bool false)∧w'=w:=by
 go_enter Tryz.func143,Tryz.ntmps143
 go_wp2_with (first | (go_at_call 68;refine (zc1 p w).mono ?_;rintro e w' ⟨rfl,hw'⟩;subst w'))
 go_ret
 exact ⟨rfl,rfl⟩
theorem Pick_nil (p:Int) (w:World):Calls Tryz.prog 124 #[.pointer none,.int .i64 p] w fun e w'=>e=.returned (.tuple #[.int .i64 0,.bool false])∧w'=w:=by
 go_enter Tryz.func124,Tryz.ntmps124
 go_wp2_with (first | (go_at_call 68;refine (zc1 p w).mono ?_;rintro e w' ⟨rfl,hw'⟩;subst w'))
 go_ret2
 exact ⟨rfl,rfl⟩
theorem zif (hR:Dk.R0 b rs ts) (s:Dk.Sep W w (us++ts)) (hF:Dk.Few N rs) (hN:N≤200):Calls Tryz.prog 125 #[.pointer (some ⟨b,0,none⟩)] w fun e w'=>e=.returned (.bool (Dk.emptyR rs))∧Below w.heap.size w w':=by
 obtain ⟨A,C,hb,hC,hM,hk⟩:=hR.head s
 unfold maxLen at hM
 have hl:=hF.rows
 have K:=zcw hb hl
 have look:∀ w',Below w.heap.size w w'→∀ k,k < rs.length→∃ g bd v,A=some ⟨g,0,none⟩∧w'.cell? ⟨b,0,none⟩=some (.slice A rs.length C)∧w'.cell? ⟨g,k,none⟩=some (.pointer (some ⟨bd,0,none⟩))∧Dk.DQ 0 w' bd v (rs.getD k [])∧(rs.getD k []).length≤200:=by
  intro w' u k hkl
  obtain ⟨g,bd,v,e,c1,hD,_⟩:=hk k hkl
  exact ⟨g,bd,v,e,(hb.up u).cell 0,by rw [u.cell (Dk.zi7 c1)];exact c1,hD.up u,Nat.le_trans (hF.rowz k hkl) hN⟩
 have HK:Hid _:=look
 generalize hn:rs.length=n at *
 clear look hk hb hR s hF
 go_enter Tryz.func125,Tryz.ntmps125
 go_wp2_with (first | (go_at_call 109;refine K.mono ?_;rintro e w' ⟨rfl,hw'⟩;subst w'))
 go_loopw [6] (fun i w'=>∃ k:Nat,k≤n∧i=.int .i64 k∧Hid (Below w.heap.size w w')∧Hid (∀ j,j < k→(rs.getD j []).isEmpty=true)) (fun i w'=>n - (RowKit.intOf i).toNat)
 case atStart=>exact ⟨0,Nat.zero_le _,rfl,Below.refl _ _,fun j hj=>absurd hj (Nat.not_lt_zero _)⟩
 case round=>
  obtain ⟨k,hkn,rfl,HB,HN⟩:=hrel
  by_cases hlt:k < n
  ·obtain ⟨g,bd,v,rfl,c0,c1,hD,hle⟩:=HK.out _ HB.out k hlt
   have HW:Hid _:=fun h=>Dk.empty_at (rs:=rs) (k:=k) (by omega) h
   have HM:Hid ((rs.getD k []).isEmpty=true→∀ j,j < k+1→(rs.getD j []).isEmpty=true):=fun hc j hj=>by
    rcases Nat.lt_or_ge j k with h | h
    ·exact HN.out j h
    ·obtain rfl:j=k:=by omega
     exact hc
   clear HN
   generalize rs.getD k []=xs at hD hle HW HM
   have KA:=zfn 0 bd v xs wr hD (by omega)
   have fin:∀ v' w',w'.ownsRow wr.heap.size 3 1 v' xs.length (Dk.is xs)→Below wr.heap.size wr w'→∃ A' C',v'=.slice A' xs.length C'∧Below w.heap.size w w':=by
    intro v' w' ho u
    obtain ⟨A',C',e,h⟩:=Dk.za2 ho hD.wf
    exact ⟨A',C',e,Dk.zg HB.out u⟩
   have HF:Hid _:=fin
   clear fin hD
   go_wp2_with fail
   refine KA.mono ?_
   rintro e w1 ⟨v',rfl,ho,hu⟩
   obtain ⟨A',C',rfl,u1⟩:=HF.out v' w1 ho hu
   have HU:Hid _:=u1
   clear HF KA c0 c1 ho hu u1
   cases xs with
   | nil=>
    have e1:Hid _:=HM.out rfl
    clear HW HM
    go_wp2_with fail
    go_roundw
    case rel=>exact ⟨k+1,by omega,by go_num,HU.out,e1.out⟩
    case measure=>simp [RowKit.intOf];omega
   | cons y r=>
    have e1:Hid _:=HW.out rfl
    clear HW HM
    rw [List.length_cons] at hle
    rw [List.length_cons]
    generalize r.length=m at hle
    go_wp2_with fail
    go_ret
    exact ⟨by rw [e1.out];rfl,HU.out⟩
  ·have HW:Hid _:=Dk.zho (rs:=rs) (fun j hj=>HN.out j (by omega))
   go_wp2
   go_ret
   exact ⟨by rw [HW.out];rfl,HB.out⟩
end
end Go.Proofs.YtpnajphbjfehnaaGreat
namespace Dk
open Go Go.RowKit
theorem zhy {P:Go.Program} {S:World→Prop} {Q:Exit→Act→World→Prop} {z:Nat} {L:List Oper} {j:Nat} {js:List Nat} {a:Act} {w:World} {o:Oper} {f:FuncId} {args:Array Value} (ho:L[j]? = some o) (hg:o.guard=none)
  (hr:(execOp a.eval o).run P w=.ok (.enter f args) w) (hc:Calls P f args w fun e w'=>∃ v,e=.returned v∧(j≠z→S w')∧lineZ P L.toArray Q S z js (a.put o.dst v) w'):lineZ P L.toArray Q S z (j::js) a w:=by
 have hw:Region.wanted o (yielded L.toArray a.tmps)=true:=by simp [Region.wanted,hg]
 have ho':L.toArray[j]? = some o:=by simpa using ho
 unfold lineZ wpOp
 simp only [ho',hw,if_true]
 refine .inl ?_
 unfold Oper.wp
 rw [hr]
 simp only [Oper.upon]
 refine Calls.mono hc ?_
 rintro e w' ⟨v,rfl,h⟩
 exact h
def Places (w:World) (A:Option Addr) (L C:Nat) (rs:List (List Int)):Prop:=L≤C∧C≤maxLen∧∀ k,k < L→∃ g o bd v,A=some ⟨g,o,none⟩∧w.cell? ⟨g,o+k,none⟩=some (.pointer (some ⟨bd,0,none⟩))∧DQ 0 w bd v (rs.getD k [])
end Dk
namespace Go.Proofs.YtpnajphbjfehnaaGreat
open Go.RowKit
theorem zdc (fn:Nat) (hfn:∀ (args:Array Value) (w:World),(callFunc fn args).run Tryz.prog w=.ok (.enter fn args) w) (hno:∀ (bd:Nat) (v:Value) (w:World),Dk.DQ 0 w bd v []→Calls Tryz.prog fn #[.pointer (some ⟨bd,0,none⟩)] w fun e w'=>e=.returned (.tuple #[.int .i64 0,.bool false])∧w'=w)
  (A:Option Addr) (L C:Nat) (rs:List (List Int)) (w:World) (h:Dk.Places w A L C rs) (he:∀ k,k < L→rs.getD k []=[]) :
  Calls Tryz.prog 148 #[.slice A L C,.func (.func fn) #[] #[]] w fun e w'=>e=.returned (.tuple #[.int .i64 0,.bool false])∧w'=w:=by
 obtain ⟨hC,hM,hk⟩:=h
 unfold maxLen at hM
 have HK:Hid _:=hk
 have HE:Hid _:=he
 clear hk he
 go_enter Tryz.func148,Tryz.ntmps148
 go_wp2_with fail
 go_loopw [12] (fun i w'=>∃ k:Nat,k≤L∧i=.int .i64 k∧Hid (w'=w)) (fun i w'=>L - (RowKit.intOf i).toNat)
 case atStart=>exact ⟨0,Nat.zero_le _,rfl,rfl⟩
 case round=>
  obtain ⟨k,hkn,rfl,HB⟩:=hrel
  have hw:=HB.out
  subst wr
  by_cases hlt:k < L
  ·obtain ⟨g,o,bd,v,rfl,c1,hD⟩:=HK.out k hlt
   rw [HE.out k hlt] at hD
   have K:=hno bd v w hD
   clear hD
   go_wp2_with fail
   refine K.mono ?_
   rintro e w1 ⟨rfl,hw1⟩
   subst w1
   go_wp2_with fail
   go_roundw
   case rel=>exact ⟨k+1,by omega,by go_num,True.intro⟩
   case measure=>simp [RowKit.intOf];omega
  ·go_wp2
   go_ret2
   exact ⟨rfl,rfl⟩
theorem zcl (fn:Nat) (hfn:∀ (args:Array Value) (w:World),(callFunc fn args).run Tryz.prog w=.ok (.enter fn args) w) (hno:∀ (bd:Nat) (v:Value) (w:World),Dk.DQ 0 w bd v []→Calls Tryz.prog fn #[.pointer (some ⟨bd,0,none⟩)] w fun e w'=>e=.returned (.tuple #[.int .i64 0,.bool false])∧w'=w)
  (A:Option Addr) (L C:Nat) (rs:List (List Int)) (w:World) (h:Dk.Places w A L C rs) (j:Nat) (hj:j < L) (he:∀ k,k < j→rs.getD k []=[]) (x:Int) (R:World→Prop)
  (hyes:∀ (g o bd:Nat) (v:Value),A=some ⟨g,o,none⟩→w.cell? ⟨g,o+j,none⟩=some (.pointer (some ⟨bd,0,none⟩))→Calls Tryz.prog fn #[.pointer (some ⟨bd,0,none⟩)] w fun e w'=>e=.returned (.tuple #[.int .i64 x,.bool true])∧R w') :
  Calls Tryz.prog 148 #[.slice A L C,.func (.func fn) #[] #[]] w fun e w'=>e=.returned (.tuple #[.int .i64 x,.bool true])∧R w':=by
 obtain ⟨hC,hM,hk⟩:=h
 unfold maxLen at hM
 have HK:Hid _:=hk
 have HE:Hid _:=he
 have HY:Hid _:=hyes
 clear hk he hyes
 go_enter Tryz.func148,Tryz.ntmps148
 go_wp2_with fail
 go_loopw [12] (fun i w'=>∃ k:Nat,k≤j∧i=.int .i64 k∧Hid (w'=w)) (fun i w'=>L - (RowKit.intOf i).toNat)
 case atStart=>exact ⟨0,Nat.zero_le _,rfl,rfl⟩
 case round=>
  obtain ⟨k,hkn,rfl,HB⟩:=hrel
  have hw:=HB.out
  subst wr
  have hlt:k < L:=by omega
  obtain ⟨g,o,bd,v,rfl,c1,hD⟩:=HK.out k hlt
  by_cases hkj:k < j
  ·rw [HE.out k hkj] at hD
   have K:=hno bd v w hD
   clear hD
   go_wp2_with fail
   refine K.mono ?_
   rintro e w1 ⟨rfl,hw1⟩
   subst w1
   go_wp2_with fail
   go_roundw
   case rel=>exact ⟨k+1,by omega,by go_num,True.intro⟩
   case measure=>simp [RowKit.intOf];omega
  ·obtain rfl:k=j:=by omega
   have K:=HY.out g o bd v rfl c1
   clear hD
   go_wp2_with fail
   refine K.mono ?_
   rintro e w1 ⟨rfl,hw1⟩
   have HR:Hid _:=hw1
   clear hw1
   go_wp2_with fail
   go_ret2
   exact ⟨rfl,HR.out⟩
theorem zgm (args:Array Value) (w:World):(callFunc 149 args).run Tryz.prog w=.ok (.enter 149 args) w:=by kernel_rfl
theorem zev (args:Array Value) (w:World):(callFunc 150 args).run Tryz.prog w=.ok (.enter 150 args) w:=by kernel_rfl
end Go.Proofs.YtpnajphbjfehnaaGreat
namespace Dk
open Go Go.RowKit
theorem zhu (l:List Int) (h:l.isEmpty=false):∃ r x,l=r++[x]:=by
 cases hl:l.reverse with
 | nil=>rw [List.reverse_eq_nil_iff] at hl;subst hl;cases h
 | cons x r=>exact ⟨r.reverse,x,by rw [← List.reverse_reverse l,hl,List.reverse_cons]⟩
theorem pick_out {rs:List (List Int)} {p:Int} (h:¬ inRows rs p=true):pickT rs p=0∧pickB rs p=false∧pickR rs p=rs:=by
 have e:pickAt rs p=none:=by unfold pickAt;rw [if_neg h]
 unfold pickT pickB pickR
 rw [e]
 exact ⟨rfl,rfl,rfl⟩
theorem zkh {rs:List (List Int)} {k:Nat} (hk:k < rs.length) {x:Int} {r:List Int} (e:rs.getD k []=x::r):pickT rs (k:Int)=x∧pickB rs (k:Int)=true∧pickR rs (k:Int)=rs.set k r:=by
 have h:inRows rs (k:Int)=true:=zw.2 ⟨by omega,by omega⟩
 have e:pickAt rs (k:Int)=some (k,0)∧rs.getD k []=x::r:=⟨by unfold pickAt;rw [if_pos h,show (k:Int).toNat=k from rfl,e];simp,e⟩
 unfold pickT pickB pickR
 rw [e.1]
 dsimp only
 rw [e.2]
 exact ⟨rfl,rfl,rfl⟩
theorem zkg {rs:List (List Int)} {k:Nat} (hk:k < rs.length) (hn:∀ j,j < rs.length→rs.getD j []=[]):pickT rs (k:Int)=0∧pickB rs (k:Int)=false∧pickR rs (k:Int)=rs:=by
 have h:inRows rs (k:Int)=true:=zw.2 ⟨by omega,by omega⟩
 have e:pickAt rs (k:Int)=none:=by
  unfold pickAt
  rw [if_pos h,show (k:Int).toNat=k from rfl,hn k hk,zhp (fun j hj=>by rw [hn j hj];rfl)]
  simp
 unfold pickT pickB pickR
 rw [e]
 exact ⟨rfl,rfl,rfl⟩
theorem zkf {rs:List (List Int)} {k j:Nat} (hk:k < rs.length) (h0:rs.getD k []=[]) (hj:j < rs.length) (hn:∀ i,i < j→rs.getD i []=[]) {x:Int} {r:List Int} (e:rs.getD j []=r++[x]):pickT rs (k:Int)=x∧pickB rs (k:Int)=true∧pickR rs (k:Int)=rs.set j r:=by
 have h:inRows rs (k:Int)=true:=zw.2 ⟨by omega,by omega⟩
 have e1:pickAt rs (k:Int)=some (j,r.length):=by
  unfold pickAt
  rw [if_pos h,show (k:Int).toNat=k from rfl,h0,first_at hj (by rw [e];simp) (fun i hi=>by rw [hn i hi];rfl),if_pos hj,e]
  simp
 unfold pickT pickB pickR
 rw [e1]
 dsimp only
 rw [e,List.eraseIdx_append_of_length_le (Nat.le_refl _)]
 simp [List.getD]
theorem add_in {rs:List (List Int)} {k:Nat} (hk:k < rs.length) (t:Int) (h:¬ whereK rs t < rs.length):canAdd rs (k:Int) t=true∧addTo rs (k:Int) t=rs.set k (rs.getD k []++[t])∧(rs.getD k []).contains t=false:=by
 have h1:inRows rs (k:Int)=true:=zw.2 ⟨by omega,by omega⟩
 have h2:rs.flatten.contains t=false:=by rw [zbs];exact decide_eq_false h
 have h3:canAdd rs (k:Int) t=true:=by unfold canAdd;rw [h1,h2];rfl
 refine ⟨h3,by unfold addTo;rw [if_pos h3];rfl,?_⟩
 cases hc:(rs.getD k []).contains t
 ·rfl
 ·exfalso
  have:t ∈ rs.flatten:=by
   rw [zcy rs k hk]
   exact List.mem_append_right _ (List.mem_append_left _ (List.contains_iff_mem.1 hc))
  rw [List.contains_iff_mem.2 this] at h2
  cases h2
theorem ziy {rs:List (List Int)} {p t:Int} (h:inRows rs p=false∨whereK rs t < rs.length):canAdd rs p t=false∧addTo rs p t=rs:=by
 have h3:canAdd rs p t=false:=by
  unfold canAdd
  rcases h with h | h
  ·rw [h];rfl
  ·rw [zbs,decide_eq_true h];simp
 refine ⟨h3,by unfold addTo;rw [h3];simp⟩
end Dk
namespace Go.Proofs.YtpnajphbjfehnaaGreat
open Go.RowKit
section
variable {W w : World} {b N : Nat} {rs : List (List Int)} {us ts : List Dk.Thing}
theorem Add_anyR (hR:Dk.R0 b rs ts) (s:Dk.Sep W w (us++ts)) (hF:Dk.Few N rs) (hN:N≤200) (p t:Int) (ht:Dk.i64 t):Calls Tryz.prog 143 #[.pointer (some ⟨b,0,none⟩),.int .i64 p,.int .i64 t] w fun e w'=>e=.returned (.bool (Dk.canAdd rs p t))∧∃ ts',Dk.R0 b (Dk.addTo rs p t) ts'∧Dk.Sep W w' (us++ts'):=by
 obtain ⟨A,C,hb,hC,hM,hk⟩:=hR.head s
 unfold maxLen at hM
 have hl:=hF.rows
 have K:=zc0 hb hl p
 have KW:=zet hR s hF hN t
 by_cases hp:Dk.inRows rs p=true
 ·have hp':=Dk.zw.1 hp
  obtain ⟨k,rfl⟩:∃ k:Nat,p=k:=⟨p.toNat,by omega⟩
  have hkl:k < rs.length:=by omega
  rw [show (decide ((0:Int)≤(k:Int)) && decide ((k:Int) < (rs.length:Int)))=true by simp;omega] at K
  by_cases hw:Dk.whereK rs t < rs.length
  ·obtain ⟨e1,e2⟩:=Dk.ziy (p:=(k:Int)) (.inr hw)
   rw [e1,e2]
   rw [decide_eq_true hw] at KW
   have HS:Hid _:=s
   have HR:Hid _:=hR
   clear hb hR s hF hp hp' hk e1 e2 hw
   go_enter Tryz.func143,Tryz.ntmps143
   go_wp2_with (first | (go_at_call 68;refine K.mono ?_;rintro e w' ⟨rfl,hw'⟩;subst w'))
   refine KW.mono ?_
   rintro e w1 ⟨rfl,hu⟩
   have HU:Hid _:=hu
   clear hu KW
   go_wp2_with fail
   go_ret
   exact ⟨rfl,ts,HR.out,Dk.Sep.below HS.out HU.out⟩
  ·obtain ⟨e1,e2,e3⟩:=Dk.add_in hkl t hw
   rw [e1,e2]
   rw [decide_eq_false hw] at KW
   have fin:∀ w1,Below w.heap.size w w1→∃ g bd,A=some ⟨g,0,none⟩∧w1.cell? ⟨b,0,none⟩=some (.slice A rs.length C)∧w1.cell? ⟨g,k,none⟩=some (.pointer (some ⟨bd,0,none⟩))∧
     Calls Tryz.prog 178 #[.pointer (some ⟨bd,0,none⟩),.int .i64 t] w1 fun e w'=>e=.returned (.bool true)∧∃ ts',Dk.R0 b (rs.set k (rs.getD k []++[t])) ts'∧Dk.Sep W w' (us++ts'):=by
    intro w1 u
    obtain ⟨A1,C1,hb1,_,_,hk1⟩:=hR.head (s.below u)
    have q:=(hb.up u).heap.symm.trans hb1.heap
    simp only [Option.some.injEq,Obj.cells.injEq,Array.mk.injEq,List.cons.injEq,Value.slice.injEq,and_true,true_and] at q
    obtain ⟨rfl,rfl⟩:=q
    obtain ⟨g,bd,v,rfl,c1,hD,hput⟩:=hk1 k hkl
    refine ⟨g,bd,rfl,hb1.cell 0,c1,?_⟩
    have hle:=hF.rowz k hkl
    refine (Push_yes 0 bd v _ t w1 hD e3 ht (by omega)).mono ?_
    rintro e w' ⟨rfl,hT⟩
    exact ⟨rfl,hput w' _ hT⟩
   have HF:Hid _:=fin
   generalize rs.length=n at *
   clear fin hb hR s hF hp hp' hk e1 e2 hw e3
   go_enter Tryz.func143,Tryz.ntmps143
   go_wp2_with (first | (go_at_call 68;refine K.mono ?_;rintro e w' ⟨rfl,hw'⟩;subst w'))
   refine KW.mono ?_
   rintro e w1 ⟨rfl,hu⟩
   obtain ⟨g,bd,rfl,c0,c1,KP⟩:=HF.out w1 hu
   clear hu KW HF
   go_wp2_with fail
   refine KP.mono ?_
   rintro e w2 ⟨rfl,h⟩
   have HH:Hid _:=h
   clear h KP c0 c1
   go_wp2_with fail
   go_ret
   exact ⟨rfl,HH.out⟩
 ·obtain ⟨e1,e2⟩:=Dk.ziy (t:=t) (.inl (by simpa using hp:Dk.inRows rs p=false))
  rw [e1,e2]
  rw [show (decide ((0:Int)≤p) && decide (p < (rs.length:Int)))=false from (by unfold Dk.inRows at hp;simpa using hp)] at K
  have HS:Hid _:=s
  have HR:Hid _:=hR
  clear hb hR s hF hp hk e1 e2 KW
  go_enter Tryz.func143,Tryz.ntmps143
  go_wp2_with (first | (go_at_call 68;refine K.mono ?_;rintro e w' ⟨rfl,hw'⟩;subst w'))
  go_ret
  exact ⟨rfl,ts,HR.out,HS.out⟩
theorem Pick_any (hR:Dk.R0 b rs ts) (s:Dk.Sep W w (us++ts)) (hF:Dk.Few N rs) (hN:N≤200) (p:Int):Calls Tryz.prog 124 #[.pointer (some ⟨b,0,none⟩),.int .i64 p] w fun e w'=>e=.returned (.tuple #[.int .i64 (Dk.pickT rs p),.bool (Dk.pickB rs p)])∧∃ ts',Dk.R0 b (Dk.pickR rs p) ts'∧Dk.Sep W w' (us++ts'):=by
 obtain ⟨A,C,hb,hC,hM,hk⟩:=hR.head s
 have hM':=hM
 unfold maxLen at hM
 have hl:=hF.rows
 have K:=zc0 hb hl p
 have c0:w.cell? ⟨b,0,none⟩=some (.slice A rs.length C):=hb.cell 0
 by_cases hp:Dk.inRows rs p=true
 ·have hp':=Dk.zw.1 hp
  obtain ⟨k,rfl⟩:∃ k:Nat,p=k:=⟨p.toNat,by omega⟩
  have hkl:k < rs.length:=by omega
  rw [show (decide ((0:Int)≤(k:Int)) && decide ((k:Int) < (rs.length:Int)))=true by simp;omega] at K
  obtain ⟨g,bd,v,rfl,c1,hD,hput⟩:=hk k hkl
  have hle:=hF.rowz k hkl
  have P1:∀ xs,rs.getD k []=xs→Dk.Places w (some ⟨g,k,none⟩) 1 (C - k) [xs]:=fun xs e=>by
   refine ⟨by omega,by unfold maxLen;omega,fun i hi=>?_⟩
   obtain rfl:i=0:=by omega
   exact ⟨g,k,bd,v,rfl,c1,by rw [List.getD_cons_zero,← e];exact hD⟩
  cases hx:rs.getD k [] with
  | cons x r=>
   obtain ⟨e1,e2,e3⟩:=Dk.zkh hkl hx
   rw [e1,e2,e3]
   rw [hx] at hD hle
   rw [List.length_cons] at hle
   have KT:=zcl 149 zgm (fun bd v w h=>Pop_no 0 bd v w h) (some ⟨g,k,none⟩) 1 (C - k) [x::r] w (P1 _ hx) 0 (by omega) (fun i hi=>absurd hi (by omega)) x (fun w'=>∃ ts',Dk.R0 b (rs.set k r) ts'∧Dk.Sep W w' (us++ts')) (fun g' o' bd' v' hA hc=>by
    injection hA with hA
    injection hA with e1 e2
    subst e1
    subst e2
    rw [Nat.add_zero,c1] at hc
    injection hc with hc
    injection hc with hc
    injection hc with hc
    injection hc with hc
    subst hc
    refine (Pop_yes 0 bd v x r w hD (by omega)).mono ?_
    rintro e w' ⟨rfl,hT⟩
    exact ⟨rfl,hput w' _ hT⟩)
   generalize hn:rs.length=n at *
   clear hb hR s hF hp hp' hk e1 e2 e3 hD hput P1 hx c1 hle
   go_enter Tryz.func124,Tryz.ntmps124
   go_wp2_with (first | (go_at_call 68;refine K.mono ?_;rintro e w' ⟨rfl,hw'⟩;subst w'))
   refine KT.mono ?_
   rintro e w1 ⟨rfl,h⟩
   have HH:Hid _:=h
   clear h KT K c0
   go_wp2_with fail
   go_ret2
   exact ⟨rfl,HH.out⟩
  | nil=>
   have h00:∀ i,i < 1→([[]]:List (List Int)).getD i []=[]:=fun i hi=>by
    obtain rfl:i=0:=by omega
    rfl
   have KT:=zdc 149 zgm (fun bd v w h=>Pop_no 0 bd v w h) (some ⟨g,k,none⟩) 1 (C - k) [[]] w (P1 _ hx) h00
   clear h00
   have P2:Dk.Places w (some ⟨g,0,none⟩) rs.length C rs:=by
    refine ⟨hC,hM',fun i hi=>?_⟩
    obtain ⟨g',bd',v',e,c,h,_⟩:=hk i hi
    injection e with e
    injection e with e1 _
    subst e1
    exact ⟨g,0,bd',v',rfl,by rw [Nat.zero_add];exact c,h⟩
   have key:Calls Tryz.prog 148 #[.slice (some ⟨g,0,none⟩) rs.length C,.func (.func 150) #[] #[]] w fun e w'=>e=.returned (.tuple #[.int .i64 (Dk.pickT rs (k:Int)),.bool (Dk.pickB rs (k:Int))])∧∃ ts',Dk.R0 b (Dk.pickR rs (k:Int)) ts'∧Dk.Sep W w' (us++ts'):=by
    by_cases hf:Dk.firstR rs < rs.length
    ·have hn:∀ i,i < Dk.firstR rs→rs.getD i []=[]:=fun i hi=>by
      have h1:=List.not_of_lt_findIdx (p:=fun r:List Int=>!r.isEmpty) (xs:=rs) hi
      have hil:i < rs.length:=by omega
      simp only [Bool.not_eq_true,Bool.not_eq_false',List.isEmpty_iff] at h1
      simpa [List.getD,hil] using h1
     have hne:=Dk.zcx hf
     generalize Dk.firstR rs=j at hf hn hne
     obtain ⟨r,x,er⟩:=Dk.zhu _ hne
     obtain ⟨e1,e2,e3⟩:=Dk.zkf hkl hx hf hn er
     rw [e1,e2,e3]
     obtain ⟨g',bd',v',eA,c,hD',hput'⟩:=hk j hf
     injection eA with eA
     injection eA with eA _
     subst eA
     have hle':=hF.rowz j hf
     rw [er] at hD' hle'
     rw [List.length_append,List.length_singleton] at hle'
     refine (zcl 150 zev (fun bd v w h=>zdi 0 bd v w h) (some ⟨g,0,none⟩) rs.length C rs w P2 j hf hn x (fun w'=>∃ ts',Dk.R0 b (rs.set j r) ts'∧Dk.Sep W w' (us++ts')) (fun g2 o2 bd2 v2 hA hc=>by
      injection hA with hA
      injection hA with q1 q2
      subst q1
      subst q2
      rw [Nat.zero_add,c] at hc
      injection hc with hc
      injection hc with hc
      injection hc with hc
      injection hc with hc
      subst hc
      refine (zfp 0 bd' v' x r w hD' (by omega)).mono ?_
      rintro e w' ⟨rfl,hT⟩
      exact ⟨rfl,hput' w' _ hT⟩))
    ·have hn:∀ j,j < rs.length→rs.getD j []=[]:=fun j hj=>by
      have h1:=List.not_of_lt_findIdx (p:=fun r:List Int=>!r.isEmpty) (xs:=rs) (i:=j) (by unfold Dk.firstR at hf;omega)
      simp only [Bool.not_eq_true,Bool.not_eq_false',List.isEmpty_iff] at h1
      simpa [List.getD,hj] using h1
     obtain ⟨e1,e2,e3⟩:=Dk.zkg hkl hn
     rw [e1,e2,e3]
     refine (zdc 150 zev (fun bd v w h=>zdi 0 bd v w h) (some ⟨g,0,none⟩) rs.length C rs w P2 hn).mono ?_
     rintro e w' ⟨rfl,hw⟩
     subst w'
     exact ⟨rfl,ts,hR,s⟩
   generalize Dk.pickT rs (k:Int)=pt at key ⊢
   generalize Dk.pickB rs (k:Int)=pb at key ⊢
   generalize Dk.pickR rs (k:Int)=pr at key ⊢
   generalize hn:rs.length=n at *
   clear hb hR s hF hp hp' hk hD hput P1 P2 hx c1 hle
   go_enter Tryz.func124,Tryz.ntmps124
   go_wp2_with (first | (go_at_call 68;refine K.mono ?_;rintro e w' ⟨rfl,hw'⟩;subst w'))
   refine KT.mono ?_
   rintro e w1 ⟨rfl,h⟩
   subst w1
   clear KT K
   go_wp2_with fail
   refine key.mono ?_
   rintro e w1 ⟨rfl,h⟩
   have HH:Hid _:=h
   clear h key c0
   go_wp2_with fail
   go_ret2
   exact ⟨rfl,HH.out⟩
 ·obtain ⟨e1,e2,e3⟩:=Dk.pick_out hp
  rw [e1,e2,e3]
  rw [show (decide ((0:Int)≤p) && decide (p < (rs.length:Int)))=false from (by unfold Dk.inRows at hp;simpa using hp)] at K
  have HS:Hid _:=s
  have HR:Hid _:=hR
  clear hb hR s hF hp hk e1 e2 e3 c0
  go_enter Tryz.func124,Tryz.ntmps124
  go_wp2_with (first | (go_at_call 68;refine K.mono ?_;rintro e w' ⟨rfl,hw'⟩;subst w'))
  go_ret2
  exact ⟨rfl,ts,HR.out,HS.out⟩
end
end Go.Proofs.YtpnajphbjfehnaaGreat
