import Derived.Test.YtglhhlfopccmaaaGreatOw19
import Derived.Laws.OwnMore
import Derived.OwnWalk
set_option linter.unusedSimpArgs false
set_option linter.unusedVariables false
set_option linter.unnecessarySimpa false
set_option maxHeartbeats 8000000
set_option maxRecDepth 100000
namespace Go.Proofs
open Go.Shelf
def Tryz.l17_ren:Go.Shelf.Ren:=⟨fun | 8=>236 | 6=>249 | n=>n,fun | 22=>172 | 23=>142 | 25=>327 | 4=>4 | 3=>3 | 0=>0 | n=>n,fun | n=>n⟩
theorem Tryz.l17:Go.Proofs.SlLaysH0.n8 Tryz.prog Tryz.l17_ren:={
 mixed:=by kernel_rfl
 f6:=⟨Tryz.f249.name,by decide,Tryz.func249.trans (congrArg some (by kernel_rfl))⟩
 f8:=⟨Tryz.f236.name,by decide,Tryz.func236.trans (congrArg some (by kernel_rfl))⟩
 t0:=Tryz.underlying0
 a0:=Tryz.isAgg0
 z0:=Tryz.sizeOf0
 v0:=Tryz.zeroValue0
 t3:=Tryz.underlying3
 a3:=Tryz.isAgg3
 z3:=Tryz.sizeOf3
 v3:=Tryz.zeroValue3
 t4:=Tryz.underlying4
 a4:=Tryz.isAgg4
 z4:=Tryz.sizeOf4
 v4:=Tryz.zeroValue4
 t22:=Tryz.underlying172
 a22:=Tryz.isAgg172
 z22:=Tryz.sizeOf172
 v22:=Tryz.zeroValue172
 t25:=Tryz.underlying327
 a25:=Tryz.isAgg327
 z25:=Tryz.sizeOf327
 v25:=Tryz.zeroValue327 }
end Go.Proofs
namespace Go.Proofs.YtglhhlfopccmaaaGreat
open Go.RowKit Go.Lib
theorem zqv {P:Program} {o:Oper} {a:Act} {w w':World} {v:Value} {K:Act→World→Prop} {Q:Exit→Act→World→Prop} (h:(execOp a.eval o).run P w=.ok (.value v) w') (hK:K (a.put o.dst v) w'):o.wp P a w K Q:=by
 unfold Oper.wp
 rw [h]
 exact hK
theorem wp_skip {P:Program} {o:Oper} {a:Act} {w w':World} {K:Act→World→Prop} {Q:Exit→Act→World→Prop} (h:(execOp a.eval o).run P w=.ok .skip w') (hK:K (a.put o.dst undef) w'):o.wp P a w K Q:=by
 unfold Oper.wp
 rw [h]
 exact hK
theorem Dk.Away.rowK {S:Nat→Prop} {w w':World} {b:Nat} (h:Dk.Away S w w') (hb:S b∨w.heap.size≤b) (cs:Array Value):Dk.Away S w (w'.setRow b cs):=
 ⟨h.os,h.tape,h.output,by simp [World.setRow];exact h.size,fun k hk hn=>(setRow_other w' b k cs (fun e=>by subst e;exact hb.elim hn (fun h1=>absurd hk (by omega)))).trans (h.block k hk hn)⟩
theorem zqf {w w':World} {b:Nat} (h:Below w.heap.size w w') (hb:w.heap.size≤b) (cs:Array Value):Below w.heap.size w (w'.setRow b cs):=
 ⟨h.os,h.tape,h.output,by simp [World.setRow];exact h.size,fun k hk=>(setRow_other w' b k cs (by omega)).trans (h.block k hk)⟩
theorem zcr (a b:Int) (c:Bool) (d:Int):(#[.int .i64 a,.int .i64 b,.bool c,.int .u64 d]:Array Value).all (·.oneCell')=true:=by simp [Value.oneCell']
theorem zdy:(Tryz.prog.info? 142).map (·.size)=some 4:=by kernel_rfl
theorem K26K:Dk.SlK Tryz.prog 172 142 (.agg #[.int .i64 0,.int .i64 0,.bool false,.int .u64 0]) 4 32:=⟨Tryz.underlying172,info29,rfl,by decide,by decide⟩
theorem theirsK (x:Int) (b:Nat) (w:World) (hb:b < w.heap.size) (hcell:w.cell? ⟨b,0,none⟩=some (.int .i64 x)) :
  PredBelow Tryz.prog 237 #[.pointer (some ⟨b,0,none⟩)] (fun p=>.agg (Dk.Rq.cells p).toArray) (fun p=>p.who == x) w:=fun W p hB=>by
 have hc:W.cell? ⟨b,0,none⟩=some (.int .i64 x):=(hB.cell (p:=⟨b,0,none⟩) hb).trans hcell
 have hbW:b < W.heap.size:=Nat.lt_of_lt_of_le hb hB.size
 have hne:b≠W.heap.size:=by omega
 show Calls Tryz.prog 237 #[.agg #[.int .i64 p.who,.int .i64 p.block,.bool p.write,.int .u64 (p.x:Nat)],.pointer (some ⟨b,0,none⟩)] W _
 go_enter Tryz.func237,Tryz.ntmps237
 go_wp2
 all_goals (go_ret;exact ⟨by simp_all,hB.alloc hB.size _⟩)
theorem zem (fv:Value) (w:World):Calls Tryz.prog 249 #[.slice none 0 0,fv] w fun e w'=>e=.returned (.int .i64 (-1))∧w'=w:=by
 go_enter Tryz.func249,Tryz.ntmps249
 go_wp2
 go_loopw [8] (fun i w'=>i=.int .i64 0∧Hid (w'=w)) (fun i w'=>0)
 case atStart=>exact ⟨rfl,rfl⟩
 case round=>
  obtain ⟨rfl,HW⟩:=hrel
  go_wp2
  go_ret
  exact ⟨rfl,HW.out⟩
theorem zc5 (fv:Value) (w:World):Calls Tryz.prog 236 #[.slice none 0 0,fv] w fun e w'=>e=.returned (.bool false)∧w'=w:=by
 go_enter Tryz.func236,Tryz.ntmps236
 go_wp2_with (go_at_call 249;refine (zem _ _).mono ?_;rintro e w' ⟨rfl,hw'⟩;subst w')
 go_ret
 exact ⟨rfl,rfl⟩
theorem zdp (B:Nat) (v:Value) (ps:List Dk.Rq) (x:Int) (b:Nat) (w:World) (h:w.ownsRow B 142 4 v ps.length (Dk.rqs ps)) (hb:b < w.heap.size) (hcell:w.cell? ⟨b,0,none⟩=some (.int .i64 x)) :
  Calls Tryz.prog 236 #[v,.func (.func 237) #[] #[.pointer (some ⟨b,0,none⟩)]] w fun e w'=>e=.returned (.bool (ps.any fun p=>p.who == x))∧Below w.heap.size w w':=by
 obtain ⟨hl,⟨rfl,h0⟩ | ⟨g,cap,cur,rfl,hgb,hg,hn,hm,hs,ht⟩⟩:=id h
 ·obtain rfl:ps=[]:=List.eq_nil_of_length_eq_zero h0
  refine (zc5 _ w).mono ?_
  rintro e w' ⟨rfl,rfl⟩
  exact ⟨rfl,Below.refl _ _⟩
 ·have eg:∀ args w,(callFunc 237 args).run Tryz.prog w=.ok (.enter 237 args) w:=enters_of Tryz.func237 (by kernel_rfl) rfl
  unfold maxLen at hm
  have hcells:=h.cells (g:=g) rfl
  have:Inhabited Dk.Rq:=⟨Dk.Rq.zero⟩
  have hcon:=AnyQ.slices_ContainsFunc Tryz.l17 4 Tryz.isAgg142 Tryz.sizeOf142 Dk.Rq.cells (fun _=>rfl) (fun p=>p.who == x) 237 #[.pointer (some ⟨b,0,none⟩)] eg g 0 ps.length cap ps w (theirsK x b w hb hcell) (Nat.le_refl _) (by omega) (Array.getElem?_eq_some_iff.1 hg).1 (fun j hj i u hi=>by
   have hi4:i < 4:=by
    have:=(List.getElem?_eq_some_iff.1 hi).1
    simpa [Dk.Rq.cells] using this
   have h1:=Dk.zj3 ps j hj i hi4
   have e0:ps[j]! = ps.getD j Dk.Rq.zero:=by simp [List.getD,hj]
   rw [e0] at hi
   have:=hcells (j*4+i) u (h1.trans hi)
   rw [Addr.add_lit] at this
   rw [Nat.add_assoc]
   exact this)
  rw [List.take_length] at hcon
  exact hcon
section
variable {W w w' : World} {bd : Nat} {bs : List Nat} {rs : List Dk.Rq} {us us' us1 us2 : List Dk.Thing}
theorem Db.map (h:Dk.Db W w bd bs rs us) (f:∀ ts,Dk.Sep W w (us++ts)→Dk.Sep W w' (us'++ts)):Dk.Db W w' bd bs rs us':=by
 obtain ⟨v1,v2,t,ft⟩:=Hid.out h
 refine ⟨v1,v2,?_,ft⟩
 have p:=f [Dk.boxOf bd #[v1,v2] 174,Dk.rowOf 38 1 v1 bs.length (Dk.uwK bs),Dk.rowOf 142 4 v2 rs.length (Dk.rqs rs)] (Dk.Sep.perm t (List.perm_append_comm (l₁:=[_,_,_])))
 exact Dk.Sep.perm p List.perm_append_comm
theorem Db.get {t:Dk.Thing} (h:Dk.Db W w bd bs rs us) (ht:t ∈ us):t.holds w:=by
 obtain ⟨v1,v2,q,ft⟩:=Hid.out h
 exact Dk.Sep.get q (by simp [Dk.disk,ht])
theorem Db.box {b:Nat} {cs:Array Value} {e:TypeId} (h:Dk.Db W w bd bs rs us) (ht:Dk.boxOf b cs e ∈ us):Dk.Box w b cs e:=Db.get h ht
theorem Db.drop {t:Dk.Thing} (h:Dk.Db W w bd bs rs (t::us)):Dk.Db W w bd bs rs us:=Db.map h (fun ts s=>s.sub (List.sublist_cons_self _ _))
theorem Db.swap {t t':Dk.Thing} (h:Dk.Db W w bd bs rs (t::t'::us)):Dk.Db W w bd bs rs (t'::t::us):=Db.map h (fun ts s=>s.perm (List.Perm.swap _ _ _))
theorem Db.newBox {cs:Array Value} {e:TypeId} (h:Dk.Db W w bd bs rs us) (ew:w'=w.alloc (.cells cs e)):Dk.Db W w' bd bs rs (Dk.boxOf w.heap.size cs e::us):=Db.map h (fun ts s=>s.newBox ew)
theorem Db.setRow {b:Nat} {cs cs':Array Value} {e:TypeId} (h:Dk.Db W w bd bs rs (Dk.boxOf b cs e::us)) (ew:w'=w.setRow b cs'):Dk.Db W w' bd bs rs (Dk.boxOf b cs' e::us):=by
 have hb:Dk.Box w b cs e:=Db.box h (by simp)
 subst ew
 exact Db.map h (fun ts s=>Dk.Sep.turn (us1:=[]) (t':=Dk.boxOf b cs' e) s (Dk.Away.rowK (S:=(Dk.boxOf b cs e).own) (Dk.Away.refl _ _) (.inl rfl) _) hb.row (fun k hk=>.inl hk))
theorem Db.turn {t t':Dk.Thing} (h:Dk.Db W w bd bs rs (us1++t::us2)) (a:Dk.Away t.own w w') (hh:t'.holds w') (hn:∀ k,t'.own k→t.own k∨w.heap.size≤k):Dk.Db W w' bd bs rs (us1++t'::us2):=
 Db.map h (fun ts s=>by
  rw [List.append_assoc,List.cons_append] at s ⊢
  exact s.turn a hh hn)
def Dk.waitsK (rs:List Dk.Rq) (x:Int):Bool:=rs.any fun p=>p.who == x
theorem zgn (h:Dk.Db W w bd bs rs us) (x:Int) :
  Calls Tryz.prog 207 #[.pointer (some ⟨bd,0,none⟩),.int .i64 x] w fun e w'=>e=.returned (.bool (Dk.waitsK rs x))∧Below w.heap.size w w':=by
 obtain ⟨v1,v2,t,f⟩:=Hid.out h
 obtain ⟨W1,e1⟩:∃ W1,W1=w.alloc (.cells #[.int .i64 x] 3):=⟨_,rfl⟩
 have u1:Below w.heap.size w W1:=by rw [e1];exact Dk.zb (Below.refl _ _) _
 have b1:Dk.Box W1 w.heap.size #[.int .i64 x] 3:=by rw [e1];exact Dk.Box.new _ _ _
 have t1:=t.below u1
 obtain ⟨A2,C2,ev2,_,_⟩:=Dk.zc t.row2
 have k2:W1.cell? ⟨bd,1,none⟩=some (.slice A2 rs.length C2):=by rw [← ev2];exact t1.head.cell 1
 have c2:Calls Tryz.prog 236 #[.slice A2 rs.length C2,.func (.func 237) #[] #[.pointer (some ⟨w.heap.size,0,none⟩)]] W1 fun e w'=>e=.returned (.bool (Dk.waitsK rs x))∧Below W1.heap.size W1 w':=by
  rw [← ev2]
  exact zdp _ _ rs x w.heap.size _ t1.row2 b1.lt (b1.cell 0)
 have HU:Hid (Below w.heap.size w W1):=u1
 have HE:Hid (w.alloc (.cells #[.int .i64 x] 3)=W1):=e1.symm
 clear ev2 t t1 f b1 h u1 e1
 go_enter Tryz.func207,Tryz.ntmps207
 go_wp2_with (rw [HE.out];clear HE)
 refine c2.mono ?_
 rintro e w' ⟨rfl,hb⟩
 go_wp2_with fail
 go_ret
 exact ⟨rfl,Dk.zi HU.out hb⟩
def Dk.blocks (n:Int):Nat:=if n < 0 then 0 else if 64 < n then 64 else n.toNat
theorem Dk.znx (n:Int):min (max n 0) 64=(Dk.blocks n:Int):=by
 unfold Dk.blocks
 split
 ·omega
 ·split <;> omega
theorem Dk.zh6 (n:Int):Dk.blocks n≤64:=by
 unfold Dk.blocks
 split
 ·omega
 ·split <;> omega
theorem Sep.made (h:Dk.Sep W w us) (n:Nat) (hn:n≤1000):∃ w',(Instr.makeSlice 55 (.int .i64 (n:Int)) (.int .i64 (n:Int))).run Tryz.prog w=.ok (.slice (some ⟨w.heap.size,0,none⟩) n n) w'∧Dk.Sep W w' (Dk.rowOf 38 1 (.slice (some ⟨w.heap.size,0,none⟩) n n) n (Dk.uwK (List.replicate n 0))::us)∧w'.heap.size=w.heap.size+1:=by
 obtain ⟨i0,hi0,hz0,hz1,hz2⟩:=info_parts info27K
 have hr:=run_make (P:=Tryz.prog) w 55 38 i0 (.int .u64 0) Tryz.underlying55 hi0 hz0 .i64 .i64 n n (by omega) (Int.le_refl _) (by rw [hz2];omega) (by omega)
 simp only [Int.toNat_natCast] at hr
 rw [hz1] at hr
 refine ⟨_,hr,h.add (Dk.zb (Below.refl _ _) _) ?_ (fun k hk=>by simp [Dk.rowOf,Value.ownBlock] at hk;omega),by simp⟩
 have e:(madeCells (Value.int .u64 0).cells (n*1)).toList=Dk.uwK (List.replicate n 0):=by
  apply List.ext_getElem?
  intro i
  by_cases hi:i < n
  ·simp [madeCells,Dk.uwK,hi,Value.cells]
   simp [Nat.mod_one]
  ·rw [List.getElem?_eq_none (by simp [madeCells];omega),List.getElem?_eq_none (by simp;omega)]
 have:=World.ownsRow_lit w (e:=38) (size:=1) (base:=0) (madeCells (Value.int .u64 0).cells (n*1)) n (Nat.zero_le _) (by unfold maxLen;omega) (size_madeCells _ _)
 rw [e] at this
 exact this
end
section
variable {W w w' : World} {bd : Nat} {bs : List Nat} {rs : List Dk.Rq} {us us' us1 us2 : List Dk.Thing}
theorem New_anyK (h:Dk.Sep W w us) (n:Int) :
  Calls Tryz.prog 47 #[.int .i64 n] w fun e w'=>e=.returned (.pointer (some ⟨w.heap.size+1,0,none⟩))∧Dk.Db W w' (w.heap.size+1) (List.replicate (Dk.blocks n) 0) [] us:=by
 have hle:=Dk.zh6 n
 obtain ⟨w1,hmk,s1,z1⟩:=Sep.made h (Dk.blocks n) (by omega)
 have he:=Dk.znx n
 have fin:Dk.Db W (w1.alloc (.cells #[.slice (some ⟨w.heap.size,0,none⟩) (Dk.blocks n) (Dk.blocks n),.slice none 0 0] 174)) (w.heap.size+1) (List.replicate (Dk.blocks n) 0) [] us:=by
  have s2:=s1.add (t:=Dk.rowOf 142 4 (.slice none 0 0) 0 (Dk.rqs [])) (Below.refl _ _) (World.ownsRow_nil _ _ _ _) (fun k hk=>by simp [Dk.rowOf,Value.ownBlock] at hk)
  have s3:=(s2.perm (List.Perm.swap _ _ _)).newBox (cs:=#[.slice (some ⟨w.heap.size,0,none⟩) (Dk.blocks n) (Dk.blocks n),.slice none 0 0]) (e:=174) rfl
  rw [z1] at s3
  refine ⟨.slice (some ⟨w.heap.size,0,none⟩) (Dk.blocks n) (Dk.blocks n),.slice none 0 0,?_,⟨fun x hx=>by rw [(List.mem_replicate.1 hx).2];decide,fun x hx=>by simp at hx,fun x hx=>by simp at hx⟩⟩
  unfold Dk.Dsk Dk.disk
  rw [List.length_replicate]
  exact s3
 generalize Dk.blocks n=m at *
 have HF:Hid _:=fin
 clear fin h s1
 go_enter Tryz.func47,Tryz.ntmps47
 go_wp2
 go_ret
 exact ⟨rfl,HF.out⟩
theorem Db.words (h:Dk.Db W w bd bs rs us):∃ A C,w.cell? ⟨bd,0,none⟩=some (.slice A bs.length C)∧bs.length≤C∧C≤maxLen:=by
 obtain ⟨v1,v2,t,f⟩:=Hid.out h
 obtain ⟨A,C,ev,h1,h2⟩:=Dk.zc t.row1
 subst ev
 exact ⟨A,C,t.head.cell 0,h1,h2⟩
theorem zqq {B n k:Nat} {v:Value} {xs:List Nat} (hr:w.ownsRow B 38 1 v xs.length (Dk.uwK xs)) (hk:k < xs.length):∃ g C,v=.slice (some ⟨g,0,none⟩) xs.length C∧xs.length≤C∧C≤maxLen∧w.cell? ⟨g,k,none⟩=some (.int .u64 (xs.getD k 0:Nat))∧w.frozen? ⟨g,k,none⟩=false∧∀ y:Nat,(w.setCell ⟨g,k,none⟩ (.int .u64 (y:Nat))).ownsRow B 38 1 v (xs.set k y).length (Dk.uwK (xs.set k y)):=by
 obtain ⟨_,⟨_,h0⟩ | ⟨g,cap,cur,rfl,hb,hgg,h1,h2,h3,h4⟩⟩:=id hr
 ·omega
 have hc:=hr.cells (g:=g) rfl k (.int .u64 (xs.getD k 0:Nat)) (by simp [List.getD,hk])
 rw [Addr.add_lit,Nat.zero_add] at hc
 have bx:Dk.Box w g cur 38:=⟨hgg⟩
 refine ⟨g,cap,rfl,h1,h2,hc,bx.frozen k,fun y=>?_⟩
 rw [Nat.mul_one] at h3
 rw [List.length_set]
 refine Dk.zhe (bx.set k (.int .u64 (y:Nat))) hb (by rw [Array.size_setIfInBounds];exact h3) h2 (by simp) h1 (fun i hi=>?_)
 rw [Array.getElem?_setIfInBounds]
 have hi':cur[i]? = (Dk.uwK xs)[i]?:=by
  rw [← h4,List.getElem?_take,if_pos (by omega),Array.getElem?_toList]
 by_cases hij:k=i
 ·subst hij
  rw [if_pos rfl,if_pos (by omega)]
  simp [hk]
 ·rw [if_neg hij,hi']
  simp [Dk.uwK,List.getElem?_set,hij]
theorem Block_no (h:Dk.Db W w bd bs rs us) (k:Int) (hk:k < 0∨(bs.length:Int)≤k):Calls Tryz.prog 206 #[.pointer (some ⟨bd,0,none⟩),.int .i64 k] w fun e w'=>e=.returned (.tuple #[.int .u64 0,.bool false])∧w'=w:=by
 obtain ⟨A,C,c0,_,_⟩:=Db.words h
 generalize bs.length=n at *
 by_cases h0:k < 0
 ·go_enter Tryz.func206,Tryz.ntmps206
  go_wp2
  go_ret2
  exact ⟨rfl,rfl⟩
 ·have h1:k ≥ (n:Int):=by omega
  have y0:decide (k < 0)=false:=by simp;omega
  have y1:decide (k ≥ (n:Int))=true:=by simp;omega
  go_enter Tryz.func206,Tryz.ntmps206
  go_wp2
  go_ret2
  exact ⟨rfl,rfl⟩
theorem zhv (h:Dk.Db W w bd bs rs us) (k:Nat) (hk:k < bs.length):Calls Tryz.prog 206 #[.pointer (some ⟨bd,0,none⟩),.int .i64 (k:Int)] w fun e w'=>e=.returned (.tuple #[.int .u64 (bs.getD k 0:Nat),.bool true])∧w'=w:=by
 obtain ⟨v1,v2,t,f⟩:=Hid.out h
 obtain ⟨g,C,ev,h1,h2,hc,hf,_⟩:=zqq (n:=0) t.row1 hk
 unfold maxLen at h2
 have c0:=t.head.cell 0
 subst ev
 simp only [List.getElem?_toArray,List.getElem?_cons_zero] at c0
 generalize bs.getD k 0=x at *
 generalize bs.length=n at *
 have y1:decide ((k:Int) ≥ (n:Int))=false:=by simp;omega
 have y2:decide ((n:Int)≤(k:Int))=false:=by simp;omega
 have y3:decide (n≤k)=false:=by simp;omega
 have hkn:(k:Int) < (n:Int):=by omega
 clear t f h
 go_enter Tryz.func206,Tryz.ntmps206
 go_wp2
 go_ret2
 exact ⟨rfl,rfl⟩
end
section
variable {W w w' : World} {bd : Nat} {bs : List Nat} {rs : List Dk.Rq} {us us' us1 us2 : List Dk.Thing}
theorem Db.write (h:Dk.Db W w bd bs rs us) (k:Nat) (hk:k < bs.length) (y:Nat) (hy:y < 2 ^ 64) :
  ∃ g C,w.cell? ⟨bd,0,none⟩=some (.slice (some ⟨g,0,none⟩) bs.length C)∧bs.length≤C∧C≤maxLen∧w.cell? ⟨g,k,none⟩=some (.int .u64 (bs.getD k 0:Nat))∧w.frozen? ⟨g,k,none⟩=false∧Dk.Db W (w.setCell ⟨g,k,none⟩ (.int .u64 (y:Nat))) bd (bs.set k y) rs us:=by
 obtain ⟨v1,v2,t,f⟩:=Hid.out h
 obtain ⟨g,C,ev,h1,h2,hc,hf,hs⟩:=zqq (n:=0) t.row1 hk
 subst ev
 refine ⟨g,C,t.head.cell 0,h1,h2,hc,hf,⟨_,_,t.set1 ((Dk.Away.refl (fun j=>Value.ownBlock (.slice (some ⟨g,0,none⟩) bs.length C)=some j) w).set (b:=g) (.inl rfl) _ _) (hs y),f.set k y hy⟩⟩
theorem zmq (h:Dk.Db W w bd bs rs us) (who:Int) (k x:Nat) (hk:k < bs.length) :
  Calls Tryz.prog 100 #[.pointer (some ⟨bd,0,none⟩),.agg #[.int .i64 who,.int .i64 (k:Int),.bool false,.int .u64 (x:Nat)]] w fun e w'=>e=.returned (.int .u64 (bs.getD k 0:Nat))∧Below w.heap.size w w':=by
 obtain ⟨W1,e1⟩:∃ W1,W1=w.alloc (.cells #[.int .i64 who,.int .i64 (k:Int),.bool false,.int .u64 (x:Nat)] 142):=⟨_,rfl⟩
 have h1:=Db.newBox h e1
 have b1:Dk.Box W1 w.heap.size #[.int .i64 who,.int .i64 (k:Int),.bool false,.int .u64 (x:Nat)] 142:=Db.box h1 (by simp)
 have u1:Below w.heap.size w W1:=by rw [e1];exact Dk.zb (Below.refl _ _) _
 have c1:W1.cell? ⟨w.heap.size,1,none⟩=some (.int .i64 (k:Int)):=b1.cell 1
 have c2:W1.cell? ⟨w.heap.size,2,none⟩=some (.bool false):=b1.cell 2
 obtain ⟨g,C,c0,hC,hm,cg,_,_⟩:=Db.write h1 k hk 0 (by decide)
 unfold maxLen at hm
 have HE:Hid (w.alloc (.cells #[.int .i64 who,.int .i64 (k:Int),.bool false,.int .u64 (x:Nat)] 142)=W1):=e1.symm
 have HU:Hid (Below w.heap.size w W1):=u1
 clear e1 h1 b1 h u1
 generalize bs.getD k 0=y at *
 generalize bs.length=n at *
 have hkn:(k:Int) < (n:Int):=by omega
 go_enter Tryz.func100,Tryz.ntmps100
 go_wp2_with (rw [HE.out];clear HE)
 go_quiet (fail)
 go_wp2_with fail
 go_ret
 exact ⟨rfl,Dk.zx HU.out _⟩
theorem zj5 (h:Dk.Db W w bd bs rs us) (who:Int) (k x:Nat) (hk:k < bs.length) (hx:x < 2 ^ 64) :
  Calls Tryz.prog 100 #[.pointer (some ⟨bd,0,none⟩),.agg #[.int .i64 who,.int .i64 (k:Int),.bool true,.int .u64 (x:Nat)]] w fun e w'=>e=.returned (.int .u64 0)∧Dk.Db W w' bd (bs.set k x) rs us:=by
 obtain ⟨W1,e1⟩:∃ W1,W1=w.alloc (.cells #[.int .i64 who,.int .i64 (k:Int),.bool true,.int .u64 (x:Nat)] 142):=⟨_,rfl⟩
 have h1:=Db.newBox h e1
 have b1:Dk.Box W1 w.heap.size #[.int .i64 who,.int .i64 (k:Int),.bool true,.int .u64 (x:Nat)] 142:=Db.box h1 (by simp)
 have c2:W1.cell? ⟨w.heap.size,2,none⟩=some (.bool true):=b1.cell 2
 have h2:=h1.below (Dk.zh (Below.refl _ _))
 obtain ⟨g,C,c0,hC,hm,cg,fg,h3⟩:=Db.write h2 k hk x hx
 unfold maxLen at hm
 have b3:Dk.Box (W1.drew.setCell ⟨g,k,none⟩ (.int .u64 (x:Nat))) w.heap.size #[.int .i64 who,.int .i64 (k:Int),.bool true,.int .u64 (x:Nat)] 142:=Db.box h3 (by simp)
 have c3:(W1.drew.setCell ⟨g,k,none⟩ (.int .u64 (x:Nat))).cell? ⟨bd,0,none⟩=some (.slice (some ⟨g,0,none⟩) bs.length C):=by
  obtain ⟨v1,v2,t,f⟩:=Hid.out h2
  have q:=t.head
  have e0:=q.cell 0
  rw [c0] at e0
  have ev:v1=.slice (some ⟨g,0,none⟩) bs.length C:=by simpa using e0.symm
  have hne:=t.ne1
  rw [ev] at hne
  have hb:bd≠g:=fun e=>hne (by rw [e];rfl)
  rw [(q.zn hb k _).cell,← ev]
  rfl
 have hS:(fun w':World=>w'.cell? ⟨bd,0,none⟩=some (.slice (some ⟨g,0,none⟩) bs.length C)∧w'.cell? ⟨w.heap.size,1,none⟩=some (.int .i64 (k:Int))∧w'.cell? ⟨w.heap.size,3,none⟩=some (.int .u64 (x:Nat))) W1.drew:=⟨c0,b1.drew.cell 1,b1.drew.cell 3⟩
 have HS:Hid _:=hS
 have HT:Hid ((W1.drew.setCell ⟨g,k,none⟩ (.int .u64 (x:Nat))).cell? ⟨bd,0,none⟩=some (.slice (some ⟨g,0,none⟩) bs.length C)∧(W1.drew.setCell ⟨g,k,none⟩ (.int .u64 (x:Nat))).cell? ⟨w.heap.size,1,none⟩=some (.int .i64 (k:Int))∧(W1.drew.setCell ⟨g,k,none⟩ (.int .u64 (x:Nat))).cell? ⟨w.heap.size,3,none⟩=some (.int .u64 (x:Nat))):=⟨c3,b3.cell 1,b3.cell 3⟩
 have h4:=Db.drop h3
 have HD:Hid (Dk.Db W (W1.drew.setCell ⟨g,k,none⟩ (.int .u64 (x:Nat))) bd (bs.set k x) rs us):=h4
 have HE:Hid (w.alloc (.cells #[.int .i64 who,.int .i64 (k:Int),.bool true,.int .u64 (x:Nat)] 142)=W1):=e1.symm
 clear e1 h1 b1 h h2 h3 h4 b3 hS c0 c3 hx
 generalize hb0:bs.set k x=bs' at *
 clear hb0
 generalize bs.getD k 0=y at *
 generalize bs.length=n at *
 have hkn:(k:Int) < (n:Int):=by omega
 go_enter Tryz.func100,Tryz.ntmps100
 go_wp2_with (rw [HE.out];clear HE)
 refine Dk.zf (S:=fun w'=>w'.cell? ⟨bd,0,none⟩=some (.slice (some ⟨g,0,none⟩) n C)∧w'.cell? ⟨w.heap.size,1,none⟩=some (.int .i64 (k:Int))∧w'.cell? ⟨w.heap.size,3,none⟩=some (.int .u64 (x:Nat))) [0,1,2,3,4,5,6,7,8] [9] (by kernel_rfl) (by kernel_rfl) HS.out ?_
 refine Dk.za (v:=.pointer (some ⟨bd,0,none⟩)) rfl rfl (fun w' hw'=>by go_simp) ?_
 simp only [zD]
 refine Dk.za (v:=.pointer (some ⟨bd,0,none⟩)) rfl rfl (fun w' hw'=>by go_simp) ?_
 simp only [zD]
 refine Dk.za (v:=.pointer (some ⟨bd,0,none⟩)) rfl rfl (fun w' hw'=>by go_simp) ?_
 simp only [zD]
 refine Dk.za (v:=.slice (some ⟨g,0,none⟩) n C) rfl rfl (fun w' hw'=>by have:=hw'.1;go_simp) ?_
 simp only [zD]
 refine Dk.za (v:=.pointer (some ⟨w.heap.size,1,none⟩)) rfl rfl (fun w' hw'=>by go_simp) ?_
 simp only [zD]
 refine Dk.za (v:=.int .i64 (k:Int)) rfl rfl (fun w' hw'=>by have:=hw'.2.1;go_simp) ?_
 simp only [zD]
 refine Dk.za (v:=.pointer (some ⟨w.heap.size,3,none⟩)) rfl rfl (fun w' hw'=>by go_simp) ?_
 simp only [zD]
 refine Dk.za (v:=.int .u64 (x:Nat)) rfl rfl (fun w' hw'=>by have:=hw'.2.2;go_simp) ?_
 simp only [zD]
 refine Dk.za (v:=.pointer (some ⟨g,k,none⟩)) rfl rfl (fun w' hw'=>by go_simp) ?_
 simp only [zD]
 refine Dk.zk rfl rfl ?_
 refine wp_skip (w':=W1.drew.setCell ⟨g,k,none⟩ (.int .u64 (x:Nat))) (by go_simp) ⟨HT.out,?_⟩
 simp only [zD]
 rename_i hK
 refine hK _ _ ?_
 generalize W1.drew.setCell ⟨g,k,none⟩ (.int .u64 (x:Nat))=W2 at *
 go_wp2_with fail
 go_ret
 exact ⟨rfl,HD.out⟩
end
end Go.Proofs.YtglhhlfopccmaaaGreat
namespace Dk
open Go
def at_K (k:Int) (n:Nat):Nat:=(k % (n:Int)).toNat
theorem zkm (k:Int) {n:Nat} (h:0 < n):at_K k n < n:=by
 unfold at_K
 have h1:=Int.emod_nonneg k (show (n:Int)≠0 by omega)
 have h2:=Int.emod_lt_of_pos k (show (0:Int) < n by omega)
 omega
theorem at_eqK (k:Int) {n:Nat} (h:0 < n):(at_K k n:Int)=k % (n:Int):=by
 unfold at_K
 have h1:=Int.emod_nonneg k (show (n:Int)≠0 by omega)
 omega
theorem tmod_leK (k:Int) {n:Nat} (h:0 < n):-(n:Int) < k.tmod n∧k.tmod n < n:=by
 have h1:=Int.tmod_lt_of_pos k (show (0:Int) < n by omega)
 have h2:=Int.lt_tmod_of_pos k (show (0:Int) < n by omega)
 exact ⟨h2,h1⟩
theorem zmy (k:Int) (n:Nat):(k.tmod n) % (n:Int)=k % (n:Int):=by
 have h:=Int.tmod_add_mul_tdiv k n
 conv=>rhs;rw [← h]
 rw [Int.add_mul_emod_self_left]
theorem at_upK (k:Int) {n:Nat} (h:0 < n):(k.tmod n+n) % (n:Int)=(at_K k n:Int):=by
 rw [at_eqK k h,← zmy k n,Int.add_emod_right]
end Dk
namespace Go.Proofs.YtglhhlfopccmaaaGreat
open Go.RowKit Go.Lib
section
variable {W w w' : World} {bd : Nat} {bs : List Nat} {rs : List Dk.Rq} {us us' us1 us2 : List Dk.Thing}
theorem req_at {B k:Nat} {v:Value} {rs:List Dk.Rq} (hr:w.ownsRow B 142 4 v rs.length (Dk.rqs rs)) (hk:k < rs.length):∃ g C,v=.slice (some ⟨g,0,none⟩) rs.length C∧rs.length≤C∧C≤maxLen∧g < w.heap.size∧∀ j,j < 4→w.cell? ⟨g,k*4+j,none⟩=(rs.getD k Dk.Rq.zero).cells[j]?:=by
 obtain ⟨_,⟨_,h0⟩ | ⟨g,cap,cur,rfl,hb,hgg,h1,h2,h3,h4⟩⟩:=id hr
 ·omega
 refine ⟨g,cap,rfl,h1,h2,(Array.getElem?_eq_some_iff.1 hgg).1,fun j hj=>?_⟩
 have q:=Dk.zj3 rs k hk j hj
 cases e:(rs.getD k Dk.Rq.zero).cells[j]? with
 | none=>rw [List.getElem?_eq_none_iff] at e;simp [Dk.Rq.cells] at e;omega
 | some u=>
  rw [e] at q
  have hc:=hr.cells (g:=g) rfl _ _ q
  rw [Addr.add_lit,Nat.zero_add] at hc
  exact hc
theorem Db.cut (h:Dk.Db W w bd bs rs us) (k:Nat) (hk:k < rs.length):∃ g C,w.cell? ⟨bd,1,none⟩=some (.slice (some ⟨g,0,none⟩) rs.length C)∧
  Calls Tryz.prog 132 #[.slice (some ⟨g,0,none⟩) rs.length C,.int .i64 (k:Int),.int .i64 ((k:Int)+1)] w fun e w'=>∃ A' n' C',e=.returned (.slice A' n' C')∧w'.cell? ⟨bd,1,none⟩=some (.slice (some ⟨g,0,none⟩) rs.length C)∧w'.frozen? ⟨bd,1,none⟩=false∧Dk.Db W (w'.setCell ⟨bd,1,none⟩ (.slice A' n' C')) bd bs (rs.eraseIdx k) us:=by
 obtain ⟨v1,v2,t,f⟩:=Hid.out h
 obtain ⟨g,C,ev,h1,h2,hg,_⟩:=req_at t.row2 hk
 have hel:(rs.eraseIdx k).length=rs.length - 1:=by rw [List.length_eraseIdx,if_pos hk]
 have hr:=t.row2
 obtain ⟨n,hn⟩:∃ n,rs.length=n+1:=⟨rs.length - 1,by omega⟩
 have hr':=hr
 rw [hn] at hr'
 have K:=zli W.heap.size v2 (Dk.rqs rs) n k w hr' (by omega) (Dk.zj4 _)
 rw [ev,hn] at K
 subst ev
 refine ⟨g,C,t.head.cell 1,?_⟩
 rw [hn]
 refine K.mono ?_
 rintro e w' ⟨v',rfl,ho,hgr,hv⟩
 have hne:=t.ne2
 rw [hn] at hne
 have hb:Dk.Box w' bd #[v1,.slice (some ⟨g,0,none⟩) rs.length C] 174:=⟨by rw [hgr.block bd t.head.lt (fun e=>hne e.symm)];exact t.head.heap⟩
 obtain ⟨A',C',e',_,_⟩:=Dk.zc ho
 subst e'
 have ho':w'.ownsRow W.heap.size 142 4 (.slice A' n C') (rs.eraseIdx k).length (Dk.rqs (rs.eraseIdx k)):=by
  rw [Dk.zpt,hel,hn]
  exact ho
 have o2:=Dk.za3 ho' ((Dk.Away.refl (fun j=>j=bd) w').set (.inl rfl) 1 (.slice A' n C')) (fun j hj e=>by rw [hv,e] at hj;exact hne hj)
 have a2:Dk.Away (fun j=>j=bd∨Value.ownBlock (.slice (some ⟨g,0,none⟩) rs.length C)=some j) w (w'.setCell ⟨bd,1,none⟩ (.slice A' n C')):=
  (Dk.Away.zad hgr (fun j hj=>.inl (.inr hj))).set (.inl (.inl rfl)) _ _
 refine ⟨A',n,C',rfl,by rw [← hn];exact hb.cell 1,hb.frozen 1,⟨_,_,t.set2 a2 (hb.set 1 _) o2 (Dk.From.same _ hv),f.erase k⟩⟩
theorem take_any (h:Dk.Db W w bd bs rs us) (k:Int) (hi:Dk.i64 k) (hn:0 < rs.length) (hl:rs.length≤1000) (r:Dk.Rq) (hr:rs.getD (Dk.at_K k rs.length) Dk.Rq.zero=r) :
  Calls Tryz.prog 99 #[.pointer (some ⟨bd,0,none⟩),.int .i64 k] w fun e w'=>e=.returned (.agg #[.int .i64 r.who,.int .i64 r.block,.bool r.write,.int .u64 (r.x:Nat)])∧Dk.Db W w' bd bs (rs.eraseIdx (Dk.at_K k rs.length)) us:=by
 obtain ⟨hi1,hi2⟩:=hi
 have ha:=Dk.zkm k hn
 have q1:=Dk.tmod_leK k hn
 have q2:=Dk.at_upK k hn
 obtain ⟨a,ea⟩:∃ a,Dk.at_K k rs.length=a:=⟨_,rfl⟩
 rw [ea] at ha hr q2 ⊢
 clear ea
 obtain ⟨r1,r2,r3,r4⟩:=r
 show Calls Tryz.prog 99 #[.pointer (some ⟨bd,0,none⟩),.int .i64 k] w fun e w'=>e=.returned (.agg #[.int .i64 r1,.int .i64 r2,.bool r3,.int .u64 (r4:Nat)])∧Dk.Db W w' bd bs (rs.eraseIdx a) us
 -- the worlds
 obtain ⟨W1,e1⟩:∃ W1,W1=w.alloc (.cells #[.int .i64 0,.int .i64 0,.bool false,.int .u64 0] 142):=⟨_,rfl⟩
 have h1:=Db.newBox h e1
 have z1:W1.heap.size=w.heap.size+1:=by rw [e1];simp
 obtain ⟨W2,e2⟩:∃ W2,W2=W1.alloc (.cells #[.int .i64 0,.int .i64 0,.bool false,.int .u64 0] 142):=⟨_,rfl⟩
 have h2:=Db.newBox h1 e2
 rw [z1] at h2
 have b2:Dk.Box W2 (w.heap.size+1) #[.int .i64 0,.int .i64 0,.bool false,.int .u64 0] 142:=Db.box h2 (by simp)
 obtain ⟨W3,e3⟩:∃ W3,W3=W2.setRow (w.heap.size+1) #[.int .i64 r1,.int .i64 r2,.bool r3,.int .u64 (r4:Nat)]:=⟨_,rfl⟩
 have h3:=Db.setRow h2 e3
 -- what is read
 obtain ⟨g,C,c0,hC,hm,hcs⟩:∃ g C,W1.cell? ⟨bd,1,none⟩=some (.slice (some ⟨g,0,none⟩) rs.length C)∧rs.length≤C∧C≤maxLen∧∀ j,j < 4→W1.cell? ⟨g,a*4+j,none⟩=(Dk.Rq.cells ⟨r1,r2,r3,r4⟩)[j]?:=by
  obtain ⟨v1,v2,t,f⟩:=Hid.out h1
  obtain ⟨g,C,ev,q1,q2,_,q3⟩:=req_at t.row2 ha
  rw [hr] at q3
  subst ev
  exact ⟨g,C,t.head.cell 1,q1,q2,q3⟩
 unfold maxLen at hm
 have d0:W1.cell? ⟨g,a*4,none⟩=some (.int .i64 r1):=hcs 0 (by omega)
 have d1:W1.cell? ⟨g,a*4+1,none⟩=some (.int .i64 r2):=hcs 1 (by omega)
 have d2:W1.cell? ⟨g,a*4+2,none⟩=some (.bool r3):=hcs 2 (by omega)
 have d3:W1.cell? ⟨g,a*4+3,none⟩=some (.int .u64 (r4:Nat)):=hcs 3 (by omega)
 obtain ⟨g',C',c3,K⟩:=Db.cut h3 a ha
 have H1:Hid (w.alloc (.cells #[.int .i64 0,.int .i64 0,.bool false,.int .u64 0] 142)=W1):=e1.symm
 have H2:Hid (W1.alloc (.cells #[.int .i64 0,.int .i64 0,.bool false,.int .u64 0] 142)=W2):=e2.symm
 have H3:Hid (W2.setRow (w.heap.size+1) #[.int .i64 r1,.int .i64 r2,.bool r3,.int .u64 (r4:Nat)]=W3):=e3.symm
 have HB2:Hid (Dk.Box W2 (w.heap.size+1) #[.int .i64 0,.int .i64 0,.bool false,.int .u64 0] 142):=b2
 have HZ:Hid (W1.heap.size=w.heap.size+1):=z1
 generalize hrs:rs.eraseIdx a=rs' at *
 clear e1 e2 e3 h1 h2 h3 b2 h hcs hr z1 hrs
 generalize rs.length=n at *
 obtain ⟨q,eq⟩:∃ q,k.tmod (n:Int)=q:=⟨_,rfl⟩
 rw [eq] at q1 q2
 obtain ⟨q3,q4⟩:=q1
 have hnn:(n:Int)≠0:=by omega
 have hn0:¬ n=0:=by omega
 have han:(a:Int) < (n:Int):=by omega
 go_enter Tryz.func99,Tryz.ntmps99
 go_wp2_with (first | (rw [H1.out];clear H1) | (rw [H2.out,HZ.out];clear H2) | (refine wpList_store_row rfl 142 _ _ rfl (w.heap.size+1) #[.int .i64 r1,.int .i64 r2,.bool r3,.int .u64 (r4:Nat)] rfl rfl 142 _ HB2.out.heap zdy rfl (zcr _ _ _ _) ?_;rw [H3.out];clear HB2))
 refine K.mono ?_
 rintro e w4 ⟨A4,n4,C4,rfl,c4,f4,h5⟩
 obtain ⟨W5,e5⟩:∃ W5,W5=w4.setCell ⟨bd,1,none⟩ (.slice A4 n4 C4):=⟨_,rfl⟩
 rw [← e5] at h5
 have H5:Hid (w4.setCell ⟨bd,1,none⟩ (.slice A4 n4 C4)=W5):=e5.symm
 have b5:Dk.Box W5 (w.heap.size+1) #[.int .i64 r1,.int .i64 r2,.bool r3,.int .u64 (r4:Nat)] 142:=Db.box h5 (by simp)
 have x0:W5.cell? ⟨w.heap.size+1,0,none⟩=some (.int .i64 r1):=b5.cell 0
 have x1:W5.cell? ⟨w.heap.size+1,1,none⟩=some (.int .i64 r2):=b5.cell 1
 have x2:W5.cell? ⟨w.heap.size+1,2,none⟩=some (.bool r3):=b5.cell 2
 have x3:W5.cell? ⟨w.heap.size+1,3,none⟩=some (.int .u64 (r4:Nat)):=b5.cell 3
 have b6:Dk.Box W5 w.heap.size #[.int .i64 0,.int .i64 0,.bool false,.int .u64 0] 142:=Db.box h5 (by simp)
 have HB6:Hid (Dk.Box W5 w.heap.size #[.int .i64 0,.int .i64 0,.bool false,.int .u64 0] 142):=b6
 have h6:=Db.setRow (cs':=#[.int .i64 r1,.int .i64 r2,.bool r3,.int .u64 (r4:Nat)]) (Db.drop h5) rfl
 have h7:=Db.drop h6
 clear e5 h5 b5 b6 h6 K d0 d1 d2 d3 c0 c3
 go_wp2_with (first | (rw [H5.out];clear H5) | (refine wpList_store_row rfl 142 _ _ rfl w.heap.size #[.int .i64 r1,.int .i64 r2,.bool r3,.int .u64 (r4:Nat)] rfl rfl 142 _ HB6.out.heap zdy rfl (zcr _ _ _ _) ?_))
 have d2:=(HB6.out.row (cs':=#[.int .i64 r1,.int .i64 r2,.bool r3,.int .u64 (r4:Nat)])).cell
 exact bodyPost_ret (v:=.agg #[.int .i64 r1,.int .i64 r2,.bool r3,.int .u64 (r4:Nat)]) (by simp [results,Tryz.results99,go_sem,d2]) rfl ⟨rfl,h7⟩
end
section
variable {W w w' : World} {bd : Nat} {bs : List Nat} {rs : List Dk.Rq} {us us' us1 us2 : List Dk.Thing}
theorem Db.more (h:Dk.Db W w bd bs rs us) (r:Dk.Rq) (hr:r.ok) (hb:0≤r.block∧r.block < bs.length) (hl:rs.length≤1000) :
  ∃ A n C A' n' C' w',w.cell? ⟨bd,1,none⟩=some (.slice A n C)∧(Builtin.append_ #[172,172] 172 #[.slice A n C,.slice (some ⟨w.heap.size,0,none⟩) 1 1]).run Tryz.prog (w.alloc (.cells #[.int .i64 r.who,.int .i64 r.block,.bool r.write,.int .u64 (r.x:Nat)] 142))=.ok (.slice A' n' C') w'∧w'.cell? ⟨bd,1,none⟩=some (.slice A n C)∧w'.frozen? ⟨bd,1,none⟩=false∧Dk.Db W (w'.setCell ⟨bd,1,none⟩ (.slice A' n' C')) bd bs (rs++[r]) us:=by
 obtain ⟨v1,v2,t,ft⟩:=Hid.out h
 obtain ⟨W1,e1⟩:∃ W1,W1=w.alloc (.cells #[.int .i64 r.who,.int .i64 r.block,.bool r.write,.int .u64 (r.x:Nat)] 142):=⟨_,rfl⟩
 have u1:Below w.heap.size w W1:=by rw [e1];exact Dk.zb (Below.refl _ _) _
 have b1:Dk.Box W1 w.heap.size #[.int .i64 r.who,.int .i64 r.block,.bool r.write,.int .u64 (r.x:Nat)] 142:=by rw [e1];exact Dk.Box.new _ _ _
 have t1:=t.below u1
 obtain ⟨A,C,ev,_,_⟩:=Dk.zc t.row2
 obtain ⟨v',w',hrun,ho,hg,hf,_⟩:=K26K.append W.heap.size 172 v2 _ _ W1 t1.row2 ⟨w.heap.size,0,none⟩ 1 1 r.cells rfl (fun j u hj=>by
  rw [Addr.add_lit,Nat.zero_add,b1.cell]
  simpa [Dk.Rq.cells] using hj) (fun u hu=>Dk.zj4 [r] u (by simpa [Dk.rqs] using hu)) (by omega) t1.up.size
 have ho':w'.ownsRow W.heap.size 142 4 v' (rs++[r]).length (Dk.rqs (rs++[r])):=by
  rw [List.length_append,Dk.zdz]
  simpa [Dk.rqs] using ho
 obtain ⟨A',C',ev',_,_⟩:=Dk.zc ho
 have hb':Dk.Box w' bd #[v1,v2] 174:=⟨by rw [hg.block bd t1.head.lt (fun e=>t1.ne2 e.symm)];exact t1.head.heap⟩
 rw [← e1]
 subst ev'
 have o2:=Dk.za3 ho' ((Dk.Away.refl (fun k=>k=bd) w').set (.inl rfl) 1 (.slice A' (rs.length+1) C')) (fun k hk e=>by
  rcases hf k hk with q | q
  ·rw [e] at q;exact t1.ne2 q
  ·have:=t1.head.lt;omega)
 have a2:Dk.Away (fun k=>k=bd∨v2.ownBlock=some k) W1 (w'.setCell ⟨bd,1,none⟩ (.slice A' (rs.length+1) C')):=(Dk.Away.zad hg (fun k hk=>.inl (.inr hk))).set (.inl (.inl rfl)) _ _
 have T:=t1.set2 a2 (hb'.set 1 _) o2 hf
 subst ev
 exact ⟨_,_,_,_,_,_,w',t.head.cell 1,hrun,hb'.cell 1,hb'.frozen 1,⟨_,_,T,ft.add hr hb⟩⟩
theorem Ask_arg (h:Dk.Db W w bd bs rs us) (a b:Int) (c:Bool) (d:Nat) (hb:b < 0∨(bs.length:Int)≤b) :
  Calls Tryz.prog 161 #[.pointer (some ⟨bd,0,none⟩),.agg #[.int .i64 a,.int .i64 b,.bool c,.int .u64 (d:Nat)]] w fun e w'=>e=.returned (.int .i64 1)∧Dk.Db W w' bd bs rs us:=by
 obtain ⟨W1,e1⟩:∃ W1,W1=w.alloc (.cells #[.int .i64 a,.int .i64 b,.bool c,.int .u64 (d:Nat)] 142):=⟨_,rfl⟩
 have h1:=Db.newBox h e1
 have b1:Dk.Box W1 w.heap.size #[.int .i64 a,.int .i64 b,.bool c,.int .u64 (d:Nat)] 142:=Db.box h1 (by simp)
 have c1:W1.cell? ⟨w.heap.size,1,none⟩=some (.int .i64 b):=b1.cell 1
 have HE:Hid (w.alloc (.cells #[.int .i64 a,.int .i64 b,.bool c,.int .u64 (d:Nat)] 142)=W1):=e1.symm
 have K:=Block_no h1 b hb
 have h2:=Db.drop h1
 clear e1 b1 h h1 hb
 go_enter Tryz.func161,Tryz.ntmps161
 go_wp2_with (rw [HE.out];clear HE)
 refine K.mono ?_
 rintro e w' ⟨rfl,hw'⟩
 subst w'
 go_wp2_with fail
 go_ret
 exact ⟨rfl,h2⟩
theorem Ask_busy (h:Dk.Db W w bd bs rs us) (a:Int) (b:Nat) (c:Bool) (d:Nat) (hb:b < bs.length) (hw:Dk.waitsK rs a=true) :
  Calls Tryz.prog 161 #[.pointer (some ⟨bd,0,none⟩),.agg #[.int .i64 a,.int .i64 (b:Int),.bool c,.int .u64 (d:Nat)]] w fun e w'=>e=.returned (.int .i64 4)∧Dk.Db W w' bd bs rs us:=by
 obtain ⟨W1,e1⟩:∃ W1,W1=w.alloc (.cells #[.int .i64 a,.int .i64 (b:Int),.bool c,.int .u64 (d:Nat)] 142):=⟨_,rfl⟩
 have h1:=Db.newBox h e1
 have b1:Dk.Box W1 w.heap.size #[.int .i64 a,.int .i64 (b:Int),.bool c,.int .u64 (d:Nat)] 142:=Db.box h1 (by simp)
 have c0:W1.cell? ⟨w.heap.size,0,none⟩=some (.int .i64 a):=b1.cell 0
 have c1:W1.cell? ⟨w.heap.size,1,none⟩=some (.int .i64 (b:Int)):=b1.cell 1
 have HE:Hid (w.alloc (.cells #[.int .i64 a,.int .i64 (b:Int),.bool c,.int .u64 (d:Nat)] 142)=W1):=e1.symm
 have K:=zhv h1 b hb
 have K2:=zgn h1 a
 rw [hw] at K2
 have h2:=Db.drop h1
 clear e1 b1 h h1 hb hw
 go_enter Tryz.func161,Tryz.ntmps161
 go_wp2_with (rw [HE.out];clear HE)
 refine K.mono ?_
 rintro e w' ⟨rfl,hw'⟩
 subst w'
 go_wp2_with fail
 refine K2.mono ?_
 rintro e w2 ⟨rfl,u2⟩
 have h3:=h2.below u2
 clear u2 h2
 go_wp2_with fail
 go_ret
 exact ⟨rfl,h3⟩
theorem Ask_ok (h:Dk.Db W w bd bs rs us) (a:Int) (b:Nat) (c:Bool) (d:Nat) (hb:b < bs.length) (hw:Dk.waitsK rs a=false) (hok:Dk.Rq.ok ⟨a,b,c,d⟩) (hl:rs.length≤1000) :
  Calls Tryz.prog 161 #[.pointer (some ⟨bd,0,none⟩),.agg #[.int .i64 a,.int .i64 (b:Int),.bool c,.int .u64 (d:Nat)]] w fun e w'=>e=.returned (.int .i64 0)∧Dk.Db W w' bd bs (rs++[⟨a,b,c,d⟩]) us:=by
 obtain ⟨W1,e1⟩:∃ W1,W1=w.alloc (.cells #[.int .i64 a,.int .i64 (b:Int),.bool c,.int .u64 (d:Nat)] 142):=⟨_,rfl⟩
 have h1:=Db.newBox h e1
 have b1:Dk.Box W1 w.heap.size #[.int .i64 a,.int .i64 (b:Int),.bool c,.int .u64 (d:Nat)] 142:=Db.box h1 (by simp)
 have c0:W1.cell? ⟨w.heap.size,0,none⟩=some (.int .i64 a):=b1.cell 0
 have c1:W1.cell? ⟨w.heap.size,1,none⟩=some (.int .i64 (b:Int)):=b1.cell 1
 have HE:Hid (w.alloc (.cells #[.int .i64 a,.int .i64 (b:Int),.bool c,.int .u64 (d:Nat)] 142)=W1):=e1.symm
 have K:=zhv h1 b hb
 have K2:=zgn h1 a
 rw [hw] at K2
 have HB:Hid (0≤(b:Int)∧(b:Int) < bs.length):=⟨by omega,by omega⟩
 clear e1 b1 h hb hw
 go_enter Tryz.func161,Tryz.ntmps161
 go_wp2_with (rw [HE.out];clear HE)
 refine K.mono ?_
 rintro e w' ⟨rfl,hw'⟩
 subst w'
 go_wp2_with fail
 refine K2.mono ?_
 rintro e w2 ⟨rfl,u2⟩
 have h3:=h1.below u2
 clear u2 h1 K K2 c0 c1
 -- the drawn statement
 have h6:=h3.below (Dk.zh (Below.refl _ _))
 have b6:Dk.Box w2.drew w.heap.size #[.int .i64 a,.int .i64 (b:Int),.bool c,.int .u64 (d:Nat)] 142:=Db.box h6 (by simp)
 obtain ⟨A,n,C,A',n',C',w7,k1,r1,d1,f1,h7⟩:=Db.more h6 ⟨a,b,c,d⟩ hok HB.out hl
 have b7:Dk.Box w7 w.heap.size #[.int .i64 a,.int .i64 (b:Int),.bool c,.int .u64 (d:Nat)] 142:=by
  have hne:w.heap.size≠bd:=by
   obtain ⟨v1,v2,t,_⟩:=Hid.out h6
   have q:=(List.pairwise_cons.1 (Hid.out t).apart).1 (Dk.boxOf w.heap.size #[.int .i64 a,.int .i64 (b:Int),.bool c,.int .u64 (d:Nat)] 142) (by simp)
   exact fun e=>q bd rfl e.symm
  have q:Dk.Box (w7.setCell ⟨bd,1,none⟩ (.slice A' n' C')) w.heap.size #[.int .i64 a,.int .i64 (b:Int),.bool c,.int .u64 (d:Nat)] 142:=Db.box h7 (by simp)
  refine ⟨?_⟩
  have:=q.heap
  rwa [Below.heap_setCell w7 ⟨bd,1,none⟩ _ w.heap.size (fun e=>hne (by simpa using e))] at this
 have HK:Hid (w2.drew.cell? ⟨bd,1,none⟩=some (.slice A n C)∧w2.drew.cell? ⟨w.heap.size,0,none⟩=some (.int .i64 a)∧w2.drew.cell? ⟨w.heap.size,1,none⟩=some (.int .i64 (b:Int))∧w2.drew.cell? ⟨w.heap.size,2,none⟩=some (.bool c)∧w2.drew.cell? ⟨w.heap.size,3,none⟩=some (.int .u64 (d:Nat))):=⟨k1,b6.cell 0,b6.cell 1,b6.cell 2,b6.cell 3⟩
 have HS:Hid (w7.cell? ⟨bd,1,none⟩=some (.slice A n C)∧w7.cell? ⟨w.heap.size,0,none⟩=some (.int .i64 a)∧w7.cell? ⟨w.heap.size,1,none⟩=some (.int .i64 (b:Int))∧w7.cell? ⟨w.heap.size,2,none⟩=some (.bool c)∧w7.cell? ⟨w.heap.size,3,none⟩=some (.int .u64 (d:Nat))):=⟨d1,b7.cell 0,b7.cell 1,b7.cell 2,b7.cell 3⟩
 have HF:Hid (w7.frozen? ⟨bd,1,none⟩=false):=f1
 have HR:Hid _:=r1
 have h8:=Db.drop h7
 obtain ⟨W7,e7⟩:∃ W7,W7=w7.setCell ⟨bd,1,none⟩ (.slice A' n' C'):=⟨_,rfl⟩
 rw [← e7] at h8
 have H7:Hid (w7.setCell ⟨bd,1,none⟩ (.slice A' n' C')=W7):=e7.symm
 clear h3 h6 h7 b6 b7 k1 r1 d1 f1 e7 hok HB
 go_wp2_with fail
 refine Dk.zbs (z:=10) (S:=fun w'=>w'.cell? ⟨bd,1,none⟩=some (.slice A n C)∧w'.cell? ⟨w.heap.size,0,none⟩=some (.int .i64 a)∧w'.cell? ⟨w.heap.size,1,none⟩=some (.int .i64 (b:Int))∧w'.cell? ⟨w.heap.size,2,none⟩=some (.bool c)∧w'.cell? ⟨w.heap.size,3,none⟩=some (.int .u64 (d:Nat))) [0,1,2,3,4,5] [6,7,8,9,10] (by kernel_rfl) (by kernel_rfl) (by kernel_rfl) HK.out ?_
 refine Dk.za (v:=.pointer (some ⟨bd,0,none⟩)) rfl rfl (fun w' hw'=>by go_simp) ?_
 simp only [zD]
 refine Dk.za (v:=.pointer (some ⟨bd,0,none⟩)) rfl rfl (fun w' hw'=>by go_simp) ?_
 simp only [zD]
 refine Dk.za (v:=.pointer (some ⟨bd,0,none⟩)) rfl rfl (fun w' hw'=>by go_simp) ?_
 simp only [zD]
 refine Dk.za (v:=.pointer (some ⟨bd,1,none⟩)) rfl rfl (fun w' hw'=>by go_simp) ?_
 simp only [zD]
 refine Dk.za (v:=.slice A n C) rfl rfl (fun w' hw'=>by have:=hw'.1;go_simp) ?_
 simp only [zD]
 refine Dk.za (v:=.agg #[.int .i64 a,.int .i64 (b:Int),.bool c,.int .u64 (d:Nat)]) rfl rfl (fun w' hw'=>by obtain ⟨_,q0,q1,q2,q3⟩:=hw';go_simp) ?_
 simp only [zD]
 obtain ⟨W6,e6⟩:∃ W6,W6=w2.drew.alloc (.cells #[.int .i64 a,.int .i64 (b:Int),.bool c,.int .u64 (d:Nat)] 142):=⟨_,rfl⟩
 have S6:W6.cell? ⟨bd,1,none⟩=some (.slice A n C)∧W6.cell? ⟨w.heap.size,0,none⟩=some (.int .i64 a)∧W6.cell? ⟨w.heap.size,1,none⟩=some (.int .i64 (b:Int))∧W6.cell? ⟨w.heap.size,2,none⟩=some (.bool c)∧W6.cell? ⟨w.heap.size,3,none⟩=some (.int .u64 (d:Nat)):=by
  rw [e6]
  obtain ⟨q,q0,q1,q2,q3⟩:=HK.out
  exact ⟨Lib.cell?_alloc_some _ q,Lib.cell?_alloc_some _ q0,Lib.cell?_alloc_some _ q1,Lib.cell?_alloc_some _ q2,Lib.cell?_alloc_some _ q3⟩
 refine Dk.zal (v:=.slice (some ⟨w2.drew.heap.size,0,none⟩) 1 1) (w':=W6) rfl rfl (by rw [e6];go_simp) (fun _=>S6) ?_
 simp only [zD]
 have r6:=HR.out
 rw [← e6,show w2.drew.heap.size=w2.heap.size from rfl] at r6
 refine Dk.zal (v:=(.slice A' n' C')) (w':=w7) rfl rfl (by simp only [execOp,resolve,invoke,builtin];simp [Act.eval,r6]) (fun _=>HS.out) ?_
 simp only [zD]
 refine Dk.zal (v:=.pointer (some ⟨bd,0,none⟩)) (w':=w7) rfl rfl (by go_simp) (fun _=>HS.out) ?_
 simp only [zD]
 refine Dk.zal (v:=.pointer (some ⟨bd,1,none⟩)) (w':=w7) rfl rfl (by go_simp) (fun _=>HS.out) ?_
 simp only [zD]
 refine Dk.zdu (w':=W7) rfl rfl (by rw [← H7.out];have q1:=HS.out.1;have q2:=HF.out;go_simp) (fun h=>absurd rfl h) ?_
 simp only [zD]
 rename_i hK
 refine hK _ _ ?_
 clear r6 S6 e6 HR HK HS HF H7 hK
 go_wp2_with fail
 go_ret
 exact ⟨rfl,h8⟩
end
end Go.Proofs.YtglhhlfopccmaaaGreat
namespace Dk
open Go
def Rq.said (r:Rq) (bs:List Nat):Nat:=if r.write then 0 else bs.getD r.block.toNat 0
def Rq.left (r:Rq) (bs:List Nat):List Nat:=if r.write then bs.set r.block.toNat r.x else bs
theorem zmc {P:Go.Program} {S:World→Prop} {Q:Exit→Act→World→Prop} {L:List Oper} {j:Nat} {js:List Nat} {a:Act} {w:World} {o:Oper} {f:FuncId} {args:Array Value} (ho:L[j]? = some o) (hg:o.guard=none)
  (hr:(execOp a.eval o).run P w=.ok (.enter f args) w) (hc:Calls P f args w fun e w'=>∃ v,e=.returned v∧S w'∧lineWalk P L.toArray Q S js (a.put o.dst v) w'):lineWalk P L.toArray Q S (j::js) a w:=by
 refine zk ho hg ?_
 unfold Oper.wp
 rw [hr]
 simp only [Oper.upon]
 refine Calls.mono hc ?_
 rintro e w' ⟨v,rfl,h⟩
 exact h
end Dk
namespace Go.Proofs.YtglhhlfopccmaaaGreat
open Go.RowKit Go.Lib
section
variable {W w w' : World} {bd : Nat} {bs : List Nat} {rs : List Dk.Rq} {us us' us1 us2 : List Dk.Thing}
theorem zix (h:Dk.Db W w bd bs rs us) (r:Dk.Rq) (hr:r.ok) (hb:0≤r.block∧r.block < bs.length) :
  Calls Tryz.prog 100 #[.pointer (some ⟨bd,0,none⟩),.agg #[.int .i64 r.who,.int .i64 r.block,.bool r.write,.int .u64 (r.x:Nat)]] w fun e w'=>e=.returned (.int .u64 (r.said bs:Nat))∧Dk.Db W w' bd (r.left bs) rs us:=by
 obtain ⟨who,block,write,x⟩:=r
 obtain ⟨k,rfl⟩:∃ k:Nat,block=k:=⟨block.toNat,(Int.toNat_of_nonneg hb.1).symm⟩
 have hk:k < bs.length:=by have:=hb.2;simpa using this
 cases write
 ·refine (zmq h who k x hk).mono ?_
  rintro e w' ⟨rfl,u⟩
  exact ⟨rfl,h.below u⟩
 ·refine (zj5 h who k x hk hr.2.2).mono ?_
  rintro e w' ⟨rfl,h'⟩
  exact ⟨rfl,h'⟩
theorem zm5 (h:Dk.Db W w bd bs [] us) (k:Int):Calls Tryz.prog 68 #[.pointer (some ⟨bd,0,none⟩),.int .i64 k] w fun e w'=>e=.returned (.tuple #[.agg #[.int .i64 0,.int .i64 0,.bool false,.int .u64 0],.int .u64 0,.bool false])∧Dk.Db W w' bd bs [] us:=by
 obtain ⟨W1,e1⟩:∃ W1,W1=w.alloc (.cells #[.int .i64 0,.int .i64 0,.bool false,.int .u64 0] 142):=⟨_,rfl⟩
 have h1:=Db.newBox h e1
 have b1:Dk.Box W1 w.heap.size #[.int .i64 0,.int .i64 0,.bool false,.int .u64 0] 142:=Db.box h1 (by simp)
 obtain ⟨A,C,c1⟩:∃ A C,W1.cell? ⟨bd,1,none⟩=some (.slice A 0 C):=by
  obtain ⟨v1,v2,t,f⟩:=Hid.out h1
  obtain ⟨A,C,ev,_,_⟩:=Dk.zc t.row2
  subst ev
  exact ⟨A,C,t.head.cell 1⟩
 have HB:Hid (Dk.Box W1 w.heap.size #[.int .i64 0,.int .i64 0,.bool false,.int .u64 0] 142):=b1
 have H1:Hid (w.alloc (.cells #[.int .i64 0,.int .i64 0,.bool false,.int .u64 0] 142)=W1):=e1.symm
 have h2:=Db.drop (Db.setRow (cs':=#[.int .i64 0,.int .i64 0,.bool false,.int .u64 0]) h1 rfl)
 clear e1 h1 b1 h
 go_enter Tryz.func68,Tryz.ntmps68
 go_wp2_with (first | (rw [H1.out];clear H1) | (refine wpList_store_row rfl 142 _ _ rfl w.heap.size #[.int .i64 0,.int .i64 0,.bool false,.int .u64 0] rfl rfl 142 _ HB.out.heap zdy rfl (zcr _ _ _ _) ?_))
 have d0:=(HB.out.row (cs':=#[.int .i64 0,.int .i64 0,.bool false,.int .u64 0])).cell
 exact bodyPost_ret (v:=.tuple #[.agg #[.int .i64 0,.int .i64 0,.bool false,.int .u64 0],.int .u64 0,.bool false]) (by simp [results,Tryz.results68,go_sem,d0]) rfl ⟨rfl,h2⟩
theorem Done_any (h:Dk.Db W w bd bs rs us) (k:Int) (hi:Dk.i64 k) (hn:0 < rs.length) (hl:rs.length≤1000) (r:Dk.Rq) (hr:rs.getD (Dk.at_K k rs.length) Dk.Rq.zero=r) :
  Calls Tryz.prog 68 #[.pointer (some ⟨bd,0,none⟩),.int .i64 k] w fun e w'=>e=.returned (.tuple #[.agg #[.int .i64 r.who,.int .i64 r.block,.bool r.write,.int .u64 (r.x:Nat)],.int .u64 (r.said bs:Nat),.bool true])∧Dk.Db W w' bd (r.left bs) (rs.eraseIdx (Dk.at_K k rs.length)) us:=by
 obtain ⟨W1,e1⟩:∃ W1,W1=w.alloc (.cells #[.int .i64 0,.int .i64 0,.bool false,.int .u64 0] 142):=⟨_,rfl⟩
 have h1:=Db.newBox h e1
 obtain ⟨A,C,c1⟩:∃ A C,W1.cell? ⟨bd,1,none⟩=some (.slice A rs.length C):=by
  obtain ⟨v1,v2,t,f⟩:=Hid.out h1
  obtain ⟨A,C,ev,_,_⟩:=Dk.zc t.row2
  subst ev
  exact ⟨A,C,t.head.cell 1⟩
 have K:=take_any h1 k hi hn hl r hr
 have hmem:r ∈ rs:=by rw [← hr];exact Dk.zig _ _ _ (Dk.zkm k hn)
 have hok:=h.fit.reqs r hmem
 have hbl:=h.fit.there r hmem
 have H1:Hid (w.alloc (.cells #[.int .i64 0,.int .i64 0,.bool false,.int .u64 0] 142)=W1):=e1.symm
 have HO:Hid (r.ok∧0≤r.block∧r.block < bs.length):=⟨hok,hbl⟩
 generalize hrs:rs.eraseIdx (Dk.at_K k rs.length)=rs' at *
 clear e1 h1 h hr hmem hok hbl hrs
 generalize rs.length=n at *
 have hn0:¬ n=0:=by omega
 have hn1:¬ (n:Int)=0:=by omega
 have y1:decide ((n:Int)=0)=false:=by simp;omega
 have y2:decide (n=0)=false:=by simp;omega
 have y3:((n:Int) == 0)=false:=by simp;omega
 have y4:(n == 0)=false:=by simp;omega
 have HS:=@zix
 obtain ⟨r1,r2,r3,r4⟩:=r
 simp only at K HO ⊢
 go_enter Tryz.func68,Tryz.ntmps68
 go_wp2_with (rw [H1.out];clear H1)
 refine K.mono ?_
 rintro e w2 ⟨rfl,h2⟩
 clear K c1
 obtain ⟨W3,e3⟩:∃ W3,W3=w2.alloc (.cells #[.int .i64 0,.int .i64 0,.bool false,.int .u64 0] 142):=⟨_,rfl⟩
 have h3:=Db.newBox h2 e3
 have b3:Dk.Box W3 w2.heap.size #[.int .i64 0,.int .i64 0,.bool false,.int .u64 0] 142:=Db.box h3 (by simp)
 obtain ⟨W4,e4⟩:∃ W4,W4=W3.setRow w2.heap.size #[.int .i64 r1,.int .i64 r2,.bool r3,.int .u64 (r4:Nat)]:=⟨_,rfl⟩
 have h4:=Db.setRow h3 e4
 have h5:=h4.below (Dk.zh (Below.refl _ _))
 have b5:Dk.Box W4.drew w2.heap.size #[.int .i64 r1,.int .i64 r2,.bool r3,.int .u64 (r4:Nat)] 142:=Db.box h5 (by simp)
 have KS:=zix h5 ⟨r1,r2,r3,r4⟩ HO.out.1 HO.out.2
 have H3:Hid (w2.alloc (.cells #[.int .i64 0,.int .i64 0,.bool false,.int .u64 0] 142)=W3):=e3.symm
 have H4:Hid (W3.setRow w2.heap.size #[.int .i64 r1,.int .i64 r2,.bool r3,.int .u64 (r4:Nat)]=W4):=e4.symm
 have HB3:Hid (Dk.Box W3 w2.heap.size #[.int .i64 0,.int .i64 0,.bool false,.int .u64 0] 142):=b3
 have HB5:Hid (Dk.Box W4.drew w2.heap.size #[.int .i64 r1,.int .i64 r2,.bool r3,.int .u64 (r4:Nat)] 142):=b5
 clear e3 e4 h2 h3 h4 h5 b3 b5 HS
 go_wp2_with (first | (rw [H3.out];clear H3) | (refine wpList_store_row rfl 142 _ _ rfl w2.heap.size #[.int .i64 r1,.int .i64 r2,.bool r3,.int .u64 (r4:Nat)] rfl rfl 142 _ HB3.out.heap zdy rfl (zcr _ _ _ _) ?_;rw [H4.out];clear HB3))
 refine Dk.zf (S:=fun w'=>Dk.Box w' w2.heap.size #[.int .i64 r1,.int .i64 r2,.bool r3,.int .u64 (r4:Nat)] 142) [0,1,2] [3,4,5,6] (by kernel_rfl) (by kernel_rfl) HB5.out ?_
 refine Dk.za (v:=.agg #[.int .i64 r1,.int .i64 r2,.bool r3,.int .u64 (r4:Nat)]) rfl rfl (fun w' hw'=>by have q0:w'.cell? ⟨w2.heap.size,0,none⟩=some (.int .i64 r1):=hw'.cell 0;have q1:w'.cell? ⟨w2.heap.size,1,none⟩=some (.int .i64 r2):=hw'.cell 1;have q2:w'.cell? ⟨w2.heap.size,2,none⟩=some (.bool r3):=hw'.cell 2;have q3:w'.cell? ⟨w2.heap.size,3,none⟩=some (.int .u64 (r4:Nat)):=hw'.cell 3;go_simp) ?_
 simp only [zD]
 refine Dk.za (v:=.pointer (some ⟨bd,0,none⟩)) rfl rfl (fun w' hw'=>by go_simp) ?_
 simp only [zD]
 refine Dk.za (v:=.agg #[.int .i64 r1,.int .i64 r2,.bool r3,.int .u64 (r4:Nat)]) rfl rfl (fun w' hw'=>by have q0:w'.cell? ⟨w2.heap.size,0,none⟩=some (.int .i64 r1):=hw'.cell 0;have q1:w'.cell? ⟨w2.heap.size,1,none⟩=some (.int .i64 r2):=hw'.cell 1;have q2:w'.cell? ⟨w2.heap.size,2,none⟩=some (.bool r3):=hw'.cell 2;have q3:w'.cell? ⟨w2.heap.size,3,none⟩=some (.int .u64 (r4:Nat)):=hw'.cell 3;go_simp) ?_
 simp only [zD]
 refine Dk.zmc (f:=100) (args:=#[.pointer (some ⟨bd,0,none⟩),.agg #[.int .i64 r1,.int .i64 r2,.bool r3,.int .u64 (r4:Nat)]]) rfl rfl (by go_simp) ?_
 refine KS.mono ?_
 rintro e w6 ⟨rfl,h6⟩
 have b6:Dk.Box w6 w2.heap.size #[.int .i64 r1,.int .i64 r2,.bool r3,.int .u64 (r4:Nat)] 142:=Db.box h6 (by simp)
 have b6':Dk.Box w6 w.heap.size #[.int .i64 0,.int .i64 0,.bool false,.int .u64 0] 142:=Db.box h6 (by simp)
 have h7:=Db.setRow (cs':=#[.int .i64 r1,.int .i64 r2,.bool r3,.int .u64 (r4:Nat)]) (Db.swap h6) rfl
 have b7:Dk.Box (w6.setRow w.heap.size #[.int .i64 r1,.int .i64 r2,.bool r3,.int .u64 (r4:Nat)]) w2.heap.size #[.int .i64 r1,.int .i64 r2,.bool r3,.int .u64 (r4:Nat)] 142:=Db.box h7 (by simp)
 have b7':=b6'.row (cs':=#[.int .i64 r1,.int .i64 r2,.bool r3,.int .u64 (r4:Nat)])
 have h8:=Db.drop (Db.drop h7)
 refine ⟨_,rfl,b6,?_⟩
 simp only [zD]
 refine Dk.zk rfl rfl ?_
 refine wp_store_row 142 _ _ rfl w.heap.size #[.int .i64 r1,.int .i64 r2,.bool r3,.int .u64 (r4:Nat)] rfl rfl 142 _ b6'.heap zdy rfl (zcr _ _ _ _) ⟨b7,?_⟩
 simp only [zD]
 generalize w6.setRow w.heap.size #[.int .i64 r1,.int .i64 r2,.bool r3,.int .u64 (r4:Nat)]=W7 at *
 refine Dk.zk rfl rfl ?_
 refine zqv (v:=.int .u64 (Dk.Rq.said ⟨r1,r2,r3,r4⟩ bs:Nat)) (w':=W7) (by go_simp) ⟨b7,?_⟩
 simp only [zD]
 refine Dk.zk rfl rfl ?_
 refine zqv (v:=.bool true) (w':=W7) (by go_simp) ⟨b7,?_⟩
 simp only [zD]
 rename_i hK
 refine hK _ _ ?_
 have d0:=b7'.cell
 clear HB5 H4 b6 b6' h6 h7 KS b7 b7' hK
 go_wp2_with fail
 exact bodyPost_ret (v:=.tuple #[.agg #[.int .i64 r1,.int .i64 r2,.bool r3,.int .u64 (r4:Nat)],.int .u64 (Dk.Rq.said ⟨r1,r2,r3,r4⟩ bs:Nat),.bool true]) (by simp [results,Tryz.results68,go_sem,d0]) rfl ⟨rfl,h8⟩
end
end Go.Proofs.YtglhhlfopccmaaaGreat
