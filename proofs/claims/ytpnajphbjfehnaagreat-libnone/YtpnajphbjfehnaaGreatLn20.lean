import Derived.Test.YtpnajphbjfehnaaGreatLn19
set_option linter.unusedSimpArgs false
set_option linter.unusedVariables false
set_option linter.unnecessarySimpa false
set_option maxHeartbeats 8000000
set_option maxRecDepth 100000
namespace Dk
open Go Go.RowKit
theorem zp {P:Go.Program} {L:List Oper} {Q:Exit→Act→World→Prop} {j:Nat} {K:Act→World→Prop} {a:Act} {w:World} {o:Oper} {f:FuncId} {args:Array Value} (d:Option Tmp) (ho:L[j]? = some o) (hd:o.dst=d) (hg:o.guard=none) (hr:(execOp a.eval o).run P w=.ok (.enter f args) w) (hc:Calls P f args w fun e w'=>∃ v,e=.returned v∧K (a.put d v) w'):wpOp P L.toArray Q j K a w:=by
 subst hd
 have hw:Region.wanted o (yielded L.toArray a.tmps)=true:=by simp [Region.wanted,hg]
 have ho':L.toArray[j]? = some o:=by simpa using ho
 unfold wpOp
 simp only [ho',hw,if_true]
 refine .inl ?_
 unfold Oper.wp
 rw [hr]
 simp only [Oper.upon]
 refine Calls.mono hc ?_
 rintro e w' ⟨v,rfl,h⟩
 exact h
theorem zc3 {α:Type} {f:α→List Value} {q:Nat} (hf:∀ a,(f a).length=q) (cs:Array Value) (hq:cs.size=q) (hp:0 < q) (z:α) (hz:f z=cs.toList) (n:Nat):(madeCells cs (n*q)).toList=(List.replicate n z).flatMap f:=by
 apply List.ext_getElem?
 intro i
 by_cases hi:i < n*q
 ·have h1:i / q < n:=(Nat.div_lt_iff_lt_mul hp).2 hi
  have h2:=Dk.flat_get hf (List.replicate n z) (i / q) (i % q) z (by rw [List.getElem?_replicate,if_pos h1]) (Nat.mod_lt _ hp)
  rw [show i / q*q+i % q=i by rw [Nat.mul_comm];exact Nat.div_add_mod i q] at h2
  rw [h2,hz]
  have hm:i % q < cs.size:=by rw [hq];exact Nat.mod_lt _ hp
  simp [madeCells,hi,hq]
  rw [getElem!_pos cs (i % q) hm,Array.getElem?_eq_getElem hm]
 ·rw [List.getElem?_eq_none (by simp [madeCells];omega),List.getElem?_eq_none (by rw [Dk.zaj hf,List.length_replicate];omega)]
theorem Sep.nils {W w:World} {ts:List Thing} (h:Sep W w ts):∀ n,Sep W w (List.replicate n (rowOf 3 1 (.slice none 0 0) 0 [])++ts)
 | 0=>h
 | n+1=>(Sep.nils h n).nil 3 1
end Dk
namespace Go.Proofs.YtpnajphbjfehnaaGreat
open Go.RowKit Go.Lib Go.Maps
def zM:Mx:=⟨.slice none 0 0,[],0,false⟩
def zS:Sx:=⟨.slice none 0 0,[],0⟩
def zN (_:Unit):List Value:=[.slice none 0 0,.map none]
def hdN (v:Value) (n:Nat):Dk.Thing:=Dk.rowOf 169 2 v n ((List.replicate n ()).flatMap zN)
theorem info76:(Tryz.prog.info? 335).map (fun i=>(i.zero,i.size,i.bytes))=some (some (.agg #[.slice none 0 0,.int .i64 0,.bool false]),3,40):=by kernel_rfl
theorem info68:(Tryz.prog.info? 169).map (fun i=>(i.zero,i.size,i.bytes))=some (some (.agg #[.slice none 0 0,.map none]),2,32):=by kernel_rfl
theorem info70:(Tryz.prog.info? 171).map (fun i=>(i.zero,i.size,i.bytes))=some (some (.agg #[.slice none 0 0,.int .i64 0]),2,32):=by kernel_rfl
section
variable {W w : World} {us : List Dk.Thing}
theorem makeM (h:Dk.Sep W w us) (n:Nat) (hn:n≤4):∃ w',(Instr.makeSlice 159 (.int .i64 (n:Int)) (.int .i64 (n:Int))).run Tryz.prog w=.ok (.slice (some ⟨w.heap.size,0,none⟩) n n) w'∧Dk.Sep W w' (hdM (.slice (some ⟨w.heap.size,0,none⟩) n n) (List.replicate n zM)::us):=by
 obtain ⟨i0,hi0,hz0,hz1,hz2⟩:=info_parts info76
 have hr:=run_make (P:=Tryz.prog) w 159 335 i0 _ Tryz.underlying159 hi0 hz0 .i64 .i64 n n (by omega) (Int.le_refl _) (by rw [hz2];omega) (by omega)
 simp only [Int.toNat_natCast] at hr
 rw [hz1] at hr
 have e:=Dk.zc3 (f:=Mx.cells) Mx.len (Value.agg #[.slice none 0 0,.int .i64 0,.bool false]).cells rfl (by decide) zM rfl n
 have hl:=World.ownsRow_lit w (e:=335) (size:=3) (base:=w.heap.size) (madeCells (Value.agg #[.slice none 0 0,.int .i64 0,.bool false]).cells (n*3)) n (Nat.le_refl _) (by unfold maxLen;omega) (size_madeCells _ _)
 rw [e] at hl
 refine ⟨_,hr,?_⟩
 unfold hdM
 rw [List.length_replicate]
 exact h.addRow (Dk.zb (Below.refl _ _) _) hl
theorem makeC (h:Dk.Sep W w us) (n:Nat) (hn:n≤4):∃ w',(Instr.makeSlice 161 (.int .i64 (n:Int)) (.int .i64 (n:Int))).run Tryz.prog w=.ok (.slice (some ⟨w.heap.size,0,none⟩) n n) w'∧Dk.Sep W w' (hdN (.slice (some ⟨w.heap.size,0,none⟩) n n) n::us):=by
 obtain ⟨i0,hi0,hz0,hz1,hz2⟩:=info_parts info68
 have hr:=run_make (P:=Tryz.prog) w 161 169 i0 _ Tryz.underlying161 hi0 hz0 .i64 .i64 n n (by omega) (Int.le_refl _) (by rw [hz2];omega) (by omega)
 simp only [Int.toNat_natCast] at hr
 rw [hz1] at hr
 have e:=Dk.zc3 (f:=zN) (q:=2) (fun _=>rfl) (Value.agg #[.slice none 0 0,.map none]).cells rfl (by decide) () rfl n
 have hl:=World.ownsRow_lit w (e:=169) (size:=2) (base:=w.heap.size) (madeCells (Value.agg #[.slice none 0 0,.map none]).cells (n*2)) n (Nat.le_refl _) (by unfold maxLen;omega) (size_madeCells _ _)
 rw [e] at hl
 exact ⟨_,hr,h.addRow (Dk.zb (Below.refl _ _) _) hl⟩
theorem makeS (h:Dk.Sep W w us) (n:Nat) (hn:n≤4):∃ w',(Instr.makeSlice 162 (.int .i64 (n:Int)) (.int .i64 (n:Int))).run Tryz.prog w=.ok (.slice (some ⟨w.heap.size,0,none⟩) n n) w'∧Dk.Sep W w' (hdS (.slice (some ⟨w.heap.size,0,none⟩) n n) (List.replicate n zS)::us):=by
 obtain ⟨i0,hi0,hz0,hz1,hz2⟩:=info_parts info70
 have hr:=run_make (P:=Tryz.prog) w 162 171 i0 _ Tryz.underlying162 hi0 hz0 .i64 .i64 n n (by omega) (Int.le_refl _) (by rw [hz2];omega) (by omega)
 simp only [Int.toNat_natCast] at hr
 rw [hz1] at hr
 have e:=Dk.zc3 (f:=Sx.cells) Sx.len (Value.agg #[.slice none 0 0,.int .i64 0]).cells rfl (by decide) zS rfl n
 have hl:=World.ownsRow_lit w (e:=171) (size:=2) (base:=w.heap.size) (madeCells (Value.agg #[.slice none 0 0,.int .i64 0]).cells (n*2)) n (Nat.le_refl _) (by unfold maxLen;omega) (size_madeCells _ _)
 rw [e] at hl
 refine ⟨_,hr,?_⟩
 unfold hdS
 rw [List.length_replicate]
 exact h.addRow (Dk.zb (Below.refl _ _) _) hl
theorem zbp (n most:Int) (w:World):Calls Tryz.prog 78 #[.int .i64 n,.int .i64 most] w fun e w'=>e=.returned (.int .i64 (min (max n 0) most))∧w'=w:=by
 go_enter Tryz.func78,Tryz.ntmps78
 go_wp2
 go_ret
 exact ⟨rfl,rfl⟩
theorem zcc (n:Int) (w:World):Calls Tryz.prog 78 #[.int .i64 n,.int .i64 4] w fun e w'=>e=.returned (.int .i64 (Dk.lim n:Int))∧w'=w:=by
 rw [← Dk.lim_eq]
 exact zbp n 4 w
theorem zaf (L:Nat) (w:World):Calls Tryz.prog 78 #[.int .i64 (L:Int),.int .i64 4] w fun e w'=>e=.returned (.int .i64 ((min L 4:Nat):Int))∧w'=w:=by
 rw [← Dk.len_eq]
 exact zbp L 4 w
theorem zky (n:Int) (w:World):Calls Tryz.prog 78 #[.int .i64 n,.int .i64 1048576] w fun e w'=>e=.returned (.int .i64 (Dk.cl n))∧w'=w:=by
 rw [← Dk.cl_eq]
 exact zbp n 1048576 w
def mkC (m:Nat):Cx:=⟨.slice none 0 0,[],m⟩
def mkS (x:Int):Sx:=⟨.slice none 0 0,[],Dk.cl x⟩
def cells1 (bms:List Nat) (n:Nat):List Value:=((bms.map mkC).flatMap Cx.cells)++(List.replicate (n - bms.length) ()).flatMap zN
theorem nset (bms:List Nat) (n:Nat) (h:bms.length < n) (m:Nat):(cells1 bms n)[bms.length*2+1]? = some (.map none)∧(cells1 bms n).set (bms.length*2+1) (.map (some m))=cells1 (bms++[m]) n:=by
 unfold cells1
 have hl:((bms.map mkC).flatMap Cx.cells).length=bms.length*2:=by rw [Dk.zaj Cx.len,List.length_map]
 obtain ⟨t,ht⟩:∃ t,n - bms.length=t+1:=⟨n - bms.length - 1,by omega⟩
 have ht2:n - (bms++[m]).length=t:=by rw [List.length_append,List.length_singleton];omega
 rw [ht,ht2,List.replicate_succ,List.flatMap_cons]
 constructor
 ·rw [List.getElem?_append_right (by omega),hl,show bms.length*2+1 - bms.length*2=1 by omega]
  rfl
 ·rw [List.set_append_right _ _ (by omega),hl,show bms.length*2+1 - bms.length*2=1 by omega,List.map_append,List.flatMap_append,List.append_assoc]
  rfl
theorem zhl (bms:List Nat) (n:Nat) (h:bms.length≤n):(cells1 bms n).length=n*2:=by
 unfold cells1
 rw [List.length_append,Dk.zaj Cx.len,Dk.zaj (f:=zN) (q:=2) (fun _=>rfl),List.length_map,List.length_replicate]
 omega
theorem zhk (bms:List Nat):cells1 bms bms.length=(bms.map mkC).flatMap Cx.cells:=by
 unfold cells1
 rw [Nat.sub_self]
 simp
def ssj (xs:List Int) (n j:Nat):List Sx:=(xs.take j).map mkS++List.replicate (n - j) zS
theorem zkm (xs:List Int) (n j:Nat) (h:j≤n) (hx:n≤xs.length):(ssj xs n j).length=n:=by
 unfold ssj
 rw [List.length_append,List.length_map,List.length_replicate,List.length_take]
 omega
theorem ssj_get (xs:List Int) (n j:Nat) (h:j < n) (hx:n≤xs.length):(ssj xs n j)[j]? = some zS:=by
 unfold ssj
 rw [List.getElem?_append_right (by rw [List.length_map,List.length_take];omega),List.length_map,List.length_take,List.getElem?_replicate,if_pos (by omega)]
theorem ssj_set (xs:List Int) (n j:Nat) (h:j < n) (hx:n≤xs.length) (x:Int) (ex:xs[j]? = some x):(ssj xs n j).set j ⟨.slice none 0 0,[],Dk.cl x⟩=ssj xs n (j+1):=by
 unfold ssj
 have hl:((xs.take j).map mkS).length=j:=by rw [List.length_map,List.length_take];omega
 obtain ⟨t,ht⟩:∃ t,n - j=t+1:=⟨n - j - 1,by omega⟩
 rw [List.set_append_right _ _ (by omega),hl,Nat.sub_self,ht,show n - (j+1)=t by omega,List.replicate_succ,List.set_cons_zero,List.take_add_one,ex,List.map_append,List.append_assoc]
 rfl
theorem perm_new {α:Type} (B M C S:α) (maps r1 r2 r3 us:List α):(r1++(r2++(r3++(B::S::C::(maps++(M::us)))))).Perm (us++(B::M::C::S::(r1++(r2++(maps++r3))))):=by
 have p0:(B::S::C::(maps++(M::us))).Perm ([B,M,C,S]++(maps++us)):=by
  refine List.Perm.cons _ ?_
  refine ((List.perm_middle.cons _).cons _).trans ?_
  exact ((List.Perm.swap _ _ _).trans ((List.Perm.swap _ _ _).cons _)).trans (List.Perm.swap _ _ _)
 have p1:(r3++(B::S::C::(maps++(M::us)))).Perm ([B,M,C,S]++(maps++(r3++us))):=
  (p0.append_left r3).trans ((List.perm_append_comm_assoc _ _ _).trans ((List.perm_append_comm_assoc _ _ _).append_left _))
 have p2:=((p1.append_left r2).trans (List.perm_append_comm_assoc _ _ _)).append_left r1 |>.trans (List.perm_append_comm_assoc _ _ _)
 refine p2.trans ?_
 have e:[B,M,C,S]++(r1++(r2++(maps++(r3++us))))=(B::M::C::S::(r1++(r2++(maps++r3))))++us:=by simp [List.append_assoc]
 rw [e]
 exact List.perm_append_comm
theorem New_t (h:Dk.Sep W w us) (mutexes conds:Int) (A:Option Addr) (L C:Nat) (xs:List Int) (hs:Dk.SlI W.heap.size W A L C xs) :
  Calls Tryz.prog 38 #[.int .i64 mutexes,.int .i64 conds,.slice A L C] w fun e w'=>∃ b ts,e=.returned (.pointer (some ⟨b,0,none⟩))∧G0 b (Dk.start mutexes conds xs) ts∧Dk.Sep W w' (us++ts):=by
 have sd:=h.below (Dk.zm (Below.refl _ _))
 have l1:=Dk.zg1 mutexes
 have l2:=Dk.zg1 conds
 have hsl:=hs.len
 have HX:Hid (Dk.SlI W.heap.size W A L C xs):=hs
 have hmx:=hs.max
 have hcp:=hs.cap
 unfold maxLen at hmx
 clear hs
 go_enter Tryz.func38,Tryz.ntmps38
 go_wp2_with fail
 refine Dk.zo (S:=fun _=>True) [] [0,3,6,7] [] 9 (by kernel_rfl) (by kernel_rfl) (by kernel_rfl) (by kernel_rfl) rfl trivial _ ?_ (fun a' h=>h)
 refine Dk.za (v:=.int .i64 mutexes) rfl rfl (fun w' hw'=>by go_simp) ?_
 simp only [zD]
 refine Dk.za (v:=.int .i64 conds) rfl rfl (fun w' hw'=>by go_simp) ?_
 simp only [zD]
 refine Dk.za (v:=.slice A L C) rfl rfl (fun w' hw'=>by go_simp) ?_
 simp only [zD]
 refine Dk.za (v:=.int .i64 (L:Int)) rfl rfl (fun w' hw'=>by go_simp) ?_
 simp only [zD]
 generalize w.drew=Wd at *
 refine Dk.nameY ?_
 intro a0 hA
 refine Dk.cutY (T:=fun a w=>∃ g1 g2 g3:Nat,a=((((((a0.put (some 11) (.int .i64 (Dk.lim mutexes:Int))).put (some 12) (.slice (some ⟨g1,0,none⟩) (Dk.lim mutexes) (Dk.lim mutexes))).put (some 14) (.int .i64 (Dk.lim conds:Int))).put (some 15) (.slice (some ⟨g2,0,none⟩) (Dk.lim conds) (Dk.lim conds))).put (some 18) (.int .i64 ((min L 4:Nat):Int))).put (some 19) (.slice (some ⟨g3,0,none⟩) (min L 4) (min L 4)))∧Dk.Sep W w (hdM (.slice (some ⟨g1,0,none⟩) (Dk.lim mutexes) (Dk.lim mutexes)) (List.replicate (Dk.lim mutexes) zM)::hdN (.slice (some ⟨g2,0,none⟩) (Dk.lim conds) (Dk.lim conds)) (Dk.lim conds)::hdS (.slice (some ⟨g3,0,none⟩) (min L 4) (min L 4)) (List.replicate (min L 4) zS)::us)) (js:=[10,11,12]) ?_ 6 _ _ _ ?_
 ·rintro a w6 ⟨g1,g2,g3,rfl,s6⟩
  rw [← hA]
  simp only [zD]
  refine Dk.zi (v:=.agg #[.slice (some ⟨g1,0,none⟩) (Dk.lim mutexes) (Dk.lim mutexes),.slice (some ⟨g2,0,none⟩) (Dk.lim conds) (Dk.lim conds),.slice (some ⟨g3,0,none⟩) (min L 4) (min L 4)]) (w':=w6) (some 20) rfl rfl rfl (by clear hA;go_simp) (fun _=>trivial) ?_
  simp only [zD]
  obtain ⟨w7,e7⟩:∃ w7,w7=w6.alloc (.cells #[.slice (some ⟨g1,0,none⟩) (Dk.lim mutexes) (Dk.lim mutexes),.slice (some ⟨g2,0,none⟩) (Dk.lim conds) (Dk.lim conds),.slice (some ⟨g3,0,none⟩) (min L 4) (min L 4)] 164):=⟨_,rfl⟩
  have s7:=s6.newBox e7
  obtain ⟨b,eb⟩:∃ b,w6.heap.size=b:=⟨_,rfl⟩
  rw [eb] at s7
  refine Dk.zi (v:=.pointer (some ⟨b,0,none⟩)) (w':=w7) (some 21) rfl rfl rfl (by clear hA;rw [← eb,e7];go_simp) (fun _=>trivial) ?_
  simp only [zD]
  refine Dk.zi (v:=.pointer (some ⟨b,0,none⟩)) (w':=w7) (some 7) rfl rfl rfl (by clear hA;go_simp) (fun _=>trivial) ?_
  simp only [zD]
  rename ∀ (_:Act) (_:World),Code.wp _ _ _ _ _→_=>hK
  refine hK _ _ ?_
  clear hK hA e7 eb s6 a0 sd h
  have l3:min L 4≤4:=by omega
  have l4:min L 4≤xs.length:=by omega
  generalize eM:Dk.lim mutexes=nM at *
  generalize eC:Dk.lim conds=nC at *
  generalize eS:min L 4=nS at *
  have EM:Hid _:=eM
  have EC:Hid _:=eC
  have ES:Hid _:=eS
  have HSL:Hid _:=hsl
  clear eM eC eS
  have c1:w7.cell? ⟨b,1,none⟩=some (.slice (some ⟨g2,0,none⟩) nC nC):=(s7.box (b:=b) (cs:=#[.slice (some ⟨g1,0,none⟩) nM nM,.slice (some ⟨g2,0,none⟩) nC nC,.slice (some ⟨g3,0,none⟩) nS nS]) (t:=164) (by simp)).cell 1
  have t1:Dk.Sep W w7 (Dk.boxOf b #[.slice (some ⟨g1,0,none⟩) nM nM,.slice (some ⟨g2,0,none⟩) nC nC,.slice (some ⟨g3,0,none⟩) nS nS] 164::Dk.rowOf 169 2 (.slice (some ⟨g2,0,none⟩) nC nC) nC (cells1 [] nC)::((([]:List Nat).map fun m=>mapOf m [])++(hdS (.slice (some ⟨g3,0,none⟩) nS nS) (List.replicate nS zS)::hdM (.slice (some ⟨g1,0,none⟩) nM nM) (List.replicate nM zM)::us))):=s7.perm (((List.Perm.swap _ _ _).trans ((List.Perm.swap _ _ _).cons _)).cons _)
  clear s7
  have hmm:=@run_makeMap Tryz.prog
  go_wp2_with fail
  go_loopw [27] (fun i w'=>∃ bms:List Nat,bms.length≤nC∧i=.int .i64 (bms.length:Nat)∧Dk.Sep W w' (Dk.boxOf b #[.slice (some ⟨g1,0,none⟩) nM nM,.slice (some ⟨g2,0,none⟩) nC nC,.slice (some ⟨g3,0,none⟩) nS nS] 164::Dk.rowOf 169 2 (.slice (some ⟨g2,0,none⟩) nC nC) nC (cells1 bms nC)::((bms.map fun m=>mapOf m [])++(hdS (.slice (some ⟨g3,0,none⟩) nS nS) (List.replicate nS zS)::hdM (.slice (some ⟨g1,0,none⟩) nM nM) (List.replicate nM zM)::us)))) (fun i w'=>nC - (intOf i).toNat)
  case atStart=>exact ⟨[],Nat.zero_le _,rfl,t1⟩
  case round=>
   obtain ⟨bms,hj,rfl,hT⟩:=hrel
   clear t1 c1
   by_cases hlt:bms.length < nC
   ·have z1:decide ((bms.length:Int) < (nC:Int))=true:=decide_eq_true (by omega)
    have hjL:(bms.length:Int) < (nC:Int):=by omega
    obtain ⟨W2,e2⟩:∃ W2,W2=wr.alloc (.map #[] 0):=⟨_,rfl⟩
    have h2:=hT.add (t:=mapOf wr.heap.size []) (w':=W2) (by rw [e2];exact Dk.zb (Below.refl _ _) _) (by rw [e2];exact Told.made wr) (fun k hk=>by simp [mapOf] at hk;omega)
    obtain ⟨n1,n2⟩:=nset bms nC hlt wr.heap.size
    obtain ⟨c2,f2,st⟩:=Dk.Sep.cellg (us1:=[_,_]) h2 (zhl bms nC hj) n1
    have h3:=st (.map (some wr.heap.size))
    rw [n2] at h3
    have c0:wr.cell? ⟨b,1,none⟩=some (.slice (some ⟨g2,0,none⟩) nC nC):=(hT.box (b:=b) (cs:=#[.slice (some ⟨g1,0,none⟩) nM nM,.slice (some ⟨g2,0,none⟩) nC nC,.slice (some ⟨g3,0,none⟩) nS nS]) (t:=164) (by simp)).cell 1
    have h4:Dk.Sep W (W2.setCell ⟨g2,bms.length*2+1,none⟩ (.map (some wr.heap.size))) (Dk.boxOf b #[.slice (some ⟨g1,0,none⟩) nM nM,.slice (some ⟨g2,0,none⟩) nC nC,.slice (some ⟨g3,0,none⟩) nS nS] 164::Dk.rowOf 169 2 (.slice (some ⟨g2,0,none⟩) nC nC) nC (cells1 (bms++[wr.heap.size]) nC)::(((bms++[wr.heap.size]).map fun m=>mapOf m [])++(hdS (.slice (some ⟨g3,0,none⟩) nS nS) (List.replicate nS zS)::hdM (.slice (some ⟨g1,0,none⟩) nM nM) (List.replicate nM zM)::us))):=by
     refine h3.perm ?_
     rw [List.map_append,List.append_assoc]
     refine (List.Perm.swap _ _ _).trans (List.Perm.cons _ ((List.Perm.swap _ _ _).trans (List.Perm.cons _ ?_)))
     exact List.perm_middle.symm
    have H2:Hid (wr.alloc (.map #[] 0)=W2):=e2.symm
    have H4:Hid _:=h4
    clear h2 h3 h4 st hT e2 n1 n2
    go_wp2_with (rw [H2.out];clear H2)
    go_roundw
    case rel=>exact ⟨bms++[wr.heap.size],by rw [List.length_append];exact hlt,by rw [List.length_append];go_num,H4.out⟩
    case measure=>simp [intOf];omega
   ·have ej:bms.length=nC:=by omega
    have z1:decide ((bms.length:Int) < (nC:Int))=false:=decide_eq_false (by omega)
    have c1:wr.cell? ⟨b,2,none⟩=some (.slice (some ⟨g3,0,none⟩) nS nS):=(hT.box (b:=b) (cs:=#[.slice (some ⟨g1,0,none⟩) nM nM,.slice (some ⟨g2,0,none⟩) nC nC,.slice (some ⟨g3,0,none⟩) nS nS]) (t:=164) (by simp)).cell 2
    have t2:Dk.Sep W wr (Dk.boxOf b #[.slice (some ⟨g1,0,none⟩) nM nM,.slice (some ⟨g2,0,none⟩) nC nC,.slice (some ⟨g3,0,none⟩) nS nS] 164::hdS (.slice (some ⟨g3,0,none⟩) nS nS) (ssj xs nS 0)::hdC (.slice (some ⟨g2,0,none⟩) nC nC) (bms.map mkC)::((bms.map fun m=>mapOf m [])++(hdM (.slice (some ⟨g1,0,none⟩) nM nM) (List.replicate nM zM)::us))):=by
     have e0:ssj xs nS 0=List.replicate nS zS:=by unfold ssj;simp
     have e1:=zhk bms
     rw [ej] at e1
     rw [e1] at hT
     rw [e0]
     unfold hdC
     rw [List.length_map,ej]
     refine hT.perm (List.Perm.cons _ ?_)
     exact (List.perm_middle.cons _).trans (List.Perm.swap _ _ _)
    have HJ:Hid (bms.length=nC):=ej
    clear hT hmm ej
    go_wp2_with fail
    clear z1
    go_loopw [44] (fun i w'=>∃ j:Nat,j≤nS∧i=.int .i64 (j:Nat)∧Dk.Sep W w' (Dk.boxOf b #[.slice (some ⟨g1,0,none⟩) nM nM,.slice (some ⟨g2,0,none⟩) nC nC,.slice (some ⟨g3,0,none⟩) nS nS] 164::hdS (.slice (some ⟨g3,0,none⟩) nS nS) (ssj xs nS j)::hdC (.slice (some ⟨g2,0,none⟩) nC nC) (bms.map mkC)::((bms.map fun m=>mapOf m [])++(hdM (.slice (some ⟨g1,0,none⟩) nM nM) (List.replicate nM zM)::us)))) (fun i w'=>nS - (intOf i).toNat)
    case atStart=>exact ⟨0,Nat.zero_le _,rfl,t2⟩
    case round=>
     obtain ⟨j,hj,rfl,hT⟩:=hrel
     clear t2 c1
     by_cases hlt:j < nS
     ·have z1:decide ((j:Int) < (nS:Int))=true:=decide_eq_true (by omega)
      have hjS:(j:Int) < (nS:Int):=by omega
      have hjL:j < L:=by have:=HSL.out;omega
      have hjLi:(j:Int) < (L:Int):=by omega
      obtain ⟨bx,ox,rfl,hbx,hcx⟩:=HX.out.cells (by omega)
      have ex:=List.getElem?_eq_getElem (l:=xs) (i:=j) (by omega)
      obtain ⟨x,ex'⟩:∃ x,xs[j]? = some x:=⟨_,ex⟩
      have d0:∀ q,(wr.drewN q).cell? ⟨bx,ox+j,none⟩=some (.int .i64 x):=fun q=>by
       have q1:=hcx j (by omega)
       rw [Dk.getD_some ex'] at q1
       have:=(Dk.zy hT.out q).cell (p:=⟨bx,ox+j,none⟩) hbx
       rw [this]
       exact q1
      have d1:∀ q,(wr.drewN q).cell? ⟨b,2,none⟩=some (.slice (some ⟨g3,0,none⟩) nS nS):=fun q=>((hT.below (Dk.zy (Below.refl _ _) q)).box (b:=b) (cs:=#[.slice (some ⟨g1,0,none⟩) nM nM,.slice (some ⟨g2,0,none⟩) nC nC,.slice (some ⟨g3,0,none⟩) nS nS]) (t:=164) (by simp)).cell 2
      have sl:=zkm xs nS j hj l4
      have sg:=ssj_get xs nS j hlt l4
      have P:∀ q,(wr.drewN q).cell? ⟨g3,j*2+1,none⟩=some (.int .i64 0)∧(wr.drewN q).frozen? ⟨g3,j*2+1,none⟩=false∧Dk.Sep W ((wr.drewN q).setCell ⟨g3,j*2+1,none⟩ (.int .i64 (Dk.cl x))) (Dk.boxOf b #[.slice (some ⟨g1,0,none⟩) nM nM,.slice (some ⟨g2,0,none⟩) nC nC,.slice (some ⟨g3,0,none⟩) nS nS] 164::hdS (.slice (some ⟨g3,0,none⟩) nS nS) (ssj xs nS (j+1))::hdC (.slice (some ⟨g2,0,none⟩) nC nC) (bms.map mkC)::((bms.map fun m=>mapOf m [])++(hdM (.slice (some ⟨g1,0,none⟩) nM nM) (List.replicate nM zM)::us))):=fun q=>by
       have hq:=hT.below (Dk.zy (Below.refl _ _) q)
       unfold hdS at hq ⊢
       rw [sl] at hq
       rw [zkm xs nS (j+1) (by omega) l4]
       obtain ⟨q1,q2,q3⟩:=Dk.Sep.cellg (us1:=[_]) hq (by rw [Dk.zaj Sx.len,sl]) (getS sg).2
       refine ⟨q1,q2,?_⟩
       have q4:=q3 (.int .i64 (Dk.cl x))
       rw [setS1 sg,show (⟨zS.u,zS.xs,Dk.cl x⟩:Sx)=⟨.slice none 0 0,[],Dk.cl x⟩ from rfl,ssj_set xs nS j hlt l4 x ex'] at q4
       exact q4
      have KW:∀ q,Calls Tryz.prog 78 #[.int .i64 x,.int .i64 1048576] (wr.drewN q) fun e w'=>e=.returned (.int .i64 (Dk.cl x))∧w'=wr.drewN q:=fun q=>zky x _
      have HP:Hid _:=P
      clear P hT hcx ex ex' sl sg
      go_wp2_with fail
      refine Dk.zbm (C:=fun w'=>∃ n,w'=wr.drewN n) (D:=fun w'=>Dk.Sep W w' (Dk.boxOf b #[.slice (some ⟨g1,0,none⟩) nM nM,.slice (some ⟨g2,0,none⟩) nC nC,.slice (some ⟨g3,0,none⟩) nS nS] 164::hdS (.slice (some ⟨g3,0,none⟩) nS nS) (ssj xs nS (j+1))::hdC (.slice (some ⟨g2,0,none⟩) nC nC) (bms.map mkC)::((bms.map fun m=>mapOf m [])++(hdM (.slice (some ⟨g1,0,none⟩) nM nM) (List.replicate nM zM)::us)))) (by kernel_rfl) (by kernel_rfl) ⟨1,rfl⟩ (by simp) ?_
      dsimp only [List.dropLast]
      repeat (go_big_quiet_step ((first | (go_at_call 78;exact (KW _).mono fun e w' h=>⟨h.1,_,h.2⟩))))
      refine wpQuiet_nil ?_
      refine ⟨_,rfl,rfl,?_,?_⟩
      ·rintro _ ⟨nq,rfl⟩
       obtain ⟨q1,q2,q3⟩:=HP.out nq
       refine ⟨_,?_,q3⟩
       go_simp
      ·rintro w' hw
       clear HP KW d0 d1
       go_wp2_with fail
       go_roundw
       case rel=>exact ⟨j+1,by omega,by go_num,hw⟩
       case measure=>simp [intOf];omega
     ·obtain rfl:j=nS:=by omega
      have z1:decide ((j:Int) < (j:Int))=false:=decide_eq_false (by omega)
      have e1:ssj xs j j=(xs.take 4).map mkS:=by
       unfold ssj
       rw [Nat.sub_self,List.replicate_zero,List.append_nil]
       congr 1
       rw [← ES.out,← HSL.out,Nat.min_comm,← List.take_take,List.take_length]
      rw [e1] at hT
      have h9:=((hT.nils j).nils nC).nils nM
      have h10:=h9.perm (perm_new _ _ _ _ _ _ _ _ _)
      have G:G0 b (Dk.start mutexes conds xs) (gts b (.slice (some ⟨g1,0,none⟩) nM nM) (.slice (some ⟨g2,0,none⟩) nC nC) (.slice (some ⟨g3,0,none⟩) j j) (List.replicate nM zM) (bms.map mkC) ((xs.take 4).map mkS)):=by
       refine ⟨_,_,_,_,_,_,rfl,⟨?_,?_,?_,?_,?_,?_,?_,Dk.zh8 _ _ _⟩⟩
       ·show _=(List.replicate (Dk.lim mutexes) (0:Int)).length
        rw [List.length_replicate,List.length_replicate,EM.out]
       ·show _=List.replicate (Dk.lim mutexes) false
        rw [List.map_replicate,EM.out]
        rfl
       ·show _=List.replicate (Dk.lim mutexes) []
        rw [List.map_replicate,EM.out]
        rfl
       ·intro i m hm
        rw [List.eq_of_mem_replicate (List.mem_of_getElem? hm)]
        rfl
       ·show _=List.replicate (Dk.lim conds) []
        rw [EC.out,← HJ.out,List.map_map]
        exact (List.eq_replicate_iff.2 ⟨by simp,fun y hy=>by obtain ⟨z,_,rfl⟩:=List.mem_map.1 hy;rfl⟩)
       ·show _=(xs.take 4).map Dk.cl
        rw [List.map_map]
        rfl
       ·show _=List.replicate (min xs.length 4) []
        rw [List.map_map]
        exact (List.eq_replicate_iff.2 ⟨by simp [Nat.min_comm],fun y hy=>by obtain ⟨z,_,rfl⟩:=List.mem_map.1 hy;rfl⟩)
      have h11:Dk.Sep W wr (us++gts b (.slice (some ⟨g1,0,none⟩) nM nM) (.slice (some ⟨g2,0,none⟩) nC nC) (.slice (some ⟨g3,0,none⟩) j j) (List.replicate nM zM) (bms.map mkC) ((xs.take 4).map mkS)):=by
       unfold gts
       have q1:(List.replicate nM zM).map Mx.row=List.replicate nM (Dk.rowOf 3 1 (.slice none 0 0) 0 []):=by rw [List.map_replicate];rfl
       have q2:(bms.map mkC).map Cx.row=List.replicate nC (Dk.rowOf 3 1 (.slice none 0 0) 0 []):=by
        rw [List.map_map]
        exact List.eq_replicate_iff.2 ⟨by rw [List.length_map];exact HJ.out,fun y hy=>by obtain ⟨z,_,rfl⟩:=List.mem_map.1 hy;rfl⟩
       have q3:(bms.map mkC).map Cx.mp=bms.map fun m=>mapOf m []:=by rw [List.map_map];rfl
       have q4:((xs.take 4).map mkS).map Sx.row=List.replicate j (Dk.rowOf 3 1 (.slice none 0 0) 0 []):=by
        rw [List.map_map]
        exact List.eq_replicate_iff.2 ⟨by rw [List.length_map,List.length_take,← ES.out,HSL.out,Nat.min_comm],fun y hy=>by obtain ⟨z,_,rfl⟩:=List.mem_map.1 hy;rfl⟩
       rw [q1,q2,q3,q4]
       exact h10
      have H11:Hid _:=h11
      have HG:Hid _:=G
      clear h9 h10 h11 hT G e1
      go_wp2_with fail
      go_ret
      exact ⟨b,_,rfl,HG.out,H11.out⟩
 ·refine Dk.nodeT (rs:=[1]) (by kernel_rfl) (by simp) ?_
  intro i hi
  simp only [List.mem_cons,List.not_mem_nil,or_false] at hi
  subst hi
  refine Dk.zp (some 11) rfl rfl rfl (f:=78) (args:=#[.int .i64 mutexes,.int .i64 4]) (by rw [← hA];clear hA;(try simp only [zD]);go_simp) ?_
  refine (zcc mutexes Wd).mono ?_
  rintro e w' ⟨rfl,hw'⟩
  subst w'
  refine ⟨_,rfl,fun _=>trivial,?_⟩
  refine Dk.nodeT (rs:=[2,4]) (by kernel_rfl) (by simp) ?_
  intro i hi
  simp only [List.mem_cons,List.not_mem_nil,or_false] at hi
  rcases hi with rfl | rfl
  ·obtain ⟨w2,r2,s2⟩:=makeM sd (Dk.lim mutexes) (by omega)
   refine Dk.ze (v:=.slice (some ⟨Wd.heap.size,0,none⟩) (Dk.lim mutexes) (Dk.lim mutexes)) (w':=w2) (some 12) rfl rfl rfl (by rw [← hA];(try simp only [zD]);simp only [execOp];simp [Act.eval,r2]) ⟨fun _=>trivial,?_⟩
   refine Dk.nodeT (rs:=[4]) (by kernel_rfl) (by simp) ?_
   intro i hi
   simp only [List.mem_cons,List.not_mem_nil,or_false] at hi
   subst hi
   refine Dk.zp (some 14) rfl rfl rfl (f:=78) (args:=#[.int .i64 conds,.int .i64 4]) (by rw [← hA];clear hA;(try simp only [zD]);go_simp) ?_
   refine (zcc conds w2).mono ?_
   rintro e w' ⟨rfl,hw'⟩
   subst w'
   refine ⟨_,rfl,fun _=>trivial,?_⟩
   refine Dk.nodeT (rs:=[5,8]) (by kernel_rfl) (by simp) ?_
   intro i hi
   simp only [List.mem_cons,List.not_mem_nil,or_false] at hi
   rcases hi with rfl | rfl
   ·obtain ⟨w4,r4,s4⟩:=makeC s2 (Dk.lim conds) (by omega)
    refine Dk.ze (v:=.slice (some ⟨w2.heap.size,0,none⟩) (Dk.lim conds) (Dk.lim conds)) (w':=w4) (some 15) rfl rfl rfl (by rw [← hA];(try simp only [zD]);simp only [execOp];simp [Act.eval,r4]) ⟨fun _=>trivial,?_⟩
    refine Dk.nodeT (rs:=[8]) (by kernel_rfl) (by simp) ?_
    intro i hi
    simp only [List.mem_cons,List.not_mem_nil,or_false] at hi
    subst hi
    refine Dk.zp (some 18) rfl rfl rfl (f:=78) (args:=#[.int .i64 (L:Int),.int .i64 4]) (by rw [← hA];clear hA;(try simp only [zD]);go_simp) ?_
    refine (zaf L w4).mono ?_
    rintro e w' ⟨rfl,hw'⟩
    subst w'
    refine ⟨_,rfl,fun _=>trivial,?_⟩
    refine Dk.nodeT (rs:=[9]) (by kernel_rfl) (by simp) ?_
    intro i hi
    simp only [List.mem_cons,List.not_mem_nil,or_false] at hi
    subst hi
    obtain ⟨w6,r6,s6⟩:=makeS s4 (min L 4) (by omega)
    refine Dk.ze (v:=.slice (some ⟨w4.heap.size,0,none⟩) (min L 4) (min L 4)) (w':=w6) (some 19) rfl rfl rfl (by rw [← hA];(try simp only [zD]);simp only [execOp];simp [Act.eval,r6]) ⟨fun _=>trivial,?_⟩
    refine ⟨by kernel_rfl,Wd.heap.size,w2.heap.size,w4.heap.size,?_,s6.perm ?_⟩
    ·subst hA
     first | rfl | (simp only [zD])
    ·exact ((List.Perm.swap _ _ _).trans ((List.Perm.swap _ _ _).cons _)).trans (List.Perm.swap _ _ _)
   ·refine Dk.zp (some 18) rfl rfl rfl (f:=78) (args:=#[.int .i64 (L:Int),.int .i64 4]) (by rw [← hA];clear hA;(try simp only [zD]);go_simp) ?_
    refine (zaf L w2).mono ?_
    rintro e w' ⟨rfl,hw'⟩
    subst w'
    refine ⟨_,rfl,fun _=>trivial,?_⟩
    refine Dk.nodeT (rs:=[5,9]) (by kernel_rfl) (by simp) ?_
    intro i hi
    simp only [List.mem_cons,List.not_mem_nil,or_false] at hi
    rcases hi with rfl | rfl
    ·obtain ⟨w8,r8,s8⟩:=makeC s2 (Dk.lim conds) (by omega)
     refine Dk.ze (v:=.slice (some ⟨w2.heap.size,0,none⟩) (Dk.lim conds) (Dk.lim conds)) (w':=w8) (some 15) rfl rfl rfl (by rw [← hA];(try simp only [zD]);simp only [execOp];simp [Act.eval,r8]) ⟨fun _=>trivial,?_⟩
     refine Dk.nodeT (rs:=[9]) (by kernel_rfl) (by simp) ?_
     intro i hi
     simp only [List.mem_cons,List.not_mem_nil,or_false] at hi
     subst hi
     obtain ⟨w9,r9,s9⟩:=makeS s8 (min L 4) (by omega)
     refine Dk.ze (v:=.slice (some ⟨w8.heap.size,0,none⟩) (min L 4) (min L 4)) (w':=w9) (some 19) rfl rfl rfl (by rw [← hA];(try simp only [zD]);simp only [execOp];simp [Act.eval,r9]) ⟨fun _=>trivial,?_⟩
     refine ⟨by kernel_rfl,Wd.heap.size,w2.heap.size,w8.heap.size,?_,s9.perm ?_⟩
     ·subst hA
      first | rfl | (simp only [zD])
     ·exact ((List.Perm.swap _ _ _).trans ((List.Perm.swap _ _ _).cons _)).trans (List.Perm.swap _ _ _)
    ·obtain ⟨w10,r10,s10⟩:=makeS s2 (min L 4) (by omega)
     refine Dk.ze (v:=.slice (some ⟨w2.heap.size,0,none⟩) (min L 4) (min L 4)) (w':=w10) (some 19) rfl rfl rfl (by rw [← hA];(try simp only [zD]);simp only [execOp];simp [Act.eval,r10]) ⟨fun _=>trivial,?_⟩
     refine Dk.nodeT (rs:=[5]) (by kernel_rfl) (by simp) ?_
     intro i hi
     simp only [List.mem_cons,List.not_mem_nil,or_false] at hi
     subst hi
     obtain ⟨w11,r11,s11⟩:=makeC s10 (Dk.lim conds) (by omega)
     refine Dk.ze (v:=.slice (some ⟨w10.heap.size,0,none⟩) (Dk.lim conds) (Dk.lim conds)) (w':=w11) (some 15) rfl rfl rfl (by rw [← hA];(try simp only [zD]);simp only [execOp];simp [Act.eval,r11]) ⟨fun _=>trivial,?_⟩
     refine ⟨by kernel_rfl,Wd.heap.size,w10.heap.size,w2.heap.size,?_,s11.perm ?_⟩
     ·subst hA
      first | rfl | (simp only [zD])
     ·exact ((List.Perm.swap _ _ _).cons _).trans (List.Perm.swap _ _ _)
  ·refine Dk.zp (some 14) rfl rfl rfl (f:=78) (args:=#[.int .i64 conds,.int .i64 4]) (by rw [← hA];clear hA;(try simp only [zD]);go_simp) ?_
   refine (zcc conds Wd).mono ?_
   rintro e w' ⟨rfl,hw'⟩
   subst w'
   refine ⟨_,rfl,fun _=>trivial,?_⟩
   refine Dk.nodeT (rs:=[2,5,8]) (by kernel_rfl) (by simp) ?_
   intro i hi
   simp only [List.mem_cons,List.not_mem_nil,or_false] at hi
   rcases hi with rfl | rfl | rfl
   ·obtain ⟨w13,r13,s13⟩:=makeM sd (Dk.lim mutexes) (by omega)
    refine Dk.ze (v:=.slice (some ⟨Wd.heap.size,0,none⟩) (Dk.lim mutexes) (Dk.lim mutexes)) (w':=w13) (some 12) rfl rfl rfl (by rw [← hA];(try simp only [zD]);simp only [execOp];simp [Act.eval,r13]) ⟨fun _=>trivial,?_⟩
    refine Dk.nodeT (rs:=[5,8]) (by kernel_rfl) (by simp) ?_
    intro i hi
    simp only [List.mem_cons,List.not_mem_nil,or_false] at hi
    rcases hi with rfl | rfl
    ·obtain ⟨w14,r14,s14⟩:=makeC s13 (Dk.lim conds) (by omega)
     refine Dk.ze (v:=.slice (some ⟨w13.heap.size,0,none⟩) (Dk.lim conds) (Dk.lim conds)) (w':=w14) (some 15) rfl rfl rfl (by rw [← hA];(try simp only [zD]);simp only [execOp];simp [Act.eval,r14]) ⟨fun _=>trivial,?_⟩
     refine Dk.nodeT (rs:=[8]) (by kernel_rfl) (by simp) ?_
     intro i hi
     simp only [List.mem_cons,List.not_mem_nil,or_false] at hi
     subst hi
     refine Dk.zp (some 18) rfl rfl rfl (f:=78) (args:=#[.int .i64 (L:Int),.int .i64 4]) (by rw [← hA];clear hA;(try simp only [zD]);go_simp) ?_
     refine (zaf L w14).mono ?_
     rintro e w' ⟨rfl,hw'⟩
     subst w'
     refine ⟨_,rfl,fun _=>trivial,?_⟩
     refine Dk.nodeT (rs:=[9]) (by kernel_rfl) (by simp) ?_
     intro i hi
     simp only [List.mem_cons,List.not_mem_nil,or_false] at hi
     subst hi
     obtain ⟨w16,r16,s16⟩:=makeS s14 (min L 4) (by omega)
     refine Dk.ze (v:=.slice (some ⟨w14.heap.size,0,none⟩) (min L 4) (min L 4)) (w':=w16) (some 19) rfl rfl rfl (by rw [← hA];(try simp only [zD]);simp only [execOp];simp [Act.eval,r16]) ⟨fun _=>trivial,?_⟩
     refine ⟨by kernel_rfl,Wd.heap.size,w13.heap.size,w14.heap.size,?_,s16.perm ?_⟩
     ·subst hA
      first | rfl | (simp only [zD])
     ·exact ((List.Perm.swap _ _ _).trans ((List.Perm.swap _ _ _).cons _)).trans (List.Perm.swap _ _ _)
    ·refine Dk.zp (some 18) rfl rfl rfl (f:=78) (args:=#[.int .i64 (L:Int),.int .i64 4]) (by rw [← hA];clear hA;(try simp only [zD]);go_simp) ?_
     refine (zaf L w13).mono ?_
     rintro e w' ⟨rfl,hw'⟩
     subst w'
     refine ⟨_,rfl,fun _=>trivial,?_⟩
     refine Dk.nodeT (rs:=[5,9]) (by kernel_rfl) (by simp) ?_
     intro i hi
     simp only [List.mem_cons,List.not_mem_nil,or_false] at hi
     rcases hi with rfl | rfl
     ·obtain ⟨w18,r18,s18⟩:=makeC s13 (Dk.lim conds) (by omega)
      refine Dk.ze (v:=.slice (some ⟨w13.heap.size,0,none⟩) (Dk.lim conds) (Dk.lim conds)) (w':=w18) (some 15) rfl rfl rfl (by rw [← hA];(try simp only [zD]);simp only [execOp];simp [Act.eval,r18]) ⟨fun _=>trivial,?_⟩
      refine Dk.nodeT (rs:=[9]) (by kernel_rfl) (by simp) ?_
      intro i hi
      simp only [List.mem_cons,List.not_mem_nil,or_false] at hi
      subst hi
      obtain ⟨w19,r19,s19⟩:=makeS s18 (min L 4) (by omega)
      refine Dk.ze (v:=.slice (some ⟨w18.heap.size,0,none⟩) (min L 4) (min L 4)) (w':=w19) (some 19) rfl rfl rfl (by rw [← hA];(try simp only [zD]);simp only [execOp];simp [Act.eval,r19]) ⟨fun _=>trivial,?_⟩
      refine ⟨by kernel_rfl,Wd.heap.size,w13.heap.size,w18.heap.size,?_,s19.perm ?_⟩
      ·subst hA
       first | rfl | (simp only [zD])
      ·exact ((List.Perm.swap _ _ _).trans ((List.Perm.swap _ _ _).cons _)).trans (List.Perm.swap _ _ _)
     ·obtain ⟨w20,r20,s20⟩:=makeS s13 (min L 4) (by omega)
      refine Dk.ze (v:=.slice (some ⟨w13.heap.size,0,none⟩) (min L 4) (min L 4)) (w':=w20) (some 19) rfl rfl rfl (by rw [← hA];(try simp only [zD]);simp only [execOp];simp [Act.eval,r20]) ⟨fun _=>trivial,?_⟩
      refine Dk.nodeT (rs:=[5]) (by kernel_rfl) (by simp) ?_
      intro i hi
      simp only [List.mem_cons,List.not_mem_nil,or_false] at hi
      subst hi
      obtain ⟨w21,r21,s21⟩:=makeC s20 (Dk.lim conds) (by omega)
      refine Dk.ze (v:=.slice (some ⟨w20.heap.size,0,none⟩) (Dk.lim conds) (Dk.lim conds)) (w':=w21) (some 15) rfl rfl rfl (by rw [← hA];(try simp only [zD]);simp only [execOp];simp [Act.eval,r21]) ⟨fun _=>trivial,?_⟩
      refine ⟨by kernel_rfl,Wd.heap.size,w20.heap.size,w13.heap.size,?_,s21.perm ?_⟩
      ·subst hA
       first | rfl | (simp only [zD])
      ·exact ((List.Perm.swap _ _ _).cons _).trans (List.Perm.swap _ _ _)
   ·obtain ⟨w22,r22,s22⟩:=makeC sd (Dk.lim conds) (by omega)
    refine Dk.ze (v:=.slice (some ⟨Wd.heap.size,0,none⟩) (Dk.lim conds) (Dk.lim conds)) (w':=w22) (some 15) rfl rfl rfl (by rw [← hA];(try simp only [zD]);simp only [execOp];simp [Act.eval,r22]) ⟨fun _=>trivial,?_⟩
    refine Dk.nodeT (rs:=[2,8]) (by kernel_rfl) (by simp) ?_
    intro i hi
    simp only [List.mem_cons,List.not_mem_nil,or_false] at hi
    rcases hi with rfl | rfl
    ·obtain ⟨w23,r23,s23⟩:=makeM s22 (Dk.lim mutexes) (by omega)
     refine Dk.ze (v:=.slice (some ⟨w22.heap.size,0,none⟩) (Dk.lim mutexes) (Dk.lim mutexes)) (w':=w23) (some 12) rfl rfl rfl (by rw [← hA];(try simp only [zD]);simp only [execOp];simp [Act.eval,r23]) ⟨fun _=>trivial,?_⟩
     refine Dk.nodeT (rs:=[8]) (by kernel_rfl) (by simp) ?_
     intro i hi
     simp only [List.mem_cons,List.not_mem_nil,or_false] at hi
     subst hi
     refine Dk.zp (some 18) rfl rfl rfl (f:=78) (args:=#[.int .i64 (L:Int),.int .i64 4]) (by rw [← hA];clear hA;(try simp only [zD]);go_simp) ?_
     refine (zaf L w23).mono ?_
     rintro e w' ⟨rfl,hw'⟩
     subst w'
     refine ⟨_,rfl,fun _=>trivial,?_⟩
     refine Dk.nodeT (rs:=[9]) (by kernel_rfl) (by simp) ?_
     intro i hi
     simp only [List.mem_cons,List.not_mem_nil,or_false] at hi
     subst hi
     obtain ⟨w25,r25,s25⟩:=makeS s23 (min L 4) (by omega)
     refine Dk.ze (v:=.slice (some ⟨w23.heap.size,0,none⟩) (min L 4) (min L 4)) (w':=w25) (some 19) rfl rfl rfl (by rw [← hA];(try simp only [zD]);simp only [execOp];simp [Act.eval,r25]) ⟨fun _=>trivial,?_⟩
     refine ⟨by kernel_rfl,w22.heap.size,Wd.heap.size,w23.heap.size,?_,s25.perm ?_⟩
     ·subst hA
      first | rfl | (simp only [zD])
     ·exact (List.Perm.swap _ _ _).trans ((List.Perm.swap _ _ _).cons _)
    ·refine Dk.zp (some 18) rfl rfl rfl (f:=78) (args:=#[.int .i64 (L:Int),.int .i64 4]) (by rw [← hA];clear hA;(try simp only [zD]);go_simp) ?_
     refine (zaf L w22).mono ?_
     rintro e w' ⟨rfl,hw'⟩
     subst w'
     refine ⟨_,rfl,fun _=>trivial,?_⟩
     refine Dk.nodeT (rs:=[2,9]) (by kernel_rfl) (by simp) ?_
     intro i hi
     simp only [List.mem_cons,List.not_mem_nil,or_false] at hi
     rcases hi with rfl | rfl
     ·obtain ⟨w27,r27,s27⟩:=makeM s22 (Dk.lim mutexes) (by omega)
      refine Dk.ze (v:=.slice (some ⟨w22.heap.size,0,none⟩) (Dk.lim mutexes) (Dk.lim mutexes)) (w':=w27) (some 12) rfl rfl rfl (by rw [← hA];(try simp only [zD]);simp only [execOp];simp [Act.eval,r27]) ⟨fun _=>trivial,?_⟩
      refine Dk.nodeT (rs:=[9]) (by kernel_rfl) (by simp) ?_
      intro i hi
      simp only [List.mem_cons,List.not_mem_nil,or_false] at hi
      subst hi
      obtain ⟨w28,r28,s28⟩:=makeS s27 (min L 4) (by omega)
      refine Dk.ze (v:=.slice (some ⟨w27.heap.size,0,none⟩) (min L 4) (min L 4)) (w':=w28) (some 19) rfl rfl rfl (by rw [← hA];(try simp only [zD]);simp only [execOp];simp [Act.eval,r28]) ⟨fun _=>trivial,?_⟩
      refine ⟨by kernel_rfl,w22.heap.size,Wd.heap.size,w27.heap.size,?_,s28.perm ?_⟩
      ·subst hA
       first | rfl | (simp only [zD])
      ·exact (List.Perm.swap _ _ _).trans ((List.Perm.swap _ _ _).cons _)
     ·obtain ⟨w29,r29,s29⟩:=makeS s22 (min L 4) (by omega)
      refine Dk.ze (v:=.slice (some ⟨w22.heap.size,0,none⟩) (min L 4) (min L 4)) (w':=w29) (some 19) rfl rfl rfl (by rw [← hA];(try simp only [zD]);simp only [execOp];simp [Act.eval,r29]) ⟨fun _=>trivial,?_⟩
      refine Dk.nodeT (rs:=[2]) (by kernel_rfl) (by simp) ?_
      intro i hi
      simp only [List.mem_cons,List.not_mem_nil,or_false] at hi
      subst hi
      obtain ⟨w30,r30,s30⟩:=makeM s29 (Dk.lim mutexes) (by omega)
      refine Dk.ze (v:=.slice (some ⟨w29.heap.size,0,none⟩) (Dk.lim mutexes) (Dk.lim mutexes)) (w':=w30) (some 12) rfl rfl rfl (by rw [← hA];(try simp only [zD]);simp only [execOp];simp [Act.eval,r30]) ⟨fun _=>trivial,?_⟩
      refine ⟨by kernel_rfl,w29.heap.size,Wd.heap.size,w22.heap.size,?_,s30.perm ?_⟩
      ·subst hA
       first | rfl | (simp only [zD])
      ·exact (List.Perm.swap _ _ _).cons _
   ·refine Dk.zp (some 18) rfl rfl rfl (f:=78) (args:=#[.int .i64 (L:Int),.int .i64 4]) (by rw [← hA];clear hA;(try simp only [zD]);go_simp) ?_
    refine (zaf L Wd).mono ?_
    rintro e w' ⟨rfl,hw'⟩
    subst w'
    refine ⟨_,rfl,fun _=>trivial,?_⟩
    refine Dk.nodeT (rs:=[2,5,9]) (by kernel_rfl) (by simp) ?_
    intro i hi
    simp only [List.mem_cons,List.not_mem_nil,or_false] at hi
    rcases hi with rfl | rfl | rfl
    ·obtain ⟨w32,r32,s32⟩:=makeM sd (Dk.lim mutexes) (by omega)
     refine Dk.ze (v:=.slice (some ⟨Wd.heap.size,0,none⟩) (Dk.lim mutexes) (Dk.lim mutexes)) (w':=w32) (some 12) rfl rfl rfl (by rw [← hA];(try simp only [zD]);simp only [execOp];simp [Act.eval,r32]) ⟨fun _=>trivial,?_⟩
     refine Dk.nodeT (rs:=[5,9]) (by kernel_rfl) (by simp) ?_
     intro i hi
     simp only [List.mem_cons,List.not_mem_nil,or_false] at hi
     rcases hi with rfl | rfl
     ·obtain ⟨w33,r33,s33⟩:=makeC s32 (Dk.lim conds) (by omega)
      refine Dk.ze (v:=.slice (some ⟨w32.heap.size,0,none⟩) (Dk.lim conds) (Dk.lim conds)) (w':=w33) (some 15) rfl rfl rfl (by rw [← hA];(try simp only [zD]);simp only [execOp];simp [Act.eval,r33]) ⟨fun _=>trivial,?_⟩
      refine Dk.nodeT (rs:=[9]) (by kernel_rfl) (by simp) ?_
      intro i hi
      simp only [List.mem_cons,List.not_mem_nil,or_false] at hi
      subst hi
      obtain ⟨w34,r34,s34⟩:=makeS s33 (min L 4) (by omega)
      refine Dk.ze (v:=.slice (some ⟨w33.heap.size,0,none⟩) (min L 4) (min L 4)) (w':=w34) (some 19) rfl rfl rfl (by rw [← hA];(try simp only [zD]);simp only [execOp];simp [Act.eval,r34]) ⟨fun _=>trivial,?_⟩
      refine ⟨by kernel_rfl,Wd.heap.size,w32.heap.size,w33.heap.size,?_,s34.perm ?_⟩
      ·subst hA
       first | rfl | (simp only [zD])
      ·exact ((List.Perm.swap _ _ _).trans ((List.Perm.swap _ _ _).cons _)).trans (List.Perm.swap _ _ _)
     ·obtain ⟨w35,r35,s35⟩:=makeS s32 (min L 4) (by omega)
      refine Dk.ze (v:=.slice (some ⟨w32.heap.size,0,none⟩) (min L 4) (min L 4)) (w':=w35) (some 19) rfl rfl rfl (by rw [← hA];(try simp only [zD]);simp only [execOp];simp [Act.eval,r35]) ⟨fun _=>trivial,?_⟩
      refine Dk.nodeT (rs:=[5]) (by kernel_rfl) (by simp) ?_
      intro i hi
      simp only [List.mem_cons,List.not_mem_nil,or_false] at hi
      subst hi
      obtain ⟨w36,r36,s36⟩:=makeC s35 (Dk.lim conds) (by omega)
      refine Dk.ze (v:=.slice (some ⟨w35.heap.size,0,none⟩) (Dk.lim conds) (Dk.lim conds)) (w':=w36) (some 15) rfl rfl rfl (by rw [← hA];(try simp only [zD]);simp only [execOp];simp [Act.eval,r36]) ⟨fun _=>trivial,?_⟩
      refine ⟨by kernel_rfl,Wd.heap.size,w35.heap.size,w32.heap.size,?_,s36.perm ?_⟩
      ·subst hA
       first | rfl | (simp only [zD])
      ·exact ((List.Perm.swap _ _ _).cons _).trans (List.Perm.swap _ _ _)
    ·obtain ⟨w37,r37,s37⟩:=makeC sd (Dk.lim conds) (by omega)
     refine Dk.ze (v:=.slice (some ⟨Wd.heap.size,0,none⟩) (Dk.lim conds) (Dk.lim conds)) (w':=w37) (some 15) rfl rfl rfl (by rw [← hA];(try simp only [zD]);simp only [execOp];simp [Act.eval,r37]) ⟨fun _=>trivial,?_⟩
     refine Dk.nodeT (rs:=[2,9]) (by kernel_rfl) (by simp) ?_
     intro i hi
     simp only [List.mem_cons,List.not_mem_nil,or_false] at hi
     rcases hi with rfl | rfl
     ·obtain ⟨w38,r38,s38⟩:=makeM s37 (Dk.lim mutexes) (by omega)
      refine Dk.ze (v:=.slice (some ⟨w37.heap.size,0,none⟩) (Dk.lim mutexes) (Dk.lim mutexes)) (w':=w38) (some 12) rfl rfl rfl (by rw [← hA];(try simp only [zD]);simp only [execOp];simp [Act.eval,r38]) ⟨fun _=>trivial,?_⟩
      refine Dk.nodeT (rs:=[9]) (by kernel_rfl) (by simp) ?_
      intro i hi
      simp only [List.mem_cons,List.not_mem_nil,or_false] at hi
      subst hi
      obtain ⟨w39,r39,s39⟩:=makeS s38 (min L 4) (by omega)
      refine Dk.ze (v:=.slice (some ⟨w38.heap.size,0,none⟩) (min L 4) (min L 4)) (w':=w39) (some 19) rfl rfl rfl (by rw [← hA];(try simp only [zD]);simp only [execOp];simp [Act.eval,r39]) ⟨fun _=>trivial,?_⟩
      refine ⟨by kernel_rfl,w37.heap.size,Wd.heap.size,w38.heap.size,?_,s39.perm ?_⟩
      ·subst hA
       first | rfl | (simp only [zD])
      ·exact (List.Perm.swap _ _ _).trans ((List.Perm.swap _ _ _).cons _)
     ·obtain ⟨w40,r40,s40⟩:=makeS s37 (min L 4) (by omega)
      refine Dk.ze (v:=.slice (some ⟨w37.heap.size,0,none⟩) (min L 4) (min L 4)) (w':=w40) (some 19) rfl rfl rfl (by rw [← hA];(try simp only [zD]);simp only [execOp];simp [Act.eval,r40]) ⟨fun _=>trivial,?_⟩
      refine Dk.nodeT (rs:=[2]) (by kernel_rfl) (by simp) ?_
      intro i hi
      simp only [List.mem_cons,List.not_mem_nil,or_false] at hi
      subst hi
      obtain ⟨w41,r41,s41⟩:=makeM s40 (Dk.lim mutexes) (by omega)
      refine Dk.ze (v:=.slice (some ⟨w40.heap.size,0,none⟩) (Dk.lim mutexes) (Dk.lim mutexes)) (w':=w41) (some 12) rfl rfl rfl (by rw [← hA];(try simp only [zD]);simp only [execOp];simp [Act.eval,r41]) ⟨fun _=>trivial,?_⟩
      refine ⟨by kernel_rfl,w40.heap.size,Wd.heap.size,w37.heap.size,?_,s41.perm ?_⟩
      ·subst hA
       first | rfl | (simp only [zD])
      ·exact (List.Perm.swap _ _ _).cons _
    ·obtain ⟨w42,r42,s42⟩:=makeS sd (min L 4) (by omega)
     refine Dk.ze (v:=.slice (some ⟨Wd.heap.size,0,none⟩) (min L 4) (min L 4)) (w':=w42) (some 19) rfl rfl rfl (by rw [← hA];(try simp only [zD]);simp only [execOp];simp [Act.eval,r42]) ⟨fun _=>trivial,?_⟩
     refine Dk.nodeT (rs:=[2,5]) (by kernel_rfl) (by simp) ?_
     intro i hi
     simp only [List.mem_cons,List.not_mem_nil,or_false] at hi
     rcases hi with rfl | rfl
     ·obtain ⟨w43,r43,s43⟩:=makeM s42 (Dk.lim mutexes) (by omega)
      refine Dk.ze (v:=.slice (some ⟨w42.heap.size,0,none⟩) (Dk.lim mutexes) (Dk.lim mutexes)) (w':=w43) (some 12) rfl rfl rfl (by rw [← hA];(try simp only [zD]);simp only [execOp];simp [Act.eval,r43]) ⟨fun _=>trivial,?_⟩
      refine Dk.nodeT (rs:=[5]) (by kernel_rfl) (by simp) ?_
      intro i hi
      simp only [List.mem_cons,List.not_mem_nil,or_false] at hi
      subst hi
      obtain ⟨w44,r44,s44⟩:=makeC s43 (Dk.lim conds) (by omega)
      refine Dk.ze (v:=.slice (some ⟨w43.heap.size,0,none⟩) (Dk.lim conds) (Dk.lim conds)) (w':=w44) (some 15) rfl rfl rfl (by rw [← hA];(try simp only [zD]);simp only [execOp];simp [Act.eval,r44]) ⟨fun _=>trivial,?_⟩
      refine ⟨by kernel_rfl,w42.heap.size,w43.heap.size,Wd.heap.size,?_,s44.perm ?_⟩
      ·subst hA
       first | rfl | (simp only [zD])
      ·exact List.Perm.swap _ _ _
     ·obtain ⟨w45,r45,s45⟩:=makeC s42 (Dk.lim conds) (by omega)
      refine Dk.ze (v:=.slice (some ⟨w42.heap.size,0,none⟩) (Dk.lim conds) (Dk.lim conds)) (w':=w45) (some 15) rfl rfl rfl (by rw [← hA];(try simp only [zD]);simp only [execOp];simp [Act.eval,r45]) ⟨fun _=>trivial,?_⟩
      refine Dk.nodeT (rs:=[2]) (by kernel_rfl) (by simp) ?_
      intro i hi
      simp only [List.mem_cons,List.not_mem_nil,or_false] at hi
      subst hi
      obtain ⟨w46,r46,s46⟩:=makeM s45 (Dk.lim mutexes) (by omega)
      refine Dk.ze (v:=.slice (some ⟨w45.heap.size,0,none⟩) (Dk.lim mutexes) (Dk.lim mutexes)) (w':=w46) (some 12) rfl rfl rfl (by rw [← hA];(try simp only [zD]);simp only [execOp];simp [Act.eval,r46]) ⟨fun _=>trivial,?_⟩
      refine ⟨by kernel_rfl,w45.heap.size,w42.heap.size,Wd.heap.size,?_,s46.perm ?_⟩
      ·subst hA
       first | rfl | (simp only [zD])
      ·exact List.Perm.refl _
theorem join_new {w':World} {ts:List Dk.Thing} (h:Dk.Sep W w us) (h':Dk.Sep w w' ts):Dk.Sep W w' (us++ts):=by
 have q:=Hid.out h
 have q':=Hid.out h'
 have qb:=Hid.out (h.below q'.up)
 refine ⟨fun t ht=>?_,List.pairwise_append.2 ⟨q.apart,q'.apart,fun x hx y hy k hk hyk=>?_⟩,qb.up⟩
 ·rcases List.mem_append.1 ht with ht | ht
  ·exact qb.all t ht
  ·exact ⟨(q'.all t ht).1,fun k hk=>Nat.le_trans q.up.size ((q'.all t ht).2 k hk)⟩
 ·have h1:=x.lt w (q.all x hx).1 k hk
  have h2:=(q'.all y hy).2 k hyk
  omega
theorem New_any (h:Dk.Sep W w us) (mutexes conds:Int) (A:Option Addr) (L C:Nat) (xs:List Int) (hs:Dk.SlI w.heap.size w A L C xs) :
  Calls Tryz.prog 38 #[.int .i64 mutexes,.int .i64 conds,.slice A L C] w fun e w'=>∃ b ts,e=.returned (.pointer (some ⟨b,0,none⟩))∧G0 b (Dk.start mutexes conds xs) ts∧Dk.Sep W w' (us++ts):=by
 refine (New_t (W:=w) (us:=[]) (Dk.Sep.begin (Below.refl _ _)) mutexes conds A L C xs hs).mono ?_
 rintro e w' ⟨b,ts,rfl,hG,h'⟩
 exact ⟨b,ts,rfl,hG,join_new h h'⟩
end
end Go.Proofs.YtpnajphbjfehnaaGreat
