import Derived.Test.YtglhhlfopccmaaaGreatOw24
set_option linter.unusedSimpArgs false
set_option linter.unusedVariables false
set_option linter.unnecessarySimpa false
set_option maxHeartbeats 8000000
set_option maxRecDepth 100000
namespace Dk
open Go Go.RowKit
theorem zax {P:Go.Program} {S:World→Prop} {Q:Exit→Act→World→Prop} {L:List Oper} {j:Nat} {js:List Nat} {a:Act} {w:World} {o:Oper} {f:FuncId} {args:Array Value} (ho:L[j]? = some o) (hg:o.guard=none)
  (hr:(execOp a.eval o).run P w=.ok (.enter f args) w) (hc:Calls P f args w fun e w'=>∃ v,e=.returned v∧S w'∧lineWalk P L.toArray Q S js (a.put o.dst v) w'):lineWalk P L.toArray Q S (j::js) a w:=by
 refine zk ho hg ?_
 unfold Oper.wp
 rw [hr]
 simp only [Oper.upon]
 refine Calls.mono hc ?_
 rintro e w' ⟨v,rfl,h⟩
 exact h
theorem zkx:∀ (l:List (Int × Int)) {S:St} {k:Nat},Ok S k→(∀ p ∈ l,i64 p.1∧0≤p.2∧p.2 < S.owner.length)→∀ x,(S.goes l).1.cnt x≤S.cnt x+(l.map Prod.fst).count x
 | [],S,k,_,_,x=>Nat.le_add_right _ _
 | p::r,S,k,ok,hp,x=>by
  have ok1:=ok.goes1 p (hp p (by simp))
  have hn:p.2.toNat < S.wait.length:=by have:=hp p (by simp);rw [ok.wait];omega
  have h1:(S.goes1 p).1.cnt x≤S.cnt x+[p.1].count x:=by
   unfold St.goes1
   dsimp only
   split
   ·have h1:=zgy S p.2.toNat hn (S.wait.getD p.2.toNat []++[p.1]) x
    rw [List.count_append] at h1
    dsimp only
    omega
   ·show S.cnt x≤_
    omega
  have h2:=zkx r ok1.1 (fun y hy=>by rw [ok1.2];exact hp y (by simp [hy])) x
  rw [St.goes,List.map_cons,List.count_cons]
  rw [List.count_singleton] at h1
  dsimp only
  omega
end Dk
namespace Go.Proofs.YtglhhlfopccmaaaGreat
open Go.RowKit Go.Lib
section
variable {W w : World} {b k i g C : Nat} {S : Dk.St} {vm vc vs : Value} {ms : List Mx} {cs : List Cx} {ss : List Sx} {us : List Dk.Thing} {c : Cx} {m : Mx}
theorem zhs (S:Dk.St) (i:Nat) (ch:Int) (all:Bool):∀ p ∈ S.told i ch all,p ∈ S.conds.getD i []:=fun p hp=>by
 unfold Dk.St.told at hp
 dsimp only at hp
 split at hp
 ·exact hp
 ·split at hp
  ·simp at hp
  ·rw [List.mem_singleton] at hp
   rw [hp]
   exact Dk.zac _ _ _ (Dk.zgw _ (by omega))
theorem told_len (S:Dk.St) (i:Nat) (ch:Int) (all:Bool):(S.told i ch all).length≤(S.conds.getD i []).length:=by
 unfold Dk.St.told
 dsimp only
 split
 ·exact Nat.le_refl _
 ·split
  ·simp
  ·show 1≤_
   omega
theorem msignal (h:Dk.Sep W w (us++gts b vm (.slice (some ⟨g,0,none⟩) cs.length C) vs ms cs ss)) (l:Like S ms cs ss) (ok:Dk.Ok S k) (hk:k≤300) (hc:cs[i]? = some c) (ch:Int) (hch:Dk.i64 ch) (all:Bool) :
  Calls Tryz.prog 234 #[.pointer (some ⟨g,i*2,none⟩),.int .i64 ch,.bool all] w fun e w'=>∃ A Ca cs',e=.returned (.slice A (S.told i ch all).length Ca)∧cs'.length=cs.length∧Like { S with conds:=S.conds.set i (S.kept i ch all) } ms cs' ss∧Dk.Sep W w' ((Dk.rowOf 324 2 (.slice A (S.told i ch all).length Ca) (S.told i ch all).length (Dk.pr2 (S.told i ch all))::us)++gts b vm (.slice (some ⟨g,0,none⟩) cs.length C) vs ms cs' ss):=by
 have hi:i < S.conds.length:=by rw [← l.lenC];exact Dk.zv hc
 obtain ⟨c2,hc2,ew⟩:=l.atC hi
 rw [hc] at hc2
 cases hc2
 have hmem:=Dk.zac S.conds [] i hi
 have hl:c.xs.length≤1000:=by have:=ok.condLen hmem;rw [ew] at this;omega
 have hp:∀ p ∈ c.xs,Dk.i64 p.1:=fun p hp=>(ok.conds _ hmem p (by rw [ew];exact hp)).1
 cases all
 ·by_cases h0:c.xs.length=0
  ·have e0:=List.eq_nil_of_length_eq_zero h0
   have et:S.told i ch false=[]:=by unfold Dk.St.told;simp only [ew,h0];rfl
   have ek:S.kept i ch false=[]:=by unfold Dk.St.kept;simp only [ew,h0];rfl
   refine (zip h hc ch e0).mono ?_
   rintro e w' ⟨rfl,rfl⟩
   have l2:=l.kept hc ch false [] ek c.u
   have es:cs.set i ⟨c.u,[],c.bm⟩=cs:=Dk.set_self _ _ _ (by rw [hc,← e0])
   rw [es] at l2
   rw [et]
   exact ⟨none,0,cs,rfl,rfl,l2,h.nil _ _⟩
  ·obtain ⟨a,ea⟩:∃ a,Dk.at_ ch c.xs.length=a:=⟨_,rfl⟩
   have ha:a < c.xs.length:=by rw [← ea];exact Dk.zgw _ (by omega)
   obtain ⟨p,ep⟩:=Dk.zcx ha
   have et:S.told i ch false=[p]:=by
    unfold Dk.St.told
    simp only [ew,h0,if_false,Bool.false_eq_true,ea]
    rw [Dk.getD_some ep]
   have ek:S.kept i ch false=c.xs.eraseIdx a:=by
    unfold Dk.St.kept
    simp only [ew,h0,if_false,Bool.false_eq_true,ea]
   refine (zju h hc ch hch hl hp (by omega) a ea p ep).mono ?_
   rintro e w' ⟨u',A,Ca,rfl,h'⟩
   rw [et]
   exact ⟨A,Ca,_,rfl,List.length_set,l.kept hc ch false _ ek u',h'⟩
 ·have et:S.told i ch true=c.xs:=by unfold Dk.St.told;simp only [ew,if_true]
  have ek:S.kept i ch true=[]:=by unfold Dk.St.kept;simp only [if_true]
  refine (zjt h hc ch hl hp).mono ?_
  rintro e w' ⟨u',A,Ca,rfl,h'⟩
  rw [et]
  exact ⟨A,Ca,_,rfl,List.length_set,l.kept hc ch true _ ek u',h'⟩
theorem znh (h:Dk.Sep W w (us++gts b vm vc vs ms cs ss)) (l:Like S ms cs ss) (ok:Dk.Ok S k) (hk:k≤300) (n:Nat) (hn:n < cs.length) (ch:Int) (hch:Dk.i64 ch) (all:Bool) :
  Calls Tryz.prog 204 #[.pointer (some ⟨b,0,none⟩),.int .i64 (n:Int),.int .i64 ch,.bool all] w fun e w'=>∃ A Ca ms' cs',e=.returned (.tuple #[.slice A (S.signal n ch all).2.length Ca,.int .i64 0])∧Like (S.signal n ch all).1 ms' cs' ss∧Dk.Sep W w' ((Dk.rowOf 3 1 (.slice A (S.signal n ch all).2.length Ca) (S.signal n ch all).2.length (Dk.is (S.signal n ch all).2)::us)++gts b vm vc vs ms' cs' ss):=by
 obtain ⟨g,C,ev,hC,hmx⟩:=someC h hn
 unfold maxLen at hmx
 subst ev
 obtain ⟨c,hc⟩:=Dk.zcx hn
 have hns:n < S.conds.length:=by rw [← l.lenC];exact hn
 have hmem:=Dk.zac S.conds [] n hns
 have K0:=zb9 h n hn
 have c0:w.cell? ⟨b,1,none⟩=some (.slice (some ⟨g,0,none⟩) cs.length C):=(headG h).cell 1
 have hni:(n:Int) < (cs.length:Int):=by omega
 have K1:=msignal h l ok hk hc ch hch all
 obtain ⟨os,eos⟩:∃ os,S.told n ch all=os:=⟨_,rfl⟩
 obtain ⟨S1,eS1⟩:∃ S1,S1={ S with conds:=S.conds.set n (S.kept n ch all) }:=⟨_,rfl⟩
 have eS:S.signal n ch all=S1.goes os:=by rw [eS1,← eos];rfl
 have hoL:os.length≤300:=by
  have:=told_len S n ch all
  have:=ok.condLen hmem
  rw [← eos]
  omega
 have hos:∀ p ∈ os,Dk.i64 p.1∧0≤p.2∧p.2 < (S1.owner.length:Int):=fun p hp=>by
  rw [eS1]
  exact ok.conds _ hmem p (zhs S n ch all p (by rw [eos];exact hp))
 have hkl:(S.kept n ch all).length≤(S.conds.getD n []).length:=by
  unfold Dk.St.kept
  dsimp only
  split
  ·simp
  ·split
   ·simp
   ·exact List.length_eraseIdx_le _ _
 have hkm:∀ p ∈ S.kept n ch all,p ∈ S.conds.getD n []:=fun p hp=>by
  unfold Dk.St.kept at hp
  dsimp only at hp
  split at hp
  ·simp at hp
  ·split at hp
   ·simp at hp
   ·exact List.mem_of_mem_eraseIdx hp
 have ok1:Dk.Ok S1 k:=by
  rw [eS1]
  exact ok.setConds n hns _ (fun p hp=>ok.conds _ hmem p (hkm p hp)) (by omega)
 have hcnt:∀ x,S1.cnt x+(os.map Prod.fst).count x≤1:=fun x=>by
  have:=Dk.zfm S n hns ch all x
  rw [eos,← eS1] at this
  have:=l.fair.once x
  omega
 rw [eos,← eS1] at K1
 rw [eS]
 have HOS:Hid _:=hos
 have HOK:Hid _:=ok1
 have HCN:Hid _:=hcnt
 obtain ⟨L,eL⟩:∃ L,os.length=L:=⟨_,rfl⟩
 have HL:Hid (os.length=L):=eL
 clear hos ok1 hcnt hkl hkm eS eS1 eos hmem hns h l ok hc
 go_enter Tryz.func204,Tryz.ntmps204
 go_wp2_with fail
 refine K0.mono ?_
 rintro e w' ⟨rfl,hw'⟩
 subst w'
 clear K0
 go_wp2_with fail
 refine K1.mono ?_
 rintro e w1 ⟨A,Ca,cs1,rfl,hcl,l1,h1⟩
 clear K1 c0
 rw [eL] at hoL h1
 rw [HL.out]
 obtain ⟨vm0,evm⟩:∃ v,v=vm:=⟨_,rfl⟩
 have hs0:Dk.Sep W w1 ((Dk.rowOf 3 1 (.slice none 0 0) (S1.goes (os.take 0)).2.length (Dk.is (S1.goes (os.take 0)).2)::Dk.rowOf 324 2 (.slice A L Ca) L (Dk.pr2 os)::us)++gts b vm (.slice (some ⟨g,0,none⟩) cs.length C) vs ms cs1 ss):=h1.nil 3 1
 have l0:Like (S1.goes (os.take 0)).1 ms cs1 ss:=l1
 clear h1 l1
 go_wp2_with fail
 go_loopw [10,27] (fun v i w'=>∃ (j:Nat) (ms':List Mx),j≤L∧i=.int .i64 j∧Like (S1.goes (os.take j)).1 ms' cs1 ss∧Dk.Sep W w' ((Dk.rowOf 3 1 v (S1.goes (os.take j)).2.length (Dk.is (S1.goes (os.take j)).2)::Dk.rowOf 324 2 (.slice A L Ca) L (Dk.pr2 os)::us)++gts b vm (.slice (some ⟨g,0,none⟩) cs.length C) vs ms' cs1 ss)) (fun v i w'=>L - (intOf i).toNat)
 case atStart=>exact ⟨0,ms,Nat.zero_le _,rfl,l0,hs0⟩
 case round=>
  obtain ⟨j,ms',hj,rfl,lT,hT⟩:=hrel
  clear hs0 l0
  by_cases hlt:j < L
  ·have z1:decide ((j:Int) < (L:Int))=true:=decide_eq_true (by omega)
   have hjL:(j:Int) < (L:Int):=by omega
   have hjo:j < os.length:=by have:=HL.out;omega
   obtain ⟨⟨x,pm⟩,ep⟩:=Dk.zcx hjo
   obtain ⟨hix,hp0,hp1⟩:=HOS.out _ (List.mem_of_getElem? ep)
   have hos':∀ p ∈ os.take j,Dk.i64 p.1∧0≤p.2∧p.2 < (S1.owner.length:Int):=fun p hp=>HOS.out p (List.mem_of_mem_take hp)
   have okT:=Dk.Ok.goes (os.take j) HOK.out hos'
   have hnext:S1.goes (os.take (j+1))=(((S1.goes (os.take j)).1.goes1 (x,pm)).1,(S1.goes (os.take j)).2++((S1.goes (os.take j)).1.goes1 (x,pm)).2):=by
    rw [List.take_add_one,ep]
    exact Dk.zih _ _ _
   have hgl:(S1.goes (os.take j)).2.length≤300:=by
    have:=Dk.zdg (os.take j) S1
    rw [List.length_take] at this
    omega
   have hcx:(S1.goes (os.take j)).1.waits x=false:=by
    have h1:=Dk.zkx (os.take j) HOK.out hos' x
    have h2:=HCN.out x
    have h3:(os.map Prod.fst).count x=((os.take j).map Prod.fst).count x+((os.drop j).map Prod.fst).count x:=by
     conv=>lhs;rw [← List.take_append_drop j os]
     rw [List.map_append,List.count_append]
    have h4:0 < ((os.drop j).map Prod.fst).count x:=List.count_pos_iff.2 (List.mem_map.2 ⟨(x,pm),List.mem_of_getElem? (i:=0) (by rw [List.getElem?_drop,Nat.add_zero];exact ep),rfl⟩)
    rw [Dk.St.zfo,decide_eq_false_iff_not]
    omega
   obtain ⟨T,eT⟩:∃ T,(S1.goes (os.take j)).1=T:=⟨_,rfl⟩
   obtain ⟨gs,egs⟩:∃ gs,(S1.goes (os.take j)).2=gs:=⟨_,rfl⟩
   rw [eT] at okT hnext lT hcx
   rw [egs] at hT hnext hgl
   clear eT egs hos'
   obtain ⟨nn,en⟩:∃ nn:Nat,pm=nn:=⟨pm.toNat,(Int.toNat_of_nonneg hp0).symm⟩
   subst en
   have hn':nn < T.owner.length:=by have:=okT.2;omega
   have hnm:nn < ms'.length:=by rw [lT.len];exact hn'
   have hnmi:(nn:Int) < (ms'.length:Int):=by omega
   obtain ⟨m,hm,ew,eh,eo1,eo2⟩:=lT.atM hn'
   have hlm:m.xs.length≤1000:=by
    have:=okT.1.waitLen (Dk.zac T.wait [] nn (by rw [okT.1.wait];exact hn'))
    rw [ew,List.length_take] at this
    omega
   obtain ⟨gm,Cm,evm',hCm,hmm⟩:=someM hT hnm
   unfold maxLen at hmm
   subst evm'
   -- the one's cells
   have hro:=hT.row (e:=324) (s:=2) (v:=.slice A L Ca) (n:=L) (xs:=Dk.pr2 os) (by simp)
   obtain ⟨gq,Cq,yy,eq0,hCq,hmq,hyy⟩:=Dk.zbb (k:=j*2) hro (by omega)
   clear hyy
   injection eq0 with eAq eLq eCq
   subst eAq eCq
   unfold maxLen at hmq
   have pg:=Dk.zpl os j hjo
   rw [Dk.getD_some ep] at pg
   have hcs:=hro.cells (g:=gq) rfl
   have x0:wr.cell? ⟨gq,j*2,none⟩=some (.int .i64 x):=by
    have q:=hcs _ _ pg.1
    rw [Addr.add_lit,Nat.zero_add] at q
    exact q
   have x1:wr.cell? ⟨gq,j*2+1,none⟩=some (.int .i64 (nn:Int)):=by
    have q:=hcs _ _ pg.2
    rw [Addr.add_lit,Nat.zero_add] at q
    exact q
   -- the worlds
   obtain ⟨W2,e2⟩:∃ W2,W2=wr.alloc (.cells #[.int .i64 0,.int .i64 0] 324):=⟨_,rfl⟩
   have h2:=hT.newBox e2
   have b2:Dk.Box W2 wr.heap.size #[.int .i64 0,.int .i64 0] 324:=h2.box (by simp)
   obtain ⟨W3,e3⟩:∃ W3,W3=W2.setRow wr.heap.size #[.int .i64 x,.int .i64 (nn:Int)]:=⟨_,rfl⟩
   have h3:=zgd h2 e3
   have h4:=h3.below (Dk.zh (Below.refl _ _))
   obtain ⟨bx,ebx⟩:∃ bx,wr.heap.size=bx:=⟨_,rfl⟩
   rw [ebx] at h4
   have b4:Dk.Box W3.drew bx #[.int .i64 x,.int .i64 (nn:Int)] 324:=h4.box (by simp)
   have h4':Dk.Sep W W3.drew ((Dk.boxOf bx #[.int .i64 x,.int .i64 (nn:Int)] 324::Dk.rowOf 3 1 u10 gs.length (Dk.is gs)::Dk.rowOf 324 2 (.slice (some ⟨gq,0,none⟩) L Ca) L (Dk.pr2 os)::us)++gts b (.slice (some ⟨gm,0,none⟩) ms'.length Cm) (.slice (some ⟨g,0,none⟩) cs.length C) vs ms' cs1 ss):=h4
   have HS0:Hid (W3.drew.cell? ⟨b,0,none⟩=some (.slice (some ⟨gm,0,none⟩) ms'.length Cm)∧W3.drew.cell? ⟨bx,0,none⟩=some (.int .i64 x)∧W3.drew.cell? ⟨bx,1,none⟩=some (.int .i64 (nn:Int))):=⟨(headG h4').cell 0,b4.cell 0,b4.cell 1⟩
   have H2:Hid (wr.alloc (.cells #[.int .i64 0,.int .i64 0] 324)=W2):=e2.symm
   have H3:Hid (W2.setRow wr.heap.size #[.int .i64 x,.int .i64 (nn:Int)]=W3):=e3.symm
   have HB2:Hid (Dk.Box W2 wr.heap.size #[.int .i64 0,.int .i64 0] 324):=b2
   have HBX:Hid (wr.heap.size=bx):=ebx
   have HNX:Hid _:=hnext
   obtain ⟨Au,Cu,eu,_,_⟩:=Dk.zc (hT.row (e:=3) (s:=1) (v:=u10) (n:=gs.length) (xs:=Dk.is gs) (by simp))
   subst eu
   cases hh:m.owned with
   | true=>
    have K:=zga h4' hm hh x hlm
    have hg1:T.goes1 (x,(nn:Int))=({ T with wait:=T.wait.set nn (T.wait.getD nn []++[x]) },[]):=by
     unfold Dk.St.goes1
     simp only [Int.toNat_natCast,eh,hh,if_true]
    have lN:∀ u',Like (S1.goes (os.take (j+1))).1 (ms'.set nn ⟨u',m.xs++[x],m.owner,m.owned⟩) cs1 ss:=fun u'=>by
     rw [HNX.out,hg1]
     exact lT.addWait okT.1 hm hh x hcx u'
    have eN:(S1.goes (os.take (j+1))).2=gs:=by rw [HNX.out,hg1,List.append_nil]
    have HLN:Hid _:=lN
    have HEN:Hid _:=eN
    clear hnext HNX hg1 lN eN hT h2 h3 h4 h4' b4 b2 e2 e3 ebx hro hcs pg lT okT ep
    go_wp2_with (first | (rw [H2.out];clear H2) | (refine wpList_store_row rfl 324 _ _ rfl wr.heap.size #[.int .i64 x,.int .i64 (nn:Int)] rfl rfl 324 _ HB2.out.heap zhm rfl (zfg _ _) ?_;rw [H3.out,HBX.out];clear HB2))
    refine Dk.zf (S:=fun w'=>w'.cell? ⟨b,0,none⟩=some (.slice (some ⟨gm,0,none⟩) ms'.length Cm)∧w'.cell? ⟨bx,0,none⟩=some (.int .i64 x)∧w'.cell? ⟨bx,1,none⟩=some (.int .i64 (nn:Int))) [0,1,2,3,4,5,6,7,8] [9] (by kernel_rfl) (by kernel_rfl) HS0.out ?_
    refine Dk.za (v:=.pointer (some ⟨b,0,none⟩)) rfl rfl (fun w' hw'=>by obtain ⟨q0,q1,q2⟩:=hw';go_simp) ?_
    simp only [zD]
    refine Dk.za (v:=.pointer (some ⟨b,0,none⟩)) rfl rfl (fun w' hw'=>by obtain ⟨q0,q1,q2⟩:=hw';go_simp) ?_
    simp only [zD]
    refine Dk.za (v:=.pointer (some ⟨b,0,none⟩)) rfl rfl (fun w' hw'=>by obtain ⟨q0,q1,q2⟩:=hw';go_simp) ?_
    simp only [zD]
    refine Dk.za (v:=.slice (some ⟨gm,0,none⟩) ms'.length Cm) rfl rfl (fun w' hw'=>by obtain ⟨q0,q1,q2⟩:=hw';go_simp) ?_
    simp only [zD]
    refine Dk.za (v:=.pointer (some ⟨bx,1,none⟩)) rfl rfl (fun w' hw'=>by obtain ⟨q0,q1,q2⟩:=hw';go_simp) ?_
    simp only [zD]
    refine Dk.za (v:=.int .i64 (nn:Int)) rfl rfl (fun w' hw'=>by obtain ⟨q0,q1,q2⟩:=hw';go_simp) ?_
    simp only [zD]
    refine Dk.za (v:=.pointer (some ⟨gm,nn*3,none⟩)) rfl rfl (fun w' hw'=>by obtain ⟨q0,q1,q2⟩:=hw';go_simp) ?_
    simp only [zD]
    refine Dk.za (v:=.pointer (some ⟨bx,0,none⟩)) rfl rfl (fun w' hw'=>by obtain ⟨q0,q1,q2⟩:=hw';go_simp) ?_
    simp only [zD]
    refine Dk.za (v:=.int .i64 x) rfl rfl (fun w' hw'=>by obtain ⟨q0,q1,q2⟩:=hw';go_simp) ?_
    simp only [zD]
    refine Dk.zax (f:=196) (args:=#[.pointer (some ⟨gm,nn*3,none⟩),.int .i64 x]) rfl rfl (by go_simp) ?_
    refine K.mono ?_
    rintro e w5 ⟨rfl,u',h5⟩
    refine ⟨_,rfl,⟨(headG h5).cell 0,(h5.box (b:=bx) (cs:=#[.int .i64 x,.int .i64 (nn:Int)]) (t:=324) (by simp)).cell 0,(h5.box (b:=bx) (cs:=#[.int .i64 x,.int .i64 (nn:Int)]) (t:=324) (by simp)).cell 1⟩,?_⟩
    simp only [zD]
    rename ∀ (_:Act) (_:World),Code.wp _ _ _ _ _→_=>hK
    refine hK _ _ ?_
    have h6:=h5.sub (us:=(Dk.rowOf 3 1 (.slice Au gs.length Cu) gs.length (Dk.is gs)::Dk.rowOf 324 2 (.slice (some ⟨gq,0,none⟩) L Ca) L (Dk.pr2 os)::us)++gts b (.slice (some ⟨gm,0,none⟩) ms'.length Cm) (.slice (some ⟨g,0,none⟩) cs.length C) vs (ms'.set nn ⟨u',m.xs++[x],m.owner,m.owned⟩) cs1 ss) (List.sublist_cons_self _ _)
    have l6:=HLN.out u'
    rw [← HEN.out] at h6
    clear hK HS0 K h5
    go_wp2_with fail
    go_roundw
    case rel=>exact ⟨j+1,_,by omega,by go_num,l6,by rw [HEN.out] at h6 ⊢;exact h6⟩
    case measure=>simp [intOf];omega
   | false=>
    have K:=zf9 h4' hm hh (eo2 hh) x
    have hg1:T.goes1 (x,(nn:Int))=({ T with held:=T.held.set nn true,owner:=T.owner.set nn x },[x]):=by
     unfold Dk.St.goes1
     simp only [Int.toNat_natCast,eh,hh,Bool.false_eq_true,if_false]
    have lN:Like (S1.goes (os.take (j+1))).1 (ms'.set nn ⟨m.u,m.xs,x,true⟩) cs1 ss:=by
     rw [HNX.out,hg1]
     exact lT.yes hm x
    have eN:(S1.goes (os.take (j+1))).2=gs++[x]:=by rw [HNX.out,hg1]
    have HLN:Hid _:=lN
    have HEN:Hid _:=eN
    clear hnext HNX hg1 lN eN hT h2 h3 h4 h4' b4 b2 e2 e3 ebx hro hcs pg lT okT ep
    go_wp2_with (first | (rw [H2.out];clear H2) | (refine wpList_store_row rfl 324 _ _ rfl wr.heap.size #[.int .i64 x,.int .i64 (nn:Int)] rfl rfl 324 _ HB2.out.heap zhm rfl (zfg _ _) ?_;rw [H3.out,HBX.out];clear HB2))
    refine Dk.zf (S:=fun w'=>w'.cell? ⟨b,0,none⟩=some (.slice (some ⟨gm,0,none⟩) ms'.length Cm)∧w'.cell? ⟨bx,0,none⟩=some (.int .i64 x)∧w'.cell? ⟨bx,1,none⟩=some (.int .i64 (nn:Int))) [0,1,2,3,4,5,6,7,8] [9] (by kernel_rfl) (by kernel_rfl) HS0.out ?_
    refine Dk.za (v:=.pointer (some ⟨b,0,none⟩)) rfl rfl (fun w' hw'=>by obtain ⟨q0,q1,q2⟩:=hw';go_simp) ?_
    simp only [zD]
    refine Dk.za (v:=.pointer (some ⟨b,0,none⟩)) rfl rfl (fun w' hw'=>by obtain ⟨q0,q1,q2⟩:=hw';go_simp) ?_
    simp only [zD]
    refine Dk.za (v:=.pointer (some ⟨b,0,none⟩)) rfl rfl (fun w' hw'=>by obtain ⟨q0,q1,q2⟩:=hw';go_simp) ?_
    simp only [zD]
    refine Dk.za (v:=.slice (some ⟨gm,0,none⟩) ms'.length Cm) rfl rfl (fun w' hw'=>by obtain ⟨q0,q1,q2⟩:=hw';go_simp) ?_
    simp only [zD]
    refine Dk.za (v:=.pointer (some ⟨bx,1,none⟩)) rfl rfl (fun w' hw'=>by obtain ⟨q0,q1,q2⟩:=hw';go_simp) ?_
    simp only [zD]
    refine Dk.za (v:=.int .i64 (nn:Int)) rfl rfl (fun w' hw'=>by obtain ⟨q0,q1,q2⟩:=hw';go_simp) ?_
    simp only [zD]
    refine Dk.za (v:=.pointer (some ⟨gm,nn*3,none⟩)) rfl rfl (fun w' hw'=>by obtain ⟨q0,q1,q2⟩:=hw';go_simp) ?_
    simp only [zD]
    refine Dk.za (v:=.pointer (some ⟨bx,0,none⟩)) rfl rfl (fun w' hw'=>by obtain ⟨q0,q1,q2⟩:=hw';go_simp) ?_
    simp only [zD]
    refine Dk.za (v:=.int .i64 x) rfl rfl (fun w' hw'=>by obtain ⟨q0,q1,q2⟩:=hw';go_simp) ?_
    simp only [zD]
    refine Dk.zax (f:=196) (args:=#[.pointer (some ⟨gm,nn*3,none⟩),.int .i64 x]) rfl rfl (by go_simp) ?_
    refine K.mono ?_
    rintro e w5 ⟨rfl,h5⟩
    refine ⟨_,rfl,⟨(headG h5).cell 0,(h5.box (b:=bx) (cs:=#[.int .i64 x,.int .i64 (nn:Int)]) (t:=324) (by simp)).cell 0,(h5.box (b:=bx) (cs:=#[.int .i64 x,.int .i64 (nn:Int)]) (t:=324) (by simp)).cell 1⟩,?_⟩
    simp only [zD]
    rename ∀ (_:Act) (_:World),Code.wp _ _ _ _ _→_=>hK
    refine hK _ _ ?_
    have b5:Dk.Box w5 bx #[.int .i64 x,.int .i64 (nn:Int)] 324:=h5.box (by simp)
    have y0:w5.cell? ⟨bx,0,none⟩=some (.int .i64 x):=b5.cell 0
    obtain ⟨v',w6,hrun,h6,_⟩:=Dk.Sep.append (us1:=[_]) K22 h5 (x:=.int .i64 x) rfl (by omega)
    obtain ⟨Av',Cv',ev',_,_⟩:=Dk.zc (h6.row (e:=3) (s:=1) (v:=v') (n:=gs.length+1) (xs:=Dk.is gs++[.int .i64 x]) (by simp))
    subst ev'
    have h7:=h6.sub (us:=(Dk.rowOf 3 1 (.slice Av' (gs.length+1) Cv') (gs.length+1) (Dk.is gs++[.int .i64 x])::Dk.rowOf 324 2 (.slice (some ⟨gq,0,none⟩) L Ca) L (Dk.pr2 os)::us)++gts b (.slice (some ⟨gm,0,none⟩) ms'.length Cm) (.slice (some ⟨g,0,none⟩) cs.length C) vs (ms'.set nn ⟨m.u,m.xs,x,true⟩) cs1 ss) (List.sublist_cons_self _ _)
    have l6:=HLN.out
    have h8:Dk.Sep W w6 ((Dk.rowOf 3 1 (.slice Av' (gs.length+1) Cv') (S1.goes (os.take (j+1))).2.length (Dk.is (S1.goes (os.take (j+1))).2)::Dk.rowOf 324 2 (.slice (some ⟨gq,0,none⟩) L Ca) L (Dk.pr2 os)::us)++gts b (.slice (some ⟨gm,0,none⟩) ms'.length Cm) (.slice (some ⟨g,0,none⟩) cs.length C) vs (ms'.set nn ⟨m.u,m.xs,x,true⟩) cs1 ss):=by
     rw [HEN.out,List.length_append,Dk.is,List.map_append]
     exact h7
    clear hK HS0 K h5 h6 h7 b5
    go_wp2_with (at_builtin;refine Lib.wpList_append_run _ rfl _ _ _ _ rfl _ _ rfl rfl _ _ hrun ?_)
    go_roundw
    case rel=>exact ⟨j+1,_,by omega,by go_num,l6,h8⟩
    case measure=>simp [intOf];omega
  ·obtain rfl:j=L:=by omega
   have z1:decide ((j:Int) < (j:Int))=false:=decide_eq_false (by omega)
   rw [show os.take j=os by rw [← HL.out];exact List.take_length] at hT lT
   obtain ⟨Av,Cv,ev,_,_⟩:=Dk.zc (hT.row (e:=3) (s:=1) (v:=u10) (n:=(S1.goes os).2.length) (xs:=Dk.is (S1.goes os).2) (by simp))
   subst ev
   have hF:Dk.Sep W wr ((Dk.rowOf 3 1 (.slice Av (S1.goes os).2.length Cv) (S1.goes os).2.length (Dk.is (S1.goes os).2)::us)++gts b vm (.slice (some ⟨g,0,none⟩) cs.length C) vs ms' cs1 ss):=hT.sub ((List.sublist_cons_self _ _).cons_cons _)
   clear hT
   go_wp2_with fail
   go_ret2
   exact ⟨_,_,ms',cs1,rfl,lT,hF⟩
end
section
variable {W w : World} {b k n : Nat} {S : Dk.St} {ms : List Mx} {cs : List Cx} {ss : List Sx} {us ts : List Dk.Thing} {who : Int} {m : Mx}
theorem zdi (eh:S.held.getD n false=m.owned) (e1:m.owned=true→m.owner=S.owner.getD n 0) (h1:S.held.getD n false=true) (h2:S.owner.getD n 0=who):(m.owned && decide (m.owner=who))=true:=by
 rw [eh] at h1
 rw [h1,e1 h1,h2]
 simp
theorem zjs (eh:S.held.getD n false=m.owned) (e1:m.owned=true→m.owner=S.owner.getD n 0) (h:¬ (S.held.getD n false=true∧S.owner.getD n 0=who)):(m.owned && decide (m.owner=who))=false:=by
 rw [eh] at h
 cases hm:m.owned with
 | false=>rfl
 | true=>
  rw [e1 hm]
  have:¬ S.owner.getD n 0=who:=fun e=>h ⟨hm,e⟩
  rw [decide_eq_false this]
  rfl
theorem zf8 (h:S.held.getD n false=false∨S.owner.getD n 0≠who):¬ (S.held.getD n false=true∧S.owner.getD n 0=who):=fun ⟨h1,h2⟩=>by
 rcases h with h | h
 ·rw [h] at h1;cases h1
 ·exact h h2
theorem waitLen (ok:Dk.Ok S k) (hk:k≤300) (hn:n < S.owner.length) (ew:S.wait.getD n []=m.xs):m.xs.length≤1000:=by
 have:=ok.waitLen (Dk.zac S.wait [] n (by rw [ok.wait];exact hn))
 rw [ew] at this
 omega
theorem condLen {c:Cx} (ok:Dk.Ok S k) (hk:k≤300) (hn:n < S.conds.length) (ew:S.conds.getD n []=c.xs):c.xs.length≤1000:=by
 have:=ok.condLen (Dk.zac S.conds [] n hn)
 rw [ew] at this
 omega
theorem downLen {s:Sx} (ok:Dk.Ok S k) (hk:k≤300) (hn:n < S.count.length) (ew:S.downs.getD n []=s.xs):s.xs.length≤1000:=by
 have:=ok.downLen (Dk.zac S.downs [] n (by rw [ok.downs];exact hn))
 rw [ew] at this
 omega
theorem not_in {c:Cx} (hw:S.waits who=false) (hn:n < S.conds.length) (ew:S.conds.getD n []=c.xs):who ∉ c.xs.map Prod.fst:=fun hx=>by
 have h0:=Dk.zce hw
 have h1:=Dk.zjg Prod.fst who S.conds n
 rw [ew] at h1
 have h2:=List.count_pos_iff.2 hx
 unfold Dk.St.cnt at h0
 omega
end
theorem gateI:GateI G0:={
 lock_arg:=by
  rintro W w b k S us ts ⟨vm,vc,vs,ms,cs,ss,rfl,l⟩ h ok hk who n hn
  refine (Lock_arg h who n (by rw [l.len];exact hn)).mono ?_
  rintro e w' ⟨rfl,rfl⟩
  exact ⟨rfl,_,⟨_,_,_,_,_,_,rfl,l⟩,h⟩
 lock_busy:=by
  rintro W w b k S us ts ⟨vm,vc,vs,ms,cs,ss,rfl,l⟩ h ok hk who n hn hb
  have hnm:n < ms.length:=by rw [l.len];exact hn
  cases hw:S.waits who with
  | true=>
   refine (zm9 h l ok who n hnm hw).mono ?_
   rintro e w' ⟨rfl,u⟩
   exact ⟨rfl,_,⟨_,_,_,_,_,_,rfl,l⟩,h.below u⟩
  | false=>
   rcases hb with hb | ⟨hb1,hb2⟩
   ·rw [hw] at hb;cases hb
   obtain ⟨m,hm,ew,eh,e1,e2⟩:=l.atM hn
   refine (zna h l ok who n hnm hw hm (zdi eh e1 hb1 hb2)).mono ?_
   rintro e w' ⟨rfl,h'⟩
   exact ⟨rfl,_,⟨_,_,_,_,_,_,rfl,l⟩,h'⟩
 lock_wait:=by
  rintro W w b k S us ts ⟨vm,vc,vs,ms,cs,ss,rfl,l⟩ h ok hk who n hn hi hw hno hh
  have hnm:n < ms.length:=by rw [l.len];exact hn
  obtain ⟨m,hm,ew,eh,e1,e2⟩:=l.atM hn
  refine (znb h l ok who n hnm hw hm (zjs eh e1 hno) (by rw [← eh];exact hh) (waitLen ok hk hn ew)).mono ?_
  rintro e w' ⟨rfl,u',h'⟩
  exact ⟨rfl,_,⟨_,_,_,_,_,_,rfl,l.addWait ok hm (by rw [← eh];exact hh) who hw u'⟩,h'⟩
 lock_yes:=by
  rintro W w b k S us ts ⟨vm,vc,vs,ms,cs,ss,rfl,l⟩ h ok hk who n hn hi hw hno hh
  have hnm:n < ms.length:=by rw [l.len];exact hn
  obtain ⟨m,hm,ew,eh,e1,e2⟩:=l.atM hn
  have ho:m.owned=false:=by rw [← eh];exact hh
  refine (Lock_yes h l ok who n hnm hw hm ho (e2 ho)).mono ?_
  rintro e w' ⟨rfl,h'⟩
  exact ⟨rfl,_,⟨_,_,_,_,_,_,rfl,l.yes hm who⟩,h'⟩
 unlock_arg:=by
  rintro W w b k S us ts ⟨vm,vc,vs,ms,cs,ss,rfl,l⟩ h ok hk who n ch hn
  refine (zlq h who n ch (by rw [l.len];exact hn)).mono ?_
  rintro e w' ⟨rfl,rfl⟩
  exact ⟨rfl,_,⟨_,_,_,_,_,_,rfl,l⟩,h⟩
 unlock_owner:=by
  rintro W w b k S us ts ⟨vm,vc,vs,ms,cs,ss,rfl,l⟩ h ok hk who n ch hn ho
  have hnm:n < ms.length:=by rw [l.len];exact hn
  obtain ⟨m,hm,ew,eh,e1,e2⟩:=l.atM hn
  refine (zd5 h who n ch hnm hm (zjs eh e1 (zf8 ho))).mono ?_
  rintro e w' ⟨rfl,rfl⟩
  exact ⟨rfl,_,⟨_,_,_,_,_,_,rfl,l⟩,h⟩
 unlock_ok:=by
  rintro W w b k S us ts ⟨vm,vc,vs,ms,cs,ss,rfl,l⟩ h ok hk who n ch hn hi hh hw
  have hnm:n < ms.length:=by rw [l.len];exact hn
  obtain ⟨m,hm,ew,eh,e1,e2⟩:=l.atM hn
  have ho:m.owned=true:=by rw [← eh];exact hh
  by_cases h0:m.xs.length=0
  ·obtain ⟨eo,l'⟩:=l.openNone ok hm (List.eq_nil_of_length_eq_zero h0) ch
   refine (zeo h who n ch hnm hm (zdi eh e1 hh hw) ho (List.eq_nil_of_length_eq_zero h0)).mono ?_
   rintro e w' ⟨rfl,h'⟩
   exact ⟨by rw [eo],_,⟨_,_,_,_,_,_,rfl,l'⟩,h'⟩
  ·refine (zep h who n ch hnm hm (zdi eh e1 hh hw) ho hi (by omega) (waitLen ok hk hn ew) _ rfl).mono ?_
   rintro e w' ⟨rfl,u',h'⟩
   obtain ⟨eo,l'⟩:=l.openSome ok hm ho (by omega) ch _ rfl u'
   exact ⟨by rw [eo],_,⟨_,_,_,_,_,_,rfl,l'⟩,h'⟩
 wait_arg:=by
  rintro W w b k S us ts ⟨vm,vc,vs,ms,cs,ss,rfl,l⟩ h ok hk who c n ch hn
  by_cases hc:c < 0∨(S.conds.length:Int)≤c
  ·refine (znl h who c n ch (by rw [l.lenC];exact hc)).mono ?_
   rintro e w' ⟨rfl,rfl⟩
   exact ⟨rfl,_,⟨_,_,_,_,_,_,rfl,l⟩,h⟩
  ·obtain ⟨c',rfl⟩:∃ c':Nat,c=c':=⟨c.toNat,by omega⟩
   refine (znm h who c' n ch (by rw [l.lenC];omega) (by rw [l.len];exact hn.resolve_left hc)).mono ?_
   rintro e w' ⟨rfl,rfl⟩
   exact ⟨rfl,_,⟨_,_,_,_,_,_,rfl,l⟩,h⟩
 wait_busy:=by
  rintro W w b k S us ts ⟨vm,vc,vs,ms,cs,ss,rfl,l⟩ h ok hk who c n ch hc hn hw
  refine (znn h l ok who c n ch (by rw [l.lenC];exact hc) (by rw [l.len];exact hn) hw).mono ?_
  rintro e w' ⟨rfl,u⟩
  exact ⟨rfl,_,⟨_,_,_,_,_,_,rfl,l⟩,h.below u⟩
 wait_owner:=by
  rintro W w b k S us ts ⟨vm,vc,vs,ms,cs,ss,rfl,l⟩ h ok hk who c n ch hc hn hw ho
  obtain ⟨m,hm,ew,eh,e1,e2⟩:=l.atM hn
  refine (zlr h l ok who c n ch (by rw [l.lenC];exact hc) (by rw [l.len];exact hn) hw hm (zjs eh e1 (zf8 ho))).mono ?_
  rintro e w' ⟨rfl,h'⟩
  exact ⟨rfl,_,⟨_,_,_,_,_,_,rfl,l⟩,h'⟩
 wait_ok:=by
  rintro W w b k S us ts ⟨vm,vc,vs,ms,cs,ss,rfl,l⟩ h ok hk who c n ch hc hn hiw hi hw hh how
  have hnm:n < ms.length:=by rw [l.len];exact hn
  have hcm:c < cs.length:=by rw [l.lenC];exact hc
  obtain ⟨m,hm,ew,eh,e1,e2⟩:=l.atM hn
  obtain ⟨cx,hcc,ec⟩:=l.atC hc
  have ho:m.owned=true:=by rw [← eh];exact hh
  have hin:Dk.i64 (n:Int):=by have:=ok.most.1;unfold Dk.i64;omega
  have hlw:∀ {S':Dk.St},(∀ x,S'.cnt x≤S.cnt x)→S'.waits who=false:=fun hcn=>by
   rw [Dk.St.zfo,decide_eq_false_iff_not]
   have:=hcn who
   have:=Dk.zce hw
   omega
  have ho':=l.fair.open ok n hn ch
  have ecd:=Dk.zdw S n ch
  by_cases h0:m.xs.length=0
  ·refine (zno h l ok who c n ch hcm hnm hw hm hcc (condLen ok hk hc ec) hiw hin (not_in hw hc ec) (zdi eh e1 hh how) ho (List.eq_nil_of_length_eq_zero h0)).mono ?_
   rintro e w' ⟨rfl,u',h'⟩
   obtain ⟨eo,l'⟩:=l.openNone ok hm (List.eq_nil_of_length_eq_zero h0) ch
   have l2:=l'.addConds hcc (who,(n:Int)) (hlw ho'.2) u'
   rw [ecd] at l2
   exact ⟨by rw [eo],_,⟨_,_,_,_,_,_,rfl,l2⟩,h'⟩
  ·refine (znp h l ok who c n ch hcm hnm hw hm hcc (condLen ok hk hc ec) hiw hin (not_in hw hc ec) (zdi eh e1 hh how) ho hi (by omega) (waitLen ok hk hn ew) _ rfl).mono ?_
   rintro e w' ⟨rfl,u,u',h'⟩
   obtain ⟨eo,l'⟩:=l.openSome ok hm ho (by omega) ch _ rfl u
   have l2:=l'.addConds hcc (who,(n:Int)) (hlw ho'.2) u'
   rw [ecd] at l2
   exact ⟨by rw [eo],_,⟨_,_,_,_,_,_,rfl,l2⟩,h'⟩
 signal_arg:=by
  rintro W w b k S us ts ⟨vm,vc,vs,ms,cs,ss,rfl,l⟩ h ok hk c ch all hc
  refine (zlm h c ch all (by rw [l.lenC];exact hc)).mono ?_
  rintro e w' ⟨rfl,rfl⟩
  exact ⟨⟨none,0,rfl⟩,_,⟨_,_,_,_,_,_,rfl,l⟩,h⟩
 signal_ok:=by
  rintro W w b k S us ts ⟨vm,vc,vs,ms,cs,ss,rfl,l⟩ h ok hk c ch all hc hi
  refine (znh h l ok hk c (by rw [l.lenC];exact hc) ch hi all).mono ?_
  rintro e w' ⟨A,Ca,ms',cs',rfl,l',h'⟩
  exact ⟨A,Ca,rfl,_,⟨_,_,_,_,_,_,rfl,l'⟩,h'⟩
 down_arg:=by
  rintro W w b k S us ts ⟨vm,vc,vs,ms,cs,ss,rfl,l⟩ h ok hk who n hn
  refine (Down_arg h who n (by rw [l.lenS];exact hn)).mono ?_
  rintro e w' ⟨rfl,rfl⟩
  exact ⟨rfl,_,⟨_,_,_,_,_,_,rfl,l⟩,h⟩
 down_busy:=by
  rintro W w b k S us ts ⟨vm,vc,vs,ms,cs,ss,rfl,l⟩ h ok hk who n hn hw
  refine (zm6 h l ok who n (by rw [l.lenS];exact hn) hw).mono ?_
  rintro e w' ⟨rfl,u⟩
  exact ⟨rfl,_,⟨_,_,_,_,_,_,rfl,l⟩,h.below u⟩
 down_yes:=by
  rintro W w b k S us ts ⟨vm,vc,vs,ms,cs,ss,rfl,l⟩ h ok hk who n hn hw hp
  obtain ⟨s,hs,ew,ec⟩:=l.atS hn
  have hc:=ok.count _ (Dk.zac S.count 0 n hn)
  have hx:s.xs=[]:=by rw [← ew];exact l.fair.some_ n (by rw [ok.downs];exact hn) hp
  rw [ec] at hp hc ⊢
  refine (Down_yes h l ok who n (by rw [l.lenS];exact hn) hw hs ⟨hp,hc.2⟩).mono ?_
  rintro e w' ⟨rfl,h'⟩
  exact ⟨rfl,_,⟨_,_,_,_,_,_,rfl,l.setCount hs _ (.inl hx)⟩,h'⟩
 down_wait:=by
  rintro W w b k S us ts ⟨vm,vc,vs,ms,cs,ss,rfl,l⟩ h ok hk who n hn hi hw hp
  obtain ⟨s,hs,ew,ec⟩:=l.atS hn
  have hc:=ok.count _ (Dk.zac S.count 0 n hn)
  rw [ec] at hp hc
  refine (zm7 h l ok who n (by rw [l.lenS];exact hn) hw hs (by omega) (downLen ok hk hn ew)).mono ?_
  rintro e w' ⟨rfl,u',h'⟩
  exact ⟨rfl,_,⟨_,_,_,_,_,_,rfl,l.addDowns ok hs who hw hp u'⟩,h'⟩
 up_arg:=by
  rintro W w b k S us ts ⟨vm,vc,vs,ms,cs,ss,rfl,l⟩ h ok hk n ch hn
  refine (Up_arg h n ch (by rw [l.lenS];exact hn)).mono ?_
  rintro e w' ⟨rfl,rfl⟩
  exact ⟨rfl,_,⟨_,_,_,_,_,_,rfl,l⟩,h⟩
 up_some:=by
  rintro W w b k S us ts ⟨vm,vc,vs,ms,cs,ss,rfl,l⟩ h ok hk n ch hn hi h0
  obtain ⟨s,hs,ew,ec⟩:=l.atS hn
  rw [ew] at h0
  refine (Up_some h n ch (by rw [l.lenS];exact hn) hs hi h0 (downLen ok hk hn ew) _ rfl).mono ?_
  rintro e w' ⟨rfl,u',h'⟩
  have l':=l.takeDowns ok hs (Dk.at_ ch s.xs.length) u'
  exact ⟨by rw [ew],_,⟨_,_,_,_,_,_,rfl,by rw [ew] at l' ⊢;exact l'⟩,h'⟩
 up_full:=by
  rintro W w b k S us ts ⟨vm,vc,vs,ms,cs,ss,rfl,l⟩ h ok hk n ch hn h0 hc
  obtain ⟨s,hs,ew,ec⟩:=l.atS hn
  rw [ew] at h0
  rw [ec] at hc
  refine (Up_full h n ch (by rw [l.lenS];exact hn) hs (List.eq_nil_of_length_eq_zero h0) hc).mono ?_
  rintro e w' ⟨rfl,rfl⟩
  exact ⟨rfl,_,⟨_,_,_,_,_,_,rfl,l⟩,h⟩
 up_more:=by
  rintro W w b k S us ts ⟨vm,vc,vs,ms,cs,ss,rfl,l⟩ h ok hk n ch hn h0 hc
  obtain ⟨s,hs,ew,ec⟩:=l.atS hn
  have hcc:=ok.count _ (Dk.zac S.count 0 n hn)
  rw [ew] at h0
  rw [ec] at hc hcc ⊢
  refine (Up_more h n ch (by rw [l.lenS];exact hn) hs (List.eq_nil_of_length_eq_zero h0) ⟨hcc.1,by omega⟩).mono ?_
  rintro e w' ⟨rfl,h'⟩
  exact ⟨rfl,_,⟨_,_,_,_,_,_,rfl,l.setCount hs _ (.inl (List.eq_nil_of_length_eq_zero h0))⟩,h'⟩ }
end Go.Proofs.YtglhhlfopccmaaaGreat
