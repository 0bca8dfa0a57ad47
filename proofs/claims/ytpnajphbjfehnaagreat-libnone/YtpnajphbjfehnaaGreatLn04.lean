import Derived.Test.YtpnajphbjfehnaaGreatLn03
import Derived.Deep.QuietTactic
import Derived.BigQuiet
set_option linter.unusedSimpArgs false
set_option linter.unusedVariables false
set_option linter.unnecessarySimpa false
set_option maxHeartbeats 8000000
set_option maxRecDepth 100000
namespace Dk
open Go Go.RowKit
section
variable {P : Go.Program} {ops : Array Oper} {md : Region.Mode} {C D : World → Prop} {z : Nat}
def side (C D:World→Prop) (z:Nat) (listed:Array Bool):World→Prop:=if listed.getD z true=true then D else C
theorem zca {listed:Array Bool} {i:Nat} (h:i≠z):side C D z (listed.setIfInBounds i true)=side C D z listed:=by unfold side;rw [getD_set_ne true h]
theorem ze9 {listed:Array Bool}:side C D z (listed.setIfInBounds z true)=D:=by
 unfold side
 rw [if_pos]
 by_cases h:z < listed.size
 ·simp [h]
 ·simp [Array.getD,h]
def LastOk (P:Go.Program) (ops:Array Oper) (C D:World→Prop) (z:Nat) (K:Act→Prop) (a:Act):Prop:=
 ∃ o,ops[z]? = some o∧Region.wanted o (yielded ops a.tmps)=true∧(∀ w,C w→∃ w',(execOp a.eval o).run P w=.ok .skip w'∧D w')∧K (a.put o.dst undef)
def wpL (P:Go.Program) (md:Region.Mode) (ops:Array Oper) (C D:World→Prop) (z:Nat) (Q:Act→Prop):Nat→Array Bool→Act→Prop
 | 0,listed,a=>Region.ready md ops listed=[]∧listed.getD z true=true∧Q a
 | fuel+1,listed,a=>(Region.ready md ops listed=[]→listed.getD z true=true∧Q a)∧
  ∀ i ∈ Region.ready md ops listed,(i=z→LastOk P ops C D z (wpL P md ops C D z Q fuel (listed.setIfInBounds i true)) a)∧
   (i≠z→qOp P ops (side C D z listed) i (wpL P md ops C D z Q fuel (listed.setIfInBounds i true)) a)
theorem zcd {Q:Act→Prop} {Q':Exit→Act→World→Prop} (hQ:∀ a w,D w→Q a→Q' .normal a w):∀ (fuel:Nat) (listed:Array Bool) (a:Act) (w:World),side C D z listed w→
  wpL P md ops C D z Q fuel listed a→wpAny P md ops Q' fuel listed a w
 | 0,listed,a,w,hw,h=>⟨h.1,hQ _ _ (by unfold side at hw;rw [if_pos h.2.1] at hw;exact hw) h.2.2⟩
 | fuel+1,listed,a,w,hw,h=>by
  refine ⟨fun h0=>hQ _ _ (by unfold side at hw;rw [if_pos (h.1 h0).1] at hw;exact hw) (h.1 h0).2,fun i hi=>?_⟩
  by_cases e:i=z
  ·obtain ⟨o,ho,hwant,hrun,hK⟩:=(h.2 i hi).1 e
   have hun:=(mem_ready.1 hi).1
   have hC:C w:=by
    unfold side at hw
    rw [if_neg (by rw [← e,hun];decide)] at hw
    exact hw
   obtain ⟨w',hr,hD⟩:=hrun w hC
   unfold wpOp
   rw [e,ho]
   simp only [hwant,if_true]
   refine .inl ?_
   unfold Oper.wp
   rw [hr]
   show wpAny P md ops Q' fuel (listed.setIfInBounds z true) (a.put o.dst undef) w'
   rw [← e]
   rw [← e] at hK
   exact zcd hQ fuel _ _ _ (by rw [e,ze9];exact hD) (by rw [e] at hK ⊢;exact hK)
  ·exact wpOp_of_qOp hw (fun a' w' hw' hk=>zcd hQ fuel _ a' w' (by rw [zca e];exact hw') hk) ((h.2 i hi).2 e)
theorem qOp_keep {C':World→Prop} {j:Nat} {oi oj:Oper} {v:Value} (hj:ops[j]? = some oj) (hap:oi.apart ops oj=true) (hsj:∀ cs b,oj.op≠.select cs b) {R K:Act→Prop} {a:Act}
  (hR:∀ u,R (a.put oj.dst u)) (h:qOp P ops C' j K (a.put oi.dst v)):qOp P ops C' j (fun a'=>R a'∧K (a'.put oi.dst v)) a:=by
 obtain ⟨h1,h2,h3⟩:=Oper.apart_spec hap
 unfold qOp at *
 simp only [hj] at *
 rw [wanted_put oj a oi.dst v h1] at h
 by_cases hw:Region.wanted oj (yielded ops a.tmps)=true
 ·simp only [hw,if_true] at h ⊢
  obtain ⟨u,hu,hn⟩:=h
  refine ⟨u,fun w hw'=>?_,hR u,by rw [← Act.put_comm a v u h2];exact hn⟩
  have:=hu w hw'
  unfold Oper.quietAt at *
  rwa [execOp_put oj hsj a oi.dst v h1] at this
 ·simp only [hw] at h ⊢
  exact ⟨hR _,by rw [← Act.put_comm a v undef h2];exact h⟩
def Closed (md:Region.Mode) (ops:Array Oper) (listed:Array Bool):Prop:=∀ m om,ops[m]? = some om→listed.getD m false=true→∀ e ∈ om.after,Region.binds md e=true→listed.getD e.on false=true
theorem Closed.next {listed:Array Bool} {j:Nat} (h:Closed md ops listed) (hj:j ∈ Region.ready md ops listed):Closed md ops (listed.setIfInBounds j true):=by
 intro m om hm hl e he hb
 obtain ⟨_,oj,hoj,hall⟩:=mem_ready.1 hj
 by_cases hmj:j=m
 ·subst hmj
  obtain rfl:oj=om:=by rw [hoj] at hm;exact Option.some.inj hm
  exact getD_set_true (hall e he hb)
 ·rw [getD_set_ne false hmj] at hl
  exact getD_set_true (h m om hm hl e he hb)
def Behind (P:Go.Program) (md:Region.Mode) (ops:Array Oper) (D:World→Prop) (z i:Nat) (oi:Oper) (v:Value) (a:Act):Prop:=
 YieldsIn P ops D oi v a∨∃ oz,ops[z]? = some oz∧∃ e ∈ oz.after,Region.binds md e=true∧(e.on=i∨∃ om,ops[e.on]? = some om∧∃ e' ∈ om.after,Region.binds md e'=true∧e'.on=i)
theorem zk0 {Q:Act→Prop} {i:Nat} {oi:Oper} {v:Value} (hiz:i≠z) (hi:ops[i]? = some oi) (hsel:∀ (j:Nat) (o:Oper) cs b,ops[j]? = some o→o.op≠.select cs b) :
  ∀ (fuel:Nat) (listed:Array Bool) (a:Act),
   (∀ j oj,ops[j]? = some oj→j≠i→listed.getD j true=false→(∀ e ∈ oj.after,Region.binds md e=true→e.on≠i)→oi.apart ops oj=true)→
   Closed md ops listed→i ∈ Region.ready md ops listed→YieldsIn P ops (side C D z listed) oi v a→Behind P md ops D z i oi v a→
   wpL P md ops C D z Q fuel (listed.setIfInBounds i true) (a.put oi.dst v)→wpL P md ops C D z Q (fuel+1) listed a:=by
 intro fuel
 induction fuel with
 | zero=>
  intro listed a _ _ hr hy _ H
  refine ⟨fun h=>(by rw [h] at hr;cases hr),fun j hj=>?_⟩
  have hji:j=i:=by
   refine Classical.byContradiction fun hji=>?_
   have:=ready_mono hj hji
   rw [H.1] at this
   cases this
  subst hji
  exact ⟨fun e=>absurd e hiz,fun _=>hy.qOp hi H⟩
 | succ fuel ih=>
  intro listed a hfree hcl hr hy hB H
  refine ⟨fun h=>(by rw [h] at hr;cases hr),fun j hj=>?_⟩
  by_cases hji:j=i
  ·subst hji;exact ⟨fun e=>absurd e hiz,fun _=>hy.qOp hi H⟩
  ·have h1:=H.2 j (ready_mono hj hji)
   obtain ⟨hjun,oj,hoj,hall⟩:=mem_ready.1 hj
   have hnot:∀ e ∈ oj.after,Region.binds md e=true→e.on≠i:=fun e he hb heq=>by
    have h1:=hall e he hb
    have h0:=(mem_ready.1 hr).1
    rw [heq] at h1
    rcases Nat.lt_or_ge i listed.size with h' | h'
    ·simp [h'] at h0 h1;rw [h0] at h1;cases h1
    ·simp [Array.getElem?_eq_none h'] at h1
   have hap:=hfree j oj hoj hji hjun hnot
   obtain ⟨k1,k2,k3⟩:=Oper.apart_spec hap
   have hfree':∀ k ok,ops[k]? = some ok→k≠i→(listed.setIfInBounds j true).getD k true=false→
     (∀ e ∈ ok.after,Region.binds md e=true→e.on≠i)→oi.apart ops ok=true:=fun k ok hk hki hun hno=>by
    refine hfree k ok hk hki ?_ hno
    by_cases hjk:j=k
    ·subst hjk;exact hjun
    ·rw [getD_set_ne true hjk] at hun;exact hun
   have same:∀ (C':World→Prop),YieldsIn P ops C' oi v a→∀ u,YieldsIn P ops C' oi v (a.put oj.dst u):=fun C' hy u=>
    hy.of_same (execOp_put oi (fun cs b=>hsel i oi cs b hi) a oj.dst u k3) (wanted_put oi a oj.dst u k3)
   have hBk:∀ u,Behind P md ops D z i oi v (a.put oj.dst u):=fun u=>hB.imp (fun h=>same D h u) id
   refine ⟨fun e=>?_,fun e=>?_⟩
   ·obtain ⟨oz,hoz,hwant,hrun,hK⟩:=h1.1 e
    obtain rfl:oj=oz:=by rw [e] at hoj;rw [hoj] at hoz;exact Option.some.inj hoz
    have hyD:YieldsIn P ops D oi v a:=by
     rcases hB with h | ⟨o2,ho2,ed,he,hb,hon⟩
     ·exact h
     ·exfalso
      obtain rfl:oj=o2:=by rw [hoz] at ho2;exact Option.some.inj ho2
      rcases hon with hon | ⟨om,hom,e2,he2,hb2,hon2⟩
      ·exact hnot ed he hb hon
      ·have h1:=hcl _ om hom (hall ed he hb) e2 he2 hb2
       have h0:=(mem_ready.1 hr).1
       rw [hon2] at h1
       rcases Nat.lt_or_ge i listed.size with h' | h'
       ·simp [h'] at h0 h1;rw [h0] at h1;cases h1
       ·simp [Array.getElem?_eq_none h'] at h1
    refine ⟨oj,hoz,by rw [wanted_put oj a oi.dst v k1] at hwant;exact hwant,fun w hw=>?_,?_⟩
    ·have:=hrun w hw
     rwa [execOp_put oj (fun cs b=>hsel j oj cs b hoj) a oi.dst v k1] at this
    ·refine ih (listed.setIfInBounds j true) _ hfree' (hcl.next hj) (ready_mono hr (Ne.symm hji)) ?_ (hBk undef) ?_
     ·rw [e,ze9];exact same D hyD undef
     ·rw [Array.setIfInBounds_comm _ _ hji,← Act.put_comm a v undef k2]
      exact hK
   ·have h2:=qOp_keep (R:=fun a'=>YieldsIn P ops (side C D z listed) oi v a'∧Behind P md ops D z i oi v a') hoj hap (fun cs b=>hsel j oj cs b hoj) (fun u=>⟨same _ hy u,hBk u⟩)
     (by rw [zca hiz] at h1;exact h1.2 e)
    refine qOp_mono (fun a' h3=>ih (listed.setIfInBounds j true) a' hfree' (hcl.next hj) (ready_mono hr (Ne.symm hji)) (by rw [zca e];exact h3.1.1) h3.1.2 ?_) h2
    rw [Array.setIfInBounds_comm _ _ hji]
    exact h3.2
def behindB (md:Region.Mode) (ops:Array Oper) (z i:Nat):Bool:=
 (match ops[z]? with | some oz=>oz.after.any fun e=>Region.binds md e && (e.on == i || (match ops[e.on]? with | some om=>om.after.any fun e'=>Region.binds md e' && e'.on == i | none=>false)) | none=>false) ||
 (match ops[i]? with | some oi=>(match oi.op with | .extract _ _=>true | _=>false) | none=>false)
theorem zi3 {i:Nat} {oi:Oper} {v:Value} {a:Act} (hi:ops[i]? = some oi) (h:behindB md ops z i=true) (hC:∃ w,C w) (hy:YieldsIn P ops C oi v a):Behind P md ops D z i oi v a:=by
 unfold behindB at h
 rw [Bool.or_eq_true] at h
 rcases h with h | h
 ·right
  split at h
  ·rename_i oz hoz
   obtain ⟨e,he,hb⟩:=Array.any_eq_true'.1 h
   rw [Bool.and_eq_true,Bool.or_eq_true] at hb
   refine ⟨oz,hoz,e,he,hb.1,hb.2.imp (fun h=>by simpa using h) fun h=>?_⟩
   split at h
   ·rename_i om hom
    obtain ⟨e2,he2,hb2⟩:=Array.any_eq_true'.1 h
    rw [Bool.and_eq_true] at hb2
    exact ⟨om,hom,e2,he2,hb2.1,by simpa using hb2.2⟩
   ·cases h
  ·cases h
 ·left
  rw [hi] at h
  simp only at h
  split at h
  ·rename_i t ix ho
   obtain ⟨w0,hw0⟩:=hC
   rcases hy with ⟨hw,hv⟩ | ⟨hw,he⟩
   ·refine .inl ⟨hw,fun w _=>?_⟩
    have:=hv w0 hw0
    unfold Oper.quietAt at this ⊢
    simp only [execOp,ho] at this ⊢
    unfold Instr.extract at this ⊢
    generalize a.eval t=x at this ⊢
    cases x <;> simp [go_sem,Oper.quietUpon] at this ⊢
    rename_i vs
    cases hvs:vs[ix]? with
    | none=>rw [hvs] at this;simp [go_sem] at this
    | some u=>rw [hvs] at this;simp [go_sem] at this ⊢;exact this
   ·exact .inr ⟨hw,he⟩
  ·cases h
theorem zk1 {Q:Act→Prop} (hs:Region.noSelect ops=true) (hne:∃ w,C w):∀ (l:List Oper) (k:Nat) (listed:Array Bool) (a:Act),k+l.length=z→(∀ j,j < l.length→l[j]? = ops[k+j]?)→listed.getD z true=false→Closed md ops listed→
  (∀ i,i < z→behindB md ops z i=true)→Region.lexFrom md ops (l.length+1) k listed=true→wpQuiet P ops C (LastOk P ops C D z Q) l a→wpL P md ops C D z Q (l.length+1) listed a
 | [],k,listed,a,hk,_,hz,_,_,hB,h=>by
  obtain rfl:k=z:=by simpa using hk
  simp only [List.length_nil,Region.lexFrom,Bool.and_eq_true] at hB
  obtain ⟨⟨hr,_⟩,hE⟩:=hB
  have hE':Region.ready md ops (listed.setIfInBounds k true)=[]:=by simpa using hE
  have hr':k ∈ Region.ready md ops listed:=by simpa using hr
  have hall:∀ i ∈ Region.ready md ops listed,i=k:=fun i hi=>by
   refine Classical.byContradiction fun hik=>?_
   have:=ready_mono hi hik
   rw [hE'] at this
   cases this
  refine ⟨fun h0=>(by rw [h0] at hr';cases hr'),fun i hi=>⟨fun e=>?_,fun e=>absurd (hall i hi) e⟩⟩
  subst e
  obtain ⟨o,ho,hwant,hrun,hQ⟩:=h
  refine ⟨o,ho,hwant,hrun,hE',?_,hQ⟩
  have hlt:i < listed.size:=by
   rcases Nat.lt_or_ge i listed.size with h | h
   ·exact h
   ·simp [Array.getD,Nat.not_lt.2 h] at hz
  simp [hlt]
 | o::l,k,listed,a,hk,hl,hz,hcl,hb,hB,h=>by
  have h0:ops[k]? = some o:=by simpa using (hl 0 (by simp)).symm
  simp only [List.length_cons] at hk
  have hkz:k≠z:=by omega
  rw [List.length_cons,Region.lexFrom] at hB
  simp only [Bool.and_eq_true] at hB
  obtain ⟨⟨hr,hf⟩,hB'⟩:=hB
  have hst:qOp P ops C k (wpQuiet P ops C (LastOk P ops C D z Q) l) a:=by unfold qOp;simp only [h0];exact h
  obtain ⟨v,hy,hK⟩:=yieldsIn_of_qOp h0 hst
  have hside:side C D z listed=C:=by unfold side;rw [if_neg (by rw [hz];decide)]
  exact zk0 hkz h0 (Region.noSelect_spec hs) (l.length+1) listed a (Region.free_spec h0 hf) hcl (by simpa using hr) (by rw [hside];exact hy) (zi3 h0 (hb k (by omega)) hne hy)
   (zk1 hs hne l (k+1) _ _ (by omega) (fun j hj=>by have:=hl (j+1) (by simp;omega);simpa [Nat.add_assoc,Nat.add_comm 1 j] using this) (by rw [getD_set_ne true hkz];exact hz) (hcl.next (by simpa using hr)) hb hB' hK)
def lastB (ops:Array Oper):Bool:=Region.lexB .any ops && (List.range (ops.size - 1)).all fun i=>behindB .any ops (ops.size - 1) i
theorem zbm {id:Nat} {Q:Exit→Act→World→Prop} {a:Act} {w:World} {L:List Oper} (hm:P.follows .mixedOrders=true) (hB:lastB L.toArray=true) (hC:C w.drew) (hn:L≠[])
  (h:wpQuiet P L.toArray C (LastOk P L.toArray C D (L.length - 1) (fun a'=>∀ w',D w'→Q .normal a' w')) L.dropLast a):(Code.region id L.toArray true).wp P Q a w:=by
 unfold lastB at hB
 rw [Bool.and_eq_true] at hB
 obtain ⟨hB1,hB2⟩:=hB
 simp only [Region.lexB,Bool.and_eq_true] at hB1
 have hlen:L.length - 1+1=L.length:=by
  cases L with
  | nil=>exact absurd rfl hn
  | cons x y=>simp
 have hz:(Array.replicate L.toArray.size false).getD (L.length - 1) true=false:=by simp [Array.getD];omega
 have hB3:∀ i,i < L.length - 1→behindB .any L.toArray (L.length - 1) i=true:=fun i hi=>by
  have:=List.all_eq_true.1 hB2 i (by simpa using hi)
  simpa using this
 have key:=zk1 (C:=C) (D:=D) (md:=.any) (z:=L.length - 1) (Q:=fun a'=>∀ w',D w'→Q .normal a' w') hB1.1 ⟨_,hC⟩ L.dropLast 0 (Array.replicate L.toArray.size false) a (by simp) (fun j hj=>by
  simp only [Nat.zero_add,List.getElem?_toArray]
  rw [List.length_dropLast] at hj
  rw [List.getElem?_dropLast,if_pos hj]) hz (fun m om _ hl=>by
  exfalso
  rcases Nat.lt_or_ge m L.toArray.size with h' | h'
  ·simp at h';simp [h'] at hl
  ·simp at h';simp [Array.getD,Nat.not_lt.2 h'] at hl) hB3 (by rw [List.length_dropLast,hlen];simpa using hB1.2) h
 rw [List.length_dropLast,hlen] at key
 refine wp_region_any hm ?_
 have e:L.toArray.size=L.length:=by simp
 rw [e] at key ⊢
 exact zcd (C:=C) (D:=D) (fun a w hD hq=>hq w hD) _ _ _ _ (by unfold side;rw [e] at hz;rw [if_neg (by rw [hz];decide)];exact hC) key
end
def Panics (c:List PanicEntry) (w:World):Exit→Act→World→Prop
 | .panic c',a,w'=>c'=c∧a.defers=[]∧w'=w.drew
 | _,_,_=>False
theorem Panics.out {c:List PanicEntry} {w w':World} {e:Exit} {a:Act} (h:Panics c w e a w'):e=.panic c∧a.defers=[]∧w'=w.drew:=by
 cases e with
 | panic c'=>exact ⟨by rw [h.1],h.2⟩
 | _=>exact h.elim
end Dk
