import Derived.Test.YtpnajphbjfehnaaGreatLn11
import Derived.KernelRfl
set_option linter.unusedSimpArgs false
set_option linter.unusedVariables false
set_option linter.unnecessarySimpa false
set_option maxHeartbeats 8000000
set_option maxRecDepth 100000
namespace Go.Proofs.YtpnajphbjfehnaaGreat
open Go.RowKit
theorem info3:(Tryz.prog.info? 3).map (fun i=>(i.zero,i.size,i.bytes))=some (some (.int .i64 0),1,8):=by kernel_rfl
theorem zcu (B:Nat) (ty:TypeId) (v:Value) (xs:List Value) (n:Nat) (w:World) (hown:w.ownsRow B 3 1 v n xs) (a:Addr) (m c:Nat) (news:List Value) (hl:news.length=m) (hnews:∀ j u,news[j]? = some u→w.cell? (a.add j)=some u) (h1:∀ u ∈ news,u.oneCell'=true)
  (h:n+m≤100000) (hB:B≤w.heap.size) :
  ∃ v' w',(Builtin.append_ #[23,23] ty #[v,.slice (some a) m c]).run Tryz.prog w=.ok v' w'∧w'.ownsRow B 3 1 v' (n+m) (xs++news)∧w.grownBy w' v.ownBlock∧Dk.From w v v'∧(v'=.slice none 0 0 ↔ v=.slice none 0 0∧m=0):=by
 obtain ⟨i0,hi0,hz0,hz1,hz2⟩:=info_parts info3
 have hl1:news.length=m*i0.size:=by rw [hz1,Nat.mul_one];exact hl
 obtain ⟨v',w',hr,ho,hg,hi⟩:=run_append_own (P:=Tryz.prog) w B 23 ty 3 i0 (.int .i64 0) 1 8 Tryz.underlying23 hi0 hz0 hz1 hz2 rfl (by decide) v n xs hown a m c news (by rw [Nat.mul_one];exact hl) hnews h1 (by unfold maxLen;omega) (by omega) hB
 refine ⟨v',w',hr,ho,hg,?_,hi⟩
 obtain ⟨hxl,⟨rfl,rfl⟩ | ⟨g,cap,cur,rfl,hb,hgg,hn,hm,hs,ht⟩⟩:=id hown
 ·by_cases hm:m=0
  ·rw [hi.2 ⟨rfl,hm⟩]
   exact Dk.From.refl _ _
  ·have hr2:=run_append_nil (P:=Tryz.prog) w 23 ty 3 i0 (.int .i64 0) Tryz.underlying23 hi0 hz0 a m c news hl1 hnews (by omega) (by omega) (by rw [hz2];omega)
   rw [hr] at hr2
   injection hr2 with e1 e2
   subst e1
   exact fun k hk=>.inr (by simp [Value.ownBlock] at hk;omega)
 ·by_cases hroom:n+m≤cap
  ·have hr2:=run_append_room (P:=Tryz.prog) w 23 ty 3 i0 Tryz.underlying23 hi0 g n cap cur hgg a m c news hl1 hnews h1 hroom (by rw [hz1,hl,hs];omega)
   rw [hr] at hr2
   injection hr2 with e1 e2
   subst e1
   exact Dk.From.same _ rfl
  ·have holds:∀ j u,xs[j]? = some u→w.cell? ((⟨g,0,none⟩:Addr).add j)=some u:=hown.cells (g:=g) rfl
   have hr2:=run_append_grow (P:=Tryz.prog) w 23 ty 3 i0 (.int .i64 0) Tryz.underlying23 hi0 hz0 ⟨g,0,none⟩ n cap xs (by rw [hz1];exact hxl) holds a m c news hl1 hnews (by omega) (by omega) (growslice_fits (by omega) (by rw [hz2];omega))
   rw [hr] at hr2
   injection hr2 with e1 e2
   subst e1
   exact fun k hk=>.inr (by simp [Value.ownBlock] at hk;omega)
theorem one_new (w w':World) (v:Value) (t:TypeId) (e:w'=w.alloc (.cells #[v] t)):∀ (j:Nat) (u:Value),[v][j]? = some u→w'.cell? ((⟨w.heap.size,0,none⟩:Addr).add j)=some u:=by
 intro j u hj
 match j,hj with
 | 0,hj=>
  simp at hj
  subst hj
  subst e
  have:=(Dk.Box.new w #[v] t).cell 0
  simpa [Addr.add] using this
theorem zij (A A':Option Addr) (L C C':Nat) (xs:List Int) (w:World) (h:Dk.SlI w.heap.size w A L C xs) (h':Dk.SlI w.heap.size w A' L C' xs) :
  Calls Tryz.prog 34 #[.slice A L C,.slice A' L C'] w fun e w'=>e=.returned (.bool true)∧Below w.heap.size w w':=by
 have hcap:=h.cap
 have hmax:=h.max
 unfold maxLen at hmax
 go_enter Tryz.func34,Tryz.ntmps34
 go_wp2
 go_loopw [5] (fun i w'=>∃ k:Nat,k≤L∧i=.int .i64 k∧Hid (Below w.heap.size w w')) (fun i w'=>L - (intOf i).toNat)
 case atStart=>exact ⟨0,Nat.zero_le _,rfl,Below.refl _ _⟩
 case round=>
  obtain ⟨k,hk,rfl,HB⟩:=hrel
  by_cases hlt:k < L
  ·obtain ⟨b,o,rfl,hb,hc⟩:=h.cells (by omega)
   obtain ⟨b',o',rfl,hb',hc'⟩:=h'.cells (by omega)
   have c1:wr.cell? ⟨b,o+k,none⟩=some (.int .i64 (xs.getD k 0)):=by rw [HB.out.cell (by show b < w.heap.size;exact hb)];exact hc k hlt
   have c2:wr.cell? ⟨b',o'+k,none⟩=some (.int .i64 (xs.getD k 0)):=by rw [HB.out.cell (by show b' < w.heap.size;exact hb')];exact hc' k hlt
   generalize xs.getD k 0=v at c1 c2
   clear hc hc' h h'
   go_wp2
   go_quiet (fail)
   go_wp2
   go_roundw
   case rel=>exact ⟨k+1,by omega,by go_num,Dk.zy HB.out nq⟩
   case measure=>simp [intOf];omega
  ·go_wp2
   go_ret
   exact ⟨rfl,HB.out⟩
end Go.Proofs.YtpnajphbjfehnaaGreat
namespace Dk
open Go Go.RowKit
section
variable {P : Go.Program} {ops : Array Oper} {md : Region.Mode} {S : World → Prop}
def marked (is:List Nat) (listed:Array Bool):Array Bool:=is.foldl (fun l i=>l.setIfInBounds i true) listed
theorem ze {L:List Oper} {Q:Exit→Act→World→Prop} {j:Nat} {K:Act→World→Prop} {a:Act} {w w':World} {o:Oper} {v:Value} (d:Option Tmp) (ho:L[j]? = some o) (hd:o.dst=d) (hg:o.guard=none) (hr:(execOp a.eval o).run P w=.ok (.value v) w') (hK:K (a.put d v) w'):wpOp P L.toArray Q j K a w:=by
 subst hd
 have hw:Region.wanted o (yielded L.toArray a.tmps)=true:=by simp [Region.wanted,hg]
 have ho':L.toArray[j]? = some o:=by simpa using ho
 unfold wpOp
 simp only [ho',hw,if_true]
 refine .inl ?_
 unfold Oper.wp
 rw [hr]
 exact hK
end
section
variable {P : Go.Program} {ops : Array Oper} {md : Region.Mode} {S : World → Prop} {Q : Exit → Act → World → Prop}
def wpAnyZ (P:Go.Program) (md:Region.Mode) (ops:Array Oper) (Q:Exit→Act→World→Prop) (S:World→Prop) (z:Nat):Nat→Array Bool→Act→World→Prop
 | 0,listed,a,w=>Region.ready md ops listed=[]∧Q .normal a w
 | fuel+1,listed,a,w=>
  (Region.ready md ops listed=[]→Q .normal a w)∧
  ∀ i ∈ Region.ready md ops listed,wpOp P ops Q i (fun a' w'=>(i≠z→S w')∧wpAnyZ P md ops Q S z fuel (listed.setIfInBounds i true) a' w') a w
theorem zdx {z:Nat}:∀ (fuel:Nat) (listed:Array Bool) (a:Act) (w:World),wpAnyZ P md ops Q S z fuel listed a w→wpAny P md ops Q fuel listed a w
 | 0,_,_,_,h=>h
 | fuel+1,_,_,_,h=>⟨h.1,fun i hi=>wpOp_mono (fun a' w' h'=>zdx fuel _ a' w' h'.2) (h.2 i hi)⟩
def waitsB (md:Region.Mode) (ops:Array Oper) (z i:Nat):Bool:=match ops[z]? with
 | some o=>o.after.any fun e=>Region.binds md e && e.on == i
 | none=>false
theorem zkw {z i:Nat} {listed:Array Bool} (hz:waitsB md ops z i=true) (hr:i ∈ Region.ready md ops listed):z ∉ Region.ready md ops listed:=fun hj=>by
 obtain ⟨hjun,oj,hoj,hall⟩:=mem_ready.1 hj
 unfold waitsB at hz
 rw [hoj] at hz
 simp only [Array.any_eq_true] at hz
 obtain ⟨k,hk,he⟩:=hz
 simp only [Bool.and_eq_true,beq_iff_eq] at he
 have h1:=hall _ (Array.getElem_mem hk) he.1
 have h0:=(mem_ready.1 hr).1
 rw [he.2] at h1
 rcases Nat.lt_or_ge i listed.size with h' | h'
 ·simp [h'] at h0 h1;rw [h0] at h1;cases h1
 ·simp [Array.getElem?_eq_none h'] at h1
theorem zfm {i z:Nat} {oi:Oper} {v:Value} (hi:ops[i]? = some oi) (hsel:∀ (j:Nat) (o:Oper) cs b,ops[j]? = some o→o.op≠.select cs b)
  (hQ:∀ c a w,Q (.panic c) (a.put oi.dst v) w→Q (.panic c) a w) (hz:waitsB md ops z i=true) :
  ∀ (fuel:Nat) (listed:Array Bool) (a:Act) (w:World),
   (∀ j oj,ops[j]? = some oj→j≠i→listed.getD j true=false→(∀ e ∈ oj.after,Region.binds md e=true→e.on≠i)→oi.apart ops oj=true)→
   i ∈ Region.ready md ops listed→YieldsIf P ops S oi v a→S w→
   wpAnyZ P md ops Q S z fuel (listed.setIfInBounds i true) (a.put oi.dst v) w→wpAnyZ P md ops Q S z (fuel+1) listed a w:=by
 intro fuel
 induction fuel with
 | zero=>
  intro listed a w _ hr hy hS H
  refine ⟨fun h=>(by rw [h] at hr;cases hr),fun j hj=>?_⟩
  by_cases hji:j=i
  ·subst hji;exact hy.wpOp hi hS ⟨fun _=>hS,H⟩
  ·have:=ready_mono hj hji
   rw [H.1] at this
   cases this
 | succ fuel ih=>
  intro listed a w hfree hr hy hS H
  refine ⟨fun h=>(by rw [h] at hr;cases hr),fun j hj=>?_⟩
  by_cases hji:j=i
  ·subst hji;exact hy.wpOp hi hS ⟨fun _=>hS,H⟩
  ·have h1:=H.2 j (ready_mono hj hji)
   have hjz:j≠z:=fun e=>zkw hz hr (e ▸ hj)
   obtain ⟨hjun,oj,hoj,hall⟩:=mem_ready.1 hj
   have hnot:∀ e ∈ oj.after,Region.binds md e=true→e.on≠i:=fun e he hb heq=>by
    have h1:=hall e he hb
    have h0:=(mem_ready.1 hr).1
    rw [heq] at h1
    rcases Nat.lt_or_ge i listed.size with h' | h'
    ·simp [h'] at h0 h1;rw [h0] at h1;cases h1
    ·simp [Array.getElem?_eq_none h'] at h1
   have h2:=wpOp_putIf hoj (hfree j oj hoj hji hjun hnot) (fun cs b=>hsel i oi cs b hi) (fun cs b=>hsel j oj cs b hoj) hQ hy h1
   have hfree':∀ k ok,ops[k]? = some ok→k≠i→(listed.setIfInBounds j true).getD k true=false→
     (∀ e ∈ ok.after,Region.binds md e=true→e.on≠i)→oi.apart ops ok=true:=fun k ok hk hki hun hno=>by
    refine hfree k ok hk hki ?_ hno
    by_cases hjk:j=k
    ·subst hjk;exact hjun
    ·rw [getD_set_ne true hjk] at hun;exact hun
   refine wpOp_mono (fun a' w' h3=>⟨fun hn=>h3.2.1 hn,ih (listed.setIfInBounds j true) a' w' hfree' (ready_mono hr (Ne.symm hji)) h3.1 (h3.2.1 hjz) ?_⟩) h2
   rw [Array.setIfInBounds_comm _ _ hji]
   exact h3.2.2
def lineZ (P:Go.Program) (ops:Array Oper) (Q:Exit→Act→World→Prop) (S:World→Prop) (z:Nat):List Nat→Act→World→Prop
 | [],a,w=>Q .normal a w
 | j::js,a,w=>wpOp P ops Q j (fun a' w'=>(j≠z→S w')∧lineZ P ops Q S z js a' w') a w
theorem ze2 {z:Nat}:∀ (js:List Nat) (listed:Array Bool) (a:Act) (w:World),linesB md ops js listed=true→lineZ P ops Q S z js a w→wpAnyZ P md ops Q S z js.length listed a w
 | [],listed,a,w,hB,h=>⟨by simpa [linesB] using hB,h⟩
 | j::js,listed,a,w,hB,h=>by
  simp only [linesB,Bool.and_eq_true] at hB
  have hr:Region.ready md ops listed=[j]:=by simpa using hB.1
  refine ⟨fun h0=>absurd (hr.symm.trans h0) (by simp),fun i hi=>?_⟩
  obtain rfl:i=j:=by rw [hr] at hi;simpa using hi
  exact wpOp_mono (fun a' w' h'=>⟨h'.1,ze2 js _ a' w' hB.2 h'.2⟩) h
theorem ze1 {z:Nat} (hs:Region.noSelect ops=true) (hQ:∀ c a w,¬ Q (.panic c) a w) (js:List Nat) (w:World) (hS:S w):∀ (is:List Nat) (listed:Array Bool) (a:Act),firstB md ops js is listed=true→is.all (waitsB md ops z)=true→
  heldWalk P ops S (fun a'=>lineZ P ops Q S z js a' w) is a→wpAnyZ P md ops Q S z (js.length+is.length) listed a w
 | [],listed,a,hB,_,h=>ze2 js listed a w hB h
 | i::is,listed,a,hB,hz,h=>by
  simp only [firstB,Bool.and_eq_true] at hB
  simp only [List.all_cons,Bool.and_eq_true] at hz
  obtain ⟨o,v,ho,hy,hK⟩:=h
  exact zfm ho (Region.noSelect_spec hs) (fun c a w h=>absurd h (hQ _ _ _)) hz.1 _ _ _ _ (Region.free_spec ho hB.1.2) (by simpa using hB.1.1) hy hS (ze1 hs hQ js w hS is _ _ hB.2 hz.2 hK)
theorem zbf {id z:Nat} {a:Act} {w:World} {L:List Oper} (is js:List Nat) (hm:P.follows .mixedOrders=true) (hB:heldB L is js=true) (hz:is.all (waitsB .any L.toArray z)=true) (hS:S w.drew)
  (h:heldWalk P L.toArray S (fun a'=>lineZ P L.toArray (NoPanic Q) S z js a' w.drew) is a):(Code.region id L.toArray true).wp P Q a w:=by
 unfold heldB at hB
 simp only [Bool.and_eq_true,decide_eq_true_eq] at hB
 obtain ⟨⟨hs,hf⟩,hl⟩:=hB
 have key:=ze1 (md:=.any) (Q:=NoPanic Q) (S:=S) (z:=z) hs (fun c a w h=>h) js w.drew hS is _ a hf hz h
 rw [hl] at key
 have e:L.toArray.size=L.length:=by simp
 refine wp_region_noPanic (wp_region_any hm ?_)
 rw [e] at key
 rw [e]
 exact zdx _ _ _ _ key
theorem zaa {z:Nat} {L:List Oper} {j:Nat} {js:List Nat} {a:Act} {w w':World} {o:Oper} {v:Value} (ho:L[j]? = some o) (hg:o.guard=none)
  (hr:(execOp a.eval o).run P w=.ok (.value v) w') (hS:j≠z→S w') (h:lineZ P L.toArray Q S z js (a.put o.dst v) w'):lineZ P L.toArray Q S z (j::js) a w:=by
 have hw:Region.wanted o (yielded L.toArray a.tmps)=true:=by simp [Region.wanted,hg]
 have ho':L.toArray[j]? = some o:=by simpa using ho
 unfold lineZ wpOp
 simp only [ho',hw,if_true]
 refine .inl ?_
 unfold Oper.wp
 rw [hr]
 exact ⟨hS,h⟩
theorem zdu {z:Nat} {L:List Oper} {j:Nat} {js:List Nat} {a:Act} {w w':World} {o:Oper} (ho:L[j]? = some o) (hg:o.guard=none)
  (hr:(execOp a.eval o).run P w=.ok .skip w') (hS:j≠z→S w') (h:lineZ P L.toArray Q S z js (a.put o.dst undef) w'):lineZ P L.toArray Q S z (j::js) a w:=by
 have hw:Region.wanted o (yielded L.toArray a.tmps)=true:=by simp [Region.wanted,hg]
 have ho':L.toArray[j]? = some o:=by simpa using ho
 unfold lineZ wpOp
 simp only [ho',hw,if_true]
 refine .inl ?_
 unfold Oper.wp
 rw [hr]
 exact ⟨hS,h⟩
end
end Dk
