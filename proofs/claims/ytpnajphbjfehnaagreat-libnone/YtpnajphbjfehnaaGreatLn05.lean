import Derived.Test.YtpnajphbjfehnaaGreatLn04
import Derived.Deep.RegionHeld3
set_option linter.unusedSimpArgs false
set_option linter.unusedVariables false
set_option linter.unnecessarySimpa false
set_option maxHeartbeats 8000000
set_option maxRecDepth 100000
namespace Dk
open Go Go.RowKit
section
variable {P : Go.Program} {ops : Array Oper} {md : Region.Mode} {S : World → Prop}
def heldWalk (P:Go.Program) (ops:Array Oper) (S:World→Prop) (K:Act→Prop):List Nat→Act→Prop
 | [],a=>K a
 | i::is,a=>∃ o v,ops[i]? = some o∧YieldsIf P ops S o v a∧heldWalk P ops S K is (a.put o.dst v)
def lineWalk (P:Go.Program) (ops:Array Oper) (Q:Exit→Act→World→Prop) (S:World→Prop):List Nat→Act→World→Prop
 | [],a,w=>Q .normal a w
 | j::js,a,w=>wpOp P ops Q j (fun a' w'=>S w'∧lineWalk P ops Q S js a' w') a w
def linesB (md:Region.Mode) (ops:Array Oper):List Nat→Array Bool→Bool
 | [],listed=>Region.ready md ops listed == []
 | j::js,listed=>Region.ready md ops listed == [j] && linesB md ops js (listed.setIfInBounds j true)
def firstB (md:Region.Mode) (ops:Array Oper) (js:List Nat):List Nat→Array Bool→Bool
 | [],listed=>linesB md ops js listed
 | i::is,listed=>(Region.ready md ops listed).contains i && Region.free md ops listed i && firstB md ops js is (listed.setIfInBounds i true)
theorem zg2 {Q:Exit→Act→World→Prop}:∀ (js:List Nat) (listed:Array Bool) (a:Act) (w:World),linesB md ops js listed=true→lineWalk P ops Q S js a w→wpAnyH P md ops Q S js.length listed a w
 | [],listed,a,w,hB,h=>⟨by simpa [linesB] using hB,h⟩
 | j::js,listed,a,w,hB,h=>by
  simp only [linesB,Bool.and_eq_true] at hB
  have hr:Region.ready md ops listed=[j]:=by simpa using hB.1
  refine wpAnyH_all hr (by simp) fun i hi=>?_
  obtain rfl:i=j:=by simpa using hi
  exact wpOp_mono (fun a' w' h'=>⟨h'.1,zg2 js _ a' w' hB.2 h'.2⟩) h
theorem zgt {Q:Exit→Act→World→Prop} (hs:Region.noSelect ops=true) (hQ:∀ c a w,¬ Q (.panic c) a w) (js:List Nat) (w:World) (hS:S w):∀ (is:List Nat) (listed:Array Bool) (a:Act),firstB md ops js is listed=true→
  heldWalk P ops S (fun a'=>lineWalk P ops Q S js a' w) is a→wpAnyH P md ops Q S (js.length+is.length) listed a w
 | [],listed,a,hB,h=>zg2 js listed a w hB h
 | i::is,listed,a,hB,h=>by
  simp only [firstB,Bool.and_eq_true] at hB
  obtain ⟨o,v,ho,hy,hK⟩:=h
  exact wpAnyH_take (fuel:=js.length+is.length) ho hs hB.1.2 hB.1.1 (fun c a w h=>absurd h (hQ _ _ _)) hy hS (zgt hs hQ js w hS is _ _ hB.2 hK)
def heldB (L:List Oper) (is js:List Nat):Bool:=Region.noSelect L.toArray && firstB .any L.toArray js is (Array.replicate L.toArray.size false) && decide (js.length+is.length=L.length)
theorem zav {id:Nat} {Q:Exit→Act→World→Prop} {a:Act} {w:World} {L:List Oper} (is js:List Nat) (hm:P.follows .mixedOrders=true) (hB:heldB L is js=true) (hS:S w.drew)
  (h:heldWalk P L.toArray S (fun a'=>lineWalk P L.toArray (NoPanic Q) S js a' w.drew) is a):(Code.region id L.toArray true).wp P Q a w:=by
 unfold heldB at hB
 simp only [Bool.and_eq_true,decide_eq_true_eq] at hB
 obtain ⟨⟨hs,hf⟩,hl⟩:=hB
 refine wp_region_noPanic (wp_region_held (S:=S) hm ?_)
 have key:=zgt (md:=.any) (Q:=NoPanic Q) (S:=S) hs (fun c a w h=>h) js w.drew hS is _ a hf h
 rw [hl] at key
 have e:L.toArray.size=L.length:=by simp
 rw [e] at key ⊢
 exact key
theorem zan {Q:Exit→Act→World→Prop} {L:List Oper} {j:Nat} {js:List Nat} {a:Act} {w:World} {o:Oper} (ho:L[j]? = some o) (hg:o.guard=none)
  (h:o.wp P a w (fun a' w'=>S w'∧lineWalk P L.toArray Q S js a' w') Q):lineWalk P L.toArray Q S (j::js) a w:=by
 have hw:Region.wanted o (yielded L.toArray a.tmps)=true:=by simp [Region.wanted,hg]
 have ho':L.toArray[j]? = some o:=by simpa using ho
 unfold lineWalk wpOp
 simp only [ho',hw,if_true]
 exact .inl h
theorem za {K:Act→Prop} {L:List Oper} {i:Nat} {is:List Nat} {a:Act} {o:Oper} {v:Value} (ho:L[i]? = some o) (hg:o.guard=none) (hy:∀ w,S w→(execOp a.eval o).run P w=.ok (.value v) w)
  (h:heldWalk P L.toArray S K is (a.put o.dst v)):heldWalk P L.toArray S K (i::is) a:=
 ⟨o,v,by simpa using ho,.inl ⟨by simp [Region.wanted,hg],hy⟩,h⟩
end
open Go Go.RowKit Go.Deep Go.ChangeShapes Go.WideShapes
structure Row {α:Type} (n:Nat) (d:α) (R:List Value→α→Prop) (B:Nat) (w:World) (A:Option Addr) (L C:Nat) (xs:List α):Prop where
 len:xs.length=L
 cap:L≤C
 max:C≤maxLen
 cells:0 < L→∃ b o,A=some ⟨b,o,none⟩∧b < B∧∀ k,k < L→∃ vs,vs.length=n∧R vs (xs.getD k d)∧∀ j,j < n→w.cell? ⟨b,o+k*n+j,none⟩=vs[j]?
theorem Row.below {α:Type} {n:Nat} {d:α} {R R':List Value→α→Prop} {B B':Nat} {w w':World} {A:Option Addr} {L C:Nat} {xs:List α} (h:Row n d R B w A L C xs) (hb:Below B' w w') (hB:B≤B') (hR:∀ vs a,R vs a→R' vs a):Row n d R' B w' A L C xs:=
 ⟨h.len,h.cap,h.max,fun h0=>by
  obtain ⟨b,o,h1,h2,h3⟩:=h.cells h0
  refine ⟨b,o,h1,h2,fun k hk=>?_⟩
  obtain ⟨vs,g1,g2,g3⟩:=h3 k hk
  exact ⟨vs,g1,hR _ _ g2,fun j hj=>by rw [hb.cell (by show b < B';omega)];exact g3 j hj⟩⟩
section
variable {H : Type} {enc : TypeId × Value → H} {P : Go.Program} {w : World} {held : Bool}
theorem openRow {α:Type} {tS t:TypeId} {n:Nat} {d:α} {R:List Value→α→Prop} {fuel:Nat} {cs:List Value} {x:DataW H × List MemPlace} (hS:P.underlying tS=some (.slice t)) (ct:P.cellsOf t=n) (hn:0 < n)
  (hel:∀ fuel cs x,DataW.trod enc P w 0 (fun _=>true) held fuel t cs=some x→∃ a,R cs a)
  (h:DataW.trod enc P w 0 (fun _=>true) held fuel tS cs=some x):∃ A L C xs,cs=[.slice A L C]∧Row n d R w.heap.size w A L C xs:=by
 rcases open_slice hS h with ⟨rfl,_⟩ | ⟨a,len,cap,m,fu,D,Pl,rfl,_,hl,hm,hmm,_,hx⟩
 ·exact ⟨none,0,0,[],rfl,rfl,Nat.le_refl _,Nat.zero_le _,fun h0=>absurd h0 (by omega)⟩
 ·simp only [if_true] at hmm
  have hlm:len≤m:=by omega
  have each:∀ i,i < len→∃ q:List Value × α,w.cells? 0 (a.add (i*n)) n=some q.1∧R q.1 q.2:=by
   intro i hi
   obtain ⟨cs',h1,h2⟩:=hx i (by omega)
   obtain ⟨y,hy⟩:=hel _ _ _ h2
   rw [ct] at h1
   exact ⟨(cs',y),h1,hy⟩
  have:Inhabited (List Value × α):=⟨([],d)⟩
  obtain ⟨q,hq⟩:=choose_lt each
  refine ⟨some a,len,cap,(List.range len).map fun i=>(q i).2,rfl,by simp,hl,hm,fun h0=>?_⟩
  have c0:=(World.cells?_some (hq 0 h0).1).2.2 0 hn
  rw [add_add,Nat.zero_mul] at c0
  have l0:=(World.cells?_some (hq 0 h0).1).2.1
  have ea:a=⟨a.block,a.off,none⟩∧a.block < w.heap.size:=by
   cases hv:(q 0).1 with
   | nil=>rw [hv] at l0;simp at l0;omega
   | cons v r=>
    have e:w.cell? (a.add 0)=some v:=by
     rw [Nat.add_zero] at c0
     rw [c0]
     simp [hv]
    have:=lt_of_cell e
    exact ⟨plain_of_cell e,by simpa [Addr.add] using this⟩
  refine ⟨a.block,a.off,by rw [← ea.1],ea.2,fun k hk=>?_⟩
  obtain ⟨_,hlk,hc⟩:=World.cells?_some (hq k hk).1
  have eg:((List.range len).map fun i=>(q i).2).getD k d=(q k).2:=by simp [List.getD,hk]
  refine ⟨(q k).1,hlk,by rw [eg];exact (hq k hk).2,fun j hj=>?_⟩
  have:=hc j hj
  rw [ea.1,add_add,add_plain] at this
  rw [show a.off+k*n+j=a.off+(k*n+j) by omega]
  rw [this]
theorem open_row {α:Type} {tS t:TypeId} {n:Nat} {d0:α} {R:List Value→α→Prop} {v:Value} {d:DataW H} {ps:List MemPlace} {base:Nat} (hS:P.underlying tS=some (.slice t)) (ct:P.cellsOf t=n) (hn:0 < n)
  (hel:∀ fuel cs x,DataW.trod enc P w 0 (fun _=>true) held fuel t cs=some x→∃ a,R cs a)
  (hv:Value.okWide P w .any base tS v) (h:DataW.Trod enc P w 0 (fun _=>true) held tS v d ps):∃ A L C xs,v=.slice A L C∧Row n d0 R w.heap.size w A L C xs:=by
 obtain ⟨A,L,C,rfl⟩:=okWide_slice hS hv
 obtain ⟨fuel,h⟩:=h
 obtain ⟨A',L',C',xs,e,hr⟩:=openRow (d:=d0) hS ct hn hel h
 have e':Value.slice A L C=.slice A' L' C':=by simpa [Value.cells] using e
 exact ⟨A',L',C',xs,e',hr⟩
def IsWord (vs:List Value) (a:Nat):Prop:=vs=[.int .u64 (a:Nat)]∧a < 18446744073709551616
structure Frm where
 fn:Int
 pc:Int
 r:Nat→Nat
structure Frm.ok (f:Frm):Prop where
 fn:i64 f.fn
 pc:i64 f.pc
 r:∀ k,f.r k < 18446744073709551616
abbrev fv (f:Frm):Value:=.agg #[.int .i64 f.fn,.int .i64 f.pc,.int .u64 (f.r 0:Nat),.int .u64 (f.r 1:Nat),.int .u64 (f.r 2:Nat),.int .u64 (f.r 3:Nat),.int .u64 (f.r 4:Nat),.int .u64 (f.r 5:Nat),.int .u64 (f.r 6:Nat),.int .u64 (f.r 7:Nat)]
end
end Dk
