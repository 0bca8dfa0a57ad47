import Derived.Test.YtglhhlfopccmaaaGreatOw15
import Derived.Maps.RangeWalk
import Derived.Maps.OwnSet
set_option linter.unusedSimpArgs false
set_option linter.unusedVariables false
set_option linter.unnecessarySimpa false
set_option maxHeartbeats 8000000
set_option maxRecDepth 100000
namespace Go.Proofs.YtglhhlfopccmaaaGreat
open Go.RowKit Go.Maps
theorem law3W:Keyed Tryz.prog 3:=int_keyed Tryz.underlying3
theorem zero3W (w:World):(zeroValue 3).run Tryz.prog w=.ok (.int .i64 0) w:=by kernel_rfl
def ToldW (w:World) (bm M:Nat) (L:List (Int × Int)):Prop:=∃ (D:DataW Unit) (n:Nat),n≤M∧w.ownsMap Tryz.prog 3 (plainElem Tryz.prog 3) bm n D∧Dk.Tells D L
theorem ToldW.lt {w:World} {bm M:Nat} {L:List (Int × Int)} (h:ToldW w bm M L):bm < w.heap.size:=by
 obtain ⟨D,n,_,h,_⟩:=h
 exact h.lt
theorem ToldW.of_block {w w':World} {bm M:Nat} {L:List (Int × Int)} (h:ToldW w bm M L) (e:w'.heap[bm]? = w.heap[bm]?):ToldW w' bm M L:=by
 obtain ⟨D,n,hn,⟨es,clock,hb,r⟩,ht⟩:=h
 exact ⟨D,n,hn,⟨es,clock,e.trans hb,r⟩,ht⟩
structure WH (B M:Nat) (w:World) (bd bm:Nat) (now:Int) (L:List (Int × Int)):Prop where
 base:B≤bd
 baseM:B≤bm
 lo:0≤now
 hi:now≤1099511627776
 head:Dk.Box w bd #[.int .i64 now,.map (some bm)] 176
 map:ToldW w bm M L
 wf:∀ p ∈ L,Dk.i64 p.1∧Dk.i64 p.2
def AtW (bd bm:Nat) (k:Nat):Prop:=k=bd∨k=bm
theorem WH.at {B M:Nat} {w:World} {bd bm:Nat} {now:Int} {L:List (Int × Int)} (h:WH B M w bd bm now L):∀ k,AtW bd bm k→B≤k:=fun k hk=>hk.elim (fun e=>by rw [e];exact h.base) (fun e=>by rw [e];exact h.baseM)
theorem WH.ne {B M:Nat} {w:World} {bd bm:Nat} {now:Int} {L:List (Int × Int)} (h:WH B M w bd bm now L):bd≠bm:=fun e=>by
 obtain ⟨D,n,_,⟨es,clock,hb,_⟩,_⟩:=h.map
 have:=h.head.heap
 rw [e,hb] at this
 cases this
theorem WH.away {S:Nat→Prop} {B M:Nat} {w w':World} {bd bm:Nat} {now:Int} {L:List (Int × Int)} (h:WH B M w bd bm now L) (a:Dk.Away S w w') (hd:¬ S bd) (hm:¬ S bm):WH B M w' bd bm now L:=
 ⟨h.base,h.baseM,h.lo,h.hi,h.head.away a hd,h.map.of_block (a.block bm h.map.lt hm),h.wf⟩
theorem WH.up {B M:Nat} {w w':World} {bd bm:Nat} {now:Int} {L:List (Int × Int)} (h:WH B M w bd bm now L) (u:Below w.heap.size w w'):WH B M w' bd bm now L:=h.away (S:=fun _=>False) (Dk.Away.of_up u) id id
theorem zlf {x:Int} (h:Dk.i64 x):(Lit.int .i64 x).wf=true:=by
 unfold Dk.i64 at h
 exact WalkArith.wf_i64 (by omega)
theorem New_anyW (w:World):Calls Tryz.prog 48 #[] w fun e w'=>e=.returned (.pointer (some ⟨w.heap.size+1,0,none⟩))∧WH w.heap.size 0 w' (w.heap.size+1) w.heap.size 0 []∧Below w.heap.size w w':=by
 have hmm:=@run_makeMap Tryz.prog
 obtain ⟨W1,e1⟩:∃ W1,W1=w.alloc (.map #[] 0):=⟨_,rfl⟩
 obtain ⟨W2,e2⟩:∃ W2,W2=W1.alloc (.cells #[.int .i64 0,.map (some w.heap.size)] 176):=⟨_,rfl⟩
 have hs:W1.heap.size=w.heap.size+1:=by rw [e1,World.size_alloc]
 have u2:Below w.heap.size w W2:=by rw [e2,e1];exact Dk.zb (Dk.zb (Below.refl _ _) _) _
 have o1:W1.ownsMap Tryz.prog 3 (plainElem (H:=Unit) Tryz.prog 3) w.heap.size 0 (.map []):=by rw [e1];exact World.ownsMap_made w Tryz.prog 3 _
 have o2:W2.ownsMap Tryz.prog 3 (plainElem (H:=Unit) Tryz.prog 3) w.heap.size 0 (.map []):=by rw [e2];exact o1.alloc _
 have b2:Dk.Box W2 (w.heap.size+1) #[.int .i64 0,.map (some w.heap.size)] 176:=by rw [e2,← hs];exact Dk.Box.new W1 _ 176
 have hw:WH w.heap.size 0 W2 (w.heap.size+1) w.heap.size 0 []:=⟨by omega,Nat.le_refl _,by omega,by omega,b2,⟨_,0,Nat.le_refl _,o2,Dk.Tells.empty⟩,fun p hp=>by cases hp⟩
 rw [e1] at e2
 have HW:Hid _:=hw
 have HU:Hid _:=u2
 have HE:Hid _:=e2
 clear hw u2 o1 o2 b2 hs e1 e2
 go_enter Tryz.func48,Tryz.ntmps48
 go_wp2
 go_ret
 rw [← HE.out]
 exact ⟨rfl,HW.out,HU.out⟩
section
variable {B M : Nat} {w : World} {bd bm : Nat} {now : Int} {L : List (Int × Int)}
theorem zh3 (n:Int) (h:WH B M w bd bm now L) (h1:1≤n) (h2:n≤1099511627776):Calls Tryz.prog 102 #[.pointer (some ⟨bd,0,none⟩),.int .i64 n] w fun e w'=>e=.returned (.int .i64 (min (now+n) 1099511627776))∧w'=w:=by
 have c0:w.cell? ⟨bd,0,none⟩=some (.int .i64 now):=h.head.cell 0
 have hlo:=h.lo
 have hhi:=h.hi
 clear h
 by_cases hle:now+n≤1099511627776
 ·go_enter Tryz.func102,Tryz.ntmps102
  go_wp2
  go_ret
  exact ⟨by rw [Int.min_eq_left hle];rfl,rfl⟩
 ·go_enter Tryz.func102,Tryz.ntmps102
  go_wp2
  go_ret
  exact ⟨by rw [Int.min_eq_right (by omega)];rfl,rfl⟩
theorem ToldW.look_yes (h:ToldW w bm M L) {x c:Int} (hi:Dk.i64 x) (hx:(x,c) ∈ L):(Instr.lookup 165 (.map (some bm)) (.int .i64 x) true).run Tryz.prog w=.ok (.tuple #[.int .i64 c,.bool true]) w:=by
 obtain ⟨D,n,_,ho,ht⟩:=h
 obtain ⟨v,ps,hr,hv⟩:=ho.look_ok law3W Tryz.underlying165 (zero3W w) (plainElem_int Tryz.underlying3 rfl) (keyOf_int_mk Tryz.underlying3 (zlf hi))
 rw [ht.yes _ hx] at hv
 rw [ht.has hx] at hr
 obtain ⟨a,rfl,e,_⟩:=plainElem_int_inv Tryz.underlying3 hv
 simp at e
 rw [hr,e.1]
theorem ToldW.look_no (h:ToldW w bm M L) {x:Int} (hi:Dk.i64 x) (hx:x ∉ Dk.keysOf L):(Instr.lookup 165 (.map (some bm)) (.int .i64 x) true).run Tryz.prog w=.ok (.tuple #[.int .i64 0,.bool false]) w:=by
 obtain ⟨D,n,_,ho,ht⟩:=h
 obtain ⟨v,ps,hr,hv⟩:=ho.look_ok law3W Tryz.underlying165 (zero3W w) (plainElem_int Tryz.underlying3 rfl) (keyOf_int_mk Tryz.underlying3 (zlf hi))
 rw [atKey_of_not_has (ht.no x hx)] at hv
 rw [ht.no x hx] at hr
 obtain ⟨a,rfl,e,_⟩:=plainElem_int_inv Tryz.underlying3 hv
 simp at e
 rw [hr,e.1]
end
end Go.Proofs.YtglhhlfopccmaaaGreat
