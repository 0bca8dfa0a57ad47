import Derived.Test.YtpnajphbjfehnaaGreatLn15
import Derived.Shelf.Slices.Turned
import Derived.Shelf.SlicesQ.IndexFunc
set_option linter.unusedSimpArgs false
set_option linter.unusedVariables false
set_option linter.unnecessarySimpa false
set_option maxHeartbeats 8000000
set_option maxRecDepth 100000
namespace Go.Proofs.YtpnajphbjfehnaaGreat
open Go.RowKit Go.Lib
def Dk.waitsT (ps:List (Int × Nat)) (gs:List Int) (x:Int):Bool:=gs.contains x || ps.any fun p=>p.1 == x
def Dk.most (room:Int):Nat:=if room < 1 then 1 else if 8 < room then 8 else room.toNat
theorem New_anyT {W w:World} {us:List Dk.Thing} (h:Dk.Sep W w us) (room:Int) :
  Calls Tryz.prog 41 #[.int .i64 room] w fun e w'=>e=.returned (.pointer (some ⟨w.heap.size,0,none⟩))∧Dk.Tb W w' w.heap.size room [] [] [] us:=by
 have fin:Dk.Tb W (w.alloc (.cells #[.int .i64 room,.slice none 0 0,.slice none 0 0,.slice none 0 0] 179)) w.heap.size room [] [] [] us:=by
  obtain ⟨W1,e1⟩:∃ W1,W1=w.alloc (.cells #[.int .i64 room,.slice none 0 0,.slice none 0 0,.slice none 0 0] 179):=⟨_,rfl⟩
  rw [← e1]
  have u1:Below w.heap.size w W1:=by rw [e1];exact Dk.zb (Below.refl _ _) _
  have s0:=h.add (t:=Dk.rowOf 3 1 (.slice none 0 0) 0 (Dk.is [])) (Below.refl _ _) (World.ownsRow_nil _ _ _ _) (fun k hk=>by simp [Dk.rowOf,Value.ownBlock] at hk)
  have s1:=s0.add (t:=Dk.rowOf 344 2 (.slice none 0 0) 0 (Dk.prs [])) (Below.refl _ _) (World.ownsRow_nil _ _ _ _) (fun k hk=>by simp [Dk.rowOf,Value.ownBlock] at hk)
  have s2:=s1.add (t:=Dk.rowOf 73 1 (.slice none 0 0) 0 (Dk.uwT [])) (Below.refl _ _) (World.ownsRow_nil _ _ _ _) (fun k hk=>by simp [Dk.rowOf,Value.ownBlock] at hk)
  exact ⟨_,_,_,s2.newBox e1,⟨fun x hx=>by simp at hx,fun x hx=>by simp at hx,fun x hx=>by simp at hx⟩⟩
 have HF:Hid _:=fin
 clear fin h
 go_enter Tryz.func41,Tryz.ntmps41
 go_wp2
 go_ret
 exact ⟨rfl,HF.out⟩
theorem K26T:Dk.SlK Tryz.prog 23 3 (.int .i64 0) 1 8:=⟨Tryz.underlying23,info3,rfl,by decide,by decide⟩
section
variable {W w w' : World} {bt : Nat} {room : Int} {ws : List Nat} {ps : List (Int × Nat)} {gs : List Int} {us us' us1 us2 : List Dk.Thing}
theorem Tb.map (h:Dk.Tb W w bt room ws ps gs us) (f:∀ ts,Dk.Sep W w (us++ts)→Dk.Sep W w' (us'++ts)):Dk.Tb W w' bt room ws ps gs us':=by
 obtain ⟨v1,v2,v3,t,ft⟩:=Hid.out h
 refine ⟨v1,v2,v3,?_,ft⟩
 have p:=f [Dk.boxOf bt #[.int .i64 room,v1,v2,v3] 179,Dk.rowOf 73 1 v1 ws.length (Dk.uwT ws),Dk.rowOf 344 2 v2 ps.length (Dk.prs ps),Dk.rowOf 3 1 v3 gs.length (Dk.is gs)] (Dk.Sep.perm t (List.perm_append_comm (l₁:=[_,_,_,_])))
 exact Dk.Sep.perm p List.perm_append_comm
theorem Tb.get {t:Dk.Thing} (h:Dk.Tb W w bt room ws ps gs us) (ht:t ∈ us):t.holds w:=by
 obtain ⟨v1,v2,v3,q,ft⟩:=Hid.out h
 exact Dk.Sep.get q (by simp [Dk.tube,ht])
theorem Tb.row {e:TypeId} {s n:Nat} {v:Value} {xs:List Value} (h:Dk.Tb W w bt room ws ps gs us) (ht:Dk.rowOf e s v n xs ∈ us):w.ownsRow W.heap.size e s v n xs:=by
 obtain ⟨v1,v2,v3,q,ft⟩:=Hid.out h
 exact Dk.Sep.row q (by simp [Dk.tube,ht])
theorem Tb.box {b:Nat} {cs:Array Value} {e:TypeId} (h:Dk.Tb W w bt room ws ps gs us) (ht:Dk.boxOf b cs e ∈ us):Dk.Box w b cs e:=Tb.get h ht
end
end Go.Proofs.YtpnajphbjfehnaaGreat
namespace Dk
open Go Go.RowKit
abbrev uwK (xs:List Nat):List Value:=xs.map (fun n=>Value.int .u64 (n:Nat))
structure Rq where
 who:Int
 block:Int
 write:Bool
 x:Nat
def Rq.zero:Rq:=⟨0,0,false,0⟩
def Rq.ok (r:Rq):Prop:=i64 r.who∧i64 r.block∧r.x < 2 ^ 64
def Rq.cells (r:Rq):List Value:=[.int .i64 r.who,.int .i64 r.block,.bool r.write,.int .u64 (r.x:Nat)]
def rqs:List Rq→List Value
 | []=>[]
 | r::l=>r.cells++rqs l
structure FitK (bs:List Nat) (rs:List Rq):Prop where
 words:∀ x ∈ bs,x < 2 ^ 64
 reqs:∀ r ∈ rs,r.ok
 there:∀ r ∈ rs,0≤r.block∧r.block < bs.length
theorem FitK.add {bs:List Nat} {rs:List Rq} (h:FitK bs rs) {r:Rq} (hr:r.ok) (hb:0≤r.block∧r.block < bs.length):FitK bs (rs++[r]):=⟨h.words,fun q hq=>by
 rcases List.mem_append.1 hq with hq | hq
 ·exact h.reqs q hq
 ·rw [List.mem_singleton] at hq;rw [hq];exact hr,fun q hq=>by
 rcases List.mem_append.1 hq with hq | hq
 ·exact h.there q hq
 ·rw [List.mem_singleton] at hq;rw [hq];exact hb⟩
theorem FitK.set {bs:List Nat} {rs:List Rq} (h:FitK bs rs) (k x:Nat) (hx:x < 2 ^ 64):FitK (bs.set k x) rs:=⟨fun y hy=>by
 rcases List.mem_or_eq_of_mem_set hy with hy | hy
 ·exact h.words y hy
 ·rw [hy];exact hx,h.reqs,fun r hr=>by rw [List.length_set];exact h.there r hr⟩
def disk (bd:Nat) (v1 v2:Value) (bs:List Nat) (rs:List Rq) (us:List Thing):List Thing:=
 boxOf bd #[v1,v2] 174::rowOf 73 1 v1 bs.length (uwK bs)::rowOf 141 4 v2 rs.length (rqs rs)::us
def Dsk (W w:World) (bd:Nat) (v1 v2:Value) (bs:List Nat) (rs:List Rq) (us:List Thing):Prop:=Sep W w (disk bd v1 v2 bs rs us)
def Db (W w:World) (bd:Nat) (bs:List Nat) (rs:List Rq) (us:List Thing):Prop:=Hid (∃ v1 v2,Dsk W w bd v1 v2 bs rs us∧FitK bs rs)
section
variable {W w w' : World} {x y x' y' : Thing} {us : List Thing}
variable {bd : Nat} {v1 v2 v1' v2' : Value} {bs bs' : List Nat} {rs rs' : List Rq}
theorem Dsk.head (h:Dsk W w bd v1 v2 bs rs us):Box w bd #[v1,v2] 174:=Sep.box h (by simp [disk])
theorem Dsk.row1 (h:Dsk W w bd v1 v2 bs rs us):w.ownsRow W.heap.size 73 1 v1 bs.length (uwK bs):=Sep.row h (by simp [disk])
theorem Dsk.up (h:Dsk W w bd v1 v2 bs rs us):Below W.heap.size W w:=Sep.out h
theorem Dsk.below (h:Dsk W w bd v1 v2 bs rs us) (b:Below w.heap.size w w'):Dsk W w' bd v1 v2 bs rs us:=Sep.below h b
theorem Dsk.set1 (h:Dsk W w bd v1 v2 bs rs us) (a:Away (fun k=>v1.ownBlock=some k) w w') (ho:w'.ownsRow W.heap.size 73 1 v1 bs'.length (uwK bs')):Dsk W w' bd v1 v2 bs' rs us:=
 Sep.turn (us1:=[boxOf bd #[v1,v2] 174]) (t:=rowOf 73 1 v1 bs.length (uwK bs)) (t':=rowOf 73 1 v1 bs'.length (uwK bs')) h a (zx ho (Nat.zero_le _)) (fun k hk=>.inl hk)
theorem Db.out (h:Db W w bd bs rs us):Below W.heap.size W w:=by
 obtain ⟨v1,v2,t,_⟩:=Hid.out h
 exact t.up
theorem Db.below (h:Db W w bd bs rs us) (b:Below w.heap.size w w'):Db W w' bd bs rs us:=by
 obtain ⟨v1,v2,t,f⟩:=Hid.out h
 exact ⟨v1,v2,t.below b,f⟩
end
end Dk
