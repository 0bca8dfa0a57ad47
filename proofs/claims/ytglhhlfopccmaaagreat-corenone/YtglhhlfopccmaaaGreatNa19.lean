import Derived.Test.YtglhhlfopccmaaaGreatNa18
import Derived.Laws.OwnMore
import Derived.OwnWalk
set_option linter.unusedSimpArgs false
set_option linter.unusedVariables false
set_option linter.unnecessarySimpa false
set_option maxHeartbeats 8000000
set_option maxRecDepth 100000
namespace Go.Proofs
open Go.Shelf
def Tryz.l17_ren : Go.Shelf.Ren := ⟨fun | 8 => 236 | 6 => 249 | n => n, fun | 22 => 172 | 23 => 142 | 25 => 327 | 4 => 4 | 3 => 3 | 0 => 0 | n => n, fun | n => n⟩
theorem Tryz.l17 : Go.Proofs.SlLaysH0.n8 Tryz.prog Tryz.l17_ren := {
 mixed := by kernel_rfl
 f6 := ⟨Tryz.f249.name, by decide, Tryz.func249.trans (congrArg some (by kernel_rfl))⟩
 f8 := ⟨Tryz.f236.name, by decide, Tryz.func236.trans (congrArg some (by kernel_rfl))⟩
 t0 := Tryz.underlying0
 a0 := Tryz.isAgg0
 z0 := Tryz.sizeOf0
 v0 := Tryz.zeroValue0
 t3 := Tryz.underlying3
 a3 := Tryz.isAgg3
 z3 := Tryz.sizeOf3
 v3 := Tryz.zeroValue3
 t4 := Tryz.underlying4
 a4 := Tryz.isAgg4
 z4 := Tryz.sizeOf4
 v4 := Tryz.zeroValue4
 t22 := Tryz.underlying172
 a22 := Tryz.isAgg172
 z22 := Tryz.sizeOf172
 v22 := Tryz.zeroValue172
 t25 := Tryz.underlying327
 a25 := Tryz.isAgg327
 z25 := Tryz.sizeOf327
 v25 := Tryz.zeroValue327 }
end Go.Proofs
namespace Go.Proofs.YtglhhlfopccmaaaGreat
open Go.RowKit Go.Lib
theorem Dk.Away.rowK {S : Nat → Prop} {w w' : World} {b : Nat} (h : Dk.Away S w w') (hb : S b ∨ w.heap.size ≤ b) (cs : Array Value) : Dk.Away S w (w'.setRow b cs) :=
 ⟨h.os, h.tape, h.output, by simp [World.setRow]; exact h.size, fun k hk hn => (setRow_other w' b k cs (fun e => by subst e; exact hb.elim hn (fun h1 => absurd hk (by omega)))).trans (h.block k hk hn)⟩
theorem up_rowK {w w' : World} {b : Nat} (h : Below w.heap.size w w') (hb : w.heap.size ≤ b) (cs : Array Value) : Below w.heap.size w (w'.setRow b cs) :=
 ⟨h.os, h.tape, h.output, by simp [World.setRow]; exact h.size, fun k hk => (setRow_other w' b k cs (by omega)).trans (h.block k hk)⟩
theorem K26K : Dk.SlK Tryz.prog 172 142 (.agg #[.int .i64 0, .int .i64 0, .bool false, .int .u64 0]) 4 32 := ⟨Tryz.underlying172, info29, rfl, by decide, by decide⟩
theorem theirsK (x : Int) (b : Nat) (w : World) (hb : b < w.heap.size) (hcell : w.cell? ⟨b, 0, none⟩ = some (.int .i64 x)) :
  PredBelow Tryz.prog 237 #[.pointer (some ⟨b, 0, none⟩)] (fun p => .agg (Dk.Rq.cells p).toArray) (fun p => p.who == x) w := fun W p hB => by
 have hc : W.cell? ⟨b, 0, none⟩ = some (.int .i64 x) := (hB.cell (p := ⟨b, 0, none⟩) hb).trans hcell
 have hbW : b < W.heap.size := Nat.lt_of_lt_of_le hb hB.size
 have hne : b ≠ W.heap.size := by omega
 show Calls Tryz.prog 237 #[.agg #[.int .i64 p.who, .int .i64 p.block, .bool p.write, .int .u64 (p.x : Nat)], .pointer (some ⟨b, 0, none⟩)] W _
 go_enter Tryz.func237, Tryz.ntmps237
 go_wp2
 all_goals (go_ret; exact ⟨by simp_all, hB.alloc hB.size _⟩)
theorem IndexFunc_noneK (fv : Value) (w : World) : Calls Tryz.prog 249 #[.slice none 0 0, fv] w fun e w' => e = .returned (.int .i64 (-1)) ∧ w' = w := by
 go_enter Tryz.func249, Tryz.ntmps249
 go_wp2
 go_loopw [8] (fun i w' => i = .int .i64 0 ∧ Hid (w' = w)) (fun i w' => 0)
 case atStart => exact ⟨rfl, rfl⟩
 case round =>
  obtain ⟨rfl, HW⟩ := hrel
  go_wp2
  go_ret
  exact ⟨rfl, HW.out⟩
theorem ContainsFunc_noneK (fv : Value) (w : World) : Calls Tryz.prog 236 #[.slice none 0 0, fv] w fun e w' => e = .returned (.bool false) ∧ w' = w := by
 go_enter Tryz.func236, Tryz.ntmps236
 go_wp2_with (go_at_call 249; refine (IndexFunc_noneK _ _).mono ?_; rintro e w' ⟨rfl, hw'⟩; subst w')
 go_ret
 exact ⟨rfl, rfl⟩
theorem ContainsFunc_anyK (B : Nat) (v : Value) (ps : List Dk.Rq) (x : Int) (b : Nat) (w : World) (h : w.ownsRow B 142 4 v ps.length (Dk.rqs ps)) (hb : b < w.heap.size) (hcell : w.cell? ⟨b, 0, none⟩ = some (.int .i64 x)) :
  Calls Tryz.prog 236 #[v, .func (.func 237) #[] #[.pointer (some ⟨b, 0, none⟩)]] w fun e w' => e = .returned (.bool (ps.any fun p => p.who == x)) ∧ Below w.heap.size w w' := by
 obtain ⟨hl, ⟨rfl, h0⟩ | ⟨g, cap, cur, rfl, hgb, hg, hn, hm, hs, ht⟩⟩ := id h
 ·obtain rfl : ps = [] := List.eq_nil_of_length_eq_zero h0
  refine (ContainsFunc_noneK _ w).mono ?_
  rintro e w' ⟨rfl, rfl⟩
  exact ⟨rfl, Below.refl _ _⟩
 ·have eg : ∀ args w, (callFunc 237 args).run Tryz.prog w = .ok (.enter 237 args) w := enters_of Tryz.func237 (by kernel_rfl) rfl
  unfold maxLen at hm
  have hcells := h.cells (g := g) rfl
  have : Inhabited Dk.Rq := ⟨Dk.Rq.zero⟩
  have hcon := AnyQ.slices_ContainsFunc Tryz.l17 4 Tryz.isAgg142 Tryz.sizeOf142 Dk.Rq.cells (fun _ => rfl) (fun p => p.who == x) 237 #[.pointer (some ⟨b, 0, none⟩)] eg g 0 ps.length cap ps w (theirsK x b w hb hcell) (Nat.le_refl _) (by omega) (Array.getElem?_eq_some_iff.1 hg).1 (fun j hj i u hi => by
   have hi4 : i < 4 := by
    have := (List.getElem?_eq_some_iff.1 hi).1
    simpa [Dk.Rq.cells] using this
   have h1 := Dk.rqs_get ps j hj i hi4
   have e0 : ps[j]! = ps.getD j Dk.Rq.zero := by simp [List.getD, hj]
   rw [e0] at hi
   have := hcells (j * 4 + i) u (h1.trans hi)
   rw [Addr.add_lit] at this
   rw [Nat.add_assoc]
   exact this)
  rw [List.take_length] at hcon
  exact hcon
section
variable {W w w' : World} {bd : Nat} {bs : List Nat} {rs : List Dk.Rq} {us us' us1 us2 : List Dk.Thing}
theorem Db.map (h : Dk.Db W w bd bs rs us) (f : ∀ ts, Dk.Sep W w (us ++ ts) → Dk.Sep W w' (us' ++ ts)) : Dk.Db W w' bd bs rs us' := by
 obtain ⟨v1, v2, t, ft⟩ := Hid.out h
 refine ⟨v1, v2, ?_, ft⟩
 have p := f [Dk.boxOf bd #[v1, v2] 174, Dk.rowOf 38 1 v1 bs.length (Dk.uwK bs), Dk.rowOf 142 4 v2 rs.length (Dk.rqs rs)] (Dk.Sep.perm t (List.perm_append_comm (l₁ := [_, _, _])))
 exact Dk.Sep.perm p List.perm_append_comm
theorem Db.get {t : Dk.Thing} (h : Dk.Db W w bd bs rs us) (ht : t ∈ us) : t.holds w := by
 obtain ⟨v1, v2, q, ft⟩ := Hid.out h
 exact Dk.Sep.get q (by simp [Dk.disk, ht])
theorem Db.row {e : TypeId} {s n : Nat} {v : Value} {xs : List Value} (h : Dk.Db W w bd bs rs us) (ht : Dk.rowOf e s v n xs ∈ us) : w.ownsRow W.heap.size e s v n xs := by
 obtain ⟨v1, v2, q, ft⟩ := Hid.out h
 exact Dk.Sep.row q (by simp [Dk.disk, ht])
theorem Db.box {b : Nat} {cs : Array Value} {e : TypeId} (h : Dk.Db W w bd bs rs us) (ht : Dk.boxOf b cs e ∈ us) : Dk.Box w b cs e := Db.get h ht
theorem Db.drop {t : Dk.Thing} (h : Dk.Db W w bd bs rs (t :: us)) : Dk.Db W w bd bs rs us := Db.map h (fun ts s => s.sub (List.sublist_cons_self _ _))
theorem Db.newBox {cs : Array Value} {e : TypeId} (h : Dk.Db W w bd bs rs us) (ew : w' = w.alloc (.cells cs e)) : Dk.Db W w' bd bs rs (Dk.boxOf w.heap.size cs e :: us) := Db.map h (fun ts s => s.newBox ew)
theorem Db.turn {t t' : Dk.Thing} (h : Dk.Db W w bd bs rs (us1 ++ t :: us2)) (a : Dk.Away t.own w w') (hh : t'.holds w') (hn : ∀ k, t'.own k → t.own k ∨ w.heap.size ≤ k) : Dk.Db W w' bd bs rs (us1 ++ t' :: us2) :=
 Db.map h (fun ts s => by
  rw [List.append_assoc, List.cons_append] at s ⊢
  exact s.turn a hh hn)
def Dk.waitsK (rs : List Dk.Rq) (x : Int) : Bool := rs.any fun p => p.who == x
theorem waits_anyK (h : Dk.Db W w bd bs rs us) (x : Int) :
  Calls Tryz.prog 207 #[.pointer (some ⟨bd, 0, none⟩), .int .i64 x] w fun e w' => e = .returned (.bool (Dk.waitsK rs x)) ∧ Below w.heap.size w w' := by
 obtain ⟨v1, v2, t, f⟩ := Hid.out h
 obtain ⟨W1, e1⟩ : ∃ W1, W1 = w.alloc (.cells #[.int .i64 x] 3) := ⟨_, rfl⟩
 have u1 : Below w.heap.size w W1 := by rw [e1]; exact Dk.up_alloc (Below.refl _ _) _
 have b1 : Dk.Box W1 w.heap.size #[.int .i64 x] 3 := by rw [e1]; exact Dk.Box.new _ _ _
 have t1 := t.below u1
 obtain ⟨A2, C2, ev2, _, _⟩ := Dk.owns_slice t.row2
 have k2 : W1.cell? ⟨bd, 1, none⟩ = some (.slice A2 rs.length C2) := by rw [← ev2]; exact t1.head.cell 1
 have c2 : Calls Tryz.prog 236 #[.slice A2 rs.length C2, .func (.func 237) #[] #[.pointer (some ⟨w.heap.size, 0, none⟩)]] W1 fun e w' => e = .returned (.bool (Dk.waitsK rs x)) ∧ Below W1.heap.size W1 w' := by
  rw [← ev2]
  exact ContainsFunc_anyK _ _ rs x w.heap.size _ t1.row2 b1.lt (b1.cell 0)
 have HU : Hid (Below w.heap.size w W1) := u1
 have HE : Hid (w.alloc (.cells #[.int .i64 x] 3) = W1) := e1.symm
 clear ev2 t t1 f b1 h u1 e1
 go_enter Tryz.func207, Tryz.ntmps207
 go_wp2_with (rw [HE.out]; clear HE)
 refine c2.mono ?_
 rintro e w' ⟨rfl, hb⟩
 go_wp2_with fail
 go_ret
 exact ⟨rfl, Dk.up_call HU.out hb⟩
def Dk.blocks (n : Int) : Nat := if n < 0 then 0 else if 64 < n then 64 else n.toNat
theorem Dk.blocks_eq (n : Int) : min (max n 0) 64 = (Dk.blocks n : Int) := by
 unfold Dk.blocks
 split
 ·omega
 ·split <;> omega
theorem Dk.blocks_le (n : Int) : Dk.blocks n ≤ 64 := by
 unfold Dk.blocks
 split
 ·omega
 ·split <;> omega
theorem Sep.made (h : Dk.Sep W w us) (n : Nat) (hn : n ≤ 1000) : ∃ w', (Instr.makeSlice 55 (.int .i64 (n : Int)) (.int .i64 (n : Int))).run Tryz.prog w = .ok (.slice (some ⟨w.heap.size, 0, none⟩) n n) w' ∧ Dk.Sep W w' (Dk.rowOf 38 1 (.slice (some ⟨w.heap.size, 0, none⟩) n n) n (Dk.uwK (List.replicate n 0)) :: us) ∧ w'.heap.size = w.heap.size + 1 := by
 obtain ⟨i0, hi0, hz0, hz1, hz2⟩ := info_parts info27K
 have hr := run_make (P := Tryz.prog) w 55 38 i0 (.int .u64 0) Tryz.underlying55 hi0 hz0 .i64 .i64 n n (by omega) (Int.le_refl _) (by rw [hz2]; omega) (by omega)
 simp only [Int.toNat_natCast] at hr
 rw [hz1] at hr
 refine ⟨_, hr, h.add (Dk.up_alloc (Below.refl _ _) _) ?_ (fun k hk => by simp [Dk.rowOf, Value.ownBlock] at hk; omega), by simp⟩
 have e : (madeCells (Value.int .u64 0).cells (n * 1)).toList = Dk.uwK (List.replicate n 0) := by
  apply List.ext_getElem?
  intro i
  by_cases hi : i < n
  ·simp [madeCells, Dk.uwK, hi, Value.cells]
   simp [Nat.mod_one]
  ·rw [List.getElem?_eq_none (by simp [madeCells]; omega), List.getElem?_eq_none (by simp; omega)]
 have := World.ownsRow_lit w (e := 38) (size := 1) (base := 0) (madeCells (Value.int .u64 0).cells (n * 1)) n (Nat.zero_le _) (by unfold maxLen; omega) (size_madeCells _ _)
 rw [e] at this
 exact this
end
section
variable {W w w' : World} {bd : Nat} {bs : List Nat} {rs : List Dk.Rq} {us us' us1 us2 : List Dk.Thing}
theorem New_anyK (h : Dk.Sep W w us) (n : Int) :
  Calls Tryz.prog 47 #[.int .i64 n] w fun e w' => e = .returned (.pointer (some ⟨w.heap.size + 1, 0, none⟩)) ∧ Dk.Db W w' (w.heap.size + 1) (List.replicate (Dk.blocks n) 0) [] us := by
 have hle := Dk.blocks_le n
 obtain ⟨w1, hmk, s1, z1⟩ := Sep.made h (Dk.blocks n) (by omega)
 have he := Dk.blocks_eq n
 have fin : Dk.Db W (w1.alloc (.cells #[.slice (some ⟨w.heap.size, 0, none⟩) (Dk.blocks n) (Dk.blocks n), .slice none 0 0] 174)) (w.heap.size + 1) (List.replicate (Dk.blocks n) 0) [] us := by
  have s2 := s1.add (t := Dk.rowOf 142 4 (.slice none 0 0) 0 (Dk.rqs [])) (Below.refl _ _) (World.ownsRow_nil _ _ _ _) (fun k hk => by simp [Dk.rowOf, Value.ownBlock] at hk)
  have s3 := (s2.perm (List.Perm.swap _ _ _)).newBox (cs := #[.slice (some ⟨w.heap.size, 0, none⟩) (Dk.blocks n) (Dk.blocks n), .slice none 0 0]) (e := 174) rfl
  rw [z1] at s3
  refine ⟨.slice (some ⟨w.heap.size, 0, none⟩) (Dk.blocks n) (Dk.blocks n), .slice none 0 0, ?_, ⟨fun x hx => by rw [(List.mem_replicate.1 hx).2]; decide, fun x hx => by simp at hx, fun x hx => by simp at hx⟩⟩
  unfold Dk.Dsk Dk.disk
  rw [List.length_replicate]
  exact s3
 generalize Dk.blocks n = m at *
 have HF : Hid _ := fin
 clear fin h s1
 go_enter Tryz.func47, Tryz.ntmps47
 go_wp2
 go_ret
 exact ⟨rfl, HF.out⟩
theorem Db.words (h : Dk.Db W w bd bs rs us) : ∃ A C, w.cell? ⟨bd, 0, none⟩ = some (.slice A bs.length C) ∧ bs.length ≤ C ∧ C ≤ maxLen := by
 obtain ⟨v1, v2, t, f⟩ := Hid.out h
 obtain ⟨A, C, ev, h1, h2⟩ := Dk.owns_slice t.row1
 subst ev
 exact ⟨A, C, t.head.cell 0, h1, h2⟩
theorem word_at {B n k : Nat} {v : Value} {xs : List Nat} (hr : w.ownsRow B 38 1 v xs.length (Dk.uwK xs)) (hk : k < xs.length) : ∃ g C, v = .slice (some ⟨g, 0, none⟩) xs.length C ∧ xs.length ≤ C ∧ C ≤ maxLen ∧ w.cell? ⟨g, k, none⟩ = some (.int .u64 (xs.getD k 0 : Nat)) ∧ w.frozen? ⟨g, k, none⟩ = false ∧ ∀ y : Nat, (w.setCell ⟨g, k, none⟩ (.int .u64 (y : Nat))).ownsRow B 38 1 v (xs.set k y).length (Dk.uwK (xs.set k y)) := by
 obtain ⟨_, ⟨_, h0⟩ | ⟨g, cap, cur, rfl, hb, hgg, h1, h2, h3, h4⟩⟩ := id hr
 ·omega
 have hc := hr.cells (g := g) rfl k (.int .u64 (xs.getD k 0 : Nat)) (by simp [List.getD, hk])
 rw [Addr.add_lit, Nat.zero_add] at hc
 have bx : Dk.Box w g cur 38 := ⟨hgg⟩
 refine ⟨g, cap, rfl, h1, h2, hc, bx.frozen k, fun y => ?_⟩
 rw [Nat.mul_one] at h3
 rw [List.length_set]
 refine Dk.owns_box (bx.set k (.int .u64 (y : Nat))) hb (by rw [Array.size_setIfInBounds]; exact h3) h2 (by simp) h1 (fun i hi => ?_)
 rw [Array.getElem?_setIfInBounds]
 have hi' : cur[i]? = (Dk.uwK xs)[i]? := by
  rw [← h4, List.getElem?_take, if_pos (by omega), Array.getElem?_toList]
 by_cases hij : k = i
 ·subst hij
  rw [if_pos rfl, if_pos (by omega)]
  simp [hk]
 ·rw [if_neg hij, hi']
  simp [Dk.uwK, List.getElem?_set, hij]
theorem Block_no (h : Dk.Db W w bd bs rs us) (k : Int) (hk : k < 0 ∨ (bs.length : Int) ≤ k) : Calls Tryz.prog 206 #[.pointer (some ⟨bd, 0, none⟩), .int .i64 k] w fun e w' => e = .returned (.tuple #[.int .u64 0, .bool false]) ∧ w' = w := by
 obtain ⟨A, C, c0, _, _⟩ := Db.words h
 generalize bs.length = n at *
 by_cases h0 : k < 0
 ·go_enter Tryz.func206, Tryz.ntmps206
  go_wp2
  go_ret2
  exact ⟨rfl, rfl⟩
 ·have h1 : k ≥ (n : Int) := by omega
  have y0 : decide (k < 0) = false := by simp; omega
  have y1 : decide (k ≥ (n : Int)) = true := by simp; omega
  go_enter Tryz.func206, Tryz.ntmps206
  go_wp2
  go_ret2
  exact ⟨rfl, rfl⟩
theorem Block_yes (h : Dk.Db W w bd bs rs us) (k : Nat) (hk : k < bs.length) : Calls Tryz.prog 206 #[.pointer (some ⟨bd, 0, none⟩), .int .i64 (k : Int)] w fun e w' => e = .returned (.tuple #[.int .u64 (bs.getD k 0 : Nat), .bool true]) ∧ w' = w := by
 obtain ⟨v1, v2, t, f⟩ := Hid.out h
 obtain ⟨g, C, ev, h1, h2, hc, hf, _⟩ := word_at (n := 0) t.row1 hk
 unfold maxLen at h2
 have c0 := t.head.cell 0
 subst ev
 simp only [List.getElem?_toArray, List.getElem?_cons_zero] at c0
 generalize bs.getD k 0 = x at *
 generalize bs.length = n at *
 have y1 : decide ((k : Int) ≥ (n : Int)) = false := by simp; omega
 have y2 : decide ((n : Int) ≤ (k : Int)) = false := by simp; omega
 have y3 : decide (n ≤ k) = false := by simp; omega
 have hkn : (k : Int) < (n : Int) := by omega
 clear t f h
 go_enter Tryz.func206, Tryz.ntmps206
 go_wp2
 go_ret2
 exact ⟨rfl, rfl⟩
end
section
variable {W w w' : World} {bd : Nat} {bs : List Nat} {rs : List Dk.Rq} {us us' us1 us2 : List Dk.Thing}
theorem Db.write (h : Dk.Db W w bd bs rs us) (k : Nat) (hk : k < bs.length) (y : Nat) (hy : y < 2 ^ 64) :
  ∃ g C, w.cell? ⟨bd, 0, none⟩ = some (.slice (some ⟨g, 0, none⟩) bs.length C) ∧ bs.length ≤ C ∧ C ≤ maxLen ∧ w.cell? ⟨g, k, none⟩ = some (.int .u64 (bs.getD k 0 : Nat)) ∧ w.frozen? ⟨g, k, none⟩ = false ∧ Dk.Db W (w.setCell ⟨g, k, none⟩ (.int .u64 (y : Nat))) bd (bs.set k y) rs us := by
 obtain ⟨v1, v2, t, f⟩ := Hid.out h
 obtain ⟨g, C, ev, h1, h2, hc, hf, hs⟩ := word_at (n := 0) t.row1 hk
 subst ev
 refine ⟨g, C, t.head.cell 0, h1, h2, hc, hf, ⟨_, _, t.set1 ((Dk.Away.refl (fun j => Value.ownBlock (.slice (some ⟨g, 0, none⟩) bs.length C) = some j) w).set (b := g) (.inl rfl) _ _) (hs y), f.set k y hy⟩⟩
end
end Go.Proofs.YtglhhlfopccmaaaGreat
namespace Dk
open Go
def at_K (k : Int) (n : Nat) : Nat := (k % (n : Int)).toNat
end Dk
namespace Go.Proofs.YtglhhlfopccmaaaGreat
open Go.RowKit Go.Lib
section
variable {W w w' : World} {bd : Nat} {bs : List Nat} {rs : List Dk.Rq} {us us' us1 us2 : List Dk.Thing}
theorem Db.more (h : Dk.Db W w bd bs rs us) (r : Dk.Rq) (hr : r.ok) (hb : 0 ≤ r.block ∧ r.block < bs.length) (hl : rs.length ≤ 1000) :
  ∃ A n C A' n' C' w', w.cell? ⟨bd, 1, none⟩ = some (.slice A n C) ∧ (Builtin.append_ #[172, 172] 172 #[.slice A n C, .slice (some ⟨w.heap.size, 0, none⟩) 1 1]).run Tryz.prog (w.alloc (.cells #[.int .i64 r.who, .int .i64 r.block, .bool r.write, .int .u64 (r.x : Nat)] 142)) = .ok (.slice A' n' C') w' ∧ w'.cell? ⟨bd, 1, none⟩ = some (.slice A n C) ∧ w'.frozen? ⟨bd, 1, none⟩ = false ∧ Dk.Db W (w'.setCell ⟨bd, 1, none⟩ (.slice A' n' C')) bd bs (rs ++ [r]) us := by
 obtain ⟨v1, v2, t, ft⟩ := Hid.out h
 obtain ⟨W1, e1⟩ : ∃ W1, W1 = w.alloc (.cells #[.int .i64 r.who, .int .i64 r.block, .bool r.write, .int .u64 (r.x : Nat)] 142) := ⟨_, rfl⟩
 have u1 : Below w.heap.size w W1 := by rw [e1]; exact Dk.up_alloc (Below.refl _ _) _
 have b1 : Dk.Box W1 w.heap.size #[.int .i64 r.who, .int .i64 r.block, .bool r.write, .int .u64 (r.x : Nat)] 142 := by rw [e1]; exact Dk.Box.new _ _ _
 have t1 := t.below u1
 obtain ⟨A, C, ev, _, _⟩ := Dk.owns_slice t.row2
 obtain ⟨v', w', hrun, ho, hg, hf, _⟩ := K26K.append W.heap.size 172 v2 _ _ W1 t1.row2 ⟨w.heap.size, 0, none⟩ 1 1 r.cells rfl (fun j u hj => by
  rw [Addr.add_lit, Nat.zero_add, b1.cell]
  simpa [Dk.Rq.cells] using hj) (fun u hu => Dk.rqs_one [r] u (by simpa [Dk.rqs] using hu)) (by omega) t1.up.size
 have ho' : w'.ownsRow W.heap.size 142 4 v' (rs ++ [r]).length (Dk.rqs (rs ++ [r])) := by
  rw [List.length_append, Dk.rqs_append]
  simpa [Dk.rqs] using ho
 obtain ⟨A', C', ev', _, _⟩ := Dk.owns_slice ho
 have hb' : Dk.Box w' bd #[v1, v2] 174 := ⟨by rw [hg.block bd t1.head.lt (fun e => t1.ne2 e.symm)]; exact t1.head.heap⟩
 rw [← e1]
 subst ev'
 have o2 := Dk.owns_away ho' ((Dk.Away.refl (fun k => k = bd) w').set (.inl rfl) 1 (.slice A' (rs.length + 1) C')) (fun k hk e => by
  rcases hf k hk with q | q
  ·rw [e] at q; exact t1.ne2 q
  ·have := t1.head.lt; omega)
 have a2 : Dk.Away (fun k => k = bd ∨ v2.ownBlock = some k) W1 (w'.setCell ⟨bd, 1, none⟩ (.slice A' (rs.length + 1) C')) := (Dk.Away.of_grown hg (fun k hk => .inl (.inr hk))).set (.inl (.inl rfl)) _ _
 have T := t1.set2 a2 (hb'.set 1 _) o2 hf
 subst ev
 exact ⟨_, _, _, _, _, _, w', t.head.cell 1, hrun, hb'.cell 1, hb'.frozen 1, ⟨_, _, T, ft.add hr hb⟩⟩
theorem Ask_arg (h : Dk.Db W w bd bs rs us) (a b : Int) (c : Bool) (d : Nat) (hb : b < 0 ∨ (bs.length : Int) ≤ b) :
  Calls Tryz.prog 161 #[.pointer (some ⟨bd, 0, none⟩), .agg #[.int .i64 a, .int .i64 b, .bool c, .int .u64 (d : Nat)]] w fun e w' => e = .returned (.int .i64 1) ∧ Dk.Db W w' bd bs rs us := by
 obtain ⟨W1, e1⟩ : ∃ W1, W1 = w.alloc (.cells #[.int .i64 a, .int .i64 b, .bool c, .int .u64 (d : Nat)] 142) := ⟨_, rfl⟩
 have h1 := Db.newBox h e1
 have b1 : Dk.Box W1 w.heap.size #[.int .i64 a, .int .i64 b, .bool c, .int .u64 (d : Nat)] 142 := Db.box h1 (by simp)
 have c1 : W1.cell? ⟨w.heap.size, 1, none⟩ = some (.int .i64 b) := b1.cell 1
 have HE : Hid (w.alloc (.cells #[.int .i64 a, .int .i64 b, .bool c, .int .u64 (d : Nat)] 142) = W1) := e1.symm
 have K := Block_no h1 b hb
 have h2 := Db.drop h1
 clear e1 b1 h h1 hb
 go_enter Tryz.func161, Tryz.ntmps161
 go_wp2_with (rw [HE.out]; clear HE)
 refine K.mono ?_
 rintro e w' ⟨rfl, hw'⟩
 subst w'
 go_wp2_with fail
 go_ret
 exact ⟨rfl, h2⟩
theorem Ask_busy (h : Dk.Db W w bd bs rs us) (a : Int) (b : Nat) (c : Bool) (d : Nat) (hb : b < bs.length) (hw : Dk.waitsK rs a = true) :
  Calls Tryz.prog 161 #[.pointer (some ⟨bd, 0, none⟩), .agg #[.int .i64 a, .int .i64 (b : Int), .bool c, .int .u64 (d : Nat)]] w fun e w' => e = .returned (.int .i64 4) ∧ Dk.Db W w' bd bs rs us := by
 obtain ⟨W1, e1⟩ : ∃ W1, W1 = w.alloc (.cells #[.int .i64 a, .int .i64 (b : Int), .bool c, .int .u64 (d : Nat)] 142) := ⟨_, rfl⟩
 have h1 := Db.newBox h e1
 have b1 : Dk.Box W1 w.heap.size #[.int .i64 a, .int .i64 (b : Int), .bool c, .int .u64 (d : Nat)] 142 := Db.box h1 (by simp)
 have c0 : W1.cell? ⟨w.heap.size, 0, none⟩ = some (.int .i64 a) := b1.cell 0
 have c1 : W1.cell? ⟨w.heap.size, 1, none⟩ = some (.int .i64 (b : Int)) := b1.cell 1
 have HE : Hid (w.alloc (.cells #[.int .i64 a, .int .i64 (b : Int), .bool c, .int .u64 (d : Nat)] 142) = W1) := e1.symm
 have K := Block_yes h1 b hb
 have K2 := waits_anyK h1 a
 rw [hw] at K2
 have h2 := Db.drop h1
 clear e1 b1 h h1 hb hw
 go_enter Tryz.func161, Tryz.ntmps161
 go_wp2_with (rw [HE.out]; clear HE)
 refine K.mono ?_
 rintro e w' ⟨rfl, hw'⟩
 subst w'
 go_wp2_with fail
 refine K2.mono ?_
 rintro e w2 ⟨rfl, u2⟩
 have h3 := h2.below u2
 clear u2 h2
 go_wp2_with fail
 go_ret
 exact ⟨rfl, h3⟩
theorem Ask_ok (h : Dk.Db W w bd bs rs us) (a : Int) (b : Nat) (c : Bool) (d : Nat) (hb : b < bs.length) (hw : Dk.waitsK rs a = false) (hok : Dk.Rq.ok ⟨a, b, c, d⟩) (hl : rs.length ≤ 1000) :
  Calls Tryz.prog 161 #[.pointer (some ⟨bd, 0, none⟩), .agg #[.int .i64 a, .int .i64 (b : Int), .bool c, .int .u64 (d : Nat)]] w fun e w' => e = .returned (.int .i64 0) ∧ Dk.Db W w' bd bs (rs ++ [⟨a, b, c, d⟩]) us := by
 obtain ⟨W1, e1⟩ : ∃ W1, W1 = w.alloc (.cells #[.int .i64 a, .int .i64 (b : Int), .bool c, .int .u64 (d : Nat)] 142) := ⟨_, rfl⟩
 have h1 := Db.newBox h e1
 have b1 : Dk.Box W1 w.heap.size #[.int .i64 a, .int .i64 (b : Int), .bool c, .int .u64 (d : Nat)] 142 := Db.box h1 (by simp)
 have c0 : W1.cell? ⟨w.heap.size, 0, none⟩ = some (.int .i64 a) := b1.cell 0
 have c1 : W1.cell? ⟨w.heap.size, 1, none⟩ = some (.int .i64 (b : Int)) := b1.cell 1
 have HE : Hid (w.alloc (.cells #[.int .i64 a, .int .i64 (b : Int), .bool c, .int .u64 (d : Nat)] 142) = W1) := e1.symm
 have K := Block_yes h1 b hb
 have K2 := waits_anyK h1 a
 rw [hw] at K2
 have HB : Hid (0 ≤ (b : Int) ∧ (b : Int) < bs.length) := ⟨by omega, by omega⟩
 clear e1 b1 h hb hw
 go_enter Tryz.func161, Tryz.ntmps161
 go_wp2_with (rw [HE.out]; clear HE)
 refine K.mono ?_
 rintro e w' ⟨rfl, hw'⟩
 subst w'
 go_wp2_with fail
 refine K2.mono ?_
 rintro e w2 ⟨rfl, u2⟩
 have h3 := h1.below u2
 clear u2 h1 K K2 c0 c1
 -- the drawn statement
 have h6 := h3.below (Dk.up_drew (Below.refl _ _))
 have b6 : Dk.Box w2.drew w.heap.size #[.int .i64 a, .int .i64 (b : Int), .bool c, .int .u64 (d : Nat)] 142 := Db.box h6 (by simp)
 obtain ⟨A, n, C, A', n', C', w7, k1, r1, d1, f1, h7⟩ := Db.more h6 ⟨a, b, c, d⟩ hok HB.out hl
 have b7 : Dk.Box w7 w.heap.size #[.int .i64 a, .int .i64 (b : Int), .bool c, .int .u64 (d : Nat)] 142 := by
  have hne : w.heap.size ≠ bd := by
   obtain ⟨v1, v2, t, _⟩ := Hid.out h6
   have q := (List.pairwise_cons.1 (Hid.out t).apart).1 (Dk.boxOf w.heap.size #[.int .i64 a, .int .i64 (b : Int), .bool c, .int .u64 (d : Nat)] 142) (by simp)
   exact fun e => q bd rfl e.symm
  have q : Dk.Box (w7.setCell ⟨bd, 1, none⟩ (.slice A' n' C')) w.heap.size #[.int .i64 a, .int .i64 (b : Int), .bool c, .int .u64 (d : Nat)] 142 := Db.box h7 (by simp)
  refine ⟨?_⟩
  have := q.heap
  rwa [Below.heap_setCell w7 ⟨bd, 1, none⟩ _ w.heap.size (fun e => hne (by simpa using e))] at this
 have HK : Hid (w2.drew.cell? ⟨bd, 1, none⟩ = some (.slice A n C) ∧ w2.drew.cell? ⟨w.heap.size, 0, none⟩ = some (.int .i64 a) ∧ w2.drew.cell? ⟨w.heap.size, 1, none⟩ = some (.int .i64 (b : Int)) ∧ w2.drew.cell? ⟨w.heap.size, 2, none⟩ = some (.bool c) ∧ w2.drew.cell? ⟨w.heap.size, 3, none⟩ = some (.int .u64 (d : Nat))) := ⟨k1, b6.cell 0, b6.cell 1, b6.cell 2, b6.cell 3⟩
 have HS : Hid (w7.cell? ⟨bd, 1, none⟩ = some (.slice A n C) ∧ w7.cell? ⟨w.heap.size, 0, none⟩ = some (.int .i64 a) ∧ w7.cell? ⟨w.heap.size, 1, none⟩ = some (.int .i64 (b : Int)) ∧ w7.cell? ⟨w.heap.size, 2, none⟩ = some (.bool c) ∧ w7.cell? ⟨w.heap.size, 3, none⟩ = some (.int .u64 (d : Nat))) := ⟨d1, b7.cell 0, b7.cell 1, b7.cell 2, b7.cell 3⟩
 have HF : Hid (w7.frozen? ⟨bd, 1, none⟩ = false) := f1
 have HR : Hid _ := r1
 have h8 := Db.drop h7
 obtain ⟨W7, e7⟩ : ∃ W7, W7 = w7.setCell ⟨bd, 1, none⟩ (.slice A' n' C') := ⟨_, rfl⟩
 rw [← e7] at h8
 have H7 : Hid (w7.setCell ⟨bd, 1, none⟩ (.slice A' n' C') = W7) := e7.symm
 clear h3 h6 h7 b6 b7 k1 r1 d1 f1 e7 hok HB
 go_wp2_with fail
 refine Dk.wp_region_lineZ (z := 10) (S := fun w' => w'.cell? ⟨bd, 1, none⟩ = some (.slice A n C) ∧ w'.cell? ⟨w.heap.size, 0, none⟩ = some (.int .i64 a) ∧ w'.cell? ⟨w.heap.size, 1, none⟩ = some (.int .i64 (b : Int)) ∧ w'.cell? ⟨w.heap.size, 2, none⟩ = some (.bool c) ∧ w'.cell? ⟨w.heap.size, 3, none⟩ = some (.int .u64 (d : Nat))) [0, 1, 2, 3, 4, 5] [6, 7, 8, 9, 10] (by kernel_rfl) (by kernel_rfl) (by kernel_rfl) HK.out ?_
 refine Dk.held_step (v := .pointer (some ⟨bd, 0, none⟩)) rfl rfl (fun w' hw' => by go_simp) ?_
 simp only [Act.put, zA, zB, zC]
 refine Dk.held_step (v := .pointer (some ⟨bd, 0, none⟩)) rfl rfl (fun w' hw' => by go_simp) ?_
 simp only [Act.put, zA, zB, zC]
 refine Dk.held_step (v := .pointer (some ⟨bd, 0, none⟩)) rfl rfl (fun w' hw' => by go_simp) ?_
 simp only [Act.put, zA, zB, zC]
 refine Dk.held_step (v := .pointer (some ⟨bd, 1, none⟩)) rfl rfl (fun w' hw' => by go_simp) ?_
 simp only [Act.put, zA, zB, zC]
 refine Dk.held_step (v := .slice A n C) rfl rfl (fun w' hw' => by have := hw'.1; go_simp) ?_
 simp only [Act.put, zA, zB, zC]
 refine Dk.held_step (v := .agg #[.int .i64 a, .int .i64 (b : Int), .bool c, .int .u64 (d : Nat)]) rfl rfl (fun w' hw' => by obtain ⟨_, q0, q1, q2, q3⟩ := hw'; go_simp) ?_
 simp only [Act.put, zA, zB, zC]
 obtain ⟨W6, e6⟩ : ∃ W6, W6 = w2.drew.alloc (.cells #[.int .i64 a, .int .i64 (b : Int), .bool c, .int .u64 (d : Nat)] 142) := ⟨_, rfl⟩
 have S6 : W6.cell? ⟨bd, 1, none⟩ = some (.slice A n C) ∧ W6.cell? ⟨w.heap.size, 0, none⟩ = some (.int .i64 a) ∧ W6.cell? ⟨w.heap.size, 1, none⟩ = some (.int .i64 (b : Int)) ∧ W6.cell? ⟨w.heap.size, 2, none⟩ = some (.bool c) ∧ W6.cell? ⟨w.heap.size, 3, none⟩ = some (.int .u64 (d : Nat)) := by
  rw [e6]
  obtain ⟨q, q0, q1, q2, q3⟩ := HK.out
  exact ⟨Lib.cell?_alloc_some _ q, Lib.cell?_alloc_some _ q0, Lib.cell?_alloc_some _ q1, Lib.cell?_alloc_some _ q2, Lib.cell?_alloc_some _ q3⟩
 refine Dk.lineZ_step (v := .slice (some ⟨w2.drew.heap.size, 0, none⟩) 1 1) (w' := W6) rfl rfl (by rw [e6]; go_simp) (fun _ => S6) ?_
 simp only [Act.put, zA, zB, zC]
 have r6 := HR.out
 rw [← e6, show w2.drew.heap.size = w2.heap.size from rfl] at r6
 refine Dk.lineZ_step (v := (.slice A' n' C')) (w' := w7) rfl rfl (by simp only [execOp, resolve, invoke, builtin]; simp [Act.eval, r6]) (fun _ => HS.out) ?_
 simp only [Act.put, zA, zB, zC]
 refine Dk.lineZ_step (v := .pointer (some ⟨bd, 0, none⟩)) (w' := w7) rfl rfl (by go_simp) (fun _ => HS.out) ?_
 simp only [Act.put, zA, zB, zC]
 refine Dk.lineZ_step (v := .pointer (some ⟨bd, 1, none⟩)) (w' := w7) rfl rfl (by go_simp) (fun _ => HS.out) ?_
 simp only [Act.put, zA, zB, zC]
 refine Dk.lineZ_skip (w' := W7) rfl rfl (by rw [← H7.out]; have q1 := HS.out.1; have q2 := HF.out; go_simp) (fun h => absurd rfl h) ?_
 simp only [Act.put, zA, zB, zC]
 rename_i hK
 refine hK _ _ ?_
 clear r6 S6 e6 HR HK HS HF H7 hK
 go_wp2_with fail
 go_ret
 exact ⟨rfl, h8⟩
end
end Go.Proofs.YtglhhlfopccmaaaGreat
namespace Dk
open Go
def Rq.said (r : Rq) (bs : List Nat) : Nat := if r.write then 0 else bs.getD r.block.toNat 0
def Rq.left (r : Rq) (bs : List Nat) : List Nat := if r.write then bs.set r.block.toNat r.x else bs
open Go Go.RowKit
def at_ (k : Int) (n : Nat) : Nat := (k % (n : Int)).toNat
theorem at_lt (k : Int) {n : Nat} (h : 0 < n) : at_ k n < n := by
 unfold at_
 have h1 := Int.emod_nonneg k (show (n : Int) ≠ 0 by omega)
 have h2 := Int.emod_lt_of_pos k (show (0 : Int) < n by omega)
 omega
theorem at_eq (k : Int) {n : Nat} (h : 0 < n) : (at_ k n : Int) = k % (n : Int) := by
 unfold at_
 have h1 := Int.emod_nonneg k (show (n : Int) ≠ 0 by omega)
 omega
theorem tmod_le (k : Int) {n : Nat} (h : 0 < n) : -(n : Int) < k.tmod n ∧ k.tmod n < n := by
 have h1 := Int.tmod_lt_of_pos k (show (0 : Int) < n by omega)
 have h2 := Int.lt_tmod_of_pos k (show (0 : Int) < n by omega)
 exact ⟨h2, h1⟩
theorem tmod_emod (k : Int) (n : Nat) : (k.tmod n) % (n : Int) = k % (n : Int) := by
 have h := Int.tmod_add_mul_tdiv k n
 conv => rhs; rw [← h]
 rw [Int.add_mul_emod_self_left]
theorem at_up (k : Int) {n : Nat} (h : 0 < n) : (k.tmod n + n) % (n : Int) = (at_ k n : Int) := by
 rw [at_eq k h, ← tmod_emod k n, Int.add_emod_right]
structure St where
 owner : List Int
 held : List Bool
 wait : List (List Int)
 conds : List (List (Int × Int))
 count : List Int
 downs : List (List Int)
def St.waits (S : St) (x : Int) : Bool := S.wait.any (·.contains x) || S.downs.any (·.contains x) || S.conds.any (fun l => l.any (fun p => p.1 == x))
def St.open (S : St) (n : Nat) (choice : Int) : St × Int × Bool :=
 let l := S.wait.getD n []
 if l.length = 0 then ({ S with held := S.held.set n false }, 0, false)
 else ({ S with owner := S.owner.set n (l.getD (at_ choice l.length) 0), wait := S.wait.set n (l.eraseIdx (at_ choice l.length)) }, l.getD (at_ choice l.length) 0, true)
def St.goes1 (S : St) (p : Int × Int) : St × List Int :=
 let n := p.2.toNat
 if S.held.getD n false then ({ S with wait := S.wait.set n (S.wait.getD n [] ++ [p.1]) }, [])
 else ({ S with held := S.held.set n true, owner := S.owner.set n p.1 }, [p.1])
def St.goes (S : St) : List (Int × Int) → St × List Int
 | [] => (S, [])
 | p :: r => ((S.goes1 p).1.goes r).1 |> fun T => (T, (S.goes1 p).2 ++ ((S.goes1 p).1.goes r).2)
def St.told (S : St) (c : Nat) (choice : Int) (all : Bool) : List (Int × Int) :=
 let l := S.conds.getD c []
 if all then l else if l.length = 0 then [] else [l.getD (at_ choice l.length) (0, 0)]
def St.kept (S : St) (c : Nat) (choice : Int) (all : Bool) : List (Int × Int) :=
 let l := S.conds.getD c []
 if all then [] else if l.length = 0 then [] else l.eraseIdx (at_ choice l.length)
def St.signal (S : St) (c : Nat) (choice : Int) (all : Bool) : St × List Int :=
 ({ S with conds := S.conds.set c (S.kept c choice all) }).goes (S.told c choice all)
def lens {α : Type} (l : List (List α)) : Nat := (l.map List.length).sum
def St.tot (S : St) : Nat := lens S.wait + lens S.conds + lens S.downs
theorem lens_mem {α : Type} : ∀ (l : List (List α)) (x : List α), x ∈ l → x.length ≤ lens l
 | [], x, h => absurd h (by simp)
 | y :: r, x, h => by
  unfold lens
  rw [List.map_cons, List.sum_cons]
  rcases List.mem_cons.1 h with rfl | h
  ·omega
  ·have := lens_mem r x h
   unfold lens at this
   omega
theorem lens_set {α : Type} : ∀ (l : List (List α)) (i : Nat) (y : List α), i < l.length → lens (l.set i y) + (l.getD i []).length = lens l + y.length
 | [], i, y, h => absurd h (by simp)
 | x :: r, 0, y, _ => by
  unfold lens
  simp
  omega
 | x :: r, i + 1, y, h => by
  have := lens_set r i y (by simpa using h)
  unfold lens at this ⊢
  simp only [List.set_cons_succ, List.map_cons, List.sum_cons, List.getD_cons_succ]
  omega
structure Ok (S : St) (k : Nat) : Prop where
 held : S.held.length = S.owner.length
 wait : S.wait.length = S.owner.length
 downs : S.downs.length = S.count.length
 most : S.owner.length ≤ 4 ∧ S.conds.length ≤ 4 ∧ S.count.length ≤ 4
 owner : ∀ x ∈ S.owner, i64 x
 waits : ∀ l ∈ S.wait, ∀ x ∈ l, i64 x
 downsI : ∀ l ∈ S.downs, ∀ x ∈ l, i64 x
 conds : ∀ l ∈ S.conds, ∀ p ∈ l, i64 p.1 ∧ 0 ≤ p.2 ∧ p.2 < S.owner.length
 count : ∀ x ∈ S.count, 0 ≤ x ∧ x ≤ 1048576
 tot : S.tot ≤ k
theorem getD_mem {α : Type} (l : List α) (d : α) (k : Nat) (h : k < l.length) : l.getD k d ∈ l := by simp [List.getD, h]
theorem Ok.waitLen {S : St} {k : Nat} (h : Ok S k) {l : List Int} (hl : l ∈ S.wait) : l.length ≤ k := by
 have := lens_mem _ _ hl
 have := h.tot
 unfold St.tot at this
 omega
theorem Ok.condLen {S : St} {k : Nat} (h : Ok S k) {l : List (Int × Int)} (hl : l ∈ S.conds) : l.length ≤ k := by
 have := lens_mem _ _ hl
 have := h.tot
 unfold St.tot at this
 omega
theorem Ok.downLen {S : St} {k : Nat} (h : Ok S k) {l : List Int} (hl : l ∈ S.downs) : l.length ≤ k := by
 have := lens_mem _ _ hl
 have := h.tot
 unfold St.tot at this
 omega
theorem mem_set {α : Type} {l : List α} {i : Nat} {y : α} {p : α → Prop} (h : ∀ x ∈ l, p x) (hy : p y) : ∀ x ∈ l.set i y, p x := fun x hx => by
 rcases List.mem_or_eq_of_mem_set hx with hx | rfl
 ·exact h x hx
 ·exact hy
theorem Ok.mono {S : St} {k k' : Nat} (h : Ok S k) (hk : k ≤ k') : Ok S k' := ⟨h.held, h.wait, h.downs, h.most, h.owner, h.waits, h.downsI, h.conds, h.count, Nat.le_trans h.tot hk⟩
theorem Ok.setHeld {S : St} {k : Nat} (h : Ok S k) (n : Nat) (b : Bool) : Ok { S with held := S.held.set n b } k := ⟨by rw [List.length_set]; exact h.held, h.wait, h.downs, h.most, h.owner, h.waits, h.downsI, h.conds, h.count, h.tot⟩
theorem Ok.setOwner {S : St} {k : Nat} (h : Ok S k) (n : Nat) (x : Int) (hx : i64 x) : Ok { S with owner := S.owner.set n x } k :=
 ⟨by show _ = (S.owner.set n x).length; rw [List.length_set]; exact h.held, by show _ = (S.owner.set n x).length; rw [List.length_set]; exact h.wait, h.downs, by show (S.owner.set n x).length ≤ 4 ∧ _; rw [List.length_set]; exact h.most, mem_set h.owner hx, h.waits, h.downsI, fun l hl p hp => by show _ ∧ _ ∧ _ < ((S.owner.set n x).length : Int); rw [List.length_set]; exact h.conds l hl p hp, h.count, h.tot⟩
theorem Ok.setWait {S : St} {k k' : Nat} (h : Ok S k) (n : Nat) (hn : n < S.wait.length) (l : List Int) (hl : ∀ x ∈ l, i64 x) (hk : k + l.length ≤ k' + (S.wait.getD n []).length) : Ok { S with wait := S.wait.set n l } k' :=
 ⟨h.held, by show (S.wait.set n l).length = _; rw [List.length_set]; exact h.wait, h.downs, h.most, h.owner, mem_set h.waits hl, h.downsI, h.conds, h.count, by
  have h1 := lens_set S.wait n l hn
  have h2 := h.tot
  unfold St.tot at h2 ⊢
  show lens (S.wait.set n l) + lens S.conds + lens S.downs ≤ k'
  omega⟩
theorem Ok.setDowns {S : St} {k k' : Nat} (h : Ok S k) (n : Nat) (hn : n < S.downs.length) (l : List Int) (hl : ∀ x ∈ l, i64 x) (hk : k + l.length ≤ k' + (S.downs.getD n []).length) : Ok { S with downs := S.downs.set n l } k' :=
 ⟨h.held, h.wait, by show (S.downs.set n l).length = _; rw [List.length_set]; exact h.downs, h.most, h.owner, h.waits, mem_set h.downsI hl, h.conds, h.count, by
  have h1 := lens_set S.downs n l hn
  have h2 := h.tot
  unfold St.tot at h2 ⊢
  show lens S.wait + lens S.conds + lens (S.downs.set n l) ≤ k'
  omega⟩
theorem Ok.setConds {S : St} {k k' : Nat} (h : Ok S k) (n : Nat) (hn : n < S.conds.length) (l : List (Int × Int)) (hl : ∀ p ∈ l, i64 p.1 ∧ 0 ≤ p.2 ∧ p.2 < S.owner.length) (hk : k + l.length ≤ k' + (S.conds.getD n []).length) : Ok { S with conds := S.conds.set n l } k' :=
 ⟨h.held, h.wait, h.downs, by show _ ∧ (S.conds.set n l).length ≤ 4 ∧ _; rw [List.length_set]; exact h.most, h.owner, h.waits, h.downsI, mem_set h.conds hl, h.count, by
  have h1 := lens_set S.conds n l hn
  have h2 := h.tot
  unfold St.tot at h2 ⊢
  show lens S.wait + lens (S.conds.set n l) + lens S.downs ≤ k'
  omega⟩
theorem Ok.setCount {S : St} {k : Nat} (h : Ok S k) (n : Nat) (x : Int) (hx : 0 ≤ x ∧ x ≤ 1048576) : Ok { S with count := S.count.set n x } k :=
 ⟨h.held, h.wait, by show _ = (S.count.set n x).length; rw [List.length_set]; exact h.downs, by show _ ∧ _ ∧ (S.count.set n x).length ≤ 4; rw [List.length_set]; exact h.most, h.owner, h.waits, h.downsI, h.conds, mem_set h.count hx, h.tot⟩
theorem erase_mem {α : Type} {l : List α} {i : Nat} {p : α → Prop} (h : ∀ x ∈ l, p x) : ∀ x ∈ l.eraseIdx i, p x := fun x hx => h x (List.mem_of_mem_eraseIdx hx)
theorem snoc_mem {α : Type} {l : List α} {y : α} {p : α → Prop} (h : ∀ x ∈ l, p x) (hy : p y) : ∀ x ∈ l ++ [y], p x := fun x hx => by
 rcases List.mem_append.1 hx with hx | hx
 ·exact h x hx
 ·rw [List.mem_singleton] at hx; rw [hx]; exact hy
theorem Ok.goes1 {S : St} {k : Nat} (h : Ok S k) (p : Int × Int) (hp : i64 p.1 ∧ 0 ≤ p.2 ∧ p.2 < S.owner.length) : Ok (S.goes1 p).1 (k + 1) ∧ (S.goes1 p).1.owner.length = S.owner.length := by
 have hn : p.2.toNat < S.wait.length := by have := h.wait; omega
 unfold St.goes1
 dsimp only
 split
 ·exact ⟨h.setWait _ hn _ (snoc_mem (h.waits _ (getD_mem _ _ _ hn)) hp.1) (by simp; omega), rfl⟩
 ·exact ⟨(((h.setOwner _ _ hp.1).setHeld _ true)).mono (by omega), List.length_set⟩
theorem goes_snoc : ∀ (l : List (Int × Int)) (S : St) (p : Int × Int), S.goes (l ++ [p]) = (((S.goes l).1.goes1 p).1, (S.goes l).2 ++ ((S.goes l).1.goes1 p).2)
 | [], S, p => by simp [St.goes]
 | q :: r, S, p => by
  rw [List.cons_append, St.goes, St.goes, goes_snoc r]
  simp
theorem Ok.goes : ∀ (l : List (Int × Int)) {S : St} {k : Nat}, Ok S k → (∀ p ∈ l, i64 p.1 ∧ 0 ≤ p.2 ∧ p.2 < S.owner.length) → Ok (S.goes l).1 (k + l.length) ∧ (S.goes l).1.owner.length = S.owner.length
 | [], S, k, h, _ => ⟨h, rfl⟩
 | p :: r, S, k, h, hp => by
  have h1 := h.goes1 p (hp p (by simp))
  have h2 := Ok.goes r h1.1 (fun q hq => by rw [h1.2]; exact hp q (by simp [hq]))
  rw [St.goes, List.length_cons]
  exact ⟨h2.1.mono (by omega), h2.2.trans h1.2⟩
theorem goes_len : ∀ (l : List (Int × Int)) (S : St), (S.goes l).2.length ≤ l.length
 | [], S => Nat.le_refl _
 | p :: r, S => by
  rw [St.goes, List.length_cons]
  have h1 := goes_len r (S.goes1 p).1
  have h2 : (S.goes1 p).2.length ≤ 1 := by
   unfold St.goes1
   dsimp only
   split <;> simp
  simp only [List.length_append]
  omega
theorem open_eq_none (S : St) (n : Nat) (ch : Int) (h : (S.wait.getD n []).length = 0) : S.open n ch = ({ S with held := S.held.set n false }, 0, false) := by
 unfold St.open
 simp only [h, if_true]
theorem open_eq_some (S : St) (n : Nat) (ch : Int) (l : List Int) (h : S.wait.getD n [] = l) (h0 : 0 < l.length) (a : Nat) (ha : at_ ch l.length = a) (x : Int) (hx : l.getD a 0 = x) : S.open n ch = ({ S with owner := S.owner.set n x, wait := S.wait.set n (l.eraseIdx a) }, x, true) := by
 unfold St.open
 have : ¬ l.length = 0 := by omega
 simp only [h, this, if_false, ha, hx]
def pr2 : List (Int × Int) → List Value
 | [] => []
 | p :: r => [Value.int .i64 p.1, .int .i64 p.2] ++ pr2 r
theorem pr2_append : ∀ ps qs, pr2 (ps ++ qs) = pr2 ps ++ pr2 qs
 | [], qs => rfl
 | p :: r, qs => by rw [List.cons_append, pr2, pr2, pr2_append r, List.append_assoc]
theorem pr2_get : ∀ (ps : List (Int × Int)) (k : Nat), k < ps.length → (pr2 ps)[k * 2]? = some (.int .i64 (ps.getD k (0, 0)).1) ∧ (pr2 ps)[k * 2 + 1]? = some (.int .i64 (ps.getD k (0, 0)).2)
 | [], k, h => absurd h (by simp)
 | p :: r, 0, _ => by simp [pr2]
 | p :: r, k + 1, h => by
  have := pr2_get r k (by simp at h; omega)
  rw [pr2, List.getElem?_append_right (by simp; omega), List.getElem?_append_right (by simp; omega)]
  simp only [List.length_cons, List.length_nil, List.getD_cons_succ]
  rw [show (k + 1) * 2 - (0 + 1 + 1) = k * 2 by omega, show (k + 1) * 2 + 1 - (0 + 1 + 1) = k * 2 + 1 by omega]
  exact this
theorem is_one (xs : List Int) : ∀ u ∈ is xs, u.oneCell' = true := fun u hu => by
 obtain ⟨y, _, rfl⟩ := List.mem_map.1 hu
 rfl
structure Vs where
 v0 : Value
 v1 : Value
 v2 : Value
 v3 : Value
 v4 : Value
 v5 : Value
 hv : List Value
 cv : List Value
 dv : List Value
theorem told_mem {S : St} {c : Nat} (hc : c < S.conds.length) (ch : Int) (all : Bool) : ∀ p ∈ S.told c ch all, p ∈ S.conds.getD c [] := by
 unfold St.told
 intro p hp
 simp only at hp
 split at hp
 ·exact hp
 ·split at hp
  ·simp at hp
  ·rename_i h
   rw [List.mem_singleton] at hp
   rw [hp]
   exact getD_mem _ _ _ (at_lt ch (by omega))
theorem Ok.signal {S : St} {k : Nat} (ok : Ok S k) (c : Nat) (hc : c < S.conds.length) (ch : Int) (all : Bool) : Ok (S.signal c ch all).1 k := by
 have hm := getD_mem S.conds [] c hc
 have hl := ok.condLen hm
 have hp := ok.conds _ hm
 have hto := told_mem hc ch all
 have hlen : (S.kept c ch all).length + (S.told c ch all).length ≤ (S.conds.getD c []).length ∧ ∀ p ∈ S.kept c ch all, p ∈ S.conds.getD c [] := by
  unfold St.kept St.told
  dsimp only
  split
  ·exact ⟨by simp, fun p hp => by simp at hp⟩
  ·split
   ·exact ⟨by simp, fun p hp => by simp at hp⟩
   ·rename_i h
    refine ⟨?_, fun p hp => List.mem_of_mem_eraseIdx hp⟩
    rw [List.length_eraseIdx, if_pos (at_lt ch (by omega)), List.length_singleton]
    omega
 have h1 := ok.setConds (k' := k - (S.told c ch all).length) c hc (S.kept c ch all) (fun p h => hp p (hlen.2 p h)) (by omega)
 have h2 := Ok.goes (S.told c ch all) h1 (fun p h => hp p (hto p h))
 exact h2.1.mono (by omega)
end Dk
namespace Go.Proofs.YtglhhlfopccmaaaGreat
open Go.RowKit
structure GateI (G0 : Nat → Dk.St → List Dk.Thing → Prop) : Prop where
 lock_arg : ∀ {W w : World} {b k : Nat} {S : Dk.St} {us ts : List Dk.Thing}, G0 b S ts → Dk.Sep W w (us ++ ts) → Dk.Ok S k → k ≤ 300 → ∀ who n : Int, (n < 0 ∨ (S.owner.length : Int) ≤ n) → Calls Tryz.prog 153 #[.pointer (some ⟨b, 0, none⟩), .int .i64 who, .int .i64 n] w fun e w' => e = .returned (.tuple #[.bool false, .int .i64 1]) ∧ ∃ ts', G0 b S ts' ∧ Dk.Sep W w' (us ++ ts')
 lock_busy : ∀ {W w : World} {b k : Nat} {S : Dk.St} {us ts : List Dk.Thing}, G0 b S ts → Dk.Sep W w (us ++ ts) → Dk.Ok S k → k ≤ 300 → ∀ (who : Int) (n : Nat), n < S.owner.length → (S.waits who = true ∨ (S.held.getD n false = true ∧ S.owner.getD n 0 = who)) → Calls Tryz.prog 153 #[.pointer (some ⟨b, 0, none⟩), .int .i64 who, .int .i64 (n : Int)] w fun e w' => e = .returned (.tuple #[.bool false, .int .i64 4]) ∧ ∃ ts', G0 b S ts' ∧ Dk.Sep W w' (us ++ ts')
 lock_wait : ∀ {W w : World} {b k : Nat} {S : Dk.St} {us ts : List Dk.Thing}, G0 b S ts → Dk.Sep W w (us ++ ts) → Dk.Ok S k → k ≤ 300 → ∀ (who : Int) (n : Nat), n < S.owner.length → Dk.i64 who → S.waits who = false → ¬ (S.held.getD n false = true ∧ S.owner.getD n 0 = who) → S.held.getD n false = true → Calls Tryz.prog 153 #[.pointer (some ⟨b, 0, none⟩), .int .i64 who, .int .i64 (n : Int)] w fun e w' => e = .returned (.tuple #[.bool false, .int .i64 0]) ∧ ∃ ts', G0 b { S with wait := S.wait.set n (S.wait.getD n [] ++ [who]) } ts' ∧ Dk.Sep W w' (us ++ ts')
 lock_yes : ∀ {W w : World} {b k : Nat} {S : Dk.St} {us ts : List Dk.Thing}, G0 b S ts → Dk.Sep W w (us ++ ts) → Dk.Ok S k → k ≤ 300 → ∀ (who : Int) (n : Nat), n < S.owner.length → Dk.i64 who → S.waits who = false → ¬ (S.held.getD n false = true ∧ S.owner.getD n 0 = who) → S.held.getD n false = false → Calls Tryz.prog 153 #[.pointer (some ⟨b, 0, none⟩), .int .i64 who, .int .i64 (n : Int)] w fun e w' => e = .returned (.tuple #[.bool true, .int .i64 0]) ∧ ∃ ts', G0 b { S with held := S.held.set n true, owner := S.owner.set n who } ts' ∧ Dk.Sep W w' (us ++ ts')
 unlock_arg : ∀ {W w : World} {b k : Nat} {S : Dk.St} {us ts : List Dk.Thing}, G0 b S ts → Dk.Sep W w (us ++ ts) → Dk.Ok S k → k ≤ 300 → ∀ who n ch : Int, (n < 0 ∨ (S.owner.length : Int) ≤ n) → Calls Tryz.prog 155 #[.pointer (some ⟨b, 0, none⟩), .int .i64 who, .int .i64 n, .int .i64 ch] w fun e w' => e = .returned (.tuple #[.int .i64 0, .bool false, .int .i64 1]) ∧ ∃ ts', G0 b S ts' ∧ Dk.Sep W w' (us ++ ts')
 unlock_owner : ∀ {W w : World} {b k : Nat} {S : Dk.St} {us ts : List Dk.Thing}, G0 b S ts → Dk.Sep W w (us ++ ts) → Dk.Ok S k → k ≤ 300 → ∀ (who : Int) (n : Nat) (ch : Int), n < S.owner.length → (S.held.getD n false = false ∨ S.owner.getD n 0 ≠ who) → Calls Tryz.prog 155 #[.pointer (some ⟨b, 0, none⟩), .int .i64 who, .int .i64 (n : Int), .int .i64 ch] w fun e w' => e = .returned (.tuple #[.int .i64 0, .bool false, .int .i64 5]) ∧ ∃ ts', G0 b S ts' ∧ Dk.Sep W w' (us ++ ts')
 unlock_ok : ∀ {W w : World} {b k : Nat} {S : Dk.St} {us ts : List Dk.Thing}, G0 b S ts → Dk.Sep W w (us ++ ts) → Dk.Ok S k → k ≤ 300 → ∀ (who : Int) (n : Nat) (ch : Int), n < S.owner.length → Dk.i64 ch → S.held.getD n false = true → S.owner.getD n 0 = who → Calls Tryz.prog 155 #[.pointer (some ⟨b, 0, none⟩), .int .i64 who, .int .i64 (n : Int), .int .i64 ch] w fun e w' => e = .returned (.tuple #[.int .i64 (S.open n ch).2.1, .bool (S.open n ch).2.2, .int .i64 0]) ∧ ∃ ts', G0 b (S.open n ch).1 ts' ∧ Dk.Sep W w' (us ++ ts')
 wait_arg : ∀ {W w : World} {b k : Nat} {S : Dk.St} {us ts : List Dk.Thing}, G0 b S ts → Dk.Sep W w (us ++ ts) → Dk.Ok S k → k ≤ 300 → ∀ who c n ch : Int, ((c < 0 ∨ (S.conds.length : Int) ≤ c) ∨ (n < 0 ∨ (S.owner.length : Int) ≤ n)) → Calls Tryz.prog 157 #[.pointer (some ⟨b, 0, none⟩), .int .i64 who, .int .i64 c, .int .i64 n, .int .i64 ch] w fun e w' => e = .returned (.tuple #[.int .i64 0, .bool false, .int .i64 1]) ∧ ∃ ts', G0 b S ts' ∧ Dk.Sep W w' (us ++ ts')
 wait_busy : ∀ {W w : World} {b k : Nat} {S : Dk.St} {us ts : List Dk.Thing}, G0 b S ts → Dk.Sep W w (us ++ ts) → Dk.Ok S k → k ≤ 300 → ∀ (who : Int) (c n : Nat) (ch : Int), c < S.conds.length → n < S.owner.length → S.waits who = true → Calls Tryz.prog 157 #[.pointer (some ⟨b, 0, none⟩), .int .i64 who, .int .i64 (c : Int), .int .i64 (n : Int), .int .i64 ch] w fun e w' => e = .returned (.tuple #[.int .i64 0, .bool false, .int .i64 4]) ∧ ∃ ts', G0 b S ts' ∧ Dk.Sep W w' (us ++ ts')
 wait_owner : ∀ {W w : World} {b k : Nat} {S : Dk.St} {us ts : List Dk.Thing}, G0 b S ts → Dk.Sep W w (us ++ ts) → Dk.Ok S k → k ≤ 300 → ∀ (who : Int) (c n : Nat) (ch : Int), c < S.conds.length → n < S.owner.length → S.waits who = false → (S.held.getD n false = false ∨ S.owner.getD n 0 ≠ who) → Calls Tryz.prog 157 #[.pointer (some ⟨b, 0, none⟩), .int .i64 who, .int .i64 (c : Int), .int .i64 (n : Int), .int .i64 ch] w fun e w' => e = .returned (.tuple #[.int .i64 0, .bool false, .int .i64 5]) ∧ ∃ ts', G0 b S ts' ∧ Dk.Sep W w' (us ++ ts')
 wait_ok : ∀ {W w : World} {b k : Nat} {S : Dk.St} {us ts : List Dk.Thing}, G0 b S ts → Dk.Sep W w (us ++ ts) → Dk.Ok S k → k ≤ 300 → ∀ (who : Int) (c n : Nat) (ch : Int), c < S.conds.length → n < S.owner.length → Dk.i64 who → Dk.i64 ch → S.waits who = false → S.held.getD n false = true → S.owner.getD n 0 = who → Calls Tryz.prog 157 #[.pointer (some ⟨b, 0, none⟩), .int .i64 who, .int .i64 (c : Int), .int .i64 (n : Int), .int .i64 ch] w fun e w' => e = .returned (.tuple #[.int .i64 (S.open n ch).2.1, .bool (S.open n ch).2.2, .int .i64 0]) ∧ ∃ ts', G0 b { (S.open n ch).1 with conds := S.conds.set c (S.conds.getD c [] ++ [(who, (n : Int))]) } ts' ∧ Dk.Sep W w' (us ++ ts')
 signal_arg : ∀ {W w : World} {b k : Nat} {S : Dk.St} {us ts : List Dk.Thing}, G0 b S ts → Dk.Sep W w (us ++ ts) → Dk.Ok S k → k ≤ 300 → ∀ (c ch : Int) (all : Bool), (c < 0 ∨ (S.conds.length : Int) ≤ c) → Calls Tryz.prog 204 #[.pointer (some ⟨b, 0, none⟩), .int .i64 c, .int .i64 ch, .bool all] w fun e w' => (∃ A C, e = .returned (.tuple #[.slice A 0 C, .int .i64 1])) ∧ ∃ ts', G0 b S ts' ∧ Dk.Sep W w' (us ++ ts')
 signal_ok : ∀ {W w : World} {b k : Nat} {S : Dk.St} {us ts : List Dk.Thing}, G0 b S ts → Dk.Sep W w (us ++ ts) → Dk.Ok S k → k ≤ 300 → ∀ (c : Nat) (ch : Int) (all : Bool), c < S.conds.length → Dk.i64 ch → Calls Tryz.prog 204 #[.pointer (some ⟨b, 0, none⟩), .int .i64 (c : Int), .int .i64 ch, .bool all] w fun e w' => ∃ A C, e = .returned (.tuple #[.slice A (S.signal c ch all).2.length C, .int .i64 0]) ∧ ∃ ts', G0 b (S.signal c ch all).1 ts' ∧ Dk.Sep W w' (Dk.rowOf 3 1 (.slice A (S.signal c ch all).2.length C) (S.signal c ch all).2.length (Dk.is (S.signal c ch all).2) :: us ++ ts')
 down_arg : ∀ {W w : World} {b k : Nat} {S : Dk.St} {us ts : List Dk.Thing}, G0 b S ts → Dk.Sep W w (us ++ ts) → Dk.Ok S k → k ≤ 300 → ∀ who n : Int, (n < 0 ∨ (S.count.length : Int) ≤ n) → Calls Tryz.prog 158 #[.pointer (some ⟨b, 0, none⟩), .int .i64 who, .int .i64 n] w fun e w' => e = .returned (.tuple #[.bool false, .int .i64 1]) ∧ ∃ ts', G0 b S ts' ∧ Dk.Sep W w' (us ++ ts')
 down_busy : ∀ {W w : World} {b k : Nat} {S : Dk.St} {us ts : List Dk.Thing}, G0 b S ts → Dk.Sep W w (us ++ ts) → Dk.Ok S k → k ≤ 300 → ∀ (who : Int) (n : Nat), n < S.count.length → S.waits who = true → Calls Tryz.prog 158 #[.pointer (some ⟨b, 0, none⟩), .int .i64 who, .int .i64 (n : Int)] w fun e w' => e = .returned (.tuple #[.bool false, .int .i64 4]) ∧ ∃ ts', G0 b S ts' ∧ Dk.Sep W w' (us ++ ts')
 down_yes : ∀ {W w : World} {b k : Nat} {S : Dk.St} {us ts : List Dk.Thing}, G0 b S ts → Dk.Sep W w (us ++ ts) → Dk.Ok S k → k ≤ 300 → ∀ (who : Int) (n : Nat), n < S.count.length → S.waits who = false → 0 < S.count.getD n 0 → Calls Tryz.prog 158 #[.pointer (some ⟨b, 0, none⟩), .int .i64 who, .int .i64 (n : Int)] w fun e w' => e = .returned (.tuple #[.bool true, .int .i64 0]) ∧ ∃ ts', G0 b { S with count := S.count.set n (S.count.getD n 0 - 1) } ts' ∧ Dk.Sep W w' (us ++ ts')
 down_wait : ∀ {W w : World} {b k : Nat} {S : Dk.St} {us ts : List Dk.Thing}, G0 b S ts → Dk.Sep W w (us ++ ts) → Dk.Ok S k → k ≤ 300 → ∀ (who : Int) (n : Nat), n < S.count.length → Dk.i64 who → S.waits who = false → ¬ 0 < S.count.getD n 0 → Calls Tryz.prog 158 #[.pointer (some ⟨b, 0, none⟩), .int .i64 who, .int .i64 (n : Int)] w fun e w' => e = .returned (.tuple #[.bool false, .int .i64 0]) ∧ ∃ ts', G0 b { S with downs := S.downs.set n (S.downs.getD n [] ++ [who]) } ts' ∧ Dk.Sep W w' (us ++ ts')
 up_arg : ∀ {W w : World} {b k : Nat} {S : Dk.St} {us ts : List Dk.Thing}, G0 b S ts → Dk.Sep W w (us ++ ts) → Dk.Ok S k → k ≤ 300 → ∀ n ch : Int, (n < 0 ∨ (S.count.length : Int) ≤ n) → Calls Tryz.prog 159 #[.pointer (some ⟨b, 0, none⟩), .int .i64 n, .int .i64 ch] w fun e w' => e = .returned (.tuple #[.int .i64 0, .bool false, .int .i64 1]) ∧ ∃ ts', G0 b S ts' ∧ Dk.Sep W w' (us ++ ts')
 up_some : ∀ {W w : World} {b k : Nat} {S : Dk.St} {us ts : List Dk.Thing}, G0 b S ts → Dk.Sep W w (us ++ ts) → Dk.Ok S k → k ≤ 300 → ∀ (n : Nat) (ch : Int), n < S.count.length → Dk.i64 ch → 0 < (S.downs.getD n []).length → Calls Tryz.prog 159 #[.pointer (some ⟨b, 0, none⟩), .int .i64 (n : Int), .int .i64 ch] w fun e w' => e = .returned (.tuple #[.int .i64 ((S.downs.getD n []).getD (Dk.at_ ch (S.downs.getD n []).length) 0), .bool true, .int .i64 0]) ∧ ∃ ts', G0 b { S with downs := S.downs.set n ((S.downs.getD n []).eraseIdx (Dk.at_ ch (S.downs.getD n []).length)) } ts' ∧ Dk.Sep W w' (us ++ ts')
 up_full : ∀ {W w : World} {b k : Nat} {S : Dk.St} {us ts : List Dk.Thing}, G0 b S ts → Dk.Sep W w (us ++ ts) → Dk.Ok S k → k ≤ 300 → ∀ (n : Nat) (ch : Int), n < S.count.length → (S.downs.getD n []).length = 0 → S.count.getD n 0 = 1048576 → Calls Tryz.prog 159 #[.pointer (some ⟨b, 0, none⟩), .int .i64 (n : Int), .int .i64 ch] w fun e w' => e = .returned (.tuple #[.int .i64 0, .bool false, .int .i64 2]) ∧ ∃ ts', G0 b S ts' ∧ Dk.Sep W w' (us ++ ts')
 up_more : ∀ {W w : World} {b k : Nat} {S : Dk.St} {us ts : List Dk.Thing}, G0 b S ts → Dk.Sep W w (us ++ ts) → Dk.Ok S k → k ≤ 300 → ∀ (n : Nat) (ch : Int), n < S.count.length → (S.downs.getD n []).length = 0 → S.count.getD n 0 ≠ 1048576 → Calls Tryz.prog 159 #[.pointer (some ⟨b, 0, none⟩), .int .i64 (n : Int), .int .i64 ch] w fun e w' => e = .returned (.tuple #[.int .i64 0, .bool false, .int .i64 0]) ∧ ∃ ts', G0 b { S with count := S.count.set n (S.count.getD n 0 + 1) } ts' ∧ Dk.Sep W w' (us ++ ts')
end Go.Proofs.YtglhhlfopccmaaaGreat
