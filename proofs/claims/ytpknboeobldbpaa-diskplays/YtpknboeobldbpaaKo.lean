/- The layer's small calls: who waits, a new disk, what a block has; the things beside a disk. -/
import Derived.Shelf.SlicesQ.IndexFunc
import Derived.Test.YtpknboeobldbpaaKd
import Derived.Test.YtpknboeobldbpaaUp
import Derived.Test.YtpknboeobldbpaaQz
import Derived.Laws.OwnMore
import Derived.OwnWalk
import Derived.KernelRfl
namespace Go.Proofs
open Go.Shelf
def Try.l17_ren : Go.Shelf.Ren := ⟨fun | 8 => 17 | 6 => 19 | n => n, fun | 22 => 26 | 23 => 29 | 25 => 52 | 4 => 4 | 3 => 3 | 0 => 0 | n => n, fun | n => n⟩
theorem Try.l17 : Go.Proofs.SlLaysH0.n8 Try.prog Try.l17_ren := {
  mixed := by kernel_rfl
  f6 := ⟨Try.f19.name, by decide, Try.func19.trans (congrArg some (by kernel_rfl))⟩
  f8 := ⟨Try.f17.name, by decide, Try.func17.trans (congrArg some (by kernel_rfl))⟩
  t0 := Try.underlying0
  a0 := Try.isAgg0
  z0 := Try.sizeOf0
  v0 := Try.zeroValue0
  t3 := Try.underlying3
  a3 := Try.isAgg3
  z3 := Try.sizeOf3
  v3 := Try.zeroValue3
  t4 := Try.underlying4
  a4 := Try.isAgg4
  z4 := Try.sizeOf4
  v4 := Try.zeroValue4
  t22 := Try.underlying26
  a22 := Try.isAgg26
  z22 := Try.sizeOf26
  v22 := Try.zeroValue26
  t25 := Try.underlying52
  a25 := Try.isAgg52
  z25 := Try.sizeOf52
  v25 := Try.zeroValue52 }
end Go.Proofs

namespace Go.Proofs.Ytpknboeobldbpaa
set_option linter.unusedSimpArgs false
set_option linter.unusedVariables false
set_option linter.unnecessarySimpa false
open Go.RowKit Go.Lib

theorem wp_run {P : Program} {o : Oper} {a : Act} {w w' : World} {v : Value} {K : Act → World → Prop} {Q : Exit → Act → World → Prop} (h : (execOp a.eval o).run P w = .ok (.value v) w') (hK : K (a.put o.dst v) w') : o.wp P a w K Q := by
  unfold Oper.wp
  rw [h]
  exact hK
theorem wp_skip {P : Program} {o : Oper} {a : Act} {w w' : World} {K : Act → World → Prop} {Q : Exit → Act → World → Prop} (h : (execOp a.eval o).run P w = .ok .skip w') (hK : K (a.put o.dst undef) w') : o.wp P a w K Q := by
  unfold Oper.wp
  rw [h]
  exact hK
theorem Dk.Away.row {S : Nat → Prop} {w w' : World} {b : Nat} (h : Dk.Away S w w') (hb : S b ∨ w.heap.size ≤ b) (cs : Array Value) : Dk.Away S w (w'.setRow b cs) :=
  ⟨h.os, h.tape, h.output, by simp [World.setRow]; exact h.size, fun k hk hn => (setRow_other w' b k cs (fun e => by subst e; exact hb.elim hn (fun h1 => absurd hk (by omega)))).trans (h.block k hk hn)⟩
theorem up_row {w w' : World} {b : Nat} (h : Below w.heap.size w w') (hb : w.heap.size ≤ b) (cs : Array Value) : Below w.heap.size w (w'.setRow b cs) :=
  ⟨h.os, h.tape, h.output, by simp [World.setRow]; exact h.size, fun k hk => (setRow_other w' b k cs (by omega)).trans (h.block k hk)⟩
theorem owns_up {w w' : World} {base : Nat} {e : TypeId} {size : Nat} {v : Value} {n : Nat} {xs : List Value} (h : w.ownsRow base e size v n xs) (u : Below w.heap.size w w') : w'.ownsRow base e size v n xs := Dk.owns_away h (Dk.Away.of_up (S := fun _ => False) u) (fun _ _ e => e)
theorem rq_cells (a b : Int) (c : Bool) (d : Int) : (#[.int .i64 a, .int .i64 b, .bool c, .int .u64 d] : Array Value).all (·.oneCell') = true := by simp [Value.oneCell']
theorem rq_size : (Try.prog.info? 29).map (·.size) = some 4 := by kernel_rfl
theorem K25 : Dk.SlK Try.prog 25 27 (.int .u64 0) 1 8 := ⟨Try.underlying25, info27, rfl, by decide, by decide⟩
theorem K26 : Dk.SlK Try.prog 26 29 (.agg #[.int .i64 0, .int .i64 0, .bool false, .int .u64 0]) 4 32 := ⟨Try.underlying26, info29, rfl, by decide, by decide⟩

/-- The closure: is it theirs? -/
theorem theirs (x : Int) (b : Nat) (w : World) (hb : b < w.heap.size) (hcell : w.cell? ⟨b, 0, none⟩ = some (.int .i64 x)) :
    PredBelow Try.prog 18 #[.pointer (some ⟨b, 0, none⟩)] (fun p => .agg (Dk.Rq.cells p).toArray) (fun p => p.who == x) w := fun W p hB => by
  have hc : W.cell? ⟨b, 0, none⟩ = some (.int .i64 x) := (hB.cell (p := ⟨b, 0, none⟩) hb).trans hcell
  have hbW : b < W.heap.size := Nat.lt_of_lt_of_le hb hB.size
  have hne : b ≠ W.heap.size := by omega
  show Calls Try.prog 18 #[.agg #[.int .i64 p.who, .int .i64 p.block, .bool p.write, .int .u64 (p.x : Nat)], .pointer (some ⟨b, 0, none⟩)] W _
  go_enter Try.func18, Try.ntmps18
  go_wp2
  all_goals (go_ret; exact ⟨by simp_all, hB.alloc hB.size _⟩)

theorem IndexFunc_none (fv : Value) (w : World) : Calls Try.prog 19 #[.slice none 0 0, fv] w fun e w' => e = .returned (.int .i64 (-1)) ∧ w' = w := by
  go_enter Try.func19, Try.ntmps19
  go_wp2
  go_loopw [8] (fun i w' => i = .int .i64 0 ∧ Hid (w' = w)) (fun i w' => 0)
  case atStart => exact ⟨rfl, rfl⟩
  case round =>
    obtain ⟨rfl, HW⟩ := hrel
    go_wp2
    go_ret
    exact ⟨rfl, HW.out⟩
theorem ContainsFunc_none (fv : Value) (w : World) : Calls Try.prog 17 #[.slice none 0 0, fv] w fun e w' => e = .returned (.bool false) ∧ w' = w := by
  go_enter Try.func17, Try.ntmps17
  go_wp2_with (go_at_call 19; refine (IndexFunc_none _ _).mono ?_; rintro e w' ⟨rfl, hw'⟩; subst w')
  go_ret
  exact ⟨rfl, rfl⟩
theorem ContainsFunc_any (B : Nat) (v : Value) (ps : List Dk.Rq) (x : Int) (b : Nat) (w : World) (h : w.ownsRow B 29 4 v ps.length (Dk.rqs ps)) (hb : b < w.heap.size) (hcell : w.cell? ⟨b, 0, none⟩ = some (.int .i64 x)) :
    Calls Try.prog 17 #[v, .func (.func 18) #[] #[.pointer (some ⟨b, 0, none⟩)]] w fun e w' => e = .returned (.bool (ps.any fun p => p.who == x)) ∧ Below w.heap.size w w' := by
  obtain ⟨hl, ⟨rfl, h0⟩ | ⟨g, cap, cur, rfl, hgb, hg, hn, hm, hs, ht⟩⟩ := id h
  · obtain rfl : ps = [] := List.eq_nil_of_length_eq_zero h0
    refine (ContainsFunc_none _ w).mono ?_
    rintro e w' ⟨rfl, rfl⟩
    exact ⟨rfl, Below.refl _ _⟩
  · have eg : ∀ args w, (callFunc 18 args).run Try.prog w = .ok (.enter 18 args) w := enters_of Try.func18 (by kernel_rfl) rfl
    unfold maxLen at hm
    have hcells := h.cells (g := g) rfl
    have : Inhabited Dk.Rq := ⟨Dk.Rq.zero⟩
    have hcon := AnyQ.slices_ContainsFunc Try.l17 4 Try.isAgg29 Try.sizeOf29 Dk.Rq.cells (fun _ => rfl) (fun p => p.who == x) 18 #[.pointer (some ⟨b, 0, none⟩)] eg g 0 ps.length cap ps w (theirs x b w hb hcell) (Nat.le_refl _) (by omega) (Array.getElem?_eq_some_iff.1 hg).1 (fun j hj i u hi => by
      have hi4 : i < 4 := by
        have := (List.getElem?_eq_some_iff.1 hi).1
        simpa [Dk.Rq.cells] using this
      have h1 := Dk.rqs_get ps j hj i hi4
      have e0 : ps[j]! = ps.getD j Dk.Rq.zero := by simp [List.getD, hj]
      rw [e0] at hi
      have := hcells (j * 4 + i) u (h1.trans hi)
      rw [Addr.add_lit] at this
      rw [Nat.add_assoc]
      exact this)
    rw [List.take_length] at hcon
    exact hcon

section
variable {W w w' : World} {bd : Nat} {bs : List Nat} {rs : List Dk.Rq} {us us' us1 us2 : List Dk.Thing}
/-- Whatever is done with what lies beside a disk. -/
theorem Db.map (h : Dk.Db W w bd bs rs us) (f : ∀ ts, Dk.Sep W w (us ++ ts) → Dk.Sep W w' (us' ++ ts)) : Dk.Db W w' bd bs rs us' := by
  obtain ⟨v1, v2, t, ft⟩ := Hid.out h
  refine ⟨v1, v2, ?_, ft⟩
  have p := f [Dk.boxOf bd #[v1, v2] 46, Dk.rowOf 27 1 v1 bs.length (Dk.uw bs), Dk.rowOf 29 4 v2 rs.length (Dk.rqs rs)] (Dk.Sep.perm t (List.perm_append_comm (l₁ := [_, _, _])))
  exact Dk.Sep.perm p List.perm_append_comm
theorem Db.get {t : Dk.Thing} (h : Dk.Db W w bd bs rs us) (ht : t ∈ us) : t.holds w := by
  obtain ⟨v1, v2, q, ft⟩ := Hid.out h
  exact Dk.Sep.get q (by simp [Dk.disk, ht])
theorem Db.row {e : TypeId} {s n : Nat} {v : Value} {xs : List Value} (h : Dk.Db W w bd bs rs us) (ht : Dk.rowOf e s v n xs ∈ us) : w.ownsRow W.heap.size e s v n xs := by
  obtain ⟨v1, v2, q, ft⟩ := Hid.out h
  exact Dk.Sep.row q (by simp [Dk.disk, ht])
theorem Db.box {b : Nat} {cs : Array Value} {e : TypeId} (h : Dk.Db W w bd bs rs us) (ht : Dk.boxOf b cs e ∈ us) : Dk.Box w b cs e := Db.get h ht
theorem Db.drop {t : Dk.Thing} (h : Dk.Db W w bd bs rs (t :: us)) : Dk.Db W w bd bs rs us := Db.map h (fun ts s => s.sub (List.sublist_cons_self _ _))
theorem Db.swap {t t' : Dk.Thing} (h : Dk.Db W w bd bs rs (t :: t' :: us)) : Dk.Db W w bd bs rs (t' :: t :: us) := Db.map h (fun ts s => s.perm (List.Perm.swap _ _ _))
theorem Db.newBox {cs : Array Value} {e : TypeId} (h : Dk.Db W w bd bs rs us) (ew : w' = w.alloc (.cells cs e)) : Dk.Db W w' bd bs rs (Dk.boxOf w.heap.size cs e :: us) := Db.map h (fun ts s => s.newBox ew)
theorem Db.setRow {b : Nat} {cs cs' : Array Value} {e : TypeId} (h : Dk.Db W w bd bs rs (Dk.boxOf b cs e :: us)) (ew : w' = w.setRow b cs') : Dk.Db W w' bd bs rs (Dk.boxOf b cs' e :: us) := by
  have hb : Dk.Box w b cs e := Db.box h (by simp)
  subst ew
  exact Db.map h (fun ts s => Dk.Sep.turn (us1 := []) (t' := Dk.boxOf b cs' e) s (Dk.Away.row (S := (Dk.boxOf b cs e).own) (Dk.Away.refl _ _) (.inl rfl) _) hb.row (fun k hk => .inl hk))
theorem Db.empty {e : TypeId} {s : Nat} (h : Dk.Db W w bd bs rs us) (ew : w' = w.alloc (.cells #[] e)) : Dk.Db W w' bd bs rs (Dk.rowOf e s (.slice (some ⟨w.heap.size, 0, none⟩) 0 0) 0 [] :: us) := Db.map h (fun ts s => s.empty ew)
theorem Db.fresh {t t' : Dk.Thing} (h : Dk.Db W w bd bs rs (us1 ++ t :: us2)) (b : Below w.heap.size w w') (hh : t'.holds w') (hn : ∀ k, t'.own k → w.heap.size ≤ k) : Dk.Db W w' bd bs rs (us1 ++ t' :: us2) :=
  Db.map h (fun ts s => by
    rw [List.append_assoc, List.cons_append] at s ⊢
    exact s.fresh b hh hn)
theorem Db.turn {t t' : Dk.Thing} (h : Dk.Db W w bd bs rs (us1 ++ t :: us2)) (a : Dk.Away t.own w w') (hh : t'.holds w') (hn : ∀ k, t'.own k → t.own k ∨ w.heap.size ≤ k) : Dk.Db W w' bd bs rs (us1 ++ t' :: us2) :=
  Db.map h (fun ts s => by
    rw [List.append_assoc, List.cons_append] at s ⊢
    exact s.turn a hh hn)

/-- Does someone wait? -/
def Dk.waits (rs : List Dk.Rq) (x : Int) : Bool := rs.any fun p => p.who == x

set_option maxHeartbeats 1000000 in
theorem waits_any (h : Dk.Db W w bd bs rs us) (x : Int) :
    Calls Try.prog 15 #[.pointer (some ⟨bd, 0, none⟩), .int .i64 x] w fun e w' => e = .returned (.bool (Dk.waits rs x)) ∧ Below w.heap.size w w' := by
  obtain ⟨v1, v2, t, f⟩ := Hid.out h
  obtain ⟨W1, e1⟩ : ∃ W1, W1 = w.alloc (.cells #[.int .i64 x] 3) := ⟨_, rfl⟩
  have u1 : Below w.heap.size w W1 := by rw [e1]; exact Dk.up_alloc (Below.refl _ _) _
  have b1 : Dk.Box W1 w.heap.size #[.int .i64 x] 3 := by rw [e1]; exact Dk.Box.new _ _ _
  have t1 := t.below u1
  obtain ⟨A2, C2, ev2, _, _⟩ := Dk.owns_slice t.row2
  have k2 : W1.cell? ⟨bd, 1, none⟩ = some (.slice A2 rs.length C2) := by rw [← ev2]; exact t1.head.cell 1
  have c2 : Calls Try.prog 17 #[.slice A2 rs.length C2, .func (.func 18) #[] #[.pointer (some ⟨w.heap.size, 0, none⟩)]] W1 fun e w' => e = .returned (.bool (Dk.waits rs x)) ∧ Below W1.heap.size W1 w' := by
    rw [← ev2]
    exact ContainsFunc_any _ _ rs x w.heap.size _ t1.row2 b1.lt (b1.cell 0)
  have HU : Hid (Below w.heap.size w W1) := u1
  have HE : Hid (w.alloc (.cells #[.int .i64 x] 3) = W1) := e1.symm
  clear ev2 t t1 f b1 h u1 e1
  go_enter Try.func15, Try.ntmps15
  go_wp2_with (rw [HE.out]; clear HE)
  refine c2.mono ?_
  rintro e w' ⟨rfl, hb⟩
  go_wp2_with fail
  go_ret
  exact ⟨rfl, Dk.up_call HU.out hb⟩

/-- How many blocks. -/
def Dk.blocks (n : Int) : Nat := if n < 0 then 0 else if 64 < n then 64 else n.toNat
theorem Dk.blocks_eq (n : Int) : min (max n 0) 64 = (Dk.blocks n : Int) := by
  unfold Dk.blocks
  split
  · omega
  · split <;> omega
theorem Dk.blocks_le (n : Int) : Dk.blocks n ≤ 64 := by
  unfold Dk.blocks
  split
  · omega
  · split <;> omega

/-- Words that are made. -/
theorem Sep.made (h : Dk.Sep W w us) (n : Nat) (hn : n ≤ 1000) : ∃ w', (Instr.makeSlice 25 (.int .i64 (n : Int)) (.int .i64 (n : Int))).run Try.prog w = .ok (.slice (some ⟨w.heap.size, 0, none⟩) n n) w' ∧ Dk.Sep W w' (Dk.rowOf 27 1 (.slice (some ⟨w.heap.size, 0, none⟩) n n) n (Dk.uw (List.replicate n 0)) :: us) ∧ w'.heap.size = w.heap.size + 1 := by
  obtain ⟨i0, hi0, hz0, hz1, hz2⟩ := info_parts info27
  have hr := run_make (P := Try.prog) w 25 27 i0 (.int .u64 0) Try.underlying25 hi0 hz0 .i64 .i64 n n (by omega) (Int.le_refl _) (by rw [hz2]; omega) (by omega)
  simp only [Int.toNat_natCast] at hr
  rw [hz1] at hr
  refine ⟨_, hr, h.add (Dk.up_alloc (Below.refl _ _) _) ?_ (fun k hk => by simp [Dk.rowOf, Value.ownBlock] at hk; omega), by simp⟩
  have e : (madeCells (Value.int .u64 0).cells (n * 1)).toList = Dk.uw (List.replicate n 0) := by
    apply List.ext_getElem?
    intro i
    by_cases hi : i < n
    · simp [madeCells, Dk.uw, hi, Value.cells]
      simp [Nat.mod_one]
    · rw [List.getElem?_eq_none (by simp [madeCells]; omega), List.getElem?_eq_none (by simp; omega)]
  have := World.ownsRow_lit w (e := 27) (size := 1) (base := 0) (madeCells (Value.int .u64 0).cells (n * 1)) n (Nat.zero_le _) (by unfold maxLen; omega) (size_madeCells _ _)
  rw [e] at this
  exact this
end
end Go.Proofs.Ytpknboeobldbpaa
