/- The walk of the statement on registers. -/
import Derived.Test.YtmapmhcmeokahaaLawa
import Derived.Laws.Tables
import Derived.Laws.CopyOwn
namespace Go.Proofs.Ytmapmhcmeokahaa
set_option linter.unusedSimpArgs false
set_option linter.unusedVariables false
set_option linter.unnecessarySimpa false
open Go.RowKit

theorem bad_a {p : Dk.Prg} {i : Dk.Ins} {n : Int} (hi : i.ok) (hm : Dk.i64 p.mutexes) (hn : Dk.i64 n) (h : n < 0 ∨ 7 < n) : Dk.soundB p ⟨i.op, n, i.b, i.c, i.n⟩ = false := by
  rw [← Bool.not_eq_true]
  intro hs
  have := (sound_regs (i := ⟨i.op, n, i.b, i.c, i.n⟩) ⟨hi.op, hn, hi.b, hi.c, hi.n⟩ hm hs).1
  simp only at this
  omega
theorem bad_b {p : Dk.Prg} {i : Dk.Ins} {n : Int} (hi : i.ok) (hm : Dk.i64 p.mutexes) (hn : Dk.i64 n) (h : n < 0 ∨ 7 < n) : Dk.soundB p ⟨i.op, i.a, n, i.c, i.n⟩ = false := by
  rw [← Bool.not_eq_true]
  intro hs
  have := (sound_regs (i := ⟨i.op, i.a, n, i.c, i.n⟩) ⟨hi.op, hi.a, hn, hi.c, hi.n⟩ hm hs).2.1
  simp only at this
  omega
theorem sound_bad (s : Dk.Sh) (p : Dk.Prg) (op a b c : Int) (n : Nat) (w : World) (hs : Lens s p) (hp : p.ok) (h : Dk.soundB p ⟨op, a, b, c, n⟩ = false) :
    Calls Try.prog 9 #[Dk.pv s p, .agg #[.int .i64 op, .int .i64 a, .int .i64 b, .int .i64 c, .int .u64 (n : Nat)]] w fun e w' => e = .returned (.bool false) ∧ Below w.heap.size w w' := by
  have k := Sound_any s p ⟨op, a, b, c, n⟩ w hs hp
  rw [h] at k
  exact k

/-- The two boxes of a program and an instruction, behind whatever writes nothing of them. -/
theorem boxes (s : Dk.Sh) (p : Dk.Prg) (i : Dk.Ins) (w W2 : World) (e2 : W2 = (w.alloc (.cells #[.slice s.fA s.fL s.fC, .int .i64 p.words, .int .i64 p.mutexes, .int .i64 p.conds, .slice s.sA s.sL s.sC, .slice s.pA s.pL s.pC, .int .i64 p.blocks, .int .i64 p.prio] 25)).alloc (.cells #[.int .i64 i.op, .int .i64 i.a, .int .i64 i.b, .int .i64 i.c, .int .u64 (i.n : Nat)] 28)) :
    W2.heap.size = w.heap.size + 1 + 1 ∧ ∀ w', Below W2.heap.size W2 w' → Below w.heap.size w w' ∧
      (∀ o, w'.cell? ⟨w.heap.size, o, none⟩ = (#[.slice s.fA s.fL s.fC, .int .i64 p.words, .int .i64 p.mutexes, .int .i64 p.conds, .slice s.sA s.sL s.sC, .slice s.pA s.pL s.pC, .int .i64 p.blocks, .int .i64 p.prio] : Array Value)[o]?) ∧ (∀ o, w'.cell? ⟨w.heap.size + 1, o, none⟩ = (#[.int .i64 i.op, .int .i64 i.a, .int .i64 i.b, .int .i64 i.c, .int .u64 (i.n : Nat)] : Array Value)[o]?) ∧ w.heap.size + 1 < w'.heap.size := by
  have z2 : W2.heap.size = w.heap.size + 1 + 1 := by rw [e2]; simp
  refine ⟨z2, fun w' hb => ?_⟩
  have hz := hb.size
  rw [e2] at hb
  have b1 := Dk.up_call (Dk.up_alloc (Below.refl _ _) _) hb
  have d1 := Dk.box_cell b1
  have d2 := Dk.box_cell hb
  simp only [World.size_alloc] at d2
  exact ⟨Dk.up_call (Dk.up_alloc (Below.refl _ _) _) b1, d1, d2, by omega⟩

theorem ins_cells (i : Dk.Ins) : (#[.int .i64 i.op, .int .i64 i.a, .int .i64 i.b, .int .i64 i.c, .int .u64 (i.n : Nat)] : Array Value).all (·.oneCell') = true := by simp [Value.oneCell']
theorem ins_size : (Try.prog.info? 28).map (·.size) = some 5 := by kernel_rfl
/-- A box that is laid anew, whole. -/
theorem rebox {W w4 : World} {old new : Array Value} {t : TypeId} (hb : Below (W.alloc (.cells old t)).heap.size (W.alloc (.cells old t)) w4) :
    w4.heap[W.heap.size]? = some (.cells old t (0, 0)) ∧ ∃ w5, w4.setRow W.heap.size new = w5 ∧ Below W.heap.size W w5 ∧ (∀ o, w5.cell? ⟨W.heap.size, o, none⟩ = new[o]?) ∧ (∀ o, w5.frozen? ⟨W.heap.size, o, none⟩ = false) := by
  have hg : w4.heap[W.heap.size]? = some (.cells old t (0, 0)) := by
    rw [hb.block W.heap.size (by simp)]
    exact (MapKept.heap_alloc W _).1
  refine ⟨hg, _, rfl, below_setRow (Dk.up_call (Dk.up_alloc (Below.refl _ _) _) hb) (Nat.le_refl _) _, fun o => cell_setRow_same _ _ _ _ _ _ _ hg, fun o => ?_⟩
  have := setRow_heap w4 W.heap.size old new t (0, 0) hg
  unfold World.frozen?
  simp only [this]
  simp

set_option maxHeartbeats 1000000 in
theorem regs_neg_true_lt (s : Dk.Sh) (p : Dk.Prg) (i : Dk.Ins) (n : Int) (w : World) (hs : Lens s p) (hp : p.ok) (hi : i.ok) (hn : Dk.i64 n) (hx : n < 0) (hsd : Dk.soundB p i = true) (hcl : Dk.classOf i.op < 2) :
    Calls Try.prog 7 #[Dk.pv s p, Dk.iv i, .int .i64 n] w fun e w' => e = .returned (.bool true) ∧ Below w.heap.size w w' := by
  obtain ⟨⟨ra, _⟩, ⟨rb, _⟩, rc, ro1, ro2⟩ := sound_regs hi hp.mutexes hsd
  have rp := class_pos ro1 ro2
  clear ro1 ro2
  have HA := bad_a hi hp.mutexes hn (by omega)
  have HA' : Hid _ := HA
  clear HA
  have HB := bad_b hi hp.mutexes hn (by omega)
  have HB' : Hid _ := HB
  clear HB
  obtain ⟨W2, e2⟩ : ∃ W2, W2 = (w.alloc (.cells #[.slice s.fA s.fL s.fC, .int .i64 p.words, .int .i64 p.mutexes, .int .i64 p.conds, .slice s.sA s.sL s.sC, .slice s.pA s.pL s.pC, .int .i64 p.blocks, .int .i64 p.prio] 25)).alloc (.cells #[.int .i64 i.op, .int .i64 i.a, .int .i64 i.b, .int .i64 i.c, .int .u64 (i.n : Nat)] 28) := ⟨_, rfl⟩
  obtain ⟨z2, hF⟩ := boxes s p i w W2 e2
  have HF : Hid _ := hF
  have HZ : Hid _ := z2
  clear hF z2 hi hn
  go_enter Try.func7, Try.ntmps7
  go_wp2_with fail
  rw [← e2]
  clear e2
  refine (sound_bad s p _ _ _ _ _ _ hs hp HA'.out).mono ?_
  rintro e w4 ⟨rfl, hb4⟩
  obtain ⟨hg, wr, er, ur, hbx, hfz⟩ := rebox (new := #[.int .i64 i.op, .int .i64 i.a, .int .i64 i.b, .int .i64 i.c, .int .u64 (i.n : Nat)]) hb4
  have u4 := Dk.up_call (Dk.up_alloc (Below.refl _ _) _) hb4
  rw [HZ.out] at hg er hbx hfz
  have HG : Hid _ := hg
  have HR : Hid _ := er
  clear hg er
  obtain ⟨_, f1, f2, f3⟩ := HF.out w4 u4
  obtain ⟨_, r1, r2, r3⟩ := HF.out wr ur
  clear hb4
  go_wp2_with (refine wpList_store_row rfl 28 _ _ rfl (w.heap.size + 1 + 1) #[.int .i64 i.op, .int .i64 i.a, .int .i64 i.b, .int .i64 i.c, .int .u64 (i.n : Nat)] rfl rfl 28 _ HG.out ins_size rfl (ins_cells i) ?_; rw [HR.out])
  refine (sound_bad s p _ _ _ _ _ _ hs hp HB'.out).mono ?_
  rintro e w5 ⟨rfl, hb5⟩
  have u5 : Below W2.heap.size W2 w5 := Dk.up_call (Dk.up_set ur (by rw [HZ.out]; omega) _) hb5
  clear f1 f2 f3 r1 r2 r3 hb5 hfz hbx HG HR ur u4
  go_wp2_with fail
  refine (awake_any _).mono ?_
  rintro e w6 ⟨rfl, hb6⟩
  have u6 : Below W2.heap.size W2 w6 := Dk.up_call u5 hb6
  obtain ⟨_, g1, g2, g3⟩ := HF.out w6 u6
  go_wp2_with fail
  refine (Sound_any s p i _ hs hp).mono ?_
  rintro e w7 ⟨rfl, hb7⟩
  have u7 : Below W2.heap.size W2 w7 := Dk.up_call u6 hb7
  clear g1 g2 g3
  obtain ⟨k0, g1, g2, g3⟩ := HF.out w7 u7
  go_wp2_with fail
  refine (class_any _ _).mono ?_
  rintro e w' ⟨rfl, rfl⟩
  go_wp2_with fail
  refine (class_any _ _).mono ?_
  rintro e w' ⟨rfl, rfl⟩
  go_wp2_with fail
  go_ret
  exact ⟨rfl, k0⟩

set_option maxHeartbeats 1000000 in
theorem regs_neg_true_ge (s : Dk.Sh) (p : Dk.Prg) (i : Dk.Ins) (n : Int) (w : World) (hs : Lens s p) (hp : p.ok) (hi : i.ok) (hn : Dk.i64 n) (hx : n < 0) (hsd : Dk.soundB p i = true) (hcl : 2 ≤ Dk.classOf i.op) (hse : Dk.seenB i.op = true) :
    Calls Try.prog 7 #[Dk.pv s p, Dk.iv i, .int .i64 n] w fun e w' => e = .returned (.bool true) ∧ Below w.heap.size w w' := by
  obtain ⟨⟨ra, _⟩, ⟨rb, _⟩, rc, ro1, ro2⟩ := sound_regs hi hp.mutexes hsd
  have rp := class_pos ro1 ro2
  clear ro1 ro2
  have hcl2 : ¬ Dk.classOf i.op < 2 := by omega
  have HA := bad_a hi hp.mutexes hn (by omega)
  have HA' : Hid _ := HA
  clear HA
  have HB := bad_b hi hp.mutexes hn (by omega)
  have HB' : Hid _ := HB
  clear HB
  obtain ⟨W2, e2⟩ : ∃ W2, W2 = (w.alloc (.cells #[.slice s.fA s.fL s.fC, .int .i64 p.words, .int .i64 p.mutexes, .int .i64 p.conds, .slice s.sA s.sL s.sC, .slice s.pA s.pL s.pC, .int .i64 p.blocks, .int .i64 p.prio] 25)).alloc (.cells #[.int .i64 i.op, .int .i64 i.a, .int .i64 i.b, .int .i64 i.c, .int .u64 (i.n : Nat)] 28) := ⟨_, rfl⟩
  obtain ⟨z2, hF⟩ := boxes s p i w W2 e2
  have HF : Hid _ := hF
  have HZ : Hid _ := z2
  clear hF z2 hi hn
  go_enter Try.func7, Try.ntmps7
  go_wp2_with fail
  rw [← e2]
  clear e2
  refine (sound_bad s p _ _ _ _ _ _ hs hp HA'.out).mono ?_
  rintro e w4 ⟨rfl, hb4⟩
  obtain ⟨hg, wr, er, ur, hbx, hfz⟩ := rebox (new := #[.int .i64 i.op, .int .i64 i.a, .int .i64 i.b, .int .i64 i.c, .int .u64 (i.n : Nat)]) hb4
  have u4 := Dk.up_call (Dk.up_alloc (Below.refl _ _) _) hb4
  rw [HZ.out] at hg er hbx hfz
  have HG : Hid _ := hg
  have HR : Hid _ := er
  clear hg er
  obtain ⟨_, f1, f2, f3⟩ := HF.out w4 u4
  obtain ⟨_, r1, r2, r3⟩ := HF.out wr ur
  clear hb4
  go_wp2_with (refine wpList_store_row rfl 28 _ _ rfl (w.heap.size + 1 + 1) #[.int .i64 i.op, .int .i64 i.a, .int .i64 i.b, .int .i64 i.c, .int .u64 (i.n : Nat)] rfl rfl 28 _ HG.out ins_size rfl (ins_cells i) ?_; rw [HR.out])
  refine (sound_bad s p _ _ _ _ _ _ hs hp HB'.out).mono ?_
  rintro e w5 ⟨rfl, hb5⟩
  have u5 : Below W2.heap.size W2 w5 := Dk.up_call (Dk.up_set ur (by rw [HZ.out]; omega) _) hb5
  clear f1 f2 f3 r1 r2 r3 hb5 hfz hbx HG HR ur u4
  go_wp2_with fail
  refine (awake_any _).mono ?_
  rintro e w6 ⟨rfl, hb6⟩
  have u6 : Below W2.heap.size W2 w6 := Dk.up_call u5 hb6
  obtain ⟨_, g1, g2, g3⟩ := HF.out w6 u6
  go_wp2_with fail
  refine (Sound_any s p i _ hs hp).mono ?_
  rintro e w7 ⟨rfl, hb7⟩
  have u7 : Below W2.heap.size W2 w7 := Dk.up_call u6 hb7
  clear g1 g2 g3
  obtain ⟨k0, g1, g2, g3⟩ := HF.out w7 u7
  go_wp2_with fail
  refine (class_any _ _).mono ?_
  rintro e w' ⟨rfl, rfl⟩
  go_wp2_with fail
  refine (class_any _ _).mono ?_
  rintro e w' ⟨rfl, rfl⟩
  go_wp2_with fail
  refine (seen_any _ _).mono ?_
  rintro e w' ⟨rfl, rfl⟩
  go_wp2_with fail
  go_ret
  exact ⟨rfl, k0⟩

set_option maxHeartbeats 1000000 in
theorem regs_neg_false_lt (s : Dk.Sh) (p : Dk.Prg) (i : Dk.Ins) (n : Int) (w : World) (hs : Lens s p) (hp : p.ok) (hi : i.ok) (hn : Dk.i64 n) (hx : n < 0) (hsd : Dk.soundB p i = false) (hcl : Dk.classOf i.op < 2) :
    Calls Try.prog 7 #[Dk.pv s p, Dk.iv i, .int .i64 n] w fun e w' => e = .returned (.bool true) ∧ Below w.heap.size w w' := by
  have HA := bad_a hi hp.mutexes hn (by omega)
  have HA' : Hid _ := HA
  clear HA
  have HB := bad_b hi hp.mutexes hn (by omega)
  have HB' : Hid _ := HB
  clear HB
  obtain ⟨W2, e2⟩ : ∃ W2, W2 = (w.alloc (.cells #[.slice s.fA s.fL s.fC, .int .i64 p.words, .int .i64 p.mutexes, .int .i64 p.conds, .slice s.sA s.sL s.sC, .slice s.pA s.pL s.pC, .int .i64 p.blocks, .int .i64 p.prio] 25)).alloc (.cells #[.int .i64 i.op, .int .i64 i.a, .int .i64 i.b, .int .i64 i.c, .int .u64 (i.n : Nat)] 28) := ⟨_, rfl⟩
  obtain ⟨z2, hF⟩ := boxes s p i w W2 e2
  have HF : Hid _ := hF
  have HZ : Hid _ := z2
  clear hF z2 hi hn
  go_enter Try.func7, Try.ntmps7
  go_wp2_with fail
  rw [← e2]
  clear e2
  refine (sound_bad s p _ _ _ _ _ _ hs hp HA'.out).mono ?_
  rintro e w4 ⟨rfl, hb4⟩
  obtain ⟨hg, wr, er, ur, hbx, hfz⟩ := rebox (new := #[.int .i64 i.op, .int .i64 i.a, .int .i64 i.b, .int .i64 i.c, .int .u64 (i.n : Nat)]) hb4
  have u4 := Dk.up_call (Dk.up_alloc (Below.refl _ _) _) hb4
  rw [HZ.out] at hg er hbx hfz
  have HG : Hid _ := hg
  have HR : Hid _ := er
  clear hg er
  obtain ⟨_, f1, f2, f3⟩ := HF.out w4 u4
  obtain ⟨_, r1, r2, r3⟩ := HF.out wr ur
  clear hb4
  go_wp2_with (refine wpList_store_row rfl 28 _ _ rfl (w.heap.size + 1 + 1) #[.int .i64 i.op, .int .i64 i.a, .int .i64 i.b, .int .i64 i.c, .int .u64 (i.n : Nat)] rfl rfl 28 _ HG.out ins_size rfl (ins_cells i) ?_; rw [HR.out])
  refine (sound_bad s p _ _ _ _ _ _ hs hp HB'.out).mono ?_
  rintro e w5 ⟨rfl, hb5⟩
  have u5 : Below W2.heap.size W2 w5 := Dk.up_call (Dk.up_set ur (by rw [HZ.out]; omega) _) hb5
  clear f1 f2 f3 r1 r2 r3 hb5 hfz hbx HG HR ur u4
  go_wp2_with fail
  refine (awake_any _).mono ?_
  rintro e w6 ⟨rfl, hb6⟩
  have u6 : Below W2.heap.size W2 w6 := Dk.up_call u5 hb6
  obtain ⟨_, g1, g2, g3⟩ := HF.out w6 u6
  go_wp2_with fail
  refine (Sound_any s p i _ hs hp).mono ?_
  rintro e w7 ⟨rfl, hb7⟩
  have u7 : Below W2.heap.size W2 w7 := Dk.up_call u6 hb7
  clear g1 g2 g3
  obtain ⟨k0, g1, g2, g3⟩ := HF.out w7 u7
  go_wp2_with fail
  refine (class_any _ _).mono ?_
  rintro e w' ⟨rfl, rfl⟩
  go_wp2_with fail
  go_ret
  exact ⟨rfl, k0⟩

set_option maxHeartbeats 1000000 in
theorem regs_neg_false_ge (s : Dk.Sh) (p : Dk.Prg) (i : Dk.Ins) (n : Int) (w : World) (hs : Lens s p) (hp : p.ok) (hi : i.ok) (hn : Dk.i64 n) (hx : n < 0) (hsd : Dk.soundB p i = false) (hcl : 2 ≤ Dk.classOf i.op) (hse : Dk.seenB i.op = true) :
    Calls Try.prog 7 #[Dk.pv s p, Dk.iv i, .int .i64 n] w fun e w' => e = .returned (.bool true) ∧ Below w.heap.size w w' := by
  have hcl2 : ¬ Dk.classOf i.op < 2 := by omega
  have HA := bad_a hi hp.mutexes hn (by omega)
  have HA' : Hid _ := HA
  clear HA
  have HB := bad_b hi hp.mutexes hn (by omega)
  have HB' : Hid _ := HB
  clear HB
  obtain ⟨W2, e2⟩ : ∃ W2, W2 = (w.alloc (.cells #[.slice s.fA s.fL s.fC, .int .i64 p.words, .int .i64 p.mutexes, .int .i64 p.conds, .slice s.sA s.sL s.sC, .slice s.pA s.pL s.pC, .int .i64 p.blocks, .int .i64 p.prio] 25)).alloc (.cells #[.int .i64 i.op, .int .i64 i.a, .int .i64 i.b, .int .i64 i.c, .int .u64 (i.n : Nat)] 28) := ⟨_, rfl⟩
  obtain ⟨z2, hF⟩ := boxes s p i w W2 e2
  have HF : Hid _ := hF
  have HZ : Hid _ := z2
  clear hF z2 hi hn
  go_enter Try.func7, Try.ntmps7
  go_wp2_with fail
  rw [← e2]
  clear e2
  refine (sound_bad s p _ _ _ _ _ _ hs hp HA'.out).mono ?_
  rintro e w4 ⟨rfl, hb4⟩
  obtain ⟨hg, wr, er, ur, hbx, hfz⟩ := rebox (new := #[.int .i64 i.op, .int .i64 i.a, .int .i64 i.b, .int .i64 i.c, .int .u64 (i.n : Nat)]) hb4
  have u4 := Dk.up_call (Dk.up_alloc (Below.refl _ _) _) hb4
  rw [HZ.out] at hg er hbx hfz
  have HG : Hid _ := hg
  have HR : Hid _ := er
  clear hg er
  obtain ⟨_, f1, f2, f3⟩ := HF.out w4 u4
  obtain ⟨_, r1, r2, r3⟩ := HF.out wr ur
  clear hb4
  go_wp2_with (refine wpList_store_row rfl 28 _ _ rfl (w.heap.size + 1 + 1) #[.int .i64 i.op, .int .i64 i.a, .int .i64 i.b, .int .i64 i.c, .int .u64 (i.n : Nat)] rfl rfl 28 _ HG.out ins_size rfl (ins_cells i) ?_; rw [HR.out])
  refine (sound_bad s p _ _ _ _ _ _ hs hp HB'.out).mono ?_
  rintro e w5 ⟨rfl, hb5⟩
  have u5 : Below W2.heap.size W2 w5 := Dk.up_call (Dk.up_set ur (by rw [HZ.out]; omega) _) hb5
  clear f1 f2 f3 r1 r2 r3 hb5 hfz hbx HG HR ur u4
  go_wp2_with fail
  refine (awake_any _).mono ?_
  rintro e w6 ⟨rfl, hb6⟩
  have u6 : Below W2.heap.size W2 w6 := Dk.up_call u5 hb6
  obtain ⟨_, g1, g2, g3⟩ := HF.out w6 u6
  go_wp2_with fail
  refine (Sound_any s p i _ hs hp).mono ?_
  rintro e w7 ⟨rfl, hb7⟩
  have u7 : Below W2.heap.size W2 w7 := Dk.up_call u6 hb7
  clear g1 g2 g3
  obtain ⟨k0, g1, g2, g3⟩ := HF.out w7 u7
  go_wp2_with fail
  refine (class_any _ _).mono ?_
  rintro e w' ⟨rfl, rfl⟩
  go_wp2_with fail
  refine (seen_any _ _).mono ?_
  rintro e w' ⟨rfl, rfl⟩
  go_wp2_with fail
  go_ret
  exact ⟨rfl, k0⟩

set_option maxHeartbeats 1000000 in
theorem regs_pos_true_lt (s : Dk.Sh) (p : Dk.Prg) (i : Dk.Ins) (n : Int) (w : World) (hs : Lens s p) (hp : p.ok) (hi : i.ok) (hn : Dk.i64 n) (hx : 7 < n) (hsd : Dk.soundB p i = true) (hcl : Dk.classOf i.op < 2) :
    Calls Try.prog 7 #[Dk.pv s p, Dk.iv i, .int .i64 n] w fun e w' => e = .returned (.bool true) ∧ Below w.heap.size w w' := by
  have hx0 : ¬ n < 0 := by omega
  obtain ⟨⟨ra, _⟩, ⟨rb, _⟩, rc, ro1, ro2⟩ := sound_regs hi hp.mutexes hsd
  have rp := class_pos ro1 ro2
  clear ro1 ro2
  have HA := bad_a hi hp.mutexes hn (by omega)
  have HA' : Hid _ := HA
  clear HA
  have HB := bad_b hi hp.mutexes hn (by omega)
  have HB' : Hid _ := HB
  clear HB
  obtain ⟨W2, e2⟩ : ∃ W2, W2 = (w.alloc (.cells #[.slice s.fA s.fL s.fC, .int .i64 p.words, .int .i64 p.mutexes, .int .i64 p.conds, .slice s.sA s.sL s.sC, .slice s.pA s.pL s.pC, .int .i64 p.blocks, .int .i64 p.prio] 25)).alloc (.cells #[.int .i64 i.op, .int .i64 i.a, .int .i64 i.b, .int .i64 i.c, .int .u64 (i.n : Nat)] 28) := ⟨_, rfl⟩
  obtain ⟨z2, hF⟩ := boxes s p i w W2 e2
  have HF : Hid _ := hF
  have HZ : Hid _ := z2
  clear hF z2 hi hn
  go_enter Try.func7, Try.ntmps7
  go_wp2_with fail
  rw [← e2]
  clear e2
  refine (sound_bad s p _ _ _ _ _ _ hs hp HA'.out).mono ?_
  rintro e w4 ⟨rfl, hb4⟩
  obtain ⟨hg, wr, er, ur, hbx, hfz⟩ := rebox (new := #[.int .i64 i.op, .int .i64 i.a, .int .i64 i.b, .int .i64 i.c, .int .u64 (i.n : Nat)]) hb4
  have u4 := Dk.up_call (Dk.up_alloc (Below.refl _ _) _) hb4
  rw [HZ.out] at hg er hbx hfz
  have HG : Hid _ := hg
  have HR : Hid _ := er
  clear hg er
  obtain ⟨_, f1, f2, f3⟩ := HF.out w4 u4
  obtain ⟨_, r1, r2, r3⟩ := HF.out wr ur
  clear hb4
  go_wp2_with (refine wpList_store_row rfl 28 _ _ rfl (w.heap.size + 1 + 1) #[.int .i64 i.op, .int .i64 i.a, .int .i64 i.b, .int .i64 i.c, .int .u64 (i.n : Nat)] rfl rfl 28 _ HG.out ins_size rfl (ins_cells i) ?_; rw [HR.out])
  refine (sound_bad s p _ _ _ _ _ _ hs hp HB'.out).mono ?_
  rintro e w5 ⟨rfl, hb5⟩
  have u5 : Below W2.heap.size W2 w5 := Dk.up_call (Dk.up_set ur (by rw [HZ.out]; omega) _) hb5
  clear f1 f2 f3 r1 r2 r3 hb5 hfz hbx HG HR ur u4
  go_wp2_with fail
  refine (awake_any _).mono ?_
  rintro e w6 ⟨rfl, hb6⟩
  have u6 : Below W2.heap.size W2 w6 := Dk.up_call u5 hb6
  obtain ⟨_, g1, g2, g3⟩ := HF.out w6 u6
  go_wp2_with fail
  refine (Sound_any s p i _ hs hp).mono ?_
  rintro e w7 ⟨rfl, hb7⟩
  have u7 : Below W2.heap.size W2 w7 := Dk.up_call u6 hb7
  clear g1 g2 g3
  obtain ⟨k0, g1, g2, g3⟩ := HF.out w7 u7
  go_wp2_with fail
  refine (class_any _ _).mono ?_
  rintro e w' ⟨rfl, rfl⟩
  go_wp2_with fail
  refine (class_any _ _).mono ?_
  rintro e w' ⟨rfl, rfl⟩
  go_wp2_with fail
  go_ret
  exact ⟨rfl, k0⟩

set_option maxHeartbeats 1000000 in
theorem regs_pos_true_ge (s : Dk.Sh) (p : Dk.Prg) (i : Dk.Ins) (n : Int) (w : World) (hs : Lens s p) (hp : p.ok) (hi : i.ok) (hn : Dk.i64 n) (hx : 7 < n) (hsd : Dk.soundB p i = true) (hcl : 2 ≤ Dk.classOf i.op) (hse : Dk.seenB i.op = true) :
    Calls Try.prog 7 #[Dk.pv s p, Dk.iv i, .int .i64 n] w fun e w' => e = .returned (.bool true) ∧ Below w.heap.size w w' := by
  have hx0 : ¬ n < 0 := by omega
  obtain ⟨⟨ra, _⟩, ⟨rb, _⟩, rc, ro1, ro2⟩ := sound_regs hi hp.mutexes hsd
  have rp := class_pos ro1 ro2
  clear ro1 ro2
  have hcl2 : ¬ Dk.classOf i.op < 2 := by omega
  have HA := bad_a hi hp.mutexes hn (by omega)
  have HA' : Hid _ := HA
  clear HA
  have HB := bad_b hi hp.mutexes hn (by omega)
  have HB' : Hid _ := HB
  clear HB
  obtain ⟨W2, e2⟩ : ∃ W2, W2 = (w.alloc (.cells #[.slice s.fA s.fL s.fC, .int .i64 p.words, .int .i64 p.mutexes, .int .i64 p.conds, .slice s.sA s.sL s.sC, .slice s.pA s.pL s.pC, .int .i64 p.blocks, .int .i64 p.prio] 25)).alloc (.cells #[.int .i64 i.op, .int .i64 i.a, .int .i64 i.b, .int .i64 i.c, .int .u64 (i.n : Nat)] 28) := ⟨_, rfl⟩
  obtain ⟨z2, hF⟩ := boxes s p i w W2 e2
  have HF : Hid _ := hF
  have HZ : Hid _ := z2
  clear hF z2 hi hn
  go_enter Try.func7, Try.ntmps7
  go_wp2_with fail
  rw [← e2]
  clear e2
  refine (sound_bad s p _ _ _ _ _ _ hs hp HA'.out).mono ?_
  rintro e w4 ⟨rfl, hb4⟩
  obtain ⟨hg, wr, er, ur, hbx, hfz⟩ := rebox (new := #[.int .i64 i.op, .int .i64 i.a, .int .i64 i.b, .int .i64 i.c, .int .u64 (i.n : Nat)]) hb4
  have u4 := Dk.up_call (Dk.up_alloc (Below.refl _ _) _) hb4
  rw [HZ.out] at hg er hbx hfz
  have HG : Hid _ := hg
  have HR : Hid _ := er
  clear hg er
  obtain ⟨_, f1, f2, f3⟩ := HF.out w4 u4
  obtain ⟨_, r1, r2, r3⟩ := HF.out wr ur
  clear hb4
  go_wp2_with (refine wpList_store_row rfl 28 _ _ rfl (w.heap.size + 1 + 1) #[.int .i64 i.op, .int .i64 i.a, .int .i64 i.b, .int .i64 i.c, .int .u64 (i.n : Nat)] rfl rfl 28 _ HG.out ins_size rfl (ins_cells i) ?_; rw [HR.out])
  refine (sound_bad s p _ _ _ _ _ _ hs hp HB'.out).mono ?_
  rintro e w5 ⟨rfl, hb5⟩
  have u5 : Below W2.heap.size W2 w5 := Dk.up_call (Dk.up_set ur (by rw [HZ.out]; omega) _) hb5
  clear f1 f2 f3 r1 r2 r3 hb5 hfz hbx HG HR ur u4
  go_wp2_with fail
  refine (awake_any _).mono ?_
  rintro e w6 ⟨rfl, hb6⟩
  have u6 : Below W2.heap.size W2 w6 := Dk.up_call u5 hb6
  obtain ⟨_, g1, g2, g3⟩ := HF.out w6 u6
  go_wp2_with fail
  refine (Sound_any s p i _ hs hp).mono ?_
  rintro e w7 ⟨rfl, hb7⟩
  have u7 : Below W2.heap.size W2 w7 := Dk.up_call u6 hb7
  clear g1 g2 g3
  obtain ⟨k0, g1, g2, g3⟩ := HF.out w7 u7
  go_wp2_with fail
  refine (class_any _ _).mono ?_
  rintro e w' ⟨rfl, rfl⟩
  go_wp2_with fail
  refine (class_any _ _).mono ?_
  rintro e w' ⟨rfl, rfl⟩
  go_wp2_with fail
  refine (seen_any _ _).mono ?_
  rintro e w' ⟨rfl, rfl⟩
  go_wp2_with fail
  go_ret
  exact ⟨rfl, k0⟩

set_option maxHeartbeats 1000000 in
theorem regs_pos_false_lt (s : Dk.Sh) (p : Dk.Prg) (i : Dk.Ins) (n : Int) (w : World) (hs : Lens s p) (hp : p.ok) (hi : i.ok) (hn : Dk.i64 n) (hx : 7 < n) (hsd : Dk.soundB p i = false) (hcl : Dk.classOf i.op < 2) :
    Calls Try.prog 7 #[Dk.pv s p, Dk.iv i, .int .i64 n] w fun e w' => e = .returned (.bool true) ∧ Below w.heap.size w w' := by
  have hx0 : ¬ n < 0 := by omega
  have HA := bad_a hi hp.mutexes hn (by omega)
  have HA' : Hid _ := HA
  clear HA
  have HB := bad_b hi hp.mutexes hn (by omega)
  have HB' : Hid _ := HB
  clear HB
  obtain ⟨W2, e2⟩ : ∃ W2, W2 = (w.alloc (.cells #[.slice s.fA s.fL s.fC, .int .i64 p.words, .int .i64 p.mutexes, .int .i64 p.conds, .slice s.sA s.sL s.sC, .slice s.pA s.pL s.pC, .int .i64 p.blocks, .int .i64 p.prio] 25)).alloc (.cells #[.int .i64 i.op, .int .i64 i.a, .int .i64 i.b, .int .i64 i.c, .int .u64 (i.n : Nat)] 28) := ⟨_, rfl⟩
  obtain ⟨z2, hF⟩ := boxes s p i w W2 e2
  have HF : Hid _ := hF
  have HZ : Hid _ := z2
  clear hF z2 hi hn
  go_enter Try.func7, Try.ntmps7
  go_wp2_with fail
  rw [← e2]
  clear e2
  refine (sound_bad s p _ _ _ _ _ _ hs hp HA'.out).mono ?_
  rintro e w4 ⟨rfl, hb4⟩
  obtain ⟨hg, wr, er, ur, hbx, hfz⟩ := rebox (new := #[.int .i64 i.op, .int .i64 i.a, .int .i64 i.b, .int .i64 i.c, .int .u64 (i.n : Nat)]) hb4
  have u4 := Dk.up_call (Dk.up_alloc (Below.refl _ _) _) hb4
  rw [HZ.out] at hg er hbx hfz
  have HG : Hid _ := hg
  have HR : Hid _ := er
  clear hg er
  obtain ⟨_, f1, f2, f3⟩ := HF.out w4 u4
  obtain ⟨_, r1, r2, r3⟩ := HF.out wr ur
  clear hb4
  go_wp2_with (refine wpList_store_row rfl 28 _ _ rfl (w.heap.size + 1 + 1) #[.int .i64 i.op, .int .i64 i.a, .int .i64 i.b, .int .i64 i.c, .int .u64 (i.n : Nat)] rfl rfl 28 _ HG.out ins_size rfl (ins_cells i) ?_; rw [HR.out])
  refine (sound_bad s p _ _ _ _ _ _ hs hp HB'.out).mono ?_
  rintro e w5 ⟨rfl, hb5⟩
  have u5 : Below W2.heap.size W2 w5 := Dk.up_call (Dk.up_set ur (by rw [HZ.out]; omega) _) hb5
  clear f1 f2 f3 r1 r2 r3 hb5 hfz hbx HG HR ur u4
  go_wp2_with fail
  refine (awake_any _).mono ?_
  rintro e w6 ⟨rfl, hb6⟩
  have u6 : Below W2.heap.size W2 w6 := Dk.up_call u5 hb6
  obtain ⟨_, g1, g2, g3⟩ := HF.out w6 u6
  go_wp2_with fail
  refine (Sound_any s p i _ hs hp).mono ?_
  rintro e w7 ⟨rfl, hb7⟩
  have u7 : Below W2.heap.size W2 w7 := Dk.up_call u6 hb7
  clear g1 g2 g3
  obtain ⟨k0, g1, g2, g3⟩ := HF.out w7 u7
  go_wp2_with fail
  refine (class_any _ _).mono ?_
  rintro e w' ⟨rfl, rfl⟩
  go_wp2_with fail
  go_ret
  exact ⟨rfl, k0⟩

set_option maxHeartbeats 1000000 in
theorem regs_pos_false_ge (s : Dk.Sh) (p : Dk.Prg) (i : Dk.Ins) (n : Int) (w : World) (hs : Lens s p) (hp : p.ok) (hi : i.ok) (hn : Dk.i64 n) (hx : 7 < n) (hsd : Dk.soundB p i = false) (hcl : 2 ≤ Dk.classOf i.op) (hse : Dk.seenB i.op = true) :
    Calls Try.prog 7 #[Dk.pv s p, Dk.iv i, .int .i64 n] w fun e w' => e = .returned (.bool true) ∧ Below w.heap.size w w' := by
  have hx0 : ¬ n < 0 := by omega
  have hcl2 : ¬ Dk.classOf i.op < 2 := by omega
  have HA := bad_a hi hp.mutexes hn (by omega)
  have HA' : Hid _ := HA
  clear HA
  have HB := bad_b hi hp.mutexes hn (by omega)
  have HB' : Hid _ := HB
  clear HB
  obtain ⟨W2, e2⟩ : ∃ W2, W2 = (w.alloc (.cells #[.slice s.fA s.fL s.fC, .int .i64 p.words, .int .i64 p.mutexes, .int .i64 p.conds, .slice s.sA s.sL s.sC, .slice s.pA s.pL s.pC, .int .i64 p.blocks, .int .i64 p.prio] 25)).alloc (.cells #[.int .i64 i.op, .int .i64 i.a, .int .i64 i.b, .int .i64 i.c, .int .u64 (i.n : Nat)] 28) := ⟨_, rfl⟩
  obtain ⟨z2, hF⟩ := boxes s p i w W2 e2
  have HF : Hid _ := hF
  have HZ : Hid _ := z2
  clear hF z2 hi hn
  go_enter Try.func7, Try.ntmps7
  go_wp2_with fail
  rw [← e2]
  clear e2
  refine (sound_bad s p _ _ _ _ _ _ hs hp HA'.out).mono ?_
  rintro e w4 ⟨rfl, hb4⟩
  obtain ⟨hg, wr, er, ur, hbx, hfz⟩ := rebox (new := #[.int .i64 i.op, .int .i64 i.a, .int .i64 i.b, .int .i64 i.c, .int .u64 (i.n : Nat)]) hb4
  have u4 := Dk.up_call (Dk.up_alloc (Below.refl _ _) _) hb4
  rw [HZ.out] at hg er hbx hfz
  have HG : Hid _ := hg
  have HR : Hid _ := er
  clear hg er
  obtain ⟨_, f1, f2, f3⟩ := HF.out w4 u4
  obtain ⟨_, r1, r2, r3⟩ := HF.out wr ur
  clear hb4
  go_wp2_with (refine wpList_store_row rfl 28 _ _ rfl (w.heap.size + 1 + 1) #[.int .i64 i.op, .int .i64 i.a, .int .i64 i.b, .int .i64 i.c, .int .u64 (i.n : Nat)] rfl rfl 28 _ HG.out ins_size rfl (ins_cells i) ?_; rw [HR.out])
  refine (sound_bad s p _ _ _ _ _ _ hs hp HB'.out).mono ?_
  rintro e w5 ⟨rfl, hb5⟩
  have u5 : Below W2.heap.size W2 w5 := Dk.up_call (Dk.up_set ur (by rw [HZ.out]; omega) _) hb5
  clear f1 f2 f3 r1 r2 r3 hb5 hfz hbx HG HR ur u4
  go_wp2_with fail
  refine (awake_any _).mono ?_
  rintro e w6 ⟨rfl, hb6⟩
  have u6 : Below W2.heap.size W2 w6 := Dk.up_call u5 hb6
  obtain ⟨_, g1, g2, g3⟩ := HF.out w6 u6
  go_wp2_with fail
  refine (Sound_any s p i _ hs hp).mono ?_
  rintro e w7 ⟨rfl, hb7⟩
  have u7 : Below W2.heap.size W2 w7 := Dk.up_call u6 hb7
  clear g1 g2 g3
  obtain ⟨k0, g1, g2, g3⟩ := HF.out w7 u7
  go_wp2_with fail
  refine (class_any _ _).mono ?_
  rintro e w' ⟨rfl, rfl⟩
  go_wp2_with fail
  refine (seen_any _ _).mono ?_
  rintro e w' ⟨rfl, rfl⟩
  go_wp2_with fail
  go_ret
  exact ⟨rfl, k0⟩

set_option maxHeartbeats 1000000 in
theorem regs_in_true_lt (s : Dk.Sh) (p : Dk.Prg) (i : Dk.Ins) (n : Int) (w : World) (hs : Lens s p) (hp : p.ok) (hi : i.ok) (hn : Dk.i64 n) (hx0 : 0 ≤ n) (hx : n ≤ 7) (hsd : Dk.soundB p i = true) (hcl : Dk.classOf i.op < 2) :
    Calls Try.prog 7 #[Dk.pv s p, Dk.iv i, .int .i64 n] w fun e w' => e = .returned (.bool true) ∧ Below w.heap.size w w' := by
  have hx1 : ¬ n < 0 := by omega
  have hx2 : ¬ 7 < n := by omega
  clear hx hx0
  obtain ⟨⟨ra, _⟩, ⟨rb, _⟩, rc, ro1, ro2⟩ := sound_regs hi hp.mutexes hsd
  have rp := class_pos ro1 ro2
  clear ro1 ro2
  obtain ⟨W2, e2⟩ : ∃ W2, W2 = (w.alloc (.cells #[.slice s.fA s.fL s.fC, .int .i64 p.words, .int .i64 p.mutexes, .int .i64 p.conds, .slice s.sA s.sL s.sC, .slice s.pA s.pL s.pC, .int .i64 p.blocks, .int .i64 p.prio] 25)).alloc (.cells #[.int .i64 i.op, .int .i64 i.a, .int .i64 i.b, .int .i64 i.c, .int .u64 (i.n : Nat)] 28) := ⟨_, rfl⟩
  obtain ⟨z2, hF⟩ := boxes s p i w W2 e2
  have HF : Hid _ := hF
  have HZ : Hid _ := z2
  clear hF z2 hi hn
  go_enter Try.func7, Try.ntmps7
  go_wp2_with fail
  rw [← e2]
  clear e2
  refine (awake_any _).mono ?_
  rintro e w6 ⟨rfl, hb6⟩
  have u6 : Below W2.heap.size W2 w6 := Dk.up_call (Dk.up_alloc (Below.refl _ _) _) hb6
  obtain ⟨_, g1, g2, g3⟩ := HF.out w6 u6
  go_wp2_with fail
  refine (Sound_any s p i _ hs hp).mono ?_
  rintro e w7 ⟨rfl, hb7⟩
  have u7 : Below W2.heap.size W2 w7 := Dk.up_call u6 hb7
  clear g1 g2 g3
  obtain ⟨k0, g1, g2, g3⟩ := HF.out w7 u7
  go_wp2_with fail
  refine (class_any _ _).mono ?_
  rintro e w' ⟨rfl, rfl⟩
  go_wp2_with fail
  refine (class_any _ _).mono ?_
  rintro e w' ⟨rfl, rfl⟩
  go_wp2_with fail
  go_ret
  exact ⟨rfl, k0⟩

set_option maxHeartbeats 1000000 in
theorem regs_in_true_ge (s : Dk.Sh) (p : Dk.Prg) (i : Dk.Ins) (n : Int) (w : World) (hs : Lens s p) (hp : p.ok) (hi : i.ok) (hn : Dk.i64 n) (hx0 : 0 ≤ n) (hx : n ≤ 7) (hsd : Dk.soundB p i = true) (hcl : 2 ≤ Dk.classOf i.op) (hse : Dk.seenB i.op = true) :
    Calls Try.prog 7 #[Dk.pv s p, Dk.iv i, .int .i64 n] w fun e w' => e = .returned (.bool true) ∧ Below w.heap.size w w' := by
  have hx1 : ¬ n < 0 := by omega
  have hx2 : ¬ 7 < n := by omega
  clear hx hx0
  obtain ⟨⟨ra, _⟩, ⟨rb, _⟩, rc, ro1, ro2⟩ := sound_regs hi hp.mutexes hsd
  have rp := class_pos ro1 ro2
  clear ro1 ro2
  have hcl2 : ¬ Dk.classOf i.op < 2 := by omega
  obtain ⟨W2, e2⟩ : ∃ W2, W2 = (w.alloc (.cells #[.slice s.fA s.fL s.fC, .int .i64 p.words, .int .i64 p.mutexes, .int .i64 p.conds, .slice s.sA s.sL s.sC, .slice s.pA s.pL s.pC, .int .i64 p.blocks, .int .i64 p.prio] 25)).alloc (.cells #[.int .i64 i.op, .int .i64 i.a, .int .i64 i.b, .int .i64 i.c, .int .u64 (i.n : Nat)] 28) := ⟨_, rfl⟩
  obtain ⟨z2, hF⟩ := boxes s p i w W2 e2
  have HF : Hid _ := hF
  have HZ : Hid _ := z2
  clear hF z2 hi hn
  go_enter Try.func7, Try.ntmps7
  go_wp2_with fail
  rw [← e2]
  clear e2
  refine (awake_any _).mono ?_
  rintro e w6 ⟨rfl, hb6⟩
  have u6 : Below W2.heap.size W2 w6 := Dk.up_call (Dk.up_alloc (Below.refl _ _) _) hb6
  obtain ⟨_, g1, g2, g3⟩ := HF.out w6 u6
  go_wp2_with fail
  refine (Sound_any s p i _ hs hp).mono ?_
  rintro e w7 ⟨rfl, hb7⟩
  have u7 : Below W2.heap.size W2 w7 := Dk.up_call u6 hb7
  clear g1 g2 g3
  obtain ⟨k0, g1, g2, g3⟩ := HF.out w7 u7
  go_wp2_with fail
  refine (class_any _ _).mono ?_
  rintro e w' ⟨rfl, rfl⟩
  go_wp2_with fail
  refine (class_any _ _).mono ?_
  rintro e w' ⟨rfl, rfl⟩
  go_wp2_with fail
  refine (seen_any _ _).mono ?_
  rintro e w' ⟨rfl, rfl⟩
  go_wp2_with fail
  go_ret
  exact ⟨rfl, k0⟩

set_option maxHeartbeats 1000000 in
theorem regs_in_false_lt (s : Dk.Sh) (p : Dk.Prg) (i : Dk.Ins) (n : Int) (w : World) (hs : Lens s p) (hp : p.ok) (hi : i.ok) (hn : Dk.i64 n) (hx0 : 0 ≤ n) (hx : n ≤ 7) (hsd : Dk.soundB p i = false) (hcl : Dk.classOf i.op < 2) :
    Calls Try.prog 7 #[Dk.pv s p, Dk.iv i, .int .i64 n] w fun e w' => e = .returned (.bool true) ∧ Below w.heap.size w w' := by
  have hx1 : ¬ n < 0 := by omega
  have hx2 : ¬ 7 < n := by omega
  clear hx hx0
  obtain ⟨W2, e2⟩ : ∃ W2, W2 = (w.alloc (.cells #[.slice s.fA s.fL s.fC, .int .i64 p.words, .int .i64 p.mutexes, .int .i64 p.conds, .slice s.sA s.sL s.sC, .slice s.pA s.pL s.pC, .int .i64 p.blocks, .int .i64 p.prio] 25)).alloc (.cells #[.int .i64 i.op, .int .i64 i.a, .int .i64 i.b, .int .i64 i.c, .int .u64 (i.n : Nat)] 28) := ⟨_, rfl⟩
  obtain ⟨z2, hF⟩ := boxes s p i w W2 e2
  have HF : Hid _ := hF
  have HZ : Hid _ := z2
  clear hF z2 hi hn
  go_enter Try.func7, Try.ntmps7
  go_wp2_with fail
  rw [← e2]
  clear e2
  refine (awake_any _).mono ?_
  rintro e w6 ⟨rfl, hb6⟩
  have u6 : Below W2.heap.size W2 w6 := Dk.up_call (Dk.up_alloc (Below.refl _ _) _) hb6
  obtain ⟨_, g1, g2, g3⟩ := HF.out w6 u6
  go_wp2_with fail
  refine (Sound_any s p i _ hs hp).mono ?_
  rintro e w7 ⟨rfl, hb7⟩
  have u7 : Below W2.heap.size W2 w7 := Dk.up_call u6 hb7
  clear g1 g2 g3
  obtain ⟨k0, g1, g2, g3⟩ := HF.out w7 u7
  go_wp2_with fail
  refine (class_any _ _).mono ?_
  rintro e w' ⟨rfl, rfl⟩
  go_wp2_with fail
  go_ret
  exact ⟨rfl, k0⟩

set_option maxHeartbeats 1000000 in
theorem regs_in_false_ge (s : Dk.Sh) (p : Dk.Prg) (i : Dk.Ins) (n : Int) (w : World) (hs : Lens s p) (hp : p.ok) (hi : i.ok) (hn : Dk.i64 n) (hx0 : 0 ≤ n) (hx : n ≤ 7) (hsd : Dk.soundB p i = false) (hcl : 2 ≤ Dk.classOf i.op) (hse : Dk.seenB i.op = true) :
    Calls Try.prog 7 #[Dk.pv s p, Dk.iv i, .int .i64 n] w fun e w' => e = .returned (.bool true) ∧ Below w.heap.size w w' := by
  have hx1 : ¬ n < 0 := by omega
  have hx2 : ¬ 7 < n := by omega
  clear hx hx0
  have hcl2 : ¬ Dk.classOf i.op < 2 := by omega
  obtain ⟨W2, e2⟩ : ∃ W2, W2 = (w.alloc (.cells #[.slice s.fA s.fL s.fC, .int .i64 p.words, .int .i64 p.mutexes, .int .i64 p.conds, .slice s.sA s.sL s.sC, .slice s.pA s.pL s.pC, .int .i64 p.blocks, .int .i64 p.prio] 25)).alloc (.cells #[.int .i64 i.op, .int .i64 i.a, .int .i64 i.b, .int .i64 i.c, .int .u64 (i.n : Nat)] 28) := ⟨_, rfl⟩
  obtain ⟨z2, hF⟩ := boxes s p i w W2 e2
  have HF : Hid _ := hF
  have HZ : Hid _ := z2
  clear hF z2 hi hn
  go_enter Try.func7, Try.ntmps7
  go_wp2_with fail
  rw [← e2]
  clear e2
  refine (awake_any _).mono ?_
  rintro e w6 ⟨rfl, hb6⟩
  have u6 : Below W2.heap.size W2 w6 := Dk.up_call (Dk.up_alloc (Below.refl _ _) _) hb6
  obtain ⟨_, g1, g2, g3⟩ := HF.out w6 u6
  go_wp2_with fail
  refine (Sound_any s p i _ hs hp).mono ?_
  rintro e w7 ⟨rfl, hb7⟩
  have u7 : Below W2.heap.size W2 w7 := Dk.up_call u6 hb7
  clear g1 g2 g3
  obtain ⟨k0, g1, g2, g3⟩ := HF.out w7 u7
  go_wp2_with fail
  refine (class_any _ _).mono ?_
  rintro e w' ⟨rfl, rfl⟩
  go_wp2_with fail
  refine (seen_any _ _).mono ?_
  rintro e w' ⟨rfl, rfl⟩
  go_wp2_with fail
  go_ret
  exact ⟨rfl, k0⟩

theorem instRegs_w (s : Dk.Sh) (p : Dk.Prg) (i : Dk.Ins) (n : Int) (w : World) (hs : Lens s p) (hp : p.ok) (hi : i.ok) (hn : Dk.i64 n) :
    Calls Try.prog 7 #[Dk.pv s p, Dk.iv i, .int .i64 n] w fun e w' => e = .returned (.bool true) ∧ Below w.heap.size w w' := by
  by_cases h1 : n < 0
  · cases hsd : Dk.soundB p i
    · rcases class_seen i.op with hc | ⟨hc, hse⟩
      · exact regs_neg_false_lt s p i n w hs hp hi hn h1 hsd hc
      · exact regs_neg_false_ge s p i n w hs hp hi hn h1 hsd hc hse
    · rcases class_seen i.op with hc | ⟨hc, hse⟩
      · exact regs_neg_true_lt s p i n w hs hp hi hn h1 hsd hc
      · exact regs_neg_true_ge s p i n w hs hp hi hn h1 hsd hc hse
  by_cases h2 : 7 < n
  · cases hsd : Dk.soundB p i
    · rcases class_seen i.op with hc | ⟨hc, hse⟩
      · exact regs_pos_false_lt s p i n w hs hp hi hn h2 hsd hc
      · exact regs_pos_false_ge s p i n w hs hp hi hn h2 hsd hc hse
    · rcases class_seen i.op with hc | ⟨hc, hse⟩
      · exact regs_pos_true_lt s p i n w hs hp hi hn h2 hsd hc
      · exact regs_pos_true_ge s p i n w hs hp hi hn h2 hsd hc hse
  cases hsd : Dk.soundB p i
  · rcases class_seen i.op with hc | ⟨hc, hse⟩
    · exact regs_in_false_lt s p i n w hs hp hi hn (by omega) (by omega) hsd hc
    · exact regs_in_false_ge s p i n w hs hp hi hn (by omega) (by omega) hsd hc hse
  · rcases class_seen i.op with hc | ⟨hc, hse⟩
    · exact regs_in_true_lt s p i n w hs hp hi hn (by omega) (by omega) hsd hc
    · exact regs_in_true_ge s p i n w hs hp hi hn (by omega) (by omega) hsd hc hse

end Go.Proofs.Ytmapmhcmeokahaa
