/- The walks of the statement on the instruction that comes next. -/
import Derived.Test.YtmkeniobnjpohaaLa
import Derived.Test.YtmkeniobnjpohaaEq
namespace Go.Proofs.Ytmkeniobnjpohaa
set_option linter.unusedSimpArgs false
set_option linter.unusedVariables false
set_option linter.unnecessarySimpa false
open Go.RowKit

theorem two_box (w : World) (cs ds : Array Value) (t u : TypeId) (X : World) (e : (w.alloc (.cells cs t)).alloc (.cells ds u) = X) :
    Dk.Box X w.heap.size cs t ∧ Dk.Box X (w.heap.size + 1) ds u ∧ Below w.heap.size w X ∧ X.heap.size = w.heap.size + 1 + 1 := by
  subst e
  refine ⟨(Dk.Box.new _ _ _).old _, ?_, Dk.up_alloc (Dk.up_alloc (Below.refl _ _) _) _, by simp⟩
  have := Dk.Box.new (w.alloc (.cells cs t)) ds u
  simpa only [World.size_alloc] using this
theorem prg_up {w X : World} {s : Dk.Sh} {p : Dk.Prg} (h : Dk.PrgAt w.heap.size w s p) (u : Below w.heap.size w X) : Dk.PrgAt X.heap.size X s p := (h.below u (Nat.le_refl _)).more u.size

set_option maxRecDepth 100000 in
set_option maxHeartbeats 1000000 in
theorem nexts_none1 (fA sA pA : Option Addr) (fL fC sL sC pL pC : Nat) (p : Dk.Prg) (f : Dk.Frm) (w : World) (h : Dk.PrgAt w.heap.size w ⟨fA, fL, fC, sA, sL, sC, pA, pL, pC⟩ p) (hn : Dk.nextB p f = false) (g1 : f.fn < 0) :
    Calls Try.prog 3 #[Dk.pv ⟨fA, fL, fC, sA, sL, sC, pA, pL, pC⟩ p, Dk.fv f] w fun e w' => e = .returned (.bool true) ∧ Below w.heap.size w w' := by
  have e1 : Dk.nextI p f = Dk.Ins.zero := by unfold Dk.nextI; rw [hn]; rfl
  obtain ⟨X, e3⟩ : ∃ X, (w.alloc (.cells #[.slice fA fL fC, .int .i64 p.words, .int .i64 p.mutexes, .int .i64 p.conds, .slice sA sL sC, .slice pA pL pC, .int .i64 p.blocks, .int .i64 p.prio] 25)).alloc (.cells #[.int .i64 f.fn, .int .i64 f.pc, .int .u64 (f.r 0 : Nat), .int .u64 (f.r 1 : Nat), .int .u64 (f.r 2 : Nat), .int .u64 (f.r 3 : Nat), .int .u64 (f.r 4 : Nat), .int .u64 (f.r 5 : Nat), .int .u64 (f.r 6 : Nat), .int .u64 (f.r 7 : Nat)] 29) = X := ⟨_, rfl⟩
  obtain ⟨b1, b2, u0, z0⟩ := two_box _ _ _ _ _ _ e3
  have hX := prg_up h u0
  have q1 := b1.cell
  have q2 := b2.cell
  go_enter Try.func3, Try.ntmps3
  go_wp2_with fail
  try rw [e3]
  clear e3 q1 q2
  refine (Next_any ⟨fA, fL, fC, sA, sL, sC, pA, pL, pC⟩ p f X hX).mono ?_
  rintro e w1 ⟨rfl, hb⟩
  rw [e1, hn]
  have c1 := b1.up hb
  have c2 := b2.up hb
  have u1 := Dk.up_call u0 hb
  have n1 := c1.lt
  have n2 := c2.lt
  obtain ⟨W, eW⟩ : ∃ W, w1.alloc (.cells #[.int .i64 Dk.Ins.zero.op, .int .i64 Dk.Ins.zero.a, .int .i64 Dk.Ins.zero.b, .int .i64 Dk.Ins.zero.c, .int .u64 (Dk.Ins.zero.n : Nat)] 31) = W := ⟨_, rfl⟩
  have d1 : Dk.Box W w.heap.size #[.slice fA fL fC, .int .i64 p.words, .int .i64 p.mutexes, .int .i64 p.conds, .slice sA sL sC, .slice pA pL pC, .int .i64 p.blocks, .int .i64 p.prio] 25 := eW ▸ c1.old _
  have d2 : Dk.Box W (w.heap.size + 1) #[.int .i64 f.fn, .int .i64 f.pc, .int .u64 (f.r 0 : Nat), .int .u64 (f.r 1 : Nat), .int .u64 (f.r 2 : Nat), .int .u64 (f.r 3 : Nat), .int .u64 (f.r 4 : Nat), .int .u64 (f.r 5 : Nat), .int .u64 (f.r 6 : Nat), .int .u64 (f.r 7 : Nat)] 29 := eW ▸ c2.old _
  have d3 : Dk.Box W w1.heap.size (Dk.ic Dk.Ins.zero) 31 := eW ▸ Dk.Box.new _ _ _
  have u2 : Below w.heap.size w W := eW ▸ Dk.up_alloc u1 _
  have k1 := d1.cell
  have k2 := d2.cell
  clear hb c1 c2 b1 b2 z0 u0 u1 hX h hn e1
  have HEW : Hid _ := eW
  clear eW
  go_wp2_with fail
  rw [HEW.out]
  clear HEW
  go_quiet (fail)
  go_wp2_with fail
  refine (awake_any _).mono ?_
  rintro e w3 ⟨rfl, h3⟩
  have k3 := ((d3.drewN nq).up h3).cell
  have u3 := Dk.up_call (Dk.up_drewN u2 nq) h3
  clear k1 k2 d1 d2 d3 h3 u2
  go_wp2
  go_ret
  exact ⟨rfl, u3⟩

set_option maxRecDepth 100000 in
set_option maxHeartbeats 1000000 in
theorem nexts_none2 (fA sA pA : Option Addr) (fL fC sL sC pL pC : Nat) (p : Dk.Prg) (f : Dk.Frm) (w : World) (h : Dk.PrgAt w.heap.size w ⟨fA, fL, fC, sA, sL, sC, pA, pL, pC⟩ p) (hn : Dk.nextB p f = false) (g0 : ¬ f.fn < 0) (g1 : (fL : Int) ≤ f.fn) :
    Calls Try.prog 3 #[Dk.pv ⟨fA, fL, fC, sA, sL, sC, pA, pL, pC⟩ p, Dk.fv f] w fun e w' => e = .returned (.bool true) ∧ Below w.heap.size w w' := by
  have x0 : 0 ≤ f.fn := by omega
  have y0 : decide (f.fn < 0) = false := by simp; omega
  have y1 : decide ((fL : Int) ≤ f.fn) = true := by simp; omega
  have e1 : Dk.nextI p f = Dk.Ins.zero := by unfold Dk.nextI; rw [hn]; rfl
  obtain ⟨X, e3⟩ : ∃ X, (w.alloc (.cells #[.slice fA fL fC, .int .i64 p.words, .int .i64 p.mutexes, .int .i64 p.conds, .slice sA sL sC, .slice pA pL pC, .int .i64 p.blocks, .int .i64 p.prio] 25)).alloc (.cells #[.int .i64 f.fn, .int .i64 f.pc, .int .u64 (f.r 0 : Nat), .int .u64 (f.r 1 : Nat), .int .u64 (f.r 2 : Nat), .int .u64 (f.r 3 : Nat), .int .u64 (f.r 4 : Nat), .int .u64 (f.r 5 : Nat), .int .u64 (f.r 6 : Nat), .int .u64 (f.r 7 : Nat)] 29) = X := ⟨_, rfl⟩
  obtain ⟨b1, b2, u0, z0⟩ := two_box _ _ _ _ _ _ e3
  have hX := prg_up h u0
  have q1 := b1.cell
  have q2 := b2.cell
  go_enter Try.func3, Try.ntmps3
  go_wp2_with fail
  try rw [e3]
  clear e3 q1 q2
  refine (Next_any ⟨fA, fL, fC, sA, sL, sC, pA, pL, pC⟩ p f X hX).mono ?_
  rintro e w1 ⟨rfl, hb⟩
  rw [e1, hn]
  have c1 := b1.up hb
  have c2 := b2.up hb
  have u1 := Dk.up_call u0 hb
  have n1 := c1.lt
  have n2 := c2.lt
  obtain ⟨W, eW⟩ : ∃ W, w1.alloc (.cells #[.int .i64 Dk.Ins.zero.op, .int .i64 Dk.Ins.zero.a, .int .i64 Dk.Ins.zero.b, .int .i64 Dk.Ins.zero.c, .int .u64 (Dk.Ins.zero.n : Nat)] 31) = W := ⟨_, rfl⟩
  have d1 : Dk.Box W w.heap.size #[.slice fA fL fC, .int .i64 p.words, .int .i64 p.mutexes, .int .i64 p.conds, .slice sA sL sC, .slice pA pL pC, .int .i64 p.blocks, .int .i64 p.prio] 25 := eW ▸ c1.old _
  have d2 : Dk.Box W (w.heap.size + 1) #[.int .i64 f.fn, .int .i64 f.pc, .int .u64 (f.r 0 : Nat), .int .u64 (f.r 1 : Nat), .int .u64 (f.r 2 : Nat), .int .u64 (f.r 3 : Nat), .int .u64 (f.r 4 : Nat), .int .u64 (f.r 5 : Nat), .int .u64 (f.r 6 : Nat), .int .u64 (f.r 7 : Nat)] 29 := eW ▸ c2.old _
  have d3 : Dk.Box W w1.heap.size (Dk.ic Dk.Ins.zero) 31 := eW ▸ Dk.Box.new _ _ _
  have u2 : Below w.heap.size w W := eW ▸ Dk.up_alloc u1 _
  have k1 := d1.cell
  have k2 := d2.cell
  clear hb c1 c2 b1 b2 z0 u0 u1 hX h hn e1
  have HEW : Hid _ := eW
  clear eW
  go_wp2_with fail
  rw [HEW.out]
  clear HEW
  go_quiet (fail)
  go_wp2_with fail
  refine (awake_any _).mono ?_
  rintro e w3 ⟨rfl, h3⟩
  have k3 := ((d3.drewN nq).up h3).cell
  have u3 := Dk.up_call (Dk.up_drewN u2 nq) h3
  clear k1 k2 d1 d2 d3 h3 u2
  go_wp2
  go_ret
  exact ⟨rfl, u3⟩

set_option maxRecDepth 100000 in
set_option maxHeartbeats 1000000 in
theorem nexts_none3 (fA sA pA : Option Addr) (fL fC sL sC pL pC : Nat) (p : Dk.Prg) (f : Dk.Frm) (w : World) (h : Dk.PrgAt w.heap.size w ⟨fA, fL, fC, sA, sL, sC, pA, pL, pC⟩ p) (hn : Dk.nextB p f = false) (g0 : ¬ f.fn < 0) (g1 : ¬ (fL : Int) ≤ f.fn) (g2 : f.pc < 0) :
    Calls Try.prog 3 #[Dk.pv ⟨fA, fL, fC, sA, sL, sC, pA, pL, pC⟩ p, Dk.fv f] w fun e w' => e = .returned (.bool true) ∧ Below w.heap.size w w' := by
  have x0 : 0 ≤ f.fn := by omega
  have x1 : f.fn < (fL : Int) := by omega
  have y0 : decide (f.fn < 0) = false := by simp; omega
  have y1 : decide ((fL : Int) ≤ f.fn) = false := by simp; omega
  have y2 : decide (f.pc < 0) = true := by simp; omega
  have e1 : Dk.nextI p f = Dk.Ins.zero := by unfold Dk.nextI; rw [hn]; rfl
  obtain ⟨X, e3⟩ : ∃ X, (w.alloc (.cells #[.slice fA fL fC, .int .i64 p.words, .int .i64 p.mutexes, .int .i64 p.conds, .slice sA sL sC, .slice pA pL pC, .int .i64 p.blocks, .int .i64 p.prio] 25)).alloc (.cells #[.int .i64 f.fn, .int .i64 f.pc, .int .u64 (f.r 0 : Nat), .int .u64 (f.r 1 : Nat), .int .u64 (f.r 2 : Nat), .int .u64 (f.r 3 : Nat), .int .u64 (f.r 4 : Nat), .int .u64 (f.r 5 : Nat), .int .u64 (f.r 6 : Nat), .int .u64 (f.r 7 : Nat)] 29) = X := ⟨_, rfl⟩
  obtain ⟨b1, b2, u0, z0⟩ := two_box _ _ _ _ _ _ e3
  have hX := prg_up h u0
  have q1 := b1.cell
  have q2 := b2.cell
  go_enter Try.func3, Try.ntmps3
  go_wp2_with fail
  try rw [e3]
  clear e3 q1 q2
  refine (Next_any ⟨fA, fL, fC, sA, sL, sC, pA, pL, pC⟩ p f X hX).mono ?_
  rintro e w1 ⟨rfl, hb⟩
  rw [e1, hn]
  have c1 := b1.up hb
  have c2 := b2.up hb
  have u1 := Dk.up_call u0 hb
  have n1 := c1.lt
  have n2 := c2.lt
  obtain ⟨W, eW⟩ : ∃ W, w1.alloc (.cells #[.int .i64 Dk.Ins.zero.op, .int .i64 Dk.Ins.zero.a, .int .i64 Dk.Ins.zero.b, .int .i64 Dk.Ins.zero.c, .int .u64 (Dk.Ins.zero.n : Nat)] 31) = W := ⟨_, rfl⟩
  have d1 : Dk.Box W w.heap.size #[.slice fA fL fC, .int .i64 p.words, .int .i64 p.mutexes, .int .i64 p.conds, .slice sA sL sC, .slice pA pL pC, .int .i64 p.blocks, .int .i64 p.prio] 25 := eW ▸ c1.old _
  have d2 : Dk.Box W (w.heap.size + 1) #[.int .i64 f.fn, .int .i64 f.pc, .int .u64 (f.r 0 : Nat), .int .u64 (f.r 1 : Nat), .int .u64 (f.r 2 : Nat), .int .u64 (f.r 3 : Nat), .int .u64 (f.r 4 : Nat), .int .u64 (f.r 5 : Nat), .int .u64 (f.r 6 : Nat), .int .u64 (f.r 7 : Nat)] 29 := eW ▸ c2.old _
  have d3 : Dk.Box W w1.heap.size (Dk.ic Dk.Ins.zero) 31 := eW ▸ Dk.Box.new _ _ _
  have u2 : Below w.heap.size w W := eW ▸ Dk.up_alloc u1 _
  have k1 := d1.cell
  have k2 := d2.cell
  clear hb c1 c2 b1 b2 z0 u0 u1 hX h hn e1
  have HEW : Hid _ := eW
  clear eW
  go_wp2_with fail
  rw [HEW.out]
  clear HEW
  go_quiet (fail)
  go_wp2_with fail
  refine (awake_any _).mono ?_
  rintro e w3 ⟨rfl, h3⟩
  have k3 := ((d3.drewN nq).up h3).cell
  have u3 := Dk.up_call (Dk.up_drewN u2 nq) h3
  clear k1 k2 d1 d2 d3 h3 u2
  go_wp2
  go_ret
  exact ⟨rfl, u3⟩

set_option maxRecDepth 100000 in
set_option maxHeartbeats 1000000 in
theorem nexts_none4 (fA sA pA : Option Addr) (fL fC sL sC pL pC : Nat) (p : Dk.Prg) (f : Dk.Frm) (w : World) (h : Dk.PrgAt w.heap.size w ⟨fA, fL, fC, sA, sL, sC, pA, pL, pC⟩ p) (hn : Dk.nextB p f = false) (fb fo : Nat) (A' : Option Addr) (L' C' : Nat) (hfA : fA = some ⟨fb, fo, none⟩) (hfb : fb < w.heap.size) (hc : w.cell? ⟨fb, fo + f.fn.toNat, none⟩ = some (.slice A' L' C')) (g0 : ¬ f.fn < 0) (g1 : ¬ (fL : Int) ≤ f.fn) (g2 : ¬ f.pc < 0) (g3 : (L' : Int) ≤ f.pc) :
    Calls Try.prog 3 #[Dk.pv ⟨fA, fL, fC, sA, sL, sC, pA, pL, pC⟩ p, Dk.fv f] w fun e w' => e = .returned (.bool true) ∧ Below w.heap.size w w' := by
  subst hfA
  have x0 : 0 ≤ f.fn := by omega
  have x1 : f.fn < (fL : Int) := by omega
  have e1 : Dk.nextI p f = Dk.Ins.zero := by unfold Dk.nextI; rw [hn]; rfl
  obtain ⟨X, e3⟩ : ∃ X, (w.alloc (.cells #[.slice (some ⟨fb, fo, none⟩) fL fC, .int .i64 p.words, .int .i64 p.mutexes, .int .i64 p.conds, .slice sA sL sC, .slice pA pL pC, .int .i64 p.blocks, .int .i64 p.prio] 25)).alloc (.cells #[.int .i64 f.fn, .int .i64 f.pc, .int .u64 (f.r 0 : Nat), .int .u64 (f.r 1 : Nat), .int .u64 (f.r 2 : Nat), .int .u64 (f.r 3 : Nat), .int .u64 (f.r 4 : Nat), .int .u64 (f.r 5 : Nat), .int .u64 (f.r 6 : Nat), .int .u64 (f.r 7 : Nat)] 29) = X := ⟨_, rfl⟩
  obtain ⟨b1, b2, u0, z0⟩ := two_box _ _ _ _ _ _ e3
  have hX := prg_up h u0
  have q1 := b1.cell
  have q2 := b2.cell
  go_enter Try.func3, Try.ntmps3
  go_wp2_with fail
  try rw [e3]
  clear e3 q1 q2
  refine (Next_any ⟨some ⟨fb, fo, none⟩, fL, fC, sA, sL, sC, pA, pL, pC⟩ p f X hX).mono ?_
  rintro e w1 ⟨rfl, hb⟩
  rw [e1, hn]
  have c1 := b1.up hb
  have c2 := b2.up hb
  have u1 := Dk.up_call u0 hb
  have n1 := c1.lt
  have n2 := c2.lt
  obtain ⟨W, eW⟩ : ∃ W, w1.alloc (.cells #[.int .i64 Dk.Ins.zero.op, .int .i64 Dk.Ins.zero.a, .int .i64 Dk.Ins.zero.b, .int .i64 Dk.Ins.zero.c, .int .u64 (Dk.Ins.zero.n : Nat)] 31) = W := ⟨_, rfl⟩
  have d1 : Dk.Box W w.heap.size #[.slice (some ⟨fb, fo, none⟩) fL fC, .int .i64 p.words, .int .i64 p.mutexes, .int .i64 p.conds, .slice sA sL sC, .slice pA pL pC, .int .i64 p.blocks, .int .i64 p.prio] 25 := eW ▸ c1.old _
  have d2 : Dk.Box W (w.heap.size + 1) #[.int .i64 f.fn, .int .i64 f.pc, .int .u64 (f.r 0 : Nat), .int .u64 (f.r 1 : Nat), .int .u64 (f.r 2 : Nat), .int .u64 (f.r 3 : Nat), .int .u64 (f.r 4 : Nat), .int .u64 (f.r 5 : Nat), .int .u64 (f.r 6 : Nat), .int .u64 (f.r 7 : Nat)] 29 := eW ▸ c2.old _
  have d3 : Dk.Box W w1.heap.size (Dk.ic Dk.Ins.zero) 31 := eW ▸ Dk.Box.new _ _ _
  have u2 : Below w.heap.size w W := eW ▸ Dk.up_alloc u1 _
  have hw : W.cell? ⟨fb, fo + f.fn.toNat, none⟩ = some (.slice A' L' C') := by rw [u2.cell (by show fb < w.heap.size; exact hfb)]; exact hc
  clear hc
  have k1 := d1.cell
  have k2 := d2.cell
  clear hb c1 c2 b1 b2 z0 u0 u1 hX h hn e1
  have HEW : Hid _ := eW
  clear eW
  go_wp2_with fail
  rw [HEW.out]
  clear HEW
  go_quiet (fail)
  go_wp2_with fail
  refine (awake_any _).mono ?_
  rintro e w3 ⟨rfl, h3⟩
  have k3 := ((d3.drewN nq).up h3).cell
  have u3 := Dk.up_call (Dk.up_drewN u2 nq) h3
  clear k1 k2 d1 d2 d3 h3 u2
  go_wp2
  go_ret
  exact ⟨rfl, u3⟩

theorem upc {X : World} {b o : Nat} {v : Value} (h : X.cell? ⟨b, o, none⟩ = some v) : ∀ x : Dk.Up X, x.wd.cell? ⟨b, o, none⟩ = some v := fun x => by
  rw [← h]
  exact Below.cell (p := ⟨b, o, none⟩) x.property (Dk.lt_of_cell h)

set_option maxRecDepth 100000 in
set_option maxHeartbeats 2000000 in
theorem nexts_some (fA sA pA : Option Addr) (fL fC sL sC pL pC : Nat) (p : Dk.Prg) (f : Dk.Frm) (w : World) (h : Dk.PrgAt w.heap.size w ⟨fA, fL, fC, sA, sL, sC, pA, pL, pC⟩ p) (hn : Dk.nextB p f = true) (i : Dk.Ins) (hni : Dk.nextI p f = i) (fb fo ib io L' C' : Nat) (hfA : fA = some ⟨fb, fo, none⟩) (hfb : fb < w.heap.size) (hib : ib < w.heap.size) (hc : w.cell? ⟨fb, fo + f.fn.toNat, none⟩ = some (.slice (some ⟨ib, io, none⟩) L' C'))
    (hi : w.cell? ⟨ib, io + f.pc.toNat * 5, none⟩ = some (.int .i64 i.op) ∧ w.cell? ⟨ib, io + f.pc.toNat * 5 + 1, none⟩ = some (.int .i64 i.a) ∧ w.cell? ⟨ib, io + f.pc.toNat * 5 + 2, none⟩ = some (.int .i64 i.b) ∧ w.cell? ⟨ib, io + f.pc.toNat * 5 + 3, none⟩ = some (.int .i64 i.c) ∧ w.cell? ⟨ib, io + f.pc.toNat * 5 + 4, none⟩ = some (.int .u64 (i.n : Nat)))
    (x0 : 0 ≤ f.fn) (x1 : f.fn < (fL : Int)) (y0 : 0 ≤ f.pc) (y1 : f.pc < (L' : Int)) :
    Calls Try.prog 3 #[Dk.pv ⟨fA, fL, fC, sA, sL, sC, pA, pL, pC⟩ p, Dk.fv f] w fun e w' => e = .returned (.bool true) ∧ Below w.heap.size w w' := by
  subst hfA
  have p0 : decide (f.fn < 0) = false := by simp; omega
  have p1 : decide ((fL : Int) ≤ f.fn) = false := by simp; omega
  have p2 : decide (f.pc < 0) = false := by simp; omega
  have p3 : decide ((L' : Int) ≤ f.pc) = false := by simp; omega
  obtain ⟨X, e3⟩ : ∃ X, (w.alloc (.cells #[.slice (some ⟨fb, fo, none⟩) fL fC, .int .i64 p.words, .int .i64 p.mutexes, .int .i64 p.conds, .slice sA sL sC, .slice pA pL pC, .int .i64 p.blocks, .int .i64 p.prio] 25)).alloc (.cells #[.int .i64 f.fn, .int .i64 f.pc, .int .u64 (f.r 0 : Nat), .int .u64 (f.r 1 : Nat), .int .u64 (f.r 2 : Nat), .int .u64 (f.r 3 : Nat), .int .u64 (f.r 4 : Nat), .int .u64 (f.r 5 : Nat), .int .u64 (f.r 6 : Nat), .int .u64 (f.r 7 : Nat)] 29) = X := ⟨_, rfl⟩
  obtain ⟨b1, b2, u0, z0⟩ := two_box _ _ _ _ _ _ e3
  have hX := prg_up h u0
  have q1 := b1.cell
  have q2 := b2.cell
  go_enter Try.func3, Try.ntmps3
  go_wp2_with fail
  try rw [e3]
  clear e3 q1 q2
  refine (Next_any ⟨some ⟨fb, fo, none⟩, fL, fC, sA, sL, sC, pA, pL, pC⟩ p f X hX).mono ?_
  rintro e w1 ⟨rfl, hb⟩
  rw [hni, hn]
  have c1 := b1.up hb
  have c2 := b2.up hb
  have u1 := Dk.up_call u0 hb
  have n1 := c1.lt
  have n2 := c2.lt
  obtain ⟨W, eW⟩ : ∃ W, w1.alloc (.cells #[.int .i64 i.op, .int .i64 i.a, .int .i64 i.b, .int .i64 i.c, .int .u64 (i.n : Nat)] 31) = W := ⟨_, rfl⟩
  have d1 : Dk.Box W w.heap.size #[.slice (some ⟨fb, fo, none⟩) fL fC, .int .i64 p.words, .int .i64 p.mutexes, .int .i64 p.conds, .slice sA sL sC, .slice pA pL pC, .int .i64 p.blocks, .int .i64 p.prio] 25 := eW ▸ c1.old _
  have d2 : Dk.Box W (w.heap.size + 1) #[.int .i64 f.fn, .int .i64 f.pc, .int .u64 (f.r 0 : Nat), .int .u64 (f.r 1 : Nat), .int .u64 (f.r 2 : Nat), .int .u64 (f.r 3 : Nat), .int .u64 (f.r 4 : Nat), .int .u64 (f.r 5 : Nat), .int .u64 (f.r 6 : Nat), .int .u64 (f.r 7 : Nat)] 29 := eW ▸ c2.old _
  have d3 : Dk.Box W w1.heap.size (Dk.ic i) 31 := eW ▸ Dk.Box.new _ _ _
  have u2 : Below w.heap.size w W := eW ▸ Dk.up_alloc u1 _
  have hw : W.cell? ⟨fb, fo + f.fn.toNat, none⟩ = some (.slice (some ⟨ib, io, none⟩) L' C') := by rw [u2.cell (by show fb < w.heap.size; exact hfb)]; exact hc
  have hall : ∀ o, W.cell? ⟨ib, o, none⟩ = w.cell? ⟨ib, o, none⟩ := fun o => u2.cell (by show ib < w.heap.size; exact hib)
  rw [← hall, ← hall, ← hall, ← hall, ← hall] at hi
  have HI : Hid _ := hi
  have k1 := d1.cell
  have k2 := d2.cell
  have HEW : Hid _ := eW
  clear hc hall hi eW hb c1 c2 b1 b2 z0 u0 u1 hX h hn hni
  go_wp2_with fail
  rw [HEW.out]
  clear HEW
  go_quiet (fail)
  go_wp2
  have hw' : (W.drewN nq).cell? ⟨fb, fo + f.fn.toNat, none⟩ = some (.slice (some ⟨ib, io, none⟩) L' C') := hw
  obtain ⟨i0, i1, i2, i3, i4⟩ : (W.drewN nq).cell? ⟨ib, io + f.pc.toNat * 5, none⟩ = some (.int .i64 i.op) ∧ (W.drewN nq).cell? ⟨ib, io + f.pc.toNat * 5 + 1, none⟩ = some (.int .i64 i.a) ∧ (W.drewN nq).cell? ⟨ib, io + f.pc.toNat * 5 + 2, none⟩ = some (.int .i64 i.b) ∧ (W.drewN nq).cell? ⟨ib, io + f.pc.toNat * 5 + 3, none⟩ = some (.int .i64 i.c) ∧ (W.drewN nq).cell? ⟨ib, io + f.pc.toNat * 5 + 4, none⟩ = some (.int .u64 (i.n : Nat)) := HI.out
  have m1 := upcell (d1.drewN nq)
  have m2 := upcell (d2.drewN nq)
  have m3 := upcell (d3.drewN nq)
  have m4 := upc hw'
  have j0 := upc i0
  have j1 := upc i1
  have j2 := upc i2
  have j3 := upc i3
  have j4 := upc i4
  have uV := Dk.up_drewN u2 nq
  clear k1 k2 d1 d2 d3 hw hw' i0 i1 i2 i3 i4 HI u2
  generalize W.drewN nq = V at *
  have hne : Nonempty (Dk.Up V) := ⟨⟨V, Below.refl _ _⟩⟩
  refine Dk.wp_region_up_lit (by kernel_rfl) (by kernel_rfl) ?_
  repeat (go_big_quiet_step ((go_at_call 9; exact Dk.calls_up _ (awake_any _))))
  refine wpQuiet_nil ?_
  rintro _ ⟨x, rfl⟩
  have ux : Below V.heap.size V x.wd := x.property
  go_wp2
  go_ret
  exact ⟨rfl, Dk.up_call uV ux⟩

theorem nexts_any (s : Dk.Sh) (p : Dk.Prg) (f : Dk.Frm) (w : World) (h : Dk.PrgAt w.heap.size w s p) :
    Calls Try.prog 3 #[Dk.pv s p, Dk.fv f] w fun e w' => e = .returned (.bool true) ∧ Below w.heap.size w w' := by
  obtain ⟨fA, fL, fC, sA, sL, sC, pA, pL, pC⟩ := s
  have hfn := h.funcs
  have hlen : p.funcs.length = fL := hfn.len
  by_cases a0 : f.fn < 0
  · exact nexts_none1 fA sA pA fL fC sL sC pL pC p f w h (by unfold Dk.nextB; rw [Dk.plB_no.2 (by omega)]; rfl) a0
  by_cases a1 : (fL : Int) ≤ f.fn
  · exact nexts_none2 fA sA pA fL fC sL sC pL pC p f w h (by unfold Dk.nextB; rw [Dk.plB_no.2 (by omega)]; rfl) a0 a1
  by_cases a2 : f.pc < 0
  · exact nexts_none3 fA sA pA fL fC sL sC pL pC p f w h (by unfold Dk.nextB; rw [(Dk.plB_no (x := f.pc)).2 (by omega), Bool.and_false]) a0 a1 a2
  obtain ⟨fb, fo, e, hfb, hc⟩ := hfn.cells (by show 0 < fL; omega)
  obtain ⟨A', L', C', hc1, hN⟩ := hc f.fn.toNat (by show f.fn.toNat < fL; omega)
  have hl' : (p.funcs.getD f.fn.toNat []).length = L' := hN.len
  by_cases a3 : (L' : Int) ≤ f.pc
  · exact nexts_none4 fA sA pA fL fC sL sC pL pC p f w h (by unfold Dk.nextB; rw [hl', (Dk.plB_no (x := f.pc)).2 (by omega), Bool.and_false]) fb fo A' L' C' e hfb hc1 a0 a1 a2 a3
  obtain ⟨ib, io, rfl, hib, hi⟩ := hN.cells (by omega)
  have hn : Dk.nextB p f = true := by unfold Dk.nextB; rw [hlen, hl', Dk.plB_iff.2 (by omega), Dk.plB_iff.2 (by omega)]; rfl
  exact nexts_some fA sA pA fL fC sL sC pL pC p f w h hn _ (by unfold Dk.nextI; rw [hn]; rfl) fb fo ib io L' C' e hfb hib hc1 (hi f.pc.toNat (by omega)) (by omega) (by omega) (by omega) (by omega)

end Go.Proofs.Ytmkeniobnjpohaa
