/- The walks of the statement on plain instructions, where one may not be. -/
import Derived.Test.YtmkeniobnjpohaaLs
import Derived.Test.YtmkeniobnjpohaaHas
namespace Go.Proofs.Ytmkeniobnjpohaa
set_option linter.unusedSimpArgs false
set_option linter.unusedVariables false
set_option linter.unnecessarySimpa false
open Go.RowKit

set_option maxRecDepth 100000 in
set_option maxHeartbeats 1000000 in
theorem plains_long (f : Dk.Frm) (op a b c : Int) (n : Nat) (A : Option Addr) (L C : Nat) (m : List Nat) (w : World) (hr : Dk.Row 1 0 Dk.IsWord w.heap.size w A L C m) (hL : 200 < L) :
    Calls Try.prog 5 #[Dk.fv f, .agg #[.int .i64 op, .int .i64 a, .int .i64 b, .int .i64 c, .int .u64 (n : Nat)], .slice A L C] w fun e w' => e = .returned (.bool true) ∧ Below w.heap.size w w' := by
  have y0 : decide ((200 : Int) < (L : Int)) = true := by simp; omega
  go_enter Try.func5, Try.ntmps5
  go_wp2_with fail
  refine (awake_any _).mono ?_
  rintro e w1 ⟨rfl, hb⟩
  go_wp2_with fail
  go_ret
  exact ⟨rfl, Dk.up_call (Dk.up_alloc (Dk.up_alloc (Below.refl _ _) _) _) hb⟩

set_option maxRecDepth 100000 in
set_option maxHeartbeats 1000000 in
theorem plains_err0 (f : Dk.Frm) (op a b c : Int) (n : Nat) (A : Option Addr) (L C : Nat) (m : List Nat) (w : World) (hr : Dk.Row 1 0 Dk.IsWord w.heap.size w A L C m) (hL : L ≤ 200) (hP : ErrSaid f ⟨op, a, b, c, n⟩ A L C m 8) (h1 : decide ((1 : Int) ≤ op) = false) :
    Calls Try.prog 5 #[Dk.fv f, .agg #[.int .i64 op, .int .i64 a, .int .i64 b, .int .i64 c, .int .u64 (n : Nat)], .slice A L C] w fun e w' => e = .returned (.bool true) ∧ Below w.heap.size w w' := by
  have y0 : decide ((200 : Int) < (L : Int)) = false := by simp; omega
  obtain ⟨X, e3⟩ : ∃ X, (w.alloc (.cells #[.int .i64 f.fn, .int .i64 f.pc, .int .u64 (f.r 0 : Nat), .int .u64 (f.r 1 : Nat), .int .u64 (f.r 2 : Nat), .int .u64 (f.r 3 : Nat), .int .u64 (f.r 4 : Nat), .int .u64 (f.r 5 : Nat), .int .u64 (f.r 6 : Nat), .int .u64 (f.r 7 : Nat)] 29)).alloc (.cells #[.int .i64 op, .int .i64 a, .int .i64 b, .int .i64 c, .int .u64 (n : Nat)] 31) = X := ⟨_, rfl⟩
  obtain ⟨b1, b2, u0, z0⟩ := two_box _ _ _ _ _ _ e3
  have hX := hr.up u0
  have q1 := b1.cell
  have q2 := b2.cell
  go_enter Try.func5, Try.ntmps5
  go_wp2_with fail
  try rw [e3]
  clear e3 q1 q2
  refine (hP X hX).mono ?_
  rintro e w1 ⟨rfl, hb⟩
  have c1 := b1.up hb
  have c2 := b2.up hb
  have u1 := Dk.up_call u0 hb
  have n1 := c1.lt
  have n2 := c2.lt
  obtain ⟨Y, eY⟩ : ∃ Y, w1.alloc (.cells #[.int .i64 Dk.Frm.zero.fn, .int .i64 Dk.Frm.zero.pc, .int .u64 (Dk.Frm.zero.r 0 : Nat), .int .u64 (Dk.Frm.zero.r 1 : Nat), .int .u64 (Dk.Frm.zero.r 2 : Nat), .int .u64 (Dk.Frm.zero.r 3 : Nat), .int .u64 (Dk.Frm.zero.r 4 : Nat), .int .u64 (Dk.Frm.zero.r 5 : Nat), .int .u64 (Dk.Frm.zero.r 6 : Nat), .int .u64 (Dk.Frm.zero.r 7 : Nat)] 29) = Y := ⟨_, rfl⟩
  have d1 : Dk.Box Y w.heap.size (Dk.fc f) 29 := eY ▸ c1.old _
  have d2 : Dk.Box Y (w.heap.size + 1) #[.int .i64 op, .int .i64 a, .int .i64 b, .int .i64 c, .int .u64 (n : Nat)] 31 := eY ▸ c2.old _
  have d3 : Dk.Box Y w1.heap.size (Dk.fc Dk.Frm.zero) 29 := eY ▸ Dk.Box.new _ _ _
  have u2 : Below w.heap.size w Y := eY ▸ Dk.up_alloc u1 _
  have HEY : Hid _ := eY
  clear eY
  have t2 := c2.cell
  clear hb b1 b2 z0 u0 u1 hX
  go_wp2_with fail
  try rw [HEY.out]
  clear HEY t2 c1 c2
  refine (Has_any _ _).mono ?_
  rintro e w2 ⟨rfl, hb⟩
  have c1 := d1.up hb
  have c2 := d2.up hb
  have c3 := d3.up hb
  have u3 := Dk.up_call u2 hb
  have t2 := c2.cell
  clear d1 d2 d3 u2 hb
  go_wp2_with (go_at_call 14; refine (reg_any _ _).mono ?_; rintro e w' ⟨rfl, rfl⟩)
  clear t2
  refine (awake_any _).mono ?_
  rintro e w3 ⟨rfl, hb3⟩
  have t3 := (c3.up hb3).cell
  have u4 := Dk.up_call u3 hb3
  have hs2 : ∀ w, (Op.equalIn 9999 27 (.agg #[.int .u64 (Dk.Frm.zero.r 0 : Nat), .int .u64 (Dk.Frm.zero.r 1 : Nat), .int .u64 (Dk.Frm.zero.r 2 : Nat), .int .u64 (Dk.Frm.zero.r 3 : Nat), .int .u64 (Dk.Frm.zero.r 4 : Nat), .int .u64 (Dk.Frm.zero.r 5 : Nat), .int .u64 (Dk.Frm.zero.r 6 : Nat), .int .u64 (Dk.Frm.zero.r 7 : Nat)]) (.agg #[.int .u64 0, .int .u64 0, .int .u64 0, .int .u64 0, .int .u64 0, .int .u64 0, .int .u64 0, .int .u64 0])).run Try.prog w = .ok true w := same_words 9997 (fun _ => 0)
  have hg := Try.eqGuardType29
  clear c1 c2 c3 u3 hb3
  go_wp2_with fail
  go_ret
  exact ⟨rfl, u4⟩

set_option maxRecDepth 100000 in
set_option maxHeartbeats 1000000 in
theorem plains_err1 (f : Dk.Frm) (op a b c : Int) (n : Nat) (A : Option Addr) (L C : Nat) (m : List Nat) (w : World) (hr : Dk.Row 1 0 Dk.IsWord w.heap.size w A L C m) (hL : L ≤ 200) (hP : ErrSaid f ⟨op, a, b, c, n⟩ A L C m 8) (h1 : decide ((1 : Int) ≤ op) = true) (h2 : decide (op ≤ 19) = false) :
    Calls Try.prog 5 #[Dk.fv f, .agg #[.int .i64 op, .int .i64 a, .int .i64 b, .int .i64 c, .int .u64 (n : Nat)], .slice A L C] w fun e w' => e = .returned (.bool true) ∧ Below w.heap.size w w' := by
  have y0 : decide ((200 : Int) < (L : Int)) = false := by simp; omega
  obtain ⟨X, e3⟩ : ∃ X, (w.alloc (.cells #[.int .i64 f.fn, .int .i64 f.pc, .int .u64 (f.r 0 : Nat), .int .u64 (f.r 1 : Nat), .int .u64 (f.r 2 : Nat), .int .u64 (f.r 3 : Nat), .int .u64 (f.r 4 : Nat), .int .u64 (f.r 5 : Nat), .int .u64 (f.r 6 : Nat), .int .u64 (f.r 7 : Nat)] 29)).alloc (.cells #[.int .i64 op, .int .i64 a, .int .i64 b, .int .i64 c, .int .u64 (n : Nat)] 31) = X := ⟨_, rfl⟩
  obtain ⟨b1, b2, u0, z0⟩ := two_box _ _ _ _ _ _ e3
  have hX := hr.up u0
  have q1 := b1.cell
  have q2 := b2.cell
  go_enter Try.func5, Try.ntmps5
  go_wp2_with fail
  try rw [e3]
  clear e3 q1 q2
  refine (hP X hX).mono ?_
  rintro e w1 ⟨rfl, hb⟩
  have c1 := b1.up hb
  have c2 := b2.up hb
  have u1 := Dk.up_call u0 hb
  have n1 := c1.lt
  have n2 := c2.lt
  obtain ⟨Y, eY⟩ : ∃ Y, w1.alloc (.cells #[.int .i64 Dk.Frm.zero.fn, .int .i64 Dk.Frm.zero.pc, .int .u64 (Dk.Frm.zero.r 0 : Nat), .int .u64 (Dk.Frm.zero.r 1 : Nat), .int .u64 (Dk.Frm.zero.r 2 : Nat), .int .u64 (Dk.Frm.zero.r 3 : Nat), .int .u64 (Dk.Frm.zero.r 4 : Nat), .int .u64 (Dk.Frm.zero.r 5 : Nat), .int .u64 (Dk.Frm.zero.r 6 : Nat), .int .u64 (Dk.Frm.zero.r 7 : Nat)] 29) = Y := ⟨_, rfl⟩
  have d1 : Dk.Box Y w.heap.size (Dk.fc f) 29 := eY ▸ c1.old _
  have d2 : Dk.Box Y (w.heap.size + 1) #[.int .i64 op, .int .i64 a, .int .i64 b, .int .i64 c, .int .u64 (n : Nat)] 31 := eY ▸ c2.old _
  have d3 : Dk.Box Y w1.heap.size (Dk.fc Dk.Frm.zero) 29 := eY ▸ Dk.Box.new _ _ _
  have u2 : Below w.heap.size w Y := eY ▸ Dk.up_alloc u1 _
  have HEY : Hid _ := eY
  clear eY
  have t2 := c2.cell
  clear hb b1 b2 z0 u0 u1 hX
  go_wp2_with fail
  try rw [HEY.out]
  clear HEY t2 c1 c2
  refine (Has_any _ _).mono ?_
  rintro e w2 ⟨rfl, hb⟩
  have c1 := d1.up hb
  have c2 := d2.up hb
  have c3 := d3.up hb
  have u3 := Dk.up_call u2 hb
  have t2 := c2.cell
  clear d1 d2 d3 u2 hb
  go_wp2_with (go_at_call 14; refine (reg_any _ _).mono ?_; rintro e w' ⟨rfl, rfl⟩)
  clear t2
  refine (awake_any _).mono ?_
  rintro e w3 ⟨rfl, hb3⟩
  have t3 := (c3.up hb3).cell
  have u4 := Dk.up_call u3 hb3
  have hs2 : ∀ w, (Op.equalIn 9999 27 (.agg #[.int .u64 (Dk.Frm.zero.r 0 : Nat), .int .u64 (Dk.Frm.zero.r 1 : Nat), .int .u64 (Dk.Frm.zero.r 2 : Nat), .int .u64 (Dk.Frm.zero.r 3 : Nat), .int .u64 (Dk.Frm.zero.r 4 : Nat), .int .u64 (Dk.Frm.zero.r 5 : Nat), .int .u64 (Dk.Frm.zero.r 6 : Nat), .int .u64 (Dk.Frm.zero.r 7 : Nat)]) (.agg #[.int .u64 0, .int .u64 0, .int .u64 0, .int .u64 0, .int .u64 0, .int .u64 0, .int .u64 0, .int .u64 0])).run Try.prog w = .ok true w := same_words 9997 (fun _ => 0)
  have hg := Try.eqGuardType29
  clear c1 c2 c3 u3 hb3
  go_wp2_with fail
  go_ret
  exact ⟨rfl, u4⟩

set_option maxRecDepth 100000 in
set_option maxHeartbeats 1000000 in
theorem plains_err2 (f : Dk.Frm) (op a b c : Int) (n : Nat) (A : Option Addr) (L C : Nat) (m : List Nat) (w : World) (hr : Dk.Row 1 0 Dk.IsWord w.heap.size w A L C m) (hL : L ≤ 200) (hP : ErrSaid f ⟨op, a, b, c, n⟩ A L C m 8) (h1 : decide ((1 : Int) ≤ op) = true) (h2 : decide (op ≤ 19) = true) (h16 : (op != 16) = true) (sz : Nat) (hsz : (hasS op).size = sz) (ha : Dk.plB a 8 = false) :
    Calls Try.prog 5 #[Dk.fv f, .agg #[.int .i64 op, .int .i64 a, .int .i64 b, .int .i64 c, .int .u64 (n : Nat)], .slice A L C] w fun e w' => e = .returned (.bool true) ∧ Below w.heap.size w w' := by
  have y0 : decide ((200 : Int) < (L : Int)) = false := by simp; omega
  obtain ⟨X, e3⟩ : ∃ X, (w.alloc (.cells #[.int .i64 f.fn, .int .i64 f.pc, .int .u64 (f.r 0 : Nat), .int .u64 (f.r 1 : Nat), .int .u64 (f.r 2 : Nat), .int .u64 (f.r 3 : Nat), .int .u64 (f.r 4 : Nat), .int .u64 (f.r 5 : Nat), .int .u64 (f.r 6 : Nat), .int .u64 (f.r 7 : Nat)] 29)).alloc (.cells #[.int .i64 op, .int .i64 a, .int .i64 b, .int .i64 c, .int .u64 (n : Nat)] 31) = X := ⟨_, rfl⟩
  obtain ⟨b1, b2, u0, z0⟩ := two_box _ _ _ _ _ _ e3
  have hX := hr.up u0
  have q1 := b1.cell
  have q2 := b2.cell
  go_enter Try.func5, Try.ntmps5
  go_wp2_with fail
  try rw [e3]
  clear e3 q1 q2
  refine (hP X hX).mono ?_
  rintro e w1 ⟨rfl, hb⟩
  have c1 := b1.up hb
  have c2 := b2.up hb
  have u1 := Dk.up_call u0 hb
  have n1 := c1.lt
  have n2 := c2.lt
  obtain ⟨Y, eY⟩ : ∃ Y, w1.alloc (.cells #[.int .i64 Dk.Frm.zero.fn, .int .i64 Dk.Frm.zero.pc, .int .u64 (Dk.Frm.zero.r 0 : Nat), .int .u64 (Dk.Frm.zero.r 1 : Nat), .int .u64 (Dk.Frm.zero.r 2 : Nat), .int .u64 (Dk.Frm.zero.r 3 : Nat), .int .u64 (Dk.Frm.zero.r 4 : Nat), .int .u64 (Dk.Frm.zero.r 5 : Nat), .int .u64 (Dk.Frm.zero.r 6 : Nat), .int .u64 (Dk.Frm.zero.r 7 : Nat)] 29) = Y := ⟨_, rfl⟩
  have d1 : Dk.Box Y w.heap.size (Dk.fc f) 29 := eY ▸ c1.old _
  have d2 : Dk.Box Y (w.heap.size + 1) #[.int .i64 op, .int .i64 a, .int .i64 b, .int .i64 c, .int .u64 (n : Nat)] 31 := eY ▸ c2.old _
  have d3 : Dk.Box Y w1.heap.size (Dk.fc Dk.Frm.zero) 29 := eY ▸ Dk.Box.new _ _ _
  have u2 : Below w.heap.size w Y := eY ▸ Dk.up_alloc u1 _
  have HEY : Hid _ := eY
  clear eY
  have t2 := c2.cell
  clear hb b1 b2 z0 u0 u1 hX
  go_wp2_with fail
  try rw [HEY.out]
  clear HEY t2 c1 c2
  refine (Has_any _ _).mono ?_
  rintro e w2 ⟨rfl, hb⟩
  have c1 := d1.up hb
  have c2 := d2.up hb
  have c3 := d3.up hb
  have u3 := Dk.up_call u2 hb
  have t2 := c2.cell
  clear d1 d2 d3 u2 hb
  go_wp2_with (go_at_call 14; refine (reg_any _ _).mono ?_; rintro e w' ⟨rfl, rfl⟩)
  clear t2
  refine (awake_any _).mono ?_
  rintro e w3 ⟨rfl, hb3⟩
  have t3 := (c3.up hb3).cell
  have u4 := Dk.up_call u3 hb3
  have hs2 : ∀ w, (Op.equalIn 9999 27 (.agg #[.int .u64 (Dk.Frm.zero.r 0 : Nat), .int .u64 (Dk.Frm.zero.r 1 : Nat), .int .u64 (Dk.Frm.zero.r 2 : Nat), .int .u64 (Dk.Frm.zero.r 3 : Nat), .int .u64 (Dk.Frm.zero.r 4 : Nat), .int .u64 (Dk.Frm.zero.r 5 : Nat), .int .u64 (Dk.Frm.zero.r 6 : Nat), .int .u64 (Dk.Frm.zero.r 7 : Nat)]) (.agg #[.int .u64 0, .int .u64 0, .int .u64 0, .int .u64 0, .int .u64 0, .int .u64 0, .int .u64 0, .int .u64 0])).run Try.prog w = .ok true w := same_words 9997 (fun _ => 0)
  have hg := Try.eqGuardType29
  clear c1 c2 c3 u3 hb3
  go_wp2_with fail
  go_ret
  exact ⟨rfl, u4⟩

set_option maxRecDepth 100000 in
set_option maxHeartbeats 1000000 in
theorem plains_err3 (f : Dk.Frm) (op a b c : Int) (n : Nat) (A : Option Addr) (L C : Nat) (m : List Nat) (w : World) (hr : Dk.Row 1 0 Dk.IsWord w.heap.size w A L C m) (hL : L ≤ 200) (hP : ErrSaid f ⟨op, a, b, c, n⟩ A L C m 8) (h1 : decide ((1 : Int) ≤ op) = true) (h2 : decide (op ≤ 19) = true) (h16 : (op != 16) = true) (sz : Nat) (hsz : (hasS op).size = sz) (hs2' : decide ((2 : Int) < (sz : Int)) = true) (ha : Dk.plB a 8 = true) (hb' : Dk.plB b 8 = false) :
    Calls Try.prog 5 #[Dk.fv f, .agg #[.int .i64 op, .int .i64 a, .int .i64 b, .int .i64 c, .int .u64 (n : Nat)], .slice A L C] w fun e w' => e = .returned (.bool true) ∧ Below w.heap.size w w' := by
  have y0 : decide ((200 : Int) < (L : Int)) = false := by simp; omega
  obtain ⟨X, e3⟩ : ∃ X, (w.alloc (.cells #[.int .i64 f.fn, .int .i64 f.pc, .int .u64 (f.r 0 : Nat), .int .u64 (f.r 1 : Nat), .int .u64 (f.r 2 : Nat), .int .u64 (f.r 3 : Nat), .int .u64 (f.r 4 : Nat), .int .u64 (f.r 5 : Nat), .int .u64 (f.r 6 : Nat), .int .u64 (f.r 7 : Nat)] 29)).alloc (.cells #[.int .i64 op, .int .i64 a, .int .i64 b, .int .i64 c, .int .u64 (n : Nat)] 31) = X := ⟨_, rfl⟩
  obtain ⟨b1, b2, u0, z0⟩ := two_box _ _ _ _ _ _ e3
  have hX := hr.up u0
  have q1 := b1.cell
  have q2 := b2.cell
  go_enter Try.func5, Try.ntmps5
  go_wp2_with fail
  try rw [e3]
  clear e3 q1 q2
  refine (hP X hX).mono ?_
  rintro e w1 ⟨rfl, hb⟩
  have c1 := b1.up hb
  have c2 := b2.up hb
  have u1 := Dk.up_call u0 hb
  have n1 := c1.lt
  have n2 := c2.lt
  obtain ⟨Y, eY⟩ : ∃ Y, w1.alloc (.cells #[.int .i64 Dk.Frm.zero.fn, .int .i64 Dk.Frm.zero.pc, .int .u64 (Dk.Frm.zero.r 0 : Nat), .int .u64 (Dk.Frm.zero.r 1 : Nat), .int .u64 (Dk.Frm.zero.r 2 : Nat), .int .u64 (Dk.Frm.zero.r 3 : Nat), .int .u64 (Dk.Frm.zero.r 4 : Nat), .int .u64 (Dk.Frm.zero.r 5 : Nat), .int .u64 (Dk.Frm.zero.r 6 : Nat), .int .u64 (Dk.Frm.zero.r 7 : Nat)] 29) = Y := ⟨_, rfl⟩
  have d1 : Dk.Box Y w.heap.size (Dk.fc f) 29 := eY ▸ c1.old _
  have d2 : Dk.Box Y (w.heap.size + 1) #[.int .i64 op, .int .i64 a, .int .i64 b, .int .i64 c, .int .u64 (n : Nat)] 31 := eY ▸ c2.old _
  have d3 : Dk.Box Y w1.heap.size (Dk.fc Dk.Frm.zero) 29 := eY ▸ Dk.Box.new _ _ _
  have u2 : Below w.heap.size w Y := eY ▸ Dk.up_alloc u1 _
  have HEY : Hid _ := eY
  clear eY
  have t2 := c2.cell
  clear hb b1 b2 z0 u0 u1 hX
  go_wp2_with fail
  try rw [HEY.out]
  clear HEY t2 c1 c2
  refine (Has_any _ _).mono ?_
  rintro e w2 ⟨rfl, hb⟩
  have c1 := d1.up hb
  have c2 := d2.up hb
  have c3 := d3.up hb
  have u3 := Dk.up_call u2 hb
  have t2 := c2.cell
  clear d1 d2 d3 u2 hb
  go_wp2_with (go_at_call 14; refine (reg_any _ _).mono ?_; rintro e w' ⟨rfl, rfl⟩)
  clear t2
  refine (awake_any _).mono ?_
  rintro e w3 ⟨rfl, hb3⟩
  have t3 := (c3.up hb3).cell
  have u4 := Dk.up_call u3 hb3
  have hs2 : ∀ w, (Op.equalIn 9999 27 (.agg #[.int .u64 (Dk.Frm.zero.r 0 : Nat), .int .u64 (Dk.Frm.zero.r 1 : Nat), .int .u64 (Dk.Frm.zero.r 2 : Nat), .int .u64 (Dk.Frm.zero.r 3 : Nat), .int .u64 (Dk.Frm.zero.r 4 : Nat), .int .u64 (Dk.Frm.zero.r 5 : Nat), .int .u64 (Dk.Frm.zero.r 6 : Nat), .int .u64 (Dk.Frm.zero.r 7 : Nat)]) (.agg #[.int .u64 0, .int .u64 0, .int .u64 0, .int .u64 0, .int .u64 0, .int .u64 0, .int .u64 0, .int .u64 0])).run Try.prog w = .ok true w := same_words 9997 (fun _ => 0)
  have hg := Try.eqGuardType29
  clear c1 c2 c3 u3 hb3
  go_wp2_with fail
  go_ret
  exact ⟨rfl, u4⟩

set_option maxRecDepth 100000 in
set_option maxHeartbeats 1000000 in
theorem plains_err4 (f : Dk.Frm) (op a b c : Int) (n : Nat) (A : Option Addr) (L C : Nat) (m : List Nat) (w : World) (hr : Dk.Row 1 0 Dk.IsWord w.heap.size w A L C m) (hL : L ≤ 200) (hP : ErrSaid f ⟨op, a, b, c, n⟩ A L C m 8) (h1 : decide ((1 : Int) ≤ op) = true) (h2 : decide (op ≤ 19) = true) (h16 : (op != 16) = true) (hsz : (hasS op).size = 4) (ha : Dk.plB a 8 = true) (hb' : Dk.plB b 8 = true) (hc : Dk.plB c 8 = false) :
    Calls Try.prog 5 #[Dk.fv f, .agg #[.int .i64 op, .int .i64 a, .int .i64 b, .int .i64 c, .int .u64 (n : Nat)], .slice A L C] w fun e w' => e = .returned (.bool true) ∧ Below w.heap.size w w' := by
  have y0 : decide ((200 : Int) < (L : Int)) = false := by simp; omega
  obtain ⟨X, e3⟩ : ∃ X, (w.alloc (.cells #[.int .i64 f.fn, .int .i64 f.pc, .int .u64 (f.r 0 : Nat), .int .u64 (f.r 1 : Nat), .int .u64 (f.r 2 : Nat), .int .u64 (f.r 3 : Nat), .int .u64 (f.r 4 : Nat), .int .u64 (f.r 5 : Nat), .int .u64 (f.r 6 : Nat), .int .u64 (f.r 7 : Nat)] 29)).alloc (.cells #[.int .i64 op, .int .i64 a, .int .i64 b, .int .i64 c, .int .u64 (n : Nat)] 31) = X := ⟨_, rfl⟩
  obtain ⟨b1, b2, u0, z0⟩ := two_box _ _ _ _ _ _ e3
  have hX := hr.up u0
  have q1 := b1.cell
  have q2 := b2.cell
  go_enter Try.func5, Try.ntmps5
  go_wp2_with fail
  try rw [e3]
  clear e3 q1 q2
  refine (hP X hX).mono ?_
  rintro e w1 ⟨rfl, hb⟩
  have c1 := b1.up hb
  have c2 := b2.up hb
  have u1 := Dk.up_call u0 hb
  have n1 := c1.lt
  have n2 := c2.lt
  obtain ⟨Y, eY⟩ : ∃ Y, w1.alloc (.cells #[.int .i64 Dk.Frm.zero.fn, .int .i64 Dk.Frm.zero.pc, .int .u64 (Dk.Frm.zero.r 0 : Nat), .int .u64 (Dk.Frm.zero.r 1 : Nat), .int .u64 (Dk.Frm.zero.r 2 : Nat), .int .u64 (Dk.Frm.zero.r 3 : Nat), .int .u64 (Dk.Frm.zero.r 4 : Nat), .int .u64 (Dk.Frm.zero.r 5 : Nat), .int .u64 (Dk.Frm.zero.r 6 : Nat), .int .u64 (Dk.Frm.zero.r 7 : Nat)] 29) = Y := ⟨_, rfl⟩
  have d1 : Dk.Box Y w.heap.size (Dk.fc f) 29 := eY ▸ c1.old _
  have d2 : Dk.Box Y (w.heap.size + 1) #[.int .i64 op, .int .i64 a, .int .i64 b, .int .i64 c, .int .u64 (n : Nat)] 31 := eY ▸ c2.old _
  have d3 : Dk.Box Y w1.heap.size (Dk.fc Dk.Frm.zero) 29 := eY ▸ Dk.Box.new _ _ _
  have u2 : Below w.heap.size w Y := eY ▸ Dk.up_alloc u1 _
  have HEY : Hid _ := eY
  clear eY
  have t2 := c2.cell
  clear hb b1 b2 z0 u0 u1 hX
  go_wp2_with fail
  try rw [HEY.out]
  clear HEY t2 c1 c2
  refine (Has_any _ _).mono ?_
  rintro e w2 ⟨rfl, hb⟩
  have c1 := d1.up hb
  have c2 := d2.up hb
  have c3 := d3.up hb
  have u3 := Dk.up_call u2 hb
  have t2 := c2.cell
  clear d1 d2 d3 u2 hb
  go_wp2_with (go_at_call 14; refine (reg_any _ _).mono ?_; rintro e w' ⟨rfl, rfl⟩)
  clear t2
  refine (awake_any _).mono ?_
  rintro e w3 ⟨rfl, hb3⟩
  have t3 := (c3.up hb3).cell
  have u4 := Dk.up_call u3 hb3
  have hs2 : ∀ w, (Op.equalIn 9999 27 (.agg #[.int .u64 (Dk.Frm.zero.r 0 : Nat), .int .u64 (Dk.Frm.zero.r 1 : Nat), .int .u64 (Dk.Frm.zero.r 2 : Nat), .int .u64 (Dk.Frm.zero.r 3 : Nat), .int .u64 (Dk.Frm.zero.r 4 : Nat), .int .u64 (Dk.Frm.zero.r 5 : Nat), .int .u64 (Dk.Frm.zero.r 6 : Nat), .int .u64 (Dk.Frm.zero.r 7 : Nat)]) (.agg #[.int .u64 0, .int .u64 0, .int .u64 0, .int .u64 0, .int .u64 0, .int .u64 0, .int .u64 0, .int .u64 0])).run Try.prog w = .ok true w := same_words 9997 (fun _ => 0)
  have hg := Try.eqGuardType29
  clear c1 c2 c3 u3 hb3
  go_wp2_with fail
  go_ret
  exact ⟨rfl, u4⟩

end Go.Proofs.Ytmkeniobnjpohaa
