/- The walks of the statement on jumps. -/
import Derived.Test.YtmkeniobnjpohaaLn
namespace Dk
set_option linter.unusedSimpArgs false
set_option linter.unusedVariables false
set_option linter.unnecessarySimpa false
open Go Go.RowKit
theorem doneF_jump {f : Frm} {a b c : Int} {n : Nat} {m : List Nat} : doneF f ⟨16, a, b, c, n⟩ m = f.to (wrap64 n) := rfl
theorem doneF_zero {f : Frm} {a b c : Int} {n : Nat} {m : List Nat} : doneF f ⟨17, a, b, c, n⟩ m = f.to (wrap64 n) ∨ doneF f ⟨17, a, b, c, n⟩ m = f.to (wrap64 (f.pc + 1)) := by
  unfold doneF
  by_cases h : f.r a.toNat = 0
  · left; simp [h]
  · right; simp [h]
theorem set_fn (f : Frm) (k v : Nat) : (f.set k v).fn = f.fn := rfl
theorem to_fn (f : Frm) (p : Int) : (f.to p).fn = f.fn := rfl
theorem set_pc (f : Frm) (k v : Nat) : (f.set k v).pc = f.pc := rfl
theorem to_pc (f : Frm) (p : Int) : (f.to p).pc = p := rfl
theorem doneF_else {f : Frm} {i : Ins} {m : List Nat} (h1 : i.op ≠ 16) (h2 : i.op ≠ 17) : (doneF f i m).pc = wrap64 (f.pc + 1) := by
  unfold doneF
  rw [if_neg h1, if_neg h2]
  simp only [apply_ite Frm.pc, set_pc, to_pc, ite_self]
theorem Row.up {α : Type} {n : Nat} {d : α} {R : List Value → α → Prop} {w w' : World} {A : Option Addr} {L C : Nat} {xs : List α} (h : Row n d R w.heap.size w A L C xs) (u : Below w.heap.size w w') : Row n d R w'.heap.size w' A L C xs :=
  (h.below u (Nat.le_refl _) (fun _ _ h => h)).more u.size (fun _ _ h => h)
end Dk
namespace Go.Proofs.Ytmkeniobnjpohaa
set_option linter.unusedSimpArgs false
set_option linter.unusedVariables false
set_option linter.unnecessarySimpa false
open Go.RowKit

/-- What a plain instruction answers where it may not be done. -/
def ErrSaid (f : Dk.Frm) (i : Dk.Ins) (A : Option Addr) (L C : Nat) (m : List Nat) (k : Int) : Prop :=
  ∀ X, Dk.Row 1 0 Dk.IsWord X.heap.size X A L C m → Calls Try.prog 12 #[Dk.fv f, Dk.iv i, .slice A L C] X fun e w' => e = .returned (.tuple #[Dk.fv Dk.Frm.zero, .slice none 0 0, .int .i64 k]) ∧ Below X.heap.size X w'
/-- What it answers where it may. -/
def OkSaid (f : Dk.Frm) (i : Dk.Ins) (A : Option Addr) (L C : Nat) (m : List Nat) (g : Dk.Frm) (mz : List Nat) : Prop :=
  ∀ X, Dk.Row 1 0 Dk.IsWord X.heap.size X A L C m → Calls Try.prog 12 #[Dk.fv f, Dk.iv i, .slice A L C] X fun e w' => ∃ wb, e = .returned (.tuple #[Dk.fv g, .slice (some ⟨wb, 0, none⟩) L L, .int .i64 0]) ∧ Dk.Box w' wb (Dk.wc mz) 26 ∧ Below X.heap.size X w'

theorem plain_cases (f : Dk.Frm) (i : Dk.Ins) (A : Option Addr) (L C : Nat) (m : List Nat) (hf : f.ok) (hi : i.ok) (hL : L ≤ 1000) :
    (Dk.codeB i = false ∧ ErrSaid f i A L C m 8) ∨ (Dk.codeB i = true ∧ Dk.faultB f i L = true ∧ ErrSaid f i A L C m 6) ∨ (Dk.codeB i = true ∧ Dk.faultB f i L = false ∧ OkSaid f i A L C m (Dk.doneF f i m) (Dk.doneM f i m)) := by
  cases hc : Dk.codeB i
  · exact Or.inl ⟨rfl, fun X _ => Plain_code f i A L C X hi hc⟩
  · cases hx : Dk.faultB f i L
    · exact Or.inr (Or.inr ⟨rfl, rfl, fun X hr => Plain_ok f i A L C m X hf hi hc hx hr hL⟩)
    · exact Or.inr (Or.inl ⟨rfl, rfl, fun X hr => Plain_fault f i A L C m X hi hc hx hr hL⟩)

set_option maxRecDepth 100000 in
set_option maxHeartbeats 1000000 in
theorem jumps_long (f : Dk.Frm) (op a b c : Int) (n : Nat) (A : Option Addr) (L C : Nat) (m : List Nat) (w : World) (hr : Dk.Row 1 0 Dk.IsWord w.heap.size w A L C m) (hL : 200 < L) :
    Calls Try.prog 7 #[Dk.fv f, .agg #[.int .i64 op, .int .i64 a, .int .i64 b, .int .i64 c, .int .u64 (n : Nat)], .slice A L C] w fun e w' => e = .returned (.bool true) ∧ Below w.heap.size w w' := by
  have y0 : decide ((200 : Int) < (L : Int)) = true := by simp; omega
  go_enter Try.func7, Try.ntmps7
  go_wp2_with fail
  refine (awake_any _).mono ?_
  rintro e w1 ⟨rfl, hb⟩
  go_wp2_with fail
  go_ret
  exact ⟨rfl, Dk.up_call (Dk.up_alloc (Dk.up_alloc (Below.refl _ _) _) _) hb⟩

set_option maxRecDepth 100000 in
set_option maxHeartbeats 1000000 in
theorem jumps_err (f : Dk.Frm) (op a b c : Int) (n : Nat) (A : Option Addr) (L C : Nat) (m : List Nat) (w : World) (hr : Dk.Row 1 0 Dk.IsWord w.heap.size w A L C m) (hL : L ≤ 200) (k : Int) (hk : k = 6 ∨ k = 8) (hP : ErrSaid f ⟨op, a, b, c, n⟩ A L C m k) :
    Calls Try.prog 7 #[Dk.fv f, .agg #[.int .i64 op, .int .i64 a, .int .i64 b, .int .i64 c, .int .u64 (n : Nat)], .slice A L C] w fun e w' => e = .returned (.bool true) ∧ Below w.heap.size w w' := by
  have y0 : decide ((200 : Int) < (L : Int)) = false := by simp; omega
  obtain ⟨X, e3⟩ : ∃ X, (w.alloc (.cells #[.int .i64 f.fn, .int .i64 f.pc, .int .u64 (f.r 0 : Nat), .int .u64 (f.r 1 : Nat), .int .u64 (f.r 2 : Nat), .int .u64 (f.r 3 : Nat), .int .u64 (f.r 4 : Nat), .int .u64 (f.r 5 : Nat), .int .u64 (f.r 6 : Nat), .int .u64 (f.r 7 : Nat)] 29)).alloc (.cells #[.int .i64 op, .int .i64 a, .int .i64 b, .int .i64 c, .int .u64 (n : Nat)] 31) = X := ⟨_, rfl⟩
  obtain ⟨b1, b2, u0, z0⟩ := two_box _ _ _ _ _ _ e3
  have hX := hr.up u0
  have q1 := b1.cell
  have q2 := b2.cell
  go_enter Try.func7, Try.ntmps7
  go_wp2_with fail
  try rw [e3]
  clear e3 q1 q2
  refine (hP X hX).mono ?_
  rintro e w1 ⟨rfl, hb⟩
  have u1 := Dk.up_call u0 hb
  have hk' : (k != 0) = true := by rcases hk with rfl | rfl <;> rfl
  go_wp2_with fail
  refine (awake_any _).mono ?_
  rintro e w2 ⟨rfl, hb2⟩
  go_wp2_with fail
  go_ret
  exact ⟨rfl, Dk.up_call (Dk.up_alloc u1 _) hb2⟩

set_option maxRecDepth 100000 in
set_option maxHeartbeats 1000000 in
theorem jumps_jump (f : Dk.Frm) (a b c : Int) (n : Nat) (A : Option Addr) (L C : Nat) (m : List Nat) (w : World) (hr : Dk.Row 1 0 Dk.IsWord w.heap.size w A L C m) (hL : L ≤ 200) (mz : List Nat) (hP : OkSaid f ⟨16, a, b, c, n⟩ A L C m ⟨f.fn, wrap64 n, f.r⟩ mz) :
    Calls Try.prog 7 #[Dk.fv f, .agg #[.int .i64 16, .int .i64 a, .int .i64 b, .int .i64 c, .int .u64 (n : Nat)], .slice A L C] w fun e w' => e = .returned (.bool true) ∧ Below w.heap.size w w' := by
  have y0 : decide ((200 : Int) < (L : Int)) = false := by simp; omega
  obtain ⟨X, e3⟩ : ∃ X, (w.alloc (.cells #[.int .i64 f.fn, .int .i64 f.pc, .int .u64 (f.r 0 : Nat), .int .u64 (f.r 1 : Nat), .int .u64 (f.r 2 : Nat), .int .u64 (f.r 3 : Nat), .int .u64 (f.r 4 : Nat), .int .u64 (f.r 5 : Nat), .int .u64 (f.r 6 : Nat), .int .u64 (f.r 7 : Nat)] 29)).alloc (.cells #[.int .i64 16, .int .i64 a, .int .i64 b, .int .i64 c, .int .u64 (n : Nat)] 31) = X := ⟨_, rfl⟩
  obtain ⟨b1, b2, u0, z0⟩ := two_box _ _ _ _ _ _ e3
  have hX := hr.up u0
  have q1 := b1.cell
  have q2 := b2.cell
  go_enter Try.func7, Try.ntmps7
  go_wp2_with fail
  try rw [e3]
  clear e3 q1 q2
  refine (hP X hX).mono ?_
  rintro e w1 ⟨wb, rfl, bw, hb⟩
  have c1 := b1.up hb
  have c2 := b2.up hb
  have u1 := Dk.up_call u0 hb
  have n1 := c1.lt
  have n2 := c2.lt
  obtain ⟨W, eW⟩ : ∃ W, w1.alloc (.cells #[.int .i64 f.fn, .int .i64 (wrap64 n), .int .u64 (f.r 0 : Nat), .int .u64 (f.r 1 : Nat), .int .u64 (f.r 2 : Nat), .int .u64 (f.r 3 : Nat), .int .u64 (f.r 4 : Nat), .int .u64 (f.r 5 : Nat), .int .u64 (f.r 6 : Nat), .int .u64 (f.r 7 : Nat)] 29) = W := ⟨_, rfl⟩
  have d1 : Dk.Box W w.heap.size (Dk.fc f) 29 := eW ▸ c1.old _
  have d2 : Dk.Box W (w.heap.size + 1) #[.int .i64 16, .int .i64 a, .int .i64 b, .int .i64 c, .int .u64 (n : Nat)] 31 := eW ▸ c2.old _
  have d3 : Dk.Box W w1.heap.size (Dk.fc ⟨f.fn, (wrap64 n), f.r⟩) 29 := eW ▸ Dk.Box.new _ _ _
  have u2 : Below w.heap.size w W := eW ▸ Dk.up_alloc u1 _
  have HEW : Hid _ := eW
  clear eW
  have k2 := c2.cell
  clear hb c1 b1 b2 z0 u0 u1 hX hr
  go_wp2_with fail
  rw [HEW.out]
  clear HEW k2
  refine (awake_any _).mono ?_
  rintro e w2 ⟨rfl, hb2⟩
  have r1 := (d1.up hb2).cell
  have r2 := (d2.up hb2).cell
  have r3 := (d3.up hb2).cell
  have u3 := Dk.up_call u2 hb2
  have hq : ∀ w, (Op.equalIn 10000 27 (.agg #[.int .u64 (f.r 0 : Nat), .int .u64 (f.r 1 : Nat), .int .u64 (f.r 2 : Nat), .int .u64 (f.r 3 : Nat), .int .u64 (f.r 4 : Nat), .int .u64 (f.r 5 : Nat), .int .u64 (f.r 6 : Nat), .int .u64 (f.r 7 : Nat)]) (.agg #[.int .u64 (f.r 0 : Nat), .int .u64 (f.r 1 : Nat), .int .u64 (f.r 2 : Nat), .int .u64 (f.r 3 : Nat), .int .u64 (f.r 4 : Nat), .int .u64 (f.r 5 : Nat), .int .u64 (f.r 6 : Nat), .int .u64 (f.r 7 : Nat)])).run Try.prog w = .ok true w := same_words 9998 f.r
  clear d1 d2 d3 u2 hb2
  go_wp2_with fail
  go_ret
  exact ⟨rfl, u3⟩

set_option maxRecDepth 100000 in
set_option maxHeartbeats 1000000 in
theorem jumps_zero1 (f : Dk.Frm) (a b c : Int) (n : Nat) (A : Option Addr) (L C : Nat) (m : List Nat) (w : World) (hr : Dk.Row 1 0 Dk.IsWord w.heap.size w A L C m) (hL : L ≤ 200) (mz : List Nat) (q : Int) (hq0 : q = wrap64 n) (hP : OkSaid f ⟨17, a, b, c, n⟩ A L C m ⟨f.fn, q, f.r⟩ mz) :
    Calls Try.prog 7 #[Dk.fv f, .agg #[.int .i64 17, .int .i64 a, .int .i64 b, .int .i64 c, .int .u64 (n : Nat)], .slice A L C] w fun e w' => e = .returned (.bool true) ∧ Below w.heap.size w w' := by
  have hq1 : (q == wrap64 (n : Int)) = true := by simp [hq0]
  have hqh : Hid _ := hq0
  clear hq0
  have y0 : decide ((200 : Int) < (L : Int)) = false := by simp; omega
  obtain ⟨X, e3⟩ : ∃ X, (w.alloc (.cells #[.int .i64 f.fn, .int .i64 f.pc, .int .u64 (f.r 0 : Nat), .int .u64 (f.r 1 : Nat), .int .u64 (f.r 2 : Nat), .int .u64 (f.r 3 : Nat), .int .u64 (f.r 4 : Nat), .int .u64 (f.r 5 : Nat), .int .u64 (f.r 6 : Nat), .int .u64 (f.r 7 : Nat)] 29)).alloc (.cells #[.int .i64 17, .int .i64 a, .int .i64 b, .int .i64 c, .int .u64 (n : Nat)] 31) = X := ⟨_, rfl⟩
  obtain ⟨b1, b2, u0, z0⟩ := two_box _ _ _ _ _ _ e3
  have hX := hr.up u0
  have q1 := b1.cell
  have q2 := b2.cell
  go_enter Try.func7, Try.ntmps7
  go_wp2_with fail
  try rw [e3]
  clear e3 q1 q2
  refine (hP X hX).mono ?_
  rintro e w1 ⟨wb, rfl, bw, hb⟩
  have c1 := b1.up hb
  have c2 := b2.up hb
  have u1 := Dk.up_call u0 hb
  have n1 := c1.lt
  have n2 := c2.lt
  obtain ⟨W, eW⟩ : ∃ W, w1.alloc (.cells #[.int .i64 f.fn, .int .i64 q, .int .u64 (f.r 0 : Nat), .int .u64 (f.r 1 : Nat), .int .u64 (f.r 2 : Nat), .int .u64 (f.r 3 : Nat), .int .u64 (f.r 4 : Nat), .int .u64 (f.r 5 : Nat), .int .u64 (f.r 6 : Nat), .int .u64 (f.r 7 : Nat)] 29) = W := ⟨_, rfl⟩
  have d1 : Dk.Box W w.heap.size (Dk.fc f) 29 := eW ▸ c1.old _
  have d2 : Dk.Box W (w.heap.size + 1) #[.int .i64 17, .int .i64 a, .int .i64 b, .int .i64 c, .int .u64 (n : Nat)] 31 := eW ▸ c2.old _
  have d3 : Dk.Box W w1.heap.size (Dk.fc ⟨f.fn, q, f.r⟩) 29 := eW ▸ Dk.Box.new _ _ _
  have u2 : Below w.heap.size w W := eW ▸ Dk.up_alloc u1 _
  have HEW : Hid _ := eW
  clear eW
  have k2 := c2.cell
  clear hb c1 b1 b2 z0 u0 u1 hX hr
  go_wp2_with fail
  rw [HEW.out]
  clear HEW k2
  refine (awake_any _).mono ?_
  rintro e w2 ⟨rfl, hb2⟩
  have r1 := (d1.up hb2).cell
  have r2 := (d2.up hb2).cell
  have r3 := (d3.up hb2).cell
  have u3 := Dk.up_call u2 hb2
  have hq : ∀ w, (Op.equalIn 10000 27 (.agg #[.int .u64 (f.r 0 : Nat), .int .u64 (f.r 1 : Nat), .int .u64 (f.r 2 : Nat), .int .u64 (f.r 3 : Nat), .int .u64 (f.r 4 : Nat), .int .u64 (f.r 5 : Nat), .int .u64 (f.r 6 : Nat), .int .u64 (f.r 7 : Nat)]) (.agg #[.int .u64 (f.r 0 : Nat), .int .u64 (f.r 1 : Nat), .int .u64 (f.r 2 : Nat), .int .u64 (f.r 3 : Nat), .int .u64 (f.r 4 : Nat), .int .u64 (f.r 5 : Nat), .int .u64 (f.r 6 : Nat), .int .u64 (f.r 7 : Nat)])).run Try.prog w = .ok true w := same_words 9998 f.r
  clear d1 d2 d3 u2 hb2
  go_wp2_with fail
  go_ret
  exact ⟨rfl, u3⟩

set_option maxRecDepth 100000 in
set_option maxHeartbeats 1000000 in
theorem jumps_zero2 (f : Dk.Frm) (a b c : Int) (n : Nat) (A : Option Addr) (L C : Nat) (m : List Nat) (w : World) (hr : Dk.Row 1 0 Dk.IsWord w.heap.size w A L C m) (hL : L ≤ 200) (mz : List Nat) (q : Int) (hq1 : (q == wrap64 (n : Int)) = false) (hq2 : (q == wrap64 (f.pc + 1)) = true) (hP : OkSaid f ⟨17, a, b, c, n⟩ A L C m ⟨f.fn, q, f.r⟩ mz) :
    Calls Try.prog 7 #[Dk.fv f, .agg #[.int .i64 17, .int .i64 a, .int .i64 b, .int .i64 c, .int .u64 (n : Nat)], .slice A L C] w fun e w' => e = .returned (.bool true) ∧ Below w.heap.size w w' := by
  have y0 : decide ((200 : Int) < (L : Int)) = false := by simp; omega
  obtain ⟨X, e3⟩ : ∃ X, (w.alloc (.cells #[.int .i64 f.fn, .int .i64 f.pc, .int .u64 (f.r 0 : Nat), .int .u64 (f.r 1 : Nat), .int .u64 (f.r 2 : Nat), .int .u64 (f.r 3 : Nat), .int .u64 (f.r 4 : Nat), .int .u64 (f.r 5 : Nat), .int .u64 (f.r 6 : Nat), .int .u64 (f.r 7 : Nat)] 29)).alloc (.cells #[.int .i64 17, .int .i64 a, .int .i64 b, .int .i64 c, .int .u64 (n : Nat)] 31) = X := ⟨_, rfl⟩
  obtain ⟨b1, b2, u0, z0⟩ := two_box _ _ _ _ _ _ e3
  have hX := hr.up u0
  have q1 := b1.cell
  have q2 := b2.cell
  go_enter Try.func7, Try.ntmps7
  go_wp2_with fail
  try rw [e3]
  clear e3 q1 q2
  refine (hP X hX).mono ?_
  rintro e w1 ⟨wb, rfl, bw, hb⟩
  have c1 := b1.up hb
  have c2 := b2.up hb
  have u1 := Dk.up_call u0 hb
  have n1 := c1.lt
  have n2 := c2.lt
  obtain ⟨W, eW⟩ : ∃ W, w1.alloc (.cells #[.int .i64 f.fn, .int .i64 q, .int .u64 (f.r 0 : Nat), .int .u64 (f.r 1 : Nat), .int .u64 (f.r 2 : Nat), .int .u64 (f.r 3 : Nat), .int .u64 (f.r 4 : Nat), .int .u64 (f.r 5 : Nat), .int .u64 (f.r 6 : Nat), .int .u64 (f.r 7 : Nat)] 29) = W := ⟨_, rfl⟩
  have d1 : Dk.Box W w.heap.size (Dk.fc f) 29 := eW ▸ c1.old _
  have d2 : Dk.Box W (w.heap.size + 1) #[.int .i64 17, .int .i64 a, .int .i64 b, .int .i64 c, .int .u64 (n : Nat)] 31 := eW ▸ c2.old _
  have d3 : Dk.Box W w1.heap.size (Dk.fc ⟨f.fn, q, f.r⟩) 29 := eW ▸ Dk.Box.new _ _ _
  have u2 : Below w.heap.size w W := eW ▸ Dk.up_alloc u1 _
  have HEW : Hid _ := eW
  clear eW
  have k2 := c2.cell
  clear hb c1 b1 b2 z0 u0 u1 hX hr
  go_wp2_with fail
  rw [HEW.out]
  clear HEW k2
  refine (awake_any _).mono ?_
  rintro e w2 ⟨rfl, hb2⟩
  have r1 := (d1.up hb2).cell
  have r2 := (d2.up hb2).cell
  have r3 := (d3.up hb2).cell
  have u3 := Dk.up_call u2 hb2
  have hq : ∀ w, (Op.equalIn 10000 27 (.agg #[.int .u64 (f.r 0 : Nat), .int .u64 (f.r 1 : Nat), .int .u64 (f.r 2 : Nat), .int .u64 (f.r 3 : Nat), .int .u64 (f.r 4 : Nat), .int .u64 (f.r 5 : Nat), .int .u64 (f.r 6 : Nat), .int .u64 (f.r 7 : Nat)]) (.agg #[.int .u64 (f.r 0 : Nat), .int .u64 (f.r 1 : Nat), .int .u64 (f.r 2 : Nat), .int .u64 (f.r 3 : Nat), .int .u64 (f.r 4 : Nat), .int .u64 (f.r 5 : Nat), .int .u64 (f.r 6 : Nat), .int .u64 (f.r 7 : Nat)])).run Try.prog w = .ok true w := same_words 9998 f.r
  clear d1 d2 d3 u2 hb2
  go_wp2_with fail
  go_ret
  exact ⟨rfl, u3⟩

set_option maxRecDepth 100000 in
set_option maxHeartbeats 1000000 in
theorem jumps_else (f : Dk.Frm) (op a b c : Int) (n : Nat) (A : Option Addr) (L C : Nat) (m : List Nat) (w : World) (hr : Dk.Row 1 0 Dk.IsWord w.heap.size w A L C m) (hL : L ≤ 200) (mz : List Nat) (g : Dk.Frm) (h16' : op ≠ 16) (h17' : op ≠ 17) (hg : (g.pc == wrap64 (f.pc + 1)) = true) (hP : OkSaid f ⟨op, a, b, c, n⟩ A L C m g mz) :
    Calls Try.prog 7 #[Dk.fv f, .agg #[.int .i64 op, .int .i64 a, .int .i64 b, .int .i64 c, .int .u64 (n : Nat)], .slice A L C] w fun e w' => e = .returned (.bool true) ∧ Below w.heap.size w w' := by
  have h16 : (op == 16) = false := beq_no h16'
  have h17 : (op == 17) = false := beq_no h17'
  clear h16' h17'
  have y0 : decide ((200 : Int) < (L : Int)) = false := by simp; omega
  obtain ⟨X, e3⟩ : ∃ X, (w.alloc (.cells #[.int .i64 f.fn, .int .i64 f.pc, .int .u64 (f.r 0 : Nat), .int .u64 (f.r 1 : Nat), .int .u64 (f.r 2 : Nat), .int .u64 (f.r 3 : Nat), .int .u64 (f.r 4 : Nat), .int .u64 (f.r 5 : Nat), .int .u64 (f.r 6 : Nat), .int .u64 (f.r 7 : Nat)] 29)).alloc (.cells #[.int .i64 op, .int .i64 a, .int .i64 b, .int .i64 c, .int .u64 (n : Nat)] 31) = X := ⟨_, rfl⟩
  obtain ⟨b1, b2, u0, z0⟩ := two_box _ _ _ _ _ _ e3
  have hX := hr.up u0
  have q1 := b1.cell
  have q2 := b2.cell
  go_enter Try.func7, Try.ntmps7
  go_wp2_with fail
  try rw [e3]
  clear e3 q1 q2
  refine (hP X hX).mono ?_
  rintro e w1 ⟨wb, rfl, bw, hb⟩
  have c1 := b1.up hb
  have c2 := b2.up hb
  have u1 := Dk.up_call u0 hb
  have n1 := c1.lt
  have n2 := c2.lt
  obtain ⟨W, eW⟩ : ∃ W, w1.alloc (.cells #[.int .i64 g.fn, .int .i64 g.pc, .int .u64 (g.r 0 : Nat), .int .u64 (g.r 1 : Nat), .int .u64 (g.r 2 : Nat), .int .u64 (g.r 3 : Nat), .int .u64 (g.r 4 : Nat), .int .u64 (g.r 5 : Nat), .int .u64 (g.r 6 : Nat), .int .u64 (g.r 7 : Nat)] 29) = W := ⟨_, rfl⟩
  have d1 : Dk.Box W w.heap.size (Dk.fc f) 29 := eW ▸ c1.old _
  have d2 : Dk.Box W (w.heap.size + 1) #[.int .i64 op, .int .i64 a, .int .i64 b, .int .i64 c, .int .u64 (n : Nat)] 31 := eW ▸ c2.old _
  have d3 : Dk.Box W w1.heap.size (Dk.fc g) 29 := eW ▸ Dk.Box.new _ _ _
  have u2 : Below w.heap.size w W := eW ▸ Dk.up_alloc u1 _
  have HEW : Hid _ := eW
  clear eW
  have k2 := c2.cell
  clear hb c1 b1 b2 z0 u0 u1 hX hr
  go_wp2_with fail
  rw [HEW.out]
  clear HEW k2
  refine (awake_any _).mono ?_
  rintro e w2 ⟨rfl, hb2⟩
  have r1 := (d1.up hb2).cell
  have r2 := (d2.up hb2).cell
  have r3 := (d3.up hb2).cell
  have u3 := Dk.up_call u2 hb2
  have hq' : ∀ w, (Op.equalIn 10000 27 (.agg #[.int .u64 (f.r 0 : Nat), .int .u64 (f.r 1 : Nat), .int .u64 (f.r 2 : Nat), .int .u64 (f.r 3 : Nat), .int .u64 (f.r 4 : Nat), .int .u64 (f.r 5 : Nat), .int .u64 (f.r 6 : Nat), .int .u64 (f.r 7 : Nat)]) (.agg #[.int .u64 (f.r 0 : Nat), .int .u64 (f.r 1 : Nat), .int .u64 (f.r 2 : Nat), .int .u64 (f.r 3 : Nat), .int .u64 (f.r 4 : Nat), .int .u64 (f.r 5 : Nat), .int .u64 (f.r 6 : Nat), .int .u64 (f.r 7 : Nat)])).run Try.prog w = .ok true w := same_words 9998 f.r
  clear d1 d2 d3 u2 hb2
  go_wp2_with fail
  go_ret
  exact ⟨rfl, u3⟩

theorem jumps_any (f : Dk.Frm) (i : Dk.Ins) (A : Option Addr) (L C : Nat) (m : List Nat) (w : World) (hf : f.ok) (hi : i.ok) (hr : Dk.Row 1 0 Dk.IsWord w.heap.size w A L C m) :
    Calls Try.prog 7 #[Dk.fv f, Dk.iv i, .slice A L C] w fun e w' => e = .returned (.bool true) ∧ Below w.heap.size w w' := by
  obtain ⟨op, a, b, c, n⟩ := i
  by_cases hL : 200 < L
  · exact jumps_long f op a b c n A L C m w hr hL
  have hL' : L ≤ 200 := by omega
  rcases plain_cases f ⟨op, a, b, c, n⟩ A L C m hf hi (by omega) with ⟨_, hP⟩ | ⟨_, _, hP⟩ | ⟨_, _, hP⟩
  · exact jumps_err f op a b c n A L C m w hr hL' 8 (Or.inr rfl) hP
  · exact jumps_err f op a b c n A L C m w hr hL' 6 (Or.inl rfl) hP
  · by_cases h16 : op = 16
    · subst h16
      exact jumps_jump f a b c n A L C m w hr hL' _ hP
    · by_cases h17 : op = 17
      · subst h17
        rcases Dk.doneF_zero (f := f) (a := a) (b := b) (c := c) (n := n) (m := m) with e | e
        · rw [e] at hP
          exact jumps_zero1 f a b c n A L C m w hr hL' _ _ rfl hP
        · rw [e] at hP
          by_cases hq : wrap64 (f.pc + 1) = wrap64 (n : Int)
          · exact jumps_zero1 f a b c n A L C m w hr hL' _ _ hq hP
          · exact jumps_zero2 f a b c n A L C m w hr hL' _ _ (beq_no hq) (by simp) hP
      · exact jumps_else f op a b c n A L C m w hr hL' _ _ h16 h17 (by rw [Dk.doneF_else h16 h17]; simp) hP

end Go.Proofs.Ytmkeniobnjpohaa
