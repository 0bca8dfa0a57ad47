/- The fixed fact of the statements on rows, and rows that there are not. -/
import Derived.Test.YtgaionhlfnpdhaaDx
namespace Go.Proofs.Ytgaionhlfnpdhaa
set_option linter.unusedSimpArgs false
set_option linter.unusedVariables false
set_option linter.unnecessarySimpa false
open Go.RowKit

/-- The behind of a call, for who owns the row's blocks. -/
theorem Went.below {B : Nat} {W w w' : World} {bd : Nat} {v : Value} {xs xs' : List Int} (g : Went B w bd v w' xs') (h : Dk.DQ W.heap.size w bd v xs) (u : Below W.heap.size W w) : Below W.heap.size W w' := by
  obtain ⟨v', _, a, _⟩ := g
  exact a.below u h.at

/-- A row of a call's own, and all else as it was. -/
def One (W : World) (bd : Nat) (w : World) (xs : List Int) : Prop := Hid ((∃ v, Dk.DQ W.heap.size w bd v xs) ∧ Below W.heap.size W w)
theorem One.of {W w w' : World} {bd : Nat} {v : Value} {xs xs' : List Int} (h : Dk.DQ W.heap.size w bd v xs) (u : Below W.heap.size W w) (g : Went W.heap.size w bd v w' xs') : One W bd w' xs' := ⟨g.imp fun v h => h.1, g.below h u⟩
theorem One.up {W w w' : World} {bd : Nat} {xs : List Int} (h : One W bd w xs) (u : Below w.heap.size w w') : One W bd w' xs := by
  obtain ⟨⟨v, h⟩, u0⟩ := h
  exact ⟨⟨v, h.up u⟩, Dk.up_call u0 u⟩
theorem Push_one {W w : World} {bd : Nat} {xs : List Int} (h : One W bd w xs) (x : Int) (hx : xs.contains x = false) (hi : Dk.i64 x) (hl : xs.length ≤ 1000) :
    Calls Try.prog 8 #[.pointer (some ⟨bd, 0, none⟩), .int .i64 x] w fun e w' => e = .returned (.bool true) ∧ One W bd w' (xs ++ [x]) := by
  obtain ⟨⟨v, h⟩, u⟩ := h
  exact (Push_yes _ bd v xs x w h hx hi hl).mono fun e w' g => ⟨g.1, One.of h u g.2⟩
theorem Push_one_no {W w : World} {bd : Nat} {xs : List Int} (h : One W bd w xs) (x : Int) (hx : xs.contains x = true) :
    Calls Try.prog 8 #[.pointer (some ⟨bd, 0, none⟩), .int .i64 x] w fun e w' => e = .returned (.bool false) ∧ w' = w := by
  obtain ⟨⟨v, h⟩, u⟩ := h
  exact Push_no _ bd v xs x w h hx
theorem PushFront_one {W w : World} {bd : Nat} {xs : List Int} (h : One W bd w xs) (x : Int) (hx : xs.contains x = false) (hi : Dk.i64 x) (hl : xs.length ≤ 1000) :
    Calls Try.prog 9 #[.pointer (some ⟨bd, 0, none⟩), .int .i64 x] w fun e w' => e = .returned (.bool true) ∧ One W bd w' (x :: xs) := by
  obtain ⟨⟨v, h⟩, u⟩ := h
  exact (PushFront_yes _ bd v xs x w h hx hi hl).mono fun e w' g => ⟨g.1, One.of h u g.2⟩
theorem PopBack_one {W w : World} {bd : Nat} {x : Int} {xs : List Int} (h : One W bd w (xs ++ [x])) (hl : xs.length ≤ 900) :
    Calls Try.prog 11 #[.pointer (some ⟨bd, 0, none⟩)] w fun e w' => e = .returned (.tuple #[.int .i64 x, .bool true]) ∧ One W bd w' xs := by
  obtain ⟨⟨v, h⟩, u⟩ := h
  exact (PopBack_yes _ bd v x xs w h hl).mono fun e w' g => ⟨g.1, One.of h u g.2⟩
theorem Drop_one {W w : World} {bd : Nat} {xs : List Int} (h : One W bd w xs) (x : Int) (k : Nat) (hl : xs.length ≤ 1000) (hk : k < xs.length) (hx : xs.getD k 0 = x) (hn : ∀ j, j < k → xs.getD j 0 ≠ x) :
    Calls Try.prog 13 #[.pointer (some ⟨bd, 0, none⟩), .int .i64 x] w fun e w' => e = .returned (.bool true) ∧ One W bd w' (xs.eraseIdx k) := by
  obtain ⟨⟨v, h⟩, u⟩ := h
  exact (Drop_yes _ bd v xs x k w h hl hk hx hn).mono fun e w' g => ⟨g.1, One.of h u g.2⟩
theorem Drop_one_no {W w : World} {bd : Nat} {xs : List Int} (h : One W bd w xs) (x : Int) (hx : ∀ j, j < xs.length → xs.getD j 0 ≠ x) :
    Calls Try.prog 13 #[.pointer (some ⟨bd, 0, none⟩), .int .i64 x] w fun e w' => e = .returned (.bool false) ∧ w' = w := by
  obtain ⟨⟨v, h⟩, u⟩ := h
  exact Drop_no _ bd v xs x w h hx
theorem All_one {W w : World} {bd : Nat} {xs : List Int} (h : One W bd w xs) (hl : xs.length ≤ 1000) :
    Calls Try.prog 16 #[.pointer (some ⟨bd, 0, none⟩)] w fun e w' => ∃ A C, e = .returned (.slice A xs.length C) ∧ One W bd w' xs ∧ Hid (Dk.SlI w'.heap.size w' A xs.length C xs) := by
  obtain ⟨⟨v, h⟩, u⟩ := id h
  refine (All_any _ bd v xs w h hl).mono ?_
  rintro e w' ⟨v', rfl, ho, hu⟩
  obtain ⟨A, C, rfl, hS⟩ := Dk.owns_ints ho h.wf
  exact ⟨A, C, rfl, ⟨⟨v, h.up hu⟩, Dk.up_call u hu⟩, hS⟩
/-- A list of one number, typed out. -/
theorem lit_one (w w' : World) (x : Int) (hx : Dk.i64 x) (e : w' = w.alloc (.cells #[.int .i64 x] 3)) : Dk.SlI w'.heap.size w' (some ⟨w.heap.size, 0, none⟩) 1 1 [x] := by
  have b6 : Dk.Box w' w.heap.size #[.int .i64 x] 3 := by rw [e]; exact Dk.Box.new _ _ _
  exact ⟨rfl, Nat.le_refl _, by unfold maxLen; omega, fun y hy => by simp at hy; rw [hy]; exact hx, fun _ => ⟨_, 0, rfl, b6.lt, fun k hk => by
    obtain rfl : k = 0 := by omega
    exact b6.cell 0⟩⟩
theorem sli_up {w w' : World} {A : Option Addr} {L C : Nat} {xs : List Int} (h : Dk.SlI w.heap.size w A L C xs) (u : Below w.heap.size w w') : Dk.SlI w'.heap.size w' A L C xs := (h.below u (Nat.le_refl _)).more u.size

set_option maxHeartbeats 1000000 in
theorem awake_any (w : World) : Calls Try.prog 14 #[] w fun e w' => e = .returned (.bool true) ∧ Below w.heap.size w w' := by
  go_enter Try.func14, Try.ntmps14
  go_wp2_with fail
  refine (New_any w).mono ?_
  rintro e w1 ⟨rfl, h1, u1, z1⟩
  have o1 : One w w.heap.size w1 [] := ⟨⟨_, h1⟩, u1⟩
  have K1 : Calls Try.prog 8 #[.pointer (some ⟨w.heap.size, 0, none⟩), .int .i64 1] w1 fun e w' => e = .returned (.bool true) ∧ One w w.heap.size w' [1] := Push_one o1 1 rfl (by unfold Dk.i64; omega) (by simp)
  clear h1 u1 z1 o1
  go_wp2_with fail
  refine K1.mono ?_
  rintro e w2 ⟨rfl, o2⟩
  have K2 : Calls Try.prog 9 #[.pointer (some ⟨w.heap.size, 0, none⟩), .int .i64 2] w2 fun e w' => e = .returned (.bool true) ∧ One w w.heap.size w' [2, 1] := PushFront_one o2 2 rfl (by unfold Dk.i64; omega) (by simp)
  clear K1 o2
  go_wp2_with fail
  refine K2.mono ?_
  rintro e w3 ⟨rfl, o3⟩
  have K3 := Push_one_no o3 1 rfl
  have K4 : Calls Try.prog 11 #[.pointer (some ⟨w.heap.size, 0, none⟩)] w3 fun e w' => e = .returned (.tuple #[.int .i64 1, .bool true]) ∧ One w w.heap.size w' [2] := PopBack_one (xs := [2]) o3 (by simp)
  clear K2 o3
  go_wp2_with (go_at_call 8; refine K3.mono ?_; rintro e w' ⟨rfl, hw'⟩; subst w')
  refine K4.mono ?_
  rintro e w4 ⟨rfl, o4⟩
  have K5 : Calls Try.prog 16 #[.pointer (some ⟨w.heap.size, 0, none⟩)] w4 fun e w' => ∃ A C, e = .returned (.slice A 1 C) ∧ One w w.heap.size w' [2] ∧ Hid (Dk.SlI w'.heap.size w' A 1 C [2]) := All_one o4 (by simp)
  clear K3 K4 o4
  go_wp2_with fail
  refine K5.mono ?_
  rintro e w5 ⟨A5, C5, rfl, o5, s5⟩
  obtain ⟨w6, e6⟩ : ∃ w6, w6 = w5.alloc (.cells #[.int .i64 2] 3) := ⟨_, rfl⟩
  have u6 : Below w5.heap.size w5 w6 := by rw [e6]; exact Dk.up_alloc (Below.refl _ _) _
  have o6 := o5.up u6
  have K6 := Ints_same A5 (some ⟨w5.heap.size, 0, none⟩) 1 C5 1 [2] w6 (sli_up s5.out u6) (lit_one w5 w6 2 (by unfold Dk.i64; omega) e6)
  have HE6 : Hid _ := e6
  clear K5 o5 s5 u6 e6
  go_wp2_with fail
  rw [← HE6.out]
  refine K6.mono ?_
  rintro e w7 ⟨rfl, u7⟩
  have K7 : Calls Try.prog 13 #[.pointer (some ⟨w.heap.size, 0, none⟩), .int .i64 2] w7 fun e w' => e = .returned (.bool true) ∧ One w w.heap.size w' [] := Drop_one (o6.up u7) 2 0 (by simp) (by simp) rfl (fun j hj => absurd hj (Nat.not_lt_zero _))
  clear K6 o6 u7 HE6
  go_wp2_with fail
  refine K7.mono ?_
  rintro e w8 ⟨rfl, o8⟩
  have K8 := Drop_one_no o8 2 (fun j hj => absurd hj (by simp))
  clear K7
  go_wp2_with (go_at_call 13; refine K8.mono ?_; rintro e w' ⟨rfl, hw'⟩; subst w')
  go_ret
  exact ⟨rfl, (Hid.out o8).2⟩

theorem DequeNone_any (x : Int) (w : World) : Calls Try.prog 5 #[.int .i64 x] w fun e w' => e = .returned (.bool true) ∧ Below w.heap.size w w' := by
  go_enter Try.func5, Try.ntmps5
  go_wp2_with (first | (go_at_call 10; refine (Pop_nil _).mono ?_; rintro e w' ⟨rfl, hw'⟩; subst w') | (go_at_call 11; refine (PopBack_nil _).mono ?_; rintro e w' ⟨rfl, hw'⟩; subst w'))
  refine (awake_any w).mono ?_
  rintro e w1 ⟨rfl, u1⟩
  go_wp2_with (first | (go_at_call 8; refine (Push_nil _ _).mono ?_; rintro e w' ⟨rfl, hw'⟩; subst w') | (go_at_call 9; refine (PushFront_nil _ _).mono ?_; rintro e w' ⟨rfl, hw'⟩; subst w') | (go_at_call 13; refine (Drop_nil _ _).mono ?_; rintro e w' ⟨rfl, hw'⟩; subst w') | (go_at_call 16; refine (All_nil _).mono ?_; rintro e w' ⟨rfl, hw'⟩; subst w'))
  go_ret
  exact ⟨rfl, u1⟩

end Go.Proofs.Ytgaionhlfnpdhaa
