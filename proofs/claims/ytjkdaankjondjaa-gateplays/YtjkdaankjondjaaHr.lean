/- The fixed fact; no gates. -/
import Derived.Test.YtjkdaankjondjaaHq
namespace Go.Proofs.Ytjkdaankjondjaa
set_option linter.unusedSimpArgs false
set_option linter.unusedVariables false
set_option linter.unnecessarySimpa false
open Go.RowKit Go.Lib

/-- A list of one number, typed out. -/
theorem lit_one (w w' : World) (x : Int) (hx : Dk.i64 x) (e : w' = w.alloc (.cells #[.int .i64 x] 3)) : Dk.SlI w'.heap.size w' (some ⟨w.heap.size, 0, none⟩) 1 1 [x] := by
  have b6 : Dk.Box w' w.heap.size #[.int .i64 x] 3 := by rw [e]; exact Dk.Box.new _ _ _
  exact ⟨rfl, Nat.le_refl _, by unfold maxLen; omega, fun y hy => by simp at hy; rw [hy]; exact hx, fun _ => ⟨_, 0, rfl, b6.lt, fun k hk => by
    obtain rfl : k = 0 := by omega
    exact b6.cell 0⟩⟩
theorem i64_of (x : Int) (h : -1000000 ≤ x ∧ x ≤ 1000000) : Dk.i64 x := by unfold Dk.i64; omega

set_option maxRecDepth 100000 in
set_option maxHeartbeats 4000000 in
theorem awake_any (w : World) : Calls Try.prog 15 #[] w fun e w' => e = .returned (.bool true) ∧ Below w.heap.size w w' := by
  obtain ⟨W1, e1⟩ : ∃ W1, W1 = w.alloc (.cells #[.int .i64 1] 3) := ⟨_, rfl⟩
  have u1 : Below w.heap.size w W1 := by rw [e1]; exact Dk.up_alloc (Below.refl _ _) _
  have K0 := New_gt (W := W1) (us := []) (Dk.Sep.begin (Below.refl _ _)) 1 1 _ 1 1 [1] (lit_one w W1 1 (i64_of _ (by omega)) e1)
  have es : Dk.start 1 1 [1] = (⟨[0], [false], [[]], [[]], [1], [[]]⟩ : Dk.St) := by kernel_rfl
  rw [es] at K0
  have H1 : Hid (w.alloc (.cells #[.int .i64 1] 3) = W1) := e1.symm
  have U1 : Hid _ := u1
  clear e1 u1 es
  go_enter Try.func15, Try.ntmps15
  go_wp2_with (rw [H1.out]; clear H1)
  refine K0.mono ?_
  rintro e w0 ⟨b, rfl, h0⟩
  clear K0
  have es : Dk.St.lock ⟨[0], [false], [[]], [[]], [1], [[]]⟩ 1 0 = (⟨[1], [true], [[]], [[]], [1], [[]]⟩, true, 0) := by kernel_rfl
  have K := Lock_all (who := 1) (n := 0) h0 (by decide) (by decide) (i64_of _ (by omega))
  rw [es] at K
  have K' : Calls Try.prog 17 #[.pointer (some ⟨b, 0, none⟩), .int .i64 1, .int .i64 0] w0 fun e w' => e = .returned (.tuple #[.bool true, .int .i64 0]) ∧ Gt W1 w' b ⟨[1], [true], [[]], [[]], [1], [[]]⟩ _ [] := K
  clear K es h0
  go_wp2_with fail
  refine K'.mono ?_
  rintro e w1 ⟨rfl, h1⟩
  clear K'
  have es : Dk.St.lock ⟨[1], [true], [[]], [[]], [1], [[]]⟩ 2 0 = (⟨[1], [true], [[2]], [[]], [1], [[]]⟩, false, 0) := by kernel_rfl
  have K := Lock_all (who := 2) (n := 0) h1 (by decide) (by decide) (i64_of _ (by omega))
  rw [es] at K
  have K' : Calls Try.prog 17 #[.pointer (some ⟨b, 0, none⟩), .int .i64 2, .int .i64 0] w1 fun e w' => e = .returned (.tuple #[.bool false, .int .i64 0]) ∧ Gt W1 w' b ⟨[1], [true], [[2]], [[]], [1], [[]]⟩ _ [] := K
  clear K es h1
  go_wp2_with fail
  refine K'.mono ?_
  rintro e w2 ⟨rfl, h2⟩
  clear K'
  have es : Dk.St.unlock ⟨[1], [true], [[2]], [[]], [1], [[]]⟩ 1 0 0 = (⟨[2], [true], [[]], [[]], [1], [[]]⟩, 2, true, 0) := by kernel_rfl
  have K := Unlock_all (who := 1) (n := 0) (ch := 0) h2 (by decide) (by decide) (i64_of _ (by omega))
  rw [es] at K
  have K' : Calls Try.prog 18 #[.pointer (some ⟨b, 0, none⟩), .int .i64 1, .int .i64 0, .int .i64 0] w2 fun e w' => e = .returned (.tuple #[.int .i64 2, .bool true, .int .i64 0]) ∧ Gt W1 w' b ⟨[2], [true], [[]], [[]], [1], [[]]⟩ _ [] := K
  clear K es h2
  go_wp2_with fail
  refine K'.mono ?_
  rintro e w3 ⟨rfl, h3⟩
  clear K'
  have es : Dk.St.unlock ⟨[2], [true], [[]], [[]], [1], [[]]⟩ 1 0 0 = (⟨[2], [true], [[]], [[]], [1], [[]]⟩, 0, false, 5) := by kernel_rfl
  have K := Unlock_all (who := 1) (n := 0) (ch := 0) h3 (by decide) (by decide) (i64_of _ (by omega))
  rw [es] at K
  have K' : Calls Try.prog 18 #[.pointer (some ⟨b, 0, none⟩), .int .i64 1, .int .i64 0, .int .i64 0] w3 fun e w' => e = .returned (.tuple #[.int .i64 0, .bool false, .int .i64 5]) ∧ Gt W1 w' b ⟨[2], [true], [[]], [[]], [1], [[]]⟩ _ [] := K
  clear K es h3
  go_wp2_with fail
  refine K'.mono ?_
  rintro e w4 ⟨rfl, h4⟩
  clear K'
  have es : Dk.St.hold ⟨[2], [true], [[]], [[]], [1], [[]]⟩ 2 0 0 0 = (⟨[2], [false], [[]], [[(2, 0)]], [1], [[]]⟩, 0, false, 0) := by kernel_rfl
  have K := Wait_all (who := 2) (c := 0) (n := 0) (ch := 0) h4 (by decide) (by decide) (by decide) (i64_of _ (by omega)) (i64_of _ (by omega))
  rw [es] at K
  have K' : Calls Try.prog 19 #[.pointer (some ⟨b, 0, none⟩), .int .i64 2, .int .i64 0, .int .i64 0, .int .i64 0] w4 fun e w' => e = .returned (.tuple #[.int .i64 0, .bool false, .int .i64 0]) ∧ Gt W1 w' b ⟨[2], [false], [[]], [[(2, 0)]], [1], [[]]⟩ _ [] := K
  clear K es h4
  go_wp2_with fail
  refine K'.mono ?_
  rintro e w5 ⟨rfl, h5⟩
  clear K'
  have es : Dk.St.signal ⟨[2], [false], [[]], [[(2, 0)]], [1], [[]]⟩ 0 5 false = (⟨[2], [true], [[]], [[]], [1], [[]]⟩, [2]) := by kernel_rfl
  have K := Signal_all (c := 0) (ch := 5) h5 (by decide) (by decide) (i64_of _ (by omega)) false
  rw [es] at K
  have K' : Calls Try.prog 20 #[.pointer (some ⟨b, 0, none⟩), .int .i64 0, .int .i64 5, .bool false] w5 fun e w' => ∃ A C, e = .returned (.tuple #[.slice A 1 C, .int .i64 0]) ∧ Gt W1 w' b ⟨[2], [true], [[]], [[]], [1], [[]]⟩ _ [Dk.rowOf 3 1 (.slice A 1 C) 1 (Dk.is [2])] := K
  clear K es h5
  go_wp2_with fail
  refine K'.mono ?_
  rintro e w6 ⟨A, C, rfl, h6⟩
  clear K'
  have es : Dk.St.down ⟨[2], [true], [[]], [[]], [1], [[]]⟩ 7 0 = (⟨[2], [true], [[]], [[]], [0], [[]]⟩, true, 0) := by kernel_rfl
  have K := Down_all (who := 7) (n := 0) h6 (by decide) (by decide) (i64_of _ (by omega))
  rw [es] at K
  have K' : Calls Try.prog 22 #[.pointer (some ⟨b, 0, none⟩), .int .i64 7, .int .i64 0] w6 fun e w' => e = .returned (.tuple #[.bool true, .int .i64 0]) ∧ Gt W1 w' b ⟨[2], [true], [[]], [[]], [0], [[]]⟩ _ [Dk.rowOf 3 1 (.slice A 1 C) 1 (Dk.is [2])] := K
  clear K es h6
  go_wp2_with fail
  refine K'.mono ?_
  rintro e w7 ⟨rfl, h7⟩
  clear K'
  have es : Dk.St.down ⟨[2], [true], [[]], [[]], [0], [[]]⟩ 8 0 = (⟨[2], [true], [[]], [[]], [0], [[8]]⟩, false, 0) := by kernel_rfl
  have K := Down_all (who := 8) (n := 0) h7 (by decide) (by decide) (i64_of _ (by omega))
  rw [es] at K
  have K' : Calls Try.prog 22 #[.pointer (some ⟨b, 0, none⟩), .int .i64 8, .int .i64 0] w7 fun e w' => e = .returned (.tuple #[.bool false, .int .i64 0]) ∧ Gt W1 w' b ⟨[2], [true], [[]], [[]], [0], [[8]]⟩ _ [Dk.rowOf 3 1 (.slice A 1 C) 1 (Dk.is [2])] := K
  clear K es h7
  go_wp2_with fail
  refine K'.mono ?_
  rintro e w8 ⟨rfl, h8⟩
  clear K'
  have es : Dk.St.up ⟨[2], [true], [[]], [[]], [0], [[8]]⟩ 0 3 = (⟨[2], [true], [[]], [[]], [0], [[]]⟩, 8, true, 0) := by kernel_rfl
  have K := Up_all (n := 0) (ch := 3) h8 (by decide) (by decide) (i64_of _ (by omega))
  rw [es] at K
  have K' : Calls Try.prog 21 #[.pointer (some ⟨b, 0, none⟩), .int .i64 0, .int .i64 3] w8 fun e w' => e = .returned (.tuple #[.int .i64 8, .bool true, .int .i64 0]) ∧ Gt W1 w' b ⟨[2], [true], [[]], [[]], [0], [[]]⟩ _ [Dk.rowOf 3 1 (.slice A 1 C) 1 (Dk.is [2])] := K
  clear K es h8
  go_wp2_with fail
  refine K'.mono ?_
  rintro e w9 ⟨rfl, h9⟩
  clear K'
  obtain ⟨W6, e6⟩ : ∃ W6, W6 = w9.alloc (.cells #[.int .i64 2] 3) := ⟨_, rfl⟩
  have u6 : Below w9.heap.size w9 W6 := by rw [e6]; exact Dk.up_alloc (Below.refl _ _) _
  have h10 := h9.below u6
  have s6 : Dk.SlI W6.heap.size W6 A 1 C [2] := by
    obtain ⟨A', C', ea, hs⟩ := Dk.owns_ints (xs := [2]) (h10.row (e := 3) (s := 1) (v := .slice A 1 C) (m := 1) (xs := Dk.is [2]) (by simp)) (fun x hx => by simp at hx; rw [hx]; exact i64_of _ (by omega))
    cases ea
    exact hs
  have K := Ints_same A (some ⟨w9.heap.size, 0, none⟩) 1 C 1 [2] W6 s6 (lit_one w9 W6 2 (i64_of _ (by omega)) e6)
  have U6 : Hid (Below w.heap.size w W6) := Dk.up_call U1.out h10.out
  have H6 : Hid (w9.alloc (.cells #[.int .i64 2] 3) = W6) := e6.symm
  clear e6 u6 h9 h10 s6
  go_wp2_with (rw [H6.out]; clear H6)
  refine K.mono ?_
  rintro e w' ⟨rfl, u⟩
  have U7 : Hid _ := Dk.up_call U6.out u
  clear K u
  go_wp2_with fail
  go_ret
  exact ⟨rfl, U7.out⟩
theorem Lock_nil (who n : Int) (w : World) : Calls Try.prog 17 #[.pointer none, .int .i64 who, .int .i64 n] w fun e w' => e = .returned (.tuple #[.bool false, .int .i64 1]) ∧ w' = w := by
  go_enter Try.func17, Try.ntmps17
  go_wp2_with fail
  refine (hasM_nil n w).mono ?_
  rintro e w' ⟨rfl, hw'⟩
  subst w'
  go_wp2_with fail
  go_ret2
  exact ⟨rfl, rfl⟩
theorem Unlock_nil (who n ch : Int) (w : World) : Calls Try.prog 18 #[.pointer none, .int .i64 who, .int .i64 n, .int .i64 ch] w fun e w' => e = .returned (.tuple #[.int .i64 0, .bool false, .int .i64 1]) ∧ w' = w := by
  go_enter Try.func18, Try.ntmps18
  go_wp2_with fail
  refine (hasM_nil n w).mono ?_
  rintro e w' ⟨rfl, hw'⟩
  subst w'
  go_wp2_with fail
  go_ret3
  exact ⟨rfl, rfl⟩
theorem Wait_nil (who c n ch : Int) (w : World) : Calls Try.prog 19 #[.pointer none, .int .i64 who, .int .i64 c, .int .i64 n, .int .i64 ch] w fun e w' => e = .returned (.tuple #[.int .i64 0, .bool false, .int .i64 1]) ∧ w' = w := by
  go_enter Try.func19, Try.ntmps19
  go_wp2_with fail
  refine (hasC_nil c w).mono ?_
  rintro e w' ⟨rfl, hw'⟩
  subst w'
  go_wp2_with fail
  go_ret3
  exact ⟨rfl, rfl⟩
theorem Signal_nil (n ch : Int) (all : Bool) (w : World) : Calls Try.prog 20 #[.pointer none, .int .i64 n, .int .i64 ch, .bool all] w fun e w' => e = .returned (.tuple #[.slice none 0 0, .int .i64 1]) ∧ w' = w := by
  go_enter Try.func20, Try.ntmps20
  go_wp2_with fail
  refine (hasC_nil n w).mono ?_
  rintro e w' ⟨rfl, hw'⟩
  subst w'
  go_wp2_with fail
  go_ret2
  exact ⟨rfl, rfl⟩
theorem Down_nil (who n : Int) (w : World) : Calls Try.prog 22 #[.pointer none, .int .i64 who, .int .i64 n] w fun e w' => e = .returned (.tuple #[.bool false, .int .i64 1]) ∧ w' = w := by
  go_enter Try.func22, Try.ntmps22
  go_wp2_with fail
  refine (hasS_nil n w).mono ?_
  rintro e w' ⟨rfl, hw'⟩
  subst w'
  go_wp2_with fail
  go_ret2
  exact ⟨rfl, rfl⟩
theorem Up_nil (n ch : Int) (w : World) : Calls Try.prog 21 #[.pointer none, .int .i64 n, .int .i64 ch] w fun e w' => e = .returned (.tuple #[.int .i64 0, .bool false, .int .i64 1]) ∧ w' = w := by
  go_enter Try.func21, Try.ntmps21
  go_wp2_with fail
  refine (hasS_nil n w).mono ?_
  rintro e w' ⟨rfl, hw'⟩
  subst w'
  go_wp2_with fail
  go_ret3
  exact ⟨rfl, rfl⟩
theorem Owner_nil (n : Int) (w : World) : Calls Try.prog 11 #[.pointer none, .int .i64 n] w fun e w' => e = .returned (.tuple #[.int .i64 0, .bool false]) ∧ w' = w := by
  go_enter Try.func11, Try.ntmps11
  go_wp2_with fail
  refine (hasM_nil n w).mono ?_
  rintro e w' ⟨rfl, hw'⟩
  subst w'
  go_wp2_with fail
  go_ret2
  exact ⟨rfl, rfl⟩
theorem Count_nil (n : Int) (w : World) : Calls Try.prog 14 #[.pointer none, .int .i64 n] w fun e w' => e = .returned (.int .i64 0) ∧ w' = w := by
  go_enter Try.func14, Try.ntmps14
  go_wp2_with fail
  refine (hasS_nil n w).mono ?_
  rintro e w' ⟨rfl, hw'⟩
  subst w'
  go_wp2_with fail
  go_ret
  exact ⟨rfl, rfl⟩
theorem Waiters_nil (kd n : Int) (w : World) : Calls Try.prog 13 #[.pointer none, .int .i64 kd, .int .i64 n] w fun e w' => e = .returned (.slice none 0 0) ∧ w' = w := by
  by_cases h1 : kd = 1
  · subst h1
    go_enter Try.func13, Try.ntmps13
    go_wp2_with fail
    refine (hasM_nil n w).mono ?_
    rintro e w' ⟨rfl, hw'⟩
    subst w'
    go_wp2_with fail
    go_ret
    exact ⟨rfl, rfl⟩
  · have y1 : decide (kd = 1) = false := decide_eq_false h1
    have y1' : (kd == 1) = false := by simpa using h1
    by_cases h2 : kd = 2
    · subst h2
      go_enter Try.func13, Try.ntmps13
      go_wp2_with fail
      refine (hasC_nil n w).mono ?_
      rintro e w' ⟨rfl, hw'⟩
      subst w'
      go_wp2_with fail
      go_ret
      exact ⟨rfl, rfl⟩
    · have y2 : decide (kd = 2) = false := decide_eq_false h2
      have y2' : (kd == 2) = false := by simpa using h2
      by_cases h3 : kd = 3
      · subst h3
        go_enter Try.func13, Try.ntmps13
        go_wp2_with fail
        refine (hasS_nil n w).mono ?_
        rintro e w' ⟨rfl, hw'⟩
        subst w'
        go_wp2_with fail
        go_ret
        exact ⟨rfl, rfl⟩
      · have y3 : decide (kd = 3) = false := decide_eq_false h3
        have y3' : (kd == 3) = false := by simpa using h3
        clear h1 h2 h3
        go_enter Try.func13, Try.ntmps13
        go_wp2_with fail
        go_ret
        exact ⟨rfl, rfl⟩
end Go.Proofs.Ytjkdaankjondjaa
