/- Of a semaphore just as many go on: the statement GateCounts, walked. -/
import Derived.Test.YtjkdaankjondjaaHr
import Derived.Test.YtjkdaankjondjaaOpb
namespace Dk
set_option linter.unusedSimpArgs false
set_option linter.unusedVariables false
set_option linter.unnecessarySimpa false
open Go Go.RowKit
/-- One semaphore alone. -/
def one (c : Int) (l : List Int) : St := ⟨[], [], [], [], [c], [l]⟩
theorem one_start (c : Int) (h : 0 ≤ c ∧ c ≤ 4) : start 0 0 [c] = one c [] := by
  have e : cl c = c := by
    unfold cl
    rw [if_neg (by omega), if_neg (by omega)]
  show St.mk _ _ _ _ [cl c] _ = _
  rw [e]
  rfl
theorem one_up_some (c : Int) (l : List Int) (ch : Int) (h : 0 < l.length) : (one c l).up 0 ch = (one c (l.eraseIdx (at_ ch l.length)), l.getD (at_ ch l.length) 0, true, 0) := by
  unfold St.up
  rw [if_pos (show 0 < ((one c l).downs.getD 0 []).length from h)]
  rfl
theorem one_up_more (c : Int) (ch : Int) (h : c ≠ 1048576) : (one c []).up 0 ch = (one (c + 1) [], 0, false, 0) := by
  unfold St.up
  rw [if_neg (show ¬ 0 < ((one c []).downs.getD 0 []).length by simp [one]), if_neg (show ¬ (one c []).count.getD 0 0 = 1048576 from h)]
  rfl
theorem one_waits (c : Int) (l : List Int) (x : Int) : (one c l).waits x = l.contains x := by
  simp [St.waits, one]
theorem one_down_yes (c : Int) (l : List Int) (x : Int) (hx : l.contains x = false) (hc : 0 < c) : (one c l).down x 0 = (one (c - 1) l, true, 0) := by
  unfold St.down
  rw [one_waits, hx, if_neg (by simp), if_pos (show 0 < (one c l).count.getD 0 0 from hc)]
  rfl
theorem one_down_wait (c : Int) (l : List Int) (x : Int) (hx : l.contains x = false) (hc : ¬ 0 < c) : (one c l).down x 0 = (one c (l ++ [x]), false, 0) := by
  unfold St.down
  rw [one_waits, hx, if_neg (by simp), if_neg (show ¬ 0 < (one c l).count.getD 0 0 from hc)]
  rfl
end Dk
namespace Go.Proofs.Ytjkdaankjondjaa
set_option linter.unusedSimpArgs false
set_option linter.unusedVariables false
set_option linter.unnecessarySimpa false
open Go.RowKit Go.Lib

theorem mem_end {l : List Int} {j : Nat} (h : ∀ x ∈ l, x < (j : Int)) : ∀ x ∈ l ++ [(j : Int)], x < ((j + 1 : Nat) : Int) := fun x hx => by
  rcases List.mem_append.1 hx with hx | hx
  · have := h x hx; omega
  · rw [List.mem_singleton] at hx; omega

set_option maxRecDepth 100000 in
set_option maxHeartbeats 4000000 in
theorem GateCounts_true (n0 : Nat) (hn0 : n0 < 256) (A : Option Addr) (L C : Nat) (ups : List Bool) (ch : Int) (hch : Dk.i64 ch) (w : World) (hr : Dk.Row 1 false Dk.IsBool w.heap.size w A L C ups) : Calls Try.prog 5 #[.int .u8 (n0 : Int), .slice A L C, .int .i64 ch] w fun e w' => e = .returned (.bool true) ∧ Below w.heap.size w w' := by
  obtain ⟨c0, ec0⟩ : ∃ c0 : Nat, c0 = n0 % 5 := ⟨_, rfl⟩
  have hc0 : c0 ≤ 4 := by omega
  have er : ((n0 : Int)).tmod 5 = (c0 : Int) := by rw [Int.tmod_eq_emod_of_nonneg (by omega)]; omega
  have ew : IntKind.u8.wrap (c0 : Int) = (c0 : Int) := by
    obtain rfl | rfl | rfl | rfl | rfl : c0 = 0 ∨ c0 = 1 ∨ c0 = 2 ∨ c0 = 3 ∨ c0 = 4 := by omega
    all_goals rfl
  have ew2 : IntKind.i64.wrap (c0 : Int) = (c0 : Int) := by rw [IntKind.wrap_i64]; omega
  obtain ⟨W1, e1⟩ : ∃ W1, W1 = w.alloc (.cells #[.int .i64 (c0 : Int)] 3) := ⟨_, rfl⟩
  have u1 : Below w.heap.size w W1 := by rw [e1]; exact Dk.up_alloc (Below.refl _ _) _
  have K0 := New_gt (W := w) (us := []) (Dk.Sep.begin u1) 0 0 _ 1 1 [(c0 : Int)] (lit_one w W1 c0 (i64_of _ (by omega)) e1)
  rw [Dk.one_start c0 (by omega)] at K0
  have H1 : Hid (w.alloc (.cells #[.int .i64 (c0 : Int)] 3) = W1) := e1.symm
  have HR : Hid _ := hr
  have hmx := hr.max
  have hcap := hr.cap
  unfold maxLen at hmx
  clear e1 u1 hr ec0
  go_enter Try.func5, Try.ntmps5
  go_wp2_with (rw [H1.out]; clear H1)
  refine K0.mono ?_
  rintro e w0 ⟨b, rfl, h0⟩
  clear K0
  go_wp2_with fail
  go_loopw [8, 9, 10] (fun g n i w' => ∃ (j : Nat) (gv gn c : Int) (l : List Int), j ≤ L ∧ j ≤ 80 ∧ i = .int .i64 j ∧ g = .int .i64 gv ∧ n = .int .i64 gn ∧ gv - gn = c ∧ 0 ≤ gn ∧ gv ≤ 4 + j ∧ 0 ≤ c ∧ (∀ x ∈ l, x < (j : Int)) ∧ Gt w w' b (Dk.one c l) j []) (fun g n i w' => L - (intOf i).toNat)
  case atStart => exact ⟨0, c0, 0, c0, [], by omega, by omega, rfl, rfl, rfl, by omega, by omega, by omega, by omega, fun x hx => by simp at hx, h0⟩
  case round =>
    obtain ⟨j, gv, gn, c, l, hjL, hj80, rfl, rfl, rfl, hgc, hg0, hgv, hc0', hlt2, hT⟩ := hrel
    clear h0
    by_cases hlt : j < L ∧ j < 80
    · obtain ⟨hlt1, hlt8⟩ := hlt
      obtain ⟨ba, oa, rfl, cx⟩ := Dk.bool_cell (w := wr) HR.out hlt1 (fun b o hb => hT.out.cell (p := ⟨b, o, none⟩) hb)
      have y1 : decide ((j : Int) < (L : Int)) = true := decide_eq_true (by omega)
      have y2 : decide ((j : Int) < 80) = true := decide_eq_true (by omega)
      have hjLi : (j : Int) < (L : Int) := by omega
      cases hv : ups.getD j false with
      | true =>
        rw [hv] at cx
        clear hv
        by_cases hl : 0 < l.length
        · obtain ⟨y, ey⟩ : ∃ y, l.getD (Dk.at_ ch l.length) 0 = y := ⟨_, rfl⟩
          have K := Up_all (n := 0) hT (by omega) Nat.zero_lt_one hch
          rw [Dk.one_up_some c l ch hl, ey] at K
          have K' : Calls Try.prog 21 #[.pointer (some ⟨b, 0, none⟩), .int .i64 0, .int .i64 ch] wr fun e w' => e = .returned (.tuple #[.int .i64 y, .bool true, .int .i64 0]) ∧ Gt w w' b (Dk.one c (l.eraseIdx (Dk.at_ ch l.length))) (j + 1) [] := K
          clear K hT
          go_wp2_with fail
          refine K'.mono ?_
          rintro e w2 ⟨rfl, h2⟩
          clear K'
          go_wp2_with fail
          go_roundw
          case rel => exact ⟨j + 1, gv + 1, gn + 1, c, l.eraseIdx (Dk.at_ ch l.length), by omega, by omega, by go_num, rfl, rfl, by omega, by omega, by omega, by omega, fun x hx => by have := hlt2 x (List.mem_of_mem_eraseIdx hx); omega, h2⟩
          case measure => simp [intOf]; omega
        · obtain rfl : l = [] := List.eq_nil_of_length_eq_zero (by omega)
          have K := Up_all (n := 0) hT (by omega) Nat.zero_lt_one hch
          rw [Dk.one_up_more c ch (by omega)] at K
          have K' : Calls Try.prog 21 #[.pointer (some ⟨b, 0, none⟩), .int .i64 0, .int .i64 ch] wr fun e w' => e = .returned (.tuple #[.int .i64 0, .bool false, .int .i64 0]) ∧ Gt w w' b (Dk.one (c + 1) []) (j + 1) [] := K
          clear K hT
          go_wp2_with fail
          refine K'.mono ?_
          rintro e w2 ⟨rfl, h2⟩
          clear K'
          go_wp2_with fail
          go_roundw
          case rel => exact ⟨j + 1, gv + 1, gn, c + 1, [], by omega, by omega, by go_num, rfl, rfl, by omega, by omega, by omega, by omega, fun x hx => by simp at hx, h2⟩
          case measure => simp [intOf]; omega
      | false =>
        rw [hv] at cx
        clear hv
        have hnl : l.contains (j : Int) = false := by
          rw [Bool.eq_false_iff]
          intro hx
          rw [List.contains_iff_mem] at hx
          have := hlt2 _ hx
          omega
        by_cases hc : 0 < c
        · have K := Down_all (who := (j : Int)) (n := 0) hT (by omega) Nat.zero_lt_one (i64_of _ (by omega))
          rw [Dk.one_down_yes c l j hnl hc] at K
          have K' : Calls Try.prog 22 #[.pointer (some ⟨b, 0, none⟩), .int .i64 (j : Int), .int .i64 0] wr fun e w' => e = .returned (.tuple #[.bool true, .int .i64 0]) ∧ Gt w w' b (Dk.one (c - 1) l) (j + 1) [] := K
          clear K hT
          go_wp2_with fail
          refine K'.mono ?_
          rintro e w2 ⟨rfl, h2⟩
          clear K'
          go_wp2_with fail
          go_roundw
          case rel => exact ⟨j + 1, gv, gn + 1, c - 1, l, by omega, by omega, by go_num, rfl, rfl, by omega, by omega, by omega, by omega, fun x hx => by have := hlt2 x hx; omega, h2⟩
          case measure => simp [intOf]; omega
        · have K := Down_all (who := (j : Int)) (n := 0) hT (by omega) Nat.zero_lt_one (i64_of _ (by omega))
          rw [Dk.one_down_wait c l j hnl hc] at K
          have K' : Calls Try.prog 22 #[.pointer (some ⟨b, 0, none⟩), .int .i64 (j : Int), .int .i64 0] wr fun e w' => e = .returned (.tuple #[.bool false, .int .i64 0]) ∧ Gt w w' b (Dk.one c (l ++ [(j : Int)])) (j + 1) [] := K
          clear K hT
          go_wp2_with fail
          refine K'.mono ?_
          rintro e w2 ⟨rfl, h2⟩
          clear K'
          go_wp2_with fail
          go_roundw
          case rel => exact ⟨j + 1, gv, gn, c, l ++ [(j : Int)], by omega, by omega, by go_num, rfl, rfl, by omega, by omega, by omega, by omega, mem_end hlt2, h2⟩
          case measure => simp [intOf]; omega
    · by_cases hlt1 : j < L
      · have y1 : decide ((j : Int) < (L : Int)) = true := decide_eq_true (by omega)
        have y2 : decide ((j : Int) < 80) = false := decide_eq_false (by omega)
        go_wp2_with fail
        refine (awake_any wr).mono ?_
        rintro e w2 ⟨rfl, u2⟩
        have h2 := hT.below u2
        have K := Count_all (n := 0) h2 Nat.zero_lt_one
        have K' : Calls Try.prog 14 #[.pointer (some ⟨b, 0, none⟩), .int .i64 0] w2 fun e w' => e = .returned (.int .i64 c) ∧ w' = w2 := K
        have q0 : IntKind.i64.wrap (gv - gn) = c := by rw [hgc, IntKind.wrap_i64]; omega
        have q1 : decide (c = c) = true := decide_eq_true rfl
        have q2 : (c == c) = true := by simp
        clear K u2
        go_wp2_with fail
        refine K'.mono ?_
        rintro e w' ⟨rfl, hw'⟩
        subst w'
        go_wp2_with fail
        refine K'.mono ?_
        rintro e w' ⟨rfl, hw'⟩
        subst w'
        clear K'
        by_cases hc : c = 0
        · have HU : Hid _ := h2.out
          have z1 : decide (c = 0) = true := decide_eq_true hc
          have z2 : (c == 0) = true := by simpa using hc
          clear h2 hT hc
          go_wp2_with fail
          go_ret
          exact ⟨rfl, HU.out⟩
        · have z1 : decide (c = 0) = false := decide_eq_false hc
          have z2 : (c == 0) = false := by simpa using hc
          have hl : l = [] := by
            have := h2.fair.some_ 0 Nat.zero_lt_one (show 0 < c by omega)
            exact this
          subst hl
          have K := Waiters3 (n := 0) h2 (by omega) Nat.zero_lt_one [] rfl
          have K' : Calls Try.prog 13 #[.pointer (some ⟨b, 0, none⟩), .int .i64 3, .int .i64 0] w2 fun e w' => ∃ A C, e = .returned (.slice A 0 C) ∧ Gt w w' b (Dk.one c []) j (Dk.rowOf 3 1 (.slice A 0 C) 0 (Dk.is []) :: []) := K
          clear K h2 hT
          go_wp2_with fail
          refine K'.mono ?_
          rintro e w3 ⟨A3, C3, rfl, h3⟩
          have HU : Hid _ := h3.out
          clear K' h3
          go_wp2_with fail
          go_ret
          exact ⟨rfl, HU.out⟩
      · have y1 : decide ((j : Int) < (L : Int)) = false := decide_eq_false (by omega)
        go_wp2_with fail
        refine (awake_any wr).mono ?_
        rintro e w2 ⟨rfl, u2⟩
        have h2 := hT.below u2
        have K := Count_all (n := 0) h2 Nat.zero_lt_one
        have K' : Calls Try.prog 14 #[.pointer (some ⟨b, 0, none⟩), .int .i64 0] w2 fun e w' => e = .returned (.int .i64 c) ∧ w' = w2 := K
        have q0 : IntKind.i64.wrap (gv - gn) = c := by rw [hgc, IntKind.wrap_i64]; omega
        have q1 : decide (c = c) = true := decide_eq_true rfl
        have q2 : (c == c) = true := by simp
        clear K u2
        go_wp2_with fail
        refine K'.mono ?_
        rintro e w' ⟨rfl, hw'⟩
        subst w'
        go_wp2_with fail
        refine K'.mono ?_
        rintro e w' ⟨rfl, hw'⟩
        subst w'
        clear K'
        by_cases hc : c = 0
        · have HU : Hid _ := h2.out
          have z1 : decide (c = 0) = true := decide_eq_true hc
          have z2 : (c == 0) = true := by simpa using hc
          clear h2 hT hc
          go_wp2_with fail
          go_ret
          exact ⟨rfl, HU.out⟩
        · have z1 : decide (c = 0) = false := decide_eq_false hc
          have z2 : (c == 0) = false := by simpa using hc
          have hl : l = [] := by
            have := h2.fair.some_ 0 Nat.zero_lt_one (show 0 < c by omega)
            exact this
          subst hl
          have K := Waiters3 (n := 0) h2 (by omega) Nat.zero_lt_one [] rfl
          have K' : Calls Try.prog 13 #[.pointer (some ⟨b, 0, none⟩), .int .i64 3, .int .i64 0] w2 fun e w' => ∃ A C, e = .returned (.slice A 0 C) ∧ Gt w w' b (Dk.one c []) j (Dk.rowOf 3 1 (.slice A 0 C) 0 (Dk.is []) :: []) := K
          clear K h2 hT
          go_wp2_with fail
          refine K'.mono ?_
          rintro e w3 ⟨A3, C3, rfl, h3⟩
          have HU : Hid _ := h3.out
          clear K' h3
          go_wp2_with fail
          go_ret
          exact ⟨rfl, HU.out⟩
end Go.Proofs.Ytjkdaankjondjaa
