/- The fixed fact of the statements on moments, and the walk of the statement on one who sleeps. -/
import Derived.Test.YtiaegeaogleepaaWp
namespace Go.Proofs.Ytiaegeaogleepaa
set_option linter.unusedSimpArgs false
set_option linter.unusedVariables false
set_option linter.unnecessarySimpa false
open Go.RowKit Go.Maps

/-- Lists of another length are others. -/
theorem Ints_short (A A' : Option Addr) (L L' C C' : Nat) (w : World) (h : L ≠ L') : Calls Try.prog 7 #[.slice A L C, .slice A' L' C'] w fun e w' => e = .returned (.bool false) ∧ w' = w := by
  have y1 : ((L : Int) != (L' : Int)) = true := by simp; omega
  go_enter Try.func7, Try.ntmps7
  go_wp2
  go_ret
  exact ⟨rfl, rfl⟩
/-- A list of one number, typed out. -/
theorem lit_one (w w' : World) (x : Int) (hx : Dk.i64 x) (e : w' = w.alloc (.cells #[.int .i64 x] 3)) : Dk.SlI w'.heap.size w' (some ⟨w.heap.size, 0, none⟩) 1 1 [x] := by
  have b6 : Dk.Box w' w.heap.size #[.int .i64 x] 3 := by rw [e]; exact Dk.Box.new _ _ _
  exact ⟨rfl, Nat.le_refl _, by unfold maxLen; omega, fun y hy => by simp at hy; rw [hy]; exact hx, fun _ => ⟨_, 0, rfl, b6.lt, fun k hk => by
    obtain rfl : k = 0 := by omega
    exact b6.cell 0⟩⟩

section
variable {W w : World} {M bd : Nat} {now : Int} {L : List (Int × Int)} {us : List Row1} {bs : List Box1}
/-- A moment goes by, and what is due is known. -/
theorem Tick_to (h : Pk W M bd w now L us bs) (hM : M ≤ 10000) (t : Int) (L' : List (Int × Int)) (ys : List Int) (ht : min (now + 1) 1099511627776 = t) (hL : Dk.leftOf t L = L') (hr : Dk.Rising ys) (hp : ys.Perm (Dk.dueOf t L)) :
    Calls Try.prog 8 #[.pointer (some ⟨bd, 0, none⟩)] w fun e w' => ∃ A C, e = .returned (.slice A ys.length C) ∧ Pk W M bd w' t L' ((.slice A ys.length C, ys) :: us) bs := by
  refine (Tick_pk h hM).mono ?_
  rintro e w' ⟨A, C, zs, rfl, hP, hz⟩
  rw [ht] at hP hz
  rw [hL] at hP
  obtain rfl : zs = ys := Dk.rising_eq (hz.out.2.trans hp.symm) hz.out.1 hr
  exact ⟨A, C, rfl, hP⟩
/-- What is due is held against a list of one. -/
theorem Ints_lit {w6 : World} {A : Option Addr} {C : Nat} {x : Int} (h : Pk W M bd w now L us bs) (hu : (.slice A 1 C, [x]) ∈ us) (hx : Dk.i64 x) (e : w6 = w.alloc (.cells #[.int .i64 x] 3)) :
    Calls Try.prog 7 #[.slice A 1 C, .slice (some ⟨w.heap.size, 0, none⟩) 1 1] w6 fun e w' => e = .returned (.bool true) ∧ Pk W M bd w' now L us bs := by
  have u6 : Below w.heap.size w w6 := by rw [e]; exact Dk.up_alloc (Below.refl _ _) _
  have h6 := h.below u6
  have s : Dk.SlI w6.heap.size w6 A 1 C [x] := h6.slice (xs := [x]) hu
  exact (Ints_same A (some ⟨w.heap.size, 0, none⟩) 1 C 1 [x] w6 s (lit_one w w6 x hx e)).mono fun e w' g => ⟨g.1, h6.below g.2⟩
end

set_option maxHeartbeats 1000000 in
theorem awake_any (w : World) : Calls Try.prog 13 #[] w fun e w' => e = .returned (.bool true) ∧ Below w.heap.size w w' := by
  go_enter Try.func13, Try.ntmps13
  go_wp2_with fail
  refine (New_any w).mono ?_
  rintro e w1 ⟨rfl, h1, u1⟩
  obtain ⟨bd, ebd⟩ : ∃ bd, w.heap.size + 1 = bd := ⟨_, rfl⟩
  rw [ebd] at h1 ⊢
  have p1 := Pk.begin h1 u1
  have K1 : Calls Try.prog 11 #[.pointer (some ⟨bd, 0, none⟩), .int .i64 3, .int .i64 2] w1 fun e w' => e = .returned (.int .i64 0) ∧ Pk w 1 bd w' 0 [(3, 2)] [] [] := Sleep_pk p1 (by unfold Dk.i64; omega) (by omega) (by omega) (by decide) (by omega)
  clear h1 u1 p1 ebd
  go_wp2_with fail
  refine K1.mono ?_
  rintro e w2 ⟨rfl, p2⟩
  have K2 : Calls Try.prog 11 #[.pointer (some ⟨bd, 0, none⟩), .int .i64 1, .int .i64 1] w2 fun e w' => e = .returned (.int .i64 0) ∧ Pk w 2 bd w' 0 [(3, 2), (1, 1)] [] [] := Sleep_pk p2 (by unfold Dk.i64; omega) (by omega) (by omega) (by decide) (by omega)
  clear K1 p2
  go_wp2_with fail
  refine K2.mono ?_
  rintro e w3 ⟨rfl, p3⟩
  have K3 : Calls Try.prog 11 #[.pointer (some ⟨bd, 0, none⟩), .int .i64 3, .int .i64 9] w3 fun e w' => e = .returned (.int .i64 4) ∧ w' = w3 := Sleep_pk_busy p3 (by unfold Dk.i64; omega) (by omega) (by omega) (by decide)
  have K4 : Calls Try.prog 8 #[.pointer (some ⟨bd, 0, none⟩)] w3 fun e w' => ∃ A C, e = .returned (.slice A 1 C) ∧ Pk w 2 bd w' 1 [(3, 2)] [(.slice A 1 C, [1])] [] := Tick_to p3 (by omega) 1 [(3, 2)] [1] (by decide) (by decide) (List.pairwise_singleton _ _) (by decide)
  clear K2 p3
  go_wp2_with (first | (go_at_call 11; refine K3.mono ?_; rintro e w' ⟨rfl, hw'⟩; subst w'))
  refine K4.mono ?_
  rintro e w4 ⟨A4, C4, rfl, p4⟩
  have K5 : Calls Try.prog 8 #[.pointer (some ⟨bd, 0, none⟩)] w4 fun e w' => ∃ A C, e = .returned (.slice A 1 C) ∧ Pk w 2 bd w' 2 [] [(.slice A 1 C, [3]), (.slice A4 1 C4, [1])] [] := Tick_to p4 (by omega) 2 [] [3] (by decide) (by decide) (List.pairwise_singleton _ _) (by decide)
  clear K3 K4 p4
  go_wp2_with fail
  refine K5.mono ?_
  rintro e w5 ⟨A5, C5, rfl, p5⟩
  obtain ⟨w6, e6⟩ : ∃ w6, w6 = w5.alloc (.cells #[.int .i64 1] 3) := ⟨_, rfl⟩
  have K6 := Ints_lit p5 (A := A4) (C := C4) (x := 1) (by simp) (by unfold Dk.i64; omega) e6
  have HE6 : Hid _ := e6
  clear K5 p5 e6
  go_wp2_with fail
  rw [← HE6.out]
  refine K6.mono ?_
  rintro e w7 ⟨rfl, p7⟩
  obtain ⟨w8, e8⟩ : ∃ w8, w8 = w7.alloc (.cells #[.int .i64 3] 3) := ⟨_, rfl⟩
  have K8 := Ints_lit p7 (A := A5) (C := C5) (x := 3) (by simp) (by unfold Dk.i64; omega) e8
  have HE8 : Hid _ := e8
  clear K6 p7 e8 HE6
  go_wp2_with fail
  rw [← HE8.out]
  refine K8.mono ?_
  rintro e w9 ⟨rfl, p9⟩
  have K9 := Now_pk p9
  have K10 := Sleep_few bd 1 0 w9 (by omega)
  clear K8 HE8
  go_wp2_with (first | (go_at_call 9; refine K9.mono ?_; rintro e w' ⟨rfl, hw'⟩; subst w') | (go_at_call 11; refine K10.mono ?_; rintro e w' ⟨rfl, hw'⟩; subst w'))
  go_ret
  exact ⟨rfl, p9.out⟩

end Go.Proofs.Ytiaegeaogleepaa
