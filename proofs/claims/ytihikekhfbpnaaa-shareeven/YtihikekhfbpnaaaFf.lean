/- Lists that are the same, and the fixed fact of the statements on shares. -/
import Derived.Test.YtihikekhfbpnaaaFe
namespace Dk
set_option linter.unusedSimpArgs false
set_option linter.unusedVariables false
set_option linter.unnecessarySimpa false
open Go Go.RowKit
instance (p : List Int) (f n i : Nat) (k : Int) (j : Nat) (m : Int) : Decidable (ahead p f n i k j m) := by unfold ahead; infer_instance
theorem key_one : ∀ i, i < 2 → ∀ j, j < 2 → (0 : Int) < [2, 3].getD i 0 → ([2, 3] : List Int).getD j 0 < [4, 4].getD j 0 → ahead [0, 0] (turnOf 1 2) 2 i (([2, 3] : List Int).getD i 0 - 1) j (([2, 3] : List Int).getD j 0) := by decide
theorem key_two : ∀ i, i < 3 → ∀ j, j < 3 → (0 : Int) < [0, 0, 3].getD i 0 → ([0, 0, 3] : List Int).getD j 0 < [1, 9, 9].getD j 0 → ahead [0, 0, 5] (turnOf 0 3) 3 i (([0, 0, 3] : List Int).getD i 0 - 1) j (([0, 0, 3] : List Int).getD j 0) := by decide
theorem good_one : Good 5 [4, 4] [0, 0] [2, 3] (turnOf 1 2) := ⟨⟨rfl, by decide, by decide, fun i j hi hj => key_one i hi j hj⟩, by decide, by decide⟩
theorem good_two : Good 3 [1, 9, 9] [0, 0, 5] [0, 0, 3] (turnOf 0 3) := ⟨⟨rfl, by decide, by decide, fun i j hi hj => key_two i hi j hj⟩, by decide, by decide⟩
theorem ask_one : Ask 5 2 [0, 0] := ⟨rfl, by decide, by decide, by decide, by decide⟩
theorem ask_two : Ask 3 3 [0, 0, 5] := ⟨rfl, by decide, by decide, by decide, by decide⟩
theorem ask_three : ¬ Ask (-1) 1 [0] := fun h => absurd h.2.2.1 (by decide)
theorem sli_lit {w w' : World} {xs : List Int} {cs : Array Value} {t : TypeId} (L : Nat) (e : w' = w.alloc (.cells cs t)) (hc : cs = cells xs) (hl : xs.length = L) (hm : L ≤ 1000) (hx : ∀ k, k < L → i64 (xs.getD k 0)) : SlI w'.heap.size w' (some ⟨w.heap.size, 0, none⟩) L L xs := by
  subst hc
  exact sli_box (t := t) (by rw [e]; exact Box.new _ _ _) hl hm hx
instance (x : Int) : Decidable (i64 x) := by unfold i64; infer_instance
end Dk
namespace Go.Proofs.Ytihikekhfbpnaaa
set_option linter.unusedSimpArgs false
set_option linter.unusedVariables false
set_option linter.unnecessarySimpa false
open Go.RowKit

set_option maxHeartbeats 1000000 in
theorem Ints_same (A A' : Option Addr) (L C C' : Nat) (xs : List Int) (w : World) (h : Dk.SlI w.heap.size w A L C xs) (h' : Dk.SlI w.heap.size w A' L C' xs) :
    Calls Try.prog 10 #[.slice A L C, .slice A' L C'] w fun e w' => e = .returned (.bool true) ∧ Below w.heap.size w w' := by
  have hcap := h.cap
  have hmax := h.max
  unfold maxLen at hmax
  go_enter Try.func10, Try.ntmps10
  go_wp2
  go_loopw [5] (fun i w' => ∃ k : Nat, k ≤ L ∧ i = .int .i64 k ∧ Hid (Below w.heap.size w w')) (fun i w' => L - (intOf i).toNat)
  case atStart => exact ⟨0, Nat.zero_le _, rfl, Below.refl _ _⟩
  case round =>
    obtain ⟨k, hk, rfl, HB⟩ := hrel
    by_cases hlt : k < L
    · obtain ⟨b, o, rfl, hb, hc⟩ := h.cells (by omega)
      obtain ⟨b', o', rfl, hb', hc'⟩ := h'.cells (by omega)
      have c1 : wr.cell? ⟨b, o + k, none⟩ = some (.int .i64 (xs.getD k 0)) := by rw [HB.out.cell (by show b < w.heap.size; exact hb)]; exact hc k hlt
      have c2 : wr.cell? ⟨b', o' + k, none⟩ = some (.int .i64 (xs.getD k 0)) := by rw [HB.out.cell (by show b' < w.heap.size; exact hb')]; exact hc' k hlt
      generalize xs.getD k 0 = v at c1 c2
      clear hc hc' h h'
      go_wp2
      go_quiet (fail)
      go_wp2
      go_roundw
      case rel => exact ⟨k + 1, by omega, by go_num, Dk.up_drewN HB.out nq⟩
      case measure => simp [intOf]; omega
    · go_wp2
      go_ret
      exact ⟨rfl, HB.out⟩

/-- Processors are shared out, and what comes is known. -/
theorem Fair_lit (procs turn : Int) (htu : Dk.i64 turn) (A1 A2 : Option Addr) (n C1 m C2 : Nat) (d p has : List Int) (w : World) (hd : Dk.SlI w.heap.size w A1 n C1 d) (hp : Dk.SlI w.heap.size w A2 m C2 p) (hA : Dk.Ask procs n p) (hG : Dk.Good procs d p has (Dk.turnOf turn n)) :
    Calls Try.prog 7 #[.int .i64 procs, .slice A1 n C1, .slice A2 m C2, .int .i64 turn] w fun e w' => ∃ A C, e = .returned (.slice A n C) ∧ Hid (Dk.SlI w'.heap.size w' A n C has) ∧ Below w.heap.size w w' := by
  refine (Fair_yes procs turn htu A1 A2 n C1 m C2 d p w hd hp hA).mono ?_
  rintro e w' ⟨A, C, hs, rfl, hg, h1, h2⟩
  obtain rfl := hG.unique hg
  exact ⟨A, C, rfl, h1, h2⟩

set_option maxHeartbeats 1000000 in
theorem awake_any (w : World) : Calls Try.prog 9 #[] w fun e w' => e = .returned (.bool true) ∧ Below w.heap.size w w' := by
  obtain ⟨w1, e1⟩ : ∃ w1, w1 = w.alloc (.cells #[.int .i64 4, .int .i64 4] 3) := ⟨_, rfl⟩
  obtain ⟨w2, e2⟩ : ∃ w2, w2 = w1.alloc (.cells #[.int .i64 0, .int .i64 0] 3) := ⟨_, rfl⟩
  have u2 : Below w1.heap.size w1 w2 := by rw [e2]; exact Dk.up_alloc (Below.refl _ _) _
  have z1 : w1.heap.size = w.heap.size + 1 := by rw [e1]; simp
  have s1 := Dk.sli_up (Dk.sli_lit (xs := [4, 4]) 2 e1 rfl rfl (by decide) (by decide)) u2
  have s2 := Dk.sli_lit (xs := [0, 0]) 2 e2 rfl rfl (by decide) (by decide)
  rw [z1] at s2
  have K1 := Fair_lit 5 1 (by decide) _ _ 2 2 2 2 [4, 4] [0, 0] [2, 3] w2 s1 s2 Dk.ask_one Dk.good_one
  have HU2 : Hid (Below w.heap.size w w2) := by rw [e2, e1]; exact Dk.up_alloc (Dk.up_alloc (Below.refl _ _) _) _
  have HE1 : Hid _ := e1.symm
  have HE2 : Hid _ := e2.symm
  clear e1 e2 u2 z1 s1 s2
  go_enter Try.func9, Try.ntmps9
  go_wp2_with fail
  rw [HE1.out, HE2.out]
  refine K1.mono ?_
  rintro e w3 ⟨A3, C3, rfl, s3, u3⟩
  obtain ⟨w4, e4⟩ : ∃ w4, w4 = w3.alloc (.cells #[.int .i64 2, .int .i64 3] 3) := ⟨_, rfl⟩
  have u4 : Below w3.heap.size w3 w4 := by rw [e4]; exact Dk.up_alloc (Below.refl _ _) _
  have K2 := Ints_same A3 _ 2 C3 2 [2, 3] w4 (Dk.sli_up s3.out u4) (Dk.sli_lit (xs := [2, 3]) 2 e4 rfl rfl (by decide) (by decide))
  have HU4 : Hid (Below w.heap.size w w4) := Dk.up_call (Dk.up_call HU2.out u3) u4
  have HE4 : Hid _ := e4.symm
  clear K1 HE1 HE2 e4 u4 u3 HU2 s3
  go_wp2_with fail
  rw [HE4.out]
  refine K2.mono ?_
  rintro e w5 ⟨rfl, u5⟩
  obtain ⟨w6, e6⟩ : ∃ w6, w6 = w5.alloc (.cells #[.int .i64 1, .int .i64 9, .int .i64 9] 3) := ⟨_, rfl⟩
  obtain ⟨w7, e7⟩ : ∃ w7, w7 = w6.alloc (.cells #[.int .i64 0, .int .i64 0, .int .i64 5] 3) := ⟨_, rfl⟩
  have u7 : Below w6.heap.size w6 w7 := by rw [e7]; exact Dk.up_alloc (Below.refl _ _) _
  have z6 : w6.heap.size = w5.heap.size + 1 := by rw [e6]; simp
  have s6 := Dk.sli_up (Dk.sli_lit (xs := [1, 9, 9]) 3 e6 rfl rfl (by decide) (by decide)) u7
  have s7 := Dk.sli_lit (xs := [0, 0, 5]) 3 e7 rfl rfl (by decide) (by decide)
  rw [z6] at s7
  have K3 := Fair_lit 3 0 (by decide) _ _ 3 3 3 3 [1, 9, 9] [0, 0, 5] [0, 0, 3] w7 s6 s7 Dk.ask_two Dk.good_two
  have HU7 : Hid (Below w.heap.size w w7) := by rw [e7, e6]; exact Dk.up_alloc (Dk.up_alloc (Dk.up_call HU4.out u5) _) _
  have HE6 : Hid _ := e6.symm
  have HE7 : Hid _ := e7.symm
  clear K2 HE4 e6 e7 u7 z6 s6 s7 u5 HU4
  go_wp2_with fail
  rw [HE6.out, HE7.out]
  refine K3.mono ?_
  rintro e w8 ⟨A8, C8, rfl, s8, u8⟩
  obtain ⟨w9, e9⟩ : ∃ w9, w9 = w8.alloc (.cells #[.int .i64 0, .int .i64 0, .int .i64 3] 3) := ⟨_, rfl⟩
  have u9 : Below w8.heap.size w8 w9 := by rw [e9]; exact Dk.up_alloc (Below.refl _ _) _
  have K4 := Ints_same A8 _ 3 C8 3 [0, 0, 3] w9 (Dk.sli_up s8.out u9) (Dk.sli_lit (xs := [0, 0, 3]) 3 e9 rfl rfl (by decide) (by decide))
  have HU9 : Hid (Below w.heap.size w w9) := Dk.up_call (Dk.up_call HU7.out u8) u9
  have HE9 : Hid _ := e9.symm
  clear K3 HE6 HE7 e9 u9 u8 HU7 s8
  go_wp2_with fail
  rw [HE9.out]
  refine K4.mono ?_
  rintro e wa ⟨rfl, ua⟩
  obtain ⟨wb, eb⟩ : ∃ wb, wb = wa.alloc (.cells #[.int .i64 1] 3) := ⟨_, rfl⟩
  obtain ⟨wc, ec⟩ : ∃ wc, wc = wb.alloc (.cells #[.int .i64 0] 3) := ⟨_, rfl⟩
  have zb : wb.heap.size = wa.heap.size + 1 := by rw [eb]; simp
  have sc := Dk.sli_lit (xs := [0]) 1 ec rfl rfl (by decide) (by decide)
  rw [zb] at sc
  have K5 := Fair_no (-1) 0 (by decide) (some ⟨wa.heap.size, 0, none⟩) _ 1 1 1 1 [0] wc sc Dk.ask_three
  have HUc : Hid (Below w.heap.size w wc) := by rw [ec, eb]; exact Dk.up_alloc (Dk.up_alloc (Dk.up_call HU9.out ua) _) _
  have HEb : Hid _ := eb.symm
  have HEc : Hid _ := ec.symm
  clear K4 HE9 eb ec zb sc ua HU9
  go_wp2_with fail
  rw [HEb.out, HEc.out]
  refine K5.mono ?_
  rintro e wd ⟨rfl, ud⟩
  go_wp2
  go_ret
  exact ⟨rfl, Dk.up_call HUc.out ud⟩
end Go.Proofs.Ytihikekhfbpnaaa
