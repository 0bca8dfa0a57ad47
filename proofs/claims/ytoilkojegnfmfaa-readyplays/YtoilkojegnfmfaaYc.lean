/- The fixed fact of layer 13's statements. -/
import Derived.Test.YtoilkojegnfmfaaYb
namespace Dk
theorem f0 : Few 0 [[], []] := ⟨by decide, by decide, by decide, by decide⟩
theorem f1 : Few 1 [[5], []] := ⟨by decide, by decide, by decide, by decide⟩
theorem f2 : Few 2 [[5], [6]] := ⟨by decide, by decide, by decide, by decide⟩
theorem f3 : Few 3 [[5], [6, 7]] := ⟨by decide, by decide, by decide, by decide⟩
theorem f4 : Few 2 [[], [6, 7]] := ⟨by decide, by decide, by decide, by decide⟩
theorem f5 : Few 1 [[], [6]] := ⟨by decide, by decide, by decide, by decide⟩
end Dk
namespace Go.Proofs.Ytoilkojegnfmfaa
set_option linter.unusedSimpArgs false
set_option linter.unusedVariables false
set_option linter.unnecessarySimpa false
open Go.RowKit
variable {R0 : Nat → List (List Int) → List Dk.Thing → Prop}

set_option maxHeartbeats 1000000 in
theorem awake_any (I : RowsI R0) (w : World) : Calls Try.prog 14 #[] w fun e w' => e = .returned (.bool true) ∧ Below w.heap.size w w' := by
  go_enter Try.func14, Try.ntmps14
  go_wp2_with fail
  refine (I.new (us := []) (Dk.Sep.begin (Below.refl w.heap.size w)) 2 (by decide)).mono ?_
  rintro e w1 ⟨b, ts1, rfl, hR1, s1⟩
  have K1 := I.add (rs := [[], []]) hR1 s1 Dk.f0 (by decide) 0 5 (by decide) (by decide)
  rw [show Dk.canAdd [[], []] 0 5 = true from by decide, show Dk.addTo [[], []] 0 5 = [[5], []] from by decide] at K1
  clear hR1 s1
  go_wp2_with fail
  refine K1.mono ?_
  rintro e w2 ⟨rfl, ts2, hR2, s2⟩
  have K2 := I.add hR2 s2 Dk.f1 (by decide) 1 6 (by decide) (by decide)
  rw [show Dk.canAdd [[5], []] 1 6 = true from by decide, show Dk.addTo [[5], []] 1 6 = [[5], [6]] from by decide] at K2
  clear hR2 s2 K1
  go_wp2_with fail
  refine K2.mono ?_
  rintro e w3 ⟨rfl, ts3, hR3, s3⟩
  have K3 := I.add hR3 s3 Dk.f2 (by decide) 1 5 (by decide) (by decide)
  rw [show Dk.canAdd [[5], [6]] 1 5 = false from by decide, show Dk.addTo [[5], [6]] 1 5 = [[5], [6]] from by decide] at K3
  clear hR3 s3 K2
  go_wp2_with fail
  refine K3.mono ?_
  rintro e w4 ⟨rfl, ts4, hR4, s4⟩
  have K4 := I.add hR4 s4 Dk.f2 (by decide) 1 7 (by decide) (by decide)
  rw [show Dk.canAdd [[5], [6]] 1 7 = true from by decide, show Dk.addTo [[5], [6]] 1 7 = [[5], [6, 7]] from by decide] at K4
  clear hR4 s4 K3
  go_wp2_with fail
  refine K4.mono ?_
  rintro e w5 ⟨rfl, ts5, hR5, s5⟩
  have K5 := I.pick hR5 s5 Dk.f3 (by decide) 0 (by decide)
  rw [show Dk.pickT [[5], [6, 7]] 0 = 5 from by decide, show Dk.pickB [[5], [6, 7]] 0 = true from by decide, show Dk.pickR [[5], [6, 7]] 0 = [[], [6, 7]] from by decide] at K5
  clear hR5 s5 K4
  go_wp2_with fail
  refine K5.mono ?_
  rintro e w6 ⟨rfl, ts6, hR6, s6⟩
  have K6 := I.pick hR6 s6 Dk.f4 (by decide) 0 (by decide)
  rw [show Dk.pickT [[], [6, 7]] 0 = 7 from by decide, show Dk.pickB [[], [6, 7]] 0 = true from by decide, show Dk.pickR [[], [6, 7]] 0 = [[], [6]] from by decide] at K6
  clear hR6 s6 K5
  go_wp2_with fail
  refine K6.mono ?_
  rintro e w7 ⟨rfl, ts7, hR7, s7⟩
  have K7 := I.row hR7 s7 Dk.f5 (by decide) 1 (by decide)
  rw [show Dk.rowL [[], [6]] 1 = [6] from by decide] at K7
  dsimp only [List.length_cons, List.length_nil, Nat.zero_add] at K7
  clear hR7 s7 K6
  go_wp2_with fail
  refine K7.mono ?_
  rintro e w8 ⟨A8, C8, rfl, ts8, hR8, s8⟩
  obtain ⟨w9, e9⟩ : ∃ w9, w9 = w8.alloc (.cells #[.int .i64 6] 3) := ⟨_, rfl⟩
  have u9 : Below w8.heap.size w8 w9 := by rw [e9]; exact Dk.up_alloc (Below.refl _ _) _
  have q8 := s8.ints (e := 3) (A := A8) (n := 1) (C := C8) (xs := [6]) (List.mem_cons_self ..) rfl (by decide)
  have s9 := s8.below u9
  have q9 := Dk.sli_lit (xs := [6]) 1 e9 rfl rfl (by decide) (by decide)
  have K8 := Ints_same A8 _ 1 C8 1 [6] w9 (Dk.sli_up q8 u9) q9
  have HE9 : Hid _ := e9.symm
  clear K7 q8 q9 s8 u9 e9
  go_wp2_with fail
  rw [HE9.out]
  refine K8.mono ?_
  rintro e wa ⟨rfl, ua⟩
  have sa := (s9.sub (List.sublist_cons_self _ _)).below ua
  have K9 := I.empty hR8 sa Dk.f5 (by decide)
  rw [show Dk.emptyR [[], [6]] = false from by decide] at K9
  clear K8 HE9 s9 hR8 sa ua
  go_wp2_with fail
  refine K9.mono ?_
  rintro e wb ⟨rfl, tsb, hRb, sb⟩
  go_wp2
  go_ret
  exact ⟨rfl, sb.out⟩
end Go.Proofs.Ytoilkojegnfmfaa
