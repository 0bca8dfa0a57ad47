/- What taking a slot answers and leaves. -/
import Derived.Test.YtlbbejndglpclaaSw
import Derived.Test.YtlbbejndglpclaaQl
namespace Go.Proofs.Ytlbbejndglpclaa
set_option linter.unusedSimpArgs false
set_option linter.unusedVariables false
set_option linter.unnecessarySimpa false
open Go.RowKit

theorem Take_nil (w : World) :
    Calls Try.prog 8 #[.pointer none] w fun e w' => e = .returned (.tuple #[.int .i64 0, .int .u64 0, .int .i64 3]) ∧ w' = w := by
  go_enter Try.func8, Try.ntmps8
  go_wp2
  go_ret3
  exact ⟨rfl, rfl⟩

set_option maxHeartbeats 1000000 in
theorem Take_all (bt bs M : Nat) (st : Dk.St) (w : World) (hT : Dk.Tab w bt bs M st) (hM : M < 100000) :
    Calls Try.prog 8 #[.pointer (some ⟨bt, 0, none⟩)] w fun e w' =>
      (Dk.least st < st.length ∧ e = .returned (.tuple #[.int .i64 (Dk.least st : Nat), .int .u64 (Dk.hd (Dk.taken st) (Dk.least st) : Nat), .int .i64 0]) ∧ Dk.Tab w' bt bs (M + 1) (Dk.taken st) ∧ w.grownBy w' (some bs)) ∨
      (Dk.least st = st.length ∧ e = .returned (.tuple #[.int .i64 0, .int .u64 0, .int .i64 2]) ∧ Dk.Tab w' bt bs M st ∧ w.grownBy w' (some bs)) := by
  have c0 : w.cell? ⟨bt, 0, none⟩ = some (.slice (some ⟨bs, 0, none⟩) st.length st.length) := hT.head.cell 0
  have hl := hT.small.1
  go_enter Try.func8, Try.ntmps8
  go_wp2
  go_loopw [14] (fun i w' => ∃ k : Nat, k ≤ st.length ∧ i = .int .i64 k ∧ Hid (∀ j, j < k → Dk.us st j = true) ∧ Hid (Below w.heap.size w w')) (fun i w' => st.length - (intOf i).toNat)
  case atStart => exact ⟨0, Nat.zero_le _, rfl, fun j hj => absurd hj (by omega), Below.refl _ _⟩
  case round =>
    obtain ⟨k, hk, rfl, HU, HB⟩ := hrel
    by_cases hlt : k < st.length
    · have hTr := hT.up HB.out
      have c1 : wr.cell? ⟨bs, k * 2, none⟩ = some (.int .u64 (Dk.tk st k : Nat)) := by rw [hTr.row.cell]; exact (Dk.sc_at st k hlt).1
      have c2 : wr.cell? ⟨bs, k * 2 + 1, none⟩ = some (.bool (Dk.us st k)) := by rw [hTr.row.cell]; exact (Dk.sc_at st k hlt).2
      have n1 := hTr.row.lt
      have n2 := hTr.head.lt
      clear c0
      cases hu : Dk.us st k
      · rw [hu] at c2
        obtain ⟨W, eW⟩ : ∃ W, wr.alloc (.cells #[.int .u64 (Dk.tk st k : Nat), .bool false] 50) = W := ⟨_, rfl⟩
        have hW : Dk.Tab W bt bs M st := eW ▸ hTr.up (Dk.up_alloc (Below.refl _ _) _)
        have uW : Below w.heap.size w W := eW ▸ Dk.up_alloc HB.out _
        have bW : Dk.Box W wr.heap.size #[.int .u64 (Dk.tk st k : Nat), .bool false] 50 := eW ▸ Dk.Box.new _ _ _
        have d0 : W.cell? ⟨bt, 0, none⟩ = some (.slice (some ⟨bs, 0, none⟩) st.length st.length) := hW.head.cell 0
        have d1 : W.cell? ⟨bs, k * 2, none⟩ = some (.int .u64 (Dk.tk st k : Nat)) := by rw [hW.row.cell]; exact (Dk.sc_at st k hlt).1
        have d2 : W.cell? ⟨bs, k * 2 + 1, none⟩ = some (.bool false) := by rw [hW.row.cell, (Dk.sc_at st k hlt).2, hu]
        have d3 : W.frozen? ⟨bs, k * 2, none⟩ = false := hW.row.frozen _
        have d4 : W.frozen? ⟨bs, k * 2 + 1, none⟩ = false := hW.row.frozen _
        have d5 : W.cell? ⟨wr.heap.size, 0, none⟩ = some (.int .u64 (Dk.tk st k : Nat)) := bW.cell 0
        have d6 : W.cell? ⟨wr.heap.size, 1, none⟩ = some (.bool false) := bW.cell 1
        have htk := hT.small.2 k
        have hle := Dk.least_eq HU.out hu hlt
        have HL : Hid _ := hle
        have HW : Hid _ := hW
        have HT : Hid _ := hT
        have HUW : Hid _ := uW
        have HUF : Hid _ := hu
        have HEW : Hid _ := eW
        clear hu hW uW bW hT hTr hle eW
        have K : ∀ W', Dk.Tab W' bt bs (M + 1) (Dk.taken st) → Calls Try.prog 15 #[.pointer (some ⟨bt, 0, none⟩), .int .i64 (k : Int)] W' fun e w' => e = .returned (.int .u64 (Dk.hd (Dk.taken st) k : Nat)) ∧ w' = W' := fun W' h => handleAt_any bt bs (M + 1) _ k W' h (by omega) (by unfold Dk.taken; rw [Dk.put_len]; exact hlt)
        go_wp2
        rw [HEW.out]
        clear HEW c1 c2
        generalize et : Dk.tk st k = t at *
        have HET : Hid _ := et
        clear et
        refine Dk.wp_region_last (C := fun w' => ∃ n, w' = W.drewN n) (D := fun w' => ∃ n, w' = ((W.drewN n).setCell ⟨bs, k * 2, none⟩ (.int .u64 ((t + 1 : Nat) : Int))).setCell ⟨bs, k * 2 + 1, none⟩ (.bool true)) (by kernel_rfl) (by kernel_rfl) ⟨1, rfl⟩ (by simp) ?_
        dsimp only [List.dropLast]
        repeat (go_big_quiet_step (fail))
        refine wpQuiet_nil ?_
        refine ⟨_, rfl, rfl, ?_, ?_⟩
        · rintro _ ⟨nq, rfl⟩
          refine ⟨_, ?_, nq, rfl⟩
          simp [go_sem, d1, d2, d3, d4]
        · rintro _ ⟨nq, rfl⟩
          obtain ⟨V, eV⟩ : ∃ V, ((W.drewN nq).setCell ⟨bs, k * 2, none⟩ (.int .u64 ((t + 1 : Nat) : Int))).setCell ⟨bs, k * 2 + 1, none⟩ (.bool true) = V := ⟨_, rfl⟩
          have hV : Dk.Tab V bt bs (M + 1) (Dk.taken st) := by
            unfold Dk.taken
            rw [HL.out, HET.out, ← eV]
            exact ((HW.out.up (Dk.up_drewN (Below.refl _ _) nq)).more (by omega)).both k (t + 1) true hlt (by omega)
          have gV : w.grownBy V (some bs) := by
            rw [← eV]
            exact Dk.far_set (Dk.far_set (Dk.far_of_up (Dk.up_drewN HUW.out nq)) _ _) _ _
          rw [eV]
          have KV := K V hV
          have HV : Hid _ := hV
          clear eV hV K d0 d1 d2 d3 d4 d5 d6
          go_wp2_with (go_at_call 15; refine KV.mono ?_; rintro e w' ⟨rfl, rfl⟩)
          go_ret3
          exact .inl ⟨by rw [HL.out]; exact hlt, by rw [HL.out]; rfl, HV.out, gV⟩
      · rw [hu] at c2
        have HUF : Hid _ := hu
        clear hu
        go_wp2
        go_roundw
        case rel => exact ⟨k + 1, by omega, by go_num, fun j hj => if e : j = k then by rw [e]; exact HUF.out else HU.out j (by omega), Dk.up_alloc HB.out _⟩
        case measure => simp [intOf]; omega
    · go_wp2
      go_ret3
      exact .inr ⟨Dk.least_all fun j hj => HU.out j (by omega), rfl, hT.up HB.out, Dk.far_of_up HB.out⟩

end Go.Proofs.Ytlbbejndglpclaa
