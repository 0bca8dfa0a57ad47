/- The walk of package inst's allSound. -/
import Derived.Test.YtmapmhcmeokahaaLists
import Derived.Test.YtmapmhcmeokahaaSound
namespace Go.Proofs.Ytmapmhcmeokahaa
set_option linter.unusedSimpArgs false
set_option linter.unusedVariables false
set_option linter.unnecessarySimpa false
open Go.RowKit

set_option maxHeartbeats 1000000 in
theorem allSound_any (B : Nat) (s : Dk.Sh) (p : Dk.Prg) (w : World) (h : Dk.PrgAt B w s p) (hB : B ≤ w.heap.size) :
    Calls Try.prog 22 #[Dk.pv s p] w fun e w' => e = .returned (.bool (Dk.allSoundB p)) ∧ Below w.heap.size w w' := by
  have hmax := h.funcs.max
  have hcap := h.funcs.cap
  unfold maxLen at hmax
  have HL : Hid (p.funcs.length = s.fL) := h.funcs.len
  have hs := lens_of h
  have hp := h.ok
  obtain ⟨sfA, sfL, sfC, sA, sL, sC, pA, pL, pC⟩ := s
  simp only at hmax hcap HL
  go_enter Try.func22, Try.ntmps22
  go_wp2
  go_loopw [10] (fun i w' => ∃ k : Nat, k ≤ sfL ∧ i = .int .i64 k ∧ Hid ((p.funcs.take k).all (fun c => c.all fun i => Dk.soundB p i) = true) ∧ Hid (Below (w.alloc (.cells #[.slice sfA sfL sfC, .int .i64 p.words, .int .i64 p.mutexes, .int .i64 p.conds, .slice sA sL sC, .slice pA pL pC, .int .i64 p.blocks, .int .i64 p.prio] 25)).heap.size (w.alloc (.cells #[.slice sfA sfL sfC, .int .i64 p.words, .int .i64 p.mutexes, .int .i64 p.conds, .slice sA sL sC, .slice pA pL pC, .int .i64 p.blocks, .int .i64 p.prio] 25)) w')) (fun i w' => sfL - (intOf i).toNat)
  case atStart => exact ⟨0, Nat.zero_le _, rfl, by show (p.funcs.take 0).all _ = true; simp, Below.refl _ _⟩
  case round =>
    obtain ⟨k, hk, rfl, HA, HB⟩ := hrel
    by_cases hlt : k < sfL
    · obtain ⟨b, o, rfl, hbB, hc⟩ := h.funcs.cells (by show 0 < sfL; omega)
      obtain ⟨A', L', C', hcell0, hn⟩ := hc k hlt
      have hcell : wr.cell? ⟨b, o + k, none⟩ = some (.slice A' L' C') := by
        rw [HB.out.cell (by simp; omega), (Dk.up_alloc (Below.refl w.heap.size w) _).cell (by show b < w.heap.size; omega)]; exact hcell0
      have hbox := Dk.box_cell HB.out
      clear hc hcell0
      have hmax' := hn.max
      have hcap' := hn.cap
      unfold maxLen at hmax'
      have HN : Hid ((p.funcs.getD k []).length = L') := hn.len
      go_wp2
      clear hcell hbox
      go_loopw [16] (fun i w' => ∃ j : Nat, j ≤ L' ∧ i = .int .i64 j ∧ Hid (((p.funcs.getD k []).take j).all (fun i => Dk.soundB p i) = true) ∧ Hid (Below (w.alloc (.cells #[.slice (some ⟨b, o, none⟩) sfL sfC, .int .i64 p.words, .int .i64 p.mutexes, .int .i64 p.conds, .slice sA sL sC, .slice pA pL pC, .int .i64 p.blocks, .int .i64 p.prio] 25)).heap.size (w.alloc (.cells #[.slice (some ⟨b, o, none⟩) sfL sfC, .int .i64 p.words, .int .i64 p.mutexes, .int .i64 p.conds, .slice sA sL sC, .slice pA pL pC, .int .i64 p.blocks, .int .i64 p.prio] 25)) w')) (fun i w' => L' - (intOf i).toNat)
      case atStart => exact ⟨0, Nat.zero_le _, rfl, by show (List.take 0 _).all _ = true; simp, HB⟩
      case round =>
        obtain ⟨j, hj, rfl, HA2, HB2⟩ := hrel
        by_cases hlt2 : j < L'
        · obtain ⟨b', o', rfl, hbB', hc⟩ := hn.cells (by omega)
          have hx := hc j hlt2
          generalize hg : (p.funcs.getD k []).getD j Dk.Ins.zero = x at hx
          have HG : Hid ((p.funcs.getD k []).getD j Dk.Ins.zero = x) := hg
          clear hg hc
          have up : ∀ q, wr.cell? ⟨b', q, none⟩ = w.cell? ⟨b', q, none⟩ := fun q => by
            rw [HB2.out.cell (by simp; omega), (Dk.up_alloc (Below.refl w.heap.size w) _).cell (by show b' < w.heap.size; omega)]
          have x0 := (up _).trans hx.1
          have x1 := (up _).trans hx.2.1
          have x2 := (up _).trans hx.2.2.1
          have x3 := (up _).trans hx.2.2.2.1
          have x4 := (up _).trans hx.2.2.2.2
          have hbox := Dk.box_cell HB2.out
          have hz := HB2.out.size
          simp only [World.size_alloc] at hz
          have hz' : w.heap.size < wr.heap.size := by omega
          clear hx up hz
          cases hsd : Dk.soundB p x
          · have HSD : Hid (Dk.soundB p x = false) := hsd
            go_wp2_with fail
            refine (Sound_any _ p x _ hs hp).mono ?_
            rintro e w3 ⟨rfl, hb3⟩
            rw [HSD.out]
            go_wp2_with fail
            go_ret
            exact ⟨ret_bool (all_no p.funcs _ [] k (by rw [HL.out]; exact hlt) (all_no _ _ Dk.Ins.zero j (by rw [HN.out]; exact hlt2) (by rw [HG.out]; exact HSD.out))).symm, Dk.up_call (Dk.up_alloc (Dk.up_call (Dk.up_alloc (Below.refl _ _) _) HB2.out) _) hb3⟩
          · have HSD : Hid (Dk.soundB p x = true) := hsd
            go_wp2_with fail
            refine (Sound_any _ p x _ hs hp).mono ?_
            rintro e w3 ⟨rfl, hb3⟩
            rw [HSD.out]
            go_wp2_with fail
            go_roundw
            case rel =>
              refine ⟨j + 1, by omega, by go_num, ?_, Dk.up_call (Dk.up_alloc HB2.out _) hb3⟩
              show List.all _ _ = true
              rw [all_take_succ _ _ Dk.Ins.zero j (by rw [HN.out]; exact hlt2), HA2.out, HG.out, HSD.out]
              rfl
            case measure => simp [intOf]; omega
        · go_wp2
          go_roundw
          case rel =>
            refine ⟨k + 1, by omega, by go_num, ?_, HB2⟩
            show List.all _ _ = true
            have := HA2.out
            rw [List.take_of_length_le (by rw [HN.out]; omega)] at this
            rw [all_take_succ _ _ [] k (by rw [HL.out]; exact hlt), HA.out, this]
            rfl
          case measure => simp [intOf]; omega
    · go_wp2
      go_ret
      refine ⟨ret_bool ?_, Dk.up_call (Dk.up_alloc (Below.refl _ _) _) HB.out⟩
      have := HA.out
      rw [List.take_of_length_le (by rw [HL.out]; omega)] at this
      exact this.symm

end Go.Proofs.Ytmapmhcmeokahaa
