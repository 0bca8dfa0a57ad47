/- That requests are alike; the fixed fact of the statements. -/
import Derived.Test.YtpknboeobldbpaaKr
import Derived.Test.YtpknboeobldbpaaKs
import Derived.WalkLawsBesides
import Derived.ChangeKeysEq
namespace Go.Proofs.Ytpknboeobldbpaa
set_option linter.unusedSimpArgs false
set_option linter.unusedVariables false
set_option linter.unnecessarySimpa false
open Go.RowKit Go.Lib

theorem same_rq (d : Nat) (r1 r2 : Int) (r3 : Bool) (r4 : Int) (w : World) : (Op.equalIn (d + 2) 29 (.agg #[.int .i64 r1, .int .i64 r2, .bool r3, .int .u64 r4]) (.agg #[.int .i64 r1, .int .i64 r2, .bool r3, .int .u64 r4])).run Try.prog w = .ok true w := by
  rw [run_equalIn_agg w (d + 1) 29 _ _ (by kernel_rfl) (by kernel_rfl)]
  simp [go_sem, part]

set_option maxHeartbeats 1000000 in
theorem same_any (B B' : Nat) (A A' : Option Addr) (C C' : Nat) (rs : List Dk.Rq) (w : World) (h : w.ownsRow B 29 4 (.slice A rs.length C) rs.length (Dk.rqs rs)) (h' : w.ownsRow B' 29 4 (.slice A' rs.length C') rs.length (Dk.rqs rs)) :
    Calls Try.prog 11 #[.slice A rs.length C, .slice A' rs.length C'] w fun e w' => e = .returned (.bool true) ∧ Below w.heap.size w w' := by
  obtain ⟨_, _, e0, hcap, hmax⟩ := Dk.owns_slice h
  cases e0
  unfold maxLen at hmax
  go_enter Try.func11, Try.ntmps11
  go_wp2
  go_loopw [5] (fun i w' => ∃ k : Nat, k ≤ rs.length ∧ i = .int .i64 k ∧ Hid (Below w.heap.size w w')) (fun i w' => rs.length - (intOf i).toNat)
  case atStart => exact ⟨0, Nat.zero_le _, rfl, Below.refl _ _⟩
  case round =>
    obtain ⟨k, hk, rfl, HB⟩ := hrel
    by_cases hlt : k < rs.length
    · obtain ⟨g, _, e1, _, _, hg, hc⟩ := req_at h hlt
      cases e1
      obtain ⟨g', _, e1', _, _, hg', hc'⟩ := req_at h' hlt
      cases e1'
      obtain ⟨⟨r1, r2, r3, r4⟩, er⟩ : ∃ r, rs.getD k Dk.Rq.zero = r := ⟨_, rfl⟩
      rw [er] at hc hc'
      have hcW : ∀ j, j < 4 → wr.cell? ⟨g, k * 4 + j, none⟩ = (Dk.Rq.cells ⟨r1, r2, r3, r4⟩)[j]? := fun j hj => by rw [HB.out.cell (by exact hg)]; exact hc j hj
      have hcW' : ∀ j, j < 4 → wr.cell? ⟨g', k * 4 + j, none⟩ = (Dk.Rq.cells ⟨r1, r2, r3, r4⟩)[j]? := fun j hj => by rw [HB.out.cell (by exact hg')]; exact hc' j hj
      have a0 : wr.cell? ⟨g, k * 4, none⟩ = some (.int .i64 r1) := hcW 0 (by omega)
      have a1 : wr.cell? ⟨g, k * 4 + 1, none⟩ = some (.int .i64 r2) := hcW 1 (by omega)
      have a2 : wr.cell? ⟨g, k * 4 + 2, none⟩ = some (.bool r3) := hcW 2 (by omega)
      have a3 : wr.cell? ⟨g, k * 4 + 3, none⟩ = some (.int .u64 (r4 : Nat)) := hcW 3 (by omega)
      have b0 : wr.cell? ⟨g', k * 4, none⟩ = some (.int .i64 r1) := hcW' 0 (by omega)
      have b1 : wr.cell? ⟨g', k * 4 + 1, none⟩ = some (.int .i64 r2) := hcW' 1 (by omega)
      have b2 : wr.cell? ⟨g', k * 4 + 2, none⟩ = some (.bool r3) := hcW' 2 (by omega)
      have b3 : wr.cell? ⟨g', k * 4 + 3, none⟩ = some (.int .u64 (r4 : Nat)) := hcW' 3 (by omega)
      have hsame : ∀ w, (Op.equalIn 10000 29 (.agg #[.int .i64 r1, .int .i64 r2, .bool r3, .int .u64 (r4 : Nat)]) (.agg #[.int .i64 r1, .int .i64 r2, .bool r3, .int .u64 (r4 : Nat)])).run Try.prog w = .ok true w := same_rq 9998 _ _ _ _
      clear hc hc' h h' hcW hcW' er
      generalize rs.length = L at *
      have hkL : (k : Int) < (L : Int) := by omega
      go_wp2
      go_quiet (fail)
      go_wp2
      go_roundw
      case rel => exact ⟨k + 1, by omega, by go_num, Dk.up_drewN HB.out nq⟩
      case measure => simp [intOf]; omega
    · go_wp2
      go_ret
      exact ⟨rfl, HB.out⟩

set_option maxHeartbeats 2000000 in
theorem awake_any (w : World) : Calls Try.prog 10 #[] w fun e w' => e = .returned (.bool true) ∧ Below w.heap.size w w' := by
  go_enter Try.func10, Try.ntmps10
  go_wp2_with fail
  have K0 : Calls Try.prog 6 #[.int .i64 2] w fun e w' => e = .returned (.pointer (some ⟨w.heap.size + 1, 0, none⟩)) ∧ Dk.Db w w' (w.heap.size + 1) [0, 0] [] [] := New_any (Dk.Sep.begin (Below.refl _ w)) 2
  refine K0.mono ?_
  rintro e w1 ⟨rfl, h1⟩
  generalize w.heap.size + 1 = bd at *
  have K1 : Calls Try.prog 8 #[.pointer (some ⟨bd, 0, none⟩), .agg #[.int .i64 1, .int .i64 1, .bool true, .int .u64 7]] w1 fun e w' => e = .returned (.int .i64 0) ∧ Dk.Db w w' bd [0, 0] [⟨1, 1, true, 7⟩] [] := Ask_ok h1 1 1 true 7 (by decide) rfl ⟨⟨by decide, by decide⟩, ⟨by decide, by decide⟩, by decide⟩ (by decide)
  clear K0
  go_wp2_with fail
  refine K1.mono ?_
  rintro e w2 ⟨rfl, h2⟩
  have K2 : Calls Try.prog 8 #[.pointer (some ⟨bd, 0, none⟩), .agg #[.int .i64 1, .int .i64 1, .bool false, .int .u64 0]] w2 fun e w' => e = .returned (.int .i64 4) ∧ Dk.Db w w' bd [0, 0] [⟨1, 1, true, 7⟩] [] := Ask_busy h2 1 1 false 0 (by decide) rfl
  clear K1 h1
  go_wp2_with fail
  refine K2.mono ?_
  rintro e w3 ⟨rfl, h3⟩
  have K3 : Calls Try.prog 8 #[.pointer (some ⟨bd, 0, none⟩), .agg #[.int .i64 2, .int .i64 2, .bool false, .int .u64 0]] w3 fun e w' => e = .returned (.int .i64 1) ∧ Dk.Db w w' bd [0, 0] [⟨1, 1, true, 7⟩] [] := Ask_arg h3 2 2 false 0 (.inr (by decide))
  clear K2 h2
  go_wp2_with fail
  refine K3.mono ?_
  rintro e w4 ⟨rfl, h4⟩
  have K4 : Calls Try.prog 7 #[.pointer (some ⟨bd, 0, none⟩), .int .i64 (-1)] w4 fun e w' => e = .returned (.tuple #[.agg #[.int .i64 1, .int .i64 1, .bool true, .int .u64 7], .int .u64 0, .bool true]) ∧ Dk.Db w w' bd [0, 7] [] [] := Done_any h4 (-1) ⟨by decide, by decide⟩ (by decide) (by decide) ⟨1, 1, true, 7⟩ rfl
  clear K3 h3
  go_wp2_with fail
  refine K4.mono ?_
  rintro e w5 ⟨rfl, h5⟩
  clear K4 h4
  obtain ⟨W6, e6⟩ : ∃ W6, W6 = w5.alloc (.cells #[.int .i64 0, .int .i64 0, .bool false, .int .u64 0] 29) := ⟨_, rfl⟩
  have h6 := Db.newBox h5 e6
  have b6 : Dk.Box W6 w5.heap.size #[.int .i64 0, .int .i64 0, .bool false, .int .u64 0] 29 := Db.box h6 (by simp)
  obtain ⟨W7, e7⟩ : ∃ W7, W7 = W6.setRow w5.heap.size #[.int .i64 1, .int .i64 1, .bool true, .int .u64 7] := ⟨_, rfl⟩
  have h7 := Db.setRow h6 e7
  have b7 : Dk.Box W7 w5.heap.size #[.int .i64 1, .int .i64 1, .bool true, .int .u64 7] 29 := Db.box h7 (by simp)
  have c7 : W7.cell? ⟨w5.heap.size, 0, none⟩ = some (.int .i64 1) := b7.cell 0
  have H6 : Hid (w5.alloc (.cells #[.int .i64 0, .int .i64 0, .bool false, .int .u64 0] 29) = W6) := e6.symm
  have H7 : Hid (W6.setRow w5.heap.size #[.int .i64 1, .int .i64 1, .bool true, .int .u64 7] = W7) := e7.symm
  have HB : Hid (Dk.Box W6 w5.heap.size #[.int .i64 0, .int .i64 0, .bool false, .int .u64 0] 29) := b6
  have K5 : Calls Try.prog 9 #[.pointer (some ⟨bd, 0, none⟩), .int .i64 1] W7 fun e w' => e = .returned (.tuple #[.int .u64 7, .bool true]) ∧ w' = W7 := Block_yes h7 1 (by decide)
  clear e6 e7 h5 h6 b6 b7
  go_wp2_with (first | (rw [H6.out]; clear H6) | (refine wpList_store_row rfl 29 _ _ rfl w5.heap.size #[.int .i64 1, .int .i64 1, .bool true, .int .u64 7] rfl rfl 29 _ HB.out.heap rq_size rfl (rq_cells _ _ _ _) ?_; rw [H7.out]; clear HB))
  refine K5.mono ?_
  rintro e w' ⟨rfl, hw'⟩
  subst w'
  have K6 := Wait_any h7 (by decide)
  clear K5
  go_wp2_with fail
  refine K6.mono ?_
  rintro e w8 ⟨A, C, rfl, h8, _, _⟩
  go_wp2_with fail
  go_ret
  exact ⟨rfl, h8.out⟩
end Go.Proofs.Ytpknboeobldbpaa
