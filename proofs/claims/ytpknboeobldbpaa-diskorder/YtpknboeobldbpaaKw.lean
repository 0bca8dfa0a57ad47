/- The walk of the statement on the order in which requests come out. -/
import Derived.Test.YtpknboeobldbpaaKv
import Derived.Deep.CutRange
namespace Go.Proofs.Ytpknboeobldbpaa
set_option linter.unusedSimpArgs false
set_option linter.unusedVariables false
set_option linter.unnecessarySimpa false
open Go.RowKit Go.Lib

set_option maxRecDepth 100000 in
set_option maxHeartbeats 4000000 in
theorem DiskOrder_any (A : Option Addr) (L C : Nat) (xs : List Nat) (back : Bool) (w : World) (hr : Dk.Row 1 0 Dk.IsByte w.heap.size w A L C xs) :
    Calls Try.prog 5 #[.slice A L C, .bool back] w fun e w' => e = .returned (.bool true) ∧ Below w.heap.size w w' := by
  have hcap := hr.cap
  have hmax := hr.max
  unfold maxLen at hmax
  have HR : Hid (Dk.Row 1 0 Dk.IsByte w.heap.size w A L C xs) := hr
  obtain ⟨N, hN1, hN2⟩ : ∃ N : Nat, (40 < L → N = 40) ∧ (L ≤ 40 → N = L) := ⟨if 40 < L then 40 else L, fun h => if_pos h, fun h => if_neg (by omega)⟩
  have hNL : N ≤ L := by
    by_cases h : 40 < L
    · have := hN1 h; omega
    · have := hN2 (by omega); omega
  have hN40 : N ≤ 40 := by
    by_cases h : 40 < L
    · have := hN1 h; omega
    · have := hN2 (by omega); omega
  have H1 : Hid (40 < L → N = 40) := hN1
  have H2 : Hid (L ≤ 40 → N = L) := hN2
  clear hr hN1 hN2
  go_enter Try.func5, Try.ntmps5
  go_wp2_with fail
  have K0 : Calls Try.prog 6 #[.int .i64 4] w fun e w' => e = .returned (.pointer (some ⟨w.heap.size + 1, 0, none⟩)) ∧ Dk.Db w w' (w.heap.size + 1) [0, 0, 0, 0] [] [] := New_any (Dk.Sep.begin (Below.refl _ w)) 4
  refine K0.mono ?_
  rintro e w1 ⟨rfl, h1⟩
  obtain ⟨bd, ebd⟩ : ∃ bd, w.heap.size + 1 = bd := ⟨_, rfl⟩
  rw [ebd] at h1
  rw [show (Value.pointer (some ⟨w.heap.size + 1, 0, none⟩)) = .pointer (some ⟨bd, 0, none⟩) by rw [ebd]]
  have t0 : Dk.Db w w1 bd [0, 0, 0, 0] (Dk.asks xs 0) [] := h1
  clear h1 ebd K0
  go_upto_if 18 with fail
  go_cut [6] from 17 to 18 (fun v w' => v = .int .i64 (N : Int) ∧ w' = w1)
  case first =>
    by_cases h : 40 < L
    · have y0 : decide ((40 : Int) < (L : Int)) = true := by simp; omega
      go_wp2_with fail
      go_meet
      exact ⟨by rw [H1.out h]; rfl, rfl⟩
    · have y0 : decide ((40 : Int) < (L : Int)) = false := by simp; omega
      go_wp2_with fail
      go_meet
      exact ⟨by rw [H2.out (by omega)], rfl⟩
  case rest =>
    obtain ⟨rfl, hw⟩ := hcut
    subst wc
    clear H1 H2
    go_wp2_with fail
    go_loopw [7] (fun i w' => ∃ k : Nat, k ≤ N ∧ i = .int .i64 k ∧ Dk.Db w w' bd [0, 0, 0, 0] (Dk.asks xs k) []) (fun i w' => N - (intOf i).toNat)
    case atStart => exact ⟨0, Nat.zero_le _, rfl, t0⟩
    case round =>
      obtain ⟨k, hk, rfl, hT⟩ := hrel
      clear t0
      by_cases hlt : k < N
      · have y1 : decide ((k : Int) < (N : Int)) = true := by simp; omega
        have hkL : (k : Int) < (L : Int) := by omega
        obtain ⟨b, o, rfl, hb, c0, hy⟩ := byte_cell HR.out (show k < L by omega)
        have d0 : wr.drew.cell? ⟨b, o + k, none⟩ = some (.int .u8 (xs.getD k 0 : Nat)) := by
          have := hT.out.cell (p := ⟨b, o + k, none⟩) hb
          exact this.trans c0
        have h3 := hT.below (Dk.up_drew (Below.refl _ _))
        have K := Ask_ok h3 (k : Int) (xs.getD k 0 % 4) (decide (99 < xs.getD k 0)) k (by show _ < 4; omega) (Dk.waits_asks xs k) (Dk.rq_ok (Dk.i64_small k (by omega)) (by omega) (by omega)) (by rw [Dk.asks_len]; omega)
        have HN : Hid (Dk.asks xs k ++ [⟨(k : Int), ((xs.getD k 0 % 4 : Nat) : Int), decide (99 < xs.getD k 0), k⟩] = Dk.asks xs (k + 1)) := (Dk.asks_succ xs k).symm
        rw [HN.out] at K
        clear HN h3 hT
        generalize xs.getD k 0 = y at *
        obtain ⟨q, eq⟩ : ∃ q : Nat, y % 4 = q := ⟨_, rfl⟩
        have eq' : (y : Int) % 4 = (q : Int) := by omega
        obtain ⟨f, ef⟩ : ∃ f : Bool, decide (99 < y) = f := ⟨_, rfl⟩
        have ef' : decide ((99 : Int) < (y : Int)) = f := by rw [← ef]; congr 1; apply propext; omega
        have hq : q < 4 := by omega
        rw [eq, ef] at K
        have EQ : Hid ((y : Int) % 4 = (q : Int)) := eq'
        have EF : Hid (decide ((99 : Int) < (y : Int)) = f) := ef'
        clear eq eq' ef ef'
        go_wp2_with fail
        refine Dk.wp_region_line (S := fun w' => w'.cell? ⟨b, o + k, none⟩ = some (.int .u8 (y : Nat))) [0, 1, 2, 3, 4, 5, 6, 7, 8, 9, 10, 11, 12, 13, 14, 15] [16, 17] (by kernel_rfl) (by kernel_rfl) d0 ?_
        refine Dk.held_step (v := .pointer (some ⟨bd, 0, none⟩)) rfl rfl (fun w' hw' => by go_simp) ?_
        simp only [Act.put, List.setIfInBounds_toArray, List.set_cons_succ, List.set_cons_zero]
        refine Dk.held_step (v := .int .i64 (k : Int)) rfl rfl (fun w' hw' => by go_simp) ?_
        simp only [Act.put, List.setIfInBounds_toArray, List.set_cons_succ, List.set_cons_zero]
        refine Dk.held_step (v := .slice (some ⟨b, o, none⟩) L C) rfl rfl (fun w' hw' => by go_simp) ?_
        simp only [Act.put, List.setIfInBounds_toArray, List.set_cons_succ, List.set_cons_zero]
        refine Dk.held_step (v := .int .i64 (k : Int)) rfl rfl (fun w' hw' => by go_simp) ?_
        simp only [Act.put, List.setIfInBounds_toArray, List.set_cons_succ, List.set_cons_zero]
        refine Dk.held_step (v := .pointer (some ⟨b, o + k, none⟩)) rfl rfl (fun w' hw' => by go_simp) ?_
        simp only [Act.put, List.setIfInBounds_toArray, List.set_cons_succ, List.set_cons_zero]
        refine Dk.held_step (v := .int .u8 (y : Nat)) rfl rfl (fun w' hw' => by go_simp) ?_
        simp only [Act.put, List.setIfInBounds_toArray, List.set_cons_succ, List.set_cons_zero]
        refine Dk.held_step (v := .int .u8 (q : Nat)) rfl rfl (fun w' hw' => by have e1 := EQ.out; go_simp; try (rw [← e1]; rfl)) ?_
        simp only [Act.put, List.setIfInBounds_toArray, List.set_cons_succ, List.set_cons_zero]
        refine Dk.held_step (v := .int .i64 (q : Nat)) rfl rfl (fun w' hw' => by go_simp; go_bits; trivial) ?_
        simp only [Act.put, List.setIfInBounds_toArray, List.set_cons_succ, List.set_cons_zero]
        refine Dk.held_step (v := .slice (some ⟨b, o, none⟩) L C) rfl rfl (fun w' hw' => by go_simp) ?_
        simp only [Act.put, List.setIfInBounds_toArray, List.set_cons_succ, List.set_cons_zero]
        refine Dk.held_step (v := .int .i64 (k : Int)) rfl rfl (fun w' hw' => by go_simp) ?_
        simp only [Act.put, List.setIfInBounds_toArray, List.set_cons_succ, List.set_cons_zero]
        refine Dk.held_step (v := .pointer (some ⟨b, o + k, none⟩)) rfl rfl (fun w' hw' => by go_simp) ?_
        simp only [Act.put, List.setIfInBounds_toArray, List.set_cons_succ, List.set_cons_zero]
        refine Dk.held_step (v := .int .u8 (y : Nat)) rfl rfl (fun w' hw' => by go_simp) ?_
        simp only [Act.put, List.setIfInBounds_toArray, List.set_cons_succ, List.set_cons_zero]
        refine Dk.held_step (v := .bool f) rfl rfl (fun w' hw' => by have e1 := EF.out; go_simp; try (rw [← e1]; rfl)) ?_
        simp only [Act.put, List.setIfInBounds_toArray, List.set_cons_succ, List.set_cons_zero]
        refine Dk.held_step (v := .int .i64 (k : Int)) rfl rfl (fun w' hw' => by go_simp) ?_
        simp only [Act.put, List.setIfInBounds_toArray, List.set_cons_succ, List.set_cons_zero]
        refine Dk.held_step (v := .int .u64 (k : Nat)) rfl rfl (fun w' hw' => by go_simp; go_bits; trivial) ?_
        simp only [Act.put, List.setIfInBounds_toArray, List.set_cons_succ, List.set_cons_zero]
        refine Dk.held_step (v := .agg #[.int .i64 (k : Int), .int .i64 (q : Nat), .bool f, .int .u64 (k : Nat)]) rfl rfl (fun w' hw' => by go_simp) ?_
        simp only [Act.put, List.setIfInBounds_toArray, List.set_cons_succ, List.set_cons_zero]
        refine Dk.line_call (f := 8) (args := #[.pointer (some ⟨bd, 0, none⟩), .agg #[.int .i64 (k : Int), .int .i64 (q : Nat), .bool f, .int .u64 (k : Nat)]]) rfl rfl (by go_simp) ?_
        refine K.mono ?_
        rintro e w2 ⟨rfl, h2⟩
        have d2 : w2.cell? ⟨b, o + k, none⟩ = some (.int .u8 (y : Nat)) := by
          have := h2.out.cell (p := ⟨b, o + k, none⟩) hb
          exact this.trans c0
        refine ⟨_, rfl, d2, ?_⟩
        simp only [Act.put, List.setIfInBounds_toArray, List.set_cons_succ, List.set_cons_zero]
        refine Dk.line_step rfl rfl ?_
        refine wp_run (v := .bool false) (w' := w2) (by go_simp) ⟨d2, ?_⟩
        simp only [Act.put, List.setIfInBounds_toArray, List.set_cons_succ, List.set_cons_zero]
        rename_i hK
        refine hK _ _ ?_
        clear hK d0 d2 K c0 EQ EF
        go_wp2_with fail
        go_roundw
        case rel => exact ⟨k + 1, by omega, by go_num, h2⟩
        case measure => simp [intOf]; omega
      · have ek : N = k := by omega
        subst ek
        have t1 : ∃ bs, Dk.Db w wr bd bs (Dk.rest back xs N 0) [] := ⟨_, by rw [Dk.rest_start]; exact hT⟩
        generalize wr = wa at *
        clear hT
        go_wp2_with fail
        go_loopw [8] (fun i w' => ∃ k : Nat, k ≤ N ∧ i = .int .i64 k ∧ ∃ bs, Dk.Db w w' bd bs (Dk.rest back xs N k) []) (fun i w' => N - (intOf i).toNat)
        case atStart => exact ⟨0, Nat.zero_le _, rfl, t1⟩
        case round =>
          obtain ⟨j, hj, rfl, bs, hT⟩ := hrel
          clear t1
          by_cases hlt : j < N
          · have y1 : decide ((j : Int) < (N : Int)) = true := by simp; omega
            have K := Done_next back hT hlt (by omega)
            have HZ : Hid (Dk.Db w wr bd bs (Dk.rest back xs N j) []) := hT
            clear hT
            cases back
            · have K' : Calls Try.prog 7 #[.pointer (some ⟨bd, 0, none⟩), .int .i64 0] wr fun e w' => ∃ b c d x bs', e = .returned (.tuple #[.agg #[.int .i64 (j : Int), .int .i64 b, .bool c, .int .u64 d], .int .u64 x, .bool true]) ∧ Dk.Db w w' bd bs' (Dk.rest false xs N (j + 1)) [] := K
              clear K
              go_wp2_with fail
              refine K'.mono ?_
              rintro e w2 ⟨rb, rc, rd, rx, bs', rfl, h2⟩
              clear K' HZ
              obtain ⟨W6, e6⟩ : ∃ W6, W6 = w2.alloc (.cells #[.int .i64 0, .int .i64 0, .bool false, .int .u64 0] 29) := ⟨_, rfl⟩
              have h6 := Db.newBox h2 e6
              have b6 : Dk.Box W6 w2.heap.size #[.int .i64 0, .int .i64 0, .bool false, .int .u64 0] 29 := Db.box h6 (by simp)
              obtain ⟨W7, e7⟩ : ∃ W7, W7 = W6.setRow w2.heap.size #[.int .i64 (j : Int), .int .i64 rb, .bool rc, .int .u64 rd] := ⟨_, rfl⟩
              have h7 := Db.setRow h6 e7
              have c7 : W7.cell? ⟨w2.heap.size, 0, none⟩ = some (.int .i64 (j : Int)) := (Db.box h7 (b := w2.heap.size) (cs := #[.int .i64 (j : Int), .int .i64 rb, .bool rc, .int .u64 rd]) (e := 29) (by simp)).cell 0
              have h8 := Db.drop h7
              have H6 : Hid (w2.alloc (.cells #[.int .i64 0, .int .i64 0, .bool false, .int .u64 0] 29) = W6) := e6.symm
              have H7 : Hid (W6.setRow w2.heap.size #[.int .i64 (j : Int), .int .i64 rb, .bool rc, .int .u64 rd] = W7) := e7.symm
              have HB : Hid (Dk.Box W6 w2.heap.size #[.int .i64 0, .int .i64 0, .bool false, .int .u64 0] 29) := b6
              clear e6 e7 h2 h6 b6 h7
              go_wp2_with (first | (rw [H6.out]; clear H6) | (refine wpList_store_row rfl 29 _ _ rfl w2.heap.size #[.int .i64 (j : Int), .int .i64 rb, .bool rc, .int .u64 rd] rfl rfl 29 _ HB.out.heap rq_size rfl (rq_cells _ _ _ _) ?_; rw [H7.out]; clear HB))
              go_roundw
              case rel => exact ⟨j + 1, by omega, by go_num, bs', h8⟩
              case measure => simp [intOf]; omega
            · have K' : Calls Try.prog 7 #[.pointer (some ⟨bd, 0, none⟩), .int .i64 (-1)] wr fun e w' => ∃ b c d x bs', e = .returned (.tuple #[.agg #[.int .i64 ((N : Int) - 1 - (j : Int)), .int .i64 b, .bool c, .int .u64 d], .int .u64 x, .bool true]) ∧ Dk.Db w w' bd bs' (Dk.rest true xs N (j + 1)) [] := K
              clear K
              obtain ⟨z, ez⟩ : ∃ z : Int, (N : Int) - 1 - (j : Int) = z := ⟨_, rfl⟩
              rw [ez] at K'
              have hz : -1 ≤ z ∧ z ≤ 40 := by omega
              go_wp2_with fail
              refine K'.mono ?_
              rintro e w2 ⟨rb, rc, rd, rx, bs', rfl, h2⟩
              clear K' HZ
              obtain ⟨W6, e6⟩ : ∃ W6, W6 = w2.alloc (.cells #[.int .i64 0, .int .i64 0, .bool false, .int .u64 0] 29) := ⟨_, rfl⟩
              have h6 := Db.newBox h2 e6
              have b6 : Dk.Box W6 w2.heap.size #[.int .i64 0, .int .i64 0, .bool false, .int .u64 0] 29 := Db.box h6 (by simp)
              obtain ⟨W7, e7⟩ : ∃ W7, W7 = W6.setRow w2.heap.size #[.int .i64 z, .int .i64 rb, .bool rc, .int .u64 rd] := ⟨_, rfl⟩
              have h7 := Db.setRow h6 e7
              have c7 : W7.cell? ⟨w2.heap.size, 0, none⟩ = some (.int .i64 z) := (Db.box h7 (b := w2.heap.size) (cs := #[.int .i64 z, .int .i64 rb, .bool rc, .int .u64 rd]) (e := 29) (by simp)).cell 0
              have h8 := Db.drop h7
              have H6 : Hid (w2.alloc (.cells #[.int .i64 0, .int .i64 0, .bool false, .int .u64 0] 29) = W6) := e6.symm
              have H7 : Hid (W6.setRow w2.heap.size #[.int .i64 z, .int .i64 rb, .bool rc, .int .u64 rd] = W7) := e7.symm
              have HB : Hid (Dk.Box W6 w2.heap.size #[.int .i64 0, .int .i64 0, .bool false, .int .u64 0] 29) := b6
              clear e6 e7 h2 h6 b6 h7
              go_wp2_with (first | (rw [H6.out]; clear H6) | (refine wpList_store_row rfl 29 _ _ rfl w2.heap.size #[.int .i64 z, .int .i64 rb, .bool rc, .int .u64 rd] rfl rfl 29 _ HB.out.heap rq_size rfl (rq_cells _ _ _ _) ?_; rw [H7.out]; clear HB))
              go_roundw
              case rel => exact ⟨j + 1, by omega, by go_num, bs', h8⟩
              case measure => simp [intOf]; omega
          · have y1 : decide ((j : Int) < (N : Int)) = false := by simp; omega
            have ek : N = j := by omega
            subst ek
            have HU : Hid (Below w.heap.size w wr) := hT.out
            have hl0 : (Dk.rest back xs N N).length = 0 := by rw [Dk.rest_len _ _ (Nat.le_refl _)]; omega
            have er : Dk.rest back xs N N = [] := List.eq_nil_of_length_eq_zero hl0
            rw [er] at hT
            clear hl0 er
            go_wp2_with fail
            refine (awake_any wr).mono ?_
            rintro e w2 ⟨rfl, u2⟩
            have h2 := hT.below u2
            have KW := Wait_any h2 (by simp)
            clear hT
            go_wp2_with fail
            refine KW.mono ?_
            rintro e w3 ⟨A3, C3, rfl, h3, _, _⟩
            have HV : Hid (Below w.heap.size w w3) := h3.out
            clear KW h2 h3
            go_wp2_with fail
            go_ret
            exact ⟨rfl, HV.out⟩
end Go.Proofs.Ytpknboeobldbpaa
