/- The walk of the statement on the order of words. -/
import Derived.Test.YtnoeigmcanggdaaTv
import Derived.Test.YtnoeigmcanggdaaOpm
namespace Go.Proofs.Ytnoeigmcanggdaa
set_option linter.unusedSimpArgs false
set_option linter.unusedVariables false
set_option linter.unnecessarySimpa false
open Go.RowKit Go.Lib

set_option maxRecDepth 100000 in
set_option maxHeartbeats 4000000 in
theorem TubeOrder_any (n : Nat) (hn : n < 256) (A : Option Addr) (L C : Nat) (xs : List Nat) (w : World) (hr : Dk.Row 1 0 Dk.IsWord w.heap.size w A L C xs) :
    Calls Try.prog 4 #[.int .u8 (n : Int), .slice A L C] w fun e w' => e = .returned (.bool true) ∧ Below w.heap.size w w' := by
  have hcap := hr.cap
  have hmax := hr.max
  have hlen := hr.len
  unfold maxLen at hmax
  have HR : Hid (Dk.Row 1 0 Dk.IsWord w.heap.size w A L C xs) := hr
  have HL : Hid (xs.length = L) := hlen
  clear hr hlen
  go_enter Try.func4, Try.ntmps4
  go_wp2_with fail
  obtain ⟨r, er⟩ : ∃ r : Int, (n : Int) % 10 + 1 = r := ⟨_, rfl⟩
  rw [er]
  clear er hn
  obtain ⟨m, em⟩ : ∃ m, Dk.most r = m := ⟨_, rfl⟩
  have hm1 : 1 ≤ m ∧ m ≤ 8 := em ▸ most_le r
  have HM : Hid (Dk.most r = m) := em
  refine (New_any (Dk.Sep.begin (Below.refl _ w)) r).mono ?_
  rintro e w1 ⟨rfl, h1⟩
  obtain ⟨bt, ebt⟩ : ∃ bt, w.heap.size = bt := ⟨_, rfl⟩
  have t0 : Dk.Tb w w1 bt r (Dk.Wq xs 0 0 m) (Dk.Pq xs m 0) [] [] := by
    rw [← ebt, Dk.Wq_end, Dk.Pq_none (Nat.zero_le _)]
    exact h1
  rw [show (Value.pointer (some ⟨w.heap.size, 0, none⟩)) = .pointer (some ⟨bt, 0, none⟩) by rw [ebt]]
  clear h1 ebt em
  by_cases hL : 40 < L
  · have y0 : decide ((40 : Int) < (L : Int)) = true := by simp; omega
    have hN40 : 40 ≤ 40 := by omega
    have hNL : 40 ≤ L := by omega
    go_wp2_with fail
    go_loopw [7] (fun i w' => ∃ k : Nat, k ≤ 40 ∧ i = .int .i64 k ∧ Dk.Tb w w' bt r (Dk.Wq xs 0 k m) (Dk.Pq xs m k) [] []) (fun i w' => 40 - (intOf i).toNat)
    case atStart => exact ⟨0, Nat.zero_le _, rfl, t0⟩
    case round =>
      obtain ⟨k, hk, rfl, hT⟩ := hrel
      clear t0
      by_cases hlt : k < 40
      · have y1 : decide ((k : Int) < (40 : Int)) = true := by simp; omega
        have hkL : (k : Int) < (L : Int) := by omega
        obtain ⟨b, o, rfl, hb, hc⟩ := row_cell HR.out (by omega)
        have d0 : wr.cell? ⟨b, o + k, none⟩ = some (.int .u64 ((xs.getD k 0 : Nat) : Int)) := by rw [hT.out.cell (by exact hb)]; exact hc k (by omega)
        have K := Put_next hT HM.out (by rw [HL.out]; omega) (by omega) (row_fit HR.out (by omega))
        generalize xs.getD k 0 = x at d0 K
        clear hc hT
        go_wp2_with fail
        refine K.mono ?_
        rintro e w2 ⟨rb, rn, rc, rfl, t2⟩
        have hwl := Dk.Wq_len xs 0 (k + 1) m
        have KW := Words_any t2 (by omega)
        generalize (Dk.Wq xs 0 (k + 1) m).length = q at KW hwl
        have z1 : decide ((8 : Int) < (q : Int)) = false := by simp; omega
        clear K d0
        go_wp2_with fail
        refine KW.mono ?_
        rintro e w3 ⟨A3, C3, rfl, t3, _, _⟩
        clear KW t2
        go_wp2_with fail
        go_roundw
        case rel => exact ⟨k + 1, by omega, by go_num, t3⟩
        case measure => simp [intOf]; omega
      · have ek : 40 = k := by omega
        subst ek
        have t1 : Dk.Tb w wr bt r (Dk.Wq xs 0 40 m) (Dk.Pq xs (m + 0) 40) [] [] := hT
        generalize wr = wa at *
        clear hT
        go_wp2_with fail
        go_loopw [8] (fun i w' => ∃ k : Nat, k ≤ 40 ∧ i = .int .i64 k ∧ Dk.Tb w w' bt r (Dk.Wq xs k 40 m) (Dk.Pq xs (m + k) 40) [] []) (fun i w' => 40 - (intOf i).toNat)
        case atStart => exact ⟨0, Nat.zero_le _, rfl, t1⟩
        case round =>
          obtain ⟨k, hk, rfl, hT⟩ := hrel
          clear t1
          by_cases hlt : k < 40
          · have y1 : decide ((k : Int) < (40 : Int)) = true := by simp; omega
            have hkL : (k : Int) < (L : Int) := by omega
            obtain ⟨b, o, rfl, hb, hc⟩ := row_cell HR.out (by omega)
            have K := Get_next hT HM.out hlt (by rw [HL.out]; omega) hN40
            have hck := hc k (by omega)
            generalize xs.getD k 0 = x at hck K
            clear hc hT
            go_wp2_with fail
            refine K.mono ?_
            rintro e w2 ⟨rc, rd, rfl, t2⟩
            have d0 : w2.cell? ⟨b, o + k, none⟩ = some (.int .u64 ((x : Nat) : Int)) := by rw [t2.out.cell (by exact hb)]; exact hck
            clear K hck
            go_wp2_with fail
            go_roundw
            case rel => first | exact ⟨k + 1, by omega, by go_num, t2⟩ | exact ⟨_, _, _, _, _, _, _, _, _, _, _, _, _, _, _, _, _, _, _, _, _, _, _, _, _, _, _, _, ⟨k + 1, by omega, by go_num, t2⟩, rfl⟩
            case measure => simp [intOf]; omega
          · have ek : 40 = k := by omega
            subst ek
            rw [Dk.Wq_end, Dk.Pq_none (by omega)] at hT
            have K1 : Calls Try.prog 8 #[.pointer (some ⟨bt, 0, none⟩), .int .i64 1000] wr fun e w' => e = .returned (.tuple #[.int .u64 0, .bool false, .int .i64 0, .bool false]) ∧ Dk.Tb w w' bt r [] [] [1000] [] := Get_none hT 1000 rfl ⟨by decide, by decide⟩ (by decide)
            clear hT
            go_wp2_with fail
            refine K1.mono ?_
            rintro e w2 ⟨rfl, t2⟩
            have K2 : Calls Try.prog 10 #[.pointer (some ⟨bt, 0, none⟩), .int .i64 5, .int .u64 7] w2 fun e w' => e = .returned (.tuple #[.bool true, .int .i64 1000, .bool true]) ∧ Dk.Tb w w' bt r [] [] [] [] := Put_given t2 5 7 rfl
            clear K1 t2
            go_wp2_with fail
            refine K2.mono ?_
            rintro e w3 ⟨rfl, t3⟩
            have K3 : Calls Try.prog 10 #[.pointer none, .int .i64 1, .int .u64 1] w3 fun e w' => e = .returned (.tuple #[.bool false, .int .i64 0, .bool false]) ∧ w' = w3 := Put_nil 1 1 w3
            clear K2
            go_wp2_with fail
            refine K3.mono ?_
            rintro e w' ⟨rfl, hw'⟩
            subst w'
            clear K3
            go_wp2_with fail
            refine (Get_nil 1 w3).mono ?_
            rintro e w' ⟨rfl, hw'⟩
            subst w'
            go_wp2_with fail
            refine (awake_any w3).mono ?_
            rintro e w4 ⟨rfl, u4⟩
            have t4 := t3.below u4
            clear t3 u4
            go_wp2_with fail
            refine (Getters_any t4 (by decide)).mono ?_
            rintro e w5 ⟨A5, C5, rfl, t5, _, _⟩
            have HU : Hid (Below w.heap.size w w5) := t5.out
            clear t4 t5
            go_wp2_with (first | (go_at_call 13; refine (Words_nil w5).mono ?_; rintro e w' ⟨rfl, hw'⟩; subst w') | (go_at_call 15; refine (Putters_nil w5).mono ?_; rintro e w' ⟨rfl, hw'⟩; subst w') | (go_at_call 16; refine (Getters_nil w5).mono ?_; rintro e w' ⟨rfl, hw'⟩; subst w'))
            go_ret
            exact ⟨rfl, HU.out⟩
  · have y0 : decide ((40 : Int) < (L : Int)) = false := by simp; omega
    have hN40 : L ≤ 40 := by omega
    have hNL : L ≤ L := by omega
    go_wp2_with fail
    go_loopw [7] (fun i w' => ∃ k : Nat, k ≤ L ∧ i = .int .i64 k ∧ Dk.Tb w w' bt r (Dk.Wq xs 0 k m) (Dk.Pq xs m k) [] []) (fun i w' => L - (intOf i).toNat)
    case atStart => exact ⟨0, Nat.zero_le _, rfl, t0⟩
    case round =>
      obtain ⟨k, hk, rfl, hT⟩ := hrel
      clear t0
      by_cases hlt : k < L
      · have y1 : decide ((k : Int) < (L : Int)) = true := by simp; omega
        have hkL : (k : Int) < (L : Int) := by omega
        obtain ⟨b, o, rfl, hb, hc⟩ := row_cell HR.out (by omega)
        have d0 : wr.cell? ⟨b, o + k, none⟩ = some (.int .u64 ((xs.getD k 0 : Nat) : Int)) := by rw [hT.out.cell (by exact hb)]; exact hc k (by omega)
        have K := Put_next hT HM.out (by rw [HL.out]; omega) (by omega) (row_fit HR.out (by omega))
        generalize xs.getD k 0 = x at d0 K
        clear hc hT
        go_wp2_with fail
        refine K.mono ?_
        rintro e w2 ⟨rb, rn, rc, rfl, t2⟩
        have hwl := Dk.Wq_len xs 0 (k + 1) m
        have KW := Words_any t2 (by omega)
        generalize (Dk.Wq xs 0 (k + 1) m).length = q at KW hwl
        have z1 : decide ((8 : Int) < (q : Int)) = false := by simp; omega
        clear K d0
        go_wp2_with fail
        refine KW.mono ?_
        rintro e w3 ⟨A3, C3, rfl, t3, _, _⟩
        clear KW t2
        go_wp2_with fail
        go_roundw
        case rel => exact ⟨k + 1, by omega, by go_num, t3⟩
        case measure => simp [intOf]; omega
      · have ek : L = k := by omega
        subst ek
        have t1 : Dk.Tb w wr bt r (Dk.Wq xs 0 L m) (Dk.Pq xs (m + 0) L) [] [] := hT
        generalize wr = wa at *
        clear hT
        go_wp2_with fail
        go_loopw [8] (fun i w' => ∃ k : Nat, k ≤ L ∧ i = .int .i64 k ∧ Dk.Tb w w' bt r (Dk.Wq xs k L m) (Dk.Pq xs (m + k) L) [] []) (fun i w' => L - (intOf i).toNat)
        case atStart => exact ⟨0, Nat.zero_le _, rfl, t1⟩
        case round =>
          obtain ⟨k, hk, rfl, hT⟩ := hrel
          clear t1
          by_cases hlt : k < L
          · have y1 : decide ((k : Int) < (L : Int)) = true := by simp; omega
            have hkL : (k : Int) < (L : Int) := by omega
            obtain ⟨b, o, rfl, hb, hc⟩ := row_cell HR.out (by omega)
            have K := Get_next hT HM.out hlt (by rw [HL.out]; omega) hN40
            have hck := hc k (by omega)
            generalize xs.getD k 0 = x at hck K
            clear hc hT
            go_wp2_with fail
            refine K.mono ?_
            rintro e w2 ⟨rc, rd, rfl, t2⟩
            have d0 : w2.cell? ⟨b, o + k, none⟩ = some (.int .u64 ((x : Nat) : Int)) := by rw [t2.out.cell (by exact hb)]; exact hck
            clear K hck
            go_wp2_with fail
            go_roundw
            case rel => first | exact ⟨k + 1, by omega, by go_num, t2⟩ | exact ⟨_, _, _, _, _, _, _, _, _, _, _, _, _, _, _, _, _, _, _, _, _, _, _, _, _, _, _, _, ⟨k + 1, by omega, by go_num, t2⟩, rfl⟩
            case measure => simp [intOf]; omega
          · have ek : L = k := by omega
            subst ek
            rw [Dk.Wq_end, Dk.Pq_none (by omega)] at hT
            have K1 : Calls Try.prog 8 #[.pointer (some ⟨bt, 0, none⟩), .int .i64 1000] wr fun e w' => e = .returned (.tuple #[.int .u64 0, .bool false, .int .i64 0, .bool false]) ∧ Dk.Tb w w' bt r [] [] [1000] [] := Get_none hT 1000 rfl ⟨by decide, by decide⟩ (by decide)
            clear hT
            go_wp2_with fail
            refine K1.mono ?_
            rintro e w2 ⟨rfl, t2⟩
            have K2 : Calls Try.prog 10 #[.pointer (some ⟨bt, 0, none⟩), .int .i64 5, .int .u64 7] w2 fun e w' => e = .returned (.tuple #[.bool true, .int .i64 1000, .bool true]) ∧ Dk.Tb w w' bt r [] [] [] [] := Put_given t2 5 7 rfl
            clear K1 t2
            go_wp2_with fail
            refine K2.mono ?_
            rintro e w3 ⟨rfl, t3⟩
            have K3 : Calls Try.prog 10 #[.pointer none, .int .i64 1, .int .u64 1] w3 fun e w' => e = .returned (.tuple #[.bool false, .int .i64 0, .bool false]) ∧ w' = w3 := Put_nil 1 1 w3
            clear K2
            go_wp2_with fail
            refine K3.mono ?_
            rintro e w' ⟨rfl, hw'⟩
            subst w'
            clear K3
            go_wp2_with fail
            refine (Get_nil 1 w3).mono ?_
            rintro e w' ⟨rfl, hw'⟩
            subst w'
            go_wp2_with fail
            refine (awake_any w3).mono ?_
            rintro e w4 ⟨rfl, u4⟩
            have t4 := t3.below u4
            clear t3 u4
            go_wp2_with fail
            refine (Getters_any t4 (by decide)).mono ?_
            rintro e w5 ⟨A5, C5, rfl, t5, _, _⟩
            have HU : Hid (Below w.heap.size w w5) := t5.out
            clear t4 t5
            go_wp2_with (first | (go_at_call 13; refine (Words_nil w5).mono ?_; rintro e w' ⟨rfl, hw'⟩; subst w') | (go_at_call 15; refine (Putters_nil w5).mono ?_; rintro e w' ⟨rfl, hw'⟩; subst w') | (go_at_call 16; refine (Getters_nil w5).mono ?_; rintro e w' ⟨rfl, hw'⟩; subst w'))
            go_ret
            exact ⟨rfl, HU.out⟩
end Go.Proofs.Ytnoeigmcanggdaa
