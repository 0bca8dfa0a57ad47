/- The walk of the statement on what a block has. -/
import Derived.Test.YtpknboeobldbpaaKu
import Derived.Test.YtpknboeobldbpaaOpm
namespace Dk
open Go
theorem at_one (k : Int) : at_ k 1 = 0 := by have := at_lt k (n := 1) (by decide); omega
theorem rq_ok {a : Int} {b : Nat} {c : Bool} {d : Nat} (ha : i64 a) (hb : b ≤ 1000) (hd : d < 2 ^ 64) : Rq.ok ⟨a, (b : Int), c, d⟩ := ⟨ha, ⟨by show _ ≤ (b : Int); omega, by show (b : Int) ≤ _; omega⟩, hd⟩
theorem i64_small (k : Nat) (h : k ≤ 1000) : i64 (k : Int) := ⟨by omega, by omega⟩
theorem getD_set_self (bs : List Nat) (k x : Nat) (h : k < bs.length) : (bs.set k x).getD k 0 = x := by simp [List.getD, h]
end Dk
namespace Go.Proofs.Ytpknboeobldbpaa
set_option linter.unusedSimpArgs false
set_option linter.unusedVariables false
set_option linter.unnecessarySimpa false
open Go.RowKit Go.Lib

theorem word_cell {B : Nat} {w : World} {A : Option Addr} {L C : Nat} {xs : List Nat} (h : Dk.Row 1 0 Dk.IsWord B w A L C xs) {k : Nat} (hk : k < L) : ∃ b o x, A = some ⟨b, o, none⟩ ∧ b < B ∧ w.cell? ⟨b, o + k, none⟩ = some (.int .u64 ((x : Nat) : Int)) ∧ x < 2 ^ 64 := by
  obtain ⟨b, o, e, hb, hc⟩ := h.cells (by omega)
  obtain ⟨vs, h1, ⟨rfl, hx⟩, h3⟩ := hc k hk
  have := h3 0 (by omega)
  rw [Nat.mul_one, Nat.add_zero] at this
  exact ⟨b, o, _, e, hb, this, hx⟩

section
variable {W w : World} {bd : Nat} {bs : List Nat} {us : List Dk.Thing}
/-- The only request is done. -/
theorem Done_one {r : Dk.Rq} (h : Dk.Db W w bd bs [r] us) (k : Int) (hi : Dk.i64 k) :
    Calls Try.prog 7 #[.pointer (some ⟨bd, 0, none⟩), .int .i64 k] w fun e w' => e = .returned (.tuple #[.agg #[.int .i64 r.who, .int .i64 r.block, .bool r.write, .int .u64 (r.x : Nat)], .int .u64 (r.said bs : Nat), .bool true]) ∧ Dk.Db W w' bd (r.left bs) [] us := by
  have e : ([r] : List Dk.Rq).length = 1 := rfl
  have K := Done_any h k hi (by simp) (by simp) r (by rw [e, Dk.at_one]; rfl)
  rw [e, Dk.at_one] at K
  exact K
end

set_option maxRecDepth 100000 in
set_option maxHeartbeats 4000000 in
theorem DiskKeeps_any (A : Option Addr) (L C : Nat) (xs : List Nat) (n : Nat) (hn : n < 256) (w : World) (hr : Dk.Row 1 0 Dk.IsWord w.heap.size w A L C xs) :
    Calls Try.prog 4 #[.slice A L C, .int .u8 (n : Int)] w fun e w' => e = .returned (.bool true) ∧ Below w.heap.size w w' := by
  have hcap := hr.cap
  have hmax := hr.max
  unfold maxLen at hmax
  have HR : Hid (Dk.Row 1 0 Dk.IsWord w.heap.size w A L C xs) := hr
  obtain ⟨k, ek⟩ : ∃ k : Nat, (n : Int) % 8 = (k : Int) := ⟨n % 8, by omega⟩
  have hk8 : k < 8 := by omega
  clear hr
  go_enter Try.func4, Try.ntmps4
  go_wp2_with fail
  have K0 : Calls Try.prog 6 #[.int .i64 8] w fun e w' => e = .returned (.pointer (some ⟨w.heap.size + 1, 0, none⟩)) ∧ Dk.Db w w' (w.heap.size + 1) [0, 0, 0, 0, 0, 0, 0, 0] [] [] := New_any (Dk.Sep.begin (Below.refl _ w)) 8
  refine K0.mono ?_
  rintro e w1 ⟨rfl, h1⟩
  obtain ⟨bd, ebd⟩ : ∃ bd, w.heap.size + 1 = bd := ⟨_, rfl⟩
  rw [ebd] at h1
  rw [show (Value.pointer (some ⟨w.heap.size + 1, 0, none⟩)) = .pointer (some ⟨bd, 0, none⟩) by rw [ebd]]
  have t0 : ∃ bs : List Nat, ∃ l : Nat, bs.length = 8 ∧ bs.getD k 0 = l ∧ (0 : Int) = (l : Int) ∧ Dk.Db w w1 bd bs [] [] := ⟨_, 0, rfl, by
    match k, hk8 with
    | 0, _ | 1, _ | 2, _ | 3, _ | 4, _ | 5, _ | 6, _ | 7, _ => rfl, rfl, h1⟩
  clear h1 ebd K0
  go_wp2_with fail
  rw [ek]
  clear ek
  go_loopw [7, 8] (fun l i w' => ∃ (j : Nat) (bs : List Nat) (m : Nat), j ≤ L ∧ j ≤ 40 ∧ i = .int .i64 j ∧ l = .int .u64 (m : Nat) ∧ bs.length = 8 ∧ Hid (bs.getD k 0 = m) ∧ Dk.Db w w' bd bs [] []) (fun l i w' => L - (intOf i).toNat)
  case atStart =>
    obtain ⟨bs, l, e1, e2, e3, h⟩ := t0
    exact ⟨0, bs, l, Nat.zero_le _, Nat.zero_le _, rfl, by rw [← e3], e1, e2, h⟩
  case round =>
    obtain ⟨j, bs, m, hj, hj40, rfl, rfl, hlen, Hm, hT⟩ := hrel
    clear t0
    by_cases hlt : j < L ∧ j < 40
    · obtain ⟨hltL, hlt40⟩ := hlt
      obtain ⟨b, o, x, rfl, hb, c0, hx⟩ := word_cell HR.out hltL
      have d0 : wr.cell? ⟨b, o + j, none⟩ = some (.int .u64 ((x : Nat) : Int)) := by rw [hT.out.cell (by exact hb)]; exact c0
      have y1 : decide ((j : Int) < (L : Int)) = true := by simp; omega
      have y2 : decide ((j : Int) < 40) = true := by simp; omega
      have hjL : (j : Int) < (L : Int) := by omega
      have K1 := Ask_ok hT 1 k true x (by omega) rfl (Dk.rq_ok (Dk.i64_small 1 (by decide)) (by omega) hx) (by simp)
      clear hT
      go_wp2_with fail
      refine K1.mono ?_
      rintro e w2 ⟨rfl, h2⟩
      have K2 := Done_one h2 (j : Int) ⟨by omega, by omega⟩
      clear K1 d0
      go_wp2_with fail
      refine K2.mono ?_
      rintro e w3 ⟨rfl, h3⟩
      have h3' : Dk.Db w w3 bd (bs.set k x) [] [] := h3
      have hl3 : (bs.set k x).length = 8 := by rw [List.length_set]; exact hlen
      have hg3 := Dk.getD_set_self bs k x (by omega)
      generalize bs.set k x = bs' at *
      have d3 : w3.cell? ⟨b, o + j, none⟩ = some (.int .u64 ((x : Nat) : Int)) := by rw [h3'.out.cell (by exact hb)]; exact c0
      have K3 := Ask_ok h3' 1 k false 0 (by omega) rfl (Dk.rq_ok (Dk.i64_small 1 (by decide)) (by omega) (by decide)) (by simp)
      clear K2 h2 h3 h3'
      go_wp2_with fail
      refine K3.mono ?_
      rintro e w4 ⟨rfl, h4⟩
      have K4 : Calls Try.prog 7 #[.pointer (some ⟨bd, 0, none⟩), .int .i64 0] w4 fun e w' => e = .returned (.tuple #[.agg #[.int .i64 1, .int .i64 (k : Int), .bool false, .int .u64 0], .int .u64 (x : Nat), .bool true]) ∧ Dk.Db w w' bd bs' [] [] := by
        have K := Done_one h4 0 ⟨by decide, by decide⟩
        have e1 : Dk.Rq.said ⟨1, (k : Int), false, 0⟩ bs' = x := hg3
        rw [e1] at K
        exact K
      clear K3 d3 h4
      go_wp2_with fail
      refine K4.mono ?_
      rintro e w5 ⟨rfl, h5⟩
      obtain ⟨W6, e6⟩ : ∃ W6, W6 = w5.alloc (.cells #[.int .i64 0, .int .i64 0, .bool false, .int .u64 0] 29) := ⟨_, rfl⟩
      have h6 := Db.newBox h5 e6
      have b6 : Dk.Box W6 w5.heap.size #[.int .i64 0, .int .i64 0, .bool false, .int .u64 0] 29 := Db.box h6 (by simp)
      obtain ⟨W7, e7⟩ : ∃ W7, W7 = W6.setRow w5.heap.size #[.int .i64 1, .int .i64 (k : Int), .bool false, .int .u64 0] := ⟨_, rfl⟩
      have h7 := Db.drop (Db.setRow h6 e7)
      have H6 : Hid (w5.alloc (.cells #[.int .i64 0, .int .i64 0, .bool false, .int .u64 0] 29) = W6) := e6.symm
      have H7 : Hid (W6.setRow w5.heap.size #[.int .i64 1, .int .i64 (k : Int), .bool false, .int .u64 0] = W7) := e7.symm
      have HB : Hid (Dk.Box W6 w5.heap.size #[.int .i64 0, .int .i64 0, .bool false, .int .u64 0] 29) := b6
      have HG : Hid (bs'.getD k 0 = x) := hg3
      clear e6 e7 h5 h6 b6 K4 hg3
      go_wp2_with (first | (rw [H6.out]; clear H6) | (refine wpList_store_row rfl 29 _ _ rfl w5.heap.size #[.int .i64 1, .int .i64 (k : Int), .bool false, .int .u64 0] rfl rfl 29 _ HB.out.heap rq_size rfl (rq_cells _ _ _ _) ?_; rw [H7.out]; clear HB))
      go_roundw
      case rel => exact ⟨j + 1, bs', x, by omega, by omega, by go_num, rfl, hl3, HG, h7⟩
      case measure => simp [intOf]; omega
    · have K5 : Calls Try.prog 9 #[.pointer (some ⟨bd, 0, none⟩), .int .i64 (k : Int)] wr fun e w' => e = .returned (.tuple #[.int .u64 (m : Nat), .bool true]) ∧ w' = wr := by
        rw [← Hm.out]
        exact Block_yes hT k (by omega)
      have HU : Hid (Below w.heap.size w wr) := hT.out
      clear hT
      by_cases hltL : j < L
      · have y1 : decide ((j : Int) < (L : Int)) = true := by simp; omega
        have y2 : decide ((j : Int) < 40) = false := by simp; omega
        go_wp2_with fail
        refine K5.mono ?_
        rintro e w' ⟨rfl, hw'⟩
        subst w'
        go_wp2_with fail
        refine (Done_nil 0 wr).mono ?_
        rintro e w2 ⟨rfl, u2⟩
        obtain ⟨W6, e6⟩ : ∃ W6, W6 = w2.alloc (.cells #[.int .i64 0, .int .i64 0, .bool false, .int .u64 0] 29) := ⟨_, rfl⟩
        have u6 : Below w2.heap.size w2 W6 := by rw [e6]; exact Dk.up_alloc (Below.refl _ _) _
        have b6 : Dk.Box W6 w2.heap.size #[.int .i64 0, .int .i64 0, .bool false, .int .u64 0] 29 := by rw [e6]; exact Dk.Box.new _ _ _
        obtain ⟨W7, e7⟩ : ∃ W7, W7 = W6.setRow w2.heap.size #[.int .i64 0, .int .i64 0, .bool false, .int .u64 0] := ⟨_, rfl⟩
        have u7 : Below w2.heap.size w2 W7 := by rw [e7]; exact up_row u6 (Nat.le_refl _) _
        have HV : Hid (Below w.heap.size w W7) := Dk.up_call (Dk.up_call HU.out u2) u7
        have H6 : Hid (w2.alloc (.cells #[.int .i64 0, .int .i64 0, .bool false, .int .u64 0] 29) = W6) := e6.symm
        have H7 : Hid (W6.setRow w2.heap.size #[.int .i64 0, .int .i64 0, .bool false, .int .u64 0] = W7) := e7.symm
        have HB : Hid (Dk.Box W6 w2.heap.size #[.int .i64 0, .int .i64 0, .bool false, .int .u64 0] 29) := b6
        clear e6 e7 u6 u7 b6 u2 K5
        go_wp2_with (first | (rw [H6.out]; clear H6) | (refine wpList_store_row rfl 29 _ _ rfl w2.heap.size #[.int .i64 0, .int .i64 0, .bool false, .int .u64 0] rfl rfl 29 _ HB.out.heap rq_size rfl (rq_cells _ _ _ _) ?_; rw [H7.out]; clear HB))
        refine (Block_nil 0 W7).mono ?_
        rintro e w' ⟨rfl, hw'⟩
        subst w'
        go_wp2_with fail
        refine (awake_any W7).mono ?_
        rintro e w8 ⟨rfl, u8⟩
        have K9 : Calls Try.prog 8 #[.pointer none, .agg #[.int .i64 0, .int .i64 0, .bool false, .int .u64 0]] w8 fun e w' => e = .returned (.int .i64 1) ∧ Below w8.heap.size w8 w' := Ask_nil 0 0 false 0 w8
        go_wp2_with fail
        refine K9.mono ?_
        rintro e w9 ⟨rfl, u9⟩
        go_wp2_with fail
        refine (Wait_nil w9).mono ?_
        rintro e w' ⟨rfl, hw'⟩
        subst w'
        go_wp2_with fail
        go_ret
        exact ⟨rfl, Dk.up_call (Dk.up_call HV.out u8) u9⟩
      · have y1 : decide ((j : Int) < (L : Int)) = false := by simp; omega
        go_wp2_with fail
        refine K5.mono ?_
        rintro e w' ⟨rfl, hw'⟩
        subst w'
        go_wp2_with fail
        refine (Done_nil 0 wr).mono ?_
        rintro e w2 ⟨rfl, u2⟩
        obtain ⟨W6, e6⟩ : ∃ W6, W6 = w2.alloc (.cells #[.int .i64 0, .int .i64 0, .bool false, .int .u64 0] 29) := ⟨_, rfl⟩
        have u6 : Below w2.heap.size w2 W6 := by rw [e6]; exact Dk.up_alloc (Below.refl _ _) _
        have b6 : Dk.Box W6 w2.heap.size #[.int .i64 0, .int .i64 0, .bool false, .int .u64 0] 29 := by rw [e6]; exact Dk.Box.new _ _ _
        obtain ⟨W7, e7⟩ : ∃ W7, W7 = W6.setRow w2.heap.size #[.int .i64 0, .int .i64 0, .bool false, .int .u64 0] := ⟨_, rfl⟩
        have u7 : Below w2.heap.size w2 W7 := by rw [e7]; exact up_row u6 (Nat.le_refl _) _
        have HV : Hid (Below w.heap.size w W7) := Dk.up_call (Dk.up_call HU.out u2) u7
        have H6 : Hid (w2.alloc (.cells #[.int .i64 0, .int .i64 0, .bool false, .int .u64 0] 29) = W6) := e6.symm
        have H7 : Hid (W6.setRow w2.heap.size #[.int .i64 0, .int .i64 0, .bool false, .int .u64 0] = W7) := e7.symm
        have HB : Hid (Dk.Box W6 w2.heap.size #[.int .i64 0, .int .i64 0, .bool false, .int .u64 0] 29) := b6
        clear e6 e7 u6 u7 b6 u2 K5
        go_wp2_with (first | (rw [H6.out]; clear H6) | (refine wpList_store_row rfl 29 _ _ rfl w2.heap.size #[.int .i64 0, .int .i64 0, .bool false, .int .u64 0] rfl rfl 29 _ HB.out.heap rq_size rfl (rq_cells _ _ _ _) ?_; rw [H7.out]; clear HB))
        refine (Block_nil 0 W7).mono ?_
        rintro e w' ⟨rfl, hw'⟩
        subst w'
        go_wp2_with fail
        refine (awake_any W7).mono ?_
        rintro e w8 ⟨rfl, u8⟩
        have K9 : Calls Try.prog 8 #[.pointer none, .agg #[.int .i64 0, .int .i64 0, .bool false, .int .u64 0]] w8 fun e w' => e = .returned (.int .i64 1) ∧ Below w8.heap.size w8 w' := Ask_nil 0 0 false 0 w8
        go_wp2_with fail
        refine K9.mono ?_
        rintro e w9 ⟨rfl, u9⟩
        go_wp2_with fail
        refine (Wait_nil w9).mono ?_
        rintro e w' ⟨rfl, hw'⟩
        subst w'
        go_wp2_with fail
        go_ret
        exact ⟨rfl, Dk.up_call (Dk.up_call HV.out u8) u9⟩
end Go.Proofs.Ytpknboeobldbpaa
