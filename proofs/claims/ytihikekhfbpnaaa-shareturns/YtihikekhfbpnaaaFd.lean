/- What the functions of layer 12 answer: the rounds of a priority. -/
import Derived.Test.YtihikekhfbpnaaaFc
namespace Dk
set_option linter.unusedSimpArgs false
set_option linter.unusedVariables false
set_option linter.unnecessarySimpa false
open Go Go.RowKit
/-- Numbers as a block. -/
def cells (xs : List Int) : Array Value := (xs.map (Value.int .i64)).toArray
theorem cells_at {xs : List Int} {k : Nat} (h : k < xs.length) : (cells xs)[k]? = some (.int .i64 (xs.getD k 0)) := by
  unfold cells
  simp [List.getD, h]
theorem cells_set (xs : List Int) (k : Nat) (x : Int) : (cells xs).setIfInBounds k (.int .i64 x) = cells (xs.set k x) := by
  unfold cells
  simp [List.map_set]
/-- What a truth counts for. -/
def oneOf : Value → Nat
  | .bool true => 1
  | _ => 0
theorem sli_far {w w' : World} {A : Option Addr} {L C bh : Nat} {xs : List Int} (h : SlI bh w A L C xs) (hb : bh ≤ w.heap.size) (g : w.grownBy w' (some bh)) (k : Nat) (hk : k < L) : ∃ b o, A = some ⟨b, o, none⟩ ∧ w'.cell? ⟨b, o + k, none⟩ = some (.int .i64 (xs.getD k 0)) ∧ b < w'.heap.size := by
  obtain ⟨b, o, e, hlt, hc⟩ := h.cells (by omega)
  refine ⟨b, o, e, ?_, by have := g.size; omega⟩
  rw [← hc k hk]
  unfold World.cell?
  show (match w'.heap[b]? with | _ => _) = (match w.heap[b]? with | _ => _)
  rw [g.block b (by omega) (fun e => by have := Option.some.inj e; omega)]
end Dk
namespace Go.Proofs.Ytihikekhfbpnaaa
set_option linter.unusedSimpArgs false
set_option linter.unusedVariables false
set_option linter.unnecessarySimpa false
open Go.RowKit

set_option maxHeartbeats 2000000 in
/-- The rounds of a priority. -/
theorem rounds_any (procs : Int) (left0 : Int) (d p has : List Int) (f : Nat) (q : Int) (row : List Nat) (hR : Dk.RowOk d p f q row) (bh : Nat) (w : World) (hb : Dk.Box w bh (Dk.cells has) 3)
    (hL : Dk.Lev procs d p has f q row left0) (h64 : left0 ≤ 64) (A1 : Option Addr) (C1 : Nat) (hK : Dk.Keeps bh w A1 C1 row) (A2 : Option Addr) (n C2 : Nat) (hd : Dk.SlI bh w A2 n C2 d) (h8 : n ≤ 8) (hrl : row.length ≤ 8) :
    Calls Try.prog 12 #[.int .i64 left0, .slice A1 row.length C1, .slice A2 n C2, .slice (some ⟨bh, 0, none⟩) n n] w fun e w' =>
      ∃ has' left', e = .returned (.int .i64 left') ∧ Dk.Box w' bh (Dk.cells has') 3 ∧ Dk.Done procs d p has' f q left' ∧ left' ≤ 64 ∧ w.grownBy w' (some bh) := by
  have hdl := hd.len
  have hd1 := hd.cap
  have hd2 := hd.max
  have hk1 := hK.1
  have hk2 := hK.2.1
  have hbw := hb.lt
  unfold maxLen at hd2 hk2
  have hpos := hL.pos
  have HB : Hid _ := hb
  have HLv : Hid _ := hL
  have HR : Hid _ := hR
  have HK : Hid (Dk.Keeps bh w A1 C1 row) := hK
  have HD : Hid _ := hd
  clear hb hL hR hK hd
  go_enter Try.func12, Try.ntmps12
  go_wp2
  go_loopw [0, 9] (fun l g w' => ∃ (left : Int) (given : Bool) (hs : List Int), l = .int .i64 left ∧ g = .bool given ∧ 0 ≤ left ∧ left ≤ 64 ∧ Hid (Dk.Box w' bh (Dk.cells hs) 3) ∧ Hid (given = true → Dk.Lev procs d p hs f q row left) ∧ Hid (given = false → Dk.Done procs d p hs f q left) ∧ Hid (w.grownBy w' (some bh))) (fun l g w' => 2 * (intOf l).toNat + Dk.oneOf g)
  case atStart => exact ⟨left0, true, has, rfl, rfl, hpos, h64, HB.out, fun _ => HLv.out, fun h => Bool.noConfusion h, Dk.far_refl _ _⟩
  case round =>
    obtain ⟨left, given, hs, rfl, rfl, hl0, hl64, HBo, HLe, HDo, HG⟩ := hrel
    cases given
    · go_wp2
      go_ret
      exact ⟨hs, left, rfl, HBo.out, HDo.out trivial, hl64, HG.out⟩
    · go_wp2
      generalize ew : wr = wa at *
      go_loopw [0, 9, 15] (fun l g i w' => ∃ (k : Nat) (left' : Int) (given' : Bool) (hs' : List Int), k ≤ row.length ∧ i = .int .i64 k ∧ l = .int .i64 left' ∧ g = .bool given' ∧ 0 ≤ left' ∧ left' ≤ 64 ∧ Hid (Dk.Box w' bh (Dk.cells hs') 3) ∧ Hid (Dk.Pass procs d p hs' f q row left k left' given') ∧ Hid (w.grownBy w' (some bh))) (fun l g i w' => row.length - (intOf i).toNat)
      case atStart => exact ⟨0, left, false, hs, Nat.zero_le _, rfl, rfl, rfl, hl0, hl64, HBo.out, (HLe.out trivial).pass, HG.out⟩
      case round =>
        obtain ⟨k, left', given', hs', hk, rfl, rfl, rfl, hl0', hl64', HB', HP, HG'⟩ := hrel
        by_cases hlt : k < row.length
        · obtain ⟨br, er, hbr⟩ := HK.out.2.2 (by omega)
          subst er
          obtain ⟨m, em⟩ : ∃ m, row.getD k 0 = m := ⟨_, rfl⟩
          have c1 : wr.cell? ⟨br, k, none⟩ = some (.int .i64 (m : Int)) := by rw [← em]; exact (hbr wr HG'.out).2 k hlt
          have hm : m < n := by rw [← em, ← hdl]; exact HR.out.lt k hlt
          obtain ⟨bd, od, ed, c2, _⟩ := Dk.sli_far HD.out (by omega) HG'.out m hm
          subst ed
          have hml : m < hs'.length := by rw [HP.out.down.len, hdl]; exact hm
          have c3 : wr.cell? ⟨bh, m, none⟩ = some (.int .i64 (hs'.getD m 0)) := by rw [HB'.out.cell]; exact Dk.cells_at hml
          have c4 : wr.frozen? ⟨bh, m, none⟩ = false := HB'.out.frozen _
          have hx0 := HP.out.down.low m (by omega)
          have hdi := Dk.sli_at HD.out m hm
          have HEM : Hid _ := em
          obtain ⟨x, ex⟩ : ∃ x, hs'.getD m 0 = x := ⟨_, rfl⟩
          obtain ⟨y, ey⟩ : ∃ y, d.getD m 0 = y := ⟨_, rfl⟩
          have HX : Hid (hs'.getD m 0 = x) := ex
          have HY : Hid (d.getD m 0 = y) := ey
          rw [ex] at c3 hx0
          rw [ey] at c2 hdi
          obtain ⟨hd1', hd2'⟩ := hdi
          have HML : Hid _ := hml
          clear hbr em ex ey hml
          by_cases h0 : 0 < left'
          · by_cases hxy : x < y
            · have y1 : decide ((0 : Int) < left') = true := by simp; omega
              have y2 : decide (x < y) = true := by simp; omega
              have HP2 : Hid (Dk.Pass procs d p (hs'.set m (x + 1)) f q row left (k + 1) (left' - 1) true) := by
                have := HP.out.give HR.out hlt h0 (by rw [HEM.out, HX.out, HY.out]; exact hxy)
                rw [HEM.out, HX.out] at this
                exact this
              go_wp2
              go_quiet (fail)
              go_wp2
              go_roundw
              case rel =>
                refine ⟨k + 1, left' - 1, true, hs'.set m (x + 1), by omega, by go_num, rfl, rfl, by omega, by omega, ?_, HP2.out, Dk.far_set (Dk.far_up HG'.out (Dk.up_drewN (Below.refl _ _) nq)) _ _⟩
                show Dk.Box _ _ _ _
                rw [← Dk.cells_set]
                exact (HB'.out.drewN nq).set m _
              case measure => simp [intOf]; omega
            · have y1 : decide ((0 : Int) < left') = true := by simp; omega
              have y2 : decide (x < y) = false := by simp; omega
              have HP2 : Hid (Dk.Pass procs d p hs' f q row left (k + 1) left' given') := HP.out.skip (fun _ => by rw [HEM.out, HX.out, HY.out]; omega)
              go_wp2
              go_quiet (fail)
              go_wp2
              go_roundw
              case rel => exact ⟨k + 1, left', given', hs', by omega, by go_num, rfl, rfl, hl0', hl64', HB'.out.drewN nq, HP2.out, Dk.far_up HG'.out (Dk.up_drewN (Below.refl _ _) nq)⟩
              case measure => simp [intOf]; omega
          · have y1 : decide ((0 : Int) < left') = false := by simp; omega
            have HP2 : Hid (Dk.Pass procs d p hs' f q row left (k + 1) left' given') := HP.out.skip (fun h => absurd h h0)
            go_wp2
            go_quiet (fail)
            go_wp2
            go_roundw
            case rel => exact ⟨k + 1, left', given', hs', by omega, by go_num, rfl, rfl, hl0', hl64', HB'.out.drewN nq, HP2.out, Dk.far_up HG'.out (Dk.up_drewN (Below.refl _ _) nq)⟩
            case measure => simp [intOf]; omega
        · have hke : k = row.length := by omega
          have HP1 : Hid (Dk.Pass procs d p hs' f q row left row.length left' given') := by rw [← hke]; exact HP.out
          clear HP
          go_wp2
          go_roundw
          case rel => exact ⟨left', given', hs', rfl, rfl, hl0', hl64', HB'.out, fun e => by subst e; exact HP1.out.again.1, fun e => by subst e; exact HP1.out.over HR.out, HG'.out⟩
          case measure =>
            have h1 := HP1.out.le
            have h2 := HP1.out.less
            cases given'
            · simp [intOf, Dk.oneOf]; omega
            · have := h2 rfl
              simp [intOf, Dk.oneOf]; omega
end Go.Proofs.Ytihikekhfbpnaaa
