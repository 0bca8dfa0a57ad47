/- Whatever is done, both do the same. -/
import Derived.Test.YtjkdaankjondjaaGl
namespace Go.Proofs.Ytjkdaankjondjaa
set_option linter.unusedSimpArgs false
set_option linter.unusedVariables false
set_option linter.unnecessarySimpa false
open Go.RowKit
section
variable {G0 : Nat → Dk.St → List Dk.Thing → Prop} {W w : World} {bg bm k : Nat} {us : List Dk.Thing}
theorem sem_any (I : GateI G0) (hB : Both G0 W w bg bm k us) (hk : k ≤ 300) (what who num mm choice : Int) (hwho : Dk.i64 who) (hch : Dk.i64 choice) :
    Calls Try.prog 28 #[.pointer (some ⟨bg, 0, none⟩), .pointer (some ⟨bm, 0, none⟩), .agg #[.int .i64 what, .int .i64 who, .int .i64 num, .int .i64 mm, .int .i64 choice]] w fun e w' => e = .returned (.bool true) ∧ Both G0 W w' bg bm (k + 1) us := by
  obtain ⟨S, V, ts, hG, h, ok⟩ := Hid.out hB
  by_cases hw : what = 5
  · by_cases hno : num < 0 ∨ (S.count.length : Int) ≤ num
    · exact sem_down_arg I hG h ok hk what who num mm choice hw hno
    · obtain ⟨n, rfl⟩ : ∃ n : Nat, num = n := ⟨num.toNat, by omega⟩
      have hn : n < S.count.length := by omega
      cases hwt : S.waits who
      · by_cases hp : 0 < S.count.getD n 0
        · exact sem_down_yes I hG h ok hk what who n mm choice hw hn hwt hp
        · exact sem_down_wait I hG h ok hk what who n mm choice hw hn hwho hwt (by omega)
      · exact sem_down_busy I hG h ok hk what who n mm choice hw hn hwt
  · by_cases hno : num < 0 ∨ (S.count.length : Int) ≤ num
    · exact sem_up_arg I hG h ok hk what who num mm choice hw hno
    · obtain ⟨n, rfl⟩ : ∃ n : Nat, num = n := ⟨num.toNat, by omega⟩
      have hn : n < S.count.length := by omega
      by_cases hl : (S.downs.getD n []).length = 0
      · by_cases hf : S.count.getD n 0 = 1048576
        · exact sem_up_full I hG h ok hk what who n mm choice hw hn hl hf
        · exact sem_up_more I hG h ok hk what who n mm choice hw hn hl hf
      · exact sem_up_some I hG h ok hk what who n mm choice hw hn hch (by omega)

set_option maxRecDepth 100000 in
set_option maxHeartbeats 4000000 in
theorem play_sem (I : GateI G0) (hB : Both G0 W w bg bm k us) (hk : k ≤ 300) (what who num mm choice : Int) (hwho : Dk.i64 who) (hch : Dk.i64 choice) (h0 : ¬ what = 0) (h1 : ¬ what = 1) (h2 : ¬ what = 2) (h3 : ¬ what = 3) (h4 : ¬ what = 4) :
    Calls Try.prog 10 #[.pointer (some ⟨bg, 0, none⟩), .pointer (some ⟨bm, 0, none⟩), .agg #[.int .i64 what, .int .i64 who, .int .i64 num, .int .i64 mm, .int .i64 choice]] w fun e w' => e = .returned (.bool true) ∧ Both G0 W w' bg bm (k + 1) us := by
  obtain ⟨W1, e1⟩ : ∃ W1, W1 = w.alloc (.cells #[.int .i64 what, .int .i64 who, .int .i64 num, .int .i64 mm, .int .i64 choice] 30) := ⟨_, rfl⟩
  have hB1 : Both G0 W W1 bg bm k (Dk.boxOf w.heap.size #[.int .i64 what, .int .i64 who, .int .i64 num, .int .i64 mm, .int .i64 choice] 30 :: us) := by
    obtain ⟨S, V, ts, hG, h, ok⟩ := Hid.out hB
    exact ⟨S, V, ts, hG, (h.newBox e1).perm List.perm_middle.symm, ok⟩
  have b1 : Dk.Box W1 w.heap.size #[.int .i64 what, .int .i64 who, .int .i64 num, .int .i64 mm, .int .i64 choice] 30 := by rw [e1]; exact Dk.Box.new _ _ _
  have c0 : W1.cell? ⟨w.heap.size, 0, none⟩ = some (.int .i64 what) := b1.cell 0
  have c1 : W1.cell? ⟨w.heap.size, 1, none⟩ = some (.int .i64 who) := b1.cell 1
  have c2 : W1.cell? ⟨w.heap.size, 2, none⟩ = some (.int .i64 num) := b1.cell 2
  have c3 : W1.cell? ⟨w.heap.size, 3, none⟩ = some (.int .i64 mm) := b1.cell 3
  have c4 : W1.cell? ⟨w.heap.size, 4, none⟩ = some (.int .i64 choice) := b1.cell 4
  have K := sem_any I hB1 hk what who num mm choice hwho hch
  have H1 : Hid (w.alloc (.cells #[.int .i64 what, .int .i64 who, .int .i64 num, .int .i64 mm, .int .i64 choice] 30) = W1) := e1.symm
  have z0 : decide (what = 0) = false := decide_eq_false h0
  have y0 : (what == 0) = false := by simpa using h0
  have z1 : decide (what = 1) = false := decide_eq_false h1
  have y1 : (what == 1) = false := by simpa using h1
  have z2 : decide (what = 2) = false := decide_eq_false h2
  have y2 : (what == 2) = false := by simpa using h2
  have z3 : decide (what = 3) = false := decide_eq_false h3
  have y3 : (what == 3) = false := by simpa using h3
  have z4 : decide (what = 4) = false := decide_eq_false h4
  have y4 : (what == 4) = false := by simpa using h4
  clear hB hB1 b1 e1 h0 h1 h2 h3 h4 hwho hch
  go_enter Try.func10, Try.ntmps10
  go_wp2_with (rw [H1.out]; clear H1)
  refine K.mono ?_
  rintro e w2 ⟨rfl, hB2⟩
  clear K c0 c1 c2 c3 c4
  go_wp2_with fail
  go_ret
  obtain ⟨S, V, ts, hG, h, ok⟩ := Hid.out hB2
  exact ⟨rfl, S, V, ts, hG, dropX h, ok⟩
theorem play_any (I : GateI G0) (hB : Both G0 W w bg bm k us) (hk : k ≤ 300) (what who num mm choice : Int) (hwho : Dk.i64 who) (hch : Dk.i64 choice) :
    Calls Try.prog 10 #[.pointer (some ⟨bg, 0, none⟩), .pointer (some ⟨bm, 0, none⟩), .agg #[.int .i64 what, .int .i64 who, .int .i64 num, .int .i64 mm, .int .i64 choice]] w fun e w' => e = .returned (.bool true) ∧ Both G0 W w' bg bm (k + 1) us := by
  by_cases h0 : what = 0
  · obtain ⟨S, V, ts, hG, h, ok⟩ := Hid.out hB
    by_cases hno : num < 0 ∨ (S.owner.length : Int) ≤ num
    · exact play_lock_arg I hG h ok hk what who num mm choice h0 hno
    · obtain ⟨n, rfl⟩ : ∃ n : Nat, num = n := ⟨num.toNat, by omega⟩
      have hn : n < S.owner.length := by omega
      cases hwt : S.waits who
      · by_cases hb : S.held.getD n false = true ∧ S.owner.getD n 0 = who
        · exact play_lock_busy2 I hG h ok hk what who n mm choice h0 hn hwt hb
        · cases hh : S.held.getD n false
          · exact play_lock_yes I hG h ok hk what who n mm choice h0 hn hwho hwt hb hh
          · exact play_lock_wait I hG h ok hk what who n mm choice h0 hn hwho hwt hb hh
      · exact play_lock_busy I hG h ok hk what who n mm choice h0 hn hwt
  by_cases h1 : what = 1
  · obtain ⟨S, V, ts, hG, h, ok⟩ := Hid.out hB
    by_cases hno : num < 0 ∨ (S.owner.length : Int) ≤ num
    · exact play_unlock_arg I hG h ok hk what who num mm choice h1 hno
    · obtain ⟨n, rfl⟩ : ∃ n : Nat, num = n := ⟨num.toNat, by omega⟩
      have hn : n < S.owner.length := by omega
      cases hh : S.held.getD n false
      · exact play_unlock_owner I hG h ok hk what who n mm choice h1 hn hh
      · by_cases ho : S.owner.getD n 0 = who
        · by_cases hl : (S.wait.getD n []).length = 0
          · exact play_unlock_none I hG h ok hk what who n mm choice h1 hn hch hh ho hl
          · exact play_unlock_some I hG h ok hk what who n mm choice h1 hn hch hh ho (by omega)
        · exact play_unlock_owner2 I hG h ok hk what who n mm choice h1 hn hh ho
  by_cases h2 : what = 2
  · obtain ⟨S, V, ts, hG, h, ok⟩ := Hid.out hB
    by_cases hno : num < 0 ∨ (S.conds.length : Int) ≤ num
    · exact play_wait_arg I hG h ok hk what who num mm choice h2 hno
    · obtain ⟨c, rfl⟩ : ∃ n : Nat, num = n := ⟨num.toNat, by omega⟩
      have hc : c < S.conds.length := by omega
      by_cases hno2 : mm < 0 ∨ (S.owner.length : Int) ≤ mm
      · exact play_wait_arg2 I hG h ok hk what who c mm choice h2 hc hno2
      · obtain ⟨n, rfl⟩ : ∃ n : Nat, mm = n := ⟨mm.toNat, by omega⟩
        have hn : n < S.owner.length := by omega
        cases hwt : S.waits who
        · cases hh : S.held.getD n false
          · exact play_wait_owner I hG h ok hk what who c n choice h2 hc hn hwt hh
          · by_cases ho : S.owner.getD n 0 = who
            · by_cases hl : (S.wait.getD n []).length = 0
              · exact play_wait_none I hG h ok hk what who c n choice h2 hc hn hwho hch hwt hh ho hl
              · exact play_wait_some I hG h ok hk what who c n choice h2 hc hn hwho hch hwt hh ho (by omega)
            · exact play_wait_owner2 I hG h ok hk what who c n choice h2 hc hn hwt hh ho
        · exact play_wait_busy I hG h ok hk what who c n choice h2 hc hn hwt
  by_cases h3 : what = 3
  · obtain ⟨S, V, ts, hG, h, ok⟩ := Hid.out hB
    by_cases hno : num < 0 ∨ (S.conds.length : Int) ≤ num
    · exact play_signal3_arg I hG h ok hk what who num mm choice h3 hno
    · obtain ⟨c, rfl⟩ : ∃ n : Nat, num = n := ⟨num.toNat, by omega⟩
      exact play_signal3_ok I hG h ok hk what who c mm choice h3 (by omega) hch
  by_cases h4 : what = 4
  · obtain ⟨S, V, ts, hG, h, ok⟩ := Hid.out hB
    by_cases hno : num < 0 ∨ (S.conds.length : Int) ≤ num
    · exact play_signal4_arg I hG h ok hk what who num mm choice h4 hno
    · obtain ⟨c, rfl⟩ : ∃ n : Nat, num = n := ⟨num.toNat, by omega⟩
      exact play_signal4_ok I hG h ok hk what who c mm choice h4 (by omega) hch
  exact play_sem I hB hk what who num mm choice hwho hch h0 h1 h2 h3 h4
end
end Go.Proofs.Ytjkdaankjondjaa
