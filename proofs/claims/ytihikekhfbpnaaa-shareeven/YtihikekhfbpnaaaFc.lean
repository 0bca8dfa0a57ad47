/- What the functions of layer 12 answer: the spaces of a priority, in their order. -/
import Derived.Test.YtihikekhfbpnaaaFb
namespace Dk
set_option linter.unusedSimpArgs false
set_option linter.unusedVariables false
set_option linter.unnecessarySimpa false
open Go Go.RowKit
/-- Spaces as numbers. -/
abbrev nats (row : List Nat) : List Value := row.map fun x => Value.int .i64 (x : Nat)
/-- A slice of spaces, whatever is written to block r. -/
def Keeps (r : Nat) (w : World) (A : Option Addr) (C : Nat) (row : List Nat) : Prop :=
  row.length ≤ C ∧ C ≤ maxLen ∧ (0 < row.length → ∃ b, A = some ⟨b, 0, none⟩ ∧ ∀ w', w.grownBy w' (some r) → b < w'.heap.size ∧ ∀ k, k < row.length → w'.cell? ⟨b, k, none⟩ = some (.int .i64 ((row.getD k 0 : Nat) : Int)))
theorem Keeps.of {w : World} {base r : Nat} {e : TypeId} {v : Value} {row : List Nat} (h : w.ownsRow base e 1 v row.length (nats row)) (hr : r < base) : ∃ A C, v = .slice A row.length C ∧ Keeps r w A C row := by
  obtain ⟨_, h' | ⟨g, cap, cur, rfl, hb, hg, hc, hm, hs', ht⟩⟩ := id h
  · obtain ⟨rfl, h0⟩ := h'
    refine ⟨none, 0, by rw [h0], by omega, by unfold maxLen; omega, fun h => absurd h (by omega)⟩
  · refine ⟨_, cap, rfl, hc, hm, fun h0 => ⟨g, rfl, fun w' hg' => ?_⟩⟩
    have hbx : Box w g cur e := ⟨hg⟩
    have hbx' : Box w' g cur e := hbx.far hg' (by omega)
    refine ⟨hbx'.lt, fun k hk => ?_⟩
    rw [hbx'.cell]
    have h1 : (cur.toList.take (row.length * 1))[k]? = cur.toList[k]? := by rw [List.getElem?_take, if_pos (by omega)]
    rw [ht] at h1
    rw [← Array.getElem?_toList, ← h1]
    simp [List.getD, hk]
theorem Keeps.none (r : Nat) (w : World) : Keeps r w none 0 [] := ⟨Nat.le_refl _, by unfold maxLen; omega, fun h => absurd h (by simp)⟩
end Dk
namespace Go.Proofs.Ytihikekhfbpnaaa
set_option linter.unusedSimpArgs false
set_option linter.unusedVariables false
set_option linter.unnecessarySimpa false
open Go.RowKit

theorem info3 : (Try.prog.info? 3).map (fun i => (i.zero, i.size, i.bytes)) = some (some (.int .i64 0), 1, 8) := by kernel_rfl
/-- One cell in a new block. -/
theorem one_new (w w' : World) (v : Value) (t : TypeId) (e : w' = w.alloc (.cells #[v] t)) : ∀ (j : Nat) (u : Value), [v][j]? = some u → w'.cell? ((⟨w.heap.size, 0, none⟩ : Addr).add j) = some u := by
  intro j u hj
  match j, hj with
  | 0, hj =>
    simp at hj
    subst hj
    subst e
    have := (Dk.Box.new w #[v] t).cell 0
    simpa [Addr.add] using this

set_option maxHeartbeats 1000000 in
/-- The spaces of a priority, in their order. -/
theorem alike_any (q : Int) (hq : Dk.i64 q) (turn : Int) (ht : Dk.i64 turn) (A : Option Addr) (n C : Nat) (xs : List Int) (h8 : n ≤ 8) (r : Nat) (w : World) (hr : r < w.heap.size)
    (h : Dk.SlI w.heap.size w A n C xs) : Calls Try.prog 13 #[.int .i64 q, .slice A n C, .int .i64 turn] w fun e w' =>
      ∃ A' C', e = .returned (.slice A' (Dk.prow xs (Dk.turnOf turn n) q n).length C') ∧ Dk.Keeps r w' A' C' (Dk.prow xs (Dk.turnOf turn n) q n) ∧ Below w.heap.size w w' := by
  have hl := h.len
  obtain ⟨f, ef⟩ : ∃ f, Dk.turnOf turn n = f := ⟨_, rfl⟩
  have K := fun i hn w => rest_any turn ht n i hn h8 w
  rw [ef] at K ⊢
  clear ef
  obtain ⟨i0, hi, hz0, hz1, hz2⟩ := info_parts info3
  obtain ⟨hq1, hq2⟩ := hq
  go_enter Try.func13, Try.ntmps13
  go_wp2
  go_loopw [7, 12] (fun v i w' => ∃ k : Nat, k ≤ n ∧ i = .int .i64 k ∧ w'.ownsRow w.heap.size 3 1 v (Dk.prow xs f q k).length (Dk.nats (Dk.prow xs f q k)) ∧ Hid (Below w.heap.size w w')) (fun v i w' => n - (intOf i).toNat)
  case atStart => exact ⟨0, Nat.zero_le _, rfl, World.ownsRow_nil _ _ _ _, Below.refl _ _⟩
  case round =>
    obtain ⟨k, hk, rfl, hown, HB⟩ := hrel
    by_cases hlt : k < n
    · obtain ⟨b, o, rfl, hb, hc⟩ := h.cells (by omega)
      have hm := Dk.nth_lt (f := f) (n := n) k (by omega)
      obtain ⟨m, em⟩ : ∃ m, Dk.nth f n k = m := ⟨_, rfl⟩
      have K1 := K k hlt
      rw [em] at K1 hm
      have c1 : wr.cell? ⟨b, o + m, none⟩ = some (.int .i64 (xs.getD m 0)) := by rw [HB.out.cell (by show b < w.heap.size; exact hb)]; exact hc m hm
      have hul := Dk.prow_len xs f q k
      have em' : Dk.nth f xs.length k = m := by rw [hl]; exact em
      clear hc h em
      by_cases hu : xs.getD m 0 = q
      · have HUF : Hid (Dk.prow xs f q (k + 1) = Dk.prow xs f q k ++ [m]) := by
          have := Dk.prow_yes (p := xs) (f := f) (k := k) (q := q) (by rw [em']; exact hu)
          rw [em'] at this
          exact this
        rw [hu] at c1
        have y : (q == q) = true := by simp
        clear hu em'
        go_wp2_with (first | (go_at_call 14; refine (K1 _).mono ?_; rintro e w' ⟨rfl, hw'⟩; subst w') | (at_builtin; refine wpList_append_own _ rfl _ _ 22 rfl w.heap.size 3 i0 (.int .i64 0) 1 8 Try.underlying22 hi hz0 hz1 hz2 rfl (by decide) _ _ _ rfl (hown.alloc _) ⟨wr.heap.size, 0, none⟩ 1 1 [.int .i64 (m : Int)] rfl rfl ?c1 ?c2 ?c3 ?c4 ?c5 ?_))
        case c1 => exact one_new wr _ (.int .i64 (m : Int)) 3 rfl
        case c2 => intro u hu; simp at hu; subst hu; rfl
        case c3 => unfold maxLen; omega
        case c4 => omega
        case c5 => have := HB.out.size; simp; omega
        · intro v' w1 hown' hgrow _
          clear c1 K1
          go_wp2
          go_roundw
          case rel =>
            refine ⟨k + 1, by omega, by go_num, ?_, ?_⟩
            · rw [HUF.out, List.length_append, Dk.nats, List.map_append]
              exact hown'
            · exact HB.out.trans ((Dk.up_alloc (Below.refl _ _) _ : Below wr.heap.size wr _) |>.mono HB.out.size |>.grown hgrow (by have := HB.out.size; simp; omega) (fun q hq => (hown.lt q hq).1))
          case measure => simp [intOf]; omega
      · have HUF : Hid (Dk.prow xs f q (k + 1) = Dk.prow xs f q k) := Dk.prow_no (p := xs) (f := f) (k := k) (q := q) (by rw [em']; exact hu)
        have y : (xs.getD m 0 == q) = false := by simpa using hu
        obtain ⟨x, ex⟩ : ∃ x, xs.getD m 0 = x := ⟨_, rfl⟩
        rw [ex] at y c1
        clear hu em' ex
        go_wp2_with (go_at_call 14; refine (K1 _).mono ?_; rintro e w' ⟨rfl, hw'⟩; subst w')
        go_roundw
        case rel => exact ⟨k + 1, by omega, by go_num, by rw [HUF.out]; exact hown, HB.out⟩
        case measure => simp [intOf]; omega
    · have hke : k = n := by omega
      go_wp2
      subst hke
      obtain ⟨A', C', rfl, hS⟩ := Dk.Keeps.of hown hr
      go_ret
      exact ⟨A', C', rfl, hS, HB.out⟩
end Go.Proofs.Ytihikekhfbpnaaa
