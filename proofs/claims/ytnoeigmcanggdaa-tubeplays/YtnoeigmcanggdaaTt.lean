/- The fixed fact of the statements; and what any act leaves. -/
import Derived.Test.YtnoeigmcanggdaaTs
namespace Dk
set_option linter.unusedSimpArgs false
set_option linter.unusedVariables false
set_option linter.unnecessarySimpa false
open Go Go.RowKit
section
variable {P : Go.Program} {S : World → Prop} {Q : Exit → Act → World → Prop}
theorem lineZ_call {z : Nat} {L : List Oper} {j : Nat} {js : List Nat} {a : Act} {w : World} {o : Oper} {f : FuncId} {args : Array Value} (ho : L[j]? = some o) (hg : o.guard = none)
    (hr : (execOp a.eval o).run P w = .ok (.enter f args) w) (hc : Calls P f args w fun e w' => ∃ v, e = .returned v ∧ (j ≠ z → S w') ∧ lineZ P L.toArray Q S z js (a.put o.dst v) w') : lineZ P L.toArray Q S z (j :: js) a w := by
  have hw : Region.wanted o (yielded L.toArray a.tmps) = true := by simp [Region.wanted, hg]
  have ho' : L.toArray[j]? = some o := by simpa using ho
  unfold lineZ wpOp
  simp only [ho', hw, if_true]
  refine .inl ?_
  unfold Oper.wp
  rw [hr]
  simp only [Oper.upon]
  refine Calls.mono hc ?_
  rintro e w' ⟨v, rfl, h⟩
  exact h
end
end Dk
namespace Go.Proofs.Ytnoeigmcanggdaa
set_option linter.unusedSimpArgs false
set_option linter.unusedVariables false
set_option linter.unnecessarySimpa false
open Go.RowKit Go.Lib

theorem word_up {w w' : World} {A : Option Addr} {L C : Nat} {xs : List Nat} (h : Dk.Row 1 0 Dk.IsWord w.heap.size w A L C xs) (u : Below w.heap.size w w') : Dk.Row 1 0 Dk.IsWord w'.heap.size w' A L C xs := (h.below u (Nat.le_refl _) (fun _ _ h => h)).more u.size (fun _ _ h => h)
theorem sli_up {w w' : World} {A : Option Addr} {L C : Nat} {xs : List Int} (h : Dk.SlI w.heap.size w A L C xs) (u : Below w.heap.size w w') : Dk.SlI w'.heap.size w' A L C xs := (h.below u (Nat.le_refl _)).more u.size
theorem lit_word (w w' : World) (x : Nat) (hx : x < 2 ^ 64) (e : w' = w.alloc (.cells #[.int .u64 (x : Nat)] 27)) : Dk.Row 1 0 Dk.IsWord w'.heap.size w' (some ⟨w.heap.size, 0, none⟩) 1 1 [x] := by
  have b6 : Dk.Box w' w.heap.size #[.int .u64 (x : Nat)] 27 := by rw [e]; exact Dk.Box.new _ _ _
  refine ⟨rfl, Nat.le_refl _, by unfold maxLen; omega, fun _ => ⟨_, 0, rfl, b6.lt, fun k hk => ⟨[.int .u64 (x : Nat)], rfl, ?_, fun j hj => ?_⟩⟩⟩
  · obtain rfl : k = 0 := by omega
    exact ⟨rfl, hx⟩
  · obtain rfl : k = 0 := by omega
    obtain rfl : j = 0 := by omega
    exact b6.cell 0

set_option maxHeartbeats 2000000 in
theorem awake_any (w : World) : Calls Try.prog 11 #[] w fun e w' => e = .returned (.bool true) ∧ Below w.heap.size w w' := by
  go_enter Try.func11, Try.ntmps11
  go_wp2_with fail
  refine (New_any (Dk.Sep.begin (Below.refl _ w)) 1).mono ?_
  rintro e w1 ⟨rfl, h1⟩
  have K1 : Calls Try.prog 10 #[.pointer (some ⟨w.heap.size, 0, none⟩), .int .i64 1, .int .u64 5] w1 fun e w' => e = .returned (.tuple #[.bool true, .int .i64 0, .bool false]) ∧ Dk.Tb w w' w.heap.size 1 [5] [] [] [] := Put_room h1 1 5 rfl (by decide) (by decide) (by decide)
  go_wp2_with fail
  refine K1.mono ?_
  rintro e w2 ⟨rfl, h2⟩
  have K2 : Calls Try.prog 10 #[.pointer (some ⟨w.heap.size, 0, none⟩), .int .i64 2, .int .u64 6] w2 fun e w' => e = .returned (.tuple #[.bool false, .int .i64 0, .bool false]) ∧ Dk.Tb w w' w.heap.size 1 [5] [(2, 6)] [] [] := Put_full h2 2 6 rfl ⟨by decide, by decide⟩ (by decide) (by decide) (by decide)
  clear K1 h1
  go_wp2_with fail
  refine K2.mono ?_
  rintro e w3 ⟨rfl, h3⟩
  have K3 : Calls Try.prog 8 #[.pointer (some ⟨w.heap.size, 0, none⟩), .int .i64 3] w3 fun e w' => e = .returned (.tuple #[.int .u64 5, .bool true, .int .i64 2, .bool true]) ∧ Dk.Tb w w' w.heap.size 1 [6] [] [] [] := Get_more h3 3 rfl (by decide)
  clear K2 h2
  go_wp2_with fail
  refine K3.mono ?_
  rintro e w4 ⟨rfl, h4⟩
  have K4 := Words_any h4 (by decide)
  clear K3 h3
  go_wp2_with fail
  refine K4.mono ?_
  rintro e w5 ⟨A, C, rfl, h5, _, HR⟩
  obtain ⟨W6, e6⟩ : ∃ W6, W6 = w5.alloc (.cells #[.int .u64 6] 27) := ⟨_, rfl⟩
  have u6 : Below w5.heap.size w5 W6 := by rw [e6]; exact Dk.up_alloc (Below.refl _ _) _
  have h6 := h5.below u6
  have K5 : Calls Try.prog 12 #[.slice A 1 C, .slice (some ⟨w5.heap.size, 0, none⟩) 1 1] W6 fun e w' => e = .returned (.bool true) ∧ Below W6.heap.size W6 w' := Words_same A _ 1 C 1 [6] W6 (word_up HR.out u6) (lit_word w5 W6 6 (by decide) e6)
  have H6 : Hid (w5.alloc (.cells #[.int .u64 6] 27) = W6) := e6.symm
  clear K4 h4 h5 u6 e6 HR
  go_wp2_with (rw [H6.out]; clear H6)
  refine K5.mono ?_
  rintro e w7 ⟨rfl, u7⟩
  have h7 := h6.below u7
  have K6 := Putters_any h7 (by decide)
  clear K5 h6 u7
  go_wp2_with fail
  refine K6.mono ?_
  rintro e w8 ⟨A', C', rfl, h8, _, _⟩
  have u8 : Hid (Below w.heap.size w w8) := h8.out
  clear K6 h7 h8
  go_wp2_with fail
  go_ret
  exact ⟨rfl, u8.out⟩

/-- What holds of a pipe behind k acts. -/
structure Inv (r k : Nat) (ws : List Nat) (ps : List (Int × Nat)) (gs : List Int) : Prop where
  le : ws.length ≤ r
  put : 0 < ps.length → ws.length = r
  get : 0 < gs.length → ws.length = 0
  lp : ps.length ≤ k
  lg : gs.length ≤ k

section
variable {W w : World} {bt k : Nat} {room : Int} {ws : List Nat} {ps : List (Int × Nat)} {gs : List Int} {us : List Dk.Thing}
theorem most_le (room : Int) : 1 ≤ Dk.most room ∧ Dk.most room ≤ 8 := by
  unfold Dk.most
  split
  · omega
  · split <;> omega
/-- A pipe of which it holds. -/
def Ti (W w : World) (bt : Nat) (room : Int) (k : Nat) (us : List Dk.Thing) : Prop := Hid (∃ ws ps gs, Dk.Tb W w bt room ws ps gs us ∧ Inv (Dk.most room) k ws ps gs)
theorem Put_ti (h : Ti W w bt room k us) (x : Int) (y : Nat) (hx : Dk.i64 x) (hy : y < 2 ^ 64) (hk : k ≤ 900) :
    Calls Try.prog 10 #[.pointer (some ⟨bt, 0, none⟩), .int .i64 x, .int .u64 (y : Nat)] w fun e w' => ∃ b n c, e = .returned (.tuple #[.bool b, .int .i64 n, .bool c]) ∧ Ti W w' bt room (k + 1) us := by
  obtain ⟨ws, ps, gs, t, i⟩ := Hid.out h
  have hm := most_le room
  have := i.le
  have := i.lp
  have := i.lg
  cases hw : Dk.waits ps gs x
  · cases gs with
    | cons g gs =>
      refine (Put_given t x y hw).mono ?_
      rintro e w' ⟨rfl, t'⟩
      exact ⟨_, _, _, rfl, ⟨_, _, _, t', ⟨i.le, i.put, fun _ => i.get (by simp), by omega, by have := i.lg; simp at this; omega⟩⟩⟩
    | nil =>
      by_cases hr : ws.length < Dk.most room
      · refine (Put_room t x y hw hy hr (by omega)).mono ?_
        rintro e w' ⟨rfl, t'⟩
        exact ⟨_, _, _, rfl, ⟨_, _, _, t', ⟨by simp; omega, fun h0 => absurd (i.put h0) (by omega), fun h0 => by simp at h0, by omega, by simp⟩⟩⟩
      · refine (Put_full t x y hw hx hy hr (by omega)).mono ?_
        rintro e w' ⟨rfl, t'⟩
        exact ⟨_, _, _, rfl, ⟨_, _, _, t', ⟨i.le, fun h0 => by omega, fun h0 => by simp at h0, by simp; omega, by simp⟩⟩⟩
  · refine (Put_waits t x y hw).mono ?_
    rintro e w' ⟨rfl, t'⟩
    exact ⟨_, _, _, rfl, ⟨_, _, _, t', ⟨i.le, i.put, i.get, by omega, by omega⟩⟩⟩
theorem Get_ti (h : Ti W w bt room k us) (x : Int) (hx : Dk.i64 x) (hk : k ≤ 900) :
    Calls Try.prog 8 #[.pointer (some ⟨bt, 0, none⟩), .int .i64 x] w fun e w' => ∃ y b n c, e = .returned (.tuple #[.int .u64 y, .bool b, .int .i64 n, .bool c]) ∧ Ti W w' bt room (k + 1) us := by
  obtain ⟨ws, ps, gs, t, i⟩ := Hid.out h
  have hm := most_le room
  have := i.le
  have := i.lp
  have := i.lg
  cases hw : Dk.waits ps gs x
  · cases ws with
    | nil =>
      refine (Get_none t x hw hx (by omega)).mono ?_
      rintro e w' ⟨rfl, t'⟩
      exact ⟨_, _, _, _, rfl, ⟨_, _, _, t', ⟨by simp, i.put, fun _ => rfl, by omega, by simp; omega⟩⟩⟩
    | cons y ws =>
      have hg : gs.length = 0 := by
        cases hz : gs.length with
        | zero => rfl
        | succ n => exact absurd (i.get (by omega)) (by simp)
      simp only [List.length_cons] at this
      have hle := i.le
      simp only [List.length_cons] at hle
      cases ps with
      | nil =>
        refine (Get_one t x hw).mono ?_
        rintro e w' ⟨rfl, t'⟩
        exact ⟨_, _, _, _, rfl, ⟨_, _, _, t', ⟨by omega, fun h0 => by simp at h0, fun h0 => by omega, by simp, by omega⟩⟩⟩
      | cons p ps =>
        obtain ⟨q, z⟩ := p
        have hput := i.put (by simp)
        have hlp := i.lp
        simp only [List.length_cons] at hput hlp
        refine (Get_more t x hw (by omega)).mono ?_
        rintro e w' ⟨rfl, t'⟩
        exact ⟨_, _, _, _, rfl, ⟨_, _, _, t', ⟨by simp; omega, fun h0 => by simp; omega, fun h0 => by omega, by omega, by omega⟩⟩⟩
  · refine (Get_waits t x hw).mono ?_
    rintro e w' ⟨rfl, t'⟩
    exact ⟨_, _, _, _, rfl, ⟨_, _, _, t', ⟨i.le, i.put, i.get, by omega, by omega⟩⟩⟩
end
end Go.Proofs.Ytnoeigmcanggdaa
