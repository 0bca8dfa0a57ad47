/- The walk of the fixed fact. -/
import Derived.Test.YtmkeniobnjpohaaFn
namespace Go.Proofs.Ytmkeniobnjpohaa
set_option linter.unusedSimpArgs false
set_option linter.unusedVariables false
set_option linter.unnecessarySimpa false
open Go.RowKit

theorem row_box {X : World} {b L : Nat} {m : List Nat} {cs : Array Value} {t : TypeId} (h : Dk.Box X b cs t) (hc : cs = Dk.wc m) (hl : m.length = L) (hm : L ≤ maxLen) (hw : ∀ x ∈ m, x < 18446744073709551616) : Dk.Row 1 0 Dk.IsWord X.heap.size X (some ⟨b, 0, none⟩) L L m := by
  subst hc
  refine ⟨hl, Nat.le_refl _, hm, fun _ => ⟨b, 0, rfl, h.lt, fun k hk => ?_⟩⟩
  have hk' : k < m.length := by omega
  refine ⟨[.int .u64 ((m.getD k 0 : Nat) : Nat)], rfl, ⟨rfl, ?_⟩, fun j hj => ?_⟩
  · rw [List.getD_eq_getElem?_getD, List.getElem?_eq_getElem hk']
    exact hw _ (List.getElem_mem hk')
  · obtain rfl : j = 0 := by omega
    rw [h.cell, Nat.zero_add, Nat.mul_one, Nat.add_zero, Dk.wc_cell _ _ hk']
    rfl

def frmA : Dk.Frm := ⟨0, 4, fun k => if k = 1 then 1 else 0⟩
theorem frmA_ok : frmA.ok := ⟨by unfold Dk.i64 frmA; decide, by unfold Dk.i64 frmA; decide, fun k => by unfold frmA; simp only; split <;> decide⟩
theorem ins_ok (op a b c : Int) (n : Nat) (h1 : Dk.i64 op) (h2 : Dk.i64 a) (h3 : Dk.i64 b) (h4 : Dk.i64 c) (h5 : n < 18446744073709551616) : Dk.Ins.ok ⟨op, a, b, c, n⟩ := ⟨h1, h2, h3, h4, h5⟩

theorem plain_store (X : World) (b : Nat) (h : Dk.Box X b #[.int .u64 5, .int .u64 6] 26) :
    Calls Try.prog 12 #[.agg #[.int .i64 0, .int .i64 4, .int .u64 0, .int .u64 1, .int .u64 0, .int .u64 0, .int .u64 0, .int .u64 0, .int .u64 0, .int .u64 0], .agg #[.int .i64 19, .int .i64 1, .int .i64 1, .int .i64 0, .int .u64 0], .slice (some ⟨b, 0, none⟩) 2 2] X fun e w' =>
      ∃ wb, e = .returned (.tuple #[.agg #[.int .i64 0, .int .i64 5, .int .u64 0, .int .u64 1, .int .u64 0, .int .u64 0, .int .u64 0, .int .u64 0, .int .u64 0, .int .u64 0], .slice (some ⟨wb, 0, none⟩) 2 2, .int .i64 0]) ∧ Dk.Box w' wb #[.int .u64 5, .int .u64 1] 26 ∧ Below X.heap.size X w' := by
  have key := Plain_ok frmA ⟨19, 1, 1, 0, 0⟩ (some ⟨b, 0, none⟩) 2 2 [5, 6] X frmA_ok (ins_ok _ _ _ _ _ (by unfold Dk.i64; decide) (by unfold Dk.i64; decide) (by unfold Dk.i64; decide) (by unfold Dk.i64; decide) (by decide)) (by decide) (by decide) (row_box h rfl rfl (by decide) (by decide)) (by omega)
  refine key.mono fun e w' ⟨wb, he, hB, hb⟩ => ⟨wb, ?_, ?_, hb⟩
  · have e1 : Dk.doneF frmA ⟨19, 1, 1, 0, 0⟩ [5, 6] = ⟨0, 5, fun k => if k = 1 then 1 else 0⟩ := by simp [Dk.doneF, Dk.Frm.to, frmA, wrap64]
    rw [he, e1]; rfl
  · exact hB

theorem plain_load (X : World) (b : Nat) (h : Dk.Box X b #[.int .u64 5] 26) :
    Calls Try.prog 12 #[.agg #[.int .i64 0, .int .i64 4, .int .u64 0, .int .u64 1, .int .u64 0, .int .u64 0, .int .u64 0, .int .u64 0, .int .u64 0, .int .u64 0], .agg #[.int .i64 18, .int .i64 1, .int .i64 1, .int .i64 0, .int .u64 0], .slice (some ⟨b, 0, none⟩) 1 1] X fun e w' =>
      e = .returned (.tuple #[.agg #[.int .i64 0, .int .i64 0, .int .u64 0, .int .u64 0, .int .u64 0, .int .u64 0, .int .u64 0, .int .u64 0, .int .u64 0, .int .u64 0], .slice none 0 0, .int .i64 6]) ∧ Below X.heap.size X w' := by
  have key := Plain_fault frmA ⟨18, 1, 1, 0, 0⟩ (some ⟨b, 0, none⟩) 1 1 [5] X (ins_ok _ _ _ _ _ (by unfold Dk.i64; decide) (by unfold Dk.i64; decide) (by unfold Dk.i64; decide) (by unfold Dk.i64; decide) (by decide)) (by decide) (by decide) (row_box h rfl rfl (by decide) (by decide)) (by omega)
  exact key

def prgA : Dk.Prg := ⟨[[⟨24, 0, 0, 0, 0⟩]], 0, 0, 0, [], [], 0, 0⟩
theorem next_yield (X : World) (b c : Nat) (hb : Dk.Box X b #[.int .i64 24, .int .i64 0, .int .i64 0, .int .i64 0, .int .u64 0] 31) (hc : Dk.Box X c #[.slice (some ⟨b, 0, none⟩) 1 1] 34) :
    Calls Try.prog 8 #[.agg #[.slice (some ⟨c, 0, none⟩) 1 1, .int .i64 0, .int .i64 0, .int .i64 0, .slice none 0 0, .slice none 0 0, .int .i64 0, .int .i64 0], .agg #[.int .i64 0, .int .i64 0, .int .u64 0, .int .u64 0, .int .u64 0, .int .u64 0, .int .u64 0, .int .u64 0, .int .u64 0, .int .u64 0]] X fun e w' =>
      e = .returned (.tuple #[.agg #[.int .i64 24, .int .i64 0, .int .i64 0, .int .i64 0, .int .u64 0], .bool true]) ∧ Below X.heap.size X w' := by
  have hN : Dk.SlN X.heap.size X (some ⟨b, 0, none⟩) 1 1 [⟨24, 0, 0, 0, 0⟩] := ⟨rfl, Nat.le_refl _, by decide, by intro x hx; simp at hx; subst hx; exact ins_ok _ _ _ _ _ (by unfold Dk.i64; decide) (by unfold Dk.i64; decide) (by unfold Dk.i64; decide) (by unfold Dk.i64; decide) (by decide), fun _ => ⟨b, 0, rfl, hb.lt, fun k hk => by
    obtain rfl : k = 0 := by omega
    exact ⟨hb.cell 0, hb.cell 1, hb.cell 2, hb.cell 3, hb.cell 4⟩⟩⟩
  have hF : Dk.SlF X.heap.size X (some ⟨c, 0, none⟩) 1 1 [[⟨24, 0, 0, 0, 0⟩]] := ⟨rfl, Nat.le_refl _, by decide, fun _ => ⟨c, 0, rfl, hc.lt, fun k hk => by
    obtain rfl : k = 0 := by omega
    exact ⟨_, _, _, hc.cell 0, hN⟩⟩⟩
  have hI : Dk.SlI X.heap.size X none 0 0 [] := ⟨rfl, Nat.le_refl _, by decide, by simp, fun h0 => absurd h0 (by omega)⟩
  have key := Next_any ⟨some ⟨c, 0, none⟩, 1, 1, none, 0, 0, none, 0, 0⟩ prgA Dk.Frm.zero X ⟨hF, hI, hI, by unfold Dk.i64 prgA; decide, by unfold Dk.i64 prgA; decide, by unfold Dk.i64 prgA; decide, by unfold Dk.i64 prgA; decide, by unfold Dk.i64 prgA; decide⟩
  exact key

set_option maxRecDepth 100000 in
set_option maxHeartbeats 2000000 in
theorem awake_any (w : World) : Calls Try.prog 9 #[] w fun e w' => e = .returned (.bool true) ∧ Below w.heap.size w w' := by
  obtain ⟨X1, e1⟩ : ∃ X1, (w.alloc (.cells #[.int .i64 0, .int .i64 4, .int .u64 0, .int .u64 1, .int .u64 0, .int .u64 0, .int .u64 0, .int .u64 0, .int .u64 0, .int .u64 0] 29)).alloc (.cells #[.int .u64 5, .int .u64 6] 26) = X1 := ⟨_, rfl⟩
  have p1 : Dk.Box X1 w.heap.size #[.int .i64 0, .int .i64 4, .int .u64 0, .int .u64 1, .int .u64 0, .int .u64 0, .int .u64 0, .int .u64 0, .int .u64 0, .int .u64 0] 29 := e1 ▸ (Dk.Box.new _ _ _).old _
  have p2 : Dk.Box X1 (w.heap.size + 1) #[.int .u64 5, .int .u64 6] 26 := by
    have := Dk.Box.new (w.alloc (.cells #[.int .i64 0, .int .i64 4, .int .u64 0, .int .u64 1, .int .u64 0, .int .u64 0, .int .u64 0, .int .u64 0, .int .u64 0, .int .u64 0] 29)) #[.int .u64 5, .int .u64 6] 26
    rw [e1] at this
    simpa only [World.size_alloc] using this
  have u1 : Below w.heap.size w X1 := e1 ▸ Dk.up_alloc (Dk.up_alloc (Below.refl _ _) _) _
  go_enter Try.func9, Try.ntmps9
  go_wp2_with fail
  try rw [e1]
  clear e1
  refine (plain_store X1 (w.heap.size + 1) p2).mono ?_
  rintro e w1 ⟨wb, rfl, q1, v1⟩
  have r1 := p1.up v1
  have u2 := Dk.up_call u1 v1
  have hlt1 := r1.lt
  have hlt2 := q1.lt
  have k1 := r1.cell
  clear p1 p2 u1 v1
  obtain ⟨X2, e2⟩ : ∃ X2, (w1.alloc (.cells #[.int .i64 0, .int .i64 5, .int .u64 0, .int .u64 1, .int .u64 0, .int .u64 0, .int .u64 0, .int .u64 0, .int .u64 0, .int .u64 0] 29)).alloc (.cells #[.int .u64 5] 26) = X2 := ⟨_, rfl⟩
  have p1 : Dk.Box X2 w1.heap.size #[.int .i64 0, .int .i64 5, .int .u64 0, .int .u64 1, .int .u64 0, .int .u64 0, .int .u64 0, .int .u64 0, .int .u64 0, .int .u64 0] 29 := e2 ▸ (Dk.Box.new _ _ _).old _
  have p2 : Dk.Box X2 (w1.heap.size + 1) #[.int .u64 5] 26 := by
    have := Dk.Box.new (w1.alloc (.cells #[.int .i64 0, .int .i64 5, .int .u64 0, .int .u64 1, .int .u64 0, .int .u64 0, .int .u64 0, .int .u64 0, .int .u64 0, .int .u64 0] 29)) #[.int .u64 5] 26
    rw [e2] at this
    simpa only [World.size_alloc] using this
  have p3 : Dk.Box X2 wb #[.int .u64 5, .int .u64 1] 26 := e2 ▸ (q1.old _).old _
  have u3 : Below w.heap.size w X2 := e2 ▸ Dk.up_alloc (Dk.up_alloc u2 _) _
  clear q1 r1 u2
  go_wp2_with fail
  try rw [e2]
  clear e2
  refine (plain_load X2 (w1.heap.size + 1) p2).mono ?_
  rintro e w2 ⟨rfl, v2⟩
  have r1 := p1.up v2
  have r3 := p3.up v2
  have u4 := Dk.up_call u3 v2
  have hlt3 := r1.lt
  have hlt4 := r3.lt
  clear p1 p2 p3 u3 v2
  obtain ⟨X3, e3⟩ : ∃ X3, ((w2.alloc (.cells #[.int .i64 0, .int .i64 0, .int .u64 0, .int .u64 0, .int .u64 0, .int .u64 0, .int .u64 0, .int .u64 0, .int .u64 0, .int .u64 0] 29)).alloc (.cells #[.int .i64 24, .int .i64 0, .int .i64 0, .int .i64 0, .int .u64 0] 31)).alloc (.cells #[.slice (some ⟨w2.heap.size + 1, 0, none⟩) 1 1] 34) = X3 := ⟨_, rfl⟩
  obtain ⟨b1, b2, b3, u5, z5⟩ := Dk.three _ _ _ _ _ _ _ _ e3
  have r1' : Dk.Box X3 w1.heap.size #[.int .i64 0, .int .i64 5, .int .u64 0, .int .u64 1, .int .u64 0, .int .u64 0, .int .u64 0, .int .u64 0, .int .u64 0, .int .u64 0] 29 := e3 ▸ ((r1.old _).old _).old _
  have r3' : Dk.Box X3 wb #[.int .u64 5, .int .u64 1] 26 := e3 ▸ ((r3.old _).old _).old _
  have u6 := Dk.up_call u4 u5
  clear r1 r3 u4 u5 k1
  go_wp2_with fail
  try rw [e3]
  clear e3
  refine (next_yield X3 (w2.heap.size + 1) (w2.heap.size + 1 + 1) b2 b3).mono ?_
  rintro e w3 ⟨rfl, v3⟩
  have m1 := (r1'.up v3).cell
  have m3 := (r3'.up v3).cell
  have n1 := (r1'.up v3).lt
  have n3 := (r3'.up v3).lt
  have u7 := Dk.up_call u6 v3
  clear r1' r3' v3 b1 b2 b3 z5 u6
  go_wp2
  go_ret
  exact ⟨rfl, Dk.up_alloc u7 _⟩

end Go.Proofs.Ytmkeniobnjpohaa
