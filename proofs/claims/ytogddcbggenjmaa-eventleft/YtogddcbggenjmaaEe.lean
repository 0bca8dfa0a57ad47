/- Layer 14: that events are alike; the fixed fact of the statements. -/
import Derived.Test.YtogddcbggenjmaaEd
import Derived.ChangeKeysEq
namespace Dk
set_option linter.unusedSimpArgs false
set_option linter.unusedVariables false
set_option linter.unnecessarySimpa false
open Go Go.RowKit
theorem sli_up {w w' : World} {A : Option Addr} {L C : Nat} {xs : List Int} (h : SlI w.heap.size w A L C xs) (u : Below w.heap.size w w') : SlI w'.heap.size w' A L C xs := (h.below u (Nat.le_refl _)).more u.size
theorem Sep.asInts {W w : World} {ts : List Thing} {e : TypeId} {v : Value} {n : Nat} {xs : List Int} (h : Sep W w ts) (ht : rowOf e 1 v n (is xs) ∈ ts) (hn : xs.length = n) (hx : ∀ x ∈ xs, i64 x) : ∃ A C, v = .slice A n C ∧ SlI w.heap.size w A n C xs := by
  subst hn
  exact owns_ints (h.row ht) hx
theorem Sep.asEvs {W w : World} {ts : List Thing} {e : TypeId} {v : Value} {n : Nat} {xs : List Ev} (h : Sep W w ts) (ht : rowOf e 3 v n (evs xs) ∈ ts) (hn : xs.length = n) (hx : ∀ x ∈ xs, x.ok) : ∃ A C, v = .slice A n C ∧ SlE w.heap.size w A n C xs := owns_evs (h.row ht) hn hx
/-- A list that is typed out. -/
theorem Sep.lit {W w w' : World} {us : List Thing} {e : TypeId} {s n : Nat} {cs : Array Value} {xs : List Value} (h : Sep W w us) (ew : w' = w.alloc (.cells cs e)) (hcs : cs.toList = xs) (hn : cs.size = n * s) (hm : n ≤ 1000) : Sep W w' (rowOf e s (.slice (some ⟨w.heap.size, 0, none⟩) n n) n xs :: us) := by
  subst ew hcs
  refine h.add (Dk.up_alloc (Below.refl _ _) _) ?_ (fun k hk => by simp [rowOf, Value.ownBlock] at hk; omega)
  exact World.ownsRow_lit w cs n (Nat.zero_le _) (by unfold maxLen; omega) hn
theorem tellL_ok {p : Ev → Bool} {es : List Ev} (h : ∀ e ∈ es, e.ok) : ∀ x ∈ tellL p es, i64 x := fun x hx => by
  unfold tellL at hx
  obtain ⟨e, he, rfl⟩ := List.mem_map.1 hx
  exact (h e ((List.mem_filter.1 he).1)).2.1
theorem keepL_ok {es : List Ev} (h : ∀ e ∈ es, e.ok) : ∀ e ∈ keepL es, e.ok := fun e he => h e ((List.mem_filter.1 he).1)
end Dk
namespace Go.Proofs.Ytogddcbggenjmaa
set_option linter.unusedSimpArgs false
set_option linter.unusedVariables false
set_option linter.unnecessarySimpa false
open Go.RowKit Go.Lib
set_option maxRecDepth 100000 in
theorem same_ev (d : Nat) (r1 r2 r3 : Int) (w : World) : (Op.equalIn (d + 2) 25 (.agg #[.int .i64 r1, .int .i64 r2, .int .i64 r3]) (.agg #[.int .i64 r1, .int .i64 r2, .int .i64 r3])).run Try.prog w = .ok true w := by
  rw [run_equalIn_agg w (d + 1) 25 _ _ (by kernel_rfl) (by kernel_rfl)]
  simp [go_sem, part]
set_option maxRecDepth 100000 in
set_option maxHeartbeats 1000000 in
theorem Events_same (A A' : Option Addr) (L C C' : Nat) (es : List Dk.Ev) (w : World) (h : Dk.SlE w.heap.size w A L C es) (h' : Dk.SlE w.heap.size w A' L C' es) :
    Calls Try.prog 13 #[.slice A L C, .slice A' L C'] w fun e w' => e = .returned (.bool true) ∧ Below w.heap.size w w' := by
  have hcap := h.cap
  have hmax := h.max
  unfold maxLen at hmax
  go_enter Try.func13, Try.ntmps13
  go_wp2
  go_loopw [5] (fun i w' => ∃ k : Nat, k ≤ L ∧ i = .int .i64 k ∧ Hid (Below w.heap.size w w')) (fun i w' => L - (intOf i).toNat)
  case atStart => exact ⟨0, Nat.zero_le _, rfl, Below.refl _ _⟩
  case round =>
    obtain ⟨k, hk, rfl, HB⟩ := hrel
    by_cases hlt : k < L
    · obtain ⟨b, o, rfl, hb, _, k0, k1, k2⟩ := h.at hlt
      obtain ⟨b', o', rfl, hb', _, k0', k1', k2'⟩ := h'.at hlt
      generalize es.getD k Dk.Ev.zero = x at k0 k1 k2 k0' k1' k2'
      obtain ⟨r1, r2, r3⟩ := x
      have a0 : wr.cell? ⟨b, o + k * 3, none⟩ = some (.int .i64 r1) := by rw [HB.out.cell (by exact hb)]; exact k0
      have a1 : wr.cell? ⟨b, o + k * 3 + 1, none⟩ = some (.int .i64 r2) := by rw [HB.out.cell (by exact hb)]; exact k1
      have a2 : wr.cell? ⟨b, o + k * 3 + 2, none⟩ = some (.int .i64 r3) := by rw [HB.out.cell (by exact hb)]; exact k2
      have b0 : wr.cell? ⟨b', o' + k * 3, none⟩ = some (.int .i64 r1) := by rw [HB.out.cell (by exact hb')]; exact k0'
      have b1 : wr.cell? ⟨b', o' + k * 3 + 1, none⟩ = some (.int .i64 r2) := by rw [HB.out.cell (by exact hb')]; exact k1'
      have b2 : wr.cell? ⟨b', o' + k * 3 + 2, none⟩ = some (.int .i64 r3) := by rw [HB.out.cell (by exact hb')]; exact k2'
      have hsame : ∀ w, (Op.equalIn 10000 25 (.agg #[.int .i64 r1, .int .i64 r2, .int .i64 r3]) (.agg #[.int .i64 r1, .int .i64 r2, .int .i64 r3])).run Try.prog w = .ok true w := same_ev 9998 _ _ _
      clear k0 k1 k2 k0' k1' k2' h h'
      go_wp2
      go_quiet (fail)
      go_wp2
      go_roundw
      case rel => exact ⟨k + 1, by omega, by go_num, Dk.up_drewN HB.out nq⟩
      case measure => simp [intOf]; omega
    · go_wp2
      go_ret
      exact ⟨rfl, HB.out⟩

def es0 : List Dk.Ev := [⟨1, -1, 0⟩, ⟨3, 3, 0⟩, ⟨4, 4, 7⟩, ⟨4, 5, 0⟩]
theorem es0_ok : ∀ e ∈ es0, e.ok := by
  intro e he
  simp [es0] at he
  rcases he with rfl | rfl | rfl | rfl <;> exact ⟨⟨by decide, by decide⟩, ⟨by decide, by decide⟩, ⟨by decide, by decide⟩⟩
set_option maxRecDepth 100000 in
set_option maxHeartbeats 2000000 in
theorem awake_any (w : World) : Calls Try.prog 9 #[] w fun e w' => e = .returned (.bool true) ∧ Below w.heap.size w w' := by
  obtain ⟨W1, e1⟩ : ∃ W1, W1 = w.alloc (.cells #[.int .i64 1, .int .i64 (-1), .int .i64 0, .int .i64 3, .int .i64 3, .int .i64 0, .int .i64 4, .int .i64 4, .int .i64 7, .int .i64 4, .int .i64 5, .int .i64 0] 25) := ⟨_, rfl⟩
  have S1 := Dk.Sep.lit (n := 4) (s := 3) (xs := Dk.evs es0) (Dk.Sep.begin (Below.refl w.heap.size w)) e1 rfl rfl (by decide)
  obtain ⟨_, _, ev, E1⟩ := S1.asEvs (List.mem_cons_self ..) rfl es0_ok
  cases ev
  have H1 : Hid (w.alloc (.cells #[.int .i64 1, .int .i64 (-1), .int .i64 0, .int .i64 3, .int .i64 3, .int .i64 0, .int .i64 4, .int .i64 4, .int .i64 7, .int .i64 4, .int .i64 5, .int .i64 0] 25) = W1) := e1.symm
  have u1 := S1.out
  have K1 := Within_yes (k := 2) E1 (by decide) (by decide) (by decide)
  rw [show es0.getD 2 Dk.Ev.zero = ⟨4, 4, 7⟩ from rfl] at K1
  have E1 : Hid _ := E1
  have u1 : Hid _ := u1
  clear e1 S1
  go_enter Try.func9, Try.ntmps9
  go_wp2_with (rw [H1.out]; clear H1)
  refine K1.mono ?_
  rintro e w2 ⟨B, D, rfl, s2⟩
  have u2 : Hid _ := Dk.up_call u1.out s2.out
  have E2 : Hid _ := E1.out.up s2.out
  clear K1 s2 u1 E1
  obtain ⟨W3, e3⟩ : ∃ W3, W3 = w2.alloc (.cells #[.int .i64 4, .int .i64 4, .int .i64 7] 25) := ⟨_, rfl⟩
  have v3 : Below w2.heap.size w2 W3 := by rw [e3]; exact Dk.up_alloc (Below.refl _ _) _
  have u3 : Hid _ := Dk.up_call u2.out v3
  have E3 : Hid _ := E2.out.up v3
  have c3 : W3.cell? ⟨w2.heap.size, 1, none⟩ = some (.int .i64 4) := by rw [e3]; exact (Dk.Box.new _ _ _).cell 1
  have H3 : Hid (w2.alloc (.cells #[.int .i64 4, .int .i64 4, .int .i64 7] 25) = W3) := e3.symm
  clear e3 v3 u2 E2
  have KR := Ready_any E3.out (by decide)
  rw [show Dk.tellL Dk.Ev.runs es0 = [3, 5] from by decide] at KR
  go_wp2_with (rw [H3.out]; clear H3)
  refine KR.mono ?_
  rintro e w4 ⟨v, rfl, s4⟩
  have u4 : Hid _ := Dk.up_call u3.out s4.out
  have E4 : Hid _ := E3.out.up s4.out
  obtain ⟨W5, e5⟩ : ∃ W, W = w4.alloc (.cells #[.int .i64 3, .int .i64 5] 3) := ⟨_, rfl⟩
  have s5 := Dk.Sep.lit (n := 2) (s := 1) (xs := Dk.is [3, 5]) s4 e5 rfl rfl (by decide)
  have v5 : Below w4.heap.size w4 W5 := by rw [e5]; exact Dk.up_alloc (Below.refl _ _) _
  have u5 : Hid _ := Dk.up_call u4.out v5
  have E5 : Hid _ := E4.out.up v5
  obtain ⟨A4, C4, rfl, q4⟩ := s5.asInts (n := 2) (v := v) (xs := [3, 5]) (List.mem_cons_of_mem _ (List.mem_cons_self ..)) rfl (by intro x hx; simp at hx; unfold Dk.i64; omega)
  obtain ⟨_, _, ev, r4⟩ := s5.asInts (n := 2) (xs := [3, 5]) (List.mem_cons_self ..) rfl (by intro x hx; simp at hx; unfold Dk.i64; omega)
  cases ev
  have KI := Ints_same _ _ 2 _ _ [3, 5] W5 q4 r4
  have H5 : Hid (w4.alloc (.cells #[.int .i64 3, .int .i64 5] 3) = W5) := e5.symm
  clear KR s4 e5 s5 v5 q4 r4 u4 E4
  go_wp2_with (rw [H5.out]; clear H5)
  refine KI.mono ?_
  rintro e w6 ⟨rfl, v6⟩
  have u6 : Hid _ := Dk.up_call u5.out v6
  have E6 : Hid _ := E5.out.up v6
  clear KI v6 u5 E5
  have KR := Threads_any E6.out (by decide)
  rw [show Dk.tellL Dk.Ev.has es0 = [3, 4, 5] from by decide] at KR
  go_wp2_with fail
  refine KR.mono ?_
  rintro e w7 ⟨v, rfl, s7⟩
  have u7 : Hid _ := Dk.up_call u6.out s7.out
  have E7 : Hid _ := E6.out.up s7.out
  obtain ⟨W8, e8⟩ : ∃ W, W = w7.alloc (.cells #[.int .i64 3, .int .i64 4, .int .i64 5] 3) := ⟨_, rfl⟩
  have s8 := Dk.Sep.lit (n := 3) (s := 1) (xs := Dk.is [3, 4, 5]) s7 e8 rfl rfl (by decide)
  have v8 : Below w7.heap.size w7 W8 := by rw [e8]; exact Dk.up_alloc (Below.refl _ _) _
  have u8 : Hid _ := Dk.up_call u7.out v8
  have E8 : Hid _ := E7.out.up v8
  obtain ⟨A7, C7, rfl, q7⟩ := s8.asInts (n := 3) (v := v) (xs := [3, 4, 5]) (List.mem_cons_of_mem _ (List.mem_cons_self ..)) rfl (by intro x hx; simp at hx; unfold Dk.i64; omega)
  obtain ⟨_, _, ev, r7⟩ := s8.asInts (n := 3) (xs := [3, 4, 5]) (List.mem_cons_self ..) rfl (by intro x hx; simp at hx; unfold Dk.i64; omega)
  cases ev
  have KI := Ints_same _ _ 3 _ _ [3, 4, 5] W8 q7 r7
  have H8 : Hid (w7.alloc (.cells #[.int .i64 3, .int .i64 4, .int .i64 5] 3) = W8) := e8.symm
  clear KR s7 e8 s8 v8 q7 r7 u7 E7
  go_wp2_with (rw [H8.out]; clear H8)
  refine KI.mono ?_
  rintro e w9 ⟨rfl, v9⟩
  have u9 : Hid _ := Dk.up_call u8.out v9
  have E9 : Hid _ := E8.out.up v9
  clear KI v9 u8 E8
  have KK := Keep_any E9.out (by decide)
  rw [show (Dk.keepL es0).length = 3 from by decide] at KK
  go_wp2_with fail
  refine KK.mono ?_
  rintro e wa ⟨v, rfl, sa⟩
  have ua : Hid _ := Dk.up_call u9.out sa.out
  have Ea : Hid _ := E9.out.up sa.out
  obtain ⟨Aa, Ca, rfl, _, _⟩ := Dk.owns_slice (sa.row (List.mem_cons_self ..))
  have KJ := Join_any Ea.out Ea.out (by decide)
  clear KK sa u9 E9
  go_wp2_with fail
  refine KJ.mono ?_
  rintro e wb ⟨B, D, rfl, sb⟩
  have ub : Hid _ := Dk.up_call ua.out sb.out
  clear KJ sb ua Ea
  go_wp2
  go_ret
  exact ⟨rfl, ub.out⟩
end Go.Proofs.Ytogddcbggenjmaa
