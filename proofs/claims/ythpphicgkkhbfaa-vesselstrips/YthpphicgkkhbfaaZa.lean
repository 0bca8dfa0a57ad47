/- Layer 15: vessels: which thread one runs, whether it is within a section, what is left of it. -/
import Derived.Test.YthpphicgkkhbfaaEe
namespace Dk
set_option linter.unusedSimpArgs false
set_option linter.unusedVariables false
set_option linter.unnecessarySimpa false
open Go Go.RowKit
def holdsV (m : Int) : Bool := m == 2 || m == 4 || m == 7
def runsV (m t : Int) : Bool := (m == 5 || m == 6 || m == 7) && decide (0 ≤ t)
/-- What is told of the vessel itself. -/
def tellV (h r : Bool) (m t : Int) : Ev := ⟨4, if r then t else -1, if h then m else 0⟩
def ownV (h r : Bool) (m t : Int) : List Ev := if h || r then [tellV h r m t] else []
def takenV (m t : Int) : List Ev := ownV (holdsV m) (runsV m t) m t
def stripV (m t : Int) (es : List Ev) : List Ev := takenV m t ++ keepL es
abbrev vv (m t : Int) (A : Option Addr) (L C : Nat) : Value := .agg #[.int .i64 m, .int .i64 t, .slice A L C]
theorem ownV_len (h r : Bool) (m t : Int) : (ownV h r m t).length ≤ 1 := by unfold ownV; split <;> simp
theorem takenV_len (m t : Int) : (takenV m t).length ≤ 1 := ownV_len _ _ _ _
theorem stripV_len (m t : Int) (es : List Ev) : (stripV m t es).length ≤ es.length + 1 := by
  unfold stripV
  rw [List.length_append]
  have := takenV_len m t
  have := keepL_len es
  omega
theorem tellV_ok {h r : Bool} {m t : Int} (hm : i64 m) (ht : i64 t) : (tellV h r m t).ok := by
  unfold tellV Ev.ok i64 at *
  cases h <;> cases r <;> simp <;> omega
theorem takenV_ok {m t : Int} (hm : i64 m) (ht : i64 t) : ∀ e ∈ takenV m t, e.ok := by
  intro e he
  unfold takenV ownV at he
  split at he
  · obtain rfl := List.mem_singleton.1 he
    exact tellV_ok hm ht
  · cases he
theorem stripV_ok {m t : Int} {es : List Ev} (hm : i64 m) (ht : i64 t) (h : ∀ e ∈ es, e.ok) : ∀ e ∈ stripV m t es, e.ok := by
  intro e he
  rcases List.mem_append.1 he with he | he
  · exact takenV_ok hm ht e he
  · exact keepL_ok h e he
set_option maxRecDepth 100000 in
theorem modes (m : Int) : m = 2 ∨ m = 4 ∨ m = 5 ∨ m = 6 ∨ m = 7 ∨ ((m == 2) = false ∧ (m == 4) = false ∧ (m == 5) = false ∧ (m == 6) = false ∧ (m == 7) = false) := by
  by_cases h2 : m = 2
  · exact .inl h2
  by_cases h4 : m = 4
  · exact .inr (.inl h4)
  by_cases h5 : m = 5
  · exact .inr (.inr (.inl h5))
  by_cases h6 : m = 6
  · exact .inr (.inr (.inr (.inl h6)))
  by_cases h7 : m = 7
  · exact .inr (.inr (.inr (.inr (.inl h7))))
  exact .inr (.inr (.inr (.inr (.inr (by simp [h2, h4, h5, h6, h7])))))
end Dk
namespace Go.Proofs.Ythpphicgkkhbfaa
set_option linter.unusedSimpArgs false
set_option linter.unusedVariables false
set_option linter.unnecessarySimpa false
open Go.RowKit Go.Lib
theorem vv_cells (a b : Int) (A : Option Addr) (L C : Nat) : (#[.int .i64 a, .int .i64 b, .slice A L C] : Array Value).all (·.oneCell') = true := by simp [Value.oneCell']
set_option maxRecDepth 100000 in
theorem vv_size : (Try.prog.info? 24).map (·.size) = some 3 := by kernel_rfl
set_option maxRecDepth 100000 in
set_option maxHeartbeats 1000000 in
theorem VHolds_any (m t : Int) (A : Option Addr) (L C : Nat) (w : World) : Calls Try.prog 12 #[Dk.vv m t A L C] w fun x w' => x = .returned (.bool (Dk.holdsV m)) ∧ Below w.heap.size w w' := by
  go_enter Try.func12, Try.ntmps12
  rcases Dk.modes m with rfl | rfl | rfl | rfl | rfl | ⟨h2, h4, h5, h6, h7⟩
  all_goals (go_wp2; go_ret; refine ⟨?_, Dk.up_alloc (Below.refl _ _) _⟩; first | rfl | simp [Dk.holdsV, *])
set_option maxRecDepth 100000 in
set_option maxHeartbeats 1000000 in
theorem VRuns_any (m t : Int) (A : Option Addr) (L C : Nat) (w : World) : Calls Try.prog 11 #[Dk.vv m t A L C] w fun x w' => x = .returned (.tuple #[.int .i64 (if Dk.runsV m t then t else 0), .bool (Dk.runsV m t)]) ∧ Below w.heap.size w w' := by
  obtain ⟨x, hx⟩ : ∃ x, (if Dk.runsV m t = true then t else 0) = x := ⟨_, rfl⟩
  obtain ⟨y, hy⟩ : ∃ x, Dk.runsV m t = x := ⟨_, rfl⟩
  rw [hx, hy]
  have HX : Hid _ := hx
  have HY : Hid _ := hy
  clear hx hy
  go_enter Try.func11, Try.ntmps11
  by_cases ht : 0 ≤ t
  all_goals rcases Dk.modes m with rfl | rfl | rfl | rfl | rfl | ⟨h2, h4, h5, h6, h7⟩
  all_goals (go_wp2; go_ret2; refine ⟨?_, Dk.up_alloc (Below.refl _ _) _⟩; rw [← HX.out, ← HY.out]; simp [Dk.runsV, *] <;> omega)
set_option maxRecDepth 100000 in
set_option maxHeartbeats 2000000 in
theorem New_v {A : Option Addr} {L C : Nat} {es : List Dk.Ev} {w : World} (hE : Dk.SlE w.heap.size w A L C es) (hL : L ≤ 5864062014805) :
    Calls Try.prog 14 #[.slice A L C] w fun e w' => ∃ B D, e = .returned (Dk.vv 1 (-1) B L D) ∧ Dk.Sep w w' [Dk.rowOf 36 3 (.slice B L D) L (Dk.evs es)] := by
  obtain ⟨W1, e1⟩ : ∃ W, W = w.alloc (.cells #[.int .i64 0, .int .i64 0, .slice none 0 0] 24) := ⟨_, rfl⟩
  have s1 := (Dk.Sep.begin (Below.refl w.heap.size w)).newBox e1
  have E1 := hE.up s1.out
  have K := Join_any (A' := none) (L' := 0) (C' := 0) (es' := []) E1 (Dk.SlE.none_ rfl (Nat.zero_le _)) (by omega)
  rw [List.append_nil, Nat.add_zero] at K
  have H1 : Hid (w.alloc (.cells #[.int .i64 0, .int .i64 0, .slice none 0 0] 24) = W1) := e1.symm
  clear e1 E1 hE
  go_enter Try.func14, Try.ntmps14
  go_wp2_with (rw [H1.out]; clear H1)
  refine K.mono ?_
  rintro e w2 ⟨B, D, rfl, s2⟩
  have s3 := s1.onto s2
  obtain ⟨cs, hcs⟩ : ∃ cs : Array Value, cs = #[.int .i64 1, .int .i64 (-1), .slice B L D] := ⟨_, rfl⟩
  have b2 : Dk.Box w2 w.heap.size #[.int .i64 0, .int .i64 0, .slice none 0 0] 24 := s3.box (by simp)
  have HB2 : Hid _ := b2
  have s4 := Dk.Sep.setRow (us1 := [_]) s3 #[.int .i64 1, .int .i64 (-1), .slice B L D]
  obtain ⟨W4, e4⟩ : ∃ W, W = w2.setRow w.heap.size #[.int .i64 1, .int .i64 (-1), .slice B L D] := ⟨_, rfl⟩
  rw [← e4] at s4
  have b4 : Dk.Box W4 w.heap.size #[.int .i64 1, .int .i64 (-1), .slice B L D] 24 := s4.box (by simp)
  have c0 : W4.cell? ⟨w.heap.size, 0, none⟩ = some (.int .i64 1) := b4.cell 0
  have c1 : W4.cell? ⟨w.heap.size, 1, none⟩ = some (.int .i64 (-1)) := b4.cell 1
  have c2 : W4.cell? ⟨w.heap.size, 2, none⟩ = some (.slice B L D) := b4.cell 2
  have HB4 : Hid _ := b4
  have HS : Hid (Dk.Sep w W4 [Dk.rowOf 36 3 (.slice B L D) L (Dk.evs es)]) := s4.sub (by simp)
  have H4 : Hid (w2.setRow w.heap.size #[.int .i64 1, .int .i64 (-1), .slice B L D] = W4) := e4.symm
  clear hcs cs b2 s3 s4 e4 b4 s1 s2 K
  go_wp2_with (refine wpList_store_row rfl 24 _ _ rfl w.heap.size #[.int .i64 1, .int .i64 (-1), .slice B L D] rfl rfl 24 _ HB2.out.heap vv_size rfl (vv_cells _ _ _ _ _) ?_; rw [H4.out]; clear HB2 H4)
  (try simp only [Exit.inBlock, Exit.then])
  refine bodyPost_ret (results_cell_row rfl _ _ w.heap.size 24 #[.int .i64 1, .int .i64 (-1), .slice B L D] (0, 0) _ rfl HB4.out.heap Try.underlying24 rfl vv_size) rfl ?_
  exact ⟨_, _, rfl, HS.out⟩
end Go.Proofs.Ythpphicgkkhbfaa
