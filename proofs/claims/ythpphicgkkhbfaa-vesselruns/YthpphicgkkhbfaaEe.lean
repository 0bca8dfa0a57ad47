/- Layer 14: that events are alike; the fixed fact of the statements. -/
import Derived.Test.YthpphicgkkhbfaaEd
import Derived.ChangeKeysEq
namespace Dk
set_option linter.unusedSimpArgs false
set_option linter.unusedVariables false
set_option linter.unnecessarySimpa false
open Go Go.RowKit
theorem sli_up {w w' : World} {A : Option Addr} {L C : Nat} {xs : List Int} (h : SlI w.heap.size w A L C xs) (u : Below w.heap.size w w') : SlI w'.heap.size w' A L C xs := (h.below u (Nat.le_refl _)).more u.size
theorem Sep.asInts {W w : World} {ts : List Thing} {e : TypeId} {v : Value} {n : Nat} {xs : List Int} (h : Sep W w ts) (ht : rowOf e 1 v n (is xs) ∈ ts) (hn : xs.length = n) (hx : ∀ x ∈ xs, i64 x) : ∃ A C, v = .slice A n C ∧ SlI w.heap.size w A n C xs := by
  subst hn
  exact owns_ints (h.row ht) hx
theorem Sep.asEvs {W w : World} {ts : List Thing} {e : TypeId} {v : Value} {n : Nat} {xs : List Ev} (h : Sep W w ts) (ht : rowOf e 3 v n (evs xs) ∈ ts) (hn : xs.length = n) (hx : ∀ x ∈ xs, x.ok) : ∃ A C, v = .slice A n C ∧ SlE w.heap.size w A n C xs := owns_evs (h.row ht) hn hx
/-- A list that is typed out. -/
theorem Sep.lit {W w w' : World} {us : List Thing} {e : TypeId} {s n : Nat} {cs : Array Value} {xs : List Value} (h : Sep W w us) (ew : w' = w.alloc (.cells cs e)) (hcs : cs.toList = xs) (hn : cs.size = n * s) (hm : n ≤ 1000) : Sep W w' (rowOf e s (.slice (some ⟨w.heap.size, 0, none⟩) n n) n xs :: us) := by
  subst ew hcs
  refine h.add (Dk.up_alloc (Below.refl _ _) _) ?_ (fun k hk => by simp [rowOf, Value.ownBlock] at hk; omega)
  exact World.ownsRow_lit w cs n (Nat.zero_le _) (by unfold maxLen; omega) hn
theorem tellL_ok {p : Ev → Bool} {es : List Ev} (h : ∀ e ∈ es, e.ok) : ∀ x ∈ tellL p es, i64 x := fun x hx => by
  unfold tellL at hx
  obtain ⟨e, he, rfl⟩ := List.mem_map.1 hx
  exact (h e ((List.mem_filter.1 he).1)).2.1
theorem keepL_ok {es : List Ev} (h : ∀ e ∈ es, e.ok) : ∀ e ∈ keepL es, e.ok := fun e he => h e ((List.mem_filter.1 he).1)
end Dk
namespace Go.Proofs.Ythpphicgkkhbfaa
set_option linter.unusedSimpArgs false
set_option linter.unusedVariables false
set_option linter.unnecessarySimpa false
open Go.RowKit Go.Lib
set_option maxRecDepth 100000 in
theorem same_ev (d : Nat) (r1 r2 r3 : Int) (w : World) : (Op.equalIn (d + 2) 36 (.agg #[.int .i64 r1, .int .i64 r2, .int .i64 r3]) (.agg #[.int .i64 r1, .int .i64 r2, .int .i64 r3])).run Try.prog w = .ok true w := by
  rw [run_equalIn_agg w (d + 1) 36 _ _ (by kernel_rfl) (by kernel_rfl)]
  simp [go_sem, part]
set_option maxRecDepth 100000 in
set_option maxHeartbeats 1000000 in
theorem Events_same (A A' : Option Addr) (L C C' : Nat) (es : List Dk.Ev) (w : World) (h : Dk.SlE w.heap.size w A L C es) (h' : Dk.SlE w.heap.size w A' L C' es) :
    Calls Try.prog 8 #[.slice A L C, .slice A' L C'] w fun e w' => e = .returned (.bool true) ∧ Below w.heap.size w w' := by
  have hcap := h.cap
  have hmax := h.max
  unfold maxLen at hmax
  go_enter Try.func8, Try.ntmps8
  go_wp2
  go_loopw [5] (fun i w' => ∃ k : Nat, k ≤ L ∧ i = .int .i64 k ∧ Hid (Below w.heap.size w w')) (fun i w' => L - (intOf i).toNat)
  case atStart => exact ⟨0, Nat.zero_le _, rfl, Below.refl _ _⟩
  case round =>
    obtain ⟨k, hk, rfl, HB⟩ := hrel
    by_cases hlt : k < L
    · obtain ⟨b, o, rfl, hb, _, k0, k1, k2⟩ := h.at hlt
      obtain ⟨b', o', rfl, hb', _, k0', k1', k2'⟩ := h'.at hlt
      generalize es.getD k Dk.Ev.zero = x at k0 k1 k2 k0' k1' k2'
      obtain ⟨r1, r2, r3⟩ := x
      have a0 : wr.cell? ⟨b, o + k * 3, none⟩ = some (.int .i64 r1) := by rw [HB.out.cell (by exact hb)]; exact k0
      have a1 : wr.cell? ⟨b, o + k * 3 + 1, none⟩ = some (.int .i64 r2) := by rw [HB.out.cell (by exact hb)]; exact k1
      have a2 : wr.cell? ⟨b, o + k * 3 + 2, none⟩ = some (.int .i64 r3) := by rw [HB.out.cell (by exact hb)]; exact k2
      have b0 : wr.cell? ⟨b', o' + k * 3, none⟩ = some (.int .i64 r1) := by rw [HB.out.cell (by exact hb')]; exact k0'
      have b1 : wr.cell? ⟨b', o' + k * 3 + 1, none⟩ = some (.int .i64 r2) := by rw [HB.out.cell (by exact hb')]; exact k1'
      have b2 : wr.cell? ⟨b', o' + k * 3 + 2, none⟩ = some (.int .i64 r3) := by rw [HB.out.cell (by exact hb')]; exact k2'
      have hsame : ∀ w, (Op.equalIn 10000 36 (.agg #[.int .i64 r1, .int .i64 r2, .int .i64 r3]) (.agg #[.int .i64 r1, .int .i64 r2, .int .i64 r3])).run Try.prog w = .ok true w := same_ev 9998 _ _ _
      clear k0 k1 k2 k0' k1' k2' h h'
      go_wp2
      go_quiet (fail)
      go_wp2
      go_roundw
      case rel => exact ⟨k + 1, by omega, by go_num, Dk.up_drewN HB.out nq⟩
      case measure => simp [intOf]; omega
    · go_wp2
      go_ret
      exact ⟨rfl, HB.out⟩

def es0 : List Dk.Ev := [⟨1, -1, 0⟩, ⟨3, 3, 0⟩, ⟨4, 4, 7⟩, ⟨4, 5, 0⟩]
theorem es0_ok : ∀ e ∈ es0, e.ok := by
  intro e he
  simp [es0] at he
  rcases he with rfl | rfl | rfl | rfl <;> exact ⟨⟨by decide, by decide⟩, ⟨by decide, by decide⟩, ⟨by decide, by decide⟩⟩
end Go.Proofs.Ythpphicgkkhbfaa
