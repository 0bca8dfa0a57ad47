/- What each act leaves as it was: how many there are; and an act's own cells. -/
import Derived.Test.YtjkdaankjondjaaHr
import Derived.Test.YtjkdaankjondjaaOpd
namespace Dk
set_option linter.unusedSimpArgs false
set_option linter.unusedVariables false
set_option linter.unnecessarySimpa false
open Go Go.RowKit
structure Lens (S : St) (a c s : Nat) : Prop where
  owner : S.owner.length = a
  conds : S.conds.length = c
  count : S.count.length = s
section
variable {S : St} {a c s : Nat}
theorem Lens.lock (h : Lens S a c s) (who : Int) (n : Nat) : Lens (S.lock who n).1 a c s := by
  unfold St.lock
  split
  · exact h
  · split
    · exact ⟨h.owner, h.conds, h.count⟩
    · exact ⟨by rw [← h.owner]; exact List.length_set, h.conds, h.count⟩
theorem Lens.open (h : Lens S a c s) (n : Nat) (ch : Int) : Lens (S.open n ch).1 a c s := by
  refine ⟨by rw [open_lens]; exact h.owner, by rw [open_conds]; exact h.conds, ?_⟩
  unfold St.open
  dsimp only
  split <;> exact h.count
theorem Lens.unlock (h : Lens S a c s) (who : Int) (n : Nat) (ch : Int) : Lens (S.unlock who n ch).1 a c s := by
  unfold St.unlock
  split
  · exact h
  · exact h.open n ch
theorem Lens.hold (h : Lens S a c s) (who : Int) (i n : Nat) (ch : Int) : Lens (S.hold who i n ch).1 a c s := by
  unfold St.hold
  split
  · exact h
  · split
    · exact h
    · have q := h.open n ch
      exact ⟨q.owner, by rw [← h.conds]; exact List.length_set, q.count⟩
theorem Lens.goes1 (h : Lens S a c s) (p : Int × Int) : Lens (S.goes1 p).1 a c s := by
  unfold St.goes1
  dsimp only
  split
  · exact ⟨h.owner, h.conds, h.count⟩
  · exact ⟨by rw [← h.owner]; exact List.length_set, h.conds, h.count⟩
theorem Lens.goes : ∀ (l : List (Int × Int)) {S : St}, Lens S a c s → Lens (S.goes l).1 a c s
  | [], S, h => h
  | p :: r, S, h => by
    rw [St.goes]
    exact Lens.goes r (h.goes1 p)
theorem Lens.signal (h : Lens S a c s) (i : Nat) (ch : Int) (all : Bool) : Lens (S.signal i ch all).1 a c s := by
  unfold St.signal
  exact Lens.goes _ ⟨h.owner, by rw [← h.conds]; exact List.length_set, h.count⟩
theorem Lens.down (h : Lens S a c s) (who : Int) (n : Nat) : Lens (S.down who n).1 a c s := by
  unfold St.down
  split
  · exact h
  · split
    · exact ⟨h.owner, h.conds, by rw [← h.count]; exact List.length_set⟩
    · exact ⟨h.owner, h.conds, h.count⟩
theorem Lens.up (h : Lens S a c s) (n : Nat) (ch : Int) : Lens (S.up n ch).1 a c s := by
  unfold St.up
  split
  · exact ⟨h.owner, h.conds, h.count⟩
  · split
    · exact h
    · exact ⟨h.owner, h.conds, by rw [← h.count]; exact List.length_set⟩
end
/-- What a lock answers, and leaves: it is not given, and whose it is stays; or it is, and was nobody's. -/
theorem lock_ways (S : St) (who : Int) (n : Nat) : ((S.lock who n).2.1 = false ∧ (S.lock who n).1.held = S.held ∧ (S.lock who n).1.owner = S.owner) ∨ ((S.lock who n).2.1 = true ∧ (S.lock who n).2.2 = 0 ∧ S.held.getD n false = false) := by
  unfold St.lock
  split
  · exact .inl ⟨rfl, rfl, rfl⟩
  · split
    · exact .inl ⟨rfl, rfl, rfl⟩
    · rename_i h
      exact .inr ⟨rfl, rfl, by simpa using h⟩
theorem unlock_ways (S : St) (who : Int) (n : Nat) (ch : Int) : (S.unlock who n ch).2.2.2 = 5 ∨ ((S.unlock who n ch).2.2.2 = 0 ∧ S.held.getD n false = true ∧ S.owner.getD n 0 = who) := by
  unfold St.unlock
  split
  · exact .inl rfl
  · rename_i h
    refine .inr ⟨rfl, ?_, ?_⟩
    · cases e : S.held.getD n false
      · exact absurd (.inl e) h
      · rfl
    · by_cases e : S.owner.getD n 0 = who
      · exact e
      · exact absurd (.inr e) h
theorem act5_cell {B : Nat} {w : World} {A : Option Addr} {L C : Nat} {ac : List (List Int)} (h : Row 5 [] IsInts B w A L C ac) (h0 : 0 < L) : ∃ b o, A = some ⟨b, o, none⟩ ∧ b < B ∧ ∀ k, k < L → ∃ x0 x1 x2 x3 x4, (i64 x0 ∧ i64 x1 ∧ i64 x2 ∧ i64 x3 ∧ i64 x4) ∧ w.cell? ⟨b, o + k * 5, none⟩ = some (.int .i64 x0) ∧ w.cell? ⟨b, o + k * 5 + 1, none⟩ = some (.int .i64 x1) ∧ w.cell? ⟨b, o + k * 5 + 2, none⟩ = some (.int .i64 x2) ∧ w.cell? ⟨b, o + k * 5 + 3, none⟩ = some (.int .i64 x3) ∧ w.cell? ⟨b, o + k * 5 + 4, none⟩ = some (.int .i64 x4) := by
  obtain ⟨b, o, e, hb, hc⟩ := h.cells h0
  refine ⟨b, o, e, hb, fun k hk => ?_⟩
  obtain ⟨vs, h1, ⟨rfl, h2⟩, h3⟩ := hc k hk
  match hm : ac.getD k [], h1, h2, h3 with
  | [x0, x1, x2, x3, x4], _, h2, h3 => exact ⟨x0, x1, x2, x3, x4, ⟨h2 x0 (by simp), h2 x1 (by simp), h2 x2 (by simp), h2 x3 (by simp), h2 x4 (by simp)⟩, h3 0 (by omega), h3 1 (by omega), h3 2 (by omega), h3 3 (by omega), h3 4 (by omega)⟩
end Dk
namespace Go.Proofs.Ytjkdaankjondjaa
set_option linter.unusedSimpArgs false
set_option linter.unusedVariables false
set_option linter.unnecessarySimpa false
open Go.RowKit Go.Lib
theorem act_size : (Try.prog.info? 30).map (·.size) = some 5 := by kernel_rfl
theorem act_cells (a b c d e : Int) : (#[.int .i64 a, .int .i64 b, .int .i64 c, .int .i64 d, .int .i64 e] : Array Value).all (·.oneCell') = true := by simp [Value.oneCell']
section
variable {W w w' : World} {b k : Nat} {S : Dk.St} {us : List Dk.Thing}
theorem Gt.newBox {cs : Array Value} {e : TypeId} (h : Gt W w b S k us) (ew : w' = w.alloc (.cells cs e)) : Gt W w' b S k (Dk.boxOf w.heap.size cs e :: us) := h.map fun ts s => s.newBox ew
theorem Gt.setRow {a : Nat} {cs cs' : Array Value} {e : TypeId} (h : Gt W w b S k (Dk.boxOf a cs e :: us)) (ew : w' = w.setRow a cs') : Gt W w' b S k (Dk.boxOf a cs' e :: us) := h.map fun ts s => sep_setRow s ew
theorem Gt.setBox {a o : Nat} {cs : Array Value} {e : TypeId} (h : Gt W w b S k (Dk.boxOf a cs e :: us)) (v : Value) : Gt W (w.setCell ⟨a, o, none⟩ v) b S k (Dk.boxOf a (cs.setIfInBounds o v) e :: us) := h.map fun ts s => Dk.Sep.setBox (us1 := []) s v
end
end Go.Proofs.Ytjkdaankjondjaa
