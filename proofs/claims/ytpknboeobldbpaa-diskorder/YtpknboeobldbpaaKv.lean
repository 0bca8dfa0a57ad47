/- Requests that are done from the first on, or from the last on. -/
import Derived.Test.YtpknboeobldbpaaKf
namespace Dk
set_option linter.unusedSimpArgs false
set_option linter.unusedVariables false
set_option linter.unnecessarySimpa false
open Go
theorem at_zero (n : Nat) : at_ 0 n = 0 := by simp [at_]
theorem at_last (n : Nat) : at_ (-1) (n + 1) = n := by
  unfold at_
  have h : (-1 : Int) % ((n + 1 : Nat) : Int) = (n : Int) := by
    rw [← Int.add_emod_right, Int.emod_eq_of_lt (by omega) (by omega)]
    omega
  rw [h]
  rfl
/-- Who asks, for which block, and what for. -/
def ask (ys : List Nat) (i : Nat) : Rq := ⟨(i : Int), ((ys.getD i 0 % 4 : Nat) : Int), decide (99 < ys.getD i 0), i⟩
def asks (ys : List Nat) (k : Nat) : List Rq := (List.range k).map (ask ys)
theorem asks_len (ys : List Nat) (k : Nat) : (asks ys k).length = k := by simp [asks]
theorem asks_succ (ys : List Nat) (k : Nat) : asks ys (k + 1) = asks ys k ++ [ask ys k] := by simp [asks, List.range_succ]
theorem asks_drop (ys : List Nat) {k n : Nat} (hkn : k < n) : (asks ys n).drop k = ask ys k :: (asks ys n).drop (k + 1) := by
  rw [List.drop_eq_getElem_cons (by rw [asks_len]; exact hkn)]
  simp [asks]
/-- Who waits still, when so many are done. -/
def rest (back : Bool) (ys : List Nat) (n j : Nat) : List Rq := if back then asks ys (n - j) else (asks ys n).drop j
theorem rest_len (back : Bool) (ys : List Nat) {n j : Nat} (h : j ≤ n) : (rest back ys n j).length = n - j := by
  unfold rest
  split
  · exact asks_len _ _
  · rw [List.length_drop, asks_len]
theorem rest_start (back : Bool) (ys : List Nat) (n : Nat) : rest back ys n 0 = asks ys n := by
  unfold rest
  split <;> simp
end Dk
namespace Go.Proofs.Ytpknboeobldbpaa
set_option linter.unusedSimpArgs false
set_option linter.unusedVariables false
set_option linter.unnecessarySimpa false
open Go.RowKit Go.Lib
theorem Dk.waits_asks (ys : List Nat) (k : Nat) : Dk.waits (Dk.asks ys k) (k : Int) = false := by
  unfold Dk.waits
  rw [List.any_eq_false]
  intro r hr
  obtain ⟨i, hi, rfl⟩ := List.mem_map.1 hr
  rw [List.mem_range] at hi
  simp [Dk.ask]
  omega
section
variable {W w : World} {bd : Nat} {bs : List Nat} {rs : List Dk.Rq} {us : List Dk.Thing}
theorem Done_first {r : Dk.Rq} (h : Dk.Db W w bd bs (r :: rs) us) (hl : rs.length ≤ 900) :
    Calls Try.prog 7 #[.pointer (some ⟨bd, 0, none⟩), .int .i64 0] w fun e w' => e = .returned (.tuple #[.agg #[.int .i64 r.who, .int .i64 r.block, .bool r.write, .int .u64 (r.x : Nat)], .int .u64 (r.said bs : Nat), .bool true]) ∧ Dk.Db W w' bd (r.left bs) rs us := by
  have K := Done_any h 0 ⟨by decide, by decide⟩ (by simp) (by simp; omega) r (by rw [Dk.at_zero]; rfl)
  rw [Dk.at_zero] at K
  exact K
theorem Done_last {r : Dk.Rq} (h : Dk.Db W w bd bs (rs ++ [r]) us) (hl : rs.length ≤ 900) :
    Calls Try.prog 7 #[.pointer (some ⟨bd, 0, none⟩), .int .i64 (-1)] w fun e w' => e = .returned (.tuple #[.agg #[.int .i64 r.who, .int .i64 r.block, .bool r.write, .int .u64 (r.x : Nat)], .int .u64 (r.said bs : Nat), .bool true]) ∧ Dk.Db W w' bd (r.left bs) rs us := by
  have e : (rs ++ [r]).length = rs.length + 1 := by simp
  have K := Done_any h (-1) ⟨by decide, by decide⟩ (by simp) (by simp; omega) r (by rw [e, Dk.at_last]; simp [List.getD])
  rw [e, Dk.at_last] at K
  have e2 : (rs ++ [r]).eraseIdx rs.length = rs := by rw [List.eraseIdx_append_of_length_le (Nat.le_refl _)]; simp
  rw [e2] at K
  exact K
end
theorem Dk.left_len (r : Dk.Rq) (bs : List Nat) : (r.left bs).length = bs.length := by
  unfold Dk.Rq.left
  split <;> simp
/-- The next that is done. -/
theorem Done_next {W w : World} {bd : Nat} {bs : List Nat} {us : List Dk.Thing} {ys : List Nat} {n j : Nat} (back : Bool) (h : Dk.Db W w bd bs (Dk.rest back ys n j) us) (hj : j < n) (hn : n ≤ 900) :
    Calls Try.prog 7 #[.pointer (some ⟨bd, 0, none⟩), .int .i64 (if back then -1 else 0)] w fun e w' => ∃ b c d x bs', e = .returned (.tuple #[.agg #[.int .i64 (if back then ((n : Int) - 1 - (j : Int)) else (j : Int)), .int .i64 b, .bool c, .int .u64 d], .int .u64 x, .bool true]) ∧ Dk.Db W w' bd bs' (Dk.rest back ys n (j + 1)) us := by
  cases back
  · have e : Dk.rest false ys n j = Dk.ask ys j :: Dk.rest false ys n (j + 1) := Dk.asks_drop ys hj
    rw [e] at h
    refine (Done_first h (by rw [Dk.rest_len _ _ (by omega)]; omega)).mono ?_
    rintro e w' ⟨rfl, h'⟩
    exact ⟨_, _, _, _, _, rfl, h'⟩
  · have e : Dk.rest true ys n j = Dk.rest true ys n (j + 1) ++ [Dk.ask ys (n - (j + 1))] := by
      show Dk.asks ys (n - j) = Dk.asks ys (n - (j + 1)) ++ [Dk.ask ys (n - (j + 1))]
      rw [← Dk.asks_succ]
      congr 1
      omega
    rw [e] at h
    refine (Done_last h (by rw [Dk.rest_len _ _ (by omega)]; omega)).mono ?_
    rintro e w' ⟨rfl, h'⟩
    have e1 : (Dk.ask ys (n - (j + 1))).who = (n : Int) - 1 - (j : Int) := by
      show ((n - (j + 1) : Nat) : Int) = _
      omega
    rw [e1]
    exact ⟨_, _, _, _, _, rfl, h'⟩
theorem byte_cell {B : Nat} {w : World} {A : Option Addr} {L C : Nat} {xs : List Nat} (h : Dk.Row 1 0 Dk.IsByte B w A L C xs) {k : Nat} (hk : k < L) : ∃ b o, A = some ⟨b, o, none⟩ ∧ b < B ∧ w.cell? ⟨b, o + k, none⟩ = some (.int .u8 (xs.getD k 0 : Nat)) ∧ xs.getD k 0 < 256 := by
  obtain ⟨b, o, h1, h2, h3⟩ := h.cells (by omega)
  obtain ⟨vs, hl, ⟨rfl, hlt⟩, hc⟩ := h3 k hk
  have := hc 0 (by omega)
  rw [Nat.mul_one, Nat.add_zero] at this
  exact ⟨b, o, h1, h2, this, hlt⟩
end Go.Proofs.Ytpknboeobldbpaa
