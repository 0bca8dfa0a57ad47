/- Rows that a call owns beside a table; handles that were told. -/
import Derived.Test.YtlbbejndglpclaaSb
namespace Dk
set_option linter.unusedSimpArgs false
set_option linter.unusedVariables false
set_option linter.unnecessarySimpa false
open Go Go.RowKit

/-- A handle that was told. -/
def Old (st : St) (h : Nat) : Prop := ∃ s t, s < st.length ∧ h = t * 65536 + s + 1 ∧ t ≤ tk st s
theorem taken_len (st : St) : (taken st).length = st.length := put_len _ _ _ _
theorem tk_taken {st : St} (h : least st < st.length) (j : Nat) : tk (taken st) j = if j = least st then tk st (least st) + 1 else tk st j := tk_put _ _ _ _ _ h
theorem us_taken {st : St} (h : least st < st.length) (j : Nat) : us (taken st) j = if j = least st then true else us st j := us_put _ _ _ _ _ h
theorem Old.taken {st : St} {x : Nat} (h : Old st x) (hl : least st < st.length) : Old (taken st) x := by
  obtain ⟨s, t, h1, h2, h3⟩ := h
  refine ⟨s, t, by rw [taken_len]; exact h1, h2, ?_⟩
  rw [tk_taken hl]
  split
  · rename_i e; rw [← e]; omega
  · exact h3
theorem Old.freed {st : St} {x : Nat} (h : Old st x) (y : Nat) : Old (freed st y) x := by
  obtain ⟨s, t, h1, h2, h3⟩ := h
  exact ⟨s, t, by rw [freed_len]; exact h1, h2, by rw [freed_tk]; exact h3⟩
theorem Old.new {st : St} (hl : least st < st.length) : Old (Dk.taken st) (hd (Dk.taken st) (least st)) := ⟨least st, _, by rw [taken_len]; exact hl, rfl, Nat.le_refl _⟩
theorem Old.fresh {st : St} {x : Nat} (h : Old st x) (hl : least st < st.length) (hn : st.length ≤ 1024) : x ≠ hd (Dk.taken st) (least st) := by
  obtain ⟨s, t, h1, h2, h3⟩ := h
  unfold hd
  rw [tk_taken hl, if_pos rfl]
  intro e
  have : s = least st := by omega
  subst this
  omega
theorem Old.lt {M : Nat} {st : St} {x : Nat} (h : Old st x) (hs : Small M st) (hM : M ≤ 100000) : x < 18446744073709551616 := by
  obtain ⟨s, t, h1, h2, h3⟩ := h
  have := hs.1
  have := hs.2 s
  omega

theorem Box.grown {w w' : World} {b : Nat} {cs : Array Value} {t : TypeId} {row : Option Nat} (h : Box w b cs t) (g : w.grownBy w' row) (hr : some b ≠ row) : Box w' b cs t := ⟨by rw [g.block b h.lt hr]; exact h.heap⟩
theorem Tab.grown {w w' : World} {bt bs M B0 : Nat} {st : St} {row : Option Nat} (h : Tab w bt bs M st) (g : w.grownBy w' row) (hr : ∀ k, row = some k → B0 ≤ k) (h1 : bt < B0) (h2 : bs < B0) : Tab w' bt bs M st :=
  ⟨h.head.grown g (fun e => by have := hr _ e.symm; omega), h.row.grown g (fun e => by have := hr _ e.symm; omega), h.ne, h.small⟩
/-- A row that is owned stays, where a block below is written. -/
theorem owns_far {w w' : World} {base r : Nat} {e : TypeId} {size : Nat} {v : Value} {n : Nat} {xs : List Value} (h : w.ownsRow base e size v n xs) (g : w.grownBy w' (some r)) (hr : r < base) : w'.ownsRow base e size v n xs :=
  h.kept g (.inr fun e => by have := (h.lt r e).1; omega)
theorem owns_up {w w' : World} {base : Nat} {e : TypeId} {size : Nat} {v : Value} {n : Nat} {xs : List Value} (h : w.ownsRow base e size v n xs) (u : Below w.heap.size w w') : w'.ownsRow base e size v n xs :=
  h.kept (far_of_up (r := none) u) (by cases h' : v.ownBlock with
    | none => exact .inl rfl
    | some k => exact .inr (by simp))
/-- Words. -/
abbrev ws (hs : List Nat) : List Value := hs.map fun x => Value.int .u64 (x : Nat)
/-- A row that is owned, read as words. -/
theorem owns_words {w : World} {base : Nat} {e : TypeId} {v : Value} {hs : List Nat} (h : w.ownsRow base e 1 v hs.length (ws hs)) : ∃ A C, v = .slice A hs.length C ∧ (0 < hs.length → ∃ b, A = some ⟨b, 0, none⟩ ∧ base ≤ b ∧ ∀ k, k < hs.length → w.cell? ⟨b, k, none⟩ = some (.int .u64 ((hs.getD k 0 : Nat) : Int))) := by
  obtain ⟨_, h | ⟨g, cap, cur, rfl, hb, hg, hc, hm, hs', ht⟩⟩ := h
  · obtain ⟨rfl, h0⟩ := h
    rw [h0]
    exact ⟨none, 0, rfl, fun h => absurd h (by omega)⟩
  · refine ⟨_, cap, rfl, fun h0 => ⟨g, rfl, hb, fun k hk => ?_⟩⟩
    have hbx : Box w g cur e := ⟨hg⟩
    rw [hbx.cell]
    have h1 : (cur.toList.take (hs.length * 1))[k]? = cur.toList[k]? := by rw [List.getElem?_take, if_pos (by omega)]
    rw [ht] at h1
    rw [← Array.getElem?_toList, ← h1]
    simp [List.getD, hk]

end Dk
