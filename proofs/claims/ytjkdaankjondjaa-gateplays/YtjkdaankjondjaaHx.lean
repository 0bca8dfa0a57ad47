/- Who waits, all in a row: nobody twice. -/
import Derived.Test.YtjkdaankjondjaaHu
import Derived.Test.YtjkdaankjondjaaGm
namespace Dk
set_option linter.unusedSimpArgs false
set_option linter.unusedVariables false
set_option linter.unnecessarySimpa false
open Go Go.RowKit
/-- Who waits for one: a mutex (1), a condition (2), a semaphore. -/
def St.wl (S : St) (kd n : Nat) : List Int := if kd = 1 then S.wait.getD n [] else if kd = 2 then (S.conds.getD n []).map Prod.fst else S.downs.getD n []
def St.acc (S : St) : Nat → List Int
  | 0 => []
  | m + 1 => S.acc m ++ S.wl (m + 1) 0 ++ S.wl (m + 1) 1
def St.accp (S : St) (m : Nat) : Nat → List Int
  | 0 => S.acc m
  | 1 => S.acc m ++ S.wl (m + 1) 0
  | _ => S.acc m ++ S.wl (m + 1) 0 ++ S.wl (m + 1) 1
theorem accp_next (S : St) (m n : Nat) (h : n < 2) : S.accp m (n + 1) = S.accp m n ++ S.wl (m + 1) n := by
  obtain rfl | rfl : n = 0 ∨ n = 1 := by omega
  · rfl
  · rfl
theorem two {α : Type} {l : List α} (h : l.length = 2) : ∃ a b, l = [a, b] := by
  match l, h with
  | [a, b], _ => exact ⟨a, b, rfl⟩
theorem acc_nodup {S : St} {k : Nat} (h : Lens S 2 2 2) (ok : Ok S k) (f : Fair S) : (S.acc 3).Nodup := by
  obtain ⟨w0, w1, ew⟩ := two (l := S.wait) (by rw [ok.wait, h.owner])
  obtain ⟨c0, c1, ec⟩ := two h.conds
  obtain ⟨d0, d1, ed⟩ := two (l := S.downs) (by rw [ok.downs, h.count])
  rw [List.nodup_iff_count]
  intro x
  have := f.once x
  unfold St.cnt at this
  rw [ew, ec, ed] at this
  simp [cts] at this
  simp only [St.acc, St.wl, ew, ec, ed]
  simp
  omega
theorem wl_i64 {S : St} {k : Nat} (ok : Ok S k) (kd n : Nat) : (∀ x ∈ S.wl kd n, i64 x) ∧ (S.wl kd n).length ≤ k := by
  have h0 : ∀ {α : Type} (l : List (List α)) (n : Nat), l.getD n [] ∈ l ∨ l.getD n [] = [] := fun l n => by
    by_cases h : n < l.length
    · exact .inl (getD_mem _ _ _ h)
    · exact .inr (by simp [List.getD, List.getElem?_eq_none (show l.length ≤ n by omega)])
  unfold St.wl
  split
  · rcases h0 S.wait n with h | h
    · exact ⟨ok.waits _ h, ok.waitLen h⟩
    · rw [h]; exact ⟨fun x hx => by simp at hx, by simp⟩
  · split
    · rcases h0 S.conds n with h | h
      · exact ⟨fun x hx => by obtain ⟨p, hp, rfl⟩ := List.mem_map.1 hx; exact (ok.conds _ h p hp).1, by rw [List.length_map]; exact ok.condLen h⟩
      · rw [h]; exact ⟨fun x hx => by simp at hx, by simp⟩
    · rcases h0 S.downs n with h | h
      · exact ⟨ok.downsI _ h, ok.downLen h⟩
      · rw [h]; exact ⟨fun x hx => by simp at hx, by simp⟩
theorem acc_i64 {S : St} {k : Nat} (ok : Ok S k) : ∀ m, (∀ x ∈ S.acc m, i64 x) ∧ (S.acc m).length ≤ m * (2 * k)
  | 0 => ⟨fun x hx => by simp [St.acc] at hx, by simp [St.acc]⟩
  | m + 1 => by
    have h := acc_i64 ok m
    have h1 := wl_i64 ok (m + 1) 0
    have h2 := wl_i64 ok (m + 1) 1
    refine ⟨fun x hx => ?_, ?_⟩
    · rw [St.acc] at hx
      rcases List.mem_append.1 hx with hx | hx
      · rcases List.mem_append.1 hx with hx | hx
        · exact h.1 x hx
        · exact h1.1 x hx
      · exact h2.1 x hx
    · rw [St.acc, List.length_append, List.length_append, Nat.add_mul]
      omega
theorem accp_len {S : St} {k : Nat} (ok : Ok S k) (m n : Nat) (hm : m < 3) : (S.accp m n).length ≤ 8 * k := by
  have h := (acc_i64 ok m).2
  have h1 := (wl_i64 ok (m + 1) 0).2
  have h2 := (wl_i64 ok (m + 1) 1).2
  have h3 : m * (2 * k) ≤ 2 * (2 * k) := Nat.mul_le_mul_right _ (by omega)
  unfold St.accp
  split
  · omega
  · rw [List.length_append]; omega
  · rw [List.length_append, List.length_append]; omega
theorem nodup_ne {l : List Int} (h : l.Nodup) {i j : Nat} {x y : Int} (hij : i < j) (hx : l[i]? = some x) (hy : l[j]? = some y) : x ≠ y := by
  intro e
  subst e
  have := (List.getElem?_inj (some_lt hx) h).1 (hx.trans hy.symm)
  omega
end Dk
namespace Go.Proofs.Ytjkdaankjondjaa
set_option linter.unusedSimpArgs false
set_option linter.unusedVariables false
set_option linter.unnecessarySimpa false
open Go.RowKit Go.Lib
section
variable {W w : World} {b k n kd : Nat} {S : Dk.St} {us us1 us2 : List Dk.Thing}
theorem Waiters_wl (h : Gt W w b S k us) (hk : k ≤ 300) (l : Dk.Lens S 2 2 2) (hkd : 1 ≤ kd ∧ kd ≤ 3) (hn : n < 2) (r : List Int) (er : S.wl kd n = r) :
    Calls Try.prog 13 #[.pointer (some ⟨b, 0, none⟩), .int .i64 (kd : Int), .int .i64 (n : Int)] w fun e w' => ∃ A C, e = .returned (.slice A r.length C) ∧ Gt W w' b S k (Dk.rowOf 3 1 (.slice A r.length C) r.length (Dk.is r) :: us) := by
  obtain rfl | rfl | rfl : kd = 1 ∨ kd = 2 ∨ kd = 3 := by omega
  · exact Waiters1 h hk (by rw [l.owner]; exact hn) r er
  · exact Waiters2 h hk (by rw [l.conds]; exact hn) r er
  · exact Waiters3 h hk (by rw [l.count]; exact hn) r er
/-- A list is appended to a row. -/
theorem appendRow {v v2 : Value} {m m2 : Nat} {xs ys : List Value} (h : Dk.Sep W w (Dk.rowOf 3 1 v2 m2 ys :: Dk.rowOf 3 1 v m xs :: us)) (h1 : ∀ u ∈ ys, u.oneCell' = true) (hl : m + m2 ≤ 10000) :
    ∃ v' w', (Builtin.append_ #[22, 22] 22 #[v, v2]).run Try.prog w = .ok v' w' ∧ Dk.Sep W w' (Dk.rowOf 3 1 v' (m + m2) (xs ++ ys) :: us) := by
  have r2 := h.row (e := 3) (s := 1) (v := v2) (n := m2) (xs := ys) (by simp)
  have r1 := h.row (e := 3) (s := 1) (v := v) (n := m) (xs := xs) (by simp)
  obtain ⟨hx, ⟨rfl, h0⟩ | ⟨g, cap, cur, rfl, hb, hg, hn, hm, hs, ht⟩⟩ := id r2
  · subst h0
    obtain rfl : ys = [] := List.eq_nil_of_length_eq_zero (by simpa using hx)
    obtain ⟨A, C, ev, hc, hmx⟩ := Dk.owns_slice r1
    subst ev
    obtain ⟨i0, hi0, _, _, _⟩ := info_parts info3
    have hrun : (Builtin.append_ #[22, 22] 22 #[.slice A m C, .slice none 0 0]).run Try.prog w = .ok (.slice A m C) w := by
      cases A <;> simp [Builtin.append_, run_underlying Try.underlying22, sizeOf, typeInfo, hi0, Builtin.lenOf, run_firstCells_none, hc, storeCells, go_sem]
    refine ⟨_, w, hrun, ?_⟩
    rw [List.append_nil, Nat.add_zero]
    exact h.sub (List.sublist_cons_self _ _)
  · obtain ⟨v', w', hr, ho, hg', hf, _⟩ := K22.append W.heap.size 22 v xs m w r1 ⟨g, 0, none⟩ m2 cap ys hx (r2.cells (g := g) rfl) h1 (by omega) h.out.size
    refine ⟨v', w', hr, ?_⟩
    have h2 := Dk.Sep.turn (us1 := [_]) (t := Dk.rowOf 3 1 v m xs) (t' := Dk.rowOf 3 1 v' (m + m2) (xs ++ ys)) h (Dk.Away.of_grown hg' (fun k hk => .inl hk)) (Dk.owns_base ho (Nat.zero_le _)) (fun k hk => hf k hk)
    exact h2.sub (List.sublist_cons_self _ _)
theorem Gt.appendRow {v v2 : Value} {m m2 : Nat} {xs ys : List Value} (h : Gt W w b S k (Dk.rowOf 3 1 v2 m2 ys :: Dk.rowOf 3 1 v m xs :: us)) (h1 : ∀ u ∈ ys, u.oneCell' = true) (hl : m + m2 ≤ 10000) :
    ∃ v' w', (Builtin.append_ #[22, 22] 22 #[v, v2]).run Try.prog w = .ok v' w' ∧ Gt W w' b S k (Dk.rowOf 3 1 v' (m + m2) (xs ++ ys) :: us) := by
  obtain ⟨ts, hG, hs, ok⟩ := Hid.out h
  obtain ⟨v', w', hr, h'⟩ := Go.Proofs.Ytjkdaankjondjaa.appendRow hs h1 hl
  exact ⟨v', w', hr, ts, hG, h', ok⟩
end
end Go.Proofs.Ytjkdaankjondjaa
