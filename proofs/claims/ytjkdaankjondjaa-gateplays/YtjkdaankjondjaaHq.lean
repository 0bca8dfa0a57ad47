/- Gates in a state: what each call answers, and the state that it leaves. -/
import Derived.Test.YtjkdaankjondjaaHn
import Derived.Test.YtjkdaankjondjaaGr
namespace Dk
set_option linter.unusedSimpArgs false
set_option linter.unusedVariables false
set_option linter.unnecessarySimpa false
open Go Go.RowKit
def St.lock (S : St) (who : Int) (n : Nat) : St × Bool × Int :=
  if S.waits who = true ∨ (S.held.getD n false = true ∧ S.owner.getD n 0 = who) then (S, false, 4)
  else if S.held.getD n false = true then ({ S with wait := S.wait.set n (S.wait.getD n [] ++ [who]) }, false, 0)
  else ({ S with held := S.held.set n true, owner := S.owner.set n who }, true, 0)
def St.unlock (S : St) (who : Int) (n : Nat) (ch : Int) : St × Int × Bool × Int :=
  if S.held.getD n false = false ∨ S.owner.getD n 0 ≠ who then (S, 0, false, 5)
  else ((S.open n ch).1, (S.open n ch).2.1, (S.open n ch).2.2, 0)
def St.hold (S : St) (who : Int) (c n : Nat) (ch : Int) : St × Int × Bool × Int :=
  if S.waits who = true then (S, 0, false, 4)
  else if S.held.getD n false = false ∨ S.owner.getD n 0 ≠ who then (S, 0, false, 5)
  else ({ (S.open n ch).1 with conds := S.conds.set c (S.conds.getD c [] ++ [(who, (n : Int))]) }, (S.open n ch).2.1, (S.open n ch).2.2, 0)
def St.down (S : St) (who : Int) (n : Nat) : St × Bool × Int :=
  if S.waits who = true then (S, false, 4)
  else if 0 < S.count.getD n 0 then ({ S with count := S.count.set n (S.count.getD n 0 - 1) }, true, 0)
  else ({ S with downs := S.downs.set n (S.downs.getD n [] ++ [who]) }, false, 0)
def St.up (S : St) (n : Nat) (ch : Int) : St × Int × Bool × Int :=
  if 0 < (S.downs.getD n []).length then ({ S with downs := S.downs.set n ((S.downs.getD n []).eraseIdx (at_ ch (S.downs.getD n []).length)) }, (S.downs.getD n []).getD (at_ ch (S.downs.getD n []).length) 0, true, 0)
  else if S.count.getD n 0 = 1048576 then (S, 0, false, 2)
  else ({ S with count := S.count.set n (S.count.getD n 0 + 1) }, 0, false, 0)
section
variable {S : St} {k n c : Nat} {who ch : Int}
theorem Ok.lock (ok : Ok S k) (hn : n < S.owner.length) (hi : i64 who) : Ok (S.lock who n).1 (k + 1) := by
  unfold St.lock
  split
  · exact ok.mono (by omega)
  · split
    · have hw : n < S.wait.length := by rw [ok.wait]; exact hn
      exact ok.setWait n hw _ (snoc_mem (ok.waits _ (getD_mem _ _ _ hw)) hi) (by rw [List.length_append]; simp; omega)
    · exact ((ok.setOwner n who hi).setHeld n true).mono (by omega)
theorem Ok.open (ok : Ok S k) (hn : n < S.owner.length) (ch : Int) : Ok (S.open n ch).1 k := by
  have hw : n < S.wait.length := by rw [ok.wait]; exact hn
  by_cases h0 : (S.wait.getD n []).length = 0
  · rw [open_eq_none S n ch h0]
    exact ok.setHeld n false
  · rw [open_eq_some S n ch _ rfl (by omega) _ rfl _ rfl]
    have hm := ok.waits _ (getD_mem _ [] _ hw)
    exact (ok.setOwner n _ (hm _ (getD_mem _ _ _ (at_lt ch (by omega))))).setWait n hw _ (erase_mem hm) (by
      have := List.length_eraseIdx_le (S.wait.getD n []) (at_ ch (S.wait.getD n []).length)
      dsimp only
      omega)
theorem Ok.unlock (ok : Ok S k) (hn : n < S.owner.length) : Ok (S.unlock who n ch).1 (k + 1) := by
  unfold St.unlock
  split
  · exact ok.mono (by omega)
  · exact (ok.open hn ch).mono (by omega)
theorem Ok.hold (ok : Ok S k) (hc : c < S.conds.length) (hn : n < S.owner.length) (hi : i64 who) : Ok (S.hold who c n ch).1 (k + 1) := by
  unfold St.hold
  split
  · exact ok.mono (by omega)
  · split
    · exact ok.mono (by omega)
    · have ok1 := ok.open hn ch
      have hol := open_lens S n ch
      have e := open_conds S n ch
      have q := ok1.setConds (k' := k + 1) c (by rw [e]; exact hc) (S.conds.getD c [] ++ [(who, (n : Int))]) (snoc_mem (fun p hp => by rw [hol]; exact ok.conds _ (getD_mem _ _ _ hc) p hp) ⟨hi, by omega, by rw [hol]; omega⟩) (by rw [e, List.length_append]; simp; omega)
      rw [e] at q
      exact q
theorem Ok.down (ok : Ok S k) (hn : n < S.count.length) (hi : i64 who) : Ok (S.down who n).1 (k + 1) := by
  unfold St.down
  split
  · exact ok.mono (by omega)
  · split
    · have := ok.count _ (getD_mem S.count 0 n hn)
      exact (ok.setCount n _ (by omega)).mono (by omega)
    · have hw : n < S.downs.length := by rw [ok.downs]; exact hn
      exact ok.setDowns n hw _ (snoc_mem (ok.downsI _ (getD_mem _ _ _ hw)) hi) (by rw [List.length_append]; simp; omega)
theorem Ok.up (ok : Ok S k) (hn : n < S.count.length) : Ok (S.up n ch).1 (k + 1) := by
  unfold St.up
  split
  · have hw : n < S.downs.length := by rw [ok.downs]; exact hn
    exact (ok.setDowns (k' := k) n hw _ (erase_mem (ok.downsI _ (getD_mem _ _ _ hw))) (by
      have := List.length_eraseIdx_le (S.downs.getD n []) (at_ ch (S.downs.getD n []).length)
      omega)).mono (by omega)
  · split
    · exact ok.mono (by omega)
    · have := ok.count _ (getD_mem S.count 0 n hn)
      exact (ok.setCount n _ (by omega)).mono (by omega)
end
end Dk

namespace Go.Proofs.Ytjkdaankjondjaa
set_option linter.unusedSimpArgs false
set_option linter.unusedVariables false
set_option linter.unnecessarySimpa false
open Go.RowKit Go.Lib

/-- Gates in a state, and things beside them. -/
def Gt (W w : World) (b : Nat) (S : Dk.St) (k : Nat) (us : List Dk.Thing) : Prop := Hid (∃ ts, G0 b S ts ∧ Dk.Sep W w (us ++ ts) ∧ Dk.Ok S k)
section
variable {W w w' : World} {b k n c : Nat} {S : Dk.St} {us us' : List Dk.Thing} {who ch : Int}
theorem Gt.out (h : Gt W w b S k us) : Below W.heap.size W w := by
  obtain ⟨ts, _, hs, _⟩ := Hid.out h
  exact hs.out
theorem Gt.ok (h : Gt W w b S k us) : Dk.Ok S k := by
  obtain ⟨ts, _, _, ok⟩ := Hid.out h
  exact ok
theorem Gt.fair (h : Gt W w b S k us) : Dk.Fair S := by
  obtain ⟨ts, ⟨_, _, _, _, _, _, _, l⟩, _, _⟩ := Hid.out h
  exact l.fair
theorem Gt.below (h : Gt W w b S k us) (u : Below w.heap.size w w') : Gt W w' b S k us := by
  obtain ⟨ts, hG, hs, ok⟩ := Hid.out h
  exact ⟨ts, hG, hs.below u, ok⟩
theorem Gt.map (h : Gt W w b S k us) (f : ∀ ts, Dk.Sep W w (us ++ ts) → Dk.Sep W w' (us' ++ ts)) : Gt W w' b S k us' := by
  obtain ⟨ts, hG, hs, ok⟩ := Hid.out h
  exact ⟨ts, hG, f ts hs, ok⟩
theorem Gt.drop {t : Dk.Thing} (h : Gt W w b S k (t :: us)) : Gt W w b S k us := h.map fun ts s => s.sub (List.sublist_cons_self _ _)
theorem Gt.row {e : TypeId} {s m : Nat} {v : Value} {xs : List Value} (h : Gt W w b S k us) (ht : Dk.rowOf e s v m xs ∈ us) : w.ownsRow W.heap.size e s v m xs := by
  obtain ⟨ts, _, hs, _⟩ := Hid.out h
  exact hs.row (List.mem_append_left _ ht)
theorem Gt.box {a : Nat} {cs : Array Value} {t : TypeId} (h : Gt W w b S k us) (ht : Dk.boxOf a cs t ∈ us) : Dk.Box w a cs t := by
  obtain ⟨ts, _, hs, _⟩ := Hid.out h
  exact hs.box (List.mem_append_left _ ht)
theorem Gt.mono {k' : Nat} (h : Gt W w b S k us) (hk : k ≤ k') : Gt W w b S k' us := by
  obtain ⟨ts, hG, hs, ok⟩ := Hid.out h
  exact ⟨ts, hG, hs, ok.mono hk⟩

theorem New_gt (h : Dk.Sep W w us) (mutexes conds : Int) (A : Option Addr) (L C : Nat) (xs : List Int) (hs : Dk.SlI w.heap.size w A L C xs) :
    Calls Try.prog 8 #[.int .i64 mutexes, .int .i64 conds, .slice A L C] w fun e w' => ∃ b, e = .returned (.pointer (some ⟨b, 0, none⟩)) ∧ Gt W w' b (Dk.start mutexes conds xs) 0 us := by
  refine (New_any h mutexes conds A L C xs hs).mono ?_
  rintro e w' ⟨b, ts, rfl, hG, h'⟩
  exact ⟨b, rfl, ts, hG, h', Dk.start_ok _ _ _ hs.wf⟩
theorem Lock_all (h : Gt W w b S k us) (hk : k ≤ 300) (hn : n < S.owner.length) (hi : Dk.i64 who) :
    Calls Try.prog 17 #[.pointer (some ⟨b, 0, none⟩), .int .i64 who, .int .i64 (n : Int)] w fun e w' => e = .returned (.tuple #[.bool (S.lock who n).2.1, .int .i64 (S.lock who n).2.2]) ∧ Gt W w' b (S.lock who n).1 (k + 1) us := by
  obtain ⟨ts, hG, hs, ok⟩ := Hid.out h
  have ok' := ok.lock hn hi
  unfold Dk.St.lock at ok' ⊢
  by_cases h1 : S.waits who = true ∨ (S.held.getD n false = true ∧ S.owner.getD n 0 = who)
  · simp only [if_pos h1] at ok' ⊢
    refine (gateI.lock_busy hG hs ok hk who n hn h1).mono ?_
    rintro e w' ⟨rfl, ts', hG', hs'⟩
    exact ⟨rfl, ts', hG', hs', ok'⟩
  · have hw : S.waits who = false := by
      cases hw : S.waits who with
      | true => exact absurd (.inl hw) h1
      | false => rfl
    have hno : ¬ (S.held.getD n false = true ∧ S.owner.getD n 0 = who) := fun q => h1 (.inr q)
    by_cases h2 : S.held.getD n false = true
    · simp only [if_neg h1, if_pos h2] at ok' ⊢
      refine (gateI.lock_wait hG hs ok hk who n hn hi hw hno h2).mono ?_
      rintro e w' ⟨rfl, ts', hG', hs'⟩
      exact ⟨rfl, ts', hG', hs', ok'⟩
    · simp only [if_neg h1, if_neg h2] at ok' ⊢
      refine (gateI.lock_yes hG hs ok hk who n hn hi hw hno (by simpa using h2)).mono ?_
      rintro e w' ⟨rfl, ts', hG', hs'⟩
      exact ⟨rfl, ts', hG', hs', ok'⟩
theorem not_mine {b : Bool} {x y : Int} (h : ¬ (b = false ∨ x ≠ y)) : b = true ∧ x = y := by
  constructor
  · cases b
    · exact absurd (.inl rfl) h
    · rfl
  · by_cases e : x = y
    · exact e
    · exact absurd (.inr e) h
theorem Unlock_all (h : Gt W w b S k us) (hk : k ≤ 300) (hn : n < S.owner.length) (hc : Dk.i64 ch) :
    Calls Try.prog 18 #[.pointer (some ⟨b, 0, none⟩), .int .i64 who, .int .i64 (n : Int), .int .i64 ch] w fun e w' => e = .returned (.tuple #[.int .i64 (S.unlock who n ch).2.1, .bool (S.unlock who n ch).2.2.1, .int .i64 (S.unlock who n ch).2.2.2]) ∧ Gt W w' b (S.unlock who n ch).1 (k + 1) us := by
  obtain ⟨ts, hG, hs, ok⟩ := Hid.out h
  have ok' := ok.unlock (who := who) (ch := ch) hn
  unfold Dk.St.unlock at ok' ⊢
  by_cases h1 : S.held.getD n false = false ∨ S.owner.getD n 0 ≠ who
  · simp only [if_pos h1] at ok' ⊢
    refine (gateI.unlock_owner hG hs ok hk who n ch hn h1).mono ?_
    rintro e w' ⟨rfl, ts', hG', hs'⟩
    exact ⟨rfl, ts', hG', hs', ok'⟩
  · simp only [if_neg h1] at ok' ⊢
    obtain ⟨q1, q2⟩ := not_mine h1
    refine (gateI.unlock_ok hG hs ok hk who n ch hn hc q1 q2).mono ?_
    rintro e w' ⟨rfl, ts', hG', hs'⟩
    exact ⟨rfl, ts', hG', hs', ok'⟩
theorem Wait_all (h : Gt W w b S k us) (hk : k ≤ 300) (hcl : c < S.conds.length) (hn : n < S.owner.length) (hi : Dk.i64 who) (hc : Dk.i64 ch) :
    Calls Try.prog 19 #[.pointer (some ⟨b, 0, none⟩), .int .i64 who, .int .i64 (c : Int), .int .i64 (n : Int), .int .i64 ch] w fun e w' => e = .returned (.tuple #[.int .i64 (S.hold who c n ch).2.1, .bool (S.hold who c n ch).2.2.1, .int .i64 (S.hold who c n ch).2.2.2]) ∧ Gt W w' b (S.hold who c n ch).1 (k + 1) us := by
  obtain ⟨ts, hG, hs, ok⟩ := Hid.out h
  have ok' := ok.hold (ch := ch) hcl hn hi
  unfold Dk.St.hold at ok' ⊢
  by_cases h0 : S.waits who = true
  · simp only [if_pos h0] at ok' ⊢
    refine (gateI.wait_busy hG hs ok hk who c n ch hcl hn h0).mono ?_
    rintro e w' ⟨rfl, ts', hG', hs'⟩
    exact ⟨rfl, ts', hG', hs', ok'⟩
  · have hw : S.waits who = false := by simpa using h0
    by_cases h1 : S.held.getD n false = false ∨ S.owner.getD n 0 ≠ who
    · simp only [if_neg h0, if_pos h1] at ok' ⊢
      refine (gateI.wait_owner hG hs ok hk who c n ch hcl hn hw h1).mono ?_
      rintro e w' ⟨rfl, ts', hG', hs'⟩
      exact ⟨rfl, ts', hG', hs', ok'⟩
    · simp only [if_neg h0, if_neg h1] at ok' ⊢
      obtain ⟨q1, q2⟩ := not_mine h1
      refine (gateI.wait_ok hG hs ok hk who c n ch hcl hn hi hc hw q1 q2).mono ?_
      rintro e w' ⟨rfl, ts', hG', hs'⟩
      exact ⟨rfl, ts', hG', hs', ok'⟩
theorem Signal_all (h : Gt W w b S k us) (hk : k ≤ 300) (hcl : c < S.conds.length) (hc : Dk.i64 ch) (all : Bool) :
    Calls Try.prog 20 #[.pointer (some ⟨b, 0, none⟩), .int .i64 (c : Int), .int .i64 ch, .bool all] w fun e w' => ∃ A C, e = .returned (.tuple #[.slice A (S.signal c ch all).2.length C, .int .i64 0]) ∧ Gt W w' b (S.signal c ch all).1 k (Dk.rowOf 3 1 (.slice A (S.signal c ch all).2.length C) (S.signal c ch all).2.length (Dk.is (S.signal c ch all).2) :: us) := by
  obtain ⟨ts, hG, hs, ok⟩ := Hid.out h
  refine (gateI.signal_ok hG hs ok hk c ch all hcl hc).mono ?_
  rintro e w' ⟨A, C, rfl, ts', hG', hs'⟩
  exact ⟨A, C, rfl, ts', hG', hs', ok.signal c hcl ch all⟩
theorem Down_all (h : Gt W w b S k us) (hk : k ≤ 300) (hn : n < S.count.length) (hi : Dk.i64 who) :
    Calls Try.prog 22 #[.pointer (some ⟨b, 0, none⟩), .int .i64 who, .int .i64 (n : Int)] w fun e w' => e = .returned (.tuple #[.bool (S.down who n).2.1, .int .i64 (S.down who n).2.2]) ∧ Gt W w' b (S.down who n).1 (k + 1) us := by
  obtain ⟨ts, hG, hs, ok⟩ := Hid.out h
  have ok' := ok.down hn hi
  unfold Dk.St.down at ok' ⊢
  by_cases h0 : S.waits who = true
  · simp only [if_pos h0] at ok' ⊢
    refine (gateI.down_busy hG hs ok hk who n hn h0).mono ?_
    rintro e w' ⟨rfl, ts', hG', hs'⟩
    exact ⟨rfl, ts', hG', hs', ok'⟩
  · have hw : S.waits who = false := by simpa using h0
    by_cases h1 : 0 < S.count.getD n 0
    · simp only [if_neg h0, if_pos h1] at ok' ⊢
      refine (gateI.down_yes hG hs ok hk who n hn hw h1).mono ?_
      rintro e w' ⟨rfl, ts', hG', hs'⟩
      exact ⟨rfl, ts', hG', hs', ok'⟩
    · simp only [if_neg h0, if_neg h1] at ok' ⊢
      refine (gateI.down_wait hG hs ok hk who n hn hi hw h1).mono ?_
      rintro e w' ⟨rfl, ts', hG', hs'⟩
      exact ⟨rfl, ts', hG', hs', ok'⟩
theorem Up_all (h : Gt W w b S k us) (hk : k ≤ 300) (hn : n < S.count.length) (hc : Dk.i64 ch) :
    Calls Try.prog 21 #[.pointer (some ⟨b, 0, none⟩), .int .i64 (n : Int), .int .i64 ch] w fun e w' => e = .returned (.tuple #[.int .i64 (S.up n ch).2.1, .bool (S.up n ch).2.2.1, .int .i64 (S.up n ch).2.2.2]) ∧ Gt W w' b (S.up n ch).1 (k + 1) us := by
  obtain ⟨ts, hG, hs, ok⟩ := Hid.out h
  have ok' := ok.up (ch := ch) hn
  unfold Dk.St.up at ok' ⊢
  by_cases h0 : 0 < (S.downs.getD n []).length
  · simp only [if_pos h0] at ok' ⊢
    refine (gateI.up_some hG hs ok hk n ch hn hc h0).mono ?_
    rintro e w' ⟨rfl, ts', hG', hs'⟩
    exact ⟨rfl, ts', hG', hs', ok'⟩
  · by_cases h1 : S.count.getD n 0 = 1048576
    · simp only [if_neg h0, if_pos h1] at ok' ⊢
      refine (gateI.up_full hG hs ok hk n ch hn (by omega) h1).mono ?_
      rintro e w' ⟨rfl, ts', hG', hs'⟩
      exact ⟨rfl, ts', hG', hs', ok'⟩
    · simp only [if_neg h0, if_neg h1] at ok' ⊢
      refine (gateI.up_more hG hs ok hk n ch hn (by omega) h1).mono ?_
      rintro e w' ⟨rfl, ts', hG', hs'⟩
      exact ⟨rfl, ts', hG', hs', ok'⟩
/-- Whose a mutex is, as it is told. -/
def whose (S : Dk.St) (n : Nat) : Int := if S.held.getD n false = true then S.owner.getD n 0 else 0
theorem Owner_all (h : Gt W w b S k us) (hn : n < S.owner.length) :
    Calls Try.prog 11 #[.pointer (some ⟨b, 0, none⟩), .int .i64 (n : Int)] w fun e w' => e = .returned (.tuple #[.int .i64 (whose S n), .bool (S.held.getD n false)]) ∧ Gt W w' b S k us := by
  obtain ⟨ts, ⟨vm, vc, vs, ms, cs, ss, rfl, l⟩, hs, ok⟩ := Hid.out h
  obtain ⟨m, hm, ew, eh, e1, e2⟩ := l.atM hn
  refine (Owner_yes hs n (by rw [l.len]; exact hn) hm).mono ?_
  rintro e w' ⟨rfl, u⟩
  refine ⟨?_, h.below u⟩
  unfold whose
  rw [eh, l.own n m hm]
theorem Owner_out (h : Gt W w b S k us) (m : Int) (hn : m < 0 ∨ (S.owner.length : Int) ≤ m) :
    Calls Try.prog 11 #[.pointer (some ⟨b, 0, none⟩), .int .i64 m] w fun e w' => e = .returned (.tuple #[.int .i64 0, .bool false]) ∧ w' = w := by
  obtain ⟨ts, ⟨vm, vc, vs, ms, cs, ss, rfl, l⟩, hs, ok⟩ := Hid.out h
  exact Owner_no hs m (by rw [l.len]; exact hn)
theorem Count_all (h : Gt W w b S k us) (hn : n < S.count.length) :
    Calls Try.prog 14 #[.pointer (some ⟨b, 0, none⟩), .int .i64 (n : Int)] w fun e w' => e = .returned (.int .i64 (S.count.getD n 0)) ∧ w' = w := by
  obtain ⟨ts, ⟨vm, vc, vs, ms, cs, ss, rfl, l⟩, hs, ok⟩ := Hid.out h
  obtain ⟨s, hss, ew, ec⟩ := l.atS hn
  rw [ec]
  exact Count_yes hs n (by rw [l.lenS]; exact hn) hss
theorem Count_out (h : Gt W w b S k us) (m : Int) (hn : m < 0 ∨ (S.count.length : Int) ≤ m) :
    Calls Try.prog 14 #[.pointer (some ⟨b, 0, none⟩), .int .i64 m] w fun e w' => e = .returned (.int .i64 0) ∧ w' = w := by
  obtain ⟨ts, ⟨vm, vc, vs, ms, cs, ss, rfl, l⟩, hs, ok⟩ := Hid.out h
  exact Count_no hs m (by rw [l.lenS]; exact hn)
/-- A new list beside the gates. -/
theorem Gt.addRow {e : TypeId} {q m : Nat} {v : Value} {xs : List Value} (h : Gt W w b S k us) (u : Below w.heap.size w w') (hr : w'.ownsRow w.heap.size e q v m xs) : Gt W w' b S k (Dk.rowOf e q v m xs :: us) := h.map fun ts s => Dk.Sep.addRow s u hr
theorem Waiters1 (h : Gt W w b S k us) (hk : k ≤ 300) (hn : n < S.owner.length) (l : List Int) (el : S.wait.getD n [] = l) :
    Calls Try.prog 13 #[.pointer (some ⟨b, 0, none⟩), .int .i64 1, .int .i64 (n : Int)] w fun e w' => ∃ A C, e = .returned (.slice A l.length C) ∧ Gt W w' b S k (Dk.rowOf 3 1 (.slice A l.length C) l.length (Dk.is l) :: us) := by
  obtain ⟨ts, ⟨vm, vc, vs, ms, cs, ss, rfl, lk⟩, hs, ok⟩ := Hid.out h
  obtain ⟨m, hm, ew, eh, e1, e2⟩ := lk.atM hn
  rw [el] at ew
  refine (Waiters1_yes hs n (by rw [lk.len]; exact hn) hm (waitLen ok hk hn (by rw [el]; exact ew))).mono ?_
  rintro e w' ⟨A, C, rfl, u, r⟩
  rw [← ew] at r ⊢
  exact ⟨A, C, rfl, h.addRow u.out r.out⟩
theorem Waiters2 (h : Gt W w b S k us) (hk : k ≤ 300) (hn : n < S.conds.length) (l : List Int) (el : (S.conds.getD n []).map Prod.fst = l) :
    Calls Try.prog 13 #[.pointer (some ⟨b, 0, none⟩), .int .i64 2, .int .i64 (n : Int)] w fun e w' => ∃ A C, e = .returned (.slice A l.length C) ∧ Gt W w' b S k (Dk.rowOf 3 1 (.slice A l.length C) l.length (Dk.is l) :: us) := by
  obtain ⟨ts, ⟨vm, vc, vs, ms, cs, ss, rfl, lk⟩, hs, ok⟩ := Hid.out h
  obtain ⟨m, hm, ew⟩ := lk.atC hn
  refine (Waiters2_yes hs n (by rw [lk.lenC]; exact hn) hm (condLen ok hk hn ew)).mono ?_
  rintro e w' ⟨A, C, rfl, u, r⟩
  rw [ew] at el
  subst el
  rw [List.length_map]
  exact ⟨A, C, rfl, h.addRow u.out r.out⟩
theorem Waiters3 (h : Gt W w b S k us) (hk : k ≤ 300) (hn : n < S.count.length) (l : List Int) (el : S.downs.getD n [] = l) :
    Calls Try.prog 13 #[.pointer (some ⟨b, 0, none⟩), .int .i64 3, .int .i64 (n : Int)] w fun e w' => ∃ A C, e = .returned (.slice A l.length C) ∧ Gt W w' b S k (Dk.rowOf 3 1 (.slice A l.length C) l.length (Dk.is l) :: us) := by
  obtain ⟨ts, ⟨vm, vc, vs, ms, cs, ss, rfl, lk⟩, hs, ok⟩ := Hid.out h
  obtain ⟨m, hm, ew, ec⟩ := lk.atS hn
  rw [el] at ew
  refine (Waiters3_yes hs n (by rw [lk.lenS]; exact hn) hm (downLen ok hk hn (by rw [el]; exact ew))).mono ?_
  rintro e w' ⟨A, C, rfl, u, r⟩
  rw [← ew] at r ⊢
  exact ⟨A, C, rfl, h.addRow u.out r.out⟩
theorem Waiters1_out (h : Gt W w b S k us) (m : Int) (hn : m < 0 ∨ (S.owner.length : Int) ≤ m) :
    Calls Try.prog 13 #[.pointer (some ⟨b, 0, none⟩), .int .i64 1, .int .i64 m] w fun e w' => e = .returned (.slice none 0 0) ∧ w' = w := by
  obtain ⟨ts, ⟨vm, vc, vs, ms, cs, ss, rfl, l⟩, hs, ok⟩ := Hid.out h
  exact Waiters1_no hs m (by rw [l.len]; exact hn)
theorem Waiters2_out (h : Gt W w b S k us) (m : Int) (hn : m < 0 ∨ (S.conds.length : Int) ≤ m) :
    Calls Try.prog 13 #[.pointer (some ⟨b, 0, none⟩), .int .i64 2, .int .i64 m] w fun e w' => e = .returned (.slice none 0 0) ∧ w' = w := by
  obtain ⟨ts, ⟨vm, vc, vs, ms, cs, ss, rfl, l⟩, hs, ok⟩ := Hid.out h
  exact Waiters2_no hs m (by rw [l.lenC]; exact hn)
theorem Waiters3_out (h : Gt W w b S k us) (m : Int) (hn : m < 0 ∨ (S.count.length : Int) ≤ m) :
    Calls Try.prog 13 #[.pointer (some ⟨b, 0, none⟩), .int .i64 3, .int .i64 m] w fun e w' => e = .returned (.slice none 0 0) ∧ w' = w := by
  obtain ⟨ts, ⟨vm, vc, vs, ms, cs, ss, rfl, l⟩, hs, ok⟩ := Hid.out h
  exact Waiters3_no hs m (by rw [l.lenS]; exact hn)
end
end Go.Proofs.Ytjkdaankjondjaa
