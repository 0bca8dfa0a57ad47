/- What the functions of layer 4 answer, and what they leave. -/
import Derived.Test.YtlbbejndglpclaaSm
import Derived.Test.YtlbbejndglpclaaUp
import Derived.WalkSpells
import Derived.WalkLawsBesides
import Derived.Deep.Draws
namespace Go.Proofs.Ytlbbejndglpclaa
set_option linter.unusedSimpArgs false
set_option linter.unusedVariables false
set_option linter.unnecessarySimpa false
open Go.RowKit

theorem info50 : (Try.prog.info? 50).map (fun i => (i.zero, i.size, i.bytes)) = some (some (.agg #[.int .u64 0, .bool false]), 2, 16) := by kernel_rfl

theorem make_slots (n : Nat) (hn : n ≤ 1024) (w : World) : (Instr.makeSlice 46 (.int .i64 (n : Int)) (.int .i64 (n : Int))).run Try.prog w = .ok (.slice (some ⟨w.heap.size, 0, none⟩) n n) (w.alloc (.cells (Dk.sc (Dk.blank n)) 50)) := by
  obtain ⟨i, hi, h0, h1, h2⟩ := info_parts info50
  have := run_make (P := Try.prog) w 46 50 i _ Try.underlying46 hi h0 .i64 .i64 (n : Int) (n : Int) (by omega) (Int.le_refl _) (by rw [h2]; omega) (by omega)
  rw [this, h1]
  simp only [Int.toNat_natCast]
  rw [← Dk.sc_blank]
  rfl

theorem handleAt_any (bt bs M : Nat) (st : Dk.St) (k : Nat) (w : World) (hT : Dk.Tab w bt bs M st) (hM : M ≤ 100000) (hk : k < st.length) :
    Calls Try.prog 15 #[.pointer (some ⟨bt, 0, none⟩), .int .i64 (k : Int)] w fun e w' => e = .returned (.int .u64 (Dk.hd st k : Nat)) ∧ w' = w := by
  have c0 : w.cell? ⟨bt, 0, none⟩ = some (.slice (some ⟨bs, 0, none⟩) st.length st.length) := hT.head.cell 0
  have c1 : w.cell? ⟨bs, k * 2, none⟩ = some (.int .u64 (Dk.tk st k : Nat)) := by rw [hT.row.cell]; exact (Dk.sc_at st k hk).1
  have hs := hT.small.2 k
  have hl := hT.small.1
  obtain ⟨t, ht⟩ : ∃ t, Dk.tk st k = t := ⟨_, rfl⟩
  have e1 : Dk.hd st k = t * 65536 + k + 1 := by unfold Dk.hd; rw [ht]
  rw [e1]
  rw [ht] at c1 hs
  clear e1 ht hT
  go_enter Try.func15, Try.ntmps15
  go_wp2
  go_ret
  exact ⟨rfl, rfl⟩

theorem isUsed_nil (k : Int) (w : World) :
    Calls Try.prog 16 #[.pointer none, .int .i64 k] w fun e w' => e = .returned (.bool false) ∧ w' = w := by
  go_enter Try.func16, Try.ntmps16
  go_wp2
  go_ret
  exact ⟨rfl, rfl⟩

/-- Is the slot used? -/
theorem isUsed_any (bt bs M : Nat) (st : Dk.St) (k : Int) (w : World) (hT : Dk.Tab w bt bs M st) :
    Calls Try.prog 16 #[.pointer (some ⟨bt, 0, none⟩), .int .i64 k] w fun e w' => e = .returned (.bool (decide (0 ≤ k) && Dk.us st k.toNat)) ∧ w' = w := by
  have c0 : w.cell? ⟨bt, 0, none⟩ = some (.slice (some ⟨bs, 0, none⟩) st.length st.length) := hT.head.cell 0
  have hl := hT.small.1
  by_cases h0 : 0 ≤ k
  · obtain ⟨n, rfl⟩ : ∃ n : Nat, k = n := ⟨k.toNat, by omega⟩
    by_cases h1 : n < st.length
    · have c1 : w.cell? ⟨bs, n * 2 + 1, none⟩ = some (.bool (Dk.us st n)) := by rw [hT.row.cell]; exact (Dk.sc_at st n h1).2
      have e : (decide ((0 : Int) ≤ n) && Dk.us st (n : Int).toNat) = Dk.us st n := by simp
      rw [e]
      generalize Dk.us st n = u at c1
      clear hT e
      go_enter Try.func16, Try.ntmps16
      go_wp2
      go_ret
      exact ⟨rfl, rfl⟩
    · have e : (decide ((0 : Int) ≤ n) && Dk.us st (n : Int).toNat) = false := by
        cases h : Dk.us st n
        · simp [h]
        · exact absurd (Dk.us_lt h) h1
      rw [e]
      clear hT e
      go_enter Try.func16, Try.ntmps16
      go_wp2
      go_ret
      exact ⟨rfl, rfl⟩
  · have e : (decide ((0 : Int) ≤ k) && Dk.us st k.toNat) = false := by simp [h0]
    rw [e]
    clear hT e
    go_enter Try.func16, Try.ntmps16
    go_wp2
    go_ret
    exact ⟨rfl, rfl⟩

theorem Find_nil (h : Nat) (hh : h < 18446744073709551616) (w : World) :
    Calls Try.prog 9 #[.pointer none, .int .u64 (h : Nat)] w fun e w' => e = .returned (.tuple #[.int .i64 0, .bool false]) ∧ w' = w := by
  go_enter Try.func9, Try.ntmps9
  go_wp2_with (go_at_call 16; refine (isUsed_nil _ _).mono ?_; rintro e w' ⟨rfl, rfl⟩)
  go_ret2
  exact ⟨rfl, rfl⟩

/-- The slot of a handle. -/
theorem Find_any (bt bs M : Nat) (st : Dk.St) (h : Nat) (w : World) (hT : Dk.Tab w bt bs M st) (hM : M ≤ 100000) (hh : h < 18446744073709551616) :
    Calls Try.prog 9 #[.pointer (some ⟨bt, 0, none⟩), .int .u64 (h : Nat)] w fun e w' => e = .returned (.tuple #[.int .i64 (((Dk.find st h).getD 0 : Nat) : Int), .bool (Dk.find st h).isSome]) ∧ w' = w := by
  by_cases h0 : h % 65536 = 0
  · have e : Dk.find st h = none := by unfold Dk.find; rw [if_pos h0]
    rw [e]
    have q : ((h : Int) % 65536) = 0 := by omega
    go_enter Try.func9, Try.ntmps9
    go_wp2_with (go_at_call 16; refine (isUsed_any bt bs M st _ _ hT).mono ?_; rintro e w' ⟨rfl, rfl⟩)
    go_ret2
    exact ⟨rfl, rfl⟩
  · obtain ⟨k, hk⟩ : ∃ k, h % 65536 = k + 1 := ⟨h % 65536 - 1, by omega⟩
    have q : ((h : Int) % 65536) = k + 1 := by omega
    have hk' : k < 65536 := by omega
    have ef : Dk.find st h = if Dk.us st k && Dk.hd st k == h then some k else none := by unfold Dk.find; rw [if_neg h0, hk, Nat.add_sub_cancel]
    cases hu : Dk.us st k
    · rw [hu] at ef
      simp at ef
      rw [ef]
      have e1 : (decide ((0 : Int) ≤ k) && Dk.us st (k : Int).toNat) = false := by simp [hu]
      have K : ∀ w : World, Dk.Tab w bt bs M st → Calls Try.prog 16 #[.pointer (some ⟨bt, 0, none⟩), .int .i64 (k : Int)] w fun e w' => e = .returned (.bool false) ∧ w' = w := fun w hT => by
        have := isUsed_any bt bs M st (k : Int) w hT
        rw [e1] at this
        exact this
      have HE : Hid _ := ef
      clear e1 ef hu
      go_enter Try.func9, Try.ntmps9
      go_wp2_with (go_at_call 16; refine (K _ hT).mono ?_; rintro e w' ⟨rfl, rfl⟩)
      go_ret2
      exact ⟨rfl, rfl⟩
    · have hkl := Dk.us_lt hu
      have e1 : (decide ((0 : Int) ≤ k) && Dk.us st (k : Int).toNat) = true := by simp [hu]
      have K : ∀ w : World, Dk.Tab w bt bs M st → Calls Try.prog 16 #[.pointer (some ⟨bt, 0, none⟩), .int .i64 (k : Int)] w fun e w' => e = .returned (.bool true) ∧ w' = w := fun w hT => by
        have := isUsed_any bt bs M st (k : Int) w hT
        rw [e1] at this
        exact this
      have K2 := fun w hT => handleAt_any bt bs M st k w hT hM hkl
      have hb : Dk.hd st k < 18446744073709551616 := Dk.hd_lt hT.small hM (Nat.lt_of_lt_of_le hkl hT.small.1)
      rw [hu] at ef
      generalize Dk.hd st k = g at ef K2 hb
      by_cases hg : g = h
      · subst hg
        simp at ef
        rw [ef]
        have y : ((g : Int) != (g : Int)) = false := by simp
        clear e1 ef hu
        go_enter Try.func9, Try.ntmps9
        go_wp2_with (first | (go_at_call 16; refine (K _ hT).mono ?_; rintro e w' ⟨rfl, rfl⟩) | (go_at_call 15; refine (K2 _ hT).mono ?_; rintro e w' ⟨rfl, rfl⟩))
        go_ret2
        exact ⟨rfl, rfl⟩
      · simp [hg] at ef
        rw [ef]
        have y : ((g : Int) != (h : Int)) = true := by simp; omega
        clear e1 ef hu
        go_enter Try.func9, Try.ntmps9
        go_wp2_with (first | (go_at_call 16; refine (K _ hT).mono ?_; rintro e w' ⟨rfl, rfl⟩) | (go_at_call 15; refine (K2 _ hT).mono ?_; rintro e w' ⟨rfl, rfl⟩))
        go_ret2
        exact ⟨rfl, rfl⟩

theorem Handle_nil (k : Int) (w : World) :
    Calls Try.prog 11 #[.pointer none, .int .i64 k] w fun e w' => e = .returned (.tuple #[.int .u64 0, .bool false]) ∧ w' = w := by
  go_enter Try.func11, Try.ntmps11
  go_wp2_with (go_at_call 16; refine (isUsed_nil _ _).mono ?_; rintro e w' ⟨rfl, rfl⟩)
  go_ret2
  exact ⟨rfl, rfl⟩
/-- The handle of a slot that is used. -/
theorem Handle_yes (bt bs M : Nat) (st : Dk.St) (k : Nat) (w : World) (hT : Dk.Tab w bt bs M st) (hM : M ≤ 100000) (hu : Dk.us st k = true) :
    Calls Try.prog 11 #[.pointer (some ⟨bt, 0, none⟩), .int .i64 (k : Int)] w fun e w' => e = .returned (.tuple #[.int .u64 (Dk.hd st k : Nat), .bool true]) ∧ w' = w := by
  have hkl := Dk.us_lt hu
  have e1 : (decide ((0 : Int) ≤ k) && Dk.us st (k : Int).toNat) = true := by simp [hu]
  have K : ∀ w : World, Dk.Tab w bt bs M st → Calls Try.prog 16 #[.pointer (some ⟨bt, 0, none⟩), .int .i64 (k : Int)] w fun e w' => e = .returned (.bool true) ∧ w' = w := fun w hT => by
    have := isUsed_any bt bs M st (k : Int) w hT
    rw [e1] at this
    exact this
  have K2 := fun w hT => handleAt_any bt bs M st k w hT hM hkl
  generalize Dk.hd st k = g at K2
  clear e1 hu
  go_enter Try.func11, Try.ntmps11
  go_wp2_with (first | (go_at_call 16; refine (K _ hT).mono ?_; rintro e w' ⟨rfl, rfl⟩) | (go_at_call 15; refine (K2 _ hT).mono ?_; rintro e w' ⟨rfl, rfl⟩))
  go_ret2
  exact ⟨rfl, rfl⟩
theorem Handle_no (bt bs M : Nat) (st : Dk.St) (k : Int) (w : World) (hT : Dk.Tab w bt bs M st) (hu : (decide (0 ≤ k) && Dk.us st k.toNat) = false) :
    Calls Try.prog 11 #[.pointer (some ⟨bt, 0, none⟩), .int .i64 k] w fun e w' => e = .returned (.tuple #[.int .u64 0, .bool false]) ∧ w' = w := by
  have K : ∀ w : World, Dk.Tab w bt bs M st → Calls Try.prog 16 #[.pointer (some ⟨bt, 0, none⟩), .int .i64 k] w fun e w' => e = .returned (.bool false) ∧ w' = w := fun w hT => by
    have := isUsed_any bt bs M st k w hT
    rw [hu] at this
    exact this
  clear hu
  go_enter Try.func11, Try.ntmps11
  go_wp2_with (go_at_call 16; refine (K _ hT).mono ?_; rintro e w' ⟨rfl, rfl⟩)
  go_ret2
  exact ⟨rfl, rfl⟩

theorem Free_nil (h : Nat) (hh : h < 18446744073709551616) (w : World) :
    Calls Try.prog 10 #[.pointer none, .int .u64 (h : Nat)] w fun e w' => e = .returned (.int .i64 3) ∧ w' = w := by
  go_enter Try.func10, Try.ntmps10
  go_wp2_with (go_at_call 9; refine (Find_nil _ hh _).mono ?_; rintro e w' ⟨rfl, rfl⟩)
  go_ret
  exact ⟨rfl, rfl⟩
theorem Free_no (bt bs M : Nat) (st : Dk.St) (h : Nat) (w : World) (hT : Dk.Tab w bt bs M st) (hM : M ≤ 100000) (hh : h < 18446744073709551616) (hf : Dk.find st h = none) :
    Calls Try.prog 10 #[.pointer (some ⟨bt, 0, none⟩), .int .u64 (h : Nat)] w fun e w' => e = .returned (.int .i64 3) ∧ w' = w := by
  have K := fun w hT => Find_any bt bs M st h w hT hM hh
  rw [hf] at K
  clear hf
  go_enter Try.func10, Try.ntmps10
  go_wp2_with (go_at_call 9; refine (K _ hT).mono ?_; rintro e w' ⟨rfl, rfl⟩)
  go_ret
  exact ⟨rfl, rfl⟩
theorem Free_yes (bt bs M : Nat) (st : Dk.St) (h k : Nat) (w : World) (hT : Dk.Tab w bt bs M st) (hM : M ≤ 100000) (hh : h < 18446744073709551616) (hf : Dk.find st h = some k) :
    Calls Try.prog 10 #[.pointer (some ⟨bt, 0, none⟩), .int .u64 (h : Nat)] w fun e w' => e = .returned (.int .i64 0) ∧ w' = w.setCell ⟨bs, k * 2 + 1, none⟩ (.bool false) := by
  have K := fun w hT => Find_any bt bs M st h w hT hM hh
  have hk := (Dk.find_some hf).2.2.1
  have hl := hT.small.1
  rw [hf] at K
  clear hf
  have c0 : w.cell? ⟨bt, 0, none⟩ = some (.slice (some ⟨bs, 0, none⟩) st.length st.length) := hT.head.cell 0
  have c1 : w.cell? ⟨bs, k * 2 + 1, none⟩ = some (.bool (Dk.us st k)) := by rw [hT.row.cell]; exact (Dk.sc_at st k hk).2
  have c2 : w.frozen? ⟨bs, k * 2 + 1, none⟩ = false := hT.row.frozen _
  go_enter Try.func10, Try.ntmps10
  go_wp2_with (go_at_call 9; refine (K _ hT).mono ?_; rintro e w' ⟨rfl, rfl⟩)
  go_ret
  exact ⟨rfl, rfl⟩
/-- A slot is made free. -/
theorem Free_any (bt bs M : Nat) (st : Dk.St) (h : Nat) (w : World) (hT : Dk.Tab w bt bs M st) (hM : M ≤ 100000) (hh : h < 18446744073709551616) :
    Calls Try.prog 10 #[.pointer (some ⟨bt, 0, none⟩), .int .u64 (h : Nat)] w fun e w' => e = .returned (.int .i64 (if (Dk.find st h).isSome then 0 else 3)) ∧ Dk.Tab w' bt bs M (Dk.freed st h) ∧ w.grownBy w' (some bs) := by
  unfold Dk.freed
  cases hf : Dk.find st h with
  | none =>
    refine (Free_no bt bs M st h w hT hM hh hf).mono ?_
    rintro e w' ⟨rfl, rfl⟩
    exact ⟨rfl, hT, Dk.far_refl _ _⟩
  | some k =>
    refine (Free_yes bt bs M st h k w hT hM hh hf).mono ?_
    rintro e w' ⟨rfl, rfl⟩
    exact ⟨rfl, hT.flag k false (Dk.find_some hf).2.2.1, Dk.far_set (Dk.far_refl _ _) _ _⟩

theorem new_post (n c : Nat) (hc : c ≤ 1024) (w : World) (e : n = c) : Dk.Tab ((w.alloc (.cells (Dk.sc (Dk.blank c)) 50)).alloc (.cells #[.slice (some ⟨w.heap.size, 0, none⟩) c c] 48)) (w.heap.size + 1) w.heap.size 0 (Dk.blank n) ∧ Below w.heap.size w ((w.alloc (.cells (Dk.sc (Dk.blank c)) 50)).alloc (.cells #[.slice (some ⟨w.heap.size, 0, none⟩) c c] 48)) ∧
    ((w.alloc (.cells (Dk.sc (Dk.blank c)) 50)).alloc (.cells #[.slice (some ⟨w.heap.size, 0, none⟩) c c] 48)).heap.size = w.heap.size + 2 := by
  subst e
  refine ⟨⟨?_, (Dk.Box.new _ _ _).old _, by omega, Dk.Small.blank hc⟩, Dk.up_alloc (Dk.up_alloc (Below.refl _ _) _) _, by simp⟩
  have := Dk.Box.new (w.alloc (.cells (Dk.sc (Dk.blank n)) 50)) #[.slice (some ⟨w.heap.size, 0, none⟩) n n] 48
  rw [World.size_alloc] at this
  have e : (Dk.blank n).length = n := by simp [Dk.blank]
  rw [e]
  exact this

/-- A table of free slots. -/
theorem New_any (n : Int) (hn : Dk.i64 n) (w : World) :
    Calls Try.prog 7 #[.int .i64 n] w fun e w' => e = .returned (.pointer (some ⟨w.heap.size + 1, 0, none⟩)) ∧ Dk.Tab w' (w.heap.size + 1) w.heap.size 0 (Dk.blank (Dk.clamp n)) ∧ Below w.heap.size w w' ∧ w'.heap.size = w.heap.size + 2 := by
  by_cases h0 : n < 0
  · have hmk : ∀ w : World, (Instr.makeSlice 46 (.int .i64 0) (.int .i64 0)).run Try.prog w = .ok (.slice (some ⟨w.heap.size, 0, none⟩) 0 0) (w.alloc (.cells (Dk.sc (Dk.blank 0)) 50)) := make_slots 0 (by omega)
    have hp := new_post (Dk.clamp n) 0 (by omega) w (by unfold Dk.clamp; rw [if_pos h0])
    go_enter Try.func7, Try.ntmps7
    go_wp2
    go_ret
    exact ⟨rfl, hp⟩
  · by_cases h1 : 1024 < n
    · have hmk : ∀ w : World, (Instr.makeSlice 46 (.int .i64 1024) (.int .i64 1024)).run Try.prog w = .ok (.slice (some ⟨w.heap.size, 0, none⟩) 1024 1024) (w.alloc (.cells (Dk.sc (Dk.blank 1024)) 50)) := make_slots 1024 (by omega)
      have hp := new_post (Dk.clamp n) 1024 (by omega) w (by unfold Dk.clamp; rw [if_neg h0, if_pos h1])
      go_enter Try.func7, Try.ntmps7
      go_wp2
      go_ret
      exact ⟨rfl, hp⟩
    · obtain ⟨c, rfl⟩ : ∃ c : Nat, n = c := ⟨n.toNat, by omega⟩
      have hmk := make_slots c (by omega)
      have hp := new_post (Dk.clamp c) c (by omega) w (by unfold Dk.clamp; rw [if_neg h0, if_neg h1]; rfl)
      go_enter Try.func7, Try.ntmps7
      go_wp2
      go_ret
      exact ⟨rfl, hp⟩

end Go.Proofs.Ytlbbejndglpclaa
