/- Someone sleeps. -/
import Derived.Test.YtiaegeaogleepaaWm
import Derived.Test.YtiaegeaogleepaaUp
namespace Go.Proofs.Ytiaegeaogleepaa
set_option linter.unusedSimpArgs false
set_option linter.unusedVariables false
set_option linter.unnecessarySimpa false
open Go.RowKit Go.Maps

section
variable {B M : Nat} {w : World} {bd bm : Nat} {now : Int} {L : List (Int × Int)}

theorem Sleep_nil (x n : Int) (w : World) : Calls Try.prog 11 #[.pointer none, .int .i64 x, .int .i64 n] w fun e w' => e = .returned (.int .i64 1) ∧ w' = w := by
  go_enter Try.func11, Try.ntmps11
  go_wp2
  go_ret
  exact ⟨rfl, rfl⟩
theorem Sleep_few (bd : Nat) (x n : Int) (w : World) (h : n < 1) : Calls Try.prog 11 #[.pointer (some ⟨bd, 0, none⟩), .int .i64 x, .int .i64 n] w fun e w' => e = .returned (.int .i64 1) ∧ w' = w := by
  go_enter Try.func11, Try.ntmps11
  go_wp2
  go_ret
  exact ⟨rfl, rfl⟩
theorem Sleep_many (bd : Nat) (x n : Int) (w : World) (h : 1099511627776 < n) : Calls Try.prog 11 #[.pointer (some ⟨bd, 0, none⟩), .int .i64 x, .int .i64 n] w fun e w' => e = .returned (.int .i64 1) ∧ w' = w := by
  have y1 : decide (n < 1) = false := by simp; omega
  have y2 : decide (n > 1099511627776) = true := by simp; omega
  go_enter Try.func11, Try.ntmps11
  go_wp2
  go_ret
  exact ⟨rfl, rfl⟩
theorem Sleep_busy (h : WH B M w bd bm now L) {x n : Int} (hi : Dk.i64 x) (h1 : 1 ≤ n) (h2 : n ≤ 1099511627776) (hx : x ∈ Dk.keysOf L) : Calls Try.prog 11 #[.pointer (some ⟨bd, 0, none⟩), .int .i64 x, .int .i64 n] w fun e w' => e = .returned (.int .i64 4) ∧ w' = w := by
  have y1 : decide (n < 1) = false := by simp; omega
  have y2 : decide (n > 1099511627776) = false := by simp; omega
  have c1 : w.cell? ⟨bd, 1, none⟩ = some (.map (some bm)) := h.head.cell 1
  obtain ⟨c, hc⟩ := Dk.keys_mem.1 hx
  have hl := h.map.look_yes hi hc
  clear h hi hx hc
  go_enter Try.func11, Try.ntmps11
  go_wp2
  go_ret
  exact ⟨rfl, rfl⟩
theorem not_none (bm : Nat) (w : World) : (binOp BinOp.eql 41 (.map (some bm)) (.map none)).run Try.prog w = .ok (.bool false) w := by kernel_rfl
/-- The map is written. -/
theorem WH.put (h : WH B M w bd bm now L) {x c : Int} (hi : Dk.i64 x) (hc : Dk.i64 c) (hx : x ∉ Dk.keysOf L) (hM : M < 100000) (q : Nat) :
    ∃ w', (Instr.mapUpdate 41 (.map (some bm)) (.int .i64 x) (.int .i64 c)).run Try.prog (w.drewN q) = .ok () w' ∧ WH B (M + 1) w' bd bm now (L ++ [(x, c)]) ∧ Dk.Away (AtW bd bm) w w' := by
  have h' := h.up (Dk.up_drewN (Below.refl _ _) q)
  obtain ⟨D, n, hn, ho, ht⟩ := h'.map
  obtain ⟨w', hr, ho', hg⟩ := ho.update law3 Try.underlying41 (by unfold maxLen; omega) (keyOf_int_mk Try.underlying3 (wf_of hi)) (plainElem_int Try.underlying3 (wf_of hc))
  have ne := h.ne
  refine ⟨w', hr, ⟨h.base, h.baseM, h.lo, h.hi, h'.head.far hg ne, ⟨_, n + 1, by omega, ho', ht.put hx⟩, fun p hp => ?_⟩, ?_⟩
  · rcases List.mem_append.1 hp with hp | hp
    · exact h.wf p hp
    · rw [List.mem_singleton] at hp
      rw [hp]
      exact ⟨hi, hc⟩
  · exact (Dk.Away.of_up (Dk.up_drewN (Below.refl _ _) q)).trans (Dk.Away.of_grown (S := AtW bd bm) hg (fun k hk => .inl (.inr (Option.some.inj hk).symm))) (fun k hk => .inl hk)

set_option maxHeartbeats 1000000 in
theorem Sleep_ok (h : WH B M w bd bm now L) {x n : Int} (hi : Dk.i64 x) (h1 : 1 ≤ n) (h2 : n ≤ 1099511627776) (hx : x ∉ Dk.keysOf L) (hM : M < 100000) : Calls Try.prog 11 #[.pointer (some ⟨bd, 0, none⟩), .int .i64 x, .int .i64 n] w fun e w' => e = .returned (.int .i64 0) ∧ WH B (M + 1) w' bd bm now (L ++ [(x, min (now + n) 1099511627776)]) ∧ Dk.Away (AtW bd bm) w w' := by
  have y1 : decide (n < 1) = false := by simp; omega
  have y2 : decide (n > 1099511627776) = false := by simp; omega
  have c1 : ∀ q, (w.drewN q).cell? ⟨bd, 1, none⟩ = some (.map (some bm)) := fun q => (h.head.drewN q).cell 1
  have c1' : w.cell? ⟨bd, 1, none⟩ = some (.map (some bm)) := h.head.cell 1
  have hl := h.map.look_no hi hx
  have K : ∀ q, Calls Try.prog 14 #[.pointer (some ⟨bd, 0, none⟩), .int .i64 n] (w.drewN q) fun e w' => e = .returned (.int .i64 (min (now + n) 1099511627776)) ∧ w' = w.drewN q := fun q => after_any n (h.up (Dk.up_drewN (Below.refl _ _) q)) h1 h2
  have hc : Dk.i64 (min (now + n) 1099511627776) := by have := h.lo; have := h.hi; unfold Dk.i64; omega
  have P := fun q => h.put hi hc hx hM q
  generalize min (now + n) 1099511627776 = c at *
  have HP : Hid _ := P
  have hnn := not_none bm w
  clear P h hi hx hc
  go_enter Try.func11, Try.ntmps11
  go_wp2
  refine Dk.wp_region_last (C := fun w' => ∃ n, w' = w.drewN n) (D := fun w' => WH B (M + 1) w' bd bm now (L ++ [(x, c)]) ∧ Dk.Away (AtW bd bm) w w') (by kernel_rfl) (by kernel_rfl) ⟨1, rfl⟩ (by simp) ?_
  dsimp only [List.dropLast]
  repeat (go_big_quiet_step ((first | (go_at_call 14; exact (K _).mono fun e w' h => ⟨h.1, _, h.2⟩))))
  refine wpQuiet_nil ?_
  refine ⟨_, rfl, rfl, ?_, ?_⟩
  · rintro _ ⟨nq, rfl⟩
    obtain ⟨w', hr, hw⟩ := HP.out nq
    refine ⟨w', ?_, hw⟩
    simp [execOp, Act.eval, hr]
  · rintro w' hw
    have HW : Hid _ := hw
    clear hw
    go_wp2
    go_ret
    exact ⟨rfl, HW.out⟩
end

end Go.Proofs.Ytiaegeaogleepaa
