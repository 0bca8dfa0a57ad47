/- Up against the document's answer. -/
import Derived.Test.YtjkdaankjondjaaGi
namespace Dk
open Go Go.RowKit
theorem wp_region_up_lit_of {P : Go.Program} {id : Nat} {Q : Exit → Act → World → Prop} {a : Act} {w0 w : World} {l : List Oper} (hb : Below w0.heap.size w0 w) (hm : P.follows .mixedOrders = true) (hB : Region.lexB .any l.toArray = true)
    (h : wpQuiet P l.toArray (fun w' => ∃ x : Up w0, w' = x.wd) (fun a' => ∀ w', (∃ x : Up w0, w' = x.wd) → Q .normal a' w') l a) : (Code.region id l.toArray true).wp P Q a w :=
  wp_region_quiet (C := fun w' => ∃ x : Up w0, w' = x.wd) hm hB ⟨⟨_, up_drew hb⟩, rfl⟩ (by simpa using h)
end Dk
namespace Go.Proofs.Ytjkdaankjondjaa
set_option linter.unusedSimpArgs false
set_option linter.unusedVariables false
set_option linter.unnecessarySimpa false
open Go.RowKit
section
variable {G0 : Nat → Dk.St → List Dk.Thing → Prop} {W w : World} {bg bm k : Nat} {S : Dk.St} {V : Dk.Vs} {us ts : List Dk.Thing}
set_option maxRecDepth 100000 in
set_option maxHeartbeats 4000000 in
theorem sem_up_arg (I : GateI G0) (hG : G0 bg S ts) (h : Dk.Sep W w (Dk.mdl bm V S ++ (us ++ ts))) (ok : Dk.Ok S k) (hk : k ≤ 300) (what who num mm choice : Int) (hw5 : ¬ what = 5) (hno : num < 0 ∨ (S.count.length : Int) ≤ num) :
    Calls Try.prog 28 #[.pointer (some ⟨bg, 0, none⟩), .pointer (some ⟨bm, 0, none⟩), .agg #[.int .i64 what, .int .i64 who, .int .i64 num, .int .i64 mm, .int .i64 choice]] w fun e w' => e = .returned (.bool true) ∧ Both G0 W w' bg bm (k + 1) us := by
  obtain ⟨W1, e1⟩ : ∃ W1, W1 = w.alloc (.cells #[.int .i64 what, .int .i64 who, .int .i64 num, .int .i64 mm, .int .i64 choice] 30) := ⟨_, rfl⟩
  have h1 : Dk.Sep W W1 (Dk.mdl bm V S ++ (Dk.boxOf w.heap.size #[.int .i64 what, .int .i64 who, .int .i64 num, .int .i64 mm, .int .i64 choice] 30 :: us ++ ts)) := (h.newBox e1).perm List.perm_middle.symm
  have H1 : Hid (w.alloc (.cells #[.int .i64 what, .int .i64 who, .int .i64 num, .int .i64 mm, .int .i64 choice] 30) = W1) := e1.symm
  obtain ⟨b5, eb5⟩ : ∃ b5, w.heap.size = b5 := ⟨_, rfl⟩
  rw [eb5] at h1
  have HB5 : Hid (w.heap.size = b5) := eb5
  clear e1 eb5
  have ab : ∀ y : Dk.Up W1, Dk.Box y.wd b5 #[.int .i64 what, .int .i64 who, .int .i64 num, .int .i64 mm, .int .i64 choice] 30 := fun y => (h1.below y.property).box (by simp)
  have a0 : ∀ y : Dk.Up W1, y.wd.cell? ⟨b5, 0, none⟩ = some (.int .i64 what) := fun y => (ab y).cell 0
  have a1 : ∀ y : Dk.Up W1, y.wd.cell? ⟨b5, 1, none⟩ = some (.int .i64 who) := fun y => (ab y).cell 1
  have a2 : ∀ y : Dk.Up W1, y.wd.cell? ⟨b5, 2, none⟩ = some (.int .i64 num) := fun y => (ab y).cell 2
  have a4 : ∀ y : Dk.Up W1, y.wd.cell? ⟨b5, 4, none⟩ = some (.int .i64 choice) := fun y => (ab y).cell 4
  have an : Nonempty (Dk.Up W1) := ⟨⟨W1, Below.refl _ _⟩⟩
  obtain ⟨Ad4, Cd4, ed4, qd4, md4⟩ := Dk.owns_slice (Dk.Mdl.count h1)
  have d4 : ∀ y : Dk.Up W1, y.wd.cell? ⟨bm, 4, none⟩ = some (.slice Ad4 S.count.length Cd4) := fun y => by rw [← ed4]; exact (Dk.Mdl.head (h1.below y.property)).cell 4
  have K1 : ∀ y : Dk.Up W1, Calls Try.prog 24 #[.int .i64 num, .int .i64 (S.count.length : Int)] y.wd fun e w' => e = .returned (.bool false) ∧ w' = y.wd := fun y => is_no num S.count.length hno y.wd
  have C1 : Hid _ := K1
  clear K1
  have hw5b : decide (what = 5) = false := decide_eq_false hw5
  have hw5c : (what == 5) = false := by simpa using hw5
  clear hw5
  go_enter Try.func28, Try.ntmps28
  go_wp2_with (rw [H1.out, HB5.out]; clear H1)
  refine Dk.wp_region_up_lit (by kernel_rfl) (by kernel_rfl) ?_
  repeat (go_big_quiet_step ((go_at_call 24; exact Dk.calls_up_same _ (C1.out _))))
  refine wpQuiet_nil ?_
  intro _ hw'
  obtain ⟨y, hw''⟩ := hw'
  subst hw''
  have h2 : Dk.Sep W y.wd (Dk.mdl bm V S ++ (Dk.boxOf b5 #[.int .i64 what, .int .i64 who, .int .i64 num, .int .i64 mm, .int .i64 choice] 30 :: us ++ ts)) := h1.below y.property
  clear h1
  generalize y.wd = w2 at *
  have bb : ∀ y : Dk.Up w2, Dk.Box y.wd b5 #[.int .i64 what, .int .i64 who, .int .i64 num, .int .i64 mm, .int .i64 choice] 30 := fun y => (h2.below y.property).box (by simp)
  have b0 : ∀ y : Dk.Up w2, y.wd.cell? ⟨b5, 0, none⟩ = some (.int .i64 what) := fun y => (bb y).cell 0
  have b1 : ∀ y : Dk.Up w2, y.wd.cell? ⟨b5, 1, none⟩ = some (.int .i64 who) := fun y => (bb y).cell 1
  have b2 : ∀ y : Dk.Up w2, y.wd.cell? ⟨b5, 2, none⟩ = some (.int .i64 num) := fun y => (bb y).cell 2
  have b4 : ∀ y : Dk.Up w2, y.wd.cell? ⟨b5, 4, none⟩ = some (.int .i64 choice) := fun y => (bb y).cell 4
  have bn : Nonempty (Dk.Up w2) := ⟨⟨w2, Below.refl _ _⟩⟩
  have bz : Dk.Up w2 := ⟨w2, Below.refl _ _⟩
  have c0 : w2.cell? ⟨b5, 0, none⟩ = some (.int .i64 what) := b0 ⟨w2, Below.refl _ _⟩
  have c1 : w2.cell? ⟨b5, 1, none⟩ = some (.int .i64 who) := b1 ⟨w2, Below.refl _ _⟩
  have c2 : w2.cell? ⟨b5, 2, none⟩ = some (.int .i64 num) := b2 ⟨w2, Below.refl _ _⟩
  have c4 : w2.cell? ⟨b5, 4, none⟩ = some (.int .i64 choice) := b4 ⟨w2, Below.refl _ _⟩
  clear b0 b1 b2 b4 bb bn bz
  have K2 := I.up_arg hG (toG h2) ok hk num choice hno
  go_wp2_with fail
  refine K2.mono ?_
  rintro e w3 ⟨rfl, ts', hG', h3'⟩
  have h3 := ofG h3'
  clear K2 h3' c0 c1 c2 c4 h2 a0 a1 a2 a4 ab an d4 ed4 C1
  go_wp2_with fail
  go_ret
  exact ⟨rfl, S, _, ts', hG', dropX h3, ok.mono (by omega)⟩
set_option maxRecDepth 100000 in
set_option maxHeartbeats 4000000 in
theorem sem_up_some (I : GateI G0) (hG : G0 bg S ts) (h : Dk.Sep W w (Dk.mdl bm V S ++ (us ++ ts))) (ok : Dk.Ok S k) (hk : k ≤ 300) (what who : Int) (num : Nat) (mm choice : Int) (hw5 : ¬ what = 5) (hn : num < S.count.length) (hch : Dk.i64 choice) (hlp : 0 < (S.downs.getD num []).length) :
    Calls Try.prog 28 #[.pointer (some ⟨bg, 0, none⟩), .pointer (some ⟨bm, 0, none⟩), .agg #[.int .i64 what, .int .i64 who, .int .i64 (num : Int), .int .i64 mm, .int .i64 choice]] w fun e w' => e = .returned (.bool true) ∧ Both G0 W w' bg bm (k + 1) us := by
  obtain ⟨W1, e1⟩ : ∃ W1, W1 = w.alloc (.cells #[.int .i64 what, .int .i64 who, .int .i64 (num : Int), .int .i64 mm, .int .i64 choice] 30) := ⟨_, rfl⟩
  have h1 : Dk.Sep W W1 (Dk.mdl bm V S ++ (Dk.boxOf w.heap.size #[.int .i64 what, .int .i64 who, .int .i64 (num : Int), .int .i64 mm, .int .i64 choice] 30 :: us ++ ts)) := (h.newBox e1).perm List.perm_middle.symm
  have H1 : Hid (w.alloc (.cells #[.int .i64 what, .int .i64 who, .int .i64 (num : Int), .int .i64 mm, .int .i64 choice] 30) = W1) := e1.symm
  obtain ⟨b5, eb5⟩ : ∃ b5, w.heap.size = b5 := ⟨_, rfl⟩
  rw [eb5] at h1
  have HB5 : Hid (w.heap.size = b5) := eb5
  clear e1 eb5
  have ab : ∀ y : Dk.Up W1, Dk.Box y.wd b5 #[.int .i64 what, .int .i64 who, .int .i64 (num : Int), .int .i64 mm, .int .i64 choice] 30 := fun y => (h1.below y.property).box (by simp)
  have a0 : ∀ y : Dk.Up W1, y.wd.cell? ⟨b5, 0, none⟩ = some (.int .i64 what) := fun y => (ab y).cell 0
  have a1 : ∀ y : Dk.Up W1, y.wd.cell? ⟨b5, 1, none⟩ = some (.int .i64 who) := fun y => (ab y).cell 1
  have a2 : ∀ y : Dk.Up W1, y.wd.cell? ⟨b5, 2, none⟩ = some (.int .i64 (num : Int)) := fun y => (ab y).cell 2
  have a4 : ∀ y : Dk.Up W1, y.wd.cell? ⟨b5, 4, none⟩ = some (.int .i64 choice) := fun y => (ab y).cell 4
  have an : Nonempty (Dk.Up W1) := ⟨⟨W1, Below.refl _ _⟩⟩
  obtain ⟨Ad4, Cd4, ed4, qd4, md4⟩ := Dk.owns_slice (Dk.Mdl.count h1)
  have d4 : ∀ y : Dk.Up W1, y.wd.cell? ⟨bm, 4, none⟩ = some (.slice Ad4 S.count.length Cd4) := fun y => by rw [← ed4]; exact (Dk.Mdl.head (h1.below y.property)).cell 4
  have K1 : ∀ y : Dk.Up W1, Calls Try.prog 24 #[.int .i64 (num : Int), .int .i64 (S.count.length : Int)] y.wd fun e w' => e = .returned (.bool true) ∧ w' = y.wd := fun y => is_yes num S.count.length hn y.wd
  have C1 : Hid _ := K1
  clear K1
  have hw5b : decide (what = 5) = false := decide_eq_false hw5
  have hw5c : (what == 5) = false := by simpa using hw5
  clear hw5
  go_enter Try.func28, Try.ntmps28
  go_wp2_with (rw [H1.out, HB5.out]; clear H1)
  refine Dk.wp_region_up_lit (by kernel_rfl) (by kernel_rfl) ?_
  repeat (go_big_quiet_step ((go_at_call 24; exact Dk.calls_up_same _ (C1.out _))))
  refine wpQuiet_nil ?_
  intro _ hw'
  obtain ⟨y, hw''⟩ := hw'
  subst hw''
  have h2 : Dk.Sep W y.wd (Dk.mdl bm V S ++ (Dk.boxOf b5 #[.int .i64 what, .int .i64 who, .int .i64 (num : Int), .int .i64 mm, .int .i64 choice] 30 :: us ++ ts)) := h1.below y.property
  clear h1
  generalize y.wd = w2 at *
  have bb : ∀ y : Dk.Up w2, Dk.Box y.wd b5 #[.int .i64 what, .int .i64 who, .int .i64 (num : Int), .int .i64 mm, .int .i64 choice] 30 := fun y => (h2.below y.property).box (by simp)
  have b0 : ∀ y : Dk.Up w2, y.wd.cell? ⟨b5, 0, none⟩ = some (.int .i64 what) := fun y => (bb y).cell 0
  have b1 : ∀ y : Dk.Up w2, y.wd.cell? ⟨b5, 1, none⟩ = some (.int .i64 who) := fun y => (bb y).cell 1
  have b2 : ∀ y : Dk.Up w2, y.wd.cell? ⟨b5, 2, none⟩ = some (.int .i64 (num : Int)) := fun y => (bb y).cell 2
  have b4 : ∀ y : Dk.Up w2, y.wd.cell? ⟨b5, 4, none⟩ = some (.int .i64 choice) := fun y => (bb y).cell 4
  have bn : Nonempty (Dk.Up w2) := ⟨⟨w2, Below.refl _ _⟩⟩
  have bz : Dk.Up w2 := ⟨w2, Below.refl _ _⟩
  have c0 : w2.cell? ⟨b5, 0, none⟩ = some (.int .i64 what) := b0 ⟨w2, Below.refl _ _⟩
  have c1 : w2.cell? ⟨b5, 1, none⟩ = some (.int .i64 who) := b1 ⟨w2, Below.refl _ _⟩
  have c2 : w2.cell? ⟨b5, 2, none⟩ = some (.int .i64 (num : Int)) := b2 ⟨w2, Below.refl _ _⟩
  have c4 : w2.cell? ⟨b5, 4, none⟩ = some (.int .i64 choice) := b4 ⟨w2, Below.refl _ _⟩
  clear b0 b1 b2 b4 bb bn bz
  obtain ⟨xa, hanswer⟩ : ∃ xa, (S.downs.getD num []).getD (Dk.at_ choice (S.downs.getD num []).length) 0 = xa := ⟨_, rfl⟩
  have K2 := I.up_some hG (toG h2) ok hk num choice hn hch hlp
  rw [hanswer] at K2
  go_wp2_with fail
  refine K2.mono ?_
  rintro e w3 ⟨rfl, ts', hG', h3'⟩
  have h3 := ofG h3'
  clear K2 h3' c0 c1 c2 c4 h2 a0 a1 a2 a4 ab an d4 ed4 C1
  have bb : ∀ y : Dk.Up w3, Dk.Box y.wd b5 #[.int .i64 what, .int .i64 who, .int .i64 (num : Int), .int .i64 mm, .int .i64 choice] 30 := fun y => (h3.below y.property).box (by simp)
  have b0 : ∀ y : Dk.Up w3, y.wd.cell? ⟨b5, 0, none⟩ = some (.int .i64 what) := fun y => (bb y).cell 0
  have b1 : ∀ y : Dk.Up w3, y.wd.cell? ⟨b5, 1, none⟩ = some (.int .i64 who) := fun y => (bb y).cell 1
  have b2 : ∀ y : Dk.Up w3, y.wd.cell? ⟨b5, 2, none⟩ = some (.int .i64 (num : Int)) := fun y => (bb y).cell 2
  have b4 : ∀ y : Dk.Up w3, y.wd.cell? ⟨b5, 4, none⟩ = some (.int .i64 choice) := fun y => (bb y).cell 4
  have bn : Nonempty (Dk.Up w3) := ⟨⟨w3, Below.refl _ _⟩⟩
  have up : ∀ b o v, w3.cell? ⟨b, o, none⟩ = some v → ∀ y : Dk.Up w3, y.wd.cell? ⟨b, o, none⟩ = some v := fun b o v hv y => (y.property.cell (p := ⟨b, o, none⟩) (lt_of_cell' hv)).trans hv
  have hdn : num < S.downs.length := by rw [ok.downs]; exact hn
  have hdl := ok.downLen (Dk.getD_mem S.downs [] num hdn)
  have f5 := (Dk.Mdl.head h3).cell 5
  obtain ⟨g5, C5, A, L, C', e5, q5, m5, hL, hv5, c5, _, ho5, _⟩ := Mdl.putDowns h3 (n := num) hdn
  have f5' : w3.cell? ⟨bm, 5, none⟩ = some (.slice (some ⟨g5, 0, none⟩) S.downs.length C5) := by rw [← e5]; exact f5
  unfold maxLen at m5
  have d5 := up _ _ _ f5'
  have d6 := up _ _ _ c5
  have hdi : (num : Int) < (S.downs.length : Int) := by omega
  clear f5 f5' c5
  obtain ⟨l, el⟩ : ∃ l, S.downs.getD num [] = l := ⟨_, rfl⟩
  rw [el] at hL ho5 hdl hlp hG'
  subst hL
  have zp : decide (0 < l.length) = true := decide_eq_true hlp
  have zp' : decide ((0 : Int) < (l.length : Int)) = true := decide_eq_true (by omega)
  have zp'' : decide ((l.length : Int) > 0) = true := decide_eq_true (by omega)
  obtain ⟨_, ⟨_, h00⟩ | ⟨gi, capi, curi, eq0, _⟩⟩ := id ho5
  · omega
  injection eq0 with eAi eLi eCi
  clear eLi
  subst eAi eCi
  obtain ⟨a, ea⟩ : ∃ a, Dk.at_ choice l.length = a := ⟨_, rfl⟩
  have hal : a < l.length := by rw [← ea]; exact Dk.at_lt choice hlp
  have KP : ∀ y : Dk.Up w3, Calls Try.prog 16 #[.int .i64 choice, .int .i64 (l.length : Int)] y.wd fun e w' => e = .returned (.int .i64 (a : Int)) ∧ w' = y.wd := fun y => by rw [← ea]; exact pick_any choice l.length hch hlp (by omega) y.wd
  have CP : Hid _ := KP
  rw [ea] at hG'
  obtain ⟨x, ex⟩ : ∃ x, l.getD a 0 = x := ⟨_, rfl⟩
  have cx : w3.cell? ⟨gi, a, none⟩ = some (.int .i64 x) := by
    have q := ho5.cells (g := gi) rfl a (.int .i64 x) (by rw [← ex]; simp [List.getD, hal])
    rw [Addr.add_lit, Nat.zero_add] at q
    exact q
  have d7 := up _ _ _ cx
  rw [el, ea, ex] at hanswer
  subst hanswer
  clear ea KP cx
  have hai : (a : Int) < (l.length : Int) := by omega
  go_wp2_with fail
  refine Dk.wp_region_up_lit (by kernel_rfl) (by kernel_rfl) ?_
  repeat (go_big_quiet_step (fail))
  refine wpQuiet_nil ?_
  intro _ hw'
  obtain ⟨y, hw''⟩ := hw'
  subst hw''
  have z1 : Below w3.heap.size w3 y.wd := y.property
  go_wp2_with fail
  refine Dk.wp_region_up_lit_of (w0 := w3) z1 (by kernel_rfl) (by kernel_rfl) ?_
  repeat (go_big_quiet_step ((go_at_call 16; exact Dk.calls_up_same _ (CP.out _))))
  refine wpQuiet_nil ?_
  intro _ hw'
  clear z1
  obtain ⟨y, hw''⟩ := hw'
  subst hw''
  have z1 : Below w3.heap.size w3 y.wd := y.property
  go_wp2_with fail
  refine Dk.wp_region_up_lit_of (w0 := w3) z1 (by kernel_rfl) (by kernel_rfl) ?_
  repeat (go_big_quiet_step (fail))
  refine wpQuiet_nil ?_
  intro _ hw'
  clear z1
  obtain ⟨y, hw''⟩ := hw'
  subst hw''
  have z1 : Below w3.heap.size w3 y.wd := y.property
  go_wp2_with fail
  have u5 : Below w3.heap.size w3 y.wd.drew := Dk.up_drew y.property
  obtain ⟨W5, e5'⟩ : ∃ W5, W5 = y.wd.drew := ⟨_, rfl⟩
  rw [← e5'] at u5
  have h5 := h3.below u5
  obtain ⟨g5', C5', A', L', C'', e5'', _, _, hL', hv5', c5', z5', ho5', put⟩ := Mdl.putDowns h5 (n := num) hdn
  have eg5 : g5' = g5 := by
    have q := e5.symm.trans e5''
    simp at q
    exact q.1.symm
  subst eg5
  obtain ⟨eA', eL', eC'⟩ : A' = some ⟨gi, 0, none⟩ ∧ L' = l.length ∧ C'' = C' := by
    have q := hv5'.symm.trans hv5
    simpa using q
  subst eA' eL' eC'
  have KW := Without_any W.heap.size (.slice (some ⟨gi, 0, none⟩) l.length C'') l a W5 (owns_up ho5 u5) hal (by omega)
  have fin : ∀ v' w6, w6.ownsRow W5.heap.size 3 1 v' (l.eraseIdx a).length (Dk.is (l.eraseIdx a)) → Below W5.heap.size W5 w6 → w6.cell? ⟨g5', num, none⟩ = some (.slice (some ⟨gi, 0, none⟩) l.length C'') ∧ w6.frozen? ⟨g5', num, none⟩ = false ∧ (∃ A L C, v' = .slice A L C) ∧ ∃ V', Dk.Sep W (w6.setCell ⟨g5', num, none⟩ v') (Dk.mdl bm V' { S with downs := S.downs.set num (l.eraseIdx a) } ++ (Dk.boxOf b5 #[.int .i64 what, .int .i64 who, .int .i64 (num : Int), .int .i64 mm, .int .i64 choice] 30 :: us ++ ts')) := by
    intro v' w6 ho6 hb6
    obtain ⟨r1, r2, r3⟩ := put w6 v' (l.eraseIdx a) (Dk.Away.of_up hb6) (Dk.owns_base ho6 (Nat.zero_le _)) (Dk.From.new (w := W5) ho6)
    obtain ⟨Ax, Cx, ex, _, _⟩ := Dk.owns_slice ho6
    exact ⟨r1, r2, ⟨_, _, _, ex⟩, ⟨_, r3⟩⟩
  have HF : Hid (∀ v' w6, w6.ownsRow W5.heap.size 3 1 v' (l.eraseIdx a).length (Dk.is (l.eraseIdx a)) → Below W5.heap.size W5 w6 → w6.cell? ⟨g5', num, none⟩ = some (.slice (some ⟨gi, 0, none⟩) l.length C'') ∧ w6.frozen? ⟨g5', num, none⟩ = false ∧ (∃ A L C, v' = .slice A L C) ∧ ∃ V', Dk.Sep W (w6.setCell ⟨g5', num, none⟩ v') (Dk.mdl bm V' { S with downs := S.downs.set num (l.eraseIdx a) } ++ (Dk.boxOf b5 #[.int .i64 what, .int .i64 who, .int .i64 (num : Int), .int .i64 mm, .int .i64 choice] 30 :: us ++ ts'))) := fin
  have HUP : Hid (∀ y : Dk.Up w3, y.wd.cell? ⟨bm, 5, none⟩ = some (.slice (some ⟨g5', 0, none⟩) S.downs.length C5) ∧ y.wd.cell? ⟨b5, 2, none⟩ = some (.int .i64 (num : Int)) ∧ y.wd.cell? ⟨g5', num, none⟩ = some (.slice (some ⟨gi, 0, none⟩) l.length C'')) := fun y => ⟨d5 y, b2 y, d6 y⟩
  have HU5 : Hid (Below w3.heap.size w3 W5) := u5
  have ok7 : Dk.Ok { S with downs := S.downs.set num (l.eraseIdx a) } (k + 1) := ok.setDowns num hdn _ (Dk.erase_mem (by rw [← el]; exact ok.downsI _ (Dk.getD_mem S.downs [] num hdn))) (by rw [el, List.length_eraseIdx, if_pos hal]; omega)
  have HS0 : Hid (W5.cell? ⟨bm, 5, none⟩ = some (.slice (some ⟨g5', 0, none⟩) S.downs.length C5) ∧ W5.cell? ⟨b5, 2, none⟩ = some (.int .i64 (num : Int)) ∧ W5.cell? ⟨g5', num, none⟩ = some (.slice (some ⟨gi, 0, none⟩) l.length C'')) := HUP.out ⟨W5, HU5.out⟩
  have HE5 : Hid (W5 = y.wd.drew) := e5'
  clear b0 b1 b2 b4 bb bn d5 d6 d7 h3 h5 put fin ho5 ho5' hv5 hv5' e5 e5'' e5' ok el ex up c5' z5' hL' u5 z1 CP
  refine Dk.wp_region_lineZ (z := 17) (S := fun w' => w'.cell? ⟨bm, 5, none⟩ = some (.slice (some ⟨g5', 0, none⟩) S.downs.length C5) ∧ w'.cell? ⟨b5, 2, none⟩ = some (.int .i64 (num : Int)) ∧ w'.cell? ⟨g5', num, none⟩ = some (.slice (some ⟨gi, 0, none⟩) l.length C'')) [0, 1, 2, 3, 4, 5, 6, 7, 8, 9, 10, 11, 12, 13, 14] [15, 16, 17] (by kernel_rfl) (by kernel_rfl) (by kernel_rfl) (by rw [← HE5.out]; exact HS0.out) ?_
  rw [← HE5.out]
  refine Dk.held_step (v := .pointer (some ⟨bm, 0, none⟩)) rfl rfl (fun w' hw' => by obtain ⟨q0, q1, q2⟩ := hw'; go_simp) ?_
  simp only [Act.put, List.setIfInBounds_toArray, List.set_cons_succ, List.set_cons_zero]
  refine Dk.held_step (v := .pointer (some ⟨bm, 0, none⟩)) rfl rfl (fun w' hw' => by obtain ⟨q0, q1, q2⟩ := hw'; go_simp) ?_
  simp only [Act.put, List.setIfInBounds_toArray, List.set_cons_succ, List.set_cons_zero]
  refine Dk.held_step (v := .pointer (some ⟨bm, 5, none⟩)) rfl rfl (fun w' hw' => by obtain ⟨q0, q1, q2⟩ := hw'; go_simp) ?_
  simp only [Act.put, List.setIfInBounds_toArray, List.set_cons_succ, List.set_cons_zero]
  refine Dk.held_step (v := .slice (some ⟨g5', 0, none⟩) S.downs.length C5) rfl rfl (fun w' hw' => by obtain ⟨q0, q1, q2⟩ := hw'; go_simp) ?_
  simp only [Act.put, List.setIfInBounds_toArray, List.set_cons_succ, List.set_cons_zero]
  refine Dk.held_step (v := .pointer (some ⟨b5, 2, none⟩)) rfl rfl (fun w' hw' => by obtain ⟨q0, q1, q2⟩ := hw'; go_simp) ?_
  simp only [Act.put, List.setIfInBounds_toArray, List.set_cons_succ, List.set_cons_zero]
  refine Dk.held_step (v := .int .i64 (num : Int)) rfl rfl (fun w' hw' => by obtain ⟨q0, q1, q2⟩ := hw'; go_simp) ?_
  simp only [Act.put, List.setIfInBounds_toArray, List.set_cons_succ, List.set_cons_zero]
  refine Dk.held_step (v := .pointer (some ⟨bm, 0, none⟩)) rfl rfl (fun w' hw' => by obtain ⟨q0, q1, q2⟩ := hw'; go_simp) ?_
  simp only [Act.put, List.setIfInBounds_toArray, List.set_cons_succ, List.set_cons_zero]
  refine Dk.held_step (v := .pointer (some ⟨bm, 0, none⟩)) rfl rfl (fun w' hw' => by obtain ⟨q0, q1, q2⟩ := hw'; go_simp) ?_
  simp only [Act.put, List.setIfInBounds_toArray, List.set_cons_succ, List.set_cons_zero]
  refine Dk.held_step (v := .pointer (some ⟨bm, 5, none⟩)) rfl rfl (fun w' hw' => by obtain ⟨q0, q1, q2⟩ := hw'; go_simp) ?_
  simp only [Act.put, List.setIfInBounds_toArray, List.set_cons_succ, List.set_cons_zero]
  refine Dk.held_step (v := .slice (some ⟨g5', 0, none⟩) S.downs.length C5) rfl rfl (fun w' hw' => by obtain ⟨q0, q1, q2⟩ := hw'; go_simp) ?_
  simp only [Act.put, List.setIfInBounds_toArray, List.set_cons_succ, List.set_cons_zero]
  refine Dk.held_step (v := .pointer (some ⟨b5, 2, none⟩)) rfl rfl (fun w' hw' => by obtain ⟨q0, q1, q2⟩ := hw'; go_simp) ?_
  simp only [Act.put, List.setIfInBounds_toArray, List.set_cons_succ, List.set_cons_zero]
  refine Dk.held_step (v := .int .i64 (num : Int)) rfl rfl (fun w' hw' => by obtain ⟨q0, q1, q2⟩ := hw'; go_simp) ?_
  simp only [Act.put, List.setIfInBounds_toArray, List.set_cons_succ, List.set_cons_zero]
  refine Dk.held_step (v := .pointer (some ⟨g5', num, none⟩)) rfl rfl (fun w' hw' => by obtain ⟨q0, q1, q2⟩ := hw'; go_simp) ?_
  simp only [Act.put, List.setIfInBounds_toArray, List.set_cons_succ, List.set_cons_zero]
  refine Dk.held_step (v := .slice (some ⟨gi, 0, none⟩) l.length C'') rfl rfl (fun w' hw' => by obtain ⟨q0, q1, q2⟩ := hw'; go_simp) ?_
  simp only [Act.put, List.setIfInBounds_toArray, List.set_cons_succ, List.set_cons_zero]
  refine Dk.held_step (v := .int .i64 (a : Int)) rfl rfl (fun w' hw' => by obtain ⟨q0, q1, q2⟩ := hw'; go_simp) ?_
  simp only [Act.put, List.setIfInBounds_toArray, List.set_cons_succ, List.set_cons_zero]
  refine Dk.lineZ_call (f := 42) (args := #[.slice (some ⟨gi, 0, none⟩) l.length C'', .int .i64 (a : Int)]) rfl rfl (by go_simp) ?_
  refine KW.mono ?_
  rintro e w6 ⟨v', rfl, ho6, hnn, hb6⟩
  obtain ⟨r1, r2, ⟨Ax, Lx, Cx, rfl⟩, V', h7⟩ := HF.out v' w6 ho6 hb6
  have S6 : w6.cell? ⟨bm, 5, none⟩ = some (.slice (some ⟨g5', 0, none⟩) S.downs.length C5) ∧ w6.cell? ⟨b5, 2, none⟩ = some (.int .i64 (num : Int)) ∧ w6.cell? ⟨g5', num, none⟩ = some (.slice (some ⟨gi, 0, none⟩) l.length C'') := HUP.out ⟨w6, Dk.up_call HU5.out hb6⟩
  refine ⟨_, rfl, fun _ => S6, ?_⟩
  simp only [Act.put, List.setIfInBounds_toArray, List.set_cons_succ, List.set_cons_zero]
  refine Dk.lineZ_step (v := .pointer (some ⟨g5', num, none⟩)) (w' := w6) rfl rfl (by obtain ⟨q0, q1, q2⟩ := S6; go_simp) (fun _ => S6) ?_
  simp only [Act.put, List.setIfInBounds_toArray, List.set_cons_succ, List.set_cons_zero]
  obtain ⟨W7, e7⟩ : ∃ W7, W7 = w6.setCell ⟨g5', num, none⟩ (.slice Ax Lx Cx) := ⟨_, rfl⟩
  rw [← e7] at h7
  refine Dk.lineZ_skip (w' := W7) rfl rfl (by rw [e7]; go_simp) (fun h => absurd rfl h) ?_
  simp only [Act.put, List.setIfInBounds_toArray, List.set_cons_succ, List.set_cons_zero]
  rename ∀ (_ : Act) (_ : World), Code.wp _ _ _ _ _ → _ => hK
  refine hK _ _ ?_
  clear hK HF HUP HU5 HS0 HE5 KW e7 r1 r2 S6 ho6 hb6 hnn
  go_wp2_with fail
  go_ret
  exact ⟨rfl, _, V', ts', hG', dropX h7, ok7⟩
set_option maxRecDepth 100000 in
set_option maxHeartbeats 4000000 in
theorem sem_up_full (I : GateI G0) (hG : G0 bg S ts) (h : Dk.Sep W w (Dk.mdl bm V S ++ (us ++ ts))) (ok : Dk.Ok S k) (hk : k ≤ 300) (what who : Int) (num : Nat) (mm choice : Int) (hw5 : ¬ what = 5) (hn : num < S.count.length) (hl0 : (S.downs.getD num []).length = 0) (hfull : S.count.getD num 0 = 1048576) :
    Calls Try.prog 28 #[.pointer (some ⟨bg, 0, none⟩), .pointer (some ⟨bm, 0, none⟩), .agg #[.int .i64 what, .int .i64 who, .int .i64 (num : Int), .int .i64 mm, .int .i64 choice]] w fun e w' => e = .returned (.bool true) ∧ Both G0 W w' bg bm (k + 1) us := by
  obtain ⟨W1, e1⟩ : ∃ W1, W1 = w.alloc (.cells #[.int .i64 what, .int .i64 who, .int .i64 (num : Int), .int .i64 mm, .int .i64 choice] 30) := ⟨_, rfl⟩
  have h1 : Dk.Sep W W1 (Dk.mdl bm V S ++ (Dk.boxOf w.heap.size #[.int .i64 what, .int .i64 who, .int .i64 (num : Int), .int .i64 mm, .int .i64 choice] 30 :: us ++ ts)) := (h.newBox e1).perm List.perm_middle.symm
  have H1 : Hid (w.alloc (.cells #[.int .i64 what, .int .i64 who, .int .i64 (num : Int), .int .i64 mm, .int .i64 choice] 30) = W1) := e1.symm
  obtain ⟨b5, eb5⟩ : ∃ b5, w.heap.size = b5 := ⟨_, rfl⟩
  rw [eb5] at h1
  have HB5 : Hid (w.heap.size = b5) := eb5
  clear e1 eb5
  have ab : ∀ y : Dk.Up W1, Dk.Box y.wd b5 #[.int .i64 what, .int .i64 who, .int .i64 (num : Int), .int .i64 mm, .int .i64 choice] 30 := fun y => (h1.below y.property).box (by simp)
  have a0 : ∀ y : Dk.Up W1, y.wd.cell? ⟨b5, 0, none⟩ = some (.int .i64 what) := fun y => (ab y).cell 0
  have a1 : ∀ y : Dk.Up W1, y.wd.cell? ⟨b5, 1, none⟩ = some (.int .i64 who) := fun y => (ab y).cell 1
  have a2 : ∀ y : Dk.Up W1, y.wd.cell? ⟨b5, 2, none⟩ = some (.int .i64 (num : Int)) := fun y => (ab y).cell 2
  have a4 : ∀ y : Dk.Up W1, y.wd.cell? ⟨b5, 4, none⟩ = some (.int .i64 choice) := fun y => (ab y).cell 4
  have an : Nonempty (Dk.Up W1) := ⟨⟨W1, Below.refl _ _⟩⟩
  obtain ⟨Ad4, Cd4, ed4, qd4, md4⟩ := Dk.owns_slice (Dk.Mdl.count h1)
  have d4 : ∀ y : Dk.Up W1, y.wd.cell? ⟨bm, 4, none⟩ = some (.slice Ad4 S.count.length Cd4) := fun y => by rw [← ed4]; exact (Dk.Mdl.head (h1.below y.property)).cell 4
  have K1 : ∀ y : Dk.Up W1, Calls Try.prog 24 #[.int .i64 (num : Int), .int .i64 (S.count.length : Int)] y.wd fun e w' => e = .returned (.bool true) ∧ w' = y.wd := fun y => is_yes num S.count.length hn y.wd
  have C1 : Hid _ := K1
  clear K1
  have hw5b : decide (what = 5) = false := decide_eq_false hw5
  have hw5c : (what == 5) = false := by simpa using hw5
  clear hw5
  go_enter Try.func28, Try.ntmps28
  go_wp2_with (rw [H1.out, HB5.out]; clear H1)
  refine Dk.wp_region_up_lit (by kernel_rfl) (by kernel_rfl) ?_
  repeat (go_big_quiet_step ((go_at_call 24; exact Dk.calls_up_same _ (C1.out _))))
  refine wpQuiet_nil ?_
  intro _ hw'
  obtain ⟨y, hw''⟩ := hw'
  subst hw''
  have h2 : Dk.Sep W y.wd (Dk.mdl bm V S ++ (Dk.boxOf b5 #[.int .i64 what, .int .i64 who, .int .i64 (num : Int), .int .i64 mm, .int .i64 choice] 30 :: us ++ ts)) := h1.below y.property
  clear h1
  generalize y.wd = w2 at *
  have bb : ∀ y : Dk.Up w2, Dk.Box y.wd b5 #[.int .i64 what, .int .i64 who, .int .i64 (num : Int), .int .i64 mm, .int .i64 choice] 30 := fun y => (h2.below y.property).box (by simp)
  have b0 : ∀ y : Dk.Up w2, y.wd.cell? ⟨b5, 0, none⟩ = some (.int .i64 what) := fun y => (bb y).cell 0
  have b1 : ∀ y : Dk.Up w2, y.wd.cell? ⟨b5, 1, none⟩ = some (.int .i64 who) := fun y => (bb y).cell 1
  have b2 : ∀ y : Dk.Up w2, y.wd.cell? ⟨b5, 2, none⟩ = some (.int .i64 (num : Int)) := fun y => (bb y).cell 2
  have b4 : ∀ y : Dk.Up w2, y.wd.cell? ⟨b5, 4, none⟩ = some (.int .i64 choice) := fun y => (bb y).cell 4
  have bn : Nonempty (Dk.Up w2) := ⟨⟨w2, Below.refl _ _⟩⟩
  have bz : Dk.Up w2 := ⟨w2, Below.refl _ _⟩
  have c0 : w2.cell? ⟨b5, 0, none⟩ = some (.int .i64 what) := b0 ⟨w2, Below.refl _ _⟩
  have c1 : w2.cell? ⟨b5, 1, none⟩ = some (.int .i64 who) := b1 ⟨w2, Below.refl _ _⟩
  have c2 : w2.cell? ⟨b5, 2, none⟩ = some (.int .i64 (num : Int)) := b2 ⟨w2, Below.refl _ _⟩
  have c4 : w2.cell? ⟨b5, 4, none⟩ = some (.int .i64 choice) := b4 ⟨w2, Below.refl _ _⟩
  clear b0 b1 b2 b4 bb bn bz
  have K2 := I.up_full hG (toG h2) ok hk num choice hn hl0 hfull
  go_wp2_with fail
  refine K2.mono ?_
  rintro e w3 ⟨rfl, ts', hG', h3'⟩
  have h3 := ofG h3'
  clear K2 h3' c0 c1 c2 c4 h2 a0 a1 a2 a4 ab an d4 ed4 C1
  have bb : ∀ y : Dk.Up w3, Dk.Box y.wd b5 #[.int .i64 what, .int .i64 who, .int .i64 (num : Int), .int .i64 mm, .int .i64 choice] 30 := fun y => (h3.below y.property).box (by simp)
  have b0 : ∀ y : Dk.Up w3, y.wd.cell? ⟨b5, 0, none⟩ = some (.int .i64 what) := fun y => (bb y).cell 0
  have b1 : ∀ y : Dk.Up w3, y.wd.cell? ⟨b5, 1, none⟩ = some (.int .i64 who) := fun y => (bb y).cell 1
  have b2 : ∀ y : Dk.Up w3, y.wd.cell? ⟨b5, 2, none⟩ = some (.int .i64 (num : Int)) := fun y => (bb y).cell 2
  have b4 : ∀ y : Dk.Up w3, y.wd.cell? ⟨b5, 4, none⟩ = some (.int .i64 choice) := fun y => (bb y).cell 4
  have bn : Nonempty (Dk.Up w3) := ⟨⟨w3, Below.refl _ _⟩⟩
  have up : ∀ b o v, w3.cell? ⟨b, o, none⟩ = some v → ∀ y : Dk.Up w3, y.wd.cell? ⟨b, o, none⟩ = some v := fun b o v hv y => (y.property.cell (p := ⟨b, o, none⟩) (lt_of_cell' hv)).trans hv
  have hdn : num < S.downs.length := by rw [ok.downs]; exact hn
  have hdl := ok.downLen (Dk.getD_mem S.downs [] num hdn)
  have f5 := (Dk.Mdl.head h3).cell 5
  obtain ⟨g5, C5, A, L, C', e5, q5, m5, hL, hv5, c5, _, ho5, _⟩ := Mdl.putDowns h3 (n := num) hdn
  have f5' : w3.cell? ⟨bm, 5, none⟩ = some (.slice (some ⟨g5, 0, none⟩) S.downs.length C5) := by rw [← e5]; exact f5
  unfold maxLen at m5
  have d5 := up _ _ _ f5'
  have d6 := up _ _ _ c5
  have hdi : (num : Int) < (S.downs.length : Int) := by omega
  clear f5 f5' c5
  obtain ⟨l, el⟩ : ∃ l, S.downs.getD num [] = l := ⟨_, rfl⟩
  rw [el] at hL ho5 hdl hl0
  subst hL
  have zp : decide (0 < l.length) = false := decide_eq_false (by omega)
  have zp' : decide ((0 : Int) < (l.length : Int)) = false := decide_eq_false (by omega)
  have zp'' : decide ((l.length : Int) > 0) = false := decide_eq_false (by omega)
  obtain ⟨gc, Cc, ec, qc, mc, cc0, _, _⟩ := Mdl.setCount h3 (n := num) hn
  unfold maxLen at mc
  have f4 := (Dk.Mdl.head h3).cell 4
  have f4' : w3.cell? ⟨bm, 4, none⟩ = some (.slice (some ⟨gc, 0, none⟩) S.count.length Cc) := by rw [← ec]; exact f4
  have d4 := up _ _ _ f4'
  have cc := up _ _ _ cc0
  have hcx := ok.count _ (Dk.getD_mem S.count 0 num hn)
  obtain ⟨x, ex⟩ : ∃ x, S.count.getD num 0 = x := ⟨_, rfl⟩
  rw [ex] at hcx hfull cc
  clear f4 f4' cc0
  have hni : (num : Int) < (S.count.length : Int) := by omega
  have zf : decide (x = 1048576) = true := decide_eq_true hfull
  have zf' : (x == 1048576) = true := by simpa using hfull
  clear hfull
  go_wp2_with fail
  refine Dk.wp_region_up_lit (by kernel_rfl) (by kernel_rfl) ?_
  repeat (go_big_quiet_step (fail))
  refine wpQuiet_nil ?_
  intro _ hw'
  obtain ⟨y, hw''⟩ := hw'
  subst hw''
  have z1 : Below w3.heap.size w3 y.wd := y.property
  go_wp2_with fail
  refine Dk.wp_region_up_lit_of (w0 := w3) z1 (by kernel_rfl) (by kernel_rfl) ?_
  repeat (go_big_quiet_step (fail))
  refine wpQuiet_nil ?_
  intro _ hw'
  clear z1
  obtain ⟨y, hw''⟩ := hw'
  subst hw''
  have h9 := h3.below y.property
  go_wp2_with fail
  go_ret
  exact ⟨rfl, S, _, ts', hG', dropX h9, ok.mono (by omega)⟩
set_option maxRecDepth 100000 in
set_option maxHeartbeats 4000000 in
theorem sem_up_more (I : GateI G0) (hG : G0 bg S ts) (h : Dk.Sep W w (Dk.mdl bm V S ++ (us ++ ts))) (ok : Dk.Ok S k) (hk : k ≤ 300) (what who : Int) (num : Nat) (mm choice : Int) (hw5 : ¬ what = 5) (hn : num < S.count.length) (hl0 : (S.downs.getD num []).length = 0) (hfull : S.count.getD num 0 ≠ 1048576) :
    Calls Try.prog 28 #[.pointer (some ⟨bg, 0, none⟩), .pointer (some ⟨bm, 0, none⟩), .agg #[.int .i64 what, .int .i64 who, .int .i64 (num : Int), .int .i64 mm, .int .i64 choice]] w fun e w' => e = .returned (.bool true) ∧ Both G0 W w' bg bm (k + 1) us := by
  obtain ⟨W1, e1⟩ : ∃ W1, W1 = w.alloc (.cells #[.int .i64 what, .int .i64 who, .int .i64 (num : Int), .int .i64 mm, .int .i64 choice] 30) := ⟨_, rfl⟩
  have h1 : Dk.Sep W W1 (Dk.mdl bm V S ++ (Dk.boxOf w.heap.size #[.int .i64 what, .int .i64 who, .int .i64 (num : Int), .int .i64 mm, .int .i64 choice] 30 :: us ++ ts)) := (h.newBox e1).perm List.perm_middle.symm
  have H1 : Hid (w.alloc (.cells #[.int .i64 what, .int .i64 who, .int .i64 (num : Int), .int .i64 mm, .int .i64 choice] 30) = W1) := e1.symm
  obtain ⟨b5, eb5⟩ : ∃ b5, w.heap.size = b5 := ⟨_, rfl⟩
  rw [eb5] at h1
  have HB5 : Hid (w.heap.size = b5) := eb5
  clear e1 eb5
  have ab : ∀ y : Dk.Up W1, Dk.Box y.wd b5 #[.int .i64 what, .int .i64 who, .int .i64 (num : Int), .int .i64 mm, .int .i64 choice] 30 := fun y => (h1.below y.property).box (by simp)
  have a0 : ∀ y : Dk.Up W1, y.wd.cell? ⟨b5, 0, none⟩ = some (.int .i64 what) := fun y => (ab y).cell 0
  have a1 : ∀ y : Dk.Up W1, y.wd.cell? ⟨b5, 1, none⟩ = some (.int .i64 who) := fun y => (ab y).cell 1
  have a2 : ∀ y : Dk.Up W1, y.wd.cell? ⟨b5, 2, none⟩ = some (.int .i64 (num : Int)) := fun y => (ab y).cell 2
  have a4 : ∀ y : Dk.Up W1, y.wd.cell? ⟨b5, 4, none⟩ = some (.int .i64 choice) := fun y => (ab y).cell 4
  have an : Nonempty (Dk.Up W1) := ⟨⟨W1, Below.refl _ _⟩⟩
  obtain ⟨Ad4, Cd4, ed4, qd4, md4⟩ := Dk.owns_slice (Dk.Mdl.count h1)
  have d4 : ∀ y : Dk.Up W1, y.wd.cell? ⟨bm, 4, none⟩ = some (.slice Ad4 S.count.length Cd4) := fun y => by rw [← ed4]; exact (Dk.Mdl.head (h1.below y.property)).cell 4
  have K1 : ∀ y : Dk.Up W1, Calls Try.prog 24 #[.int .i64 (num : Int), .int .i64 (S.count.length : Int)] y.wd fun e w' => e = .returned (.bool true) ∧ w' = y.wd := fun y => is_yes num S.count.length hn y.wd
  have C1 : Hid _ := K1
  clear K1
  have hw5b : decide (what = 5) = false := decide_eq_false hw5
  have hw5c : (what == 5) = false := by simpa using hw5
  clear hw5
  go_enter Try.func28, Try.ntmps28
  go_wp2_with (rw [H1.out, HB5.out]; clear H1)
  refine Dk.wp_region_up_lit (by kernel_rfl) (by kernel_rfl) ?_
  repeat (go_big_quiet_step ((go_at_call 24; exact Dk.calls_up_same _ (C1.out _))))
  refine wpQuiet_nil ?_
  intro _ hw'
  obtain ⟨y, hw''⟩ := hw'
  subst hw''
  have h2 : Dk.Sep W y.wd (Dk.mdl bm V S ++ (Dk.boxOf b5 #[.int .i64 what, .int .i64 who, .int .i64 (num : Int), .int .i64 mm, .int .i64 choice] 30 :: us ++ ts)) := h1.below y.property
  clear h1
  generalize y.wd = w2 at *
  have bb : ∀ y : Dk.Up w2, Dk.Box y.wd b5 #[.int .i64 what, .int .i64 who, .int .i64 (num : Int), .int .i64 mm, .int .i64 choice] 30 := fun y => (h2.below y.property).box (by simp)
  have b0 : ∀ y : Dk.Up w2, y.wd.cell? ⟨b5, 0, none⟩ = some (.int .i64 what) := fun y => (bb y).cell 0
  have b1 : ∀ y : Dk.Up w2, y.wd.cell? ⟨b5, 1, none⟩ = some (.int .i64 who) := fun y => (bb y).cell 1
  have b2 : ∀ y : Dk.Up w2, y.wd.cell? ⟨b5, 2, none⟩ = some (.int .i64 (num : Int)) := fun y => (bb y).cell 2
  have b4 : ∀ y : Dk.Up w2, y.wd.cell? ⟨b5, 4, none⟩ = some (.int .i64 choice) := fun y => (bb y).cell 4
  have bn : Nonempty (Dk.Up w2) := ⟨⟨w2, Below.refl _ _⟩⟩
  have bz : Dk.Up w2 := ⟨w2, Below.refl _ _⟩
  have c0 : w2.cell? ⟨b5, 0, none⟩ = some (.int .i64 what) := b0 ⟨w2, Below.refl _ _⟩
  have c1 : w2.cell? ⟨b5, 1, none⟩ = some (.int .i64 who) := b1 ⟨w2, Below.refl _ _⟩
  have c2 : w2.cell? ⟨b5, 2, none⟩ = some (.int .i64 (num : Int)) := b2 ⟨w2, Below.refl _ _⟩
  have c4 : w2.cell? ⟨b5, 4, none⟩ = some (.int .i64 choice) := b4 ⟨w2, Below.refl _ _⟩
  clear b0 b1 b2 b4 bb bn bz
  have K2 := I.up_more hG (toG h2) ok hk num choice hn hl0 hfull
  go_wp2_with fail
  refine K2.mono ?_
  rintro e w3 ⟨rfl, ts', hG', h3'⟩
  have h3 := ofG h3'
  clear K2 h3' c0 c1 c2 c4 h2 a0 a1 a2 a4 ab an d4 ed4 C1
  have bb : ∀ y : Dk.Up w3, Dk.Box y.wd b5 #[.int .i64 what, .int .i64 who, .int .i64 (num : Int), .int .i64 mm, .int .i64 choice] 30 := fun y => (h3.below y.property).box (by simp)
  have b0 : ∀ y : Dk.Up w3, y.wd.cell? ⟨b5, 0, none⟩ = some (.int .i64 what) := fun y => (bb y).cell 0
  have b1 : ∀ y : Dk.Up w3, y.wd.cell? ⟨b5, 1, none⟩ = some (.int .i64 who) := fun y => (bb y).cell 1
  have b2 : ∀ y : Dk.Up w3, y.wd.cell? ⟨b5, 2, none⟩ = some (.int .i64 (num : Int)) := fun y => (bb y).cell 2
  have b4 : ∀ y : Dk.Up w3, y.wd.cell? ⟨b5, 4, none⟩ = some (.int .i64 choice) := fun y => (bb y).cell 4
  have bn : Nonempty (Dk.Up w3) := ⟨⟨w3, Below.refl _ _⟩⟩
  have up : ∀ b o v, w3.cell? ⟨b, o, none⟩ = some v → ∀ y : Dk.Up w3, y.wd.cell? ⟨b, o, none⟩ = some v := fun b o v hv y => (y.property.cell (p := ⟨b, o, none⟩) (lt_of_cell' hv)).trans hv
  have hdn : num < S.downs.length := by rw [ok.downs]; exact hn
  have hdl := ok.downLen (Dk.getD_mem S.downs [] num hdn)
  have f5 := (Dk.Mdl.head h3).cell 5
  obtain ⟨g5, C5, A, L, C', e5, q5, m5, hL, hv5, c5, _, ho5, _⟩ := Mdl.putDowns h3 (n := num) hdn
  have f5' : w3.cell? ⟨bm, 5, none⟩ = some (.slice (some ⟨g5, 0, none⟩) S.downs.length C5) := by rw [← e5]; exact f5
  unfold maxLen at m5
  have d5 := up _ _ _ f5'
  have d6 := up _ _ _ c5
  have hdi : (num : Int) < (S.downs.length : Int) := by omega
  clear f5 f5' c5
  obtain ⟨l, el⟩ : ∃ l, S.downs.getD num [] = l := ⟨_, rfl⟩
  rw [el] at hL ho5 hdl hl0
  subst hL
  have zp : decide (0 < l.length) = false := decide_eq_false (by omega)
  have zp' : decide ((0 : Int) < (l.length : Int)) = false := decide_eq_false (by omega)
  have zp'' : decide ((l.length : Int) > 0) = false := decide_eq_false (by omega)
  obtain ⟨gc, Cc, ec, qc, mc, cc0, _, _⟩ := Mdl.setCount h3 (n := num) hn
  unfold maxLen at mc
  have f4 := (Dk.Mdl.head h3).cell 4
  have f4' : w3.cell? ⟨bm, 4, none⟩ = some (.slice (some ⟨gc, 0, none⟩) S.count.length Cc) := by rw [← ec]; exact f4
  have d4 := up _ _ _ f4'
  have cc := up _ _ _ cc0
  have hcx := ok.count _ (Dk.getD_mem S.count 0 num hn)
  obtain ⟨x, ex⟩ : ∃ x, S.count.getD num 0 = x := ⟨_, rfl⟩
  rw [ex] at hcx hfull cc hG'
  clear f4 f4' cc0
  have hni : (num : Int) < (S.count.length : Int) := by omega
  have zf : decide (x = 1048576) = false := decide_eq_false hfull
  have zf' : (x == 1048576) = false := by simpa using hfull

  go_wp2_with fail
  refine Dk.wp_region_up_lit (by kernel_rfl) (by kernel_rfl) ?_
  repeat (go_big_quiet_step (fail))
  refine wpQuiet_nil ?_
  intro _ hw'
  obtain ⟨y, hw''⟩ := hw'
  subst hw''
  have z1 : Below w3.heap.size w3 y.wd := y.property
  go_wp2_with fail
  refine Dk.wp_region_up_lit_of (w0 := w3) z1 (by kernel_rfl) (by kernel_rfl) ?_
  repeat (go_big_quiet_step (fail))
  refine wpQuiet_nil ?_
  intro _ hw'
  clear z1
  obtain ⟨y, hw''⟩ := hw'
  subst hw''
  have u5 : Below w3.heap.size w3 y.wd.drew := Dk.up_drew y.property
  have HS0 : Hid (y.wd.drew.cell? ⟨bm, 4, none⟩ = some (.slice (some ⟨gc, 0, none⟩) S.count.length Cc) ∧ y.wd.drew.cell? ⟨b5, 2, none⟩ = some (.int .i64 (num : Int)) ∧ y.wd.drew.cell? ⟨gc, num, none⟩ = some (.int .i64 x)) := ⟨d4 ⟨_, u5⟩, b2 ⟨_, u5⟩, cc ⟨_, u5⟩⟩
  obtain ⟨gc', Cc', ec', _, _, _, z6, hset⟩ := Mdl.setCount (h3.below u5) (n := num) hn
  have egc : gc' = gc := by
    have q := ec.symm.trans ec'
    simp at q
    exact q.1.symm
  subst egc
  have h6 := hset (x + 1)
  obtain ⟨W6, e6⟩ : ∃ W6, W6 = y.wd.drew.setCell ⟨gc', num, none⟩ (.int .i64 (x + 1)) := ⟨_, rfl⟩
  rw [← e6] at h6
  have H6 : Hid (y.wd.drew.setCell ⟨gc', num, none⟩ (.int .i64 (x + 1)) = W6) := e6.symm
  have HZ6 : Hid (y.wd.drew.frozen? ⟨gc', num, none⟩ = false) := z6
  have ok6 : Dk.Ok { S with count := S.count.set num (x + 1) } (k + 1) := (ok.setCount num (x + 1) (by omega)).mono (by omega)
  clear b0 b1 b2 b4 bb bn d4 cc h3 hset e6 z6 ec ec' ex ok d5 d6 up ho5 hv5 e5 el hfull
  go_wp2_with fail
  refine Dk.wp_region_lineZ (z := 10) (S := fun w' => w'.cell? ⟨bm, 4, none⟩ = some (.slice (some ⟨gc', 0, none⟩) S.count.length Cc) ∧ w'.cell? ⟨b5, 2, none⟩ = some (.int .i64 (num : Int)) ∧ w'.cell? ⟨gc', num, none⟩ = some (.int .i64 x)) [0, 1, 2, 3, 4, 5, 6, 7, 8, 9] [10] (by kernel_rfl) (by kernel_rfl) (by kernel_rfl) HS0.out ?_
  refine Dk.held_step (v := .pointer (some ⟨bm, 0, none⟩)) rfl rfl (fun w' hw' => by obtain ⟨q0, q1, q2⟩ := hw'; go_simp) ?_
  simp only [Act.put, List.setIfInBounds_toArray, List.set_cons_succ, List.set_cons_zero]
  refine Dk.held_step (v := .pointer (some ⟨bm, 0, none⟩)) rfl rfl (fun w' hw' => by obtain ⟨q0, q1, q2⟩ := hw'; go_simp) ?_
  simp only [Act.put, List.setIfInBounds_toArray, List.set_cons_succ, List.set_cons_zero]
  refine Dk.held_step (v := .pointer (some ⟨bm, 4, none⟩)) rfl rfl (fun w' hw' => by obtain ⟨q0, q1, q2⟩ := hw'; go_simp) ?_
  simp only [Act.put, List.setIfInBounds_toArray, List.set_cons_succ, List.set_cons_zero]
  refine Dk.held_step (v := .slice (some ⟨gc', 0, none⟩) S.count.length Cc) rfl rfl (fun w' hw' => by obtain ⟨q0, q1, q2⟩ := hw'; go_simp) ?_
  simp only [Act.put, List.setIfInBounds_toArray, List.set_cons_succ, List.set_cons_zero]
  refine Dk.held_step (v := .pointer (some ⟨b5, 2, none⟩)) rfl rfl (fun w' hw' => by obtain ⟨q0, q1, q2⟩ := hw'; go_simp) ?_
  simp only [Act.put, List.setIfInBounds_toArray, List.set_cons_succ, List.set_cons_zero]
  refine Dk.held_step (v := .int .i64 (num : Int)) rfl rfl (fun w' hw' => by obtain ⟨q0, q1, q2⟩ := hw'; go_simp) ?_
  simp only [Act.put, List.setIfInBounds_toArray, List.set_cons_succ, List.set_cons_zero]
  refine Dk.held_step (v := .pointer (some ⟨gc', num, none⟩)) rfl rfl (fun w' hw' => by obtain ⟨q0, q1, q2⟩ := hw'; go_simp) ?_
  simp only [Act.put, List.setIfInBounds_toArray, List.set_cons_succ, List.set_cons_zero]
  refine Dk.held_step (v := .int .i64 x) rfl rfl (fun w' hw' => by obtain ⟨q0, q1, q2⟩ := hw'; go_simp) ?_
  simp only [Act.put, List.setIfInBounds_toArray, List.set_cons_succ, List.set_cons_zero]
  refine Dk.held_step (v := .int .i64 (x + 1)) rfl rfl (fun w' hw' => by obtain ⟨q0, q1, q2⟩ := hw'; go_simp; (try go_bits); (try trivial)) ?_
  simp only [Act.put, List.setIfInBounds_toArray, List.set_cons_succ, List.set_cons_zero]
  refine Dk.held_step (v := .pointer (some ⟨gc', num, none⟩)) rfl rfl (fun w' hw' => by obtain ⟨q0, q1, q2⟩ := hw'; go_simp) ?_
  simp only [Act.put, List.setIfInBounds_toArray, List.set_cons_succ, List.set_cons_zero]
  refine Dk.lineZ_skip (w' := W6) rfl rfl (by rw [← H6.out]; have q1 := HS0.out.2.2; have q2 := HZ6.out; go_simp) (fun h => absurd rfl h) ?_
  simp only [Act.put, List.setIfInBounds_toArray, List.set_cons_succ, List.set_cons_zero]
  rename ∀ (_ : Act) (_ : World), Code.wp _ _ _ _ _ → _ => hK
  refine hK _ _ ?_
  clear hK HS0 HZ6 H6
  go_wp2_with fail
  go_ret
  exact ⟨rfl, _, _, ts', hG', dropX h6, ok6⟩
end
end Go.Proofs.Ytjkdaankjondjaa
