/- A copy by append, and the region that makes it. -/
import Derived.Test.YtmkeniobnjpohaaLq
import Derived.Deep.Upon
import Derived.Deep.AppendLies
namespace Go.Proofs.Ytmkeniobnjpohaa
set_option linter.unusedSimpArgs false
set_option linter.unusedVariables false
set_option linter.unnecessarySimpa false
open Go.RowKit

/-- A row of words with room behind it. -/
structure Roomy (w : World) (b : Nat) (cp : Nat) (m : List Nat) : Prop where
  cur : ∃ cur : Array Value, Dk.Box w b cur 26 ∧ cur.size = cp ∧ cur.toList.take m.length = (Dk.wc m).toList
  cap : m.length ≤ cp
  max : cp ≤ maxLen

theorem append_words (w : World) (b : Nat) (A : Option Addr) (L C : Nat) (m : List Nat) (hb : Dk.Box w b #[] 26) (hr : Dk.Row 1 0 Dk.IsWord w.heap.size w A L C m) (hL : L ≤ 200) :
    ∃ bl cp w', (Builtin.append_ #[40, 40] 40 #[.slice (some ⟨b, 0, none⟩) 0 0, .slice A L C]).run Try.prog w = .ok (.slice (some ⟨bl, 0, none⟩) L cp) w' ∧ Roomy w' bl cp m ∧ w.grownBy w' (some b) ∧ (bl = b ∨ bl = w.heap.size) := by
  have hlen := hr.len
  by_cases h0 : L = 0
  · subst h0
    obtain rfl : m = [] := List.eq_nil_of_length_eq_zero hlen
    refine ⟨b, 0, w, ?_, ⟨⟨#[], hb, rfl, rfl⟩, Nat.le_refl _, Nat.zero_le _⟩, ⟨rfl, rfl, rfl, Nat.le_refl _, fun _ _ _ => rfl⟩, Or.inl rfl⟩
    refine run_append_nothing w 40 40 40 26 Try.t26 Try.underlying40 (by kernel_rfl) _ 0 0 (Nat.le_refl _) _ ⟨Or.inl ⟨26, Try.underlying40⟩, fun w' => rfl, ?_, ?_, rfl, by simp⟩
    · cases A <;> rfl
    · cases A <;> rfl
  · obtain ⟨ad, rfl, had⟩ := row_src hr (Below.refl _ _) (by simp [Dk.wc]; omega)
    obtain ⟨g, cp, w', hrun, hown, hgrow, hat, hlt⟩ := run_append_lies (P := Try.prog) w 40 40 0 26 Try.t26 (.int .u64 0) 1 8 Try.underlying40 (by kernel_rfl) (by kernel_rfl) (by kernel_rfl) (by kernel_rfl) rfl (by omega) (.slice (some ⟨b, 0, none⟩) 0 0) 0 []
      ⟨rfl, Or.inr ⟨b, 0, #[], rfl, Nat.zero_le _, hb.heap, Nat.le_refl _, Nat.zero_le _, rfl, rfl⟩⟩ ad L C (Dk.wc m).toList (by simp [Dk.wc, hlen]) had (by simp [Dk.wc, Value.oneCell']) (by omega) (by unfold maxLen; omega) (by omega) (Nat.zero_le _) w.heap.size rfl
    rw [Nat.zero_add] at hrun hown
    obtain ⟨_, hcase⟩ := hown
    rcases hcase with ⟨hv, _⟩ | ⟨g', cap, cur, hv, _, hg, hle, hmx, hsz, htk⟩
    · cases hv
    · obtain ⟨⟨rfl, _⟩, _, rfl⟩ : (g = g' ∧ True) ∧ True ∧ cp = cap := by
        simp only [Value.slice.injEq, Option.some.injEq, Addr.mk.injEq] at hv
        exact ⟨⟨hv.1.1, trivial⟩, trivial, hv.2.2⟩
      refine ⟨g, cp, w', hrun, ⟨⟨cur, ⟨hg⟩, by rw [hsz, Nat.mul_one], ?_⟩, by omega, hmx⟩, hgrow, ?_⟩
      · rw [hlen]
        rw [Nat.mul_one, List.nil_append] at htk
        exact htk
      · rcases hat with h | h
        · left
          simpa [Value.ownBlock] using h.symm
        · right
          exact h

theorem eval_same (a : Act) (d : Nat) (v : Value) (h : d < a.tmps.size) : (a.put (some d) v).eval (.tmp d) = v := by
  simp [Act.put, Act.eval, h]
theorem eval_other (a : Act) (d k : Nat) (v : Value) (h : d ≠ k) : (a.put (some d) v).eval (.tmp k) = a.eval (.tmp k) := by
  simp [Act.put, Act.eval, Array.getElem?_setIfInBounds_ne h]
theorem size_put (a : Act) (d : Nat) (v : Value) : (a.put (some d) v).tmps.size = a.tmps.size := by simp [Act.put]

abbrev ops10 : List Oper := [{ dst := some 100, op := Op.load 29 (Operand.tmp 3), type := 29, pos := "law.go:52", after := #[], guard := none }, { dst := some 101, op := Op.buildSlice 40 0 #[], type := 40, pos := "law.go:52", after := #[], guard := none }, { dst := some 102, op := Op.move (Operand.tmp 2), type := 40, pos := "law.go:52", after := #[], guard := none }, { dst := some 103, op := Op.call { callee := Callee.builtin Builtin.append, args := #[Operand.tmp 101, Operand.tmp 102], argTypes := #[40, 40] }, type := 40, pos := "law.go:52", after := #[{ on := 1, ground := Ground.data }, { on := 2, ground := Ground.data }], guard := none }, { dst := some 14, op := Op.alloc 29, type := 0, pos := "law.go:52", after := #[], guard := none }, { dst := none, op := Op.store 29 (Operand.tmp 14) (Operand.tmp 100), type := 0, pos := "law.go:52", after := #[{ on := 4, ground := Ground.data }, { on := 0, ground := Ground.data }, { on := 3, ground := Ground.chain }, { on := 0, ground := Ground.phase }, { on := 1, ground := Ground.textOnly Departure.lateStores }, { on := 2, ground := Ground.textOnly Departure.lateStores }, { on := 3, ground := Ground.textOnly Departure.lateStoresUnsure }, { on := 4, ground := Ground.phase }], guard := none }, { dst := some 15, op := Op.assign (Operand.tmp 103), type := 40, pos := "law.go:52", after := #[{ on := 3, ground := Ground.data }, { on := 5, ground := Ground.chain }, { on := 0, ground := Ground.phase }, { on := 1, ground := Ground.phase }, { on := 2, ground := Ground.phase }, { on := 3, ground := Ground.phase }, { on := 4, ground := Ground.phase }, { on := 5, ground := Ground.phase }], guard := none }]

theorem run0 {ρ : Operand → Value} {w : World} {N : Nat} {f : Dk.Frm} (h : ρ (.tmp 3) = .pointer (some ⟨N, 0, none⟩)) (b : Dk.Box w N (Dk.fc f) 29) : (execOp ρ (ops10[0])).run Try.prog w = .ok (.value (Dk.fv f)) w := by
  have c := b.cell
  simp [execOp, h, go_sem, c]
theorem run1 {ρ : Operand → Value} {w : World} : (execOp ρ (ops10[1])).run Try.prog w = .ok (.value (.slice (some ⟨w.heap.size, 0, none⟩) 0 0)) (w.alloc (.cells #[] 26)) := by
  simp [execOp, go_sem]
theorem run2 {ρ : Operand → Value} {w : World} {v : Value} (h : ρ (.tmp 2) = v) : (execOp ρ (ops10[2])).run Try.prog w = .ok (.value v) w := by
  simp [execOp, h, go_sem]
theorem run3 {ρ : Operand → Value} {w w' : World} {x y v : Value} (h1 : ρ (.tmp 101) = x) (h2 : ρ (.tmp 102) = y) (hr : (Builtin.append_ #[40, 40] 40 #[x, y]).run Try.prog w = .ok v w') : (execOp ρ (ops10[3])).run Try.prog w = .ok (.value v) w' := by
  simp [execOp, resolve, invoke, builtin, h1, h2, hr, Result.andThen]
theorem run4 {ρ : Operand → Value} {w : World} : (execOp ρ (ops10[4])).run Try.prog w = .ok (.value (.pointer (some ⟨w.heap.size, 0, none⟩))) (w.alloc (.cells #[.int .i64 0, .int .i64 0, .int .u64 0, .int .u64 0, .int .u64 0, .int .u64 0, .int .u64 0, .int .u64 0, .int .u64 0, .int .u64 0] 29)) := by
  simp [execOp, go_sem]
theorem run6 {ρ : Operand → Value} {w : World} {v : Value} (h : ρ (.tmp 103) = v) : (execOp ρ (ops10[6])).run Try.prog w = .ok (.value v) w := by
  simp [execOp, h, go_sem]

theorem Roomy.up {w w' : World} {b cp : Nat} {m : List Nat} (h : Roomy w b cp m) (u : Below w.heap.size w w') : Roomy w' b cp m := by
  obtain ⟨⟨cur, hb, h1, h2⟩, h3, h4⟩ := h
  exact ⟨⟨cur, hb.up u, h1, h2⟩, h3, h4⟩
theorem Roomy.row_other {w : World} {b b' cp : Nat} {m : List Nat} {cs : Array Value} (h : Roomy w b cp m) (hn : b ≠ b') : Roomy (w.setRow b' cs) b cp m := by
  obtain ⟨⟨cur, hb, h1, h2⟩, h3, h4⟩ := h
  exact ⟨⟨cur, hb.row_other hn, h1, h2⟩, h3, h4⟩
theorem Roomy.lt {w : World} {b cp : Nat} {m : List Nat} (h : Roomy w b cp m) : b < w.heap.size := by
  obtain ⟨⟨cur, hb, h1, h2⟩, h3, h4⟩ := h
  exact hb.lt
theorem grown_box {w w' : World} {b c : Nat} {cs : Array Value} {t : TypeId} (h : Dk.Box w c cs t) (g : w.grownBy w' (some b)) (hn : c ≠ b) : Dk.Box w' c cs t :=
  ⟨by rw [g.block c h.lt (fun e => hn (Option.some.inj e))]; exact h.heap⟩
theorem grown_below {w0 w w' : World} {b B : Nat} (h : Below B w0 w) (g : w.grownBy w' (some b)) (hB : B ≤ b) (hs : B ≤ w.heap.size) : Below B w0 w' :=
  h.trans ⟨g.os, g.tape, g.output, g.size, fun k hk => g.block k (by omega) (fun e => by have := Option.some.inj e; omega)⟩

theorem op_value {P : Go.Program} {L : List Oper} {Q : Exit → Act → World → Prop} {j : Nat} {K : Act → World → Prop} {a : Act} {w w' : World} {o : Oper} {v : Value} (d : Option Tmp) (ho : L[j]? = some o) (hd : o.dst = d) (hg : o.guard = none) (hr : (execOp a.eval o).run P w = .ok (.value v) w') (hK : K (a.put d v) w') : wpOp P L.toArray Q j K a w := by
  subst hd
  have hw : Region.wanted o (yielded L.toArray a.tmps) = true := by simp [Region.wanted, hg]
  have ho' : L.toArray[j]? = some o := by simpa using ho
  unfold wpOp
  simp only [ho', hw, if_true]
  refine .inl ?_
  unfold Oper.wp
  rw [hr]
  exact hK
theorem op_wp {P : Go.Program} {L : List Oper} {Q : Exit → Act → World → Prop} {j : Nat} {K : Act → World → Prop} {a : Act} {w : World} {o : Oper} (ho : L[j]? = some o) (hg : o.guard = none) (h : o.wp P a w K Q) : wpOp P L.toArray Q j K a w := by
  have hw : Region.wanted o (yielded L.toArray a.tmps) = true := by simp [Region.wanted, hg]
  have ho' : L.toArray[j]? = some o := by simpa using ho
  unfold wpOp
  simp only [ho', hw, if_true]
  exact .inl h

/-- The end of the region: the frame is laid, the copy has its name. -/
theorem end10 {Q : Exit → Act → World → Prop} (a : Act) (w V : World) (N : Nat) (f : Dk.Frm) (L bw bl cp : Nat) (m : List Nat) (zs : Array Value) (hN : Dk.Box V N (Dk.fc f) 29) (hz : Dk.Box V bw zs 29) (hzs : zs.size = 10) (hNw : N ≠ bw) (hl : Roomy V bl cp m) (hne : bl ≠ bw) (u : Below w.heap.size w V) (hbw : w.heap.size ≤ bw)
    (e14 : a.eval (.tmp 14) = .pointer (some ⟨bw, 0, none⟩)) (e100 : a.eval (.tmp 100) = Dk.fv f) (e103 : a.eval (.tmp 103) = .slice (some ⟨bl, 0, none⟩) L cp)
    (listed : Array Bool) (h5 : Region.ready .any ops10.toArray listed = [5]) (h6 : Region.ready .any ops10.toArray (listed.setIfInBounds 5 true) = [6]) (h7 : Region.ready .any ops10.toArray ((listed.setIfInBounds 5 true).setIfInBounds 6 true) = [])
    (h : ∀ V', Dk.Box V' bw (Dk.fc f) 29 → Roomy V' bl cp m → Below w.heap.size w V' → Q .normal (a.put (some 15) (.slice (some ⟨bl, 0, none⟩) L cp)) V') :
    wpAnyH Try.prog .any ops10.toArray Q (fun w' => Dk.Box w' N (Dk.fc f) 29) 2 listed a V := by
  refine wpAnyH_all (rs := [5]) h5 (by simp) fun i hi => ?_
  obtain rfl : i = 5 := by simpa using hi
  refine op_wp (o := ops10[5]) rfl rfl ?_
  refine wp_store_row 29 (.tmp 14) (.tmp 100) rfl bw (Dk.fc f) e14 e100 29 zs hz.heap frm_size hzs (Dk.fc_cells _) ?_
  refine ⟨hN.row_other hNw, ?_⟩
  refine wpAnyH_all (rs := [6]) h6 (by simp) fun i hi => ?_
  obtain rfl : i = 6 := by simpa using hi
  refine op_value (o := ops10[6]) (some 15) rfl rfl rfl (run6 e103) ?_
  refine ⟨hN.row_other hNw, ?_⟩
  exact ⟨h7, h _ hz.row (hl.row_other hne) (below_setRow u hbw _)⟩

theorem put2 (a : Act) (x y : Nat) (v u : Value) (h : x ≠ y) : (a.put (some x) v).put (some y) u = (a.put (some y) u).put (some x) v := Act.put_comm a v u (fun d hd e => h (by rw [Option.some.inj hd, ← Option.some.inj e]))

set_option maxHeartbeats 1000000 in
theorem region10 {Q : Exit → Act → World → Prop} (a : Act) (w : World) (N : Nat) (f : Dk.Frm) (A : Option Addr) (L C : Nat) (m : List Nat) (b1 : Dk.Box w N (Dk.fc f) 29) (hr : Dk.Row 1 0 Dk.IsWord w.heap.size w A L C m) (hL : L ≤ 200)
    (h3 : a.eval (.tmp 3) = .pointer (some ⟨N, 0, none⟩)) (h2 : a.eval (.tmp 2) = .slice A L C) (hsz : 104 ≤ a.tmps.size)
    (h : ∀ (bw bl cp : Nat) (v : Value) (V : World), Dk.Box V bw (Dk.fc f) 29 → Roomy V bl cp m → Below w.heap.size w V → w.heap.size ≤ bw → w.heap.size ≤ bl → bl ≠ bw →
      Q .normal ((((((a.put (some 100) (Dk.fv f)).put (some 102) (.slice A L C)).put (some 101) v).put (some 103) (.slice (some ⟨bl, 0, none⟩) L cp)).put (some 14) (.pointer (some ⟨bw, 0, none⟩))).put (some 15) (.slice (some ⟨bl, 0, none⟩) L cp)) V) :
    (Code.region 10 ops10.toArray true).wp Try.prog Q a w := by
  have hNl := b1.lt
  refine wp_region_noPanic (wp_region_held (S := fun w' => Dk.Box w' N (Dk.fc f) 29) (by kernel_rfl) ?_)
  show wpAnyH _ _ _ _ _ 7 _ _ w.drew
  refine wpAnyH_take (i := 0) (oi := ops10[0]) (v := Dk.fv f) (fuel := 6) rfl (by kernel_rfl) (by kernel_rfl) (by kernel_rfl) (fun c a w h => h.elim) (.inl ⟨rfl, fun w' hw => run0 h3 hw⟩) b1.drew ?_
  show wpAnyH _ _ _ _ _ 6 _ (a.put (some 100) (Dk.fv f)) w.drew
  refine wpAnyH_take (i := 2) (oi := ops10[2]) (v := .slice A L C) (fuel := 5) rfl (by kernel_rfl) (by kernel_rfl) (by kernel_rfl) (fun c a w h => h.elim) (.inl ⟨rfl, fun w' hw => run2 (by rw [eval_other _ _ _ _ (by decide)]; exact h2)⟩) b1.drew ?_
  obtain ⟨a1, ea1⟩ : ∃ a1, (a.put (some 100) (Dk.fv f)).put (some 102) (.slice A L C) = a1 := ⟨_, rfl⟩
  have s1 : a1.tmps.size = a.tmps.size := by rw [← ea1, size_put, size_put]
  have v100 : a1.eval (.tmp 100) = Dk.fv f := by rw [← ea1, eval_other _ _ _ _ (by decide), eval_same _ _ _ (by omega)]
  have v102 : a1.eval (.tmp 102) = .slice A L C := by rw [← ea1, eval_same _ _ _ (by rw [size_put]; omega)]
  show wpAnyH _ _ _ _ _ 5 _ ((a.put (some 100) (Dk.fv f)).put (some 102) (.slice A L C)) w.drew
  rw [ea1]
  rw [ea1] at h
  clear ea1 h2 h3
  have hr0 : Dk.Row 1 0 Dk.IsWord w.drew.heap.size w.drew A L C m := hr.up (Dk.up_drew (Below.refl _ _))
  refine wpAnyH_all (rs := [1, 4]) (by kernel_rfl) (by simp) fun i hi => ?_
  rcases (by simpa using hi : i = 1 ∨ i = 4) with rfl | rfl
  · refine op_value (o := ops10[1]) (some 101) rfl rfl rfl run1 ?_
    refine ⟨b1.drew.old _, ?_⟩
    show wpAnyH _ _ _ _ _ 4 _ (a1.put (some 101) _) _
    have hbx := Dk.Box.new w.drew #[] 26
    have hu : Below w.heap.size w (w.drew.alloc (.cells #[] 26)) := Dk.up_alloc (Dk.up_drew (Below.refl _ _)) _
    have hr1 := hr.up hu
    have hN1 := b1.drew.old (.cells #[] 26)
    have hsz1 : (w.drew.alloc (.cells #[] 26)).heap.size = w.heap.size + 1 := by rw [World.size_alloc]; rfl
    refine wpAnyH_all (rs := [3, 4]) (by kernel_rfl) (by simp) fun i hi => ?_
    rcases (by simpa using hi : i = 3 ∨ i = 4) with rfl | rfl
    · obtain ⟨bl, cp, w2, hrun, hrm, hgr, hat⟩ := append_words _ _ A L C m hbx hr1 hL
      refine op_value (o := ops10[3]) (some 103) rfl rfl rfl (run3 (by rw [eval_same _ _ _ (by omega)]) (by rw [eval_other _ _ _ _ (by decide)]; exact v102) hrun) ?_
      have hN2 := grown_box hN1 hgr (by show N ≠ w.heap.size; omega)
      have hu2 := grown_below hu hgr (Nat.le_refl _) (by omega)
      refine ⟨hN2, ?_⟩
      refine wpAnyH_all (rs := [4]) (by kernel_rfl) (by simp) fun i hi => ?_
      obtain rfl : i = 4 := by simpa using hi
      refine op_value (o := ops10[4]) (some 14) rfl rfl rfl run4 ?_
      refine ⟨hN2.old _, ?_⟩
      have hbl : w.heap.size ≤ bl := by rcases hat with h | h <;> (rw [h]; first | exact Nat.le_refl _ | omega)
      have hrl := hrm.lt
      refine end10 _ w _ N f L w2.heap.size bl cp m _ (hN2.old _) (Dk.Box.new _ _ _) rfl (by have := hN2.lt; omega) (hrm.up (Dk.up_alloc (Below.refl _ _) _)) (by omega) (Dk.up_alloc hu2 _) (by have := hu2.size; omega) (eval_same _ _ _ (by simp only [size_put]; omega)) (by simp only [eval_other _ _ _ _ (show 14 ≠ 100 by decide), eval_other _ _ _ _ (show 103 ≠ 100 by decide), eval_other _ _ _ _ (show 101 ≠ 100 by decide)]; exact v100) (by rw [eval_other _ _ _ _ (by decide), eval_same _ _ _ (by simp only [size_put]; omega)]) _ (by kernel_rfl) (by kernel_rfl) (by kernel_rfl) ?_
      intro V' t1 t2 t3
      exact NoPanic.normal (h _ bl cp _ V' t1 t2 t3 (by have := hu2.size; omega) hbl (by omega))
    · refine op_value (o := ops10[4]) (some 14) rfl rfl rfl run4 ?_
      refine ⟨hN1.old _, ?_⟩
      obtain ⟨w2, ew2⟩ : ∃ w2, (w.drew.alloc (.cells #[] 26)).alloc (.cells #[.int .i64 0, .int .i64 0, .int .u64 0, .int .u64 0, .int .u64 0, .int .u64 0, .int .u64 0, .int .u64 0, .int .u64 0, .int .u64 0] 29) = w2 := ⟨_, rfl⟩
      have hb2 : Dk.Box w2 w.heap.size #[] 26 := ew2 ▸ hbx.old _
      have hz2 : Dk.Box w2 (w.heap.size + 1) #[.int .i64 0, .int .i64 0, .int .u64 0, .int .u64 0, .int .u64 0, .int .u64 0, .int .u64 0, .int .u64 0, .int .u64 0, .int .u64 0] 29 := by
        have := Dk.Box.new (w.drew.alloc (.cells #[] 26)) #[.int .i64 0, .int .i64 0, .int .u64 0, .int .u64 0, .int .u64 0, .int .u64 0, .int .u64 0, .int .u64 0, .int .u64 0, .int .u64 0] 29
        rw [ew2, hsz1] at this
        exact this
      have hN2 : Dk.Box w2 N (Dk.fc f) 29 := ew2 ▸ hN1.old _
      have hu2 : Below w.heap.size w w2 := ew2 ▸ Dk.up_alloc hu _
      have hs2 : w2.heap.size = w.heap.size + 1 + 1 := by rw [← ew2, World.size_alloc, hsz1]
      rw [ew2, hsz1]
      clear ew2
      obtain ⟨bl, cp, w3, hrun, hrm, hgr, hat⟩ := append_words w2 w.heap.size A L C m hb2 (hr.up hu2) hL
      refine wpAnyH_all (rs := [3]) (by kernel_rfl) (by simp) fun i hi => ?_
      obtain rfl : i = 3 := by simpa using hi
      refine op_value (o := ops10[3]) (some 103) rfl rfl rfl (run3 (by rw [eval_other _ _ _ _ (by decide), eval_same _ _ _ (by omega)]; rfl) (by rw [eval_other _ _ _ _ (by decide), eval_other _ _ _ _ (by decide)]; exact v102) hrun) ?_
      have hN3 := grown_box hN2 hgr (by omega)
      have hz3 := grown_box hz2 hgr (by omega)
      have hu3 := grown_below hu2 hgr (Nat.le_refl _) (by omega)
      have hbl : w.heap.size ≤ bl := by rcases hat with h | h <;> omega
      have hne : bl ≠ w.heap.size + 1 := by rcases hat with h | h <;> omega
      refine ⟨hN3, ?_⟩
      refine end10 _ w _ N f L (w.heap.size + 1) bl cp m _ hN3 hz3 rfl (by omega) hrm hne hu3 (by omega) (by rw [eval_other _ _ _ _ (by decide), eval_same _ _ _ (by simp only [size_put]; omega)]) (by rw [eval_other _ _ _ _ (by decide), eval_other _ _ _ _ (by decide), eval_other _ _ _ _ (by decide)]; exact v100) (eval_same _ _ _ (by simp only [size_put]; omega)) _ (by kernel_rfl) (by kernel_rfl) (by kernel_rfl) ?_
      intro V' t1 t2 t3
      have := h (w.heap.size + 1) bl cp (.slice (some ⟨w.heap.size, 0, none⟩) 0 0) V' t1 t2 t3 (by omega) hbl hne
      rw [put2 _ 103 14 _ _ (by decide)] at this
      exact NoPanic.normal this
  · refine op_value (o := ops10[4]) (some 14) rfl rfl rfl run4 ?_
    refine ⟨b1.drew.old _, ?_⟩
    obtain ⟨w1, ew1⟩ : ∃ w1, w.drew.alloc (.cells #[.int .i64 0, .int .i64 0, .int .u64 0, .int .u64 0, .int .u64 0, .int .u64 0, .int .u64 0, .int .u64 0, .int .u64 0, .int .u64 0] 29) = w1 := ⟨_, rfl⟩
    have hz1 : Dk.Box w1 w.heap.size #[.int .i64 0, .int .i64 0, .int .u64 0, .int .u64 0, .int .u64 0, .int .u64 0, .int .u64 0, .int .u64 0, .int .u64 0, .int .u64 0] 29 := ew1 ▸ Dk.Box.new w.drew _ _
    have hN1 : Dk.Box w1 N (Dk.fc f) 29 := ew1 ▸ b1.drew.old _
    have hu1 : Below w.heap.size w w1 := ew1 ▸ Dk.up_alloc (Dk.up_drew (Below.refl _ _)) _
    have hs1 : w1.heap.size = w.heap.size + 1 := by rw [← ew1, World.size_alloc]; rfl
    rw [ew1]
    clear ew1
    refine wpAnyH_all (rs := [1]) (by kernel_rfl) (by simp) fun i hi => ?_
    obtain rfl : i = 1 := by simpa using hi
    refine op_value (o := ops10[1]) (some 101) rfl rfl rfl run1 ?_
    refine ⟨hN1.old _, ?_⟩
    have hb2 := Dk.Box.new w1 #[] 26
    have hz2 := hz1.old (.cells #[] 26)
    have hN2 := hN1.old (.cells #[] 26)
    have hu2 : Below w.heap.size w (w1.alloc (.cells #[] 26)) := Dk.up_alloc hu1 _
    have hs2 : (w1.alloc (.cells #[] 26)).heap.size = w.heap.size + 1 + 1 := by rw [World.size_alloc, hs1]
    obtain ⟨bl, cp, w3, hrun, hrm, hgr, hat⟩ := append_words _ w1.heap.size A L C m hb2 (hr.up hu2) hL
    refine wpAnyH_all (rs := [3]) (by kernel_rfl) (by simp) fun i hi => ?_
    obtain rfl : i = 3 := by simpa using hi
    refine op_value (o := ops10[3]) (some 103) rfl rfl rfl (run3 (by rw [eval_same _ _ _ (by simp only [size_put]; omega)]) (by rw [eval_other _ _ _ _ (by decide), eval_other _ _ _ _ (by decide)]; exact v102) hrun) ?_
    have hN3 := grown_box hN2 hgr (by omega)
    have hz3 := grown_box hz2 hgr (by omega)
    have hu3 := grown_below hu2 hgr (by omega) (by omega)
    have hbl : w.heap.size ≤ bl := by rcases hat with h | h <;> omega
    have hne : bl ≠ w.heap.size := by rcases hat with h | h <;> omega
    refine ⟨hN3, ?_⟩
    refine end10 _ w _ N f L w.heap.size bl cp m _ hN3 hz3 rfl (by omega) hrm hne hu3 (by omega) (by rw [eval_other _ _ _ _ (by decide), eval_other _ _ _ _ (by decide), eval_same _ _ _ (by omega)]; rfl) (by rw [eval_other _ _ _ _ (by decide), eval_other _ _ _ _ (by decide), eval_other _ _ _ _ (by decide)]; exact v100) (eval_same _ _ _ (by simp only [size_put]; omega)) _ (by kernel_rfl) (by kernel_rfl) (by kernel_rfl) ?_
    intro V' t1 t2 t3
    have := h w.heap.size bl cp (.slice (some ⟨w1.heap.size, 0, none⟩) 0 0) V' t1 t2 t3 (by omega) hbl hne
    rw [put2 _ 103 14 _ _ (by decide), put2 _ 101 14 _ _ (by decide)] at this
    exact NoPanic.normal this

end Go.Proofs.Ytmkeniobnjpohaa
