/- Layer 14: events and more; the first that was taken away within a section. -/
import Derived.Test.YtogddcbggenjmaaEc
import Derived.Test.YtogddcbggenjmaaMx
namespace Dk
open Go Go.RowKit
def firstI (es : List Ev) : Int := if es.findIdx Ev.within < es.length then es.findIdx Ev.within else -1
theorem firstI_at {es : List Ev} {k : Nat} (h : k < es.length) (hn : ∀ i, i < k → (es.getD i Ev.zero).within = false) (hy : (es.getD k Ev.zero).within = true) : es.findIdx Ev.within = k := by
  rw [List.findIdx_eq h]
  have e : ∀ (i : Nat) (hi : i < es.length), es.getD i Ev.zero = es[i] := fun i hi => by simp [List.getD, hi]
  refine ⟨by rw [← e k h]; exact hy, fun j hj => by rw [← e j (by omega)]; exact hn j hj⟩
theorem firstI_none {es : List Ev} (hn : ∀ i, i < es.length → (es.getD i Ev.zero).within = false) : es.findIdx Ev.within = es.length := by
  rw [List.findIdx_eq_length]
  intro x hx
  obtain ⟨j, hj, rfl⟩ := List.getElem_of_mem hx
  have := hn j hj
  simpa [List.getD, hj] using this
theorem Sep.onto {W w w' : World} {us : List Thing} {t : Thing} (h : Sep W w us) (s : Sep w w' [t]) : Sep W w' (t :: us) := h.add s.out (s.get (List.mem_cons_self ..)) (s.base (List.mem_cons_self ..))
end Dk
namespace Go.Proofs.Ytogddcbggenjmaa
set_option linter.unusedSimpArgs false
set_option linter.unusedVariables false
set_option linter.unnecessarySimpa false
open Go.RowKit Go.Lib
theorem Dk.Away.rowE {S : Nat → Prop} {w w' : World} {b : Nat} (h : Dk.Away S w w') (hb : S b ∨ w.heap.size ≤ b) (cs : Array Value) : Dk.Away S w (w'.setRow b cs) :=
  ⟨h.os, h.tape, h.output, by simp [World.setRow]; exact h.size, fun k hk hn => (setRow_other w' b k cs (fun e => by subst e; exact hb.elim hn (fun h1 => absurd hk (by omega)))).trans (h.block k hk hn)⟩
theorem Dk.Sep.setRow {W w : World} {us1 us2 : List Dk.Thing} {b : Nat} {cs : Array Value} {e : TypeId} (h : Dk.Sep W w (us1 ++ Dk.boxOf b cs e :: us2)) (cs' : Array Value) : Dk.Sep W (w.setRow b cs') (us1 ++ Dk.boxOf b cs' e :: us2) :=
  h.turn (t' := Dk.boxOf b cs' e) (Dk.Away.rowE (S := (Dk.boxOf b cs e).own) (Dk.Away.refl _ _) (.inl rfl) _) (h.box (b := b) (cs := cs) (t := e) (by simp)).row (fun k hk => .inl hk)
theorem wpList_append_guard {P : Program} (w : World) {ops : Array Oper} {rest : List Oper} {o : Oper} {a : Act} {Q : Exit → Act → World → Prop} (hw : Region.wanted o (yielded ops a.tmps) = true) (s x : Operand) (t tn : TypeId)
    (ho : o.op = .call { callee := .builtin .append, args := #[s, x], argTypes := #[t, tn] }) (vs vx : Value) (hs : a.eval s = vs) (hx : a.eval x = vx)
    (v' : Value) (w' : World) (hr : (Builtin.append_ #[t, tn] o.type #[vs, vx]).run P w = .ok v' w') (h : wpList P ops Q rest (a.put o.dst v') w') : wpList P ops Q (o :: rest) a w :=
  wpList_step fun K hK => by simp only [hw, if_true]; exact wp_append_run w s x t tn ho vs vx hs hx v' w' hr (hK _ _ h)
section
variable {w : World}
theorem ev_cells (a b c : Int) : (#[.int .i64 a, .int .i64 b, .int .i64 c] : Array Value).all (·.oneCell') = true := by simp [Value.oneCell']
set_option maxRecDepth 100000 in
theorem ev_size : (Try.prog.info? 25).map (·.size) = some 3 := by kernel_rfl
set_option maxRecDepth 100000 in
set_option maxHeartbeats 1000000 in
theorem Join_any {A A' : Option Addr} {L L' C C' : Nat} {es es' : List Dk.Ev} (hE : Dk.SlE w.heap.size w A L C es) (hE' : Dk.SlE w.heap.size w A' L' C' es') (hL : L + L' ≤ 5864062014805) :
    Calls Try.prog 16 #[.slice A L C, .slice A' L' C'] w fun e w' => ∃ B D, e = .returned (.slice B (L + L') D) ∧ Dk.Sep w w' [Dk.rowOf 25 3 (.slice B (L + L') D) (L + L') (Dk.evs (es ++ es'))] := by
  have s0 := (Dk.Sep.begin (Below.refl w.heap.size w)).nilRow 25 3
  obtain ⟨v1, w1, r1, s1⟩ := Dk.Sep.appendEs (us1 := []) (xs := []) KE s0 rfl hE (by unfold maxLen; omega) (by omega)
  obtain ⟨v2, w2, r2, s2⟩ := Dk.Sep.appendEs (us1 := []) (xs := [] ++ es) KE s1 (by rw [List.nil_append, hE.len]; omega) (hE'.up s1.out) (by unfold maxLen; omega) (by omega)
  rw [List.nil_append, Nat.zero_add] at s2
  obtain ⟨B, D, ev, _, _⟩ := Dk.owns_slice (s2.row (e := 25) (s := 3) (v := v2) (n := L + L') (xs := Dk.evs (es ++ es')) (by simp))
  subst ev
  have HS : Hid _ := s2
  clear s0 s1 s2 hE hE'
  go_enter Try.func16, Try.ntmps16
  go_wp2_with (at_builtin; first | (refine Lib.wpList_append_run _ rfl _ _ _ _ rfl _ _ rfl rfl _ _ r1 ?_; clear r1) | (refine Lib.wpList_append_run _ rfl _ _ _ _ rfl _ _ rfl rfl _ _ r2 ?_; clear r2))
  go_ret
  exact ⟨_, _, rfl, HS.out⟩

set_option maxRecDepth 100000 in
set_option maxHeartbeats 1000000 in
theorem IndexFunc_any {A : Option Addr} {L C : Nat} {es : List Dk.Ev} (hE : Dk.SlE w.heap.size w A L C es) :
    Calls Try.prog 20 #[.slice A L C, .func (.func 17) #[] #[]] w fun e w' => e = .returned (.int .i64 (Dk.firstI es)) ∧ Below w.heap.size w w' := by
  have hfn := call_sec
  have hlen := hE.len
  have hcap := hE.cap
  have hmax := hE.max
  unfold maxLen at hmax
  have HH : Hid (Dk.SlE w.heap.size w A L C es) := hE
  have HL : Hid (es.length = L) := hlen
  clear hE hlen
  go_enter Try.func20, Try.ntmps20
  go_wp2_with fail
  go_loopw [8] (fun i w' => ∃ k : Nat, k ≤ L ∧ i = .int .i64 k ∧ Hid (Below w.heap.size w w') ∧ Hid (∀ i, i < k → (es.getD i Dk.Ev.zero).within = false)) (fun i w' => L - (intOf i).toNat)
  case atStart => exact ⟨0, Nat.zero_le _, rfl, Below.refl _ _, fun i hi => absurd hi (Nat.not_lt_zero _)⟩
  case round =>
    obtain ⟨k, hk, rfl, HB, HN⟩ := hrel
    by_cases hlt : k < L
    · obtain ⟨b, o, rfl, hbb, _, k0, k1, k2⟩ := HH.out.at hlt
      have KS := fun w => inSection_any (es.getD k Dk.Ev.zero) w
      obtain ⟨x, ex⟩ : ∃ x, es.getD k Dk.Ev.zero = x := ⟨_, rfl⟩
      rw [ex] at k0 k1 k2 KS
      have HX : Hid _ := ex
      clear ex
      have HW : Hid (x.within = x.within) := rfl
      obtain ⟨z, ez⟩ : ∃ z, x.within = z := ⟨_, rfl⟩
      rw [ez] at KS
      have HZ : Hid (x.within = z) := ez
      clear ez HW
      obtain ⟨xk, xt, xm⟩ := x
      have c0 : wr.cell? ⟨b, o + k * 3, none⟩ = some (.int .i64 xk) := by rw [HB.out.cell (by exact hbb)]; exact k0
      have c1 : wr.cell? ⟨b, o + k * 3 + 1, none⟩ = some (.int .i64 xt) := by rw [HB.out.cell (by exact hbb)]; exact k1
      have c2 : wr.cell? ⟨b, o + k * 3 + 2, none⟩ = some (.int .i64 xm) := by rw [HB.out.cell (by exact hbb)]; exact k2
      clear k0 k1 k2
      cases z with
      | true =>
        have e : Dk.firstI es = (k : Int) := by
          have := Dk.firstI_at (es := es) (k := k) (by rw [HL.out]; exact hlt) HN.out (by rw [HX.out]; exact HZ.out)
          unfold Dk.firstI
          rw [this, if_pos (by rw [HL.out]; exact hlt)]
        have HE : Hid _ := e
        clear e
        go_wp2_with fail
        refine (KS _).mono ?_
        rintro e w2 ⟨rfl, v2⟩
        clear KS c0 c1 c2
        go_wp2
        go_ret
        exact ⟨by rw [HE.out]; rfl, Dk.up_call HB.out v2⟩
      | false =>
        have HQ : Hid (∀ i, i < k + 1 → (es.getD i Dk.Ev.zero).within = false) := fun i hi => by
          by_cases hik : i < k
          · exact HN.out i hik
          · obtain rfl : i = k := by omega
            rw [HX.out]; exact HZ.out
        go_wp2_with fail
        refine (KS _).mono ?_
        rintro e w2 ⟨rfl, v2⟩
        clear KS c0 c1 c2
        go_wp2_with fail
        go_roundw
        case rel => exact ⟨k + 1, by omega, by go_num, Dk.up_call HB.out v2, HQ⟩
        case measure => simp [intOf]; omega
    · obtain rfl : k = L := by omega
      have e : Dk.firstI es = -1 := by
        have := Dk.firstI_none (es := es) (by rw [HL.out]; exact HN.out)
        unfold Dk.firstI
        rw [this, if_neg (by omega)]
      have HE : Hid _ := e
      clear e
      go_wp2
      go_ret
      exact ⟨by rw [HE.out]; rfl, HB.out⟩

set_option maxRecDepth 100000 in
set_option maxHeartbeats 1000000 in
theorem Within_no {A : Option Addr} {L C : Nat} {es : List Dk.Ev} (hE : Dk.SlE w.heap.size w A L C es) (hL : L ≤ 5864062014805) (hn : Dk.firstI es = -1) :
    Calls Try.prog 15 #[.slice A L C] w fun e w' => ∃ B D, e = .returned (.tuple #[Dk.Ev.zero.v, .slice B L D, .bool false]) ∧ Dk.Sep w w' [Dk.rowOf 25 3 (.slice B L D) L (Dk.evs es)] := by
  obtain ⟨W1, e1⟩ : ∃ W1, W1 = w.alloc (.cells #[.int .i64 0, .int .i64 0, .int .i64 0] 25) := ⟨_, rfl⟩
  have S1 := (Dk.Sep.begin (Below.refl w.heap.size w)).newBox e1
  have H1 : Hid (w.alloc (.cells #[.int .i64 0, .int .i64 0, .int .i64 0] 25) = W1) := e1.symm
  have E1 := hE.up S1.out
  have K := IndexFunc_any E1
  rw [hn] at K
  have HE : Hid _ := E1
  clear hE e1 hn E1
  go_enter Try.func15, Try.ntmps15
  go_wp2_with (rw [H1.out]; clear H1)
  refine K.mono ?_
  rintro e w2 ⟨rfl, v2⟩
  have S2 := S1.below v2
  have KJ := Join_any (HE.out.up v2) (Dk.SlE.none_ (B := w2.heap.size) (w := w2) (A := none) (C := 0) rfl (Nat.zero_le _)) (by omega)
  rw [List.append_nil, Nat.add_zero] at KJ
  clear K S1 HE
  go_wp2_with fail
  refine KJ.mono ?_
  rintro e w3 ⟨B, D, rfl, s3⟩
  have S3 := S2.onto s3
  have b3 := S3.box (b := w.heap.size) (cs := #[.int .i64 0, .int .i64 0, .int .i64 0]) (t := 25) (by simp)
  have HB : Hid (Dk.Box w3 w.heap.size #[.int .i64 0, .int .i64 0, .int .i64 0] 25) := b3
  have HS : Hid _ := S3
  clear S2 S3 s3 KJ v2 b3
  go_wp2_with (refine wpList_store_row rfl 25 _ _ rfl w.heap.size #[.int .i64 0, .int .i64 0, .int .i64 0] rfl rfl 25 _ HB.out.heap ev_size rfl (ev_cells _ _ _) ?_)
  have d0 := (HB.out.row (cs' := #[.int .i64 0, .int .i64 0, .int .i64 0])).cell
  have s4 := Dk.Sep.setRow (us1 := [_]) (us2 := []) HS.out #[.int .i64 0, .int .i64 0, .int .i64 0]
  exact bodyPost_ret (v := .tuple #[.agg #[.int .i64 0, .int .i64 0, .int .i64 0], .slice B L D, .bool false]) (by simp [results, Try.results15, go_sem, d0]) rfl ⟨_, _, rfl, s4.sub (List.Sublist.cons_cons _ (List.sublist_cons_self _ _))⟩
set_option maxRecDepth 100000 in
set_option maxHeartbeats 1000000 in
theorem Within_yes {b o L C k : Nat} {es : List Dk.Ev} (hE : Dk.SlE w.heap.size w (some ⟨b, o, none⟩) L C es) (hL : L ≤ 5864062014805) (hk : k < L) (hn : Dk.firstI es = (k : Int)) :
    Calls Try.prog 15 #[.slice (some ⟨b, o, none⟩) L C] w fun e w' => ∃ B D, e = .returned (.tuple #[(es.getD k Dk.Ev.zero).v, .slice B (L - 1) D, .bool true]) ∧ Dk.Sep w w' [Dk.rowOf 25 3 (.slice B (L - 1) D) (L - 1) (Dk.evs (es.take k ++ es.drop (k + 1)))] := by
  obtain ⟨W1, e1⟩ : ∃ W1, W1 = w.alloc (.cells #[.int .i64 0, .int .i64 0, .int .i64 0] 25) := ⟨_, rfl⟩
  have S1 := (Dk.Sep.begin (Below.refl w.heap.size w)).newBox e1
  have H1 : Hid (w.alloc (.cells #[.int .i64 0, .int .i64 0, .int .i64 0] 25) = W1) := e1.symm
  have E1 := hE.up S1.out
  have K := IndexFunc_any E1
  obtain ⟨b', o', eb, hb, _⟩ := hE.at hk
  cases eb
  have hcap := hE.cap
  have hmax := hE.max
  unfold maxLen at hmax
  rw [hn] at K
  have HE : Hid _ := E1
  have hki : ((k : Nat) : Int) < (L : Int) := by omega
  have hk0 : (0 : Int) ≤ (k : Int) := by omega
  have y1 : decide ((k : Int) < 0) = false := by simp
  clear hE e1 hn E1
  go_enter Try.func15, Try.ntmps15
  go_wp2_with (rw [H1.out]; clear H1)
  refine K.mono ?_
  rintro e w2 ⟨rfl, v2⟩
  have S2 := S1.below v2
  have HE2 := HE.out.up v2
  have HE2 : Hid _ := HE2
  clear K S1 HE
  obtain ⟨b', o', eb, hbb, _, k0, k1, k2⟩ := HE2.out.at hk
  cases eb
  have hEw := HE2.out
  obtain ⟨x, ex⟩ : ∃ x, es.getD k Dk.Ev.zero = x := ⟨_, rfl⟩
  rw [ex] at k0 k1 k2
  obtain ⟨xk, xt, xm⟩ := x
  have HX : Hid (es.getD k Dk.Ev.zero = ⟨xk, xt, xm⟩) := ex
  clear ex
  have E3 := HE2.out.up (Dk.up_drew (Below.refl w2.heap.size w2))
  obtain ⟨q, hq⟩ : ∃ q, q = k + 1 := ⟨_, rfl⟩
  have hw1 : IntKind.i64.wrap ((k : Int) + 1) = (q : Int) := by subst hq; go_bits; omega
  have ed : es.drop q = es.drop (k + 1) := by rw [hq]
  obtain ⟨TA, eTA⟩ : ∃ TA : Option Addr, (if C = q then some ⟨b, o, none⟩ else some ⟨b, o + q * 3, none⟩) = TA := ⟨_, rfl⟩
  have E4 : Dk.SlE w2.drew.heap.size w2.drew TA (L - q) (C - q) (es.drop q) := by
    rw [← eTA]
    by_cases hc : C = q
    · rw [if_pos hc, show C - q = 0 by omega, show L - q = 0 by omega]
      exact Dk.SlE.none_ (List.drop_eq_nil_of_le (by rw [E3.len]; omega)) (Nat.zero_le _)
    · rw [if_neg hc]
      exact E3.drop (by omega)
  have KJ := Join_any (E3.take (k := k) (by omega)) E4 (by omega)
  rw [show k + (L - q) = L - 1 by omega, ed] at KJ
  have hqL : (q : Int) ≤ (L : Int) := by omega
  have hq0 : (0 : Int) ≤ (q : Int) := by omega
  have hkC : ¬ C < k := by omega
  have Hq : Hid _ := hq
  clear hq ed
  have S3 := S2.below (Dk.up_drew (Below.refl w2.heap.size w2))
  have hlt : b < w.heap.size := hb
  clear hEw E3 E4 HE2
  go_wp2_with fail
  refine Dk.wp_region_mix (S := fun w' => w'.cell? ⟨b, o + k * 3, none⟩ = some (.int .i64 xk) ∧ w'.cell? ⟨b, o + k * 3 + 1, none⟩ = some (.int .i64 xt) ∧ w'.cell? ⟨b, o + k * 3 + 2, none⟩ = some (.int .i64 xm)) [(true, 0), (true, 1), (true, 2), (true, 3), (true, 4), (true, 5), (true, 6), (true, 7), (true, 8), (true, 9), (true, 10), (false, 11), (false, 12), (false, 13), (false, 14)] (by kernel_rfl) (by kernel_rfl) (by kernel_rfl) rfl ⟨k0, k1, k2⟩ ?_
  iterate 3 (refine Dk.mix_held rfl rfl (fun w' hw' => by go_simp; rfl) ?_; simp only [Act.put, List.setIfInBounds_toArray, List.set_cons_succ, List.set_cons_zero])
  refine Dk.mix_held (v := .agg #[.int .i64 xk, .int .i64 xt, .int .i64 xm]) rfl rfl (fun w' hw' => by obtain ⟨q0, q1, q2⟩ := hw'; go_simp) ?_
  simp only [Act.put, List.setIfInBounds_toArray, List.set_cons_succ, List.set_cons_zero]
  iterate 2 (refine Dk.mix_held rfl rfl (fun w' hw' => by go_simp; rfl) ?_; simp only [Act.put, List.setIfInBounds_toArray, List.set_cons_succ, List.set_cons_zero])
  refine Dk.mix_held (v := .slice (some ⟨b, o, none⟩) k C) rfl rfl (fun w' hw' => by go_simp; first | done | (intro h; exact absurd h hkC)) ?_
  simp only [Act.put, List.setIfInBounds_toArray, List.set_cons_succ, List.set_cons_zero]
  iterate 2 (refine Dk.mix_held rfl rfl (fun w' hw' => by go_simp; rfl) ?_; simp only [Act.put, List.setIfInBounds_toArray, List.set_cons_succ, List.set_cons_zero])
  refine Dk.mix_held (v := .int .i64 (q : Int)) rfl rfl (fun w' hw' => by go_simp) ?_
  simp only [Act.put, List.setIfInBounds_toArray, List.set_cons_succ, List.set_cons_zero]
  refine Dk.mix_held (v := .slice TA (L - q) (C - q)) rfl rfl (fun w' hw' => by go_simp) ?_
  simp only [Act.put, List.setIfInBounds_toArray, List.set_cons_succ, List.set_cons_zero]
  refine Dk.mix_call (f := 16) (args := #[.slice (some ⟨b, o, none⟩) k C, .slice TA (L - q) (C - q)]) rfl rfl (by go_simp) ?_
  refine KJ.mono ?_
  rintro e w3 ⟨B, D, rfl, s3⟩
  have S4 := S3.onto s3
  have v3 := Dk.up_call (Dk.up_drew (Below.refl w2.heap.size w2)) s3.out
  have b3 := S4.box (b := w.heap.size) (cs := #[.int .i64 0, .int .i64 0, .int .i64 0]) (t := 25) (by simp)
  have S5 := Dk.Sep.setRow (us1 := [_]) (us2 := []) S4 #[.int .i64 xk, .int .i64 xt, .int .i64 xm]
  have b5 := S5.box (b := w.heap.size) (cs := #[.int .i64 xk, .int .i64 xt, .int .i64 xm]) (t := 25) (by simp)
  have q3 : ∀ j, w3.cell? ⟨b, j, none⟩ = w2.cell? ⟨b, j, none⟩ := fun j => v3.cell (by exact hbb)
  have SS : w3.cell? ⟨b, o + k * 3, none⟩ = some (.int .i64 xk) ∧ w3.cell? ⟨b, o + k * 3 + 1, none⟩ = some (.int .i64 xt) ∧ w3.cell? ⟨b, o + k * 3 + 2, none⟩ = some (.int .i64 xm) := ⟨by rw [q3]; exact k0, by rw [q3]; exact k1, by rw [q3]; exact k2⟩
  refine ⟨_, rfl, SS, ?_⟩
  simp only [Act.put, List.setIfInBounds_toArray, List.set_cons_succ, List.set_cons_zero]
  obtain ⟨W5, e5⟩ : ∃ W5, W5 = w3.setRow w.heap.size #[.int .i64 xk, .int .i64 xt, .int .i64 xm] := ⟨_, rfl⟩
  have q5 : ∀ j, W5.cell? ⟨b, j, none⟩ = w3.cell? ⟨b, j, none⟩ := fun j => by
    subst e5
    unfold World.cell?
    rw [setRow_other w3 w.heap.size b _ (by omega)]
  have SS5 : W5.cell? ⟨b, o + k * 3, none⟩ = some (.int .i64 xk) ∧ W5.cell? ⟨b, o + k * 3 + 1, none⟩ = some (.int .i64 xt) ∧ W5.cell? ⟨b, o + k * 3 + 2, none⟩ = some (.int .i64 xm) := ⟨by rw [q5]; exact SS.1, by rw [q5]; exact SS.2.1, by rw [q5]; exact SS.2.2⟩
  rw [← e5] at S5 b5
  have HS : Hid (Dk.Sep w W5 ([Dk.rowOf 25 3 (.slice B (L - 1) D) (L - 1) (Dk.evs (es.take k ++ es.drop (k + 1)))] ++ [Dk.boxOf w.heap.size #[.int .i64 xk, .int .i64 xt, .int .i64 xm] 25])) := S5
  have HB : Hid _ := b5
  refine Dk.mix_step rfl rfl ?_
  refine wp_store_row 25 _ _ rfl w.heap.size #[.int .i64 xk, .int .i64 xt, .int .i64 xm] rfl rfl 25 _ b3.heap ev_size rfl (ev_cells _ _ _) ⟨by rw [← e5]; exact SS5, ?_⟩
  rw [← e5]
  simp only [Act.put, List.setIfInBounds_toArray, List.set_cons_succ, List.set_cons_zero]
  iterate 2 (refine Dk.mix_val rfl rfl (by go_simp; rfl) SS5 ?_; simp only [Act.put, List.setIfInBounds_toArray, List.set_cons_succ, List.set_cons_zero])
  show NoPanic _ Exit.normal _ _
  refine NoPanic.normal ?_
  have d0 := HB.out.cell
  clear SS SS5 q3 q5 k0 k1 k2 S4 S5 b3 b5 S2 S3 s3 v3 KJ
  go_wp2_with fail
  exact bodyPost_ret (v := .tuple #[.agg #[.int .i64 xk, .int .i64 xt, .int .i64 xm], .slice B (L - 1) D, .bool true]) (by simp [results, Try.results15, go_sem, d0]) rfl ⟨_, _, by rw [HX.out], Dk.Sep.sub HS.out (List.Sublist.cons_cons _ (List.sublist_cons_self _ _))⟩
end
end Go.Proofs.Ytogddcbggenjmaa
