/- Layer 14: events and more; the first that was taken away within a section. -/
import Derived.Test.YthpphicgkkhbfaaEc
import Derived.Test.YthpphicgkkhbfaaMx
namespace Dk
open Go Go.RowKit
def firstI (es : List Ev) : Int := if es.findIdx Ev.within < es.length then es.findIdx Ev.within else -1
theorem firstI_at {es : List Ev} {k : Nat} (h : k < es.length) (hn : ∀ i, i < k → (es.getD i Ev.zero).within = false) (hy : (es.getD k Ev.zero).within = true) : es.findIdx Ev.within = k := by
  rw [List.findIdx_eq h]
  have e : ∀ (i : Nat) (hi : i < es.length), es.getD i Ev.zero = es[i] := fun i hi => by simp [List.getD, hi]
  refine ⟨by rw [← e k h]; exact hy, fun j hj => by rw [← e j (by omega)]; exact hn j hj⟩
theorem firstI_none {es : List Ev} (hn : ∀ i, i < es.length → (es.getD i Ev.zero).within = false) : es.findIdx Ev.within = es.length := by
  rw [List.findIdx_eq_length]
  intro x hx
  obtain ⟨j, hj, rfl⟩ := List.getElem_of_mem hx
  have := hn j hj
  simpa [List.getD, hj] using this
theorem Sep.onto {W w w' : World} {us : List Thing} {t : Thing} (h : Sep W w us) (s : Sep w w' [t]) : Sep W w' (t :: us) := h.add s.out (s.get (List.mem_cons_self ..)) (s.base (List.mem_cons_self ..))
end Dk
namespace Go.Proofs.Ythpphicgkkhbfaa
set_option linter.unusedSimpArgs false
set_option linter.unusedVariables false
set_option linter.unnecessarySimpa false
open Go.RowKit Go.Lib
theorem Dk.Away.rowE {S : Nat → Prop} {w w' : World} {b : Nat} (h : Dk.Away S w w') (hb : S b ∨ w.heap.size ≤ b) (cs : Array Value) : Dk.Away S w (w'.setRow b cs) :=
  ⟨h.os, h.tape, h.output, by simp [World.setRow]; exact h.size, fun k hk hn => (setRow_other w' b k cs (fun e => by subst e; exact hb.elim hn (fun h1 => absurd hk (by omega)))).trans (h.block k hk hn)⟩
theorem Dk.Sep.setRow {W w : World} {us1 us2 : List Dk.Thing} {b : Nat} {cs : Array Value} {e : TypeId} (h : Dk.Sep W w (us1 ++ Dk.boxOf b cs e :: us2)) (cs' : Array Value) : Dk.Sep W (w.setRow b cs') (us1 ++ Dk.boxOf b cs' e :: us2) :=
  h.turn (t' := Dk.boxOf b cs' e) (Dk.Away.rowE (S := (Dk.boxOf b cs e).own) (Dk.Away.refl _ _) (.inl rfl) _) (h.box (b := b) (cs := cs) (t := e) (by simp)).row (fun k hk => .inl hk)
theorem wpList_append_guard {P : Program} (w : World) {ops : Array Oper} {rest : List Oper} {o : Oper} {a : Act} {Q : Exit → Act → World → Prop} (hw : Region.wanted o (yielded ops a.tmps) = true) (s x : Operand) (t tn : TypeId)
    (ho : o.op = .call { callee := .builtin .append, args := #[s, x], argTypes := #[t, tn] }) (vs vx : Value) (hs : a.eval s = vs) (hx : a.eval x = vx)
    (v' : Value) (w' : World) (hr : (Builtin.append_ #[t, tn] o.type #[vs, vx]).run P w = .ok v' w') (h : wpList P ops Q rest (a.put o.dst v') w') : wpList P ops Q (o :: rest) a w :=
  wpList_step fun K hK => by simp only [hw, if_true]; exact wp_append_run w s x t tn ho vs vx hs hx v' w' hr (hK _ _ h)
section
variable {w : World}
theorem ev_cells (a b c : Int) : (#[.int .i64 a, .int .i64 b, .int .i64 c] : Array Value).all (·.oneCell') = true := by simp [Value.oneCell']
set_option maxRecDepth 100000 in
theorem ev_size : (Try.prog.info? 36).map (·.size) = some 3 := by kernel_rfl
set_option maxRecDepth 100000 in
set_option maxHeartbeats 1000000 in
theorem Join_any {A A' : Option Addr} {L L' C C' : Nat} {es es' : List Dk.Ev} (hE : Dk.SlE w.heap.size w A L C es) (hE' : Dk.SlE w.heap.size w A' L' C' es') (hL : L + L' ≤ 5864062014805) :
    Calls Try.prog 16 #[.slice A L C, .slice A' L' C'] w fun e w' => ∃ B D, e = .returned (.slice B (L + L') D) ∧ Dk.Sep w w' [Dk.rowOf 36 3 (.slice B (L + L') D) (L + L') (Dk.evs (es ++ es'))] := by
  have s0 := (Dk.Sep.begin (Below.refl w.heap.size w)).nilRow 36 3
  obtain ⟨v1, w1, r1, s1⟩ := Dk.Sep.appendEs (us1 := []) (xs := []) KE s0 rfl hE (by unfold maxLen; omega) (by omega)
  obtain ⟨v2, w2, r2, s2⟩ := Dk.Sep.appendEs (us1 := []) (xs := [] ++ es) KE s1 (by rw [List.nil_append, hE.len]; omega) (hE'.up s1.out) (by unfold maxLen; omega) (by omega)
  rw [List.nil_append, Nat.zero_add] at s2
  obtain ⟨B, D, ev, _, _⟩ := Dk.owns_slice (s2.row (e := 36) (s := 3) (v := v2) (n := L + L') (xs := Dk.evs (es ++ es')) (by simp))
  subst ev
  have HS : Hid _ := s2
  clear s0 s1 s2 hE hE'
  go_enter Try.func16, Try.ntmps16
  go_wp2_with (at_builtin; first | (refine Lib.wpList_append_run _ rfl _ _ _ _ rfl _ _ rfl rfl _ _ r1 ?_; clear r1) | (refine Lib.wpList_append_run _ rfl _ _ _ _ rfl _ _ rfl rfl _ _ r2 ?_; clear r2))
  go_ret
  exact ⟨_, _, rfl, HS.out⟩

end
end Go.Proofs.Ythpphicgkkhbfaa
