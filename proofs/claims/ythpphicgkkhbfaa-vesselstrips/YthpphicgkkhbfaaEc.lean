/- Layer 14: what is told of events, one by one; those that count again; events and more. -/
import Derived.Test.YthpphicgkkhbfaaEb
namespace Dk
open Go Go.RowKit
/-- A function value that tells of an event: its thread, where p says yes. -/
structure Tells (P : Program) (fn : Nat) (p : Ev → Bool) : Prop where
  call : ∀ (args : Array Value) (w : World), (callFunc fn args).run P w = .ok (.enter fn args) w
  says : ∀ (e : Ev) (w : World), Calls P fn #[e.v] w fun x w' => x = .returned (.tuple #[.int .i64 (if p e then e.t else 0), .bool (p e)]) ∧ Below w.heap.size w w'
end Dk
namespace Go.Proofs.Ythpphicgkkhbfaa
set_option linter.unusedSimpArgs false
set_option linter.unusedVariables false
set_option linter.unnecessarySimpa false
open Go.RowKit Go.Lib
set_option maxRecDepth 100000 in
theorem call_runs (args : Array Value) (w : World) : (callFunc 19 args).run Try.prog w = .ok (.enter 19 args) w := by kernel_rfl
set_option maxRecDepth 100000 in
theorem call_has (args : Array Value) (w : World) : (callFunc 21 args).run Try.prog w = .ok (.enter 21 args) w := by kernel_rfl
set_option maxRecDepth 100000 in
theorem call_sec (args : Array Value) (w : World) : (callFunc 20 args).run Try.prog w = .ok (.enter 20 args) w := by kernel_rfl
theorem tells_runs : Dk.Tells Try.prog 19 Dk.Ev.runs := ⟨call_runs, Runs_any⟩
theorem tells_has : Dk.Tells Try.prog 21 Dk.Ev.has := ⟨call_has, threadOf_any⟩

section
variable {w : World}
set_option maxRecDepth 100000 in
set_option maxHeartbeats 1000000 in
theorem Keep_any {A : Option Addr} {L C : Nat} {es : List Dk.Ev} (hE : Dk.SlE w.heap.size w A L C es) (hL : L ≤ 5864062014805) :
    Calls Try.prog 18 #[.slice A L C] w fun e w' => ∃ v, e = .returned v ∧ Dk.Sep w w' [Dk.rowOf 36 3 v (Dk.keepL es).length (Dk.evs (Dk.keepL es))] := by
  have hlen := hE.len
  have hcap := hE.cap
  have HH : Hid (Dk.SlE w.heap.size w A L C es) := hE
  have HL : Hid (es.length = L) := hlen
  have s0 := (Dk.Sep.begin (Below.refl w.heap.size w)).nilRow 36 3
  clear hE hlen
  go_enter Try.func18, Try.ntmps18
  go_wp2_with fail
  go_loopw [3, 10] (fun v i w' => ∃ k : Nat, k ≤ L ∧ i = .int .i64 k ∧ Dk.Sep w w' [Dk.rowOf 36 3 v (Dk.keepL (es.take k)).length (Dk.evs (Dk.keepL (es.take k)))]) (fun v i w' => L - (intOf i).toNat)
  case atStart => exact ⟨0, Nat.zero_le _, rfl, s0⟩
  case round =>
    clear s0
    obtain ⟨k, hk, rfl, hS⟩ := hrel
    have hb := hS.out
    by_cases hlt : k < L
    · obtain ⟨b, o, rfl, hbb, _, k0, k1, k2⟩ := HH.out.at hlt
      have hkl : k < es.length := by rw [HL.out]; exact hlt
      have hn : (Dk.keepL (es.take k)).length ≤ k := Nat.le_trans (Dk.keepL_len _) (by rw [List.length_take]; omega)
      have HY : Hid ((es.getD k Dk.Ev.zero).kept = true → Dk.keepL (es.take (k + 1)) = Dk.keepL (es.take k) ++ [es.getD k Dk.Ev.zero]) := Dk.keepL_yes hkl
      have HN : Hid ((es.getD k Dk.Ev.zero).kept = false → Dk.keepL (es.take (k + 1)) = Dk.keepL (es.take k)) := Dk.keepL_no hkl
      generalize es.getD k Dk.Ev.zero = x at k0 k1 k2 HY HN
      have KR := fun w => Runs_any x w
      have KS := fun w => inSection_any x w
      have hkept : x.kept = (x.runs || x.within) := rfl
      generalize (if x.runs then x.t else 0) = tv at KR
      generalize x.runs = xr at KR hkept
      generalize x.within = xs at KS hkept
      obtain ⟨xk, xt, xm⟩ := x
      have c0 : wr.cell? ⟨b, o + k * 3, none⟩ = some (.int .i64 xk) := by rw [hb.cell (by exact hbb)]; exact k0
      have c1 : wr.cell? ⟨b, o + k * 3 + 1, none⟩ = some (.int .i64 xt) := by rw [hb.cell (by exact hbb)]; exact k1
      have c2 : wr.cell? ⟨b, o + k * 3 + 2, none⟩ = some (.int .i64 xm) := by rw [hb.cell (by exact hbb)]; exact k2
      obtain ⟨W1, e1⟩ : ∃ W1, W1 = wr.alloc (.cells #[.int .i64 xk, .int .i64 xt, .int .i64 xm] 36) := ⟨_, rfl⟩
      have S1 := hS.newBox e1
      have HE : Hid (wr.alloc (.cells #[.int .i64 xk, .int .i64 xt, .int .i64 xm] 36) = W1) := e1.symm
      have FB : Hid (∀ w2 ts, Dk.Sep w w2 (Dk.boxOf wr.heap.size #[.int .i64 xk, .int .i64 xt, .int .i64 xm] 36 :: ts) → w2.cell? ⟨wr.heap.size, 0, none⟩ = some (.int .i64 xk) ∧ w2.cell? ⟨wr.heap.size, 1, none⟩ = some (.int .i64 xt) ∧ w2.cell? ⟨wr.heap.size, 2, none⟩ = some (.int .i64 xm)) := fun w2 ts h => ⟨(h.box (List.mem_cons_self ..)).cell 0, (h.box (List.mem_cons_self ..)).cell 1, (h.box (List.mem_cons_self ..)).cell 2⟩
      obtain ⟨d0, d1, d2⟩ := FB.out _ _ S1
      clear e1 hb hS k0 k1 k2
      cases xr with
      | true =>
        have HQ : Hid _ := HY.out hkept
        clear HY HN hkept KS
        go_wp2_with (rw [HE.out]; clear HE)
        refine (KR _).mono ?_
        rintro e w2 ⟨rfl, v2⟩
        have S2 := S1.below v2
        obtain ⟨f0, f1, f2⟩ := FB.out _ _ S2
        obtain ⟨v', w3, hrun, S3⟩ := Dk.Sep.appendE (us1 := [_]) (x := ⟨xk, xt, xm⟩) KE S2 (by unfold maxLen; omega) (by omega)
        have S4 := S3.sub (List.sublist_cons_self _ _)
        clear S1 S2 S3 v2 KR c0 c1 c2 d0 d1 d2 FB
        go_wp2_with (at_builtin; refine Lib.wpList_append_run _ rfl _ _ _ _ rfl _ _ rfl rfl _ _ hrun ?_)
        go_roundw
        case rel => exact ⟨k + 1, by omega, by go_num, by rw [HQ.out, List.length_append]; exact S4⟩
        case measure => simp [intOf]; omega
      | false =>
        cases xs with
        | true =>
          have HQ : Hid _ := HY.out hkept
          clear HY HN hkept
          go_wp2_with (rw [HE.out]; clear HE)
          refine (KR _).mono ?_
          rintro e w2 ⟨rfl, v2⟩
          have S2 := S1.below v2
          obtain ⟨f0, f1, f2⟩ := FB.out _ _ S2
          clear S1 v2 KR c0 c1 c2 d0 d1 d2
          go_wp2_with fail
          refine (KS _).mono ?_
          rintro e w3 ⟨rfl, v3⟩
          have S3 := S2.below v3
          obtain ⟨g0, g1, g2⟩ := FB.out _ _ S3
          obtain ⟨v', w4, hrun, S4⟩ := Dk.Sep.appendE (us1 := [_]) (x := ⟨xk, xt, xm⟩) KE S3 (by unfold maxLen; omega) (by omega)
          have S5 := S4.sub (List.sublist_cons_self _ _)
          clear S2 S3 S4 v3 KS f0 f1 f2 FB
          go_wp2_with (at_builtin; refine Lib.wpList_append_run _ rfl _ _ _ _ rfl _ _ rfl rfl _ _ hrun ?_)
          go_roundw
          case rel => exact ⟨k + 1, by omega, by go_num, by rw [HQ.out, List.length_append]; exact S5⟩
          case measure => simp [intOf]; omega
        | false =>
          have HQ : Hid _ := HN.out hkept
          clear HY HN hkept
          go_wp2_with (rw [HE.out]; clear HE)
          refine (KR _).mono ?_
          rintro e w2 ⟨rfl, v2⟩
          have S2 := S1.below v2
          obtain ⟨f0, f1, f2⟩ := FB.out _ _ S2
          clear S1 v2 KR c0 c1 c2 d0 d1 d2 FB
          go_wp2_with fail
          refine (KS _).mono ?_
          rintro e w3 ⟨rfl, v3⟩
          have S3 := (S2.below v3).sub (List.sublist_cons_self _ _)
          clear S2 v3 KS f0 f1 f2
          go_wp2_with fail
          go_roundw
          case rel => exact ⟨k + 1, by omega, by go_num, by rw [HQ.out]; exact S3⟩
          case measure => simp [intOf]; omega
    · obtain rfl : k = L := by omega
      rw [List.take_of_length_le (by rw [HL.out]; omega)] at hS
      have HS : Hid _ := hS
      clear hS
      go_wp2
      go_ret
      exact ⟨_, rfl, HS.out⟩
end
end Go.Proofs.Ythpphicgkkhbfaa
