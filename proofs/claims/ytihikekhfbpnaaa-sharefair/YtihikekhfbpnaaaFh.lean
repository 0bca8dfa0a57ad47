/- The walk of the statement that holds shares against the document's answer. -/
import Derived.Test.YtihikekhfbpnaaaFg
namespace Go.Proofs.Ytihikekhfbpnaaa
set_option linter.unusedSimpArgs false
set_option linter.unusedVariables false
set_option linter.unnecessarySimpa false
open Go.RowKit

set_option maxHeartbeats 1000000 in
theorem ShareFair_any (procs turn : Int) (hpr : Dk.i64 procs) (htu : Dk.i64 turn) (A1 A2 : Option Addr) (n C1 m C2 : Nat) (d p : List Int) (w : World) (hd : Dk.SlI w.heap.size w A1 n C1 d) (hp : Dk.SlI w.heap.size w A2 m C2 p) :
    Calls Try.prog 3 #[.int .i64 procs, .slice A1 n C1, .slice A2 m C2, .int .i64 turn] w fun e w' => e = .returned (.bool true) ∧ Below w.heap.size w w' := by
  have hn1 := hd.cap
  have hn2 := hd.max
  have hm1 := hp.cap
  have hm2 := hp.max
  unfold maxLen at hn2 hm2
  by_cases hA : Dk.Ask procs n p
  · have K := Fair_yes procs turn htu A1 A2 n C1 m C2 d p w hd hp hA
    have K2 := fun w' (u : Below w.heap.size w w') => RFair_any procs turn hpr htu A1 A2 n C1 m C2 d p w' (Dk.sli_up hd u) (Dk.sli_up hp u)
    have HA : Hid _ := hA
    clear hd hp hA
    go_enter Try.func3, Try.ntmps3
    go_wp2_with fail
    refine K.mono ?_
    rintro e w1 ⟨A, C, has, rfl, hG, hS, u1⟩
    have K2 := K2 w1 u1
    have HG : Hid _ := hG
    have HS : Hid _ := hS
    have HU1 : Hid _ := u1
    clear K hG hS u1
    go_wp2_with fail
    refine K2.mono ?_
    rintro e w2 ⟨h2 | h2, u2⟩
    · obtain ⟨A', C', rfl, has', hG', hS', _⟩ := h2
      obtain rfl := HG.out.unique hG'
      have HS2 : Hid _ := hS'
      have HU2 : Hid _ := Dk.up_call HU1.out u2
      have HS1 : Hid _ := Dk.sli_up HS.out u2
      clear K2 hG' hS' u2
      go_wp2_with fail
      refine (awake_any _).mono ?_
      rintro e w3 ⟨rfl, u3⟩
      have K3 := Ints_same A A' n C C' has w3 (Dk.sli_up HS1.out u3) (Dk.sli_up HS2.out u3)
      have HU3 : Hid _ := Dk.up_call HU2.out u3
      clear u3
      go_wp2_with fail
      refine K3.mono ?_
      rintro e w4 ⟨rfl, u4⟩
      go_wp2
      go_ret
      exact ⟨rfl, Dk.up_call HU3.out u4⟩
    · exact absurd HA.out h2.2
  · have K := Fair_no procs turn hpr A1 A2 n C1 m C2 p w hp hA
    have K2 := fun w' (u : Below w.heap.size w w') => RFair_any procs turn hpr htu A1 A2 n C1 m C2 d p w' (Dk.sli_up hd u) (Dk.sli_up hp u)
    have HA : Hid _ := hA
    have HD : Hid _ := hd
    have HP : Hid _ := hp
    have HL : Hid (d.length = n) := hd.len
    clear hd hp hA
    go_enter Try.func3, Try.ntmps3
    go_wp2_with fail
    refine K.mono ?_
    rintro e w1 ⟨rfl, u1⟩
    have K2 := K2 w1 u1
    have HU1 : Hid _ := u1
    clear K u1
    go_wp2_with fail
    refine K2.mono ?_
    rintro e w2 ⟨h2 | h2, u2⟩
    · obtain ⟨A', C', _, has', _, _, h3⟩ := h2
      exact absurd h3 HA.out
    · obtain ⟨rfl, _⟩ := h2
      have HU2 : Hid _ := Dk.up_call HU1.out u2
      clear K2 u2
      go_wp2_with fail
      refine (awake_any _).mono ?_
      rintro e w3 ⟨rfl, u3⟩
      go_wp2
      go_ret
      exact ⟨rfl, Dk.up_call HU2.out u3⟩
end Go.Proofs.Ytihikekhfbpnaaa
