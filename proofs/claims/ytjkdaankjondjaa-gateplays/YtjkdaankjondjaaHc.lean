/- A row of those who wait, behind a pointer into a row of records: join, has, take, all. -/
import Derived.Test.YtjkdaankjondjaaHb
import Derived.Test.YtjkdaankjondjaaUp
import Derived.Test.YtjkdaankjondjaaQz
import Derived.OwnWalk
import Derived.BigQuiet
namespace Go.Proofs.Ytjkdaankjondjaa
set_option linter.unusedSimpArgs false
set_option linter.unusedVariables false
set_option linter.unnecessarySimpa false
open Go.RowKit

section
variable {W w : World} {e : TypeId} {q g n C o : Nat} {Hs : List Value} {u : Value} {xs : List Int} {us : List Dk.Thing}

theorem join_any (h : Dk.Sep W w (Dk.rowOf e q (.slice (some ⟨g, 0, none⟩) n C) n Hs :: Dk.rowOf 3 1 u xs.length (Dk.is xs) :: us)) (ho : Hs[o]? = some u) (who : Int) (hl : xs.length ≤ 1000) :
    Calls Try.prog 50 #[.pointer (some ⟨g, o, none⟩), .int .i64 who] w fun e' w' => e' = .returned (.tuple #[]) ∧ ∃ u', Dk.Sep W w' (Dk.rowOf e q (.slice (some ⟨g, 0, none⟩) n C) n (Hs.set o u') :: Dk.rowOf 3 1 u' (xs ++ [who]).length (Dk.is (xs ++ [who])) :: us) := by
  have hlen : Hs.length = n * q := h.rowLen (List.mem_cons_self ..)
  have cu : w.cell? ⟨g, o, none⟩ = some u := (h.cellg (us1 := []) hlen ho).1
  obtain ⟨u', w1, hrun, h1, hne⟩ := Dk.Sep.append (us1 := [_]) K22 h (x := .int .i64 who) rfl (by omega)
  obtain ⟨d1, d2, d3⟩ := Dk.Sep.cellg (us1 := []) h1 hlen ho
  have h2 := d3 u'
  obtain ⟨A, Cu, eu, _, _⟩ := Dk.owns_slice (h.row (e := 3) (s := 1) (v := u) (n := xs.length) (xs := Dk.is xs) (by simp))
  obtain ⟨A', Cu', eu', _, _⟩ := Dk.owns_slice (h1.row (e := 3) (s := 1) (v := u') (n := xs.length + 1) (xs := Dk.is xs ++ [.int .i64 who]) (by simp))
  subst eu eu'
  rw [show Dk.is xs ++ [.int .i64 who] = Dk.is (xs ++ [who]) by simp, show xs.length + 1 = (xs ++ [who]).length by simp] at h2
  have H2 : Hid _ := h2
  clear d3 h1 h h2 hne
  go_enter Try.func50, Try.ntmps50
  go_wp2_with (at_builtin; refine Lib.wpList_append_run _ rfl _ _ _ _ rfl _ _ rfl rfl _ _ hrun ?_)
  refine bodyPost_end (results_none rfl _ _ _) rfl ?_
  rw [show xs.length + 1 = (xs ++ [who]).length by simp]
  exact ⟨rfl, _, H2.out⟩

/-- Does someone wait here? -/
theorem has_any {b o L Ca : Nat} {A : Option Addr} (hc : w.cell? ⟨b, o, none⟩ = some (.slice A L Ca)) (hs : Dk.SlI w.heap.size w A L Ca xs) (x : Int) :
    Calls Try.prog 45 #[.pointer (some ⟨b, o, none⟩), .int .i64 x] w fun e' w' => e' = .returned (.bool (xs.contains x)) ∧ w' = w := by
  have K := Contains_any A L Ca xs x w hs
  generalize xs.contains x = r at K ⊢
  clear hs
  go_enter Try.func45, Try.ntmps45
  go_wp2_with fail
  refine K.mono ?_
  rintro e' w' ⟨rfl, hw'⟩
  subst w'
  clear K
  go_wp2_with fail
  go_ret
  exact ⟨rfl, rfl⟩

theorem take_none {b o Ca : Nat} {A : Option Addr} (hc : w.cell? ⟨b, o, none⟩ = some (.slice A 0 Ca)) (ch : Int) :
    Calls Try.prog 51 #[.pointer (some ⟨b, o, none⟩), .int .i64 ch] w fun e' w' => e' = .returned (.tuple #[.int .i64 0, .bool false]) ∧ w' = w := by
  go_enter Try.func51, Try.ntmps51
  go_wp2
  go_ret2
  exact ⟨rfl, rfl⟩

set_option maxHeartbeats 1000000 in
theorem take_some (h : Dk.Sep W w (Dk.rowOf e q (.slice (some ⟨g, 0, none⟩) n C) n Hs :: Dk.rowOf 3 1 u xs.length (Dk.is xs) :: us)) (ho : Hs[o]? = some u) (k : Int) (hi : Dk.i64 k) (hn : 0 < xs.length) (hl : xs.length ≤ 1000) (a : Nat) (ea : Dk.at_ k xs.length = a) :
    Calls Try.prog 51 #[.pointer (some ⟨g, o, none⟩), .int .i64 k] w fun e' w' => e' = .returned (.tuple #[.int .i64 (xs.getD a 0), .bool true]) ∧ ∃ u', Dk.Sep W w' (Dk.rowOf e q (.slice (some ⟨g, 0, none⟩) n C) n (Hs.set o u') :: Dk.rowOf 3 1 u' (xs.eraseIdx a).length (Dk.is (xs.eraseIdx a)) :: us) := by
  obtain ⟨hi1, hi2⟩ := hi
  have ha := Dk.at_lt k hn
  have q1 := Dk.tmod_le k hn
  have q2 := Dk.at_up k hn
  rw [ea] at ha q2
  clear ea
  have hlen : Hs.length = n * q := h.rowLen (List.mem_cons_self ..)
  have cu : w.cell? ⟨g, o, none⟩ = some u := (h.cellg (us1 := []) hlen ho).1
  have hr := h.row (e := 3) (s := 1) (v := u) (n := xs.length) (xs := Dk.is xs) (by simp)
  have K := Delete_any W.heap.size u xs a w hr ha
  obtain ⟨gu, Cu, x, eu, _, hm, hx, hcx, _, _⟩ := Dk.row_cell1 hr ha
  rw [List.getElem?_map] at hx
  obtain ⟨y, hy, exy⟩ := Option.map_eq_some_iff.1 hx
  subst exy
  rw [Dk.getD_some hy]
  have fin : ∀ v' w', w'.ownsRow W.heap.size 3 1 v' (xs.eraseIdx a).length (Dk.is (xs.eraseIdx a)) → w.grownBy w' u.ownBlock → Dk.From w u v' → (∃ A L C, v' = .slice A L C) ∧ w'.cell? ⟨g, o, none⟩ = some u ∧ w'.frozen? ⟨g, o, none⟩ = false ∧ Dk.Sep W (w'.setCell ⟨g, o, none⟩ v') (Dk.rowOf e q (.slice (some ⟨g, 0, none⟩) n C) n (Hs.set o v') :: Dk.rowOf 3 1 v' (xs.eraseIdx a).length (Dk.is (xs.eraseIdx a)) :: us) := by
    intro v' w' ho' hg hf
    have h1 := Dk.Sep.turn (us1 := [_]) (t := Dk.rowOf 3 1 u xs.length (Dk.is xs)) (t' := Dk.rowOf 3 1 v' (xs.eraseIdx a).length (Dk.is (xs.eraseIdx a))) h (Dk.Away.of_grown hg (fun k hk => .inl hk)) (Dk.owns_base ho' (Nat.zero_le _)) (fun k hk => hf k hk)
    obtain ⟨d1, d2, d3⟩ := Dk.Sep.cellg (us1 := []) h1 hlen ho
    obtain ⟨A', C', e', _, _⟩ := Dk.owns_slice ho'
    exact ⟨⟨A', _, C', e'⟩, d1, d2, d3 v'⟩
  have HF : Hid _ := fin
  subst eu
  unfold maxLen at hm
  have hne : (xs.length : Int) ≠ 0 := by omega
  have z0 : decide ((xs.length : Int) = 0) = false := decide_eq_false hne
  have q3 : k.tmod (xs.length : Int) + (xs.length : Int) ≤ 2000 := by omega
  have q4 : 0 ≤ k.tmod (xs.length : Int) + (xs.length : Int) := by omega
  have q5 : (k.tmod (xs.length : Int) + (xs.length : Int)).tmod (xs.length : Int) = (a : Int) := by rw [Int.tmod_eq_emod_of_nonneg q4]; exact q2
  have q6 : (a : Int) ≤ 1000 := by omega
  have w1 : IntKind.i64.wrap (k.tmod (xs.length : Int)) = k.tmod (xs.length : Int) := by rw [IntKind.wrap_i64]; omega
  have w2 : IntKind.i64.wrap (k.tmod (xs.length : Int) + (xs.length : Int)) = k.tmod (xs.length : Int) + (xs.length : Int) := by rw [IntKind.wrap_i64]; omega
  have w3 : IntKind.i64.wrap ((k.tmod (xs.length : Int) + (xs.length : Int)).tmod (xs.length : Int)) = (a : Int) := by rw [q5, IntKind.wrap_i64]; omega
  clear fin h hr hx hy q1 q2 q3 q4
  go_enter Try.func51, Try.ntmps51
  go_wp2_with fail
  refine K.mono ?_
  rintro e' w' ⟨v', rfl, ho', hg, hf⟩
  obtain ⟨⟨A', L', C', rfl⟩, d1, d2, hfin⟩ := HF.out v' w' ho' hg hf
  have HW : Hid _ := hfin
  clear hfin ho' hg hf HF K cu hcx
  go_wp2_with fail
  go_ret2
  exact ⟨rfl, _, HW.out⟩

theorem nils22 (w : World) : (Builtin.append_ #[22, 22] 22 #[.slice none 0 0, .slice none 0 0]).run Try.prog w = .ok (.slice none 0 0) w := by
  obtain ⟨i0, hi0, _, _, _⟩ := info_parts info3
  simp [Builtin.append_, run_underlying Try.underlying22, sizeOf, typeInfo, hi0, Builtin.lenOf, run_firstCells_none, go_sem]
/-- append of a list to nothing. -/
theorem copy_any {ty e : TypeId} {z : Value} {s bytes : Nat} (K : Dk.SlK Try.prog ty e z s bytes) (hn : ∀ w, (Builtin.append_ #[ty, ty] ty #[.slice none 0 0, .slice none 0 0]).run Try.prog w = .ok (.slice none 0 0) w) (B : Nat) (v : Value) (n : Nat) (xs : List Value) (w : World) (h : w.ownsRow B e s v n xs) (h1 : ∀ u ∈ xs, u.oneCell' = true) (hl : n ≤ 10000) :
    ∃ v' w', (Builtin.append_ #[ty, ty] ty #[.slice none 0 0, v]).run Try.prog w = .ok v' w' ∧ w'.ownsRow w.heap.size e s v' n xs ∧ Below w.heap.size w w' := by
  obtain ⟨hx, ⟨rfl, h0⟩ | ⟨g, cap, cur, rfl, hb, hg, hn, hm, hs, ht⟩⟩ := id h
  · subst h0
    obtain rfl : xs = [] := List.eq_nil_of_length_eq_zero (by simpa using hx)
    exact ⟨_, w, hn w, World.ownsRow_nil _ _ _ _, Below.refl _ _⟩
  · obtain ⟨v', w', hr, ho, hg, _, _⟩ := K.append w.heap.size ty (.slice none 0 0) [] 0 w (World.ownsRow_nil _ _ _ _) ⟨g, 0, none⟩ n cap xs hx (h.cells (g := g) rfl) h1 (by omega) (Nat.le_refl _)
    rw [Nat.zero_add, List.nil_append] at ho
    exact ⟨v', w', hr, ho, ⟨hg.os, hg.tape, hg.output, hg.size, fun k hk => hg.block k hk (by simp [Value.ownBlock])⟩⟩
theorem all_any {b o : Nat} {B : Nat} (hc : w.cell? ⟨b, o, none⟩ = some u) (hr : w.ownsRow B 3 1 u xs.length (Dk.is xs)) (hl : xs.length ≤ 1000) :
    Calls Try.prog 30 #[.pointer (some ⟨b, o, none⟩)] w fun e' w' => ∃ A C, e' = .returned (.slice A xs.length C) ∧ Hid (Below w.heap.size w w') ∧ Hid (w'.ownsRow w.heap.size 3 1 (.slice A xs.length C) xs.length (Dk.is xs)) := by
  obtain ⟨v', w', hrun, ho, hu⟩ := copy_any K22 nils22 _ u _ _ w hr (Dk.is_one _) (by omega)
  obtain ⟨A, C, ev, hc', hm⟩ := Dk.owns_slice hr
  obtain ⟨A', C', ev', _, _⟩ := Dk.owns_slice ho
  subst ev ev'
  have HR : Hid (w'.ownsRow w.heap.size 3 1 (.slice A' xs.length C') xs.length (Dk.is xs)) := ho
  have HU : Hid (Below w.heap.size w w') := hu
  clear ho hu hr
  go_enter Try.func30, Try.ntmps30
  go_wp2_with (at_builtin; refine Lib.wpList_append_run _ rfl _ _ _ _ rfl _ _ rfl rfl _ _ hrun ?_)
  go_ret
  exact ⟨_, _, rfl, HU, HR⟩
end
end Go.Proofs.Ytjkdaankjondjaa
