/- A condition that is signalled: who waits there no more. -/
import Derived.Test.YtjkdaankjondjaaHe
namespace Dk
set_option linter.unusedSimpArgs false
set_option linter.unusedVariables false
set_option linter.unnecessarySimpa false
open Go Go.RowKit
/-- One element of some cells is appended. -/
theorem Sep.appendK {W w : World} {us1 us2 : List Thing} {P : Go.Program} {ty e : TypeId} {z : Value} {s bytes n : Nat} {v : Value} {xs : List Value} (K : SlK P ty e z s bytes) (h : Sep W w (us1 ++ rowOf e s v n xs :: us2)) (news : List Value) (hs : news.length = s) (hx : ∀ u ∈ news, u.oneCell' = true) (hl : n ≤ 10000) :
    ∃ v' w', (Builtin.append_ #[ty, ty] ty #[v, .slice (some ⟨w.heap.size, 0, none⟩) 1 1]).run P (w.alloc (.cells news.toArray e)) = .ok v' w' ∧ Sep W w' (us1 ++ rowOf e s v' (n + 1) (xs ++ news) :: us2) ∧ v' ≠ .slice none 0 0 := by
  obtain ⟨V, eV⟩ : ∃ V, V = w.alloc (.cells news.toArray e) := ⟨_, rfl⟩
  have uV : Below w.heap.size w V := by rw [eV]; exact Dk.up_alloc (Below.refl _ _) _
  have hV := h.below uV
  have hr := hV.row (e := e) (s := s) (v := v) (n := n) (xs := xs) (by simp)
  have hbx : Box V w.heap.size news.toArray e := by rw [eV]; exact Box.new w _ _
  obtain ⟨v', w', hrun, ho, hg, hf, hnil⟩ := K.append W.heap.size ty v xs n V hr ⟨w.heap.size, 0, none⟩ 1 1 news (by omega) (fun j u hj => by
    rw [Addr.add_lit, Nat.zero_add, hbx.cell]
    simpa using hj) hx (by omega) hV.out.size
  rw [← eV]
  exact ⟨v', w', hrun, hV.turn (Away.of_grown hg (fun k hk => .inl hk)) (owns_base ho (Nat.zero_le _)) (fun k hk => hf k hk), fun e0 => by simpa using hnil.1 e0⟩
/-- Nothing, as a row. -/
theorem Sep.nil {W w : World} {ts : List Thing} (h : Sep W w ts) (e : TypeId) (s : Nat) : Sep W w (rowOf e s (.slice none 0 0) 0 [] :: ts) :=
  h.add (Below.refl _ _) (World.ownsRow_nil _ _ _ _) (fun k hk => by simp [rowOf, Value.ownBlock] at hk)
end Dk

namespace Go.Proofs.Ytjkdaankjondjaa
set_option linter.unusedSimpArgs false
set_option linter.unusedVariables false
set_option linter.unnecessarySimpa false
open Go.RowKit Go.Maps

section
variable {W w : World} {e : TypeId} {q g n C o bm : Nat} {Hs : List Value} {u : Value} {ps : List (Int × Int)} {us : List Dk.Thing}

set_option maxHeartbeats 1000000 in
theorem wakeAll_any (h : Dk.Sep W w (Dk.rowOf e q (.slice (some ⟨g, 0, none⟩) n C) n Hs :: Dk.rowOf 3 1 u ps.length (Dk.is (ps.map Prod.fst)) :: mapOf bm ps :: us)) (h0 : Hs[o]? = some u) (h1 : Hs[o + 1]? = some (.map (some bm))) (hi : ∀ p ∈ ps, Dk.i64 p.1) (hl : ps.length ≤ 1000) :
    Calls Try.prog 52 #[.pointer (some ⟨g, o, none⟩)] w fun e' w' => ∃ A Ca, e' = .returned (.slice A ps.length Ca) ∧ Dk.Sep W w' (Dk.rowOf 82 2 (.slice A ps.length Ca) ps.length (Dk.pr2 ps) :: Dk.rowOf e q (.slice (some ⟨g, 0, none⟩) n C) n (Hs.set o (.slice none 0 0)) :: Dk.rowOf 3 1 (.slice none 0 0) 0 [] :: mapOf bm [] :: us) := by
  have hlen : Hs.length = n * q := h.rowLen (List.mem_cons_self ..)
  have cu : w.cell? ⟨g, o, none⟩ = some u := (h.cellg (us1 := []) hlen h0).1
  obtain ⟨A0, C0, eu, hC0, hm0⟩ := Dk.owns_slice (h.row (e := 3) (s := 1) (v := u) (n := ps.length) (xs := Dk.is (ps.map Prod.fst)) (by simp))
  obtain ⟨L, eL⟩ : ∃ L, ps.length = L := ⟨_, rfl⟩
  have hs0 : Dk.Sep W w (Dk.rowOf 82 2 (.slice none 0 0) 0 (Dk.pr2 (ps.take 0)) :: Dk.rowOf e q (.slice (some ⟨g, 0, none⟩) n C) n Hs :: mapOf bm (ps.drop 0) :: Dk.rowOf 3 1 u ps.length (Dk.is (ps.map Prod.fst)) :: us) := (h.perm ((List.Perm.swap _ _ _).cons _)).nil _ _
  have HI : Hid (∀ p ∈ ps, Dk.i64 p.1) := hi
  have HL : Hid (ps.length = L) := eL
  have H0 : Hid (Hs[o]? = some u) := h0
  have H1 : Hid (Hs[o + 1]? = some (.map (some bm))) := h1
  rw [eL] at hl hC0 eu
  subst eu
  unfold maxLen at hm0
  clear h hi eL h0 h1
  go_enter Try.func52, Try.ntmps52
  go_wp2_with fail
  go_loopw [3, 12] (fun v i w' => ∃ j : Nat, j ≤ L ∧ i = .int .i64 j ∧ Dk.Sep W w' (Dk.rowOf 82 2 v j (Dk.pr2 (ps.take j)) :: Dk.rowOf e q (.slice (some ⟨g, 0, none⟩) n C) n Hs :: mapOf bm (ps.drop j) :: Dk.rowOf 3 1 (.slice A0 L C0) ps.length (Dk.is (ps.map Prod.fst)) :: us)) (fun v i w' => L - (intOf i).toNat)
  case atStart => exact ⟨0, Nat.zero_le _, rfl, hs0⟩
  case round =>
    obtain ⟨j, hj, rfl, hT⟩ := hrel
    clear hs0 cu
    by_cases hlt : j < L
    · have z1 : decide ((j : Int) < (L : Int)) = true := decide_eq_true (by omega)
      have hjL : (j : Int) < (L : Int) := by omega
      have hjp : j < ps.length := by have := HL.out; omega
      obtain ⟨⟨x, m⟩, ep⟩ := Dk.lt_some hjp
      have hix := HI.out _ (List.mem_of_getElem? ep)
      have hr := hT.row (e := 3) (s := 1) (v := .slice A0 L C0) (n := ps.length) (xs := Dk.is (ps.map Prod.fst)) (by simp)
      obtain ⟨gu, Cu, y, eu, _, _, hy, cx, _, _⟩ := Dk.row_cell1 hr hjp
      rw [List.getElem?_map, List.getElem?_map, ep] at hy
      simp at hy
      subst hy
      injection eu with eA eL' eC
      subst eA eC
      have K := wake_any (us := _) ((hT.perm ((List.Perm.swap _ _ _).trans ((List.Perm.swap _ _ _).cons _)))) H1.out (k := 0) (who := x) (m := m) hix (by rw [List.getElem?_drop, Nat.add_zero]; exact ep)
      obtain ⟨Av, Cv, ev, _, _⟩ := Dk.owns_slice (hT.row (e := 82) (s := 2) (v := u3) (n := j) (xs := Dk.pr2 (ps.take j)) (by simp))
      subst ev
      have ed : (ps.drop j).eraseIdx 0 = ps.drop (j + 1) := by rw [List.eraseIdx_zero, List.tail_drop]
      rw [ed] at K
      have et : Dk.pr2 (ps.take j) ++ [.int .i64 x, .int .i64 m] = Dk.pr2 (ps.take (j + 1)) := by
        rw [List.take_add_one, ep, Option.toList_some, Dk.pr2_append]
        rfl
      have ET : Hid _ := et
      clear hT hr ed et eL' ep
      go_wp2_with fail
      refine K.mono ?_
      rintro e' w1 ⟨rfl, h2⟩
      have h3 := h2.perm ((List.Perm.swap _ _ _).cons _ |>.trans (List.Perm.swap _ _ _))
      obtain ⟨v', w4, hrun, h4, _⟩ := Dk.Sep.appendK (us1 := []) K79 h3 [.int .i64 x, .int .i64 m] rfl (by simp [Value.oneCell']) (by omega)
      rw [ET.out] at h4
      obtain ⟨Av', Cv', ev', _, _⟩ := Dk.owns_slice (h4.row (e := 82) (s := 2) (v := v') (n := j + 1) (xs := Dk.pr2 (ps.take (j + 1))) (by simp))
      subst ev'
      clear h2 h3 K
      go_wp2_with (at_builtin; refine Lib.wpList_append_run _ rfl _ _ _ _ rfl _ _ rfl rfl _ _ hrun ?_)
      go_roundw
      case rel => exact ⟨j + 1, by omega, by go_num, h4⟩
      case measure => simp [intOf]; omega
    · obtain rfl : j = L := by omega
      have z1 : decide ((j : Int) < (j : Int)) = false := decide_eq_false (by omega)
      rw [show ps.take j = ps by rw [← HL.out]; exact List.take_length, show ps.drop j = [] by rw [← HL.out]; exact List.drop_length] at hT
      obtain ⟨c0, f0, s0⟩ := Dk.Sep.cellg (us1 := [_]) hT hlen H0.out
      have s1 := s0 (.slice none 0 0)
      have s2 := (s1.perm (us := Dk.rowOf 82 2 u3 j (Dk.pr2 ps) :: Dk.rowOf e q (.slice (some ⟨g, 0, none⟩) n C) n (Hs.set o (.slice none 0 0)) :: Dk.rowOf 3 1 (.slice A0 j C0) ps.length (Dk.is (ps.map Prod.fst)) :: mapOf bm [] :: us) (((List.Perm.swap _ _ _).cons _).cons _)).nil 3 1
      have s3 := s2.perm (us := Dk.rowOf 3 1 (.slice A0 j C0) ps.length (Dk.is (ps.map Prod.fst)) :: Dk.rowOf 82 2 u3 j (Dk.pr2 ps) :: Dk.rowOf e q (.slice (some ⟨g, 0, none⟩) n C) n (Hs.set o (.slice none 0 0)) :: Dk.rowOf 3 1 (.slice none 0 0) 0 [] :: mapOf bm [] :: us) (by
        refine (List.Perm.swap _ _ _).trans ?_
        refine ((List.Perm.swap _ _ _).cons _).trans ?_
        refine (((List.Perm.swap _ _ _).cons _).cons _).trans ?_
        refine ((List.Perm.swap _ _ _).cons _).trans ?_
        exact List.Perm.swap _ _ _)
      have s4 := s3.sub (List.sublist_cons_self _ _)
      obtain ⟨Av, Cv, ev, _, _⟩ := Dk.owns_slice (hT.row (e := 82) (s := 2) (v := u3) (n := j) (xs := Dk.pr2 ps) (by simp))
      subst ev
      have HS : Hid _ := s4
      clear s0 s1 s2 s3 s4 hT
      go_wp2_with fail
      go_ret
      rw [HL.out]
      exact ⟨_, _, rfl, HS.out⟩

theorem csignal_all (h : Dk.Sep W w (Dk.rowOf e q (.slice (some ⟨g, 0, none⟩) n C) n Hs :: Dk.rowOf 3 1 u ps.length (Dk.is (ps.map Prod.fst)) :: mapOf bm ps :: us)) (h0 : Hs[o]? = some u) (h1 : Hs[o + 1]? = some (.map (some bm))) (hi : ∀ p ∈ ps, Dk.i64 p.1) (hl : ps.length ≤ 1000) (ch : Int) :
    Calls Try.prog 38 #[.pointer (some ⟨g, o, none⟩), .int .i64 ch, .bool true] w fun e' w' => ∃ A Ca, e' = .returned (.slice A ps.length Ca) ∧ Dk.Sep W w' (Dk.rowOf 82 2 (.slice A ps.length Ca) ps.length (Dk.pr2 ps) :: Dk.rowOf e q (.slice (some ⟨g, 0, none⟩) n C) n (Hs.set o (.slice none 0 0)) :: Dk.rowOf 3 1 (.slice none 0 0) 0 [] :: mapOf bm [] :: us) := by
  have K := wakeAll_any h h0 h1 hi hl
  clear h h0 h1 hi
  go_enter Try.func38, Try.ntmps38
  go_wp2_with fail
  refine K.mono ?_
  rintro e' w' ⟨A, Ca, rfl, h'⟩
  clear K
  go_wp2_with fail
  go_ret
  exact ⟨_, _, rfl, h'⟩
theorem csignal_none {A : Option Addr} {Ca : Nat} (c0 : w.cell? ⟨g, o, none⟩ = some (.slice A 0 Ca)) (ch : Int) :
    Calls Try.prog 38 #[.pointer (some ⟨g, o, none⟩), .int .i64 ch, .bool false] w fun e' w' => e' = .returned (.slice none 0 0) ∧ w' = w := by
  have K := take_none c0 ch
  go_enter Try.func38, Try.ntmps38
  go_wp2_with fail
  refine K.mono ?_
  rintro e' w' ⟨rfl, hw'⟩
  subst w'
  clear K
  go_wp2_with fail
  go_ret
  exact ⟨rfl, rfl⟩
theorem csignal_one (h : Dk.Sep W w (Dk.rowOf e q (.slice (some ⟨g, 0, none⟩) n C) n Hs :: Dk.rowOf 3 1 u ps.length (Dk.is (ps.map Prod.fst)) :: mapOf bm ps :: us)) (h0 : Hs[o]? = some u) (h1 : Hs[o + 1]? = some (.map (some bm))) (hi : ∀ p ∈ ps, Dk.i64 p.1) (hl : ps.length ≤ 1000) (hn : 0 < ps.length) (ch : Int) (hch : Dk.i64 ch) (a : Nat) (ea : Dk.at_ ch ps.length = a) (p : Int × Int) (ep : ps[a]? = some p) :
    Calls Try.prog 38 #[.pointer (some ⟨g, o, none⟩), .int .i64 ch, .bool false] w fun e' w' => ∃ u' A Ca, e' = .returned (.slice A 1 Ca) ∧ Dk.Sep W w' (Dk.rowOf 82 2 (.slice A 1 Ca) 1 (Dk.pr2 [p]) :: Dk.rowOf e q (.slice (some ⟨g, 0, none⟩) n C) n (Hs.set o u') :: Dk.rowOf 3 1 u' (ps.eraseIdx a).length (Dk.is ((ps.eraseIdx a).map Prod.fst)) :: mapOf bm (ps.eraseIdx a) :: us) := by
  obtain ⟨x, m⟩ := p
  have hlen : Hs.length = n * q := h.rowLen (List.mem_cons_self ..)
  have h' : Dk.Sep W w (Dk.rowOf e q (.slice (some ⟨g, 0, none⟩) n C) n Hs :: Dk.rowOf 3 1 u (ps.map Prod.fst).length (Dk.is (ps.map Prod.fst)) :: mapOf bm ps :: us) := by rw [List.length_map]; exact h
  have K := take_some (xs := ps.map Prod.fst) h' h0 ch hch (by rw [List.length_map]; exact hn) (by rw [List.length_map]; exact hl) a (by rw [List.length_map]; exact ea)
  have ex : (ps.map Prod.fst).getD a 0 = x := Dk.getD_some (by rw [List.getElem?_map, ep]; rfl) 0
  have ee : (ps.map Prod.fst).eraseIdx a = (ps.eraseIdx a).map Prod.fst := by
    rw [List.eraseIdx_eq_take_drop_succ, List.eraseIdx_eq_take_drop_succ, List.map_append, List.map_take, List.map_drop]
  rw [ex, ee] at K
  have hix := hi _ (List.mem_of_getElem? ep)
  have H1 : Hid (Hs[o + 1]? = some (.map (some bm))) := h1
  have EP : Hid (ps[a]? = some (x, m)) := ep
  clear h h' h0 h1 hi hch ea ex ee ep
  go_enter Try.func38, Try.ntmps38
  go_wp2_with fail
  refine K.mono ?_
  rintro e' w1 ⟨rfl, u', h2⟩
  have K2 := wake_any (us := _) (h2.perm ((List.Perm.swap _ _ _).cons _)) (o := o) (by rw [List.getElem?_set_ne (by omega)]; exact H1.out) (k := a) (who := x) (m := m) hix EP.out
  clear h2 K
  go_wp2_with fail
  refine K2.mono ?_
  rintro e' w2 ⟨rfl, h3⟩
  have h4 := h3.perm ((List.Perm.swap _ _ _).cons _)
  obtain ⟨W5, e5⟩ : ∃ W5, W5 = w2.alloc (.cells #[.int .i64 x, .int .i64 m] 82) := ⟨_, rfl⟩
  have h5 : Dk.Sep W W5 (Dk.rowOf 82 2 (.slice (some ⟨w2.heap.size, 0, none⟩) 1 1) 1 (Dk.pr2 [(x, m)]) :: _) := h4.addRow (by rw [e5]; exact Dk.up_alloc (Below.refl _ _) _) (by
    rw [e5]
    exact World.ownsRow_lit w2 #[.int .i64 x, .int .i64 m] 1 (Nat.le_refl _) (by unfold maxLen; omega) (by simp))
  have H5 : Hid (w2.alloc (.cells #[.int .i64 x, .int .i64 m] 82) = W5) := e5.symm
  have HS : Hid _ := h5
  clear h3 h4 h5 e5 K2 EP
  go_wp2_with (rw [H5.out]; clear H5)
  go_ret
  rw [List.length_map] at HS
  exact ⟨_, _, _, rfl, HS.out⟩
end
end Go.Proofs.Ytjkdaankjondjaa
