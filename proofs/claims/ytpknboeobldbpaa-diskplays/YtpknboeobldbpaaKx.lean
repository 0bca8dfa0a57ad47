/- The lists beside a disk: words that are written, requests of which one goes or one comes; the acts of the statement. -/
import Derived.Test.YtpknboeobldbpaaKf
import Derived.Test.YtpknboeobldbpaaOpk
namespace Go.Proofs.Ytpknboeobldbpaa
set_option linter.unusedSimpArgs false
set_option linter.unusedVariables false
set_option linter.unnecessarySimpa false
open Go.RowKit Go.Lib
section
variable {W w w' : World} {bd : Nat} {bs xs : List Nat} {rs ps : List Dk.Rq} {us us' us1 us2 : List Dk.Thing}
/-- A word beside is read and written. -/
theorem Db.word {v : Value} (h : Dk.Db W w bd bs rs (us1 ++ Dk.rowOf 27 1 v xs.length (Dk.uw xs) :: us2)) (k : Nat) (hk : k < xs.length) : ∃ g C, v = .slice (some ⟨g, 0, none⟩) xs.length C ∧ xs.length ≤ C ∧ C ≤ maxLen ∧ w.cell? ⟨g, k, none⟩ = some (.int .u64 (xs.getD k 0 : Nat)) ∧ w.frozen? ⟨g, k, none⟩ = false ∧ ∀ y : Nat, Dk.Db W (w.setCell ⟨g, k, none⟩ (.int .u64 (y : Nat))) bd bs rs (us1 ++ Dk.rowOf 27 1 v (xs.set k y).length (Dk.uw (xs.set k y)) :: us2) := by
  have hr := Db.row h (e := 27) (s := 1) (v := v) (n := xs.length) (xs := Dk.uw xs) (by simp)
  obtain ⟨g, C, ev, h1, h2, hc, hf, hs⟩ := word_at (n := 0) hr hk
  refine ⟨g, C, ev, h1, h2, hc, hf, fun y => ?_⟩
  refine Db.turn (t := Dk.rowOf 27 1 v xs.length (Dk.uw xs)) (t' := Dk.rowOf 27 1 v (xs.set k y).length (Dk.uw (xs.set k y))) h ?_ (Dk.owns_base (hs y) (Nat.zero_le _)) (fun j hj => .inl hj)
  subst ev
  exact (Dk.Away.refl (Dk.rowOf 27 1 (.slice (some ⟨g, 0, none⟩) xs.length C) xs.length (Dk.uw xs)).own w).set (b := g) (.inl rfl) _ _
/-- One request more, in a list beside. -/
theorem Db.append {v : Value} (h : Dk.Db W w bd bs rs (us1 ++ Dk.rowOf 29 4 v ps.length (Dk.rqs ps) :: us2)) (r : Dk.Rq) (hl : ps.length ≤ 1000) :
    ∃ A C v' w', v = .slice A ps.length C ∧ (Builtin.append_ #[26, 26] 26 #[.slice A ps.length C, .slice (some ⟨w.heap.size, 0, none⟩) 1 1]).run Try.prog (w.alloc (.cells #[.int .i64 r.who, .int .i64 r.block, .bool r.write, .int .u64 (r.x : Nat)] 29)) = .ok v' w' ∧ Dk.Db W w' bd bs rs (us1 ++ Dk.rowOf 29 4 v' (ps ++ [r]).length (Dk.rqs (ps ++ [r])) :: us2) := by
  obtain ⟨W1, e1⟩ : ∃ W1, W1 = w.alloc (.cells #[.int .i64 r.who, .int .i64 r.block, .bool r.write, .int .u64 (r.x : Nat)] 29) := ⟨_, rfl⟩
  have u1 : Below w.heap.size w W1 := by rw [e1]; exact Dk.up_alloc (Below.refl _ _) _
  have b1 : Dk.Box W1 w.heap.size #[.int .i64 r.who, .int .i64 r.block, .bool r.write, .int .u64 (r.x : Nat)] 29 := by rw [e1]; exact Dk.Box.new _ _ _
  have h1 := h.below u1
  have hr := Db.row h1 (e := 29) (s := 4) (v := v) (n := ps.length) (xs := Dk.rqs ps) (by simp)
  obtain ⟨A, C, ev, _, _⟩ := Dk.owns_slice hr
  obtain ⟨v', w', hrun, ho, hg, hf, _⟩ := K26.append W.heap.size 26 v _ _ W1 hr ⟨w.heap.size, 0, none⟩ 1 1 r.cells rfl (fun j u hj => by
    rw [Addr.add_lit, Nat.zero_add, b1.cell]
    simpa [Dk.Rq.cells] using hj) (fun u hu => Dk.rqs_one [r] u (by simpa [Dk.rqs] using hu)) (by omega) h1.out.size
  have ho' : w'.ownsRow W.heap.size 29 4 v' (ps ++ [r]).length (Dk.rqs (ps ++ [r])) := by
    rw [List.length_append, Dk.rqs_append]
    simpa [Dk.rqs] using ho
  rw [← e1]
  refine ⟨A, C, v', w', ev, by rw [← ev]; exact hrun, ?_⟩
  exact Db.turn (t := Dk.rowOf 29 4 v ps.length (Dk.rqs ps)) h1 (Dk.Away.of_grown hg (fun k hk => .inl hk)) (Dk.owns_base ho' (Nat.zero_le _)) (fun k hk => hf k hk)
/-- A list beside without the one at a place, in a list of its own. -/
theorem Db.without {v : Value} (h : Dk.Db W w bd bs rs (us1 ++ Dk.rowOf 29 4 v ps.length (Dk.rqs ps) :: us2)) (k : Nat) (hk : k < ps.length) (hl : ps.length ≤ 1000) :
    ∃ g C A2 A9 C9 w9 A14 C14 w14, v = .slice (some ⟨g, 0, none⟩) ps.length C ∧ ps.length ≤ C ∧ C ≤ maxLen ∧ (if C = k + 1 then some (⟨g, 0, none⟩ : Addr) else some ⟨g, (k + 1) * 4, none⟩) = some A2 ∧
      (Builtin.append_ #[26, 26] 26 #[.slice (some ⟨w.heap.size, 0, none⟩) 0 0, .slice (some ⟨g, 0, none⟩) k C]).run Try.prog (w.alloc (.cells #[] 29)) = .ok (.slice A9 k C9) w9 ∧
      (Builtin.append_ #[26, 26] 26 #[.slice A9 k C9, .slice (some A2) (ps.length - (k + 1)) (C - (k + 1))]).run Try.prog w9 = .ok (.slice A14 (k + (ps.length - (k + 1))) C14) w14 ∧
      Dk.Db W w14 bd bs rs (us1 ++ Dk.rowOf 29 4 (.slice A14 (k + (ps.length - (k + 1))) C14) (ps.eraseIdx k).length (Dk.rqs (ps.eraseIdx k)) :: us2) := by
  have hr := Db.row h (e := 29) (s := 4) (v := v) (n := ps.length) (xs := Dk.rqs ps) (by simp)
  have hel : (ps.eraseIdx k).length = ps.length - 1 := by rw [List.length_eraseIdx, if_pos hk]
  have hpl := Dk.rqs_length ps
  obtain ⟨_, ⟨rfl, h0⟩ | ⟨b, C, cur, rfl, hb, hg, hn, hm, hs, ht⟩⟩ := id hr
  · omega
  have hcells := hr.cells (g := b) rfl
  have hblt : b < w.heap.size := (Array.getElem?_eq_some_iff.1 hg).1
  have h1c := Dk.rqs_one ps
  -- the first list
  obtain ⟨w1, e1⟩ : ∃ w1, w1 = w.alloc (.cells #[] 29) := ⟨_, rfl⟩
  have u1 : Below w.heap.size w w1 := by rw [e1]; exact Dk.up_alloc (Below.refl _ _) _
  have o1 : w1.ownsRow w.heap.size 29 4 (.slice (some ⟨w.heap.size, 0, none⟩) 0 0) 0 [] := by rw [e1]; exact World.ownsRow_lit w #[] 0 (Nat.le_refl _) (Nat.zero_le _) rfl
  have keep : ∀ w', Below w.heap.size w w' → ∀ j u, (Dk.rqs ps)[j]? = some u → w'.cell? ((⟨b, 0, none⟩ : Addr).add j) = some u := fun w' u j x hj => by
    rw [u.cell (by rw [Addr.add_lit]; exact hblt)]
    exact hcells j x hj
  obtain ⟨v9, w9, r9, o9, g9, f9, n9⟩ := K26.append w.heap.size 26 _ [] 0 w1 o1 ⟨b, 0, none⟩ k C ((Dk.rqs ps).take (k * 4)) (by rw [List.length_take]; omega) (fun j u hj => by
    rw [List.getElem?_take] at hj
    split at hj
    · exact keep w1 u1 j u hj
    · cases hj) (fun u hu => h1c u (List.mem_of_mem_take hu)) (by omega) u1.size
  rw [Nat.zero_add, List.nil_append] at o9
  have u9 : Below w.heap.size w w9 := u1.grown g9 u1.size (fun j hj => (o1.lt j hj).1)
  have hv9 : v9 ≠ .slice none 0 0 := fun e => by simpa using n9.1 e
  obtain ⟨A9, C9, ev9, _, _⟩ := Dk.owns_slice o9
  subst ev9
  -- the second one
  obtain ⟨A2, hA2, hs2⟩ : ∃ A2 : Addr, (if C = k + 1 then some (⟨b, 0, none⟩ : Addr) else some ⟨b, (k + 1) * 4, none⟩) = some A2 ∧ (∀ t u, ((Dk.rqs ps).drop ((k + 1) * 4))[t]? = some u → w9.cell? (A2.add t) = some u) := by
    by_cases hc : C = k + 1
    · refine ⟨⟨b, 0, none⟩, by simp [hc], fun t u hu => ?_⟩
      rw [List.getElem?_drop, List.getElem?_eq_none (by omega)] at hu
      cases hu
    · refine ⟨⟨b, (k + 1) * 4, none⟩, by simp [hc], fun t u hu => ?_⟩
      rw [List.getElem?_drop] at hu
      have := keep w9 u9 ((k + 1) * 4 + t) u hu
      rw [Addr.add_lit] at this ⊢
      rw [Nat.zero_add] at this
      exact this
  obtain ⟨v14, w14, r14, o14, g14, f14, n14⟩ := K26.append w.heap.size 26 _ _ k w9 o9 A2 (ps.length - (k + 1)) (C - (k + 1)) ((Dk.rqs ps).drop ((k + 1) * 4)) (by rw [List.length_drop]; omega) hs2 (fun u hu => h1c u (List.mem_of_mem_drop hu)) (by omega) u9.size
  have u14 : Below w.heap.size w w14 := u9.grown g14 u9.size (fun j hj => (o9.lt j hj).1)
  obtain ⟨A14, C14, ev14, _, _⟩ := Dk.owns_slice o14
  subst ev14
  have o14' : w14.ownsRow w.heap.size 29 4 (.slice A14 (k + (ps.length - (k + 1))) C14) (ps.eraseIdx k).length (Dk.rqs (ps.eraseIdx k)) := by
    rw [hel, Dk.rqs_erase, show ps.length - 1 = k + (ps.length - (k + 1)) by omega]
    exact o14
  refine ⟨b, C, A2, A9, C9, w9, A14, C14, w14, rfl, hn, hm, hA2, by rw [← e1]; exact r9, r14, ?_⟩
  exact Db.fresh (t := Dk.rowOf 29 4 (.slice (some ⟨b, 0, none⟩) ps.length C) ps.length (Dk.rqs ps)) h u14 (Dk.owns_base o14' (Nat.zero_le _)) (fun j hj => (o14'.lt j hj).1)
end
/-- The two lists beside. -/
def R2 (vb v : Value) (bs : List Nat) (rs : List Dk.Rq) : List Dk.Thing := [Dk.rowOf 27 1 vb bs.length (Dk.uw bs), Dk.rowOf 29 4 v rs.length (Dk.rqs rs)]
/-- A disk, and the document's own answer for it. -/
def Pl (W w : World) (bd n k : Nat) (bs : List Nat) (rs : List Dk.Rq) (vb v : Value) : Prop :=
  Hid (Dk.Db W w bd bs rs (R2 vb v bs rs) ∧ rs.length ≤ k ∧ bs.length = n)
/-- An act's cells. -/
theorem act_cell {B : Nat} {w : World} {A : Option Addr} {L C : Nat} {xs : List Dk.DAct} (h : Dk.Row 6 Dk.DAct.zero Dk.IsDAct B w A L C xs) {k : Nat} (hk : k < L) : ∃ b o g q who block write x, A = some ⟨b, o, none⟩ ∧ b < B ∧ w.cell? ⟨b, o + k * 6, none⟩ = some (.bool g) ∧ w.cell? ⟨b, o + k * 6 + 1, none⟩ = some (.int .i64 q) ∧ w.cell? ⟨b, o + k * 6 + 2, none⟩ = some (.int .i64 who) ∧ w.cell? ⟨b, o + k * 6 + 3, none⟩ = some (.int .i64 block) ∧ w.cell? ⟨b, o + k * 6 + 4, none⟩ = some (.bool write) ∧ w.cell? ⟨b, o + k * 6 + 5, none⟩ = some (.int .u64 ((x : Nat) : Int)) ∧ Dk.i64 q ∧ Dk.Rq.ok ⟨who, block, write, x⟩ := by
  obtain ⟨b, o, e, hb, hc⟩ := h.cells (by omega)
  obtain ⟨vs, h1, ⟨rfl, hi, hx⟩, h3⟩ := hc k hk
  exact ⟨b, o, _, _, _, _, _, _, e, hb, h3 0 (by omega), h3 1 (by omega), h3 2 (by omega), h3 3 (by omega), h3 4 (by omega), h3 5 (by omega), hi, hx⟩
end Go.Proofs.Ytpknboeobldbpaa
