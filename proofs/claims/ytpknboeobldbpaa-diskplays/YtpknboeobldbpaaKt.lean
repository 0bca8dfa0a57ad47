/- A request that waits goes. -/
import Derived.Test.YtpknboeobldbpaaKp
namespace Dk
open Go
/-- The rest of a number by how many there are, not below 0. -/
def at_ (k : Int) (n : Nat) : Nat := (k % (n : Int)).toNat
theorem at_lt (k : Int) {n : Nat} (h : 0 < n) : at_ k n < n := by
  unfold at_
  have h1 := Int.emod_nonneg k (show (n : Int) ≠ 0 by omega)
  have h2 := Int.emod_lt_of_pos k (show (0 : Int) < n by omega)
  omega
theorem at_eq (k : Int) {n : Nat} (h : 0 < n) : (at_ k n : Int) = k % (n : Int) := by
  unfold at_
  have h1 := Int.emod_nonneg k (show (n : Int) ≠ 0 by omega)
  omega
theorem tmod_le (k : Int) {n : Nat} (h : 0 < n) : -(n : Int) < k.tmod n ∧ k.tmod n < n := by
  have h1 := Int.tmod_lt_of_pos k (show (0 : Int) < n by omega)
  have h2 := Int.lt_tmod_of_pos k (show (0 : Int) < n by omega)
  exact ⟨h2, h1⟩
theorem tmod_emod (k : Int) (n : Nat) : (k.tmod n) % (n : Int) = k % (n : Int) := by
  have h := Int.tmod_add_mul_tdiv k n
  conv => rhs; rw [← h]
  rw [Int.add_mul_emod_self_left]
theorem at_up (k : Int) {n : Nat} (h : 0 < n) : (k.tmod n + n) % (n : Int) = (at_ k n : Int) := by
  rw [at_eq k h, ← tmod_emod k n, Int.add_emod_right]
theorem at_neg (k : Int) {n : Nat} (h : 0 < n) (hq : k.tmod n < 0) : k.tmod n + n = (at_ k n : Int) := by
  rw [← at_up k h, Int.emod_eq_of_lt]
  · have := (tmod_le k h).1; omega
  · omega
theorem at_pos (k : Int) {n : Nat} (h : 0 < n) (hq : ¬ k.tmod n < 0) : k.tmod n = (at_ k n : Int) := by
  rw [at_eq k h, ← tmod_emod k n, Int.emod_eq_of_lt (by omega)]
  exact (tmod_le k h).2
end Dk
namespace Go.Proofs.Ytpknboeobldbpaa
set_option linter.unusedSimpArgs false
set_option linter.unusedVariables false
set_option linter.unnecessarySimpa false
open Go.RowKit Go.Lib
section
variable {W w w' : World} {bd : Nat} {bs : List Nat} {rs : List Dk.Rq} {us us' us1 us2 : List Dk.Thing}

/-- A request: where it lies. -/
theorem req_at {B k : Nat} {v : Value} {rs : List Dk.Rq} (hr : w.ownsRow B 29 4 v rs.length (Dk.rqs rs)) (hk : k < rs.length) : ∃ g C, v = .slice (some ⟨g, 0, none⟩) rs.length C ∧ rs.length ≤ C ∧ C ≤ maxLen ∧ g < w.heap.size ∧ ∀ j, j < 4 → w.cell? ⟨g, k * 4 + j, none⟩ = (rs.getD k Dk.Rq.zero).cells[j]? := by
  obtain ⟨_, ⟨_, h0⟩ | ⟨g, cap, cur, rfl, hb, hgg, h1, h2, h3, h4⟩⟩ := id hr
  · omega
  refine ⟨g, cap, rfl, h1, h2, (Array.getElem?_eq_some_iff.1 hgg).1, fun j hj => ?_⟩
  have q := Dk.rqs_get rs k hk j hj
  cases e : (rs.getD k Dk.Rq.zero).cells[j]? with
  | none => rw [List.getElem?_eq_none_iff] at e; simp [Dk.Rq.cells] at e; omega
  | some u =>
    rw [e] at q
    have hc := hr.cells (g := g) rfl _ _ q
    rw [Addr.add_lit, Nat.zero_add] at hc
    exact hc
/-- The requests, without the one at a place. -/
theorem Db.cut (h : Dk.Db W w bd bs rs us) (k : Nat) (hk : k < rs.length) : ∃ g C, w.cell? ⟨bd, 1, none⟩ = some (.slice (some ⟨g, 0, none⟩) rs.length C) ∧
    Calls Try.prog 16 #[.slice (some ⟨g, 0, none⟩) rs.length C, .int .i64 (k : Int), .int .i64 ((k : Int) + 1)] w fun e w' => ∃ A' n' C', e = .returned (.slice A' n' C') ∧ w'.cell? ⟨bd, 1, none⟩ = some (.slice (some ⟨g, 0, none⟩) rs.length C) ∧ w'.frozen? ⟨bd, 1, none⟩ = false ∧ Dk.Db W (w'.setCell ⟨bd, 1, none⟩ (.slice A' n' C')) bd bs (rs.eraseIdx k) us := by
  obtain ⟨v1, v2, t, f⟩ := Hid.out h
  obtain ⟨g, C, ev, h1, h2, hg, _⟩ := req_at t.row2 hk
  have hel : (rs.eraseIdx k).length = rs.length - 1 := by rw [List.length_eraseIdx, if_pos hk]
  have hr := t.row2
  obtain ⟨n, hn⟩ : ∃ n, rs.length = n + 1 := ⟨rs.length - 1, by omega⟩
  have hr' := hr
  rw [hn] at hr'
  have K := Delete_rqs W.heap.size v2 (Dk.rqs rs) n k w hr' (by omega) (Dk.rqs_one _)
  rw [ev, hn] at K
  subst ev
  refine ⟨g, C, t.head.cell 1, ?_⟩
  rw [hn]
  refine K.mono ?_
  rintro e w' ⟨v', rfl, ho, hgr, hv⟩
  have hne := t.ne2
  rw [hn] at hne
  have hb : Dk.Box w' bd #[v1, .slice (some ⟨g, 0, none⟩) rs.length C] 46 := ⟨by rw [hgr.block bd t.head.lt (fun e => hne e.symm)]; exact t.head.heap⟩
  obtain ⟨A', C', e', _, _⟩ := Dk.owns_slice ho
  subst e'
  have ho' : w'.ownsRow W.heap.size 29 4 (.slice A' n C') (rs.eraseIdx k).length (Dk.rqs (rs.eraseIdx k)) := by
    rw [Dk.rqs_erase, hel, hn]
    exact ho
  have o2 := Dk.owns_away ho' ((Dk.Away.refl (fun j => j = bd) w').set (.inl rfl) 1 (.slice A' n C')) (fun j hj e => by rw [hv, e] at hj; exact hne hj)
  have a2 : Dk.Away (fun j => j = bd ∨ Value.ownBlock (.slice (some ⟨g, 0, none⟩) rs.length C) = some j) w (w'.setCell ⟨bd, 1, none⟩ (.slice A' n C')) :=
    (Dk.Away.of_grown hgr (fun j hj => .inl (.inr hj))).set (.inl (.inl rfl)) _ _
  refine ⟨A', n, C', rfl, by rw [← hn]; exact hb.cell 1, hb.frozen 1, ⟨_, _, t.set2 a2 (hb.set 1 _) o2 (Dk.From.same _ hv), f.erase k⟩⟩

set_option maxHeartbeats 1000000 in
theorem take_any (h : Dk.Db W w bd bs rs us) (k : Int) (hi : Dk.i64 k) (hn : 0 < rs.length) (hl : rs.length ≤ 1000) (r : Dk.Rq) (hr : rs.getD (Dk.at_ k rs.length) Dk.Rq.zero = r) :
    Calls Try.prog 13 #[.pointer (some ⟨bd, 0, none⟩), .int .i64 k] w fun e w' => e = .returned (.agg #[.int .i64 r.who, .int .i64 r.block, .bool r.write, .int .u64 (r.x : Nat)]) ∧ Dk.Db W w' bd bs (rs.eraseIdx (Dk.at_ k rs.length)) us := by
  obtain ⟨hi1, hi2⟩ := hi
  have ha := Dk.at_lt k hn
  have q1 := Dk.tmod_le k hn
  have q2 := Dk.at_up k hn
  obtain ⟨a, ea⟩ : ∃ a, Dk.at_ k rs.length = a := ⟨_, rfl⟩
  rw [ea] at ha hr q2 ⊢
  clear ea
  obtain ⟨r1, r2, r3, r4⟩ := r
  show Calls Try.prog 13 #[.pointer (some ⟨bd, 0, none⟩), .int .i64 k] w fun e w' => e = .returned (.agg #[.int .i64 r1, .int .i64 r2, .bool r3, .int .u64 (r4 : Nat)]) ∧ Dk.Db W w' bd bs (rs.eraseIdx a) us
  -- the worlds
  obtain ⟨W1, e1⟩ : ∃ W1, W1 = w.alloc (.cells #[.int .i64 0, .int .i64 0, .bool false, .int .u64 0] 29) := ⟨_, rfl⟩
  have h1 := Db.newBox h e1
  have z1 : W1.heap.size = w.heap.size + 1 := by rw [e1]; simp
  obtain ⟨W2, e2⟩ : ∃ W2, W2 = W1.alloc (.cells #[.int .i64 0, .int .i64 0, .bool false, .int .u64 0] 29) := ⟨_, rfl⟩
  have h2 := Db.newBox h1 e2
  rw [z1] at h2
  have b2 : Dk.Box W2 (w.heap.size + 1) #[.int .i64 0, .int .i64 0, .bool false, .int .u64 0] 29 := Db.box h2 (by simp)
  obtain ⟨W3, e3⟩ : ∃ W3, W3 = W2.setRow (w.heap.size + 1) #[.int .i64 r1, .int .i64 r2, .bool r3, .int .u64 (r4 : Nat)] := ⟨_, rfl⟩
  have h3 := Db.setRow h2 e3
  -- what is read
  obtain ⟨g, C, c0, hC, hm, hcs⟩ : ∃ g C, W1.cell? ⟨bd, 1, none⟩ = some (.slice (some ⟨g, 0, none⟩) rs.length C) ∧ rs.length ≤ C ∧ C ≤ maxLen ∧ ∀ j, j < 4 → W1.cell? ⟨g, a * 4 + j, none⟩ = (Dk.Rq.cells ⟨r1, r2, r3, r4⟩)[j]? := by
    obtain ⟨v1, v2, t, f⟩ := Hid.out h1
    obtain ⟨g, C, ev, q1, q2, _, q3⟩ := req_at t.row2 ha
    rw [hr] at q3
    subst ev
    exact ⟨g, C, t.head.cell 1, q1, q2, q3⟩
  unfold maxLen at hm
  have d0 : W1.cell? ⟨g, a * 4, none⟩ = some (.int .i64 r1) := hcs 0 (by omega)
  have d1 : W1.cell? ⟨g, a * 4 + 1, none⟩ = some (.int .i64 r2) := hcs 1 (by omega)
  have d2 : W1.cell? ⟨g, a * 4 + 2, none⟩ = some (.bool r3) := hcs 2 (by omega)
  have d3 : W1.cell? ⟨g, a * 4 + 3, none⟩ = some (.int .u64 (r4 : Nat)) := hcs 3 (by omega)
  obtain ⟨g', C', c3, K⟩ := Db.cut h3 a ha
  have H1 : Hid (w.alloc (.cells #[.int .i64 0, .int .i64 0, .bool false, .int .u64 0] 29) = W1) := e1.symm
  have H2 : Hid (W1.alloc (.cells #[.int .i64 0, .int .i64 0, .bool false, .int .u64 0] 29) = W2) := e2.symm
  have H3 : Hid (W2.setRow (w.heap.size + 1) #[.int .i64 r1, .int .i64 r2, .bool r3, .int .u64 (r4 : Nat)] = W3) := e3.symm
  have HB2 : Hid (Dk.Box W2 (w.heap.size + 1) #[.int .i64 0, .int .i64 0, .bool false, .int .u64 0] 29) := b2
  have HZ : Hid (W1.heap.size = w.heap.size + 1) := z1
  generalize hrs : rs.eraseIdx a = rs' at *
  clear e1 e2 e3 h1 h2 h3 b2 h hcs hr z1 hrs
  generalize rs.length = n at *
  obtain ⟨q, eq⟩ : ∃ q, k.tmod (n : Int) = q := ⟨_, rfl⟩
  rw [eq] at q1 q2
  obtain ⟨q3, q4⟩ := q1
  have hnn : (n : Int) ≠ 0 := by omega
  have hn0 : ¬ n = 0 := by omega
  have han : (a : Int) < (n : Int) := by omega
  go_enter Try.func13, Try.ntmps13
  go_wp2_with (first | (rw [H1.out]; clear H1) | (rw [H2.out, HZ.out]; clear H2) | (refine wpList_store_row rfl 29 _ _ rfl (w.heap.size + 1) #[.int .i64 r1, .int .i64 r2, .bool r3, .int .u64 (r4 : Nat)] rfl rfl 29 _ HB2.out.heap rq_size rfl (rq_cells _ _ _ _) ?_; rw [H3.out]; clear HB2))
  refine K.mono ?_
  rintro e w4 ⟨A4, n4, C4, rfl, c4, f4, h5⟩
  obtain ⟨W5, e5⟩ : ∃ W5, W5 = w4.setCell ⟨bd, 1, none⟩ (.slice A4 n4 C4) := ⟨_, rfl⟩
  rw [← e5] at h5
  have H5 : Hid (w4.setCell ⟨bd, 1, none⟩ (.slice A4 n4 C4) = W5) := e5.symm
  have b5 : Dk.Box W5 (w.heap.size + 1) #[.int .i64 r1, .int .i64 r2, .bool r3, .int .u64 (r4 : Nat)] 29 := Db.box h5 (by simp)
  have x0 : W5.cell? ⟨w.heap.size + 1, 0, none⟩ = some (.int .i64 r1) := b5.cell 0
  have x1 : W5.cell? ⟨w.heap.size + 1, 1, none⟩ = some (.int .i64 r2) := b5.cell 1
  have x2 : W5.cell? ⟨w.heap.size + 1, 2, none⟩ = some (.bool r3) := b5.cell 2
  have x3 : W5.cell? ⟨w.heap.size + 1, 3, none⟩ = some (.int .u64 (r4 : Nat)) := b5.cell 3
  have b6 : Dk.Box W5 w.heap.size #[.int .i64 0, .int .i64 0, .bool false, .int .u64 0] 29 := Db.box h5 (by simp)
  have HB6 : Hid (Dk.Box W5 w.heap.size #[.int .i64 0, .int .i64 0, .bool false, .int .u64 0] 29) := b6
  have h6 := Db.setRow (cs' := #[.int .i64 r1, .int .i64 r2, .bool r3, .int .u64 (r4 : Nat)]) (Db.drop h5) rfl
  have h7 := Db.drop h6
  clear e5 h5 b5 b6 h6 K d0 d1 d2 d3 c0 c3
  go_wp2_with (first | (rw [H5.out]; clear H5) | (refine wpList_store_row rfl 29 _ _ rfl w.heap.size #[.int .i64 r1, .int .i64 r2, .bool r3, .int .u64 (r4 : Nat)] rfl rfl 29 _ HB6.out.heap rq_size rfl (rq_cells _ _ _ _) ?_))
  have d2 := (HB6.out.row (cs' := #[.int .i64 r1, .int .i64 r2, .bool r3, .int .u64 (r4 : Nat)])).cell
  exact bodyPost_ret (v := .agg #[.int .i64 r1, .int .i64 r2, .bool r3, .int .u64 (r4 : Nat)]) (by simp [results, Try.results13, go_sem, d2]) rfl ⟨rfl, h7⟩
end
end Go.Proofs.Ytpknboeobldbpaa
