/- What a pipe's rows do: the first goes, one more comes; and the things beside a pipe. -/
import Derived.Test.YtnoeigmcanggdaaTp
namespace Go.Proofs.Ytnoeigmcanggdaa
set_option linter.unusedSimpArgs false
set_option linter.unusedVariables false
set_option linter.unnecessarySimpa false
open Go.RowKit Go.Lib

theorem K25 : Dk.SlK Try.prog 25 27 (.int .u64 0) 1 8 := ⟨Try.underlying25, info27, rfl, by decide, by decide⟩
theorem K26 : Dk.SlK Try.prog 26 3 (.int .i64 0) 1 8 := ⟨Try.underlying26, info3, rfl, by decide, by decide⟩
theorem K44 : Dk.SlK Try.prog 44 52 (.agg #[.int .i64 0, .int .u64 0]) 2 16 := ⟨Try.underlying44, info52, rfl, by decide, by decide⟩

section
variable {W w w' : World} {bt : Nat} {room : Int} {ws : List Nat} {ps : List (Int × Nat)} {gs : List Int} {us us' us1 us2 : List Dk.Thing}
/-- Whatever is done with what lies beside a pipe. -/
theorem Tb.map (h : Dk.Tb W w bt room ws ps gs us) (f : ∀ ts, Dk.Sep W w (us ++ ts) → Dk.Sep W w' (us' ++ ts)) : Dk.Tb W w' bt room ws ps gs us' := by
  obtain ⟨v1, v2, v3, t, ft⟩ := Hid.out h
  refine ⟨v1, v2, v3, ?_, ft⟩
  have p := f [Dk.boxOf bt #[.int .i64 room, v1, v2, v3] 46, Dk.rowOf 27 1 v1 ws.length (Dk.uw ws), Dk.rowOf 52 2 v2 ps.length (Dk.prs ps), Dk.rowOf 3 1 v3 gs.length (Dk.is gs)] (Dk.Sep.perm t (List.perm_append_comm (l₁ := [_, _, _, _])))
  exact Dk.Sep.perm p List.perm_append_comm
theorem Tb.get {t : Dk.Thing} (h : Dk.Tb W w bt room ws ps gs us) (ht : t ∈ us) : t.holds w := by
  obtain ⟨v1, v2, v3, q, ft⟩ := Hid.out h
  exact Dk.Sep.get q (by simp [Dk.tube, ht])
theorem Tb.row {e : TypeId} {s n : Nat} {v : Value} {xs : List Value} (h : Dk.Tb W w bt room ws ps gs us) (ht : Dk.rowOf e s v n xs ∈ us) : w.ownsRow W.heap.size e s v n xs := by
  obtain ⟨v1, v2, v3, q, ft⟩ := Hid.out h
  exact Dk.Sep.row q (by simp [Dk.tube, ht])
theorem Tb.box {b : Nat} {cs : Array Value} {e : TypeId} (h : Dk.Tb W w bt room ws ps gs us) (ht : Dk.boxOf b cs e ∈ us) : Dk.Box w b cs e := Tb.get h ht
theorem Tb.drop {t : Dk.Thing} (h : Dk.Tb W w bt room ws ps gs (t :: us)) : Dk.Tb W w bt room ws ps gs us := Tb.map h (fun ts s => s.sub (List.sublist_cons_self _ _))
theorem Tb.newBox {cs : Array Value} {e : TypeId} (h : Dk.Tb W w bt room ws ps gs us) (ew : w' = w.alloc (.cells cs e)) : Dk.Tb W w' bt room ws ps gs (Dk.boxOf w.heap.size cs e :: us) := Tb.map h (fun ts s => s.newBox ew)
theorem Tb.setRow {b : Nat} {cs cs' : Array Value} {e : TypeId} (h : Dk.Tb W w bt room ws ps gs (Dk.boxOf b cs e :: us)) (ew : w' = w.setRow b cs') : Dk.Tb W w' bt room ws ps gs (Dk.boxOf b cs' e :: us) := by
  have hb : Dk.Box w b cs e := Tb.box h (by simp)
  subst ew
  exact Tb.map h (fun ts s => Dk.Sep.turn (us1 := []) (t' := Dk.boxOf b cs' e) s (Dk.Away.row (S := (Dk.boxOf b cs e).own) (Dk.Away.refl _ _) (.inl rfl) _) hb.row (fun k hk => .inl hk))
theorem Tb.empty {e : TypeId} {s : Nat} (h : Dk.Tb W w bt room ws ps gs us) (ew : w' = w.alloc (.cells #[] e)) : Dk.Tb W w' bt room ws ps gs (Dk.rowOf e s (.slice (some ⟨w.heap.size, 0, none⟩) 0 0) 0 [] :: us) := Tb.map h (fun ts s => s.empty ew)
theorem Tb.fresh {t t' : Dk.Thing} (h : Dk.Tb W w bt room ws ps gs (us1 ++ t :: us2)) (b : Below w.heap.size w w') (hh : t'.holds w') (hn : ∀ k, t'.own k → w.heap.size ≤ k) : Dk.Tb W w' bt room ws ps gs (us1 ++ t' :: us2) :=
  Tb.map h (fun ts s => by
    rw [List.append_assoc, List.cons_append] at s ⊢
    exact s.fresh b hh hn)
/-- One more in a list beside. -/
theorem Tb.append {ty e : TypeId} {z : Value} {bytes n : Nat} {v x : Value} {xs : List Value} (K : Dk.SlK Try.prog ty e z 1 bytes) (h : Dk.Tb W w bt room ws ps gs (us1 ++ Dk.rowOf e 1 v n xs :: us2)) (hx : x.oneCell' = true) (hl : n ≤ 10000) :
    ∃ v' w', (Builtin.append_ #[ty, ty] ty #[v, .slice (some ⟨w.heap.size, 0, none⟩) 1 1]).run Try.prog (w.alloc (.cells #[x] e)) = .ok v' w' ∧ Dk.Tb W w' bt room ws ps gs (us1 ++ Dk.rowOf e 1 v' (n + 1) (xs ++ [x]) :: us2) := by
  obtain ⟨v1, v2, v3, t, ft⟩ := Hid.out h
  have t' : Dk.Sep W w (([Dk.boxOf bt #[.int .i64 room, v1, v2, v3] 46, Dk.rowOf 27 1 v1 ws.length (Dk.uw ws), Dk.rowOf 52 2 v2 ps.length (Dk.prs ps), Dk.rowOf 3 1 v3 gs.length (Dk.is gs)] ++ us1) ++ Dk.rowOf e 1 v n xs :: us2) := t
  obtain ⟨v', w', hr, hs, _⟩ := Dk.Sep.append K t' hx hl
  exact ⟨v', w', hr, ⟨v1, v2, v3, hs, ft⟩⟩
/-- A list beside without its first. -/
theorem Tb.tail {ty e : TypeId} {z : Value} {bytes n : Nat} {v x : Value} {xs : List Value} (K : Dk.SlK Try.prog ty e z 1 bytes) (h : Dk.Tb W w bt room ws ps gs (us1 ++ Dk.rowOf e 1 v (n + 1) (x :: xs) :: us2)) (h1 : ∀ u ∈ xs, u.oneCell' = true) (hl : n ≤ 10000) :
    ∃ g C A v' w', v = .slice (some ⟨g, 0, none⟩) (n + 1) C ∧ n + 1 ≤ C ∧ C ≤ maxLen ∧ w.cell? ⟨g, 0, none⟩ = some x ∧ (if C = 1 then some (⟨g, 0, none⟩ : Addr) else some ⟨g, 1, none⟩) = some A ∧ (Builtin.append_ #[ty, ty] ty #[.slice (some ⟨w.heap.size, 0, none⟩) 0 0, .slice (some A) n (C - 1)]).run Try.prog (w.alloc (.cells #[] e)) = .ok v' w' ∧ Dk.Tb W w' bt room ws ps gs (us1 ++ Dk.rowOf e 1 v' n xs :: us2) := by
  have hr := Tb.row h (e := e) (s := 1) (v := v) (n := n + 1) (xs := x :: xs) (by simp)
  obtain ⟨hl1, ⟨_, h0⟩ | ⟨g, C, cur, rfl, hb, hg, hn, hm, hs, ht⟩⟩ := id hr
  · omega
  have hxl : xs.length = n := by simpa using hl1
  have hc := hr.cells (g := g) rfl
  have c0 : w.cell? ⟨g, 0, none⟩ = some x := by
    have := hc 0 x rfl
    rw [Addr.add_lit] at this
    exact this
  obtain ⟨W1, e1⟩ : ∃ W1, W1 = w.alloc (.cells #[] e) := ⟨_, rfl⟩
  have u1 : Below w.heap.size w W1 := by rw [e1]; exact Dk.up_alloc (Below.refl _ _) _
  have o1 : W1.ownsRow w.heap.size e 1 (.slice (some ⟨w.heap.size, 0, none⟩) 0 0) 0 [] := by rw [e1]; exact World.ownsRow_lit w #[] 0 (Nat.le_refl _) (Nat.zero_le _) rfl
  obtain ⟨A, hA, hsrc⟩ : ∃ A : Addr, (if C = 1 then some (⟨g, 0, none⟩ : Addr) else some ⟨g, 1, none⟩) = some A ∧ (∀ t u, xs[t]? = some u → W1.cell? (A.add t) = some u) := by
    by_cases hC : C = 1
    · refine ⟨⟨g, 0, none⟩, by simp [hC], fun t u hu => ?_⟩
      have := (List.getElem?_eq_some_iff.1 hu).1
      omega
    · refine ⟨⟨g, 1, none⟩, by simp [hC], fun t u hu => ?_⟩
      have q := (owns_up hr u1).cells (g := g) rfl (t + 1) u (by simpa using hu)
      rw [Addr.add_lit] at q ⊢
      rw [show 1 + t = 0 + (t + 1) by omega]
      exact q
  obtain ⟨v', w', hrun, ho, hgr, hf, _⟩ := K.append w.heap.size ty _ [] 0 W1 o1 A n (C - 1) xs (by omega) hsrc h1 (by omega) u1.size
  rw [Nat.zero_add, List.nil_append] at ho
  have u2 : Below w.heap.size w w' := u1.grown hgr u1.size (fun j hj => (o1.lt j hj).1)
  rw [← e1]
  exact ⟨g, C, A, v', w', rfl, hn, hm, c0, hA, hrun, Tb.fresh h u2 (t' := Dk.rowOf e 1 v' n xs) (Dk.owns_base ho (Nat.zero_le _)) (fun k hk => (ho.lt k hk).1)⟩

theorem first_words {x : Nat} (h : Dk.Tb W w bt room (x :: ws) ps gs us) :
    Calls Try.prog 18 #[.pointer (some ⟨bt, 1, none⟩)] w fun e w' => e = .returned (.tuple #[.int .u64 (x : Nat), .bool true]) ∧ Dk.Tb W w' bt room ws ps gs us := by
  obtain ⟨v1, v2, v3, t, ft⟩ := Hid.out h
  refine (take_words_yes W.heap.size bt 1 _ 46 v1 (x : Nat) (Dk.uw ws) ws.length w t.head rfl t.row1 (Dk.uw_one _) t.ne1).mono ?_
  rintro e w' ⟨v', rfl, ho, hb, hv, a⟩
  exact ⟨rfl, v', v2, v3, t.set1 a hb ho (Dk.From.same _ hv), ⟨fun y hy => ft.ws y (by simp [hy]), ft.ps, ft.gs⟩⟩
theorem none_words (h : Dk.Tb W w bt room [] ps gs us) :
    Calls Try.prog 18 #[.pointer (some ⟨bt, 1, none⟩)] w fun e w' => e = .returned (.tuple #[.int .u64 0, .bool false]) ∧ w' = w := by
  obtain ⟨v1, v2, v3, t, ft⟩ := Hid.out h
  obtain ⟨A, C, ev, _, _⟩ := Dk.owns_slice t.row1
  exact take_words_no bt 1 C A w (by rw [t.head.cell, ev]; rfl)

theorem first_ints {x : Int} (h : Dk.Tb W w bt room ws ps (x :: gs) us) :
    Calls Try.prog 20 #[.pointer (some ⟨bt, 3, none⟩)] w fun e w' => e = .returned (.tuple #[.int .i64 x, .bool true]) ∧ Dk.Tb W w' bt room ws ps gs us := by
  obtain ⟨v1, v2, v3, t, ft⟩ := Hid.out h
  refine (take_ints_yes W.heap.size bt 3 _ 46 v3 x (Dk.is gs) gs.length w t.head rfl t.row3 (Dk.is_one _) t.ne3).mono ?_
  rintro e w' ⟨v', rfl, ho, hb, hv, a⟩
  exact ⟨rfl, v1, v2, v', t.set3 a hb ho (Dk.From.same _ hv), ⟨ft.ws, ft.ps, fun y hy => ft.gs y (by simp [hy])⟩⟩
theorem none_ints (h : Dk.Tb W w bt room ws ps [] us) :
    Calls Try.prog 20 #[.pointer (some ⟨bt, 3, none⟩)] w fun e w' => e = .returned (.tuple #[.int .i64 0, .bool false]) ∧ w' = w := by
  obtain ⟨v1, v2, v3, t, ft⟩ := Hid.out h
  obtain ⟨A, C, ev, _, _⟩ := Dk.owns_slice t.row3
  exact take_ints_no bt 3 C A w (by rw [t.head.cell, ev]; rfl)

theorem first_pairs {x : Int × Nat} (h : Dk.Tb W w bt room ws (x :: ps) gs us) :
    Calls Try.prog 19 #[.pointer (some ⟨bt, 2, none⟩)] w fun e w' => e = .returned (.tuple #[.agg #[.int .i64 x.1, .int .u64 (x.2 : Nat)], .bool true]) ∧ Dk.Tb W w' bt room ws ps gs us := by
  obtain ⟨v1, v2, v3, t, ft⟩ := Hid.out h
  refine (take_pairs_yes W.heap.size bt 2 _ 46 v2 x (Dk.prs ps) ps.length w t.head rfl t.row2 (Dk.prs_one _) t.ne2).mono ?_
  rintro e w' ⟨v', rfl, ho, hb, hv, a⟩
  exact ⟨rfl, v1, v', v3, t.set2 a hb ho (Dk.From.same _ hv), ⟨ft.ws, fun y hy => ft.ps y (by simp [hy]), ft.gs⟩⟩
theorem none_pairs (h : Dk.Tb W w bt room ws [] gs us) :
    Calls Try.prog 19 #[.pointer (some ⟨bt, 2, none⟩)] w fun e w' => e = .returned (.tuple #[.agg #[.int .i64 0, .int .u64 0], .bool false]) ∧ Below w.heap.size w w' := by
  obtain ⟨v1, v2, v3, t, ft⟩ := Hid.out h
  obtain ⟨A, C, ev, _, _⟩ := Dk.owns_slice t.row2
  exact take_pairs_no bt 2 C A w t.head.lt (by rw [t.head.cell, ev]; rfl)

theorem Tb.add1 (h : Dk.Tb W w bt room ws ps gs us) (x : Nat) (hx : x < 2 ^ 64) (hl : ws.length ≤ 1000) :
    ∃ A n C A' n' C' w', w.cell? ⟨bt, 1, none⟩ = some (.slice A n C) ∧ (Builtin.append_ #[25, 25] 25 #[.slice A n C, .slice (some ⟨w.heap.size, 0, none⟩) 1 1]).run Try.prog (w.alloc (.cells #[.int .u64 (x : Nat)] 27)) = .ok (.slice A' n' C') w' ∧ w'.cell? ⟨bt, 1, none⟩ = some (.slice A n C) ∧ w'.frozen? ⟨bt, 1, none⟩ = false ∧ Dk.Tb W (w'.setCell ⟨bt, 1, none⟩ (.slice A' n' C')) bt room (ws ++ [x]) ps gs us := by
  obtain ⟨v1, v2, v3, t, ft⟩ := Hid.out h
  obtain ⟨W1, e1⟩ : ∃ W1, W1 = w.alloc (.cells #[.int .u64 (x : Nat)] 27) := ⟨_, rfl⟩
  have u1 : Below w.heap.size w W1 := by rw [e1]; exact Dk.up_alloc (Below.refl _ _) _
  have b1 : Dk.Box W1 w.heap.size #[.int .u64 (x : Nat)] 27 := by rw [e1]; exact Dk.Box.new _ _ _
  have t1 := t.below u1
  obtain ⟨A, C, ev, _, _⟩ := Dk.owns_slice t.row1
  obtain ⟨v', w', hr, ho, hg, hf, _⟩ := K25.append W.heap.size 25 v1 _ _ W1 t1.row1 ⟨w.heap.size, 0, none⟩ 1 1 [.int .u64 (x : Nat)] rfl (fun j u hj => by
    rw [Addr.add_lit, Nat.zero_add, b1.cell]
    simpa using hj) (fun u hu => by simp at hu; rw [hu]; rfl) (by omega) t1.up.size
  have ho' : w'.ownsRow W.heap.size 27 1 v' (ws ++ [x]).length (Dk.uw (ws ++ [x])) := by
    rw [List.length_append, Dk.uw, List.map_append]
    exact ho
  obtain ⟨A', C', ev', _, _⟩ := Dk.owns_slice ho
  have hb : Dk.Box w' bt #[.int .i64 room, v1, v2, v3] 46 := ⟨by rw [hg.block bt t1.head.lt (fun e => t1.ne1 e.symm)]; exact t1.head.heap⟩
  rw [← e1]
  subst ev'
  have o2 := Dk.owns_away ho' ((Dk.Away.refl (fun k => k = bt) w').set (.inl rfl) 1 (.slice A' (ws.length + 1) C')) (fun k hk e => by
    rcases hf k hk with q | q
    · rw [e] at q; exact t1.ne1 q
    · have := t1.head.lt; omega)
  have a2 : Dk.Away (fun k => k = bt ∨ v1.ownBlock = some k) W1 (w'.setCell ⟨bt, 1, none⟩ (.slice A' (ws.length + 1) C')) := (Dk.Away.of_grown hg (fun k hk => .inl (.inr hk))).set (.inl (.inl rfl)) _ _
  have T := t1.set1 a2 (hb.set 1 _) o2 hf
  subst ev
  exact ⟨_, _, _, _, _, _, w', t.head.cell 1, hr, hb.cell 1, hb.frozen 1, ⟨_, _, _, T, ⟨fun y hy => by
    rcases List.mem_append.1 hy with hy | hy
    · exact ft.ws y hy
    · rw [List.mem_singleton] at hy; rw [hy]; exact hx, ft.ps, ft.gs⟩⟩⟩

theorem Tb.add3 (h : Dk.Tb W w bt room ws ps gs us) (x : Int) (hx : Dk.i64 x) (hl : gs.length ≤ 1000) :
    ∃ A n C A' n' C' w', w.cell? ⟨bt, 3, none⟩ = some (.slice A n C) ∧ (Builtin.append_ #[26, 26] 26 #[.slice A n C, .slice (some ⟨w.heap.size, 0, none⟩) 1 1]).run Try.prog (w.alloc (.cells #[.int .i64 x] 3)) = .ok (.slice A' n' C') w' ∧ w'.cell? ⟨bt, 3, none⟩ = some (.slice A n C) ∧ w'.frozen? ⟨bt, 3, none⟩ = false ∧ Dk.Tb W (w'.setCell ⟨bt, 3, none⟩ (.slice A' n' C')) bt room ws ps (gs ++ [x]) us := by
  obtain ⟨v1, v2, v3, t, ft⟩ := Hid.out h
  obtain ⟨W1, e1⟩ : ∃ W1, W1 = w.alloc (.cells #[.int .i64 x] 3) := ⟨_, rfl⟩
  have u1 : Below w.heap.size w W1 := by rw [e1]; exact Dk.up_alloc (Below.refl _ _) _
  have b1 : Dk.Box W1 w.heap.size #[.int .i64 x] 3 := by rw [e1]; exact Dk.Box.new _ _ _
  have t1 := t.below u1
  obtain ⟨A, C, ev, _, _⟩ := Dk.owns_slice t.row3
  obtain ⟨v', w', hr, ho, hg, hf, _⟩ := K26.append W.heap.size 26 v3 _ _ W1 t1.row3 ⟨w.heap.size, 0, none⟩ 1 1 [.int .i64 x] rfl (fun j u hj => by
    rw [Addr.add_lit, Nat.zero_add, b1.cell]
    simpa using hj) (fun u hu => by simp at hu; rw [hu]; rfl) (by omega) t1.up.size
  have ho' : w'.ownsRow W.heap.size 3 1 v' (gs ++ [x]).length (Dk.is (gs ++ [x])) := by
    rw [List.length_append, Dk.is, List.map_append]
    exact ho
  obtain ⟨A', C', ev', _, _⟩ := Dk.owns_slice ho
  have hb : Dk.Box w' bt #[.int .i64 room, v1, v2, v3] 46 := ⟨by rw [hg.block bt t1.head.lt (fun e => t1.ne3 e.symm)]; exact t1.head.heap⟩
  rw [← e1]
  subst ev'
  have o2 := Dk.owns_away ho' ((Dk.Away.refl (fun k => k = bt) w').set (.inl rfl) 3 (.slice A' (gs.length + 1) C')) (fun k hk e => by
    rcases hf k hk with q | q
    · rw [e] at q; exact t1.ne3 q
    · have := t1.head.lt; omega)
  have a2 : Dk.Away (fun k => k = bt ∨ v3.ownBlock = some k) W1 (w'.setCell ⟨bt, 3, none⟩ (.slice A' (gs.length + 1) C')) := (Dk.Away.of_grown hg (fun k hk => .inl (.inr hk))).set (.inl (.inl rfl)) _ _
  have T := t1.set3 a2 (hb.set 3 _) o2 hf
  subst ev
  exact ⟨_, _, _, _, _, _, w', t.head.cell 3, hr, hb.cell 3, hb.frozen 3, ⟨_, _, _, T, ⟨ft.ws, ft.ps, fun y hy => by
    rcases List.mem_append.1 hy with hy | hy
    · exact ft.gs y hy
    · rw [List.mem_singleton] at hy; rw [hy]; exact hx⟩⟩⟩

theorem Tb.add2 (h : Dk.Tb W w bt room ws ps gs us) (x : Int) (y : Nat) (hx : Dk.i64 x) (hy : y < 2 ^ 64) (hl : ps.length ≤ 1000) :
    ∃ A n C A' n' C' w', w.cell? ⟨bt, 2, none⟩ = some (.slice A n C) ∧ (Builtin.append_ #[44, 44] 44 #[.slice A n C, .slice (some ⟨w.heap.size, 0, none⟩) 1 1]).run Try.prog (w.alloc (.cells #[.int .i64 x, .int .u64 (y : Nat)] 52)) = .ok (.slice A' n' C') w' ∧ w'.cell? ⟨bt, 2, none⟩ = some (.slice A n C) ∧ w'.frozen? ⟨bt, 2, none⟩ = false ∧ Dk.Tb W (w'.setCell ⟨bt, 2, none⟩ (.slice A' n' C')) bt room ws (ps ++ [(x, y)]) gs us := by
  obtain ⟨v1, v2, v3, t, ft⟩ := Hid.out h
  obtain ⟨W1, e1⟩ : ∃ W1, W1 = w.alloc (.cells #[.int .i64 x, .int .u64 (y : Nat)] 52) := ⟨_, rfl⟩
  have u1 : Below w.heap.size w W1 := by rw [e1]; exact Dk.up_alloc (Below.refl _ _) _
  have b1 : Dk.Box W1 w.heap.size #[.int .i64 x, .int .u64 (y : Nat)] 52 := by rw [e1]; exact Dk.Box.new _ _ _
  have t1 := t.below u1
  obtain ⟨A, C, ev, _, _⟩ := Dk.owns_slice t.row2
  obtain ⟨v', w', hr, ho, hg, hf, _⟩ := K44.append W.heap.size 44 v2 _ _ W1 t1.row2 ⟨w.heap.size, 0, none⟩ 1 1 [.int .i64 x, .int .u64 (y : Nat)] rfl (fun j u hj => by
    rw [Addr.add_lit, Nat.zero_add, b1.cell]
    simpa using hj) (fun u hu => by simp at hu; rcases hu with rfl | rfl <;> rfl) (by omega) t1.up.size
  have ho' : w'.ownsRow W.heap.size 52 2 v' (ps ++ [(x, y)]).length (Dk.prs (ps ++ [(x, y)])) := by
    rw [List.length_append, Dk.prs_append]
    exact ho
  obtain ⟨A', C', ev', _, _⟩ := Dk.owns_slice ho
  have hb : Dk.Box w' bt #[.int .i64 room, v1, v2, v3] 46 := ⟨by rw [hg.block bt t1.head.lt (fun e => t1.ne2 e.symm)]; exact t1.head.heap⟩
  rw [← e1]
  subst ev'
  have o2 := Dk.owns_away ho' ((Dk.Away.refl (fun k => k = bt) w').set (.inl rfl) 2 (.slice A' (ps.length + 1) C')) (fun k hk e => by
    rcases hf k hk with q | q
    · rw [e] at q; exact t1.ne2 q
    · have := t1.head.lt; omega)
  have a2 : Dk.Away (fun k => k = bt ∨ v2.ownBlock = some k) W1 (w'.setCell ⟨bt, 2, none⟩ (.slice A' (ps.length + 1) C')) := (Dk.Away.of_grown hg (fun k hk => .inl (.inr hk))).set (.inl (.inl rfl)) _ _
  have T := t1.set2 a2 (hb.set 2 _) o2 hf
  subst ev
  exact ⟨_, _, _, _, _, _, w', t.head.cell 2, hr, hb.cell 2, hb.frozen 2, ⟨_, _, _, T, ⟨ft.ws, fun q hq => by
    rcases List.mem_append.1 hq with hq | hq
    · exact ft.ps q hq
    · rw [List.mem_singleton] at hq; rw [hq]; exact ⟨hx, hy⟩, ft.gs⟩⟩⟩
end
end Go.Proofs.Ytnoeigmcanggdaa
