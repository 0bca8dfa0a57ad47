/- A condition in a row of records: what its calls do. -/
import Derived.Test.YtjkdaankjondjaaHd
namespace Go.Proofs.Ytjkdaankjondjaa
set_option linter.unusedSimpArgs false
set_option linter.unusedVariables false
set_option linter.unnecessarySimpa false
open Go.RowKit Go.Maps

theorem slp_size : (Try.prog.info? 82).map (·.size) = some 2 := by kernel_rfl
theorem slp_cells (a b : Int) : (#[.int .i64 a, .int .i64 b] : Array Value).all (·.oneCell') = true := by simp [Value.oneCell']
theorem info82 : (Try.prog.info? 82).map (fun i => (i.zero, i.size, i.bytes)) = some (some (.agg #[.int .i64 0, .int .i64 0]), 2, 16) := by kernel_rfl
theorem K79 : Dk.SlK Try.prog 79 82 (.agg #[.int .i64 0, .int .i64 0]) 2 16 := ⟨Try.underlying79, info82, rfl, by decide, by decide⟩
theorem away_row {S : Nat → Prop} {w w' : World} {b : Nat} (h : Dk.Away S w w') (hb : S b ∨ w.heap.size ≤ b) (cs : Array Value) : Dk.Away S w (w'.setRow b cs) :=
  ⟨h.os, h.tape, h.output, by simp [World.setRow]; exact h.size, fun k hk hn => (setRow_other w' b k cs (fun e => by subst e; exact hb.elim hn (fun h1 => absurd hk (by omega)))).trans (h.block k hk hn)⟩
theorem sep_setRow {W w w' : World} {b : Nat} {cs cs' : Array Value} {e : TypeId} {us : List Dk.Thing} (h : Dk.Sep W w (Dk.boxOf b cs e :: us)) (ew : w' = w.setRow b cs') : Dk.Sep W w' (Dk.boxOf b cs' e :: us) := by
  subst ew
  exact h.turn (us1 := []) (t := Dk.boxOf b cs e) (t' := Dk.boxOf b cs' e) (away_row (S := (Dk.boxOf b cs e).own) (Dk.Away.refl _ _) (.inl rfl) _) ((h.box (b := b) (cs := cs) (t := e) (by simp)).row) (fun k hk => .inl hk)

section
variable {W w : World} {e : TypeId} {q g n C o bm : Nat} {Hs : List Value} {u : Value} {xs : List Int} {L : List (Int × Int)} {us us' : List Dk.Thing}

/-- The map, beside others, is written. -/
theorem sep_mapPut (h : Dk.Sep W w (us' ++ mapOf bm L :: us)) {x c : Int} (hi : Dk.i64 x) (hc : Dk.i64 c) (hx : x ∉ Dk.keysOf L) (hl : L.length ≤ 1000) :
    ∃ w', (Instr.mapUpdate 64 (.map (some bm)) (.int .i64 x) (.int .i64 c)).run Try.prog w = .ok () w' ∧ Dk.Sep W w' (us' ++ mapOf bm (L ++ [(x, c)]) :: us) := by
  obtain ⟨w', hr, ht, hg⟩ := Told.put (h.get (t := mapOf bm L) (by simp)) hi hc hx hl
  exact ⟨w', hr, h.turn (t := mapOf bm L) (t' := mapOf bm (L ++ [(x, c)])) (Dk.Away.of_grown hg (fun k hk => .inl (Option.some.inj hk).symm)) ht (fun k hk => .inl hk)⟩
theorem sep_mapDel (h : Dk.Sep W w (us' ++ mapOf bm L :: us)) {x c : Int} {k : Nat} (hi : Dk.i64 x) (hk : L[k]? = some (x, c)) :
    ∃ w', (Builtin.delete_ #[64, 3] 0 #[.map (some bm), .int .i64 x]).run Try.prog w = .ok (.tuple #[]) w' ∧ Dk.Sep W w' (us' ++ mapOf bm (L.eraseIdx k) :: us) := by
  obtain ⟨w', hr, ht, hg⟩ := Told.del (h.get (t := mapOf bm L) (by simp)) hi hk
  exact ⟨w', hr, h.turn (t := mapOf bm L) (t' := mapOf bm (L.eraseIdx k)) (Dk.Away.of_grown hg (fun k hk => .inl (Option.some.inj hk).symm)) ht (fun k hk => .inl hk)⟩

theorem cwait_any (h : Dk.Sep W w (Dk.rowOf e q (.slice (some ⟨g, 0, none⟩) n C) n Hs :: Dk.rowOf 3 1 u xs.length (Dk.is xs) :: mapOf bm L :: us)) (h0 : Hs[o]? = some u) (h1 : Hs[o + 1]? = some (.map (some bm))) (who m : Int) (hl : xs.length ≤ 1000) (hi : Dk.i64 who) (hm : Dk.i64 m) (hx : who ∉ Dk.keysOf L) (hL : L.length ≤ 1000) :
    Calls Try.prog 37 #[.pointer (some ⟨g, o, none⟩), .int .i64 who, .int .i64 m] w fun e' w' => e' = .returned (.tuple #[]) ∧ ∃ u', Dk.Sep W w' (Dk.rowOf e q (.slice (some ⟨g, 0, none⟩) n C) n (Hs.set o u') :: Dk.rowOf 3 1 u' (xs ++ [who]).length (Dk.is (xs ++ [who])) :: mapOf bm (L ++ [(who, m)]) :: us) := by
  have hlen : Hs.length = n * q := h.rowLen (List.mem_cons_self ..)
  have K := join_any h h0 who hl
  clear h
  go_enter Try.func37, Try.ntmps37
  go_wp2_with fail
  refine K.mono ?_
  rintro e' w1 ⟨rfl, u', h⟩
  have c1 : w1.cell? ⟨g, o + 1, none⟩ = some (.map (some bm)) := (h.cellg (us1 := []) (by rw [List.length_set]; exact hlen) (by rw [List.getElem?_set_ne (by omega)]; exact h1)).1
  obtain ⟨w2, hrun, h2⟩ := sep_mapPut (us' := [_, _]) h hi hm hx hL
  have H2 : Hid _ := h2
  clear K h h2 h0 h1 hx hi hm
  go_wp2_with fail
  go_end0
  exact ⟨rfl, _, H2.out⟩

theorem wake_any (h : Dk.Sep W w (Dk.rowOf e q (.slice (some ⟨g, 0, none⟩) n C) n Hs :: mapOf bm L :: us)) (h1 : Hs[o + 1]? = some (.map (some bm))) {k : Nat} {who m : Int} (hi : Dk.i64 who) (hk : L[k]? = some (who, m)) :
    Calls Try.prog 53 #[.pointer (some ⟨g, o, none⟩), .int .i64 who] w fun e' w' => e' = .returned (.agg #[.int .i64 who, .int .i64 m]) ∧ Dk.Sep W w' (Dk.rowOf e q (.slice (some ⟨g, 0, none⟩) n C) n Hs :: mapOf bm (L.eraseIdx k) :: us) := by
  have hlen : Hs.length = n * q := h.rowLen (List.mem_cons_self ..)
  obtain ⟨W1, e1⟩ : ∃ W1, W1 = w.alloc (.cells #[.int .i64 0, .int .i64 0] 82) := ⟨_, rfl⟩
  have s1 := h.newBox e1
  have c1 : W1.cell? ⟨g, o + 1, none⟩ = some (.map (some bm)) := (Dk.Sep.cellg (us1 := [_]) s1 hlen h1).1
  have hlook := Told.look (s1.get (t := mapOf bm L) (by simp)) hi (List.mem_of_getElem? hk)
  obtain ⟨W2, hrun, s2⟩ := sep_mapDel (us' := [_, _]) s1 hi hk
  have c2 : W2.cell? ⟨g, o + 1, none⟩ = some (.map (some bm)) := (Dk.Sep.cellg (us1 := [_]) s2 hlen h1).1
  have b2 : Dk.Box W2 w.heap.size #[.int .i64 0, .int .i64 0] 82 := s2.box (by simp)
  obtain ⟨W3, e3⟩ : ∃ W3, W3 = W2.setRow w.heap.size #[.int .i64 who, .int .i64 m] := ⟨_, rfl⟩
  have s3 := sep_setRow s2 e3
  have b3 : Dk.Box W3 w.heap.size #[.int .i64 who, .int .i64 m] 82 := s3.box (by simp)
  have d0 := b3.cell
  have s4 := s3.sub (List.sublist_cons_self _ _)
  have H1 : Hid (w.alloc (.cells #[.int .i64 0, .int .i64 0] 82) = W1) := e1.symm
  have H3 : Hid (W2.setRow w.heap.size #[.int .i64 who, .int .i64 m] = W3) := e3.symm
  have HB2 : Hid _ := b2
  have HD : Hid _ := d0
  have HS : Hid _ := s4
  clear e1 e3 s1 s2 s3 s4 b2 b3 h h1 hk hi d0
  go_enter Try.func53, Try.ntmps53
  go_wp2_with (first | (rw [H1.out]; clear H1) | (refine wpList_store_row rfl 82 _ _ rfl w.heap.size #[.int .i64 who, .int .i64 m] rfl rfl 82 _ HB2.out.heap slp_size rfl (slp_cells _ _) ?_; rw [H3.out]; clear HB2))
  have d0 := HD.out
  exact bodyPost_ret (v := .agg #[.int .i64 who, .int .i64 m]) (by simp [results, Try.results53, go_sem, d0]) rfl ⟨rfl, HS.out⟩
end
end Go.Proofs.Ytjkdaankjondjaa
