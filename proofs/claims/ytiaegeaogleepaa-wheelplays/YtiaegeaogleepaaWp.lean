/- A clock of a call's own, lists beside it, and boxes that are only read. -/
import Derived.Test.YtiaegeaogleepaaWt
import Derived.Test.YtiaegeaogleepaaDr
namespace Go.Proofs.Ytiaegeaogleepaa
set_option linter.unusedSimpArgs false
set_option linter.unusedVariables false
set_option linter.unnecessarySimpa false
open Go.RowKit Go.Maps

/-- A list's value and its numbers; a box's block, cells and type. -/
abbrev Row1 := Value × List Int
abbrev Box1 := Nat × Array Value × TypeId
structure Pack (W : World) (M bd : Nat) (w : World) (now : Int) (L : List (Int × Int)) (us : List Row1) (bs : List Box1) : Prop where
  wheel : ∃ bm, WH W.heap.size M w bd bm now L ∧ ∀ u ∈ us, u.1.ownBlock ≠ some bm
  rows : ∀ u ∈ us, w.ownsRow W.heap.size 3 1 u.1 u.2.length (Dk.is u.2) ∧ u.1.ownBlock ≠ some bd ∧ ∀ y ∈ u.2, Dk.i64 y
  apart : us.Pairwise (fun u v => Dk.Apart u.1 v.1)
  boxes : ∀ b ∈ bs, Dk.Box w b.1 b.2.1 b.2.2 ∧ b.1 ≠ bd ∧ ∀ u ∈ us, u.1.ownBlock ≠ some b.1
  up : Below W.heap.size W w
def Pk (W : World) (M bd : Nat) (w : World) (now : Int) (L : List (Int × Int)) (us : List Row1) (bs : List Box1) : Prop := Hid (Pack W M bd w now L us bs)

section
variable {W w : World} {M bd : Nat} {now : Int} {L : List (Int × Int)} {us us' us1 us2 : List Row1} {bs bs' : List Box1}

theorem Pk.out (h : Pk W M bd w now L us bs) : Below W.heap.size W w := (Hid.out h).up
theorem Pk.begin {bm : Nat} (h : WH W.heap.size M w bd bm now L) (u : Below W.heap.size W w) : Pk W M bd w now L [] [] := by
  exact ⟨⟨bm, h, fun u hu => absurd hu (by simp)⟩, fun u hu => absurd hu (by simp), List.Pairwise.nil, fun b hb => absurd hb (by simp), u⟩
theorem Pk.perm (h : Pk W M bd w now L us bs) (p : us.Perm us') : Pk W M bd w now L us' bs := by
  have q := Hid.out h
  obtain ⟨bm, h1, h2⟩ := q.wheel
  exact ⟨⟨bm, h1, fun u hu => h2 u (p.mem_iff.2 hu)⟩, fun u hu => q.rows u (p.mem_iff.2 hu), (p.pairwise_iff (fun {x y} hxy => hxy.symm)).1 q.apart, fun b hb => ⟨(q.boxes b hb).1, (q.boxes b hb).2.1, fun u hu => (q.boxes b hb).2.2 u (p.mem_iff.2 hu)⟩, q.up⟩
theorem Pk.sub (h : Pk W M bd w now L us bs) (s : us'.Sublist us) (t : bs'.Sublist bs) : Pk W M bd w now L us' bs' := by
  have q := Hid.out h
  obtain ⟨bm, h1, h2⟩ := q.wheel
  exact ⟨⟨bm, h1, fun u hu => h2 u (s.mem hu)⟩, fun u hu => q.rows u (s.mem hu), q.apart.sublist s, fun b hb => ⟨(q.boxes b (t.mem hb)).1, (q.boxes b (t.mem hb)).2.1, fun u hu => (q.boxes b (t.mem hb)).2.2 u (s.mem hu)⟩, q.up⟩
theorem Pk.more {M' : Nat} (h : Pk W M bd w now L us bs) (hM : M ≤ M') : Pk W M' bd w now L us bs := by
  have q := Hid.out h
  obtain ⟨bm, h1, h2⟩ := q.wheel
  exact ⟨⟨bm, h1.more hM, h2⟩, q.rows, q.apart, q.boxes, q.up⟩
theorem Pk.below {w' : World} (h : Pk W M bd w now L us bs) (b : Below w.heap.size w w') : Pk W M bd w' now L us bs := by
  have q := Hid.out h
  obtain ⟨bm, h1, h2⟩ := q.wheel
  exact ⟨⟨bm, h1.up b, h2⟩, fun u hu => ⟨Dk.owns_away (S := fun _ => False) (q.rows u hu).1 (Dk.Away.of_up b) (fun _ _ => id), (q.rows u hu).2⟩, q.apart, fun x hx => ⟨(q.boxes x hx).1.up b, (q.boxes x hx).2⟩, Dk.up_call q.up b⟩
/-- The clock, and what becomes of all when it alone is turned. -/
theorem Pk.wheel (h : Pk W M bd w now L us bs) : ∃ bm, WH W.heap.size M w bd bm now L ∧ Hid (∀ w' M' now' L', WH W.heap.size M' w' bd bm now' L' → Dk.Away (AtW bd bm) w w' → Pk W M' bd w' now' L' us bs) := by
  have q := Hid.out h
  obtain ⟨bm, h1, h2⟩ := q.wheel
  refine ⟨bm, h1, fun w' M' now' L' g a => ⟨⟨bm, g, h2⟩, fun u hu => ⟨Dk.owns_away (q.rows u hu).1 a (fun k hk hs => hs.elim (fun e => (q.rows u hu).2.1 (by rw [hk, e])) (fun e => h2 u hu (by rw [hk, e]))), (q.rows u hu).2⟩, q.apart,
    fun x hx => ⟨(q.boxes x hx).1.away a (fun hs => hs.elim (q.boxes x hx).2.1 (fun e => ?_)), (q.boxes x hx).2⟩, a.below q.up h1.at⟩⟩
  obtain ⟨D, n, _, ⟨es, clock, hb, _⟩, _⟩ := h1.map
  have := (q.boxes x hx).1.heap
  rw [e, hb] at this
  cases this
/-- One list is turned. -/
theorem Pk.turn {w' : World} {u u' : Row1} (h : Pk W M bd w now L (us1 ++ u :: us2) bs) (a : Dk.Away (fun k => u.1.ownBlock = some k) w w') (l : w'.ownsRow W.heap.size 3 1 u'.1 u'.2.length (Dk.is u'.2)) (f : Dk.From w u.1 u'.1) (hw : ∀ y ∈ u'.2, Dk.i64 y) : Pk W M bd w' now L (us1 ++ u' :: us2) bs := by
  refine Pk.perm (us := u' :: (us1 ++ us2)) ?_ List.perm_middle.symm
  have q := Hid.out (h.perm List.perm_middle)
  obtain ⟨bm, h1, h2⟩ := q.wheel
  have hu := h2 u (List.mem_cons_self ..)
  have hr := q.rows u (List.mem_cons_self ..)
  have hap := List.pairwise_cons.1 q.apart
  refine ⟨⟨bm, h1.away a hr.2.1 hu, fun x hx => ?_⟩, fun x hx => ?_, List.pairwise_cons.2 ⟨fun x hx => (hap.1 x hx).from f (q.rows x (List.mem_cons_of_mem _ hx)).1, hap.2⟩, fun b hb => ?_, a.below q.up (fun k hk => (hr.1.lt k hk).1)⟩
  · rcases List.mem_cons.1 hx with e | hx
    · rw [e]
      exact fun e => (f bm e).elim hu (fun h3 => absurd h1.map.lt (by omega))
    · exact h2 x (List.mem_cons_of_mem _ hx)
  · rcases List.mem_cons.1 hx with e | hx
    · rw [e]
      exact ⟨l, fun e => (f bd e).elim hr.2.1 (fun h3 => absurd h1.head.lt (by omega)), hw⟩
    · have := q.rows x (List.mem_cons_of_mem _ hx)
      exact ⟨Dk.owns_away this.1 a (fun k hk e => hap.1 x hx k e hk), this.2⟩
  · obtain ⟨b1, b2, b3⟩ := q.boxes b hb
    refine ⟨b1.away a (b3 u (List.mem_cons_self ..)), b2, fun x hx => ?_⟩
    rcases List.mem_cons.1 hx with e | hx
    · rw [e]
      exact fun e => (f _ e).elim (b3 u (List.mem_cons_self ..)) (fun h3 => absurd b1.lt (by omega))
    · exact b3 x (List.mem_cons_of_mem _ hx)
/-- A new list comes. -/
theorem Pk.add {w' : World} {u : Row1} (h : Pk W M bd w now L us bs) (b : Below w.heap.size w w') (l : w'.ownsRow w.heap.size 3 1 u.1 u.2.length (Dk.is u.2)) (hw : ∀ y ∈ u.2, Dk.i64 y) : Pk W M bd w' now L (u :: us) bs := by
  have q := Hid.out (h.below b)
  have q0 := Hid.out h
  obtain ⟨bm, h1, h2⟩ := q.wheel
  obtain ⟨bm0, g1, g2⟩ := q0.wheel
  have e0 : bm = bm0 := by
    have a1 := h1.head.heap
    have a2 := (g1.up b).head.heap
    rw [a1] at a2
    injection a2 with a3
    injection a3 with a4
    simp at a4
    exact a4
  subst e0
  have hn : ∀ k, k < w.heap.size → u.1.ownBlock ≠ some k := fun k hk e => absurd (l.lt k e).1 (by omega)
  refine ⟨⟨bm, h1, fun x hx => ?_⟩, fun x hx => ?_, List.pairwise_cons.2 ⟨fun x hx k hk e => absurd ((q0.rows x hx).1.lt k e).2 (by have := (l.lt k hk).1; omega), q.apart⟩, fun x hx => ⟨(q.boxes x hx).1, (q.boxes x hx).2.1, fun y hy => ?_⟩, q.up⟩
  · rcases List.mem_cons.1 hx with e | hx
    · rw [e]; exact hn _ g1.map.lt
    · exact h2 x hx
  · rcases List.mem_cons.1 hx with e | hx
    · rw [e]; exact ⟨Dk.owns_base l q0.up.size, hn _ g1.head.lt, hw⟩
    · exact q.rows x hx
  · rcases List.mem_cons.1 hy with e | hy
    · rw [e]; exact hn _ (q0.boxes x hx).1.lt
    · exact (q.boxes x hx).2.2 y hy
/-- A list that is typed out empty. -/
theorem Pk.empty {w' : World} (h : Pk W M bd w now L us bs) (e : w' = w.alloc (.cells #[] 3)) : Pk W M bd w' now L ((.slice (some ⟨w.heap.size, 0, none⟩) 0 0, []) :: us) bs := by
  subst e
  exact h.add (Dk.up_alloc (Below.refl _ _) _) (World.ownsRow_lit w #[] 0 (Nat.le_refl _) (Nat.zero_le _) rfl) (fun y hy => absurd hy (by simp))
/-- A box comes. -/
theorem Pk.box {w' : World} {cs : Array Value} {t : TypeId} (h : Pk W M bd w now L us bs) (b : Below w.heap.size w w') (l : Dk.Box w' w.heap.size cs t) : Pk W M bd w' now L us ((w.heap.size, cs, t) :: bs) := by
  have q := Hid.out (h.below b)
  have q0 := Hid.out h
  obtain ⟨bm0, g1, g2⟩ := q0.wheel
  refine ⟨q.wheel, q.rows, q.apart, fun x hx => ?_, q.up⟩
  rcases List.mem_cons.1 hx with e | hx
  · subst e
    exact ⟨l, fun e => absurd g1.head.lt (by simp at e; omega), fun u hu e => absurd ((q0.rows u hu).1.lt _ e).2 (by simp)⟩
  · exact q.boxes x hx
theorem Pk.boxed {b : Box1} (h : Pk W M bd w now L us bs) (hb : b ∈ bs) : Dk.Box w b.1 b.2.1 b.2.2 := ((Hid.out h).boxes b hb).1
theorem Pk.sli {u : Row1} (h : Pk W M bd w now L us bs) (hu : u ∈ us) : ∃ A C, u.1 = .slice A u.2.length C ∧ Dk.SlI w.heap.size w A u.2.length C u.2 := Dk.owns_ints ((Hid.out h).rows u hu).1 ((Hid.out h).rows u hu).2.2
theorem Pk.slice {A : Option Addr} {C : Nat} {xs : List Int} (h : Pk W M bd w now L us bs) (hu : (.slice A xs.length C, xs) ∈ us) : Dk.SlI w.heap.size w A xs.length C xs := by
  obtain ⟨A', C', e, s⟩ := h.sli hu
  obtain ⟨rfl, rfl⟩ : A = A' ∧ C = C' := by simpa using e
  exact s
/-- One number is appended. -/
theorem Pk.append {v : Value} {xs : List Int} (h : Pk W M bd w now L (us1 ++ (v, xs) :: us2) bs) (x : Int) (hx : Dk.i64 x) (hl : xs.length ≤ 1000) :
    ∃ A C w', (Builtin.append_ #[25, 25] 25 #[v, .slice (some ⟨w.heap.size, 0, none⟩) 1 1]).run Try.prog (w.alloc (.cells #[.int .i64 x] 3)) = .ok (.slice A (xs.length + 1) C) w' ∧ Pk W M bd w' now L (us1 ++ (.slice A (xs.length + 1) C, xs ++ [x]) :: us2) bs := by
  obtain ⟨V, eV⟩ : ∃ V, V = w.alloc (.cells #[.int .i64 x] 3) := ⟨_, rfl⟩
  have uV : Below w.heap.size w V := by rw [eV]; exact Dk.up_alloc (Below.refl _ _) _
  have hV := h.below uV
  have q := Hid.out hV
  have hr := q.rows (v, xs) (by simp)
  obtain ⟨v', w', hrun, ho, hg, hf, _⟩ := append_from W.heap.size 25 v (Dk.is xs) xs.length V hr.1 ⟨w.heap.size, 0, none⟩ 1 1 [.int .i64 x] rfl (one_new w V _ 3 eV) (fun u hu => by simp at hu; subst hu; rfl) (by omega) q.up.size
  obtain ⟨A, C, rfl, _, _⟩ := Dk.owns_slice ho
  rw [← eV]
  refine ⟨A, C, w', hrun, hV.turn (Dk.Away.of_grown hg (fun k hk => .inl hk)) (by simpa [Dk.is] using ho) hf (fun y hy => ?_)⟩
  rcases List.mem_append.1 hy with hy | hy
  · exact hr.2.2 y hy
  · rw [List.mem_singleton] at hy
    rw [hy]
    exact hx
/-- A moment goes by. -/
theorem Tick_pk (h : Pk W M bd w now L us bs) (hM : M ≤ 10000) : Calls Try.prog 8 #[.pointer (some ⟨bd, 0, none⟩)] w fun e w' => ∃ A C ys, e = .returned (.slice A ys.length C) ∧
    Pk W M bd w' (min (now + 1) 1099511627776) (Dk.leftOf (min (now + 1) 1099511627776) L) ((.slice A ys.length C, ys) :: us) bs ∧ Hid (Dk.Rising ys ∧ ys.Perm (Dk.dueOf (min (now + 1) 1099511627776) L)) := by
  obtain ⟨bm, hw, next⟩ := h.wheel
  refine (Tick_any hw hM).mono ?_
  rintro e w' ⟨v, ys, rfl, ho, hr, hp, hw', ha⟩
  obtain ⟨A, C, rfl, _, _⟩ := Dk.owns_slice ho
  refine ⟨A, C, ys, rfl, ?_, ⟨hr, hp⟩⟩
  have n1 := next.out w' _ _ _ hw' ha
  have q := Hid.out n1
  have q0 := Hid.out h
  obtain ⟨bm', g1, g2⟩ := q.wheel
  have hn : ∀ k, k < w.heap.size → Value.ownBlock (.slice A ys.length C) ≠ some k := fun k hk e => absurd (ho.lt k e).1 (by omega)
  have e0 : bm' = bm := by
    have a1 := g1.head.heap
    have a2 := hw'.head.heap
    rw [a1] at a2
    injection a2 with a3
    injection a3 with a4
    simp at a4
    exact a4
  subst e0
  refine ⟨⟨bm', g1, fun x hx => ?_⟩, fun x hx => ?_, List.pairwise_cons.2 ⟨fun x hx k hk e => absurd ((q0.rows x hx).1.lt k e).2 (by have := (ho.lt k hk).1; omega), q.apart⟩, fun x hx => ⟨(q.boxes x hx).1, (q.boxes x hx).2.1, fun y hy => ?_⟩, q.up⟩
  · rcases List.mem_cons.1 hx with e | hx
    · rw [e]; exact hn _ hw.map.lt
    · exact g2 x hx
  · rcases List.mem_cons.1 hx with e | hx
    · rw [e]
      exact ⟨Dk.owns_base ho q0.up.size, hn _ hw.head.lt, fun y hy => by
        obtain ⟨c, hc⟩ := Dk.keys_mem.1 (hp.mem_iff.1 hy)
        exact (hw.wf _ (List.mem_filter.1 hc).1).1⟩
    · exact q.rows x hx
  · rcases List.mem_cons.1 hy with e | hy
    · rw [e]; exact hn _ (q0.boxes x hx).1.lt
    · exact (q.boxes x hx).2.2 y hy
theorem Now_pk (h : Pk W M bd w now L us bs) : Calls Try.prog 9 #[.pointer (some ⟨bd, 0, none⟩)] w fun e w' => e = .returned (.int .i64 now) ∧ w' = w := by
  obtain ⟨bm, hw, _⟩ := h.wheel
  exact Now_any hw
theorem Sleep_pk (h : Pk W M bd w now L us bs) {x n : Int} (hi : Dk.i64 x) (h1 : 1 ≤ n) (h2 : n ≤ 1099511627776) (hx : x ∉ Dk.keysOf L) (hM : M < 100000) : Calls Try.prog 11 #[.pointer (some ⟨bd, 0, none⟩), .int .i64 x, .int .i64 n] w fun e w' => e = .returned (.int .i64 0) ∧ Pk W (M + 1) bd w' now (L ++ [(x, min (now + n) 1099511627776)]) us bs := by
  obtain ⟨bm, hw, next⟩ := h.wheel
  exact (Sleep_ok hw hi h1 h2 hx hM).mono fun e w' g => ⟨g.1, next.out _ _ _ _ g.2.1 g.2.2⟩
theorem Sleep_pk_busy (h : Pk W M bd w now L us bs) {x n : Int} (hi : Dk.i64 x) (h1 : 1 ≤ n) (h2 : n ≤ 1099511627776) (hx : x ∈ Dk.keysOf L) : Calls Try.prog 11 #[.pointer (some ⟨bd, 0, none⟩), .int .i64 x, .int .i64 n] w fun e w' => e = .returned (.int .i64 4) ∧ w' = w := by
  obtain ⟨bm, hw, _⟩ := h.wheel
  exact Sleep_busy hw hi h1 h2 hx
theorem Waiting_pk (h : Pk W M bd w now L us bs) {x c : Int} (hi : Dk.i64 x) (hx : (x, c) ∈ L) : Calls Try.prog 12 #[.pointer (some ⟨bd, 0, none⟩), .int .i64 x] w fun e w' => e = .returned (.tuple #[.int .i64 c, .bool true]) ∧ w' = w := by
  obtain ⟨bm, hw, _⟩ := h.wheel
  exact Waiting_yes hw hi hx
theorem Waiting_pk_no (h : Pk W M bd w now L us bs) {x : Int} (hi : Dk.i64 x) (hx : x ∉ Dk.keysOf L) : Calls Try.prog 12 #[.pointer (some ⟨bd, 0, none⟩), .int .i64 x] w fun e w' => e = .returned (.tuple #[.int .i64 0, .bool false]) ∧ w' = w := by
  obtain ⟨bm, hw, _⟩ := h.wheel
  exact Waiting_no hw hi hx
/-- Bounds. -/
theorem Pk.clock (h : Pk W M bd w now L us bs) : 0 ≤ now ∧ now ≤ 1099511627776 := by
  obtain ⟨bm, hw, _⟩ := h.wheel
  exact ⟨hw.lo, hw.hi⟩
theorem Pk.nodup (h : Pk W M bd w now L us bs) : (Dk.keysOf L).Nodup := by
  obtain ⟨bm, hw, _⟩ := h.wheel
  obtain ⟨D, n, _, _, ht⟩ := hw.map
  exact ht.nodup
theorem Pk.wf (h : Pk W M bd w now L us bs) : ∀ p ∈ L, Dk.i64 p.1 ∧ Dk.i64 p.2 := by
  obtain ⟨bm, hw, _⟩ := h.wheel
  exact hw.wf
end

end Go.Proofs.Ytiaegeaogleepaa
