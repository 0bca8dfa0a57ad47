import Derived.Test.YtglhhlfopccmaaaGreatNa14
import Derived.Maps.Views
set_option linter.unusedSimpArgs false
set_option linter.unusedVariables false
set_option linter.unnecessarySimpa false
set_option maxHeartbeats 8000000
set_option maxRecDepth 100000
namespace Dk
open Go
def keysOf (L : List (Int × Int)) : List Int := L.map Prod.fst
theorem keys_mem {L : List (Int × Int)} {x : Int} : x ∈ keysOf L ↔ ∃ c, (x, c) ∈ L := by
 unfold keysOf
 rw [List.mem_map]
 constructor
 ·rintro ⟨⟨a, c⟩, h, rfl⟩; exact ⟨c, h⟩
 ·rintro ⟨c, h⟩; exact ⟨(x, c), h, rfl⟩
theorem keys_filter {L : List (Int × Int)} (h : (keysOf L).Nodup) (f : Int × Int → Bool) : (keysOf (L.filter f)).Nodup := (List.filter_sublist.map Prod.fst).nodup h
structure Tells (D : DataW Unit) (L : List (Int × Int)) : Prop where
 nodup : (keysOf L).Nodup
 yes : ∀ p ∈ L, ∀ z, D.atKey (.int .i64 p.1) z = .lit (.int .i64 p.2)
 no : ∀ x, x ∉ keysOf L → Maps.has D (.int .i64 x) = false
 map : Maps.IsMap D
theorem Tells.has {D : DataW Unit} {L : List (Int × Int)} (h : Tells D L) {x c : Int} (hx : (x, c) ∈ L) : Maps.has D (.int .i64 x) = true := Maps.has_true_of_atKey (h.yes (x, c) hx)
theorem Tells.empty : Tells (.map []) [] := ⟨List.nodup_nil, fun p hp => absurd hp (by simp), fun x _ => rfl, Maps.isMap_empty⟩
theorem lit_ne {x y : Int} (h : x ≠ y) : Lit.int .i64 x ≠ Lit.int .i64 y := fun e => h (by injection e)
theorem Tells.put {D : DataW Unit} {L : List (Int × Int)} (h : Tells D L) {x c : Int} (hx : x ∉ keysOf L) : Tells (D.put (.int .i64 x) (.lit (.int .i64 c))) (L ++ [(x, c)]) := by
 have hk : keysOf (L ++ [(x, c)]) = keysOf L ++ [x] := by unfold keysOf; rw [List.map_append]; rfl
 refine ⟨?_, fun p hp z => ?_, fun y hy => ?_, h.map.put _ _⟩
 ·rw [hk]
  exact List.nodup_append.2 ⟨h.nodup, by simp, fun a ha b hb => by simp at hb; subst hb; exact fun e => hx (e ▸ ha)⟩
 ·rcases List.mem_append.1 hp with hp | hp
  ·have hne : p.1 ≠ x := fun e => hx (by rw [← e]; exact keys_mem.2 ⟨p.2, hp⟩)
   rw [Maps.atKey_put_other (lit_ne hne)]
   exact h.yes p hp z
  ·rw [List.mem_singleton] at hp
   subst hp
   exact Maps.atKey_put_same h.map (k := .int .i64 x) trivial _ _
 ·rw [hk] at hy
  have h1 : y ∉ keysOf L := fun e => hy (List.mem_append.2 (.inl e))
  have h2 : y ≠ x := fun e => hy (List.mem_append.2 (.inr (by simp [e])))
  rw [Maps.has_put_other (lit_ne h2)]
  exact h.no y h1
theorem Tells.del {D : DataW Unit} {L : List (Int × Int)} (h : Tells D L) (x : Int) : Tells (D.del (.int .i64 x)) (L.filter fun p => p.1 != x) := by
 refine ⟨keys_filter h.nodup _, fun p hp z => ?_, fun y hy => ?_, h.map.del _⟩
 ·obtain ⟨h1, h2⟩ := List.mem_filter.1 hp
  rw [Maps.atKey_del_other (lit_ne (by simpa using h2))]
  exact h.yes p h1 z
 ·by_cases e : y = x
  ·rw [e]
   exact Maps.has_del_same
  ·rw [Maps.has_del_other (lit_ne e)]
   refine h.no y fun hm => hy ?_
   obtain ⟨c, hc⟩ := keys_mem.1 hm
   exact keys_mem.2 ⟨c, List.mem_filter.2 ⟨hc, by simpa using e⟩⟩
end Dk
