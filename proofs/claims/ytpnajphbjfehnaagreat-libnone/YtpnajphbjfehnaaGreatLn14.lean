import Derived.Test.YtpnajphbjfehnaaGreatLn13
import Derived.Maps.Views
set_option linter.unusedSimpArgs false
set_option linter.unusedVariables false
set_option linter.unnecessarySimpa false
set_option maxHeartbeats 8000000
set_option maxRecDepth 100000
namespace Dk
open Go
def keysOf (L:List (Int × Int)):List Int:=L.map Prod.fst
def dueOf (now:Int) (L:List (Int × Int)):List Int:=keysOf (L.filter fun p=>decide (p.2≤now))
theorem zcp {L:List (Int × Int)} {x:Int}:x ∈ keysOf L ↔ ∃ c,(x,c) ∈ L:=by
 unfold keysOf
 rw [List.mem_map]
 constructor
 ·rintro ⟨⟨a,c⟩,h,rfl⟩;exact ⟨c,h⟩
 ·rintro ⟨c,h⟩;exact ⟨(x,c),h,rfl⟩
theorem zgx {L:List (Int × Int)} (h:(keysOf L).Nodup) {x c d:Int} (h1:(x,c) ∈ L) (h2:(x,d) ∈ L):c=d:=by
 induction L with
 | nil=>cases h1
 | cons p r ih=>
  have hn:p.1 ∉ keysOf r∧(keysOf r).Nodup:=List.nodup_cons.1 h
  rcases List.mem_cons.1 h1 with e1 | e1 <;> rcases List.mem_cons.1 h2 with e2 | e2
  ·exact congrArg Prod.snd (e1.trans e2.symm)
  ·exact absurd (zcp.2 ⟨d,e2⟩) (by rw [← e1] at hn;exact hn.1)
  ·exact absurd (zcp.2 ⟨c,e1⟩) (by rw [← e2] at hn;exact hn.1)
  ·exact ih hn.2 e1 e2
theorem zf5 {L:List (Int × Int)} (h:(keysOf L).Nodup) (f:Int × Int→Bool):(keysOf (L.filter f)).Nodup:=(List.filter_sublist.map Prod.fst).nodup h
structure Tells (D:DataW Unit) (L:List (Int × Int)):Prop where
 nodup:(keysOf L).Nodup
 yes:∀ p ∈ L,∀ z,D.atKey (.int .i64 p.1) z=.lit (.int .i64 p.2)
 no:∀ x,x ∉ keysOf L→Maps.has D (.int .i64 x)=false
 map:Maps.IsMap D
theorem Tells.empty:Tells (.map []) []:=⟨List.nodup_nil,fun p hp=>absurd hp (by simp),fun x _=>rfl,Maps.isMap_empty⟩
theorem zjw {x y:Int} (h:x≠y):Lit.int .i64 x≠Lit.int .i64 y:=fun e=>h (by injection e)
theorem Tells.put {D:DataW Unit} {L:List (Int × Int)} (h:Tells D L) {x c:Int} (hx:x ∉ keysOf L):Tells (D.put (.int .i64 x) (.lit (.int .i64 c))) (L++[(x,c)]):=by
 have hk:keysOf (L++[(x,c)])=keysOf L++[x]:=by unfold keysOf;rw [List.map_append];rfl
 refine ⟨?_,fun p hp z=>?_,fun y hy=>?_,h.map.put _ _⟩
 ·rw [hk]
  exact List.nodup_append.2 ⟨h.nodup,by simp,fun a ha b hb=>by simp at hb;subst hb;exact fun e=>hx (e ▸ ha)⟩
 ·rcases List.mem_append.1 hp with hp | hp
  ·have hne:p.1≠x:=fun e=>hx (by rw [← e];exact zcp.2 ⟨p.2,hp⟩)
   rw [Maps.atKey_put_other (zjw hne)]
   exact h.yes p hp z
  ·rw [List.mem_singleton] at hp
   subst hp
   exact Maps.atKey_put_same h.map (k:=.int .i64 x) trivial _ _
 ·rw [hk] at hy
  have h1:y ∉ keysOf L:=fun e=>hy (List.mem_append.2 (.inl e))
  have h2:y≠x:=fun e=>hy (List.mem_append.2 (.inr (by simp [e])))
  rw [Maps.has_put_other (zjw h2)]
  exact h.no y h1
def Taken (now:Int) (L:List (Int × Int)) (left:Lit→Bool) (ss:List Int):Prop:=ss.Nodup∧∀ x,x ∈ ss ↔ ∃ c,(x,c) ∈ L∧c≤now∧left (.int .i64 x)=false
section
variable {now : Int} {L : List (Int × Int)} {left : Lit → Bool} {ss : List Int} {x c : Int}
def struck (left:Lit→Bool) (x:Int):Lit→Bool:=fun z=>left z && !z.sameKey (.int .i64 x)
theorem zfc {y:Int} (h:y≠x):struck left x (.int .i64 y)=left (.int .i64 y):=by
 unfold struck
 rw [Maps.sameKey_ne (zjw h)]
 simp
theorem Taken.pass (h:Taken now L left ss) (hn:(keysOf L).Nodup) (hx:(x,c) ∈ L) (hc:now < c):Taken now L (struck left x) ss:=by
 refine ⟨h.1,fun y=>?_⟩
 rw [h.2 y]
 by_cases hy:y=x
 ·subst hy
  constructor
  ·rintro ⟨d,h1,h2,_⟩
   have:=zgx hn hx h1
   omega
  ·rintro ⟨d,h1,h2,_⟩
   have:=zgx hn hx h1
   omega
 ·rw [zfc hy]
theorem Taken.perm (h:Taken now L left ss) (hn:(keysOf L).Nodup) (hl:∀ kl,left kl=false):ss.Perm (dueOf now L):=by
 refine (List.perm_ext_iff_of_nodup h.1 (zf5 hn _)).2 fun x=>?_
 rw [h.2 x,zcp]
 constructor
 ·rintro ⟨c,h1,h2,_⟩
  exact ⟨c,List.mem_filter.2 ⟨h1,by simpa using h2⟩⟩
 ·rintro ⟨c,h1⟩
  obtain ⟨h1,h2⟩:=List.mem_filter.1 h1
  exact ⟨c,h1,by simpa using h2,hl _⟩
end
end Dk
