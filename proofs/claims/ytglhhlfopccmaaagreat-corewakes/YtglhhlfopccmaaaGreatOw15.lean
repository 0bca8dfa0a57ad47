import Derived.Test.YtglhhlfopccmaaaGreatOw14
import Derived.Maps.Views
set_option linter.unusedSimpArgs false
set_option linter.unusedVariables false
set_option linter.unnecessarySimpa false
set_option maxHeartbeats 8000000
set_option maxRecDepth 100000
namespace Dk
open Go
def keysOf (L:List (Int × Int)):List Int:=L.map Prod.fst
def dueOf (now:Int) (L:List (Int × Int)):List Int:=keysOf (L.filter fun p=>decide (p.2≤now))
def leftOf (now:Int) (L:List (Int × Int)):List (Int × Int):=L.filter fun p=>decide (now < p.2)
def Rising (xs:List Int):Prop:=xs.Pairwise (·≤·)
theorem zbw {L:List (Int × Int)} {x:Int}:x ∈ keysOf L ↔ ∃ c,(x,c) ∈ L:=by
 unfold keysOf
 rw [List.mem_map]
 constructor
 ·rintro ⟨⟨a,c⟩,h,rfl⟩;exact ⟨c,h⟩
 ·rintro ⟨c,h⟩;exact ⟨(x,c),h,rfl⟩
theorem zee {L:List (Int × Int)} (h:(keysOf L).Nodup) {x c d:Int} (h1:(x,c) ∈ L) (h2:(x,d) ∈ L):c=d:=by
 induction L with
 | nil=>cases h1
 | cons p r ih=>
  have hn:p.1 ∉ keysOf r∧(keysOf r).Nodup:=List.nodup_cons.1 h
  rcases List.mem_cons.1 h1 with e1 | e1 <;> rcases List.mem_cons.1 h2 with e2 | e2
  ·exact congrArg Prod.snd (e1.trans e2.symm)
  ·exact absurd (zbw.2 ⟨d,e2⟩) (by rw [← e1] at hn;exact hn.1)
  ·exact absurd (zbw.2 ⟨c,e1⟩) (by rw [← e2] at hn;exact hn.1)
  ·exact ih hn.2 e1 e2
theorem ze2 {L:List (Int × Int)} (h:(keysOf L).Nodup) (f:Int × Int→Bool):(keysOf (L.filter f)).Nodup:=(List.filter_sublist.map Prod.fst).nodup h
theorem zpr {xs ys:List Int} (h:xs.Perm ys) (hx:Rising xs) (hy:Rising ys):xs=ys:=h.eq_of_pairwise (fun a b _ _ h1 h2=>Int.le_antisymm h1 h2) hx hy
theorem zfd (xs:List Int):Rising (xs.mergeSort fun x y=>decide (x≤y)):=by
 have:=List.pairwise_mergeSort (le:=fun x y:Int=>decide (x≤y)) (fun a b c h1 h2=>by simp at *;omega) (fun a b=>by simp;omega) xs
 exact this.imp (fun h=>by simpa using h)
structure Tells (D:DataW Unit) (L:List (Int × Int)):Prop where
 nodup:(keysOf L).Nodup
 yes:∀ p ∈ L,∀ z,D.atKey (.int .i64 p.1) z=.lit (.int .i64 p.2)
 no:∀ x,x ∉ keysOf L→Maps.has D (.int .i64 x)=false
 map:Maps.IsMap D
theorem Tells.has {D:DataW Unit} {L:List (Int × Int)} (h:Tells D L) {x c:Int} (hx:(x,c) ∈ L):Maps.has D (.int .i64 x)=true:=Maps.has_true_of_atKey (h.yes (x,c) hx)
theorem Tells.of_at {D:DataW Unit} {L:List (Int × Int)} (h:Tells D L) {x c:Int} (hat:∀ z,D.atKey (.int .i64 x) z=.lit (.int .i64 c)):(x,c) ∈ L:=by
 have hh:Maps.has D (.int .i64 x)=true:=Maps.has_true_of_atKey hat
 by_cases hm:x ∈ keysOf L
 ·obtain ⟨d,hd⟩:=zbw.1 hm
  have:=h.yes _ hd .nil
  rw [hat] at this
  simp at this
  rw [this]
  exact hd
 ·rw [h.no x hm] at hh
  cases hh
theorem Tells.empty:Tells (.map []) []:=⟨List.nodup_nil,fun p hp=>absurd hp (by simp),fun x _=>rfl,Maps.isMap_empty⟩
theorem zin {x y:Int} (h:x≠y):Lit.int .i64 x≠Lit.int .i64 y:=fun e=>h (by injection e)
theorem Tells.put {D:DataW Unit} {L:List (Int × Int)} (h:Tells D L) {x c:Int} (hx:x ∉ keysOf L):Tells (D.put (.int .i64 x) (.lit (.int .i64 c))) (L++[(x,c)]):=by
 have hk:keysOf (L++[(x,c)])=keysOf L++[x]:=by unfold keysOf;rw [List.map_append];rfl
 refine ⟨?_,fun p hp z=>?_,fun y hy=>?_,h.map.put _ _⟩
 ·rw [hk]
  exact List.nodup_append.2 ⟨h.nodup,by simp,fun a ha b hb=>by simp at hb;subst hb;exact fun e=>hx (e ▸ ha)⟩
 ·rcases List.mem_append.1 hp with hp | hp
  ·have hne:p.1≠x:=fun e=>hx (by rw [← e];exact zbw.2 ⟨p.2,hp⟩)
   rw [Maps.atKey_put_other (zin hne)]
   exact h.yes p hp z
  ·rw [List.mem_singleton] at hp
   subst hp
   exact Maps.atKey_put_same h.map (k:=.int .i64 x) trivial _ _
 ·rw [hk] at hy
  have h1:y ∉ keysOf L:=fun e=>hy (List.mem_append.2 (.inl e))
  have h2:y≠x:=fun e=>hy (List.mem_append.2 (.inr (by simp [e])))
  rw [Maps.has_put_other (zin h2)]
  exact h.no y h1
theorem Tells.del {D:DataW Unit} {L:List (Int × Int)} (h:Tells D L) (x:Int):Tells (D.del (.int .i64 x)) (L.filter fun p=>p.1 != x):=by
 refine ⟨ze2 h.nodup _,fun p hp z=>?_,fun y hy=>?_,h.map.del _⟩
 ·obtain ⟨h1,h2⟩:=List.mem_filter.1 hp
  rw [Maps.atKey_del_other (zin (by simpa using h2))]
  exact h.yes p h1 z
 ·by_cases e:y=x
  ·rw [e]
   exact Maps.has_del_same
  ·rw [Maps.has_del_other (zin e)]
   refine h.no y fun hm=>hy ?_
   obtain ⟨c,hc⟩:=zbw.1 hm
   exact zbw.2 ⟨c,List.mem_filter.2 ⟨hc,by simpa using e⟩⟩
def stays (now:Int) (left:Lit→Bool) (p:Int × Int):Bool:=left (.int .i64 p.1) || decide (now < p.2)
def Taken (now:Int) (L:List (Int × Int)) (left:Lit→Bool) (ss:List Int):Prop:=ss.Nodup∧∀ x,x ∈ ss ↔ ∃ c,(x,c) ∈ L∧c≤now∧left (.int .i64 x)=false
theorem Taken.start {D:DataW Unit} {L:List (Int × Int)} (h:Tells D L) (now:Int):Taken now L (Maps.has D) []:=⟨List.nodup_nil,fun x=>by
 constructor
 ·intro hx;cases hx
 ·rintro ⟨c,hc,_,hl⟩
  rw [h.has hc] at hl
  cases hl⟩
theorem zj7 {D:DataW Unit} {L:List (Int × Int)} (h:Tells D L) (now:Int):L.filter (stays now (Maps.has D))=L:=List.filter_eq_self.2 fun p hp=>by
 unfold stays
 rw [h.has (x:=p.1) (c:=p.2) hp]
 rfl
section
variable {now : Int} {L : List (Int × Int)} {left : Lit → Bool} {ss : List Int} {x c : Int}
def struck (left:Lit→Bool) (x:Int):Lit→Bool:=fun z=>left z && !z.sameKey (.int .i64 x)
theorem zfi:struck left x (.int .i64 x)=false:=by simp [struck,Lit.sameKey]
theorem zb0 {y:Int} (h:y≠x):struck left x (.int .i64 y)=left (.int .i64 y):=by
 unfold struck
 rw [Maps.sameKey_ne (zin h)]
 simp
theorem Taken.step (h:Taken now L left ss) (hn:(keysOf L).Nodup) (hl:left (.int .i64 x)=true) (hx:(x,c) ∈ L) (hc:c≤now):Taken now L (struck left x) (ss++[x]):=by
 have hnew:x ∉ ss:=fun hm=>by
  obtain ⟨d,_,_,h3⟩:=(h.2 x).1 hm
  rw [hl] at h3
  cases h3
 refine ⟨List.nodup_append.2 ⟨h.1,by simp,fun a ha b hb=>by simp at hb;subst hb;exact fun e=>hnew (e ▸ ha)⟩,fun y=>?_⟩
 by_cases hy:y=x
 ·subst hy
  constructor
  ·intro _;exact ⟨c,hx,hc,zfi⟩
  ·intro _;simp
 ·rw [List.mem_append,h.2 y,zb0 hy]
  simp [hy]
theorem Taken.pass (h:Taken now L left ss) (hn:(keysOf L).Nodup) (hx:(x,c) ∈ L) (hc:now < c):Taken now L (struck left x) ss:=by
 refine ⟨h.1,fun y=>?_⟩
 rw [h.2 y]
 by_cases hy:y=x
 ·subst hy
  constructor
  ·rintro ⟨d,h1,h2,_⟩
   have:=zee hn hx h1
   omega
  ·rintro ⟨d,h1,h2,_⟩
   have:=zee hn hx h1
   omega
 ·rw [zb0 hy]
theorem zmu (hn:(keysOf L).Nodup) (hx:(x,c) ∈ L) (hc:c≤now):(L.filter (stays now left)).filter (fun p=>p.1 != x)=L.filter (stays now (struck left x)):=by
 rw [List.filter_filter]
 refine List.filter_congr fun p hp=>?_
 unfold stays
 by_cases e:p.1=x
 ·have hp':(x,p.2) ∈ L:=by rw [← e];exact hp
  have:=zee hn hx hp'
  rw [e,zfi]
  simp
  omega
 ·rw [zb0 e]
  simp [e]
theorem zmt (hn:(keysOf L).Nodup) (hx:(x,c) ∈ L) (hc:now < c):L.filter (stays now left)=L.filter (stays now (struck left x)):=by
 refine List.filter_congr fun p hp=>?_
 unfold stays
 by_cases e:p.1=x
 ·have hp':(x,p.2) ∈ L:=by rw [← e];exact hp
  have:=zee hn hx hp'
  have hd:decide (now < p.2)=true:=by simp;omega
  rw [hd]
  simp
 ·rw [zb0 e]
theorem zp3 (hl:∀ kl,left kl=false):L.filter (stays now left)=leftOf now L:=by
 unfold leftOf
 refine List.filter_congr fun p hp=>?_
 unfold stays
 rw [hl]
 simp
theorem Taken.perm (h:Taken now L left ss) (hn:(keysOf L).Nodup) (hl:∀ kl,left kl=false):ss.Perm (dueOf now L):=by
 refine (List.perm_ext_iff_of_nodup h.1 (ze2 hn _)).2 fun x=>?_
 rw [h.2 x,zbw]
 constructor
 ·rintro ⟨c,h1,h2,_⟩
  exact ⟨c,List.mem_filter.2 ⟨h1,by simpa using h2⟩⟩
 ·rintro ⟨c,h1⟩
  obtain ⟨h1,h2⟩:=List.mem_filter.1 h1
  exact ⟨c,h1,by simpa using h2,hl _⟩
end
end Dk
