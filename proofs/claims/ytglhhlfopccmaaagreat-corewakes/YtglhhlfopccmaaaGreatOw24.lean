import Derived.Test.YtglhhlfopccmaaaGreatOw23
set_option linter.unusedSimpArgs false
set_option linter.unusedVariables false
set_option linter.unnecessarySimpa false
set_option maxHeartbeats 8000000
set_option maxRecDepth 100000
namespace Go.Proofs.YtglhhlfopccmaaaGreat
open Go.RowKit Go.Lib
section
variable {S : Dk.St} {k i : Nat} {ms : List Mx} {cs : List Cx} {ss : List Sx} {m : Mx} {c : Cx} {s : Sx}
theorem getM (h:ms[i]? = some m):(ms.flatMap Mx.cells)[i*3]? = some m.u∧(ms.flatMap Mx.cells)[i*3+1]? = some (.int .i64 m.owner)∧(ms.flatMap Mx.cells)[i*3+2]? = some (.bool m.owned):=
 ⟨Dk.flat_get Mx.len ms i 0 m h (by omega),Dk.flat_get Mx.len ms i 1 m h (by omega),Dk.flat_get Mx.len ms i 2 m h (by omega)⟩
theorem getC (h:cs[i]? = some c):(cs.flatMap Cx.cells)[i*2]? = some c.u∧(cs.flatMap Cx.cells)[i*2+1]? = some (.map (some c.bm)):=
 ⟨Dk.flat_get Cx.len cs i 0 c h (by omega),Dk.flat_get Cx.len cs i 1 c h (by omega)⟩
theorem getS (h:ss[i]? = some s):(ss.flatMap Sx.cells)[i*2]? = some s.u∧(ss.flatMap Sx.cells)[i*2+1]? = some (.int .i64 s.count):=
 ⟨Dk.flat_get Sx.len ss i 0 s h (by omega),Dk.flat_get Sx.len ss i 1 s h (by omega)⟩
theorem setM0 (h:ms[i]? = some m) (u:Value) (xs:List Int):(ms.flatMap Mx.cells).set (i*3) u=(ms.set i ⟨u,xs,m.owner,m.owned⟩).flatMap Mx.cells:=Dk.zbv Mx.len ms i 0 m _ u h (by omega) rfl
theorem setM12 (h:ms[i]? = some m) (ow:Int) (od:Bool):((ms.flatMap Mx.cells).set (i*3+1) (.int .i64 ow)).set (i*3+2) (.bool od)=(ms.set i ⟨m.u,m.xs,ow,od⟩).flatMap Mx.cells:=by
 rw [Dk.zbv Mx.len ms i 1 m ⟨m.u,m.xs,ow,m.owned⟩ _ h (by omega) rfl,Dk.zbv Mx.len _ i 2 ⟨m.u,m.xs,ow,m.owned⟩ ⟨m.u,m.xs,ow,od⟩ _ (List.getElem?_set_self (Dk.zv h)) (by omega) rfl,List.set_set]
theorem setM012 (h:ms[i]? = some m) (u:Value) (xs:List Int) (ow:Int) (od:Bool):(((ms.flatMap Mx.cells).set (i*3) u).set (i*3+1) (.int .i64 ow)).set (i*3+2) (.bool od)=(ms.set i ⟨u,xs,ow,od⟩).flatMap Mx.cells:=by
 rw [setM0 h u xs,setM12 (m:=⟨u,xs,m.owner,m.owned⟩) (List.getElem?_set_self (Dk.zv h)),List.set_set]
theorem setC0 (h:cs[i]? = some c) (u:Value) (xs:List (Int × Int)):(cs.flatMap Cx.cells).set (i*2) u=(cs.set i ⟨u,xs,c.bm⟩).flatMap Cx.cells:=Dk.zbv Cx.len cs i 0 c _ u h (by omega) rfl
theorem setS0 (h:ss[i]? = some s) (u:Value) (xs:List Int):(ss.flatMap Sx.cells).set (i*2) u=(ss.set i ⟨u,xs,s.count⟩).flatMap Sx.cells:=Dk.zbv Sx.len ss i 0 s _ u h (by omega) rfl
theorem setS1 (h:ss[i]? = some s) (y:Int):(ss.flatMap Sx.cells).set (i*2+1) (.int .i64 y)=(ss.set i ⟨s.u,s.xs,y⟩).flatMap Sx.cells:=Dk.zbv Sx.len ss i 1 s _ _ h (by omega) rfl
theorem Like.atM (l:Like S ms cs ss) (hi:i < S.owner.length):∃ m,ms[i]? = some m∧S.wait.getD i []=m.xs∧S.held.getD i false=m.owned∧(m.owned=true→m.owner=S.owner.getD i 0)∧(m.owned=false→m.owner=0):=by
 obtain ⟨m,hm⟩:=Dk.zcx (l:=ms) (i:=i) (by rw [l.len];exact hi)
 have ho:=l.own i m hm
 exact ⟨m,hm,Dk.getD_some (by rw [← l.wait,List.getElem?_map,hm];rfl) _,Dk.getD_some (by rw [← l.held,List.getElem?_map,hm];rfl) _,fun h=>by rw [ho,if_pos h],fun h=>by rw [ho,if_neg (by rw [h];simp)]⟩
theorem Like.atC (l:Like S ms cs ss) (hi:i < S.conds.length):∃ c,cs[i]? = some c∧S.conds.getD i []=c.xs:=by
 obtain ⟨m,hm⟩:=Dk.zcx (l:=cs) (i:=i) (by rw [← List.length_map (f:=Cx.xs),l.conds];exact hi)
 exact ⟨m,hm,Dk.getD_some (by rw [← l.conds,List.getElem?_map,hm];rfl) _⟩
theorem Like.atS (l:Like S ms cs ss) (hi:i < S.count.length):∃ s,ss[i]? = some s∧S.downs.getD i []=s.xs∧S.count.getD i 0=s.count:=by
 obtain ⟨m,hm⟩:=Dk.zcx (l:=ss) (i:=i) (by rw [← List.length_map (f:=Sx.count),l.count];exact hi)
 exact ⟨m,hm,Dk.getD_some (by rw [← l.downs,List.getElem?_map,hm];rfl) _,Dk.getD_some (by rw [← l.count,List.getElem?_map,hm];rfl) _⟩
theorem Like.lenC (l:Like S ms cs ss):cs.length=S.conds.length:=by rw [← l.conds,List.length_map]
theorem Like.lenS (l:Like S ms cs ss):ss.length=S.count.length:=by rw [← l.count,List.length_map]
theorem own_set {ow:List Int} (hlen:ms.length=ow.length) (h:∀ (j:Nat) m,ms[j]? = some m→m.owner=if m.owned then ow.getD j 0 else 0) (hm:ms[i]? = some m) (m':Mx) (x:Int) (hx:m'.owner=if m'.owned then x else 0):∀ (j:Nat) n,(ms.set i m')[j]? = some n→n.owner=if n.owned then (ow.set i x).getD j 0 else 0:=fun j n hn=>by
 by_cases e:i=j
 ·subst e
  rw [List.getElem?_set_self (Dk.zv hm)] at hn
  cases hn
  rw [Dk.zb8 (by rw [← hlen];exact Dk.zv hm)]
  exact hx
 ·rw [List.getElem?_set_ne e] at hn
  rw [Dk.getD_set_ne e]
  exact h j n hn
theorem zlb {ow:List Int} (i:Nat) (h:i < ow.length):ow.set i (ow.getD i 0)=ow:=Dk.set_self ow i _ (by rw [List.getElem?_eq_getElem h];simp [List.getD,h])
theorem Like.addWait (l:Like S ms cs ss) (ok:Dk.Ok S k) (hm:ms[i]? = some m) (ho:m.owned=true) (who:Int) (hw:S.waits who=false) (u':Value):Like { S with wait:=S.wait.set i (S.wait.getD i []++[who]) } (ms.set i ⟨u',m.xs++[who],m.owner,m.owned⟩) cs ss:=by
 have hi:i < S.owner.length:=by rw [← l.len];exact Dk.zv hm
 obtain ⟨m2,hm2,ew,eh,e1,e2⟩:=l.atM hi
 rw [hm] at hm2
 cases hm2
 refine ⟨by rw [List.length_set];exact l.len,?_,?_,?_,l.conds,l.count,l.downs,l.fair.addWait i (by rw [ok.wait];exact hi) who hw (by rw [eh];exact ho)⟩
 ·rw [List.map_set,l.held]
  exact Dk.set_self _ _ _ (by rw [← l.held,List.getElem?_map,hm];rfl)
 ·rw [List.map_set,l.wait]
  show _=S.wait.set i (S.wait.getD i []++[who])
  rw [ew]
 ·have:=own_set l.len l.own hm ⟨u',m.xs++[who],m.owner,m.owned⟩ (S.owner.getD i 0) (by show m.owner=_;exact l.own i m hm)
  rw [zlb i hi] at this
  exact this
theorem Like.yes (l:Like S ms cs ss) (hm:ms[i]? = some m) (who:Int):Like { S with held:=S.held.set i true,owner:=S.owner.set i who } (ms.set i ⟨m.u,m.xs,who,true⟩) cs ss:=by
 refine ⟨by rw [List.length_set];show _=(S.owner.set i who).length;rw [List.length_set];exact l.len,?_,?_,own_set l.len l.own hm _ who rfl,l.conds,l.count,l.downs,l.fair.yes i who⟩
 ·rw [List.map_set,l.held]
 ·rw [List.map_set,l.wait]
  exact Dk.set_self _ _ _ (by rw [← l.wait,List.getElem?_map,hm];rfl)
theorem Like.openNone (l:Like S ms cs ss) (ok:Dk.Ok S k) (hm:ms[i]? = some m) (h0:m.xs=[]) (ch:Int):S.open i ch=({ S with held:=S.held.set i false },0,false)∧Like (S.open i ch).1 (ms.set i ⟨m.u,m.xs,0,false⟩) cs ss:=by
 have hi:i < S.owner.length:=by rw [← l.len];exact Dk.zv hm
 obtain ⟨m2,hm2,ew,eh,e1,e2⟩:=l.atM hi
 rw [hm] at hm2
 cases hm2
 have e0:=Dk.zbx S i ch (by rw [ew,h0];rfl)
 have hf:=(l.fair.open ok i hi ch).1
 refine ⟨e0,?_⟩
 rw [e0] at hf ⊢
 refine ⟨by rw [List.length_set];exact l.len,?_,?_,?_,l.conds,l.count,l.downs,hf⟩
 ·rw [List.map_set,l.held]
 ·rw [List.map_set,l.wait]
  exact Dk.set_self _ _ _ (by rw [← l.wait,List.getElem?_map,hm];rfl)
 ·have:=own_set l.len l.own hm ⟨m.u,m.xs,0,false⟩ (S.owner.getD i 0) rfl
  rw [zlb i hi] at this
  exact this
theorem Like.openSome (l:Like S ms cs ss) (ok:Dk.Ok S k) (hm:ms[i]? = some m) (ho:m.owned=true) (h0:0 < m.xs.length) (ch:Int) (a:Nat) (ea:Dk.at_ ch m.xs.length=a) (u':Value):S.open i ch=({ S with owner:=S.owner.set i (m.xs.getD a 0),wait:=S.wait.set i (m.xs.eraseIdx a) },m.xs.getD a 0,true)∧Like (S.open i ch).1 (ms.set i ⟨u',m.xs.eraseIdx a,m.xs.getD a 0,true⟩) cs ss:=by
 have hi:i < S.owner.length:=by rw [← l.len];exact Dk.zv hm
 obtain ⟨m2,hm2,ew,eh,e1,e2⟩:=l.atM hi
 rw [hm] at hm2
 cases hm2
 have e0:=Dk.zby S i ch m.xs ew h0 a ea _ rfl
 have hf:=(l.fair.open ok i hi ch).1
 refine ⟨e0,?_⟩
 rw [e0] at hf ⊢
 refine ⟨by rw [List.length_set];show _=(S.owner.set i _).length;rw [List.length_set];exact l.len,?_,?_,own_set l.len l.own hm _ _ rfl,l.conds,l.count,l.downs,hf⟩
 ·rw [List.map_set,l.held]
  exact Dk.set_self _ _ _ (by rw [← l.held,List.getElem?_map,hm,← ho];rfl)
 ·rw [List.map_set,l.wait]
theorem Like.addConds (l:Like S ms cs ss) (hc:cs[i]? = some c) (p:Int × Int) (hw:S.waits p.1=false) (u':Value):Like { S with conds:=S.conds.set i (S.conds.getD i []++[p]) } ms (cs.set i ⟨u',c.xs++[p],c.bm⟩) ss:=by
 have hi:i < S.conds.length:=by rw [← l.lenC];exact Dk.zv hc
 obtain ⟨c2,hc2,ew⟩:=l.atC hi
 rw [hc] at hc2
 cases hc2
 refine ⟨l.len,l.held,l.wait,l.own,?_,l.count,l.downs,l.fair.addConds i hi p hw⟩
 rw [List.map_set,l.conds]
 show _=S.conds.set i (S.conds.getD i []++[p])
 rw [ew]
theorem Like.addDowns (l:Like S ms cs ss) (ok:Dk.Ok S k) (hs:ss[i]? = some s) (who:Int) (hw:S.waits who=false) (h0:¬ 0 < s.count) (u':Value):Like { S with downs:=S.downs.set i (S.downs.getD i []++[who]) } ms cs (ss.set i ⟨u',s.xs++[who],s.count⟩):=by
 have hi:i < S.count.length:=by rw [← l.lenS];exact Dk.zv hs
 obtain ⟨c2,hc2,ew,ec⟩:=l.atS hi
 rw [hs] at hc2
 cases hc2
 refine ⟨l.len,l.held,l.wait,l.own,l.conds,?_,?_,l.fair.addDowns i (by rw [ok.downs];exact hi) who hw (by rw [ec];exact h0)⟩
 ·rw [List.map_set,l.count]
  exact Dk.set_self _ _ _ (by rw [← l.count,List.getElem?_map,hs];rfl)
 ·rw [List.map_set,l.downs]
  show _=S.downs.set i (S.downs.getD i []++[who])
  rw [ew]
theorem Like.takeDowns (l:Like S ms cs ss) (ok:Dk.Ok S k) (hs:ss[i]? = some s) (a:Nat) (u':Value):Like { S with downs:=S.downs.set i ((S.downs.getD i []).eraseIdx a) } ms cs (ss.set i ⟨u',s.xs.eraseIdx a,s.count⟩):=by
 have hi:i < S.count.length:=by rw [← l.lenS];exact Dk.zv hs
 obtain ⟨c2,hc2,ew,ec⟩:=l.atS hi
 rw [hs] at hc2
 cases hc2
 refine ⟨l.len,l.held,l.wait,l.own,l.conds,?_,?_,l.fair.takeDowns i (by rw [ok.downs];exact hi) a⟩
 ·rw [List.map_set,l.count]
  exact Dk.set_self _ _ _ (by rw [← l.count,List.getElem?_map,hs];rfl)
 ·rw [List.map_set,l.downs]
  show _=S.downs.set i ((S.downs.getD i []).eraseIdx a)
  rw [ew]
theorem Like.setCount (l:Like S ms cs ss) (hs:ss[i]? = some s) (y:Int) (hy:s.xs=[]∨¬ 0 < y):Like { S with count:=S.count.set i y } ms cs (ss.set i ⟨s.u,s.xs,y⟩):=by
 have hi:i < S.count.length:=by rw [← l.lenS];exact Dk.zv hs
 obtain ⟨c2,hc2,ew,ec⟩:=l.atS hi
 rw [hs] at hc2
 cases hc2
 refine ⟨l.len,l.held,l.wait,l.own,l.conds,?_,?_,l.fair.setCount i y (by rw [ew];exact hy)⟩
 ·rw [List.map_set,l.count]
 ·rw [List.map_set,l.downs]
  exact Dk.set_self _ _ _ (by rw [← l.downs,List.getElem?_map,hs];rfl)
theorem Like.kept (l:Like S ms cs ss) (hc:cs[i]? = some c) (ch:Int) (all:Bool) (xs:List (Int × Int)) (ex:S.kept i ch all=xs) (u':Value):Like { S with conds:=S.conds.set i (S.kept i ch all) } ms (cs.set i ⟨u',xs,c.bm⟩) ss:=by
 have hi:i < S.conds.length:=by rw [← l.lenC];exact Dk.zv hc
 refine ⟨l.len,l.held,l.wait,l.own,?_,l.count,l.downs,⟨fun x=>?_,l.fair.free,l.fair.some_⟩⟩
 ·rw [List.map_set,l.conds]
  show _=S.conds.set i (S.kept i ch all)
  rw [ex]
 ·have:=Dk.zfm S i hi ch all x
  have:=l.fair.once x
  omega
end
section
variable {W w : World} {b i g C : Nat} {vm vc vs : Value} {ms : List Mx} {cs : List Cx} {ss : List Sx} {us : List Dk.Thing} {m : Mx} {c : Cx} {s : Sx}
theorem cellM (h:Dk.Sep W w (us++gts b (.slice (some ⟨g,0,none⟩) ms.length C) vc vs ms cs ss)) (hm:ms[i]? = some m):w.cell? ⟨g,i*3,none⟩=some m.u∧w.cell? ⟨g,i*3+1,none⟩=some (.int .i64 m.owner)∧w.cell? ⟨g,i*3+2,none⟩=some (.bool m.owned):=by
 have f:=focusM h hm
 have hl:(ms.flatMap Mx.cells).length=ms.length*3:=Dk.za4 Mx.len ms
 obtain ⟨g0,g1,g2⟩:=getM hm
 exact ⟨(Dk.Sep.cellg (us1:=[]) f hl g0).1,(Dk.Sep.cellg (us1:=[]) f hl g1).1,(Dk.Sep.cellg (us1:=[]) f hl g2).1⟩
theorem cellC (h:Dk.Sep W w (us++gts b vm (.slice (some ⟨g,0,none⟩) cs.length C) vs ms cs ss)) (hc:cs[i]? = some c):w.cell? ⟨g,i*2,none⟩=some c.u∧w.cell? ⟨g,i*2+1,none⟩=some (.map (some c.bm)):=by
 have f:=focusC h hc
 have hl:(cs.flatMap Cx.cells).length=cs.length*2:=Dk.za4 Cx.len cs
 obtain ⟨g0,g1⟩:=getC hc
 exact ⟨(Dk.Sep.cellg (us1:=[]) f hl g0).1,(Dk.Sep.cellg (us1:=[]) f hl g1).1⟩
theorem cellS (h:Dk.Sep W w (us++gts b vm vc (.slice (some ⟨g,0,none⟩) ss.length C) ms cs ss)) (hs:ss[i]? = some s):w.cell? ⟨g,i*2,none⟩=some s.u∧w.cell? ⟨g,i*2+1,none⟩=some (.int .i64 s.count):=by
 have f:=focusS h hs
 have hl:(ss.flatMap Sx.cells).length=ss.length*2:=Dk.za4 Sx.len ss
 obtain ⟨g0,g1⟩:=getS hs
 exact ⟨(Dk.Sep.cellg (us1:=[]) f hl g0).1,(Dk.Sep.cellg (us1:=[]) f hl g1).1⟩
theorem zga (h:Dk.Sep W w (us++gts b (.slice (some ⟨g,0,none⟩) ms.length C) vc vs ms cs ss)) (hm:ms[i]? = some m) (ho:m.owned=true) (who:Int) (hl:m.xs.length≤1000) :
  Calls Tryz.prog 196 #[.pointer (some ⟨g,i*3,none⟩),.int .i64 who] w fun e w'=>e=.returned (.bool false)∧∃ u',Dk.Sep W w' (us++gts b (.slice (some ⟨g,0,none⟩) ms.length C) vc vs (ms.set i ⟨u',m.xs++[who],m.owner,m.owned⟩) cs ss):=by
 obtain ⟨g0,g1,g2⟩:=getM hm
 refine (zo1 (focusM h hm) g0 (by rw [g2,ho]) who hl).mono ?_
 rintro e w' ⟨rfl,u',h'⟩
 rw [setM0 hm u' (m.xs++[who])] at h'
 refine ⟨rfl,u',backM (Dk.zv hm) ?_⟩
 unfold hdM
 rw [List.length_set]
 exact h'
theorem zf9 (h:Dk.Sep W w (us++gts b (.slice (some ⟨g,0,none⟩) ms.length C) vc vs ms cs ss)) (hm:ms[i]? = some m) (ho:m.owned=false) (h0:m.owner=0) (who:Int) :
  Calls Tryz.prog 196 #[.pointer (some ⟨g,i*3,none⟩),.int .i64 who] w fun e w'=>e=.returned (.bool true)∧Dk.Sep W w' (us++gts b (.slice (some ⟨g,0,none⟩) ms.length C) vc vs (ms.set i ⟨m.u,m.xs,who,true⟩) cs ss):=by
 obtain ⟨g0,g1,g2⟩:=getM hm
 refine (lock_free (x:=undef) (focusM h hm) (by rw [g1,h0]) (by rw [g2,ho]) who).mono ?_
 rintro e w' ⟨rfl,h'⟩
 rw [setM12 hm] at h'
 refine ⟨rfl,backM (Dk.zv hm) ?_⟩
 unfold hdM
 rw [List.length_set]
 exact h'
theorem ziq (h:Dk.Sep W w (us++gts b (.slice (some ⟨g,0,none⟩) ms.length C) vc vs ms cs ss)) (hm:ms[i]? = some m) (ho:m.owned=true) (h0:m.xs=[]) (ch:Int) :
  Calls Tryz.prog 197 #[.pointer (some ⟨g,i*3,none⟩),.int .i64 ch] w fun e w'=>e=.returned (.tuple #[.int .i64 0,.bool false])∧Dk.Sep W w' (us++gts b (.slice (some ⟨g,0,none⟩) ms.length C) vc vs (ms.set i ⟨m.u,m.xs,0,false⟩) cs ss):=by
 obtain ⟨g0,g1,g2⟩:=getM hm
 have f:=focusM h hm
 obtain ⟨A,Ca,ea,_,_⟩:=Dk.zc (f.row (e:=3) (s:=1) (v:=m.u) (n:=m.xs.length) (xs:=Dk.is m.xs) (by simp [Mx.row]))
 rw [h0] at ea
 refine (zka f (by rw [g0,ea];rfl) g1 (by rw [g2,ho]) ch).mono ?_
 rintro e w' ⟨rfl,h'⟩
 rw [setM12 hm] at h'
 refine ⟨rfl,backM (Dk.zv hm) ?_⟩
 unfold hdM
 rw [List.length_set]
 exact h'
theorem zir (h:Dk.Sep W w (us++gts b (.slice (some ⟨g,0,none⟩) ms.length C) vc vs ms cs ss)) (hm:ms[i]? = some m) (ho:m.owned=true) (ch:Int) (hi:Dk.i64 ch) (hn:0 < m.xs.length) (hl:m.xs.length≤1000) (a:Nat) (ea:Dk.at_ ch m.xs.length=a) :
  Calls Tryz.prog 197 #[.pointer (some ⟨g,i*3,none⟩),.int .i64 ch] w fun e w'=>e=.returned (.tuple #[.int .i64 (m.xs.getD a 0),.bool true])∧∃ u',Dk.Sep W w' (us++gts b (.slice (some ⟨g,0,none⟩) ms.length C) vc vs (ms.set i ⟨u',m.xs.eraseIdx a,m.xs.getD a 0,true⟩) cs ss):=by
 obtain ⟨g0,g1,g2⟩:=getM hm
 refine (zkb (focusM h hm) g0 g1 (by rw [g2,ho]) ch hi hn hl a ea).mono ?_
 rintro e w' ⟨rfl,u',h'⟩
 rw [setM012 hm u' (m.xs.eraseIdx a)] at h'
 refine ⟨rfl,u',backM (Dk.zv hm) ?_⟩
 unfold hdM
 rw [List.length_set]
 exact h'
theorem mwait (h:Dk.Sep W w (us++gts b vm (.slice (some ⟨g,0,none⟩) cs.length C) vs ms cs ss)) (hc:cs[i]? = some c) (who n:Int) (hl:c.xs.length≤1000) (hi:Dk.i64 who) (hn:Dk.i64 n) (hx:who ∉ c.xs.map Prod.fst) :
  Calls Tryz.prog 199 #[.pointer (some ⟨g,i*2,none⟩),.int .i64 who,.int .i64 n] w fun e w'=>e=.returned (.tuple #[])∧∃ u',Dk.Sep W w' (us++gts b vm (.slice (some ⟨g,0,none⟩) cs.length C) vs ms (cs.set i ⟨u',c.xs++[(who,n)],c.bm⟩) ss):=by
 obtain ⟨g0,g1⟩:=getC hc
 have f:=focusC h hc
 unfold Cx.row at f
 rw [← List.length_map (f:=Prod.fst)] at f
 refine (zn8 f g0 g1 who n (by rw [List.length_map];exact hl) hi hn hx hl).mono ?_
 rintro e w' ⟨rfl,u',h'⟩
 rw [setC0 hc u' (c.xs++[(who,n)])] at h'
 refine ⟨rfl,u',backC (Dk.zv hc) ?_⟩
 unfold hdC Cx.row
 rw [List.length_set,← List.length_map (f:=Prod.fst),List.map_append]
 exact h'
theorem zjt (h:Dk.Sep W w (us++gts b vm (.slice (some ⟨g,0,none⟩) cs.length C) vs ms cs ss)) (hc:cs[i]? = some c) (ch:Int) (hl:c.xs.length≤1000) (hi:∀ p ∈ c.xs,Dk.i64 p.1) :
  Calls Tryz.prog 234 #[.pointer (some ⟨g,i*2,none⟩),.int .i64 ch,.bool true] w fun e w'=>∃ u' A Ca,e=.returned (.slice A c.xs.length Ca)∧Dk.Sep W w' ((Dk.rowOf 324 2 (.slice A c.xs.length Ca) c.xs.length (Dk.pr2 c.xs)::us)++gts b vm (.slice (some ⟨g,0,none⟩) cs.length C) vs ms (cs.set i ⟨u',[],c.bm⟩) ss):=by
 obtain ⟨g0,g1⟩:=getC hc
 refine (zje (focusC h hc) g0 g1 hi hl ch).mono ?_
 rintro e w' ⟨A,Ca,rfl,h'⟩
 rw [setC0 hc _ []] at h'
 refine ⟨.slice none 0 0,A,Ca,rfl,backC (Dk.zv hc) ?_⟩
 unfold hdC
 rw [List.length_set]
 refine h'.perm ?_
 exact (List.Perm.swap _ _ _).trans (((List.Perm.swap _ _ _).trans ((List.Perm.swap _ _ _).cons _)).cons _)
theorem zip (h:Dk.Sep W w (us++gts b vm (.slice (some ⟨g,0,none⟩) cs.length C) vs ms cs ss)) (hc:cs[i]? = some c) (ch:Int) (h0:c.xs=[]) :
  Calls Tryz.prog 234 #[.pointer (some ⟨g,i*2,none⟩),.int .i64 ch,.bool false] w fun e w'=>e=.returned (.slice none 0 0)∧w'=w:=by
 have f:=focusC h hc
 obtain ⟨A,Ca,ea,_,_⟩:=Dk.zc (f.row (e:=3) (s:=1) (v:=c.u) (n:=c.xs.length) (xs:=Dk.is (c.xs.map Prod.fst)) (by simp [Cx.row]))
 rw [h0] at ea
 exact zib (by rw [(cellC h hc).1,ea];rfl) ch
theorem zju (h:Dk.Sep W w (us++gts b vm (.slice (some ⟨g,0,none⟩) cs.length C) vs ms cs ss)) (hc:cs[i]? = some c) (ch:Int) (hch:Dk.i64 ch) (hl:c.xs.length≤1000) (hi:∀ p ∈ c.xs,Dk.i64 p.1) (hn:0 < c.xs.length) (a:Nat) (ea:Dk.at_ ch c.xs.length=a) (p:Int × Int) (ep:c.xs[a]? = some p) :
  Calls Tryz.prog 234 #[.pointer (some ⟨g,i*2,none⟩),.int .i64 ch,.bool false] w fun e w'=>∃ u' A Ca,e=.returned (.slice A 1 Ca)∧Dk.Sep W w' ((Dk.rowOf 324 2 (.slice A 1 Ca) 1 (Dk.pr2 [p])::us)++gts b vm (.slice (some ⟨g,0,none⟩) cs.length C) vs ms (cs.set i ⟨u',c.xs.eraseIdx a,c.bm⟩) ss):=by
 obtain ⟨g0,g1⟩:=getC hc
 refine (zjf (focusC h hc) g0 g1 hi hl hn ch hch a ea p ep).mono ?_
 rintro e w' ⟨u',A,Ca,rfl,h'⟩
 rw [setC0 hc _ (c.xs.eraseIdx a)] at h'
 refine ⟨u',A,Ca,rfl,backC (Dk.zv hc) ?_⟩
 unfold hdC
 rw [List.length_set]
 refine h'.perm ?_
 exact (List.Perm.swap _ _ _).trans (((List.Perm.swap _ _ _).trans ((List.Perm.swap _ _ _).cons _)).cons _)
theorem zmf (h:Dk.Sep W w (us++gts b vm vc (.slice (some ⟨g,0,none⟩) ss.length C) ms cs ss)) (hs:ss[i]? = some s) (hc:0 < s.count∧s.count≤1048576) (who:Int) :
  Calls Tryz.prog 201 #[.pointer (some ⟨g,i*2,none⟩),.int .i64 who] w fun e w'=>e=.returned (.bool true)∧Dk.Sep W w' (us++gts b vm vc (.slice (some ⟨g,0,none⟩) ss.length C) ms cs (ss.set i ⟨s.u,s.xs,s.count - 1⟩)):=by
 obtain ⟨g0,g1⟩:=getS hs
 refine (zop (focusS h hs) g1 hc who).mono ?_
 rintro e w' ⟨rfl,h'⟩
 rw [setS1 hs] at h'
 refine ⟨rfl,backS (Dk.zv hs) ?_⟩
 unfold hdS
 rw [List.length_set]
 exact h'
theorem zme (h:Dk.Sep W w (us++gts b vm vc (.slice (some ⟨g,0,none⟩) ss.length C) ms cs ss)) (hs:ss[i]? = some s) (h0:s.count=0) (who:Int) (hl:s.xs.length≤1000) :
  Calls Tryz.prog 201 #[.pointer (some ⟨g,i*2,none⟩),.int .i64 who] w fun e w'=>e=.returned (.bool false)∧∃ u',Dk.Sep W w' (us++gts b vm vc (.slice (some ⟨g,0,none⟩) ss.length C) ms cs (ss.set i ⟨u',s.xs++[who],s.count⟩)):=by
 obtain ⟨g0,g1⟩:=getS hs
 refine (zoo (focusS h hs) g0 (by rw [g1,h0]) who hl).mono ?_
 rintro e w' ⟨rfl,u',h'⟩
 rw [setS0 hs u' (s.xs++[who])] at h'
 refine ⟨rfl,u',backS (Dk.zv hs) ?_⟩
 unfold hdS
 rw [List.length_set]
 exact h'
theorem mup_take (h:Dk.Sep W w (us++gts b vm vc (.slice (some ⟨g,0,none⟩) ss.length C) ms cs ss)) (hs:ss[i]? = some s) (ch:Int) (hi:Dk.i64 ch) (hn:0 < s.xs.length) (hl:s.xs.length≤1000) (a:Nat) (ea:Dk.at_ ch s.xs.length=a) :
  Calls Tryz.prog 202 #[.pointer (some ⟨g,i*2,none⟩),.int .i64 ch] w fun e w'=>e=.returned (.tuple #[.int .i64 (s.xs.getD a 0),.bool true,.int .i64 0])∧∃ u',Dk.Sep W w' (us++gts b vm vc (.slice (some ⟨g,0,none⟩) ss.length C) ms cs (ss.set i ⟨u',s.xs.eraseIdx a,s.count⟩)):=by
 obtain ⟨g0,g1⟩:=getS hs
 refine (up_take (focusS h hs) g0 ch hi hn hl a ea).mono ?_
 rintro e w' ⟨rfl,u',h'⟩
 rw [setS0 hs u' (s.xs.eraseIdx a)] at h'
 refine ⟨rfl,u',backS (Dk.zv hs) ?_⟩
 unfold hdS
 rw [List.length_set]
 exact h'
theorem mup_full (h:Dk.Sep W w (us++gts b vm vc (.slice (some ⟨g,0,none⟩) ss.length C) ms cs ss)) (hs:ss[i]? = some s) (ch:Int) (h0:s.xs=[]) (hc:s.count=1048576) :
  Calls Tryz.prog 202 #[.pointer (some ⟨g,i*2,none⟩),.int .i64 ch] w fun e w'=>e=.returned (.tuple #[.int .i64 0,.bool false,.int .i64 2])∧w'=w:=by
 obtain ⟨A,Ca,ea,_,_⟩:=Dk.zc ((focusS h hs).row (e:=3) (s:=1) (v:=s.u) (n:=s.xs.length) (xs:=Dk.is s.xs) (by simp [Sx.row]))
 rw [h0] at ea
 obtain ⟨c0,c1⟩:=cellS h hs
 exact up_full_ (by rw [c0,ea];rfl) (by rw [c1,hc]) ch
theorem mup_more (h:Dk.Sep W w (us++gts b vm vc (.slice (some ⟨g,0,none⟩) ss.length C) ms cs ss)) (hs:ss[i]? = some s) (ch:Int) (h0:s.xs=[]) (hc:0≤s.count∧s.count < 1048576) :
  Calls Tryz.prog 202 #[.pointer (some ⟨g,i*2,none⟩),.int .i64 ch] w fun e w'=>e=.returned (.tuple #[.int .i64 0,.bool false,.int .i64 0])∧Dk.Sep W w' (us++gts b vm vc (.slice (some ⟨g,0,none⟩) ss.length C) ms cs (ss.set i ⟨s.u,s.xs,s.count+1⟩)):=by
 obtain ⟨A,Ca,ea,_,_⟩:=Dk.zc ((focusS h hs).row (e:=3) (s:=1) (v:=s.u) (n:=s.xs.length) (xs:=Dk.is s.xs) (by simp [Sx.row]))
 rw [h0] at ea
 obtain ⟨g0,g1⟩:=getS hs
 refine (up_more_ (focusS h hs) (by rw [g0,ea];rfl) g1 hc ch).mono ?_
 rintro e w' ⟨rfl,h'⟩
 rw [setS1 hs] at h'
 refine ⟨rfl,backS (Dk.zv hs) ?_⟩
 unfold hdS
 rw [List.length_set]
 exact h'
end
section
variable {W w : World} {b k : Nat} {S : Dk.St} {vm vc vs : Value} {ms : List Mx} {cs : List Cx} {ss : List Sx} {us : List Dk.Thing}
theorem Lock_arg (h:Dk.Sep W w (us++gts b vm vc vs ms cs ss)) (who n:Int) (hn:n < 0∨(ms.length:Int)≤n) :
  Calls Tryz.prog 153 #[.pointer (some ⟨b,0,none⟩),.int .i64 who,.int .i64 n] w fun e w'=>e=.returned (.tuple #[.bool false,.int .i64 1])∧w'=w:=by
 go_enter Tryz.func153,Tryz.ntmps153
 have K:=zjm h n hn
 go_wp2_with fail
 refine K.mono ?_
 rintro e w' ⟨rfl,hw'⟩
 subst w'
 clear K
 clear h
 go_wp2_with fail
 go_ret2
 exact ⟨rfl,rfl⟩
theorem zm9 (h:Dk.Sep W w (us++gts b vm vc vs ms cs ss)) (l:Like S ms cs ss) (ok:Dk.Ok S k) (who:Int) (n:Nat) (hn:n < ms.length) (hw:S.waits who=true) :
  Calls Tryz.prog 153 #[.pointer (some ⟨b,0,none⟩),.int .i64 who,.int .i64 (n:Int)] w fun e w'=>e=.returned (.tuple #[.bool false,.int .i64 4])∧Below w.heap.size w w':=by
 go_enter Tryz.func153,Tryz.ntmps153
 have K:=za7 h n hn
 go_wp2_with fail
 refine K.mono ?_
 rintro e w' ⟨rfl,hw'⟩
 subst w'
 clear K
 have K:=za0 h l ok who
 rw [hw] at K
 clear hw
 go_wp2_with fail
 refine K.mono ?_
 rintro e w1 ⟨rfl,u1⟩
 have HU:Hid _:=u1
 clear K u1 h l ok
 go_wp2_with fail
 go_ret2
 exact ⟨rfl,HU.out⟩
theorem zna (h:Dk.Sep W w (us++gts b vm vc vs ms cs ss)) (l:Like S ms cs ss) (ok:Dk.Ok S k) (who:Int) (n:Nat) (hn:n < ms.length) (hw:S.waits who=false) {m:Mx} (hm:ms[n]? = some m) (ho:(m.owned && decide (m.owner=who))=true) :
  Calls Tryz.prog 153 #[.pointer (some ⟨b,0,none⟩),.int .i64 who,.int .i64 (n:Int)] w fun e w'=>e=.returned (.tuple #[.bool false,.int .i64 4])∧Dk.Sep W w' (us++gts b vm vc vs ms cs ss):=by
 obtain ⟨g,C,ev,hC,hmx⟩:=someM h hn
 unfold maxLen at hmx
 subst ev
 go_enter Tryz.func153,Tryz.ntmps153
 have K:=za7 h n hn
 go_wp2_with fail
 refine K.mono ?_
 rintro e w' ⟨rfl,hw'⟩
 subst w'
 clear K
 have K:=za0 h l ok who
 rw [hw] at K
 go_wp2_with fail
 refine K.mono ?_
 rintro e w1 ⟨rfl,u1⟩
 have h1:=h.below u1
 clear K h u1
 have K:=zcp (cellM h1 hm).2.1 (cellM h1 hm).2.2 who
 rw [ho] at K
 have hni:(n:Int) < (ms.length:Int):=by omega
 have c0:w1.cell? ⟨b,0,none⟩=some (.slice (some ⟨g,0,none⟩) ms.length C):=(headG h1).cell 0
 go_wp2_with fail
 refine K.mono ?_
 rintro e w' ⟨rfl,hw'⟩
 subst w'
 clear K
 clear ho hm c0
 go_wp2_with fail
 go_ret2
 exact ⟨rfl,h1⟩
theorem znb (h:Dk.Sep W w (us++gts b vm vc vs ms cs ss)) (l:Like S ms cs ss) (ok:Dk.Ok S k) (who:Int) (n:Nat) (hn:n < ms.length) (hw:S.waits who=false) {m:Mx} (hm:ms[n]? = some m) (ho:(m.owned && decide (m.owner=who))=false) (hh:m.owned=true) (hl:m.xs.length≤1000) :
  Calls Tryz.prog 153 #[.pointer (some ⟨b,0,none⟩),.int .i64 who,.int .i64 (n:Int)] w fun e w'=>e=.returned (.tuple #[.bool false,.int .i64 0])∧∃ u',Dk.Sep W w' (us++gts b vm vc vs (ms.set n ⟨u',m.xs++[who],m.owner,m.owned⟩) cs ss):=by
 obtain ⟨g,C,ev,hC,hmx⟩:=someM h hn
 unfold maxLen at hmx
 subst ev
 go_enter Tryz.func153,Tryz.ntmps153
 have K:=za7 h n hn
 go_wp2_with fail
 refine K.mono ?_
 rintro e w' ⟨rfl,hw'⟩
 subst w'
 clear K
 have K:=za0 h l ok who
 rw [hw] at K
 go_wp2_with fail
 refine K.mono ?_
 rintro e w1 ⟨rfl,u1⟩
 have h1:=h.below u1
 clear K h u1
 have K:=zcp (cellM h1 hm).2.1 (cellM h1 hm).2.2 who
 rw [ho] at K
 have hni:(n:Int) < (ms.length:Int):=by omega
 have c0:w1.cell? ⟨b,0,none⟩=some (.slice (some ⟨g,0,none⟩) ms.length C):=(headG h1).cell 0
 go_wp2_with fail
 refine K.mono ?_
 rintro e w' ⟨rfl,hw'⟩
 subst w'
 clear K
 have K:=zga h1 hm hh who hl
 clear ho h1
 go_wp2_with fail
 refine K.mono ?_
 rintro e w2 ⟨rfl,u',h2⟩
 clear K c0
 go_wp2_with fail
 go_ret2
 exact ⟨rfl,u',h2⟩
theorem Lock_yes (h:Dk.Sep W w (us++gts b vm vc vs ms cs ss)) (l:Like S ms cs ss) (ok:Dk.Ok S k) (who:Int) (n:Nat) (hn:n < ms.length) (hw:S.waits who=false) {m:Mx} (hm:ms[n]? = some m) (hh:m.owned=false) (h0:m.owner=0) :
  Calls Tryz.prog 153 #[.pointer (some ⟨b,0,none⟩),.int .i64 who,.int .i64 (n:Int)] w fun e w'=>e=.returned (.tuple #[.bool true,.int .i64 0])∧Dk.Sep W w' (us++gts b vm vc vs (ms.set n ⟨m.u,m.xs,who,true⟩) cs ss):=by
 obtain ⟨g,C,ev,hC,hmx⟩:=someM h hn
 unfold maxLen at hmx
 subst ev
 have ho:(m.owned && decide (m.owner=who))=false:=by rw [hh];rfl
 go_enter Tryz.func153,Tryz.ntmps153
 have K:=za7 h n hn
 go_wp2_with fail
 refine K.mono ?_
 rintro e w' ⟨rfl,hw'⟩
 subst w'
 clear K
 have K:=za0 h l ok who
 rw [hw] at K
 go_wp2_with fail
 refine K.mono ?_
 rintro e w1 ⟨rfl,u1⟩
 have h1:=h.below u1
 clear K h u1
 have K:=zcp (cellM h1 hm).2.1 (cellM h1 hm).2.2 who
 rw [ho] at K
 have hni:(n:Int) < (ms.length:Int):=by omega
 have c0:w1.cell? ⟨b,0,none⟩=some (.slice (some ⟨g,0,none⟩) ms.length C):=(headG h1).cell 0
 go_wp2_with fail
 refine K.mono ?_
 rintro e w' ⟨rfl,hw'⟩
 subst w'
 clear K
 have K:=zf9 h1 hm hh h0 who
 clear ho h1
 go_wp2_with fail
 refine K.mono ?_
 rintro e w2 ⟨rfl,h2⟩
 clear K c0
 go_wp2_with fail
 go_ret2
 exact ⟨rfl,h2⟩
theorem zlq (h:Dk.Sep W w (us++gts b vm vc vs ms cs ss)) (who n ch:Int) (hn:n < 0∨(ms.length:Int)≤n) :
  Calls Tryz.prog 155 #[.pointer (some ⟨b,0,none⟩),.int .i64 who,.int .i64 n,.int .i64 ch] w fun e w'=>e=.returned (.tuple #[.int .i64 0,.bool false,.int .i64 1])∧w'=w:=by
 go_enter Tryz.func155,Tryz.ntmps155
 have K:=zjm h n hn
 go_wp2_with fail
 refine K.mono ?_
 rintro e w' ⟨rfl,hw'⟩
 subst w'
 clear K
 clear h
 go_wp2_with fail
 go_ret3
 exact ⟨rfl,rfl⟩
theorem zd5 (h:Dk.Sep W w (us++gts b vm vc vs ms cs ss)) (who:Int) (n:Nat) (ch:Int) (hn:n < ms.length) {m:Mx} (hm:ms[n]? = some m) (ho:(m.owned && decide (m.owner=who))=false) :
  Calls Tryz.prog 155 #[.pointer (some ⟨b,0,none⟩),.int .i64 who,.int .i64 (n:Int),.int .i64 ch] w fun e w'=>e=.returned (.tuple #[.int .i64 0,.bool false,.int .i64 5])∧w'=w:=by
 obtain ⟨g,C,ev,hC,hmx⟩:=someM h hn
 unfold maxLen at hmx
 subst ev
 go_enter Tryz.func155,Tryz.ntmps155
 have K:=za7 h n hn
 go_wp2_with fail
 refine K.mono ?_
 rintro e w' ⟨rfl,hw'⟩
 subst w'
 clear K
 have K:=zcp (cellM h hm).2.1 (cellM h hm).2.2 who
 rw [ho] at K
 have hni:(n:Int) < (ms.length:Int):=by omega
 have c0:w.cell? ⟨b,0,none⟩=some (.slice (some ⟨g,0,none⟩) ms.length C):=(headG h).cell 0
 go_wp2_with fail
 refine K.mono ?_
 rintro e w' ⟨rfl,hw'⟩
 subst w'
 clear K
 clear h ho hm
 go_wp2_with fail
 go_ret3
 exact ⟨rfl,rfl⟩
theorem zeo (h:Dk.Sep W w (us++gts b vm vc vs ms cs ss)) (who:Int) (n:Nat) (ch:Int) (hn:n < ms.length) {m:Mx} (hm:ms[n]? = some m) (ho:(m.owned && decide (m.owner=who))=true) (hh:m.owned=true) (h0:m.xs=[]) :
  Calls Tryz.prog 155 #[.pointer (some ⟨b,0,none⟩),.int .i64 who,.int .i64 (n:Int),.int .i64 ch] w fun e w'=>e=.returned (.tuple #[.int .i64 0,.bool false,.int .i64 0])∧Dk.Sep W w' (us++gts b vm vc vs (ms.set n ⟨m.u,m.xs,0,false⟩) cs ss):=by
 obtain ⟨g,C,ev,hC,hmx⟩:=someM h hn
 unfold maxLen at hmx
 subst ev
 go_enter Tryz.func155,Tryz.ntmps155
 have K:=za7 h n hn
 go_wp2_with fail
 refine K.mono ?_
 rintro e w' ⟨rfl,hw'⟩
 subst w'
 clear K
 have K:=zcp (cellM h hm).2.1 (cellM h hm).2.2 who
 rw [ho] at K
 have hni:(n:Int) < (ms.length:Int):=by omega
 have c0:w.cell? ⟨b,0,none⟩=some (.slice (some ⟨g,0,none⟩) ms.length C):=(headG h).cell 0
 go_wp2_with fail
 refine K.mono ?_
 rintro e w' ⟨rfl,hw'⟩
 subst w'
 clear K
 have K:=ziq h hm hh h0 ch
 clear h ho
 go_wp2_with fail
 refine K.mono ?_
 rintro e w2 ⟨rfl,h2⟩
 clear K c0
 go_wp2_with fail
 go_ret3
 exact ⟨rfl,h2⟩
theorem zep (h:Dk.Sep W w (us++gts b vm vc vs ms cs ss)) (who:Int) (n:Nat) (ch:Int) (hn:n < ms.length) {m:Mx} (hm:ms[n]? = some m) (ho:(m.owned && decide (m.owner=who))=true) (hh:m.owned=true) (hi:Dk.i64 ch) (h0:0 < m.xs.length) (hl:m.xs.length≤1000) (a:Nat) (ea:Dk.at_ ch m.xs.length=a) :
  Calls Tryz.prog 155 #[.pointer (some ⟨b,0,none⟩),.int .i64 who,.int .i64 (n:Int),.int .i64 ch] w fun e w'=>e=.returned (.tuple #[.int .i64 (m.xs.getD a 0),.bool true,.int .i64 0])∧∃ u',Dk.Sep W w' (us++gts b vm vc vs (ms.set n ⟨u',m.xs.eraseIdx a,m.xs.getD a 0,true⟩) cs ss):=by
 obtain ⟨x,ex⟩:∃ x,m.xs.getD a 0=x:=⟨_,rfl⟩
 rw [ex]
 obtain ⟨g,C,ev,hC,hmx⟩:=someM h hn
 unfold maxLen at hmx
 subst ev
 go_enter Tryz.func155,Tryz.ntmps155
 have K:=za7 h n hn
 go_wp2_with fail
 refine K.mono ?_
 rintro e w' ⟨rfl,hw'⟩
 subst w'
 clear K
 have K:=zcp (cellM h hm).2.1 (cellM h hm).2.2 who
 rw [ho] at K
 have hni:(n:Int) < (ms.length:Int):=by omega
 have c0:w.cell? ⟨b,0,none⟩=some (.slice (some ⟨g,0,none⟩) ms.length C):=(headG h).cell 0
 go_wp2_with fail
 refine K.mono ?_
 rintro e w' ⟨rfl,hw'⟩
 subst w'
 clear K
 have K:=zir h hm hh ch hi h0 hl a ea
 rw [ex] at K
 clear h ho ex
 go_wp2_with fail
 refine K.mono ?_
 rintro e w2 ⟨rfl,u',h2⟩
 clear K c0
 go_wp2_with fail
 go_ret3
 exact ⟨rfl,u',h2⟩
theorem Down_arg (h:Dk.Sep W w (us++gts b vm vc vs ms cs ss)) (who n:Int) (hn:n < 0∨(ss.length:Int)≤n) :
  Calls Tryz.prog 158 #[.pointer (some ⟨b,0,none⟩),.int .i64 who,.int .i64 n] w fun e w'=>e=.returned (.tuple #[.bool false,.int .i64 1])∧w'=w:=by
 go_enter Tryz.func158,Tryz.ntmps158
 have K:=zow h n hn
 go_wp2_with fail
 refine K.mono ?_
 rintro e w' ⟨rfl,hw'⟩
 subst w'
 clear K
 clear h
 go_wp2_with fail
 go_ret2
 exact ⟨rfl,rfl⟩
theorem zm6 (h:Dk.Sep W w (us++gts b vm vc vs ms cs ss)) (l:Like S ms cs ss) (ok:Dk.Ok S k) (who:Int) (n:Nat) (hn:n < ss.length) (hw:S.waits who=true) :
  Calls Tryz.prog 158 #[.pointer (some ⟨b,0,none⟩),.int .i64 who,.int .i64 (n:Int)] w fun e w'=>e=.returned (.tuple #[.bool false,.int .i64 4])∧Below w.heap.size w w':=by
 go_enter Tryz.func158,Tryz.ntmps158
 have K:=zco h n hn
 go_wp2_with fail
 refine K.mono ?_
 rintro e w' ⟨rfl,hw'⟩
 subst w'
 clear K
 have K:=za0 h l ok who
 rw [hw] at K
 clear hw
 go_wp2_with fail
 refine K.mono ?_
 rintro e w1 ⟨rfl,u1⟩
 have HU:Hid _:=u1
 clear K u1 h l ok
 go_wp2_with fail
 go_ret2
 exact ⟨rfl,HU.out⟩
theorem Down_yes (h:Dk.Sep W w (us++gts b vm vc vs ms cs ss)) (l:Like S ms cs ss) (ok:Dk.Ok S k) (who:Int) (n:Nat) (hn:n < ss.length) (hw:S.waits who=false) {s:Sx} (hs:ss[n]? = some s) (hc:0 < s.count∧s.count≤1048576) :
  Calls Tryz.prog 158 #[.pointer (some ⟨b,0,none⟩),.int .i64 who,.int .i64 (n:Int)] w fun e w'=>e=.returned (.tuple #[.bool true,.int .i64 0])∧Dk.Sep W w' (us++gts b vm vc vs ms cs (ss.set n ⟨s.u,s.xs,s.count - 1⟩)):=by
 obtain ⟨g,C,ev,hC,hmx⟩:=someS h hn
 unfold maxLen at hmx
 subst ev
 go_enter Tryz.func158,Tryz.ntmps158
 have K:=zco h n hn
 go_wp2_with fail
 refine K.mono ?_
 rintro e w' ⟨rfl,hw'⟩
 subst w'
 clear K
 have K:=za0 h l ok who
 rw [hw] at K
 go_wp2_with fail
 refine K.mono ?_
 rintro e w1 ⟨rfl,u1⟩
 have h1:=h.below u1
 clear K h u1
 have hni:(n:Int) < (ss.length:Int):=by omega
 have c0:w1.cell? ⟨b,2,none⟩=some (.slice (some ⟨g,0,none⟩) ss.length C):=(headG h1).cell 2
 have K:=zmf h1 hs hc who
 clear h1
 go_wp2_with fail
 refine K.mono ?_
 rintro e w2 ⟨rfl,h2⟩
 clear K c0
 go_wp2_with fail
 go_ret2
 exact ⟨rfl,h2⟩
theorem zm7 (h:Dk.Sep W w (us++gts b vm vc vs ms cs ss)) (l:Like S ms cs ss) (ok:Dk.Ok S k) (who:Int) (n:Nat) (hn:n < ss.length) (hw:S.waits who=false) {s:Sx} (hs:ss[n]? = some s) (hc:s.count=0) (hl:s.xs.length≤1000) :
  Calls Tryz.prog 158 #[.pointer (some ⟨b,0,none⟩),.int .i64 who,.int .i64 (n:Int)] w fun e w'=>e=.returned (.tuple #[.bool false,.int .i64 0])∧∃ u',Dk.Sep W w' (us++gts b vm vc vs ms cs (ss.set n ⟨u',s.xs++[who],s.count⟩)):=by
 obtain ⟨g,C,ev,hC,hmx⟩:=someS h hn
 unfold maxLen at hmx
 subst ev
 go_enter Tryz.func158,Tryz.ntmps158
 have K:=zco h n hn
 go_wp2_with fail
 refine K.mono ?_
 rintro e w' ⟨rfl,hw'⟩
 subst w'
 clear K
 have K:=za0 h l ok who
 rw [hw] at K
 go_wp2_with fail
 refine K.mono ?_
 rintro e w1 ⟨rfl,u1⟩
 have h1:=h.below u1
 clear K h u1
 have hni:(n:Int) < (ss.length:Int):=by omega
 have c0:w1.cell? ⟨b,2,none⟩=some (.slice (some ⟨g,0,none⟩) ss.length C):=(headG h1).cell 2
 have K:=zme h1 hs hc who hl
 clear h1
 go_wp2_with fail
 refine K.mono ?_
 rintro e w2 ⟨rfl,u',h2⟩
 clear K c0
 go_wp2_with fail
 go_ret2
 exact ⟨rfl,u',h2⟩
theorem Up_arg (h:Dk.Sep W w (us++gts b vm vc vs ms cs ss)) (n ch:Int) (hn:n < 0∨(ss.length:Int)≤n) :
  Calls Tryz.prog 159 #[.pointer (some ⟨b,0,none⟩),.int .i64 n,.int .i64 ch] w fun e w'=>e=.returned (.tuple #[.int .i64 0,.bool false,.int .i64 1])∧w'=w:=by
 go_enter Tryz.func159,Tryz.ntmps159
 have K:=zow h n hn
 go_wp2_with fail
 refine K.mono ?_
 rintro e w' ⟨rfl,hw'⟩
 subst w'
 clear K
 clear h
 go_wp2_with fail
 go_ret3
 exact ⟨rfl,rfl⟩
theorem Up_some (h:Dk.Sep W w (us++gts b vm vc vs ms cs ss)) (n:Nat) (ch:Int) (hn:n < ss.length) {s:Sx} (hs:ss[n]? = some s) (hi:Dk.i64 ch) (h0:0 < s.xs.length) (hl:s.xs.length≤1000) (a:Nat) (ea:Dk.at_ ch s.xs.length=a) :
  Calls Tryz.prog 159 #[.pointer (some ⟨b,0,none⟩),.int .i64 (n:Int),.int .i64 ch] w fun e w'=>e=.returned (.tuple #[.int .i64 (s.xs.getD a 0),.bool true,.int .i64 0])∧∃ u',Dk.Sep W w' (us++gts b vm vc vs ms cs (ss.set n ⟨u',s.xs.eraseIdx a,s.count⟩)):=by
 obtain ⟨x,ex⟩:∃ x,s.xs.getD a 0=x:=⟨_,rfl⟩
 rw [ex]
 obtain ⟨g,C,ev,hC,hmx⟩:=someS h hn
 unfold maxLen at hmx
 subst ev
 go_enter Tryz.func159,Tryz.ntmps159
 have K:=zco h n hn
 go_wp2_with fail
 refine K.mono ?_
 rintro e w' ⟨rfl,hw'⟩
 subst w'
 clear K
 have hni:(n:Int) < (ss.length:Int):=by omega
 have c0:w.cell? ⟨b,2,none⟩=some (.slice (some ⟨g,0,none⟩) ss.length C):=(headG h).cell 2
 have K:=mup_take h hs ch hi h0 hl a ea
 rw [ex] at K
 clear h ex
 go_wp2_with fail
 refine K.mono ?_
 rintro e w2 ⟨rfl,u',h2⟩
 clear K c0
 go_wp2_with fail
 go_ret3
 exact ⟨rfl,u',h2⟩
theorem Up_full (h:Dk.Sep W w (us++gts b vm vc vs ms cs ss)) (n:Nat) (ch:Int) (hn:n < ss.length) {s:Sx} (hs:ss[n]? = some s) (h0:s.xs=[]) (hc:s.count=1048576) :
  Calls Tryz.prog 159 #[.pointer (some ⟨b,0,none⟩),.int .i64 (n:Int),.int .i64 ch] w fun e w'=>e=.returned (.tuple #[.int .i64 0,.bool false,.int .i64 2])∧w'=w:=by
 obtain ⟨g,C,ev,hC,hmx⟩:=someS h hn
 unfold maxLen at hmx
 subst ev
 go_enter Tryz.func159,Tryz.ntmps159
 have K:=zco h n hn
 go_wp2_with fail
 refine K.mono ?_
 rintro e w' ⟨rfl,hw'⟩
 subst w'
 clear K
 have hni:(n:Int) < (ss.length:Int):=by omega
 have c0:w.cell? ⟨b,2,none⟩=some (.slice (some ⟨g,0,none⟩) ss.length C):=(headG h).cell 2
 have K:=mup_full h hs ch h0 hc
 clear h
 go_wp2_with fail
 refine K.mono ?_
 rintro e w2 ⟨rfl,hw2⟩
 subst w2
 clear K c0
 go_wp2_with fail
 go_ret3
 exact ⟨rfl,rfl⟩
theorem Up_more (h:Dk.Sep W w (us++gts b vm vc vs ms cs ss)) (n:Nat) (ch:Int) (hn:n < ss.length) {s:Sx} (hs:ss[n]? = some s) (h0:s.xs=[]) (hc:0≤s.count∧s.count < 1048576) :
  Calls Tryz.prog 159 #[.pointer (some ⟨b,0,none⟩),.int .i64 (n:Int),.int .i64 ch] w fun e w'=>e=.returned (.tuple #[.int .i64 0,.bool false,.int .i64 0])∧Dk.Sep W w' (us++gts b vm vc vs ms cs (ss.set n ⟨s.u,s.xs,s.count+1⟩)):=by
 obtain ⟨g,C,ev,hC,hmx⟩:=someS h hn
 unfold maxLen at hmx
 subst ev
 go_enter Tryz.func159,Tryz.ntmps159
 have K:=zco h n hn
 go_wp2_with fail
 refine K.mono ?_
 rintro e w' ⟨rfl,hw'⟩
 subst w'
 clear K
 have hni:(n:Int) < (ss.length:Int):=by omega
 have c0:w.cell? ⟨b,2,none⟩=some (.slice (some ⟨g,0,none⟩) ss.length C):=(headG h).cell 2
 have K:=mup_more h hs ch h0 hc
 clear h
 go_wp2_with fail
 refine K.mono ?_
 rintro e w2 ⟨rfl,h2⟩
 clear K c0
 go_wp2_with fail
 go_ret3
 exact ⟨rfl,h2⟩
theorem znl (h:Dk.Sep W w (us++gts b vm vc vs ms cs ss)) (who c n ch:Int) (hn:c < 0∨(cs.length:Int)≤c) :
  Calls Tryz.prog 157 #[.pointer (some ⟨b,0,none⟩),.int .i64 who,.int .i64 c,.int .i64 n,.int .i64 ch] w fun e w'=>e=.returned (.tuple #[.int .i64 0,.bool false,.int .i64 1])∧w'=w:=by
 go_enter Tryz.func157,Tryz.ntmps157
 have K:=zov h c hn
 go_wp2_with fail
 refine K.mono ?_
 rintro e w' ⟨rfl,hw'⟩
 subst w'
 clear K
 clear h
 go_wp2_with fail
 go_ret3
 exact ⟨rfl,rfl⟩
theorem znm (h:Dk.Sep W w (us++gts b vm vc vs ms cs ss)) (who:Int) (c:Nat) (n ch:Int) (hc:c < cs.length) (hn:n < 0∨(ms.length:Int)≤n) :
  Calls Tryz.prog 157 #[.pointer (some ⟨b,0,none⟩),.int .i64 who,.int .i64 (c:Int),.int .i64 n,.int .i64 ch] w fun e w'=>e=.returned (.tuple #[.int .i64 0,.bool false,.int .i64 1])∧w'=w:=by
 go_enter Tryz.func157,Tryz.ntmps157
 have K:=zb9 h c hc
 go_wp2_with fail
 refine K.mono ?_
 rintro e w' ⟨rfl,hw'⟩
 subst w'
 clear K
 have K:=zjm h n hn
 go_wp2_with fail
 refine K.mono ?_
 rintro e w' ⟨rfl,hw'⟩
 subst w'
 clear K
 clear h
 go_wp2_with fail
 go_ret3
 exact ⟨rfl,rfl⟩
theorem znn (h:Dk.Sep W w (us++gts b vm vc vs ms cs ss)) (l:Like S ms cs ss) (ok:Dk.Ok S k) (who:Int) (c n:Nat) (ch:Int) (hc:c < cs.length) (hn:n < ms.length) (hw:S.waits who=true) :
  Calls Tryz.prog 157 #[.pointer (some ⟨b,0,none⟩),.int .i64 who,.int .i64 (c:Int),.int .i64 (n:Int),.int .i64 ch] w fun e w'=>e=.returned (.tuple #[.int .i64 0,.bool false,.int .i64 4])∧Below w.heap.size w w':=by
 go_enter Tryz.func157,Tryz.ntmps157
 have K:=zb9 h c hc
 go_wp2_with fail
 refine K.mono ?_
 rintro e w' ⟨rfl,hw'⟩
 subst w'
 clear K
 have K:=za7 h n hn
 go_wp2_with fail
 refine K.mono ?_
 rintro e w' ⟨rfl,hw'⟩
 subst w'
 clear K
 have K:=za0 h l ok who
 rw [hw] at K
 clear hw
 go_wp2_with fail
 refine K.mono ?_
 rintro e w1 ⟨rfl,u1⟩
 have HU:Hid _:=u1
 clear K u1 h l ok
 go_wp2_with fail
 go_ret3
 exact ⟨rfl,HU.out⟩
theorem zlr (h:Dk.Sep W w (us++gts b vm vc vs ms cs ss)) (l:Like S ms cs ss) (ok:Dk.Ok S k) (who:Int) (c n:Nat) (ch:Int) (hc:c < cs.length) (hn:n < ms.length) (hw:S.waits who=false) {m:Mx} (hm:ms[n]? = some m) (ho:(m.owned && decide (m.owner=who))=false) :
  Calls Tryz.prog 157 #[.pointer (some ⟨b,0,none⟩),.int .i64 who,.int .i64 (c:Int),.int .i64 (n:Int),.int .i64 ch] w fun e w'=>e=.returned (.tuple #[.int .i64 0,.bool false,.int .i64 5])∧Dk.Sep W w' (us++gts b vm vc vs ms cs ss):=by
 go_enter Tryz.func157,Tryz.ntmps157
 have K:=zb9 h c hc
 go_wp2_with fail
 refine K.mono ?_
 rintro e w' ⟨rfl,hw'⟩
 subst w'
 clear K
 have K:=za7 h n hn
 go_wp2_with fail
 refine K.mono ?_
 rintro e w' ⟨rfl,hw'⟩
 subst w'
 clear K
 have K:=za0 h l ok who
 rw [hw] at K
 go_wp2_with fail
 refine K.mono ?_
 rintro e w1 ⟨rfl,u1⟩
 have h1:=h.below u1
 clear K h u1
 have K:=zd5 h1 who n ch hn hm ho
 go_wp2_with fail
 refine K.mono ?_
 rintro e w2 ⟨rfl,hw2⟩
 subst w2
 clear K
 go_wp2_with fail
 go_ret3
 exact ⟨rfl,h1⟩
theorem zno (h:Dk.Sep W w (us++gts b vm vc vs ms cs ss)) (l:Like S ms cs ss) (ok:Dk.Ok S k) (who:Int) (c n:Nat) (ch:Int) (hc:c < cs.length) (hn:n < ms.length) (hw:S.waits who=false) {m:Mx} (hm:ms[n]? = some m) {cx:Cx} (hcc:cs[c]? = some cx) (hlc:cx.xs.length≤1000) (hiw:Dk.i64 who) (hin:Dk.i64 n) (hx:who ∉ cx.xs.map Prod.fst) (ho:(m.owned && decide (m.owner=who))=true) (hh:m.owned=true) (h0:m.xs=[]) :
  Calls Tryz.prog 157 #[.pointer (some ⟨b,0,none⟩),.int .i64 who,.int .i64 (c:Int),.int .i64 (n:Int),.int .i64 ch] w fun e w'=>e=.returned (.tuple #[.int .i64 0,.bool false,.int .i64 0])∧∃ u',Dk.Sep W w' (us++gts b vm vc vs (ms.set n ⟨m.u,m.xs,0,false⟩) (cs.set c ⟨u',cx.xs++[(who,(n:Int))],cx.bm⟩) ss):=by
 go_enter Tryz.func157,Tryz.ntmps157
 have K:=zb9 h c hc
 go_wp2_with fail
 refine K.mono ?_
 rintro e w' ⟨rfl,hw'⟩
 subst w'
 clear K
 have K:=za7 h n hn
 go_wp2_with fail
 refine K.mono ?_
 rintro e w' ⟨rfl,hw'⟩
 subst w'
 clear K
 have K:=za0 h l ok who
 rw [hw] at K
 go_wp2_with fail
 refine K.mono ?_
 rintro e w1 ⟨rfl,u1⟩
 have h1:=h.below u1
 clear K h u1
 have K:=zeo h1 who n ch hn hm ho hh h0
 clear h1 ho hm
 go_wp2_with fail
 refine K.mono ?_
 rintro e w2 ⟨rfl,h2⟩
 obtain ⟨g,C,ev,hC,hmx⟩:=someC h2 hc
 unfold maxLen at hmx
 subst ev
 have hci:(c:Int) < (cs.length:Int):=by omega
 have c0:w2.cell? ⟨b,1,none⟩=some (.slice (some ⟨g,0,none⟩) cs.length C):=(headG h2).cell 1
 have K2:=mwait h2 hcc who n hlc hiw hin hx
 clear K h2
 go_wp2_with fail
 refine K2.mono ?_
 rintro e w3 ⟨rfl,u3,h3⟩
 clear K2 c0
 go_wp2_with fail
 go_ret3
 exact ⟨rfl,u3,h3⟩
theorem znp (h:Dk.Sep W w (us++gts b vm vc vs ms cs ss)) (l:Like S ms cs ss) (ok:Dk.Ok S k) (who:Int) (c n:Nat) (ch:Int) (hc:c < cs.length) (hn:n < ms.length) (hw:S.waits who=false) {m:Mx} (hm:ms[n]? = some m) {cx:Cx} (hcc:cs[c]? = some cx) (hlc:cx.xs.length≤1000) (hiw:Dk.i64 who) (hin:Dk.i64 n) (hx:who ∉ cx.xs.map Prod.fst) (ho:(m.owned && decide (m.owner=who))=true) (hh:m.owned=true) (hi:Dk.i64 ch) (h0:0 < m.xs.length) (hl:m.xs.length≤1000) (a:Nat) (ea:Dk.at_ ch m.xs.length=a) :
  Calls Tryz.prog 157 #[.pointer (some ⟨b,0,none⟩),.int .i64 who,.int .i64 (c:Int),.int .i64 (n:Int),.int .i64 ch] w fun e w'=>e=.returned (.tuple #[.int .i64 (m.xs.getD a 0),.bool true,.int .i64 0])∧∃ u u',Dk.Sep W w' (us++gts b vm vc vs (ms.set n ⟨u,m.xs.eraseIdx a,m.xs.getD a 0,true⟩) (cs.set c ⟨u',cx.xs++[(who,(n:Int))],cx.bm⟩) ss):=by
 obtain ⟨x,ex⟩:∃ x,m.xs.getD a 0=x:=⟨_,rfl⟩
 rw [ex]
 go_enter Tryz.func157,Tryz.ntmps157
 have K:=zb9 h c hc
 go_wp2_with fail
 refine K.mono ?_
 rintro e w' ⟨rfl,hw'⟩
 subst w'
 clear K
 have K:=za7 h n hn
 go_wp2_with fail
 refine K.mono ?_
 rintro e w' ⟨rfl,hw'⟩
 subst w'
 clear K
 have K:=za0 h l ok who
 rw [hw] at K
 go_wp2_with fail
 refine K.mono ?_
 rintro e w1 ⟨rfl,u1⟩
 have h1:=h.below u1
 clear K h u1
 have K:=zep h1 who n ch hn hm ho hh hi h0 hl a ea
 rw [ex] at K
 clear h1 ho hm ex
 go_wp2_with fail
 refine K.mono ?_
 rintro e w2 ⟨rfl,u',h2⟩
 obtain ⟨g,C,ev,hC,hmx⟩:=someC h2 hc
 unfold maxLen at hmx
 subst ev
 have hci:(c:Int) < (cs.length:Int):=by omega
 have c0:w2.cell? ⟨b,1,none⟩=some (.slice (some ⟨g,0,none⟩) cs.length C):=(headG h2).cell 1
 have K2:=mwait h2 hcc who n hlc hiw hin hx
 clear K h2
 go_wp2_with fail
 refine K2.mono ?_
 rintro e w3 ⟨rfl,u3,h3⟩
 clear K2 c0
 go_wp2_with fail
 go_ret3
 exact ⟨rfl,u',u3,h3⟩
theorem zh2 (h:Dk.Sep W w (us++gts b vm vc vs ms cs ss)) (n:Nat) (hn:n < cs.length) {c:Cx} (hm:cs[n]? = some c) (hl:c.xs.length≤1000) :
  Calls Tryz.prog 203 #[.pointer (some ⟨b,0,none⟩),.int .i64 2,.int .i64 (n:Int)] w fun e w'=>∃ A Ca,e=.returned (.slice A c.xs.length Ca)∧Hid (Below w.heap.size w w')∧Hid (w'.ownsRow w.heap.size 3 1 (.slice A c.xs.length Ca) c.xs.length (Dk.is (c.xs.map Prod.fst))):=by
 obtain ⟨g,C,ev,hC,hmx⟩:=someC h hn
 unfold maxLen at hmx
 subst ev
 go_enter Tryz.func203,Tryz.ntmps203
 have K:=zb9 h n hn
 go_wp2_with fail
 refine K.mono ?_
 rintro e w' ⟨rfl,hw'⟩
 subst w'
 clear K
 have hni:(n:Int) < (cs.length:Int):=by omega
 have c0:w.cell? ⟨b,1,none⟩=some (.slice (some ⟨g,0,none⟩) cs.length C):=(headG h).cell 1
 have c1:=(cellC h hm).1
 have hr:=(focusC h hm).row (e:=3) (s:=1) (v:=c.u) (n:=c.xs.length) (xs:=Dk.is (c.xs.map Prod.fst)) (by simp [Cx.row])
 have K:=all_any (xs:=c.xs.map Prod.fst) c1 (by rw [List.length_map];exact hr) (by rw [List.length_map];exact hl)
 rw [List.length_map] at K
 clear h hm hr c1
 go_wp2_with fail
 refine K.mono ?_
 rintro e w2 ⟨A,Ca,rfl,u2,r2⟩
 clear K c0
 go_wp2_with fail
 go_ret
 exact ⟨_,_,rfl,u2,r2⟩
theorem zlm (h:Dk.Sep W w (us++gts b vm vc vs ms cs ss)) (c ch:Int) (all:Bool) (hn:c < 0∨(cs.length:Int)≤c) :
  Calls Tryz.prog 204 #[.pointer (some ⟨b,0,none⟩),.int .i64 c,.int .i64 ch,.bool all] w fun e w'=>e=.returned (.tuple #[.slice none 0 0,.int .i64 1])∧w'=w:=by
 go_enter Tryz.func204,Tryz.ntmps204
 have K:=zov h c hn
 go_wp2_with fail
 refine K.mono ?_
 rintro e w' ⟨rfl,hw'⟩
 subst w'
 clear K
 clear h
 go_wp2_with fail
 go_ret2
 exact ⟨rfl,rfl⟩
end
end Go.Proofs.YtglhhlfopccmaaaGreat
