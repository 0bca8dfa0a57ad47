import Derived.Test.YtglhhlfopccmaaaGreatOw22
set_option linter.unusedSimpArgs false
set_option linter.unusedVariables false
set_option linter.unnecessarySimpa false
set_option maxHeartbeats 8000000
set_option maxRecDepth 100000
namespace Dk
open Go Go.RowKit
theorem Sep.appendK {W w:World} {us1 us2:List Thing} {P:Go.Program} {ty e:TypeId} {z:Value} {s bytes n:Nat} {v:Value} {xs:List Value} (K:SlK P ty e z s bytes) (h:Sep W w (us1++rowOf e s v n xs::us2)) (news:List Value) (hs:news.length=s) (hx:∀ u ∈ news,u.oneCell'=true) (hl:n≤10000) :
  ∃ v' w',(Builtin.append_ #[ty,ty] ty #[v,.slice (some ⟨w.heap.size,0,none⟩) 1 1]).run P (w.alloc (.cells news.toArray e))=.ok v' w'∧Sep W w' (us1++rowOf e s v' (n+1) (xs++news)::us2)∧v'≠.slice none 0 0:=by
 obtain ⟨V,eV⟩:∃ V,V=w.alloc (.cells news.toArray e):=⟨_,rfl⟩
 have uV:Below w.heap.size w V:=by rw [eV];exact Dk.zb (Below.refl _ _) _
 have hV:=h.below uV
 have hr:=hV.row (e:=e) (s:=s) (v:=v) (n:=n) (xs:=xs) (by simp)
 have hbx:Box V w.heap.size news.toArray e:=by rw [eV];exact Box.new w _ _
 obtain ⟨v',w',hrun,ho,hg,hf,hnil⟩:=K.append W.heap.size ty v xs n V hr ⟨w.heap.size,0,none⟩ 1 1 news (by omega) (fun j u hj=>by
  rw [Addr.add_lit,Nat.zero_add,hbx.cell]
  simpa using hj) hx (by omega) hV.out.size
 rw [← eV]
 exact ⟨v',w',hrun,hV.turn (Away.zad hg (fun k hk=>.inl hk)) (zam ho (Nat.zero_le _)) (fun k hk=>hf k hk),fun e0=>by simpa using hnil.1 e0⟩
theorem Sep.nil {W w:World} {ts:List Thing} (h:Sep W w ts) (e:TypeId) (s:Nat):Sep W w (rowOf e s (.slice none 0 0) 0 []::ts):=
 h.add (Below.refl _ _) (World.ownsRow_nil _ _ _ _) (fun k hk=>by simp [rowOf,Value.ownBlock] at hk)
end Dk
namespace Go.Proofs.YtglhhlfopccmaaaGreat
open Go.RowKit Go.Maps
section
variable {W w : World} {e : TypeId} {q g n C o bm : Nat} {Hs : List Value} {u : Value} {ps : List (Int × Int)} {us : List Dk.Thing}
theorem zkc (h:Dk.Sep W w (Dk.rowOf e q (.slice (some ⟨g,0,none⟩) n C) n Hs::Dk.rowOf 3 1 u ps.length (Dk.is (ps.map Prod.fst))::mapOf bm ps::us)) (h0:Hs[o]? = some u) (h1:Hs[o+1]? = some (.map (some bm))) (hi:∀ p ∈ ps,Dk.i64 p.1) (hl:ps.length≤1000) :
  Calls Tryz.prog 247 #[.pointer (some ⟨g,o,none⟩)] w fun e' w'=>∃ A Ca,e'=.returned (.slice A ps.length Ca)∧Dk.Sep W w' (Dk.rowOf 324 2 (.slice A ps.length Ca) ps.length (Dk.pr2 ps)::Dk.rowOf e q (.slice (some ⟨g,0,none⟩) n C) n (Hs.set o (.slice none 0 0))::Dk.rowOf 3 1 (.slice none 0 0) 0 []::mapOf bm []::us):=by
 have hlen:Hs.length=n*q:=h.rowLen (List.mem_cons_self ..)
 have cu:w.cell? ⟨g,o,none⟩=some u:=(h.cellg (us1:=[]) hlen h0).1
 obtain ⟨A0,C0,eu,hC0,hm0⟩:=Dk.zc (h.row (e:=3) (s:=1) (v:=u) (n:=ps.length) (xs:=Dk.is (ps.map Prod.fst)) (by simp))
 obtain ⟨L,eL⟩:∃ L,ps.length=L:=⟨_,rfl⟩
 have hs0:Dk.Sep W w (Dk.rowOf 324 2 (.slice none 0 0) 0 (Dk.pr2 (ps.take 0))::Dk.rowOf e q (.slice (some ⟨g,0,none⟩) n C) n Hs::mapOf bm (ps.drop 0)::Dk.rowOf 3 1 u ps.length (Dk.is (ps.map Prod.fst))::us):=(h.perm ((List.Perm.swap _ _ _).cons _)).nil _ _
 have HI:Hid (∀ p ∈ ps,Dk.i64 p.1):=hi
 have HL:Hid (ps.length=L):=eL
 have H0:Hid (Hs[o]? = some u):=h0
 have H1:Hid (Hs[o+1]? = some (.map (some bm))):=h1
 rw [eL] at hl hC0 eu
 subst eu
 unfold maxLen at hm0
 clear h hi eL h0 h1
 go_enter Tryz.func247,Tryz.ntmps247
 go_wp2_with fail
 go_loopw [3,12] (fun v i w'=>∃ j:Nat,j≤L∧i=.int .i64 j∧Dk.Sep W w' (Dk.rowOf 324 2 v j (Dk.pr2 (ps.take j))::Dk.rowOf e q (.slice (some ⟨g,0,none⟩) n C) n Hs::mapOf bm (ps.drop j)::Dk.rowOf 3 1 (.slice A0 L C0) ps.length (Dk.is (ps.map Prod.fst))::us)) (fun v i w'=>L - (intOf i).toNat)
 case atStart=>exact ⟨0,Nat.zero_le _,rfl,hs0⟩
 case round=>
  obtain ⟨j,hj,rfl,hT⟩:=hrel
  clear hs0 cu
  by_cases hlt:j < L
  ·have z1:decide ((j:Int) < (L:Int))=true:=decide_eq_true (by omega)
   have hjL:(j:Int) < (L:Int):=by omega
   have hjp:j < ps.length:=by have:=HL.out;omega
   obtain ⟨⟨x,m⟩,ep⟩:=Dk.zcx hjp
   have hix:=HI.out _ (List.mem_of_getElem? ep)
   have hr:=hT.row (e:=3) (s:=1) (v:=.slice A0 L C0) (n:=ps.length) (xs:=Dk.is (ps.map Prod.fst)) (by simp)
   obtain ⟨gu,Cu,y,eu,_,_,hy,cx,_,_⟩:=Dk.zbf hr hjp
   rw [List.getElem?_map,List.getElem?_map,ep] at hy
   simp at hy
   subst hy
   injection eu with eA eL' eC
   subst eA eC
   have K:=zle (us:=_) ((hT.perm ((List.Perm.swap _ _ _).trans ((List.Perm.swap _ _ _).cons _)))) H1.out (k:=0) (who:=x) (m:=m) hix (by rw [List.getElem?_drop,Nat.add_zero];exact ep)
   obtain ⟨Av,Cv,ev,_,_⟩:=Dk.zc (hT.row (e:=324) (s:=2) (v:=u3) (n:=j) (xs:=Dk.pr2 (ps.take j)) (by simp))
   subst ev
   have ed:(ps.drop j).eraseIdx 0=ps.drop (j+1):=by rw [List.eraseIdx_zero,List.tail_drop]
   rw [ed] at K
   have et:Dk.pr2 (ps.take j)++[.int .i64 x,.int .i64 m]=Dk.pr2 (ps.take (j+1)):=by
    rw [List.take_add_one,ep,Option.toList_some,Dk.zgc]
    rfl
   have ET:Hid _:=et
   clear hT hr ed et eL' ep
   go_wp2_with fail
   refine K.mono ?_
   rintro e' w1 ⟨rfl,h2⟩
   have h3:=h2.perm ((List.Perm.swap _ _ _).cons _ |>.trans (List.Perm.swap _ _ _))
   obtain ⟨v',w4,hrun,h4,_⟩:=Dk.Sep.appendK (us1:=[]) K79 h3 [.int .i64 x,.int .i64 m] rfl (by simp [Value.oneCell']) (by omega)
   rw [ET.out] at h4
   obtain ⟨Av',Cv',ev',_,_⟩:=Dk.zc (h4.row (e:=324) (s:=2) (v:=v') (n:=j+1) (xs:=Dk.pr2 (ps.take (j+1))) (by simp))
   subst ev'
   clear h2 h3 K
   go_wp2_with (at_builtin;refine Lib.wpList_append_run _ rfl _ _ _ _ rfl _ _ rfl rfl _ _ hrun ?_)
   go_roundw
   case rel=>exact ⟨j+1,by omega,by go_num,h4⟩
   case measure=>simp [intOf];omega
  ·obtain rfl:j=L:=by omega
   have z1:decide ((j:Int) < (j:Int))=false:=decide_eq_false (by omega)
   rw [show ps.take j=ps by rw [← HL.out];exact List.take_length,show ps.drop j=[] by rw [← HL.out];exact List.drop_length] at hT
   obtain ⟨c0,f0,s0⟩:=Dk.Sep.cellg (us1:=[_]) hT hlen H0.out
   have s1:=s0 (.slice none 0 0)
   have s2:=(s1.perm (us:=Dk.rowOf 324 2 u3 j (Dk.pr2 ps)::Dk.rowOf e q (.slice (some ⟨g,0,none⟩) n C) n (Hs.set o (.slice none 0 0))::Dk.rowOf 3 1 (.slice A0 j C0) ps.length (Dk.is (ps.map Prod.fst))::mapOf bm []::us) (((List.Perm.swap _ _ _).cons _).cons _)).nil 3 1
   have s3:=s2.perm (us:=Dk.rowOf 3 1 (.slice A0 j C0) ps.length (Dk.is (ps.map Prod.fst))::Dk.rowOf 324 2 u3 j (Dk.pr2 ps)::Dk.rowOf e q (.slice (some ⟨g,0,none⟩) n C) n (Hs.set o (.slice none 0 0))::Dk.rowOf 3 1 (.slice none 0 0) 0 []::mapOf bm []::us) (by
    refine (List.Perm.swap _ _ _).trans ?_
    refine ((List.Perm.swap _ _ _).cons _).trans ?_
    refine (((List.Perm.swap _ _ _).cons _).cons _).trans ?_
    refine ((List.Perm.swap _ _ _).cons _).trans ?_
    exact List.Perm.swap _ _ _)
   have s4:=s3.sub (List.sublist_cons_self _ _)
   obtain ⟨Av,Cv,ev,_,_⟩:=Dk.zc (hT.row (e:=324) (s:=2) (v:=u3) (n:=j) (xs:=Dk.pr2 ps) (by simp))
   subst ev
   have HS:Hid _:=s4
   clear s0 s1 s2 s3 s4 hT
   go_wp2_with fail
   go_ret
   rw [HL.out]
   exact ⟨_,_,rfl,HS.out⟩
theorem zje (h:Dk.Sep W w (Dk.rowOf e q (.slice (some ⟨g,0,none⟩) n C) n Hs::Dk.rowOf 3 1 u ps.length (Dk.is (ps.map Prod.fst))::mapOf bm ps::us)) (h0:Hs[o]? = some u) (h1:Hs[o+1]? = some (.map (some bm))) (hi:∀ p ∈ ps,Dk.i64 p.1) (hl:ps.length≤1000) (ch:Int) :
  Calls Tryz.prog 234 #[.pointer (some ⟨g,o,none⟩),.int .i64 ch,.bool true] w fun e' w'=>∃ A Ca,e'=.returned (.slice A ps.length Ca)∧Dk.Sep W w' (Dk.rowOf 324 2 (.slice A ps.length Ca) ps.length (Dk.pr2 ps)::Dk.rowOf e q (.slice (some ⟨g,0,none⟩) n C) n (Hs.set o (.slice none 0 0))::Dk.rowOf 3 1 (.slice none 0 0) 0 []::mapOf bm []::us):=by
 have K:=zkc h h0 h1 hi hl
 clear h h0 h1 hi
 go_enter Tryz.func234,Tryz.ntmps234
 go_wp2_with fail
 refine K.mono ?_
 rintro e' w' ⟨A,Ca,rfl,h'⟩
 clear K
 go_wp2_with fail
 go_ret
 exact ⟨_,_,rfl,h'⟩
theorem zib {A:Option Addr} {Ca:Nat} (c0:w.cell? ⟨g,o,none⟩=some (.slice A 0 Ca)) (ch:Int) :
  Calls Tryz.prog 234 #[.pointer (some ⟨g,o,none⟩),.int .i64 ch,.bool false] w fun e' w'=>e'=.returned (.slice none 0 0)∧w'=w:=by
 have K:=zdm c0 ch
 go_enter Tryz.func234,Tryz.ntmps234
 go_wp2_with fail
 refine K.mono ?_
 rintro e' w' ⟨rfl,hw'⟩
 subst w'
 clear K
 go_wp2_with fail
 go_ret
 exact ⟨rfl,rfl⟩
theorem zjf (h:Dk.Sep W w (Dk.rowOf e q (.slice (some ⟨g,0,none⟩) n C) n Hs::Dk.rowOf 3 1 u ps.length (Dk.is (ps.map Prod.fst))::mapOf bm ps::us)) (h0:Hs[o]? = some u) (h1:Hs[o+1]? = some (.map (some bm))) (hi:∀ p ∈ ps,Dk.i64 p.1) (hl:ps.length≤1000) (hn:0 < ps.length) (ch:Int) (hch:Dk.i64 ch) (a:Nat) (ea:Dk.at_ ch ps.length=a) (p:Int × Int) (ep:ps[a]? = some p) :
  Calls Tryz.prog 234 #[.pointer (some ⟨g,o,none⟩),.int .i64 ch,.bool false] w fun e' w'=>∃ u' A Ca,e'=.returned (.slice A 1 Ca)∧Dk.Sep W w' (Dk.rowOf 324 2 (.slice A 1 Ca) 1 (Dk.pr2 [p])::Dk.rowOf e q (.slice (some ⟨g,0,none⟩) n C) n (Hs.set o u')::Dk.rowOf 3 1 u' (ps.eraseIdx a).length (Dk.is ((ps.eraseIdx a).map Prod.fst))::mapOf bm (ps.eraseIdx a)::us):=by
 obtain ⟨x,m⟩:=p
 have hlen:Hs.length=n*q:=h.rowLen (List.mem_cons_self ..)
 have h':Dk.Sep W w (Dk.rowOf e q (.slice (some ⟨g,0,none⟩) n C) n Hs::Dk.rowOf 3 1 u (ps.map Prod.fst).length (Dk.is (ps.map Prod.fst))::mapOf bm ps::us):=by rw [List.length_map];exact h
 have K:=zfk (xs:=ps.map Prod.fst) h' h0 ch hch (by rw [List.length_map];exact hn) (by rw [List.length_map];exact hl) a (by rw [List.length_map];exact ea)
 have ex:(ps.map Prod.fst).getD a 0=x:=Dk.getD_some (by rw [List.getElem?_map,ep];rfl) 0
 have ee:(ps.map Prod.fst).eraseIdx a=(ps.eraseIdx a).map Prod.fst:=by
  rw [List.eraseIdx_eq_take_drop_succ,List.eraseIdx_eq_take_drop_succ,List.map_append,List.map_take,List.map_drop]
 rw [ex,ee] at K
 have hix:=hi _ (List.mem_of_getElem? ep)
 have H1:Hid (Hs[o+1]? = some (.map (some bm))):=h1
 have EP:Hid (ps[a]? = some (x,m)):=ep
 clear h h' h0 h1 hi hch ea ex ee ep
 go_enter Tryz.func234,Tryz.ntmps234
 go_wp2_with fail
 refine K.mono ?_
 rintro e' w1 ⟨rfl,u',h2⟩
 have K2:=zle (us:=_) (h2.perm ((List.Perm.swap _ _ _).cons _)) (o:=o) (by rw [List.getElem?_set_ne (by omega)];exact H1.out) (k:=a) (who:=x) (m:=m) hix EP.out
 clear h2 K
 go_wp2_with fail
 refine K2.mono ?_
 rintro e' w2 ⟨rfl,h3⟩
 have h4:=h3.perm ((List.Perm.swap _ _ _).cons _)
 obtain ⟨W5,e5⟩:∃ W5,W5=w2.alloc (.cells #[.int .i64 x,.int .i64 m] 324):=⟨_,rfl⟩
 have h5:Dk.Sep W W5 (Dk.rowOf 324 2 (.slice (some ⟨w2.heap.size,0,none⟩) 1 1) 1 (Dk.pr2 [(x,m)])::_):=h4.addRow (by rw [e5];exact Dk.zb (Below.refl _ _) _) (by
  rw [e5]
  exact World.ownsRow_lit w2 #[.int .i64 x,.int .i64 m] 1 (Nat.le_refl _) (by unfold maxLen;omega) (by simp))
 have H5:Hid (w2.alloc (.cells #[.int .i64 x,.int .i64 m] 324)=W5):=e5.symm
 have HS:Hid _:=h5
 clear h3 h4 h5 e5 K2 EP
 go_wp2_with (rw [H5.out];clear H5)
 go_ret
 rw [List.length_map] at HS
 exact ⟨_,_,_,rfl,HS.out⟩
end
open Go.RowKit
structure Mx where
 u:Value
 xs:List Int
 owner:Int
 owned:Bool
structure Cx where
 u:Value
 xs:List (Int × Int)
 bm:Nat
structure Sx where
 u:Value
 xs:List Int
 count:Int
def Mx.cells (m:Mx):List Value:=[m.u,.int .i64 m.owner,.bool m.owned]
def Cx.cells (c:Cx):List Value:=[c.u,.map (some c.bm)]
def Sx.cells (s:Sx):List Value:=[s.u,.int .i64 s.count]
theorem Mx.len (m:Mx):m.cells.length=3:=rfl
theorem Cx.len (c:Cx):c.cells.length=2:=rfl
theorem Sx.len (s:Sx):s.cells.length=2:=rfl
def Mx.row (m:Mx):Dk.Thing:=Dk.rowOf 3 1 m.u m.xs.length (Dk.is m.xs)
def Cx.row (c:Cx):Dk.Thing:=Dk.rowOf 3 1 c.u c.xs.length (Dk.is (c.xs.map Prod.fst))
def Cx.mp (c:Cx):Dk.Thing:=mapOf c.bm c.xs
def Sx.row (s:Sx):Dk.Thing:=Dk.rowOf 3 1 s.u s.xs.length (Dk.is s.xs)
def hdM (v:Value) (ms:List Mx):Dk.Thing:=Dk.rowOf 288 3 v ms.length (ms.flatMap Mx.cells)
def hdC (v:Value) (cs:List Cx):Dk.Thing:=Dk.rowOf 169 2 v cs.length (cs.flatMap Cx.cells)
def hdS (v:Value) (ss:List Sx):Dk.Thing:=Dk.rowOf 171 2 v ss.length (ss.flatMap Sx.cells)
def bxG (b:Nat) (vm vc vs:Value):Dk.Thing:=Dk.boxOf b #[vm,vc,vs] 164
def gts (b:Nat) (vm vc vs:Value) (ms:List Mx) (cs:List Cx) (ss:List Sx):List Dk.Thing:=
 bxG b vm vc vs::hdM vm ms::hdC vc cs::hdS vs ss::(ms.map Mx.row++(cs.map Cx.row++(cs.map Cx.mp++ss.map Sx.row)))
structure Like (S:Dk.St) (ms:List Mx) (cs:List Cx) (ss:List Sx):Prop where
 len:ms.length=S.owner.length
 held:ms.map Mx.owned=S.held
 wait:ms.map Mx.xs=S.wait
 own:∀ (i:Nat) m,ms[i]? = some m→m.owner=if m.owned then S.owner.getD i 0 else 0
 conds:cs.map Cx.xs=S.conds
 count:ss.map Sx.count=S.count
 downs:ss.map Sx.xs=S.downs
 fair:Dk.Fair S
def G0 (b:Nat) (S:Dk.St) (ts:List Dk.Thing):Prop:=∃ vm vc vs ms cs ss,ts=gts b vm vc vs ms cs ss∧Like S ms cs ss
theorem perm1 {α:Type} (us:List α) (B M C S r:α) (x:List α):(us++(B::M::C::S::(r::x))).Perm (M::r::(us++(B::C::S::x))):=by
 refine List.Perm.trans (l₂:=us++(M::r::B::C::S::x)) (List.Perm.append_left us ?_) (List.perm_middle.trans (List.perm_middle.cons M))
 exact (List.Perm.swap _ _ _).trans ((List.perm_middle (l₁:=[B,C,S])).cons M)
def restM (us:List Dk.Thing) (b:Nat) (vm vc vs:Value) (ms:List Mx) (cs:List Cx) (ss:List Sx) (i:Nat):List Dk.Thing:=
 us++(bxG b vm vc vs::hdC vc cs::hdS vs ss::((ms.eraseIdx i).map Mx.row++(cs.map Cx.row++(cs.map Cx.mp++ss.map Sx.row))))
def restC (us:List Dk.Thing) (b:Nat) (vm vc vs:Value) (ms:List Mx) (cs:List Cx) (ss:List Sx) (i:Nat):List Dk.Thing:=
 us++(bxG b vm vc vs::hdM vm ms::hdS vs ss::(ms.map Mx.row++((cs.eraseIdx i).map Cx.row++((cs.eraseIdx i).map Cx.mp++ss.map Sx.row))))
def restS (us:List Dk.Thing) (b:Nat) (vm vc vs:Value) (ms:List Mx) (cs:List Cx) (ss:List Sx) (i:Nat):List Dk.Thing:=
 us++(bxG b vm vc vs::hdM vm ms::hdC vc cs::(ms.map Mx.row++(cs.map Cx.row++(cs.map Cx.mp++(ss.eraseIdx i).map Sx.row))))
section
variable {W w : World} {b i : Nat} {vm vc vs : Value} {ms : List Mx} {cs : List Cx} {ss : List Sx} {us : List Dk.Thing} {m m' : Mx} {c c' : Cx} {s s' : Sx}
theorem permM (h:ms[i]? = some m):(us++gts b vm vc vs ms cs ss).Perm (hdM vm ms::m.row::restM us b vm vc vs ms cs ss i):=by
 have p:=((Dk.zcz ms i m h).map Mx.row).append_right (cs.map Cx.row++(cs.map Cx.mp++ss.map Sx.row))
 exact (List.Perm.append_left us ((((p.cons _).cons _).cons _).cons _)).trans (perm1 us _ _ _ _ _ _)
theorem permC (h:cs[i]? = some c):(us++gts b vm vc vs ms cs ss).Perm (hdC vc cs::c.row::c.mp::restC us b vm vc vs ms cs ss i):=by
 have p1:=((Dk.zcz cs i c h).map Cx.row).append (((Dk.zcz cs i c h).map Cx.mp).append_right (ss.map Sx.row))
 rw [List.map_cons,List.map_cons] at p1
 have p2:(c.row::(cs.eraseIdx i).map Cx.row++(c.mp::(cs.eraseIdx i).map Cx.mp++ss.map Sx.row)).Perm (c.row::c.mp::((cs.eraseIdx i).map Cx.row++((cs.eraseIdx i).map Cx.mp++ss.map Sx.row))):=List.perm_middle.cons _
 have p3:(ms.map Mx.row++(cs.map Cx.row++(cs.map Cx.mp++ss.map Sx.row))).Perm (c.row::c.mp::(ms.map Mx.row++((cs.eraseIdx i).map Cx.row++((cs.eraseIdx i).map Cx.mp++ss.map Sx.row)))):=
  (List.Perm.append_left _ (p1.trans p2)).trans (List.perm_middle.trans (List.perm_middle.cons _))
 have p4:(us++gts b vm vc vs ms cs ss).Perm (us++(bxG b vm vc vs::hdC vc cs::hdM vm ms::hdS vs ss::(c.row::c.mp::(ms.map Mx.row++((cs.eraseIdx i).map Cx.row++((cs.eraseIdx i).map Cx.mp++ss.map Sx.row)))))):=
  List.Perm.append_left us ((List.Perm.swap _ _ _).trans (((p3.cons _).cons _).cons _) |>.cons _)
 refine p4.trans ((perm1 us _ _ _ _ _ _).trans ?_)
 refine List.Perm.cons _ (List.Perm.cons _ ?_)
 refine (List.Perm.append_left us (List.perm_middle (l₁:=[bxG b vm vc vs,hdM vm ms,hdS vs ss]))).trans ?_
 exact List.perm_middle
theorem permS (h:ss[i]? = some s):(us++gts b vm vc vs ms cs ss).Perm (hdS vs ss::s.row::restS us b vm vc vs ms cs ss i):=by
 have p1:=List.Perm.append_left (ms.map Mx.row) (List.Perm.append_left (cs.map Cx.row) (List.Perm.append_left (cs.map Cx.mp) ((Dk.zcz ss i s h).map Sx.row)))
 have p2:(ms.map Mx.row++(cs.map Cx.row++(cs.map Cx.mp++(s.row::(ss.eraseIdx i).map Sx.row)))).Perm (s.row::(ms.map Mx.row++(cs.map Cx.row++(cs.map Cx.mp++(ss.eraseIdx i).map Sx.row)))):=
  (List.Perm.append_left _ ((List.Perm.append_left _ List.perm_middle).trans List.perm_middle)).trans List.perm_middle
 have p4:(us++gts b vm vc vs ms cs ss).Perm (us++(bxG b vm vc vs::hdS vs ss::hdM vm ms::hdC vc cs::(s.row::(ms.map Mx.row++(cs.map Cx.row++(cs.map Cx.mp++(ss.eraseIdx i).map Sx.row)))))):=by
  refine List.Perm.append_left us (List.Perm.cons _ ?_)
  refine List.Perm.trans ?_ (List.Perm.cons _ (List.Perm.cons _ (List.Perm.cons _ (p1.trans p2))))
  exact List.perm_middle (l₁:=[hdM vm ms,hdC vc cs])
 exact p4.trans (perm1 us _ _ _ _ _ _)
theorem focusM (h:Dk.Sep W w (us++gts b vm vc vs ms cs ss)) (hm:ms[i]? = some m):Dk.Sep W w (hdM vm ms::m.row::restM us b vm vc vs ms cs ss i):=h.perm (permM hm)
theorem focusC (h:Dk.Sep W w (us++gts b vm vc vs ms cs ss)) (hc:cs[i]? = some c):Dk.Sep W w (hdC vc cs::c.row::c.mp::restC us b vm vc vs ms cs ss i):=h.perm (permC hc)
theorem focusS (h:Dk.Sep W w (us++gts b vm vc vs ms cs ss)) (hs:ss[i]? = some s):Dk.Sep W w (hdS vs ss::s.row::restS us b vm vc vs ms cs ss i):=h.perm (permS hs)
theorem backM (hi:i < ms.length) (h:Dk.Sep W w (hdM vm (ms.set i m')::m'.row::restM us b vm vc vs ms cs ss i)):Dk.Sep W w (us++gts b vm vc vs (ms.set i m') cs ss):=by
 refine h.perm (List.Perm.symm ?_)
 have:=permM (us:=us) (b:=b) (vm:=vm) (vc:=vc) (vs:=vs) (cs:=cs) (ss:=ss) (ms:=ms.set i m') (i:=i) (m:=m') (List.getElem?_set_self hi)
 unfold restM at this ⊢
 rw [List.eraseIdx_set_eq] at this
 exact this
theorem backC (hi:i < cs.length) (h:Dk.Sep W w (hdC vc (cs.set i c')::c'.row::c'.mp::restC us b vm vc vs ms cs ss i)):Dk.Sep W w (us++gts b vm vc vs ms (cs.set i c') ss):=by
 refine h.perm (List.Perm.symm ?_)
 have:=permC (us:=us) (b:=b) (vm:=vm) (vc:=vc) (vs:=vs) (ms:=ms) (ss:=ss) (cs:=cs.set i c') (i:=i) (c:=c') (List.getElem?_set_self hi)
 unfold restC at this ⊢
 rw [List.eraseIdx_set_eq] at this
 exact this
theorem backS (hi:i < ss.length) (h:Dk.Sep W w (hdS vs (ss.set i s')::s'.row::restS us b vm vc vs ms cs ss i)):Dk.Sep W w (us++gts b vm vc vs ms cs (ss.set i s')):=by
 refine h.perm (List.Perm.symm ?_)
 have:=permS (us:=us) (b:=b) (vm:=vm) (vc:=vc) (vs:=vs) (ms:=ms) (cs:=cs) (ss:=ss.set i s') (i:=i) (s:=s') (List.getElem?_set_self hi)
 unfold restS at this ⊢
 rw [List.eraseIdx_set_eq] at this
 exact this
theorem shapeM (h:Dk.Sep W w (us++gts b vm vc vs ms cs ss)):∃ A C,vm=.slice A ms.length C∧ms.length≤C∧C≤maxLen:=Dk.zc (h.row (e:=288) (s:=3) (v:=vm) (n:=ms.length) (xs:=ms.flatMap Mx.cells) (by simp [gts,hdM]))
theorem shapeC (h:Dk.Sep W w (us++gts b vm vc vs ms cs ss)):∃ A C,vc=.slice A cs.length C∧cs.length≤C∧C≤maxLen:=Dk.zc (h.row (e:=169) (s:=2) (v:=vc) (n:=cs.length) (xs:=cs.flatMap Cx.cells) (by simp [gts,hdC]))
theorem shapeS (h:Dk.Sep W w (us++gts b vm vc vs ms cs ss)):∃ A C,vs=.slice A ss.length C∧ss.length≤C∧C≤maxLen:=Dk.zc (h.row (e:=171) (s:=2) (v:=vs) (n:=ss.length) (xs:=ss.flatMap Sx.cells) (by simp [gts,hdS]))
theorem headG (h:Dk.Sep W w (us++gts b vm vc vs ms cs ss)):Dk.Box w b #[vm,vc,vs] 164:=h.box (by simp [gts,bxG])
theorem someM (h:Dk.Sep W w (us++gts b vm vc vs ms cs ss)) (hi:i < ms.length):∃ g C,vm=.slice (some ⟨g,0,none⟩) ms.length C∧ms.length≤C∧C≤maxLen:=by
 obtain ⟨g,C,x,e1,e2,e3,_⟩:=Dk.zbb (k:=i*3) (h.row (e:=288) (s:=3) (v:=vm) (n:=ms.length) (xs:=ms.flatMap Mx.cells) (by simp [gts,hdM])) (by omega)
 exact ⟨g,C,e1,e2,e3⟩
theorem someC (h:Dk.Sep W w (us++gts b vm vc vs ms cs ss)) (hi:i < cs.length):∃ g C,vc=.slice (some ⟨g,0,none⟩) cs.length C∧cs.length≤C∧C≤maxLen:=by
 obtain ⟨g,C,x,e1,e2,e3,_⟩:=Dk.zbb (k:=i*2) (h.row (e:=169) (s:=2) (v:=vc) (n:=cs.length) (xs:=cs.flatMap Cx.cells) (by simp [gts,hdC])) (by omega)
 exact ⟨g,C,e1,e2,e3⟩
theorem someS (h:Dk.Sep W w (us++gts b vm vc vs ms cs ss)) (hi:i < ss.length):∃ g C,vs=.slice (some ⟨g,0,none⟩) ss.length C∧ss.length≤C∧C≤maxLen:=by
 obtain ⟨g,C,x,e1,e2,e3,_⟩:=Dk.zbb (k:=i*2) (h.row (e:=171) (s:=2) (v:=vs) (n:=ss.length) (xs:=ss.flatMap Sx.cells) (by simp [gts,hdS])) (by omega)
 exact ⟨g,C,e1,e2,e3⟩
end
theorem lift {α:Type} {p:α→Prop}:∀ (l:List α),(∀ a ∈ l,p a)→∃ zs:List {a // p a},zs.map Subtype.val=l
 | [],_=>⟨[],rfl⟩
 | a::r,h=>by
  obtain ⟨zs,hz⟩:=lift r (fun x hx=>h x (List.mem_cons_of_mem _ hx))
  exact ⟨⟨a,h a (List.mem_cons_self ..)⟩::zs,by rw [List.map_cons,hz]⟩
end Go.Proofs.YtglhhlfopccmaaaGreat
namespace Go.Proofs
open Go.Shelf
def Tryz.layM_ren:Go.Shelf.Ren:=⟨fun | 8=>224 | 6=>244 | n=>n,fun | 22=>159 | 23=>288 | 25=>313 | 4=>4 | 3=>3 | 0=>0 | n=>n,fun | n=>n⟩
theorem Tryz.layM:Go.Proofs.SlLaysH0.n8 Tryz.prog Tryz.layM_ren:={
 mixed:=by kernel_rfl
 f6:=⟨Tryz.f244.name,by decide,Tryz.func244.trans (congrArg some (by kernel_rfl))⟩
 f8:=⟨Tryz.f224.name,by decide,Tryz.func224.trans (congrArg some (by kernel_rfl))⟩
 t0:=Tryz.underlying0
 a0:=Tryz.isAgg0
 z0:=Tryz.sizeOf0
 v0:=Tryz.zeroValue0
 t3:=Tryz.underlying3
 a3:=Tryz.isAgg3
 z3:=Tryz.sizeOf3
 v3:=Tryz.zeroValue3
 t4:=Tryz.underlying4
 a4:=Tryz.isAgg4
 z4:=Tryz.sizeOf4
 v4:=Tryz.zeroValue4
 t22:=Tryz.underlying159
 a22:=Tryz.isAgg159
 z22:=Tryz.sizeOf159
 v22:=Tryz.zeroValue159
 t25:=Tryz.underlying313
 a25:=Tryz.isAgg313
 z25:=Tryz.sizeOf313
 v25:=Tryz.zeroValue313 }
def Tryz.layC_ren:Go.Shelf.Ren:=⟨fun | 8=>227 | 6=>245 | n=>n,fun | 22=>161 | 23=>169 | 25=>315 | 4=>4 | 3=>3 | 0=>0 | n=>n,fun | n=>n⟩
theorem Tryz.layC:Go.Proofs.SlLaysH0.n8 Tryz.prog Tryz.layC_ren:={
 mixed:=by kernel_rfl
 f6:=⟨Tryz.f245.name,by decide,Tryz.func245.trans (congrArg some (by kernel_rfl))⟩
 f8:=⟨Tryz.f227.name,by decide,Tryz.func227.trans (congrArg some (by kernel_rfl))⟩
 t0:=Tryz.underlying0
 a0:=Tryz.isAgg0
 z0:=Tryz.sizeOf0
 v0:=Tryz.zeroValue0
 t3:=Tryz.underlying3
 a3:=Tryz.isAgg3
 z3:=Tryz.sizeOf3
 v3:=Tryz.zeroValue3
 t4:=Tryz.underlying4
 a4:=Tryz.isAgg4
 z4:=Tryz.sizeOf4
 v4:=Tryz.zeroValue4
 t22:=Tryz.underlying161
 a22:=Tryz.isAgg161
 z22:=Tryz.sizeOf161
 v22:=Tryz.zeroValue161
 t25:=Tryz.underlying315
 a25:=Tryz.isAgg315
 z25:=Tryz.sizeOf315
 v25:=Tryz.zeroValue315 }
def Tryz.layS_ren:Go.Shelf.Ren:=⟨fun | 8=>229 | 6=>246 | n=>n,fun | 22=>162 | 23=>171 | 25=>317 | 4=>4 | 3=>3 | 0=>0 | n=>n,fun | n=>n⟩
theorem Tryz.layS:Go.Proofs.SlLaysH0.n8 Tryz.prog Tryz.layS_ren:={
 mixed:=by kernel_rfl
 f6:=⟨Tryz.f246.name,by decide,Tryz.func246.trans (congrArg some (by kernel_rfl))⟩
 f8:=⟨Tryz.f229.name,by decide,Tryz.func229.trans (congrArg some (by kernel_rfl))⟩
 t0:=Tryz.underlying0
 a0:=Tryz.isAgg0
 z0:=Tryz.sizeOf0
 v0:=Tryz.zeroValue0
 t3:=Tryz.underlying3
 a3:=Tryz.isAgg3
 z3:=Tryz.sizeOf3
 v3:=Tryz.zeroValue3
 t4:=Tryz.underlying4
 a4:=Tryz.isAgg4
 z4:=Tryz.sizeOf4
 v4:=Tryz.zeroValue4
 t22:=Tryz.underlying162
 a22:=Tryz.isAgg162
 z22:=Tryz.sizeOf162
 v22:=Tryz.zeroValue162
 t25:=Tryz.underlying317
 a25:=Tryz.isAgg317
 z25:=Tryz.sizeOf317
 v25:=Tryz.zeroValue317 }
end Go.Proofs
namespace Go.Proofs.YtglhhlfopccmaaaGreat
open Go.RowKit Go.Lib
abbrev Mx.In (w:World):Type:={m:Mx // w.ownsRow 0 3 1 m.u m.xs.length (Dk.is m.xs)∧∀ x ∈ m.xs,Dk.i64 x}
theorem theirsM (x:Int) (b:Nat) (w:World) (hb:b < w.heap.size) (hcell:w.cell? ⟨b,0,none⟩=some (.int .i64 x)) :
  PredBelow Tryz.prog 225 #[.pointer (some ⟨b,0,none⟩)] (fun z:Mx.In w=>.agg z.1.cells.toArray) (fun z=>z.1.xs.contains x) w:=by
 rintro W ⟨⟨u,xs,ow,od⟩,hr,hi⟩ hB
 have hc:W.cell? ⟨b,0,none⟩=some (.int .i64 x):=(hB.cell (p:=⟨b,0,none⟩) hb).trans hcell
 have hbW:b < W.heap.size:=Nat.lt_of_lt_of_le hb hB.size
 obtain ⟨ys,ey⟩:∃ ys,xs=ys:=⟨_,rfl⟩
 have hr1:w.ownsRow 0 3 1 u ys.length (Dk.is ys):=by rw [← ey];simpa using hr
 have hi1:∀ x ∈ ys,Dk.i64 x:=by rw [← ey];exact hi
 obtain ⟨A,C,eu,hs⟩:=Dk.zbe hr1 hi1
 have eu:u=.slice A ys.length C:=eu
 subst eu
 have hs':=(hs.below hB (Nat.le_refl _)).more hB.size
 obtain ⟨W1,e1⟩:∃ W1,W1=W.alloc (.cells #[.slice A ys.length C,.int .i64 ow,.bool od] 288):=⟨_,rfl⟩
 have u1:Below W.heap.size W W1:=by rw [e1];exact Dk.zb (Below.refl _ _) _
 have b1:Dk.Box W1 W.heap.size #[.slice A ys.length C,.int .i64 ow,.bool od] 288:=by rw [e1];exact Dk.Box.new _ _ _
 have c1:W1.cell? ⟨W.heap.size,0,none⟩=some (.slice A ys.length C):=b1.cell 0
 have c2:W1.cell? ⟨b,0,none⟩=some (.int .i64 x):=(u1.cell (p:=⟨b,0,none⟩) hbW).trans hc
 have K:=zjn c1 ((hs'.below u1 (Nat.le_refl _)).more u1.size) x
 have HU:Hid _:=Dk.zi hB u1
 have H1:Hid (W.alloc (.cells #[.slice A ys.length C,.int .i64 ow,.bool od] 288)=W1):=e1.symm
 show Calls Tryz.prog 225 #[.agg #[.slice A ys.length C,.int .i64 ow,.bool od],.pointer (some ⟨b,0,none⟩)] W fun e w'=>e=.returned (.bool (xs.contains x))∧_
 rw [ey]
 generalize ys.contains x=r at K ⊢
 clear hs hs' hr hi hr1 hi1 ey u1 b1 e1 c1 hcell hc
 go_enter Tryz.func225,Tryz.ntmps225
 go_wp2_with (rw [H1.out];clear H1)
 refine K.mono ?_
 rintro e w' ⟨rfl,hw'⟩
 subst w'
 clear K
 go_wp2_with fail
 go_ret
 exact ⟨rfl,HU.out⟩
theorem noneM (fv:Value) (w:World):Calls Tryz.prog 224 #[.slice none 0 0,fv] w fun e w'=>e=.returned (.bool false)∧w'=w:=by
 have K:Calls Tryz.prog 244 #[.slice none 0 0,fv] w fun e w'=>e=.returned (.int .i64 (-1))∧w'=w:=by
  go_enter Tryz.func244,Tryz.ntmps244
  go_wp2
  go_loopw [8] (fun i w'=>i=.int .i64 0∧Hid (w'=w)) (fun i w'=>0)
  case atStart=>exact ⟨rfl,rfl⟩
  case round=>
   obtain ⟨rfl,HW⟩:=hrel
   go_wp2
   go_ret
   exact ⟨rfl,HW.out⟩
 go_enter Tryz.func224,Tryz.ntmps224
 go_wp2_with fail
 refine K.mono ?_
 rintro e w' ⟨rfl,hw'⟩
 subst w'
 clear K
 go_wp2_with fail
 go_ret
 exact ⟨rfl,rfl⟩
theorem containsM (B:Nat) (v:Value) (ms:List Mx) (x:Int) (b:Nat) (w:World) (h:w.ownsRow B 288 3 v ms.length (ms.flatMap Mx.cells)) (hrs:∀ m ∈ ms,w.ownsRow 0 3 1 m.u m.xs.length (Dk.is m.xs)∧∀ x ∈ m.xs,Dk.i64 x) (hb:b < w.heap.size) (hcell:w.cell? ⟨b,0,none⟩=some (.int .i64 x)) :
  Calls Tryz.prog 224 #[v,.func (.func 225) #[] #[.pointer (some ⟨b,0,none⟩)]] w fun e w'=>e=.returned (.bool (ms.any fun m=>m.xs.contains x))∧Below w.heap.size w w':=by
 obtain ⟨hl,⟨rfl,h0⟩ | ⟨g,cap,cur,rfl,hgb,hg,hn,hm,hs,ht⟩⟩:=id h
 ·obtain rfl:ms=[]:=List.eq_nil_of_length_eq_zero h0
  refine (noneM _ w).mono ?_
  rintro e w' ⟨rfl,rfl⟩
  exact ⟨rfl,Below.refl _ _⟩
 ·have eg:∀ args w,(callFunc 225 args).run Tryz.prog w=.ok (.enter 225 args) w:=enters_of Tryz.func225 (by kernel_rfl) rfl
  unfold maxLen at hm
  have hcells:=h.cells (g:=g) rfl
  haveI:Inhabited (Mx.In w):=⟨⟨⟨.slice none 0 0,[],0,false⟩,World.ownsRow_nil _ _ _ _,fun x hx=>absurd hx (by simp)⟩⟩
  obtain ⟨zs,hz⟩:=lift ms hrs
  have hzl:zs.length=ms.length:=by rw [← hz,List.length_map]
  have hcon:=AnyQ.slices_ContainsFunc (α:=Mx.In w) Tryz.layM 3 Tryz.isAgg288 Tryz.sizeOf288 (fun z=>z.1.cells) (fun _=>rfl) (fun z=>z.1.xs.contains x) 225 #[.pointer (some ⟨b,0,none⟩)] eg g 0 ms.length cap zs w (theirsM x b w hb hcell) (Nat.le_of_eq hzl.symm) (by omega) (Array.getElem?_eq_some_iff.1 hg).1 (fun j hj i u hi=>by
   have e0:ms[j]? = some zs[j]!.1:=by
    rw [← hz,List.getElem?_map,List.getElem?_eq_getElem hj]
    simp [getElem!_pos,hj]
   have hi2:i < 3:=by
    have h2:i < (zs[j]!.1.cells).length:=Dk.zv hi
    rw [Mx.len] at h2
    exact h2
   have h1:=Dk.flat_get Mx.len ms j i _ e0 hi2
   rw [hi] at h1
   have:=hcells (j*3+i) _ h1
   rw [Addr.add_lit] at this
   rw [Nat.add_assoc]
   exact this)
  rw [← hzl,List.take_length] at hcon
  have ea:(ms.any fun m=>m.xs.contains x)=zs.any fun z=>z.1.xs.contains x:=by
   rw [← hz,List.any_map]
   rfl
  rw [ea,← hzl]
  exact hcon
abbrev Cx.In (w:World):Type:={m:Cx // w.ownsRow 0 3 1 m.u m.xs.length (Dk.is (m.xs.map Prod.fst))∧∀ x ∈ (m.xs.map Prod.fst),Dk.i64 x}
theorem theirsC (x:Int) (b:Nat) (w:World) (hb:b < w.heap.size) (hcell:w.cell? ⟨b,0,none⟩=some (.int .i64 x)) :
  PredBelow Tryz.prog 228 #[.pointer (some ⟨b,0,none⟩)] (fun z:Cx.In w=>.agg z.1.cells.toArray) (fun z=>(z.1.xs.map Prod.fst).contains x) w:=by
 rintro W ⟨⟨u,xs,bm⟩,hr,hi⟩ hB
 have hc:W.cell? ⟨b,0,none⟩=some (.int .i64 x):=(hB.cell (p:=⟨b,0,none⟩) hb).trans hcell
 have hbW:b < W.heap.size:=Nat.lt_of_lt_of_le hb hB.size
 obtain ⟨ys,ey⟩:∃ ys,(xs.map Prod.fst)=ys:=⟨_,rfl⟩
 have hr1:w.ownsRow 0 3 1 u ys.length (Dk.is ys):=by rw [← ey];simpa using hr
 have hi1:∀ x ∈ ys,Dk.i64 x:=by rw [← ey];exact hi
 obtain ⟨A,C,eu,hs⟩:=Dk.zbe hr1 hi1
 have eu:u=.slice A ys.length C:=eu
 subst eu
 have hs':=(hs.below hB (Nat.le_refl _)).more hB.size
 obtain ⟨W1,e1⟩:∃ W1,W1=W.alloc (.cells #[.slice A ys.length C,.map (some bm)] 169):=⟨_,rfl⟩
 have u1:Below W.heap.size W W1:=by rw [e1];exact Dk.zb (Below.refl _ _) _
 have b1:Dk.Box W1 W.heap.size #[.slice A ys.length C,.map (some bm)] 169:=by rw [e1];exact Dk.Box.new _ _ _
 have c1:W1.cell? ⟨W.heap.size,0,none⟩=some (.slice A ys.length C):=b1.cell 0
 have c2:W1.cell? ⟨b,0,none⟩=some (.int .i64 x):=(u1.cell (p:=⟨b,0,none⟩) hbW).trans hc
 have K:=zjn c1 ((hs'.below u1 (Nat.le_refl _)).more u1.size) x
 have HU:Hid _:=Dk.zi hB u1
 have H1:Hid (W.alloc (.cells #[.slice A ys.length C,.map (some bm)] 169)=W1):=e1.symm
 show Calls Tryz.prog 228 #[.agg #[.slice A ys.length C,.map (some bm)],.pointer (some ⟨b,0,none⟩)] W fun e w'=>e=.returned (.bool ((xs.map Prod.fst).contains x))∧_
 rw [ey]
 generalize ys.contains x=r at K ⊢
 clear hs hs' hr hi hr1 hi1 ey u1 b1 e1 c1 hcell hc
 go_enter Tryz.func228,Tryz.ntmps228
 go_wp2_with (rw [H1.out];clear H1)
 refine K.mono ?_
 rintro e w' ⟨rfl,hw'⟩
 subst w'
 clear K
 go_wp2_with fail
 go_ret
 exact ⟨rfl,HU.out⟩
theorem noneC (fv:Value) (w:World):Calls Tryz.prog 227 #[.slice none 0 0,fv] w fun e w'=>e=.returned (.bool false)∧w'=w:=by
 have K:Calls Tryz.prog 245 #[.slice none 0 0,fv] w fun e w'=>e=.returned (.int .i64 (-1))∧w'=w:=by
  go_enter Tryz.func245,Tryz.ntmps245
  go_wp2
  go_loopw [8] (fun i w'=>i=.int .i64 0∧Hid (w'=w)) (fun i w'=>0)
  case atStart=>exact ⟨rfl,rfl⟩
  case round=>
   obtain ⟨rfl,HW⟩:=hrel
   go_wp2
   go_ret
   exact ⟨rfl,HW.out⟩
 go_enter Tryz.func227,Tryz.ntmps227
 go_wp2_with fail
 refine K.mono ?_
 rintro e w' ⟨rfl,hw'⟩
 subst w'
 clear K
 go_wp2_with fail
 go_ret
 exact ⟨rfl,rfl⟩
theorem containsC (B:Nat) (v:Value) (ms:List Cx) (x:Int) (b:Nat) (w:World) (h:w.ownsRow B 169 2 v ms.length (ms.flatMap Cx.cells)) (hrs:∀ m ∈ ms,w.ownsRow 0 3 1 m.u m.xs.length (Dk.is (m.xs.map Prod.fst))∧∀ x ∈ (m.xs.map Prod.fst),Dk.i64 x) (hb:b < w.heap.size) (hcell:w.cell? ⟨b,0,none⟩=some (.int .i64 x)) :
  Calls Tryz.prog 227 #[v,.func (.func 228) #[] #[.pointer (some ⟨b,0,none⟩)]] w fun e w'=>e=.returned (.bool (ms.any fun m=>(m.xs.map Prod.fst).contains x))∧Below w.heap.size w w':=by
 obtain ⟨hl,⟨rfl,h0⟩ | ⟨g,cap,cur,rfl,hgb,hg,hn,hm,hs,ht⟩⟩:=id h
 ·obtain rfl:ms=[]:=List.eq_nil_of_length_eq_zero h0
  refine (noneC _ w).mono ?_
  rintro e w' ⟨rfl,rfl⟩
  exact ⟨rfl,Below.refl _ _⟩
 ·have eg:∀ args w,(callFunc 228 args).run Tryz.prog w=.ok (.enter 228 args) w:=enters_of Tryz.func228 (by kernel_rfl) rfl
  unfold maxLen at hm
  have hcells:=h.cells (g:=g) rfl
  haveI:Inhabited (Cx.In w):=⟨⟨⟨.slice none 0 0,[],0⟩,World.ownsRow_nil _ _ _ _,fun x hx=>absurd hx (by simp)⟩⟩
  obtain ⟨zs,hz⟩:=lift ms hrs
  have hzl:zs.length=ms.length:=by rw [← hz,List.length_map]
  have hcon:=AnyQ.slices_ContainsFunc (α:=Cx.In w) Tryz.layC 2 Tryz.isAgg169 Tryz.sizeOf169 (fun z=>z.1.cells) (fun _=>rfl) (fun z=>(z.1.xs.map Prod.fst).contains x) 228 #[.pointer (some ⟨b,0,none⟩)] eg g 0 ms.length cap zs w (theirsC x b w hb hcell) (Nat.le_of_eq hzl.symm) (by omega) (Array.getElem?_eq_some_iff.1 hg).1 (fun j hj i u hi=>by
   have e0:ms[j]? = some zs[j]!.1:=by
    rw [← hz,List.getElem?_map,List.getElem?_eq_getElem hj]
    simp [getElem!_pos,hj]
   have hi2:i < 2:=by
    have h2:i < (zs[j]!.1.cells).length:=Dk.zv hi
    rw [Cx.len] at h2
    exact h2
   have h1:=Dk.flat_get Cx.len ms j i _ e0 hi2
   rw [hi] at h1
   have:=hcells (j*2+i) _ h1
   rw [Addr.add_lit] at this
   rw [Nat.add_assoc]
   exact this)
  rw [← hzl,List.take_length] at hcon
  have ea:(ms.any fun m=>(m.xs.map Prod.fst).contains x)=zs.any fun z=>(z.1.xs.map Prod.fst).contains x:=by
   rw [← hz,List.any_map]
   rfl
  rw [ea,← hzl]
  exact hcon
abbrev Sx.In (w:World):Type:={m:Sx // w.ownsRow 0 3 1 m.u m.xs.length (Dk.is m.xs)∧∀ x ∈ m.xs,Dk.i64 x}
theorem theirsS (x:Int) (b:Nat) (w:World) (hb:b < w.heap.size) (hcell:w.cell? ⟨b,0,none⟩=some (.int .i64 x)) :
  PredBelow Tryz.prog 230 #[.pointer (some ⟨b,0,none⟩)] (fun z:Sx.In w=>.agg z.1.cells.toArray) (fun z=>z.1.xs.contains x) w:=by
 rintro W ⟨⟨u,xs,cn⟩,hr,hi⟩ hB
 have hc:W.cell? ⟨b,0,none⟩=some (.int .i64 x):=(hB.cell (p:=⟨b,0,none⟩) hb).trans hcell
 have hbW:b < W.heap.size:=Nat.lt_of_lt_of_le hb hB.size
 obtain ⟨ys,ey⟩:∃ ys,xs=ys:=⟨_,rfl⟩
 have hr1:w.ownsRow 0 3 1 u ys.length (Dk.is ys):=by rw [← ey];simpa using hr
 have hi1:∀ x ∈ ys,Dk.i64 x:=by rw [← ey];exact hi
 obtain ⟨A,C,eu,hs⟩:=Dk.zbe hr1 hi1
 have eu:u=.slice A ys.length C:=eu
 subst eu
 have hs':=(hs.below hB (Nat.le_refl _)).more hB.size
 obtain ⟨W1,e1⟩:∃ W1,W1=W.alloc (.cells #[.slice A ys.length C,.int .i64 cn] 171):=⟨_,rfl⟩
 have u1:Below W.heap.size W W1:=by rw [e1];exact Dk.zb (Below.refl _ _) _
 have b1:Dk.Box W1 W.heap.size #[.slice A ys.length C,.int .i64 cn] 171:=by rw [e1];exact Dk.Box.new _ _ _
 have c1:W1.cell? ⟨W.heap.size,0,none⟩=some (.slice A ys.length C):=b1.cell 0
 have c2:W1.cell? ⟨b,0,none⟩=some (.int .i64 x):=(u1.cell (p:=⟨b,0,none⟩) hbW).trans hc
 have K:=zjn c1 ((hs'.below u1 (Nat.le_refl _)).more u1.size) x
 have HU:Hid _:=Dk.zi hB u1
 have H1:Hid (W.alloc (.cells #[.slice A ys.length C,.int .i64 cn] 171)=W1):=e1.symm
 show Calls Tryz.prog 230 #[.agg #[.slice A ys.length C,.int .i64 cn],.pointer (some ⟨b,0,none⟩)] W fun e w'=>e=.returned (.bool (xs.contains x))∧_
 rw [ey]
 generalize ys.contains x=r at K ⊢
 clear hs hs' hr hi hr1 hi1 ey u1 b1 e1 c1 hcell hc
 go_enter Tryz.func230,Tryz.ntmps230
 go_wp2_with (rw [H1.out];clear H1)
 refine K.mono ?_
 rintro e w' ⟨rfl,hw'⟩
 subst w'
 clear K
 go_wp2_with fail
 go_ret
 exact ⟨rfl,HU.out⟩
theorem noneS (fv:Value) (w:World):Calls Tryz.prog 229 #[.slice none 0 0,fv] w fun e w'=>e=.returned (.bool false)∧w'=w:=by
 have K:Calls Tryz.prog 246 #[.slice none 0 0,fv] w fun e w'=>e=.returned (.int .i64 (-1))∧w'=w:=by
  go_enter Tryz.func246,Tryz.ntmps246
  go_wp2
  go_loopw [8] (fun i w'=>i=.int .i64 0∧Hid (w'=w)) (fun i w'=>0)
  case atStart=>exact ⟨rfl,rfl⟩
  case round=>
   obtain ⟨rfl,HW⟩:=hrel
   go_wp2
   go_ret
   exact ⟨rfl,HW.out⟩
 go_enter Tryz.func229,Tryz.ntmps229
 go_wp2_with fail
 refine K.mono ?_
 rintro e w' ⟨rfl,hw'⟩
 subst w'
 clear K
 go_wp2_with fail
 go_ret
 exact ⟨rfl,rfl⟩
theorem containsS (B:Nat) (v:Value) (ms:List Sx) (x:Int) (b:Nat) (w:World) (h:w.ownsRow B 171 2 v ms.length (ms.flatMap Sx.cells)) (hrs:∀ m ∈ ms,w.ownsRow 0 3 1 m.u m.xs.length (Dk.is m.xs)∧∀ x ∈ m.xs,Dk.i64 x) (hb:b < w.heap.size) (hcell:w.cell? ⟨b,0,none⟩=some (.int .i64 x)) :
  Calls Tryz.prog 229 #[v,.func (.func 230) #[] #[.pointer (some ⟨b,0,none⟩)]] w fun e w'=>e=.returned (.bool (ms.any fun m=>m.xs.contains x))∧Below w.heap.size w w':=by
 obtain ⟨hl,⟨rfl,h0⟩ | ⟨g,cap,cur,rfl,hgb,hg,hn,hm,hs,ht⟩⟩:=id h
 ·obtain rfl:ms=[]:=List.eq_nil_of_length_eq_zero h0
  refine (noneS _ w).mono ?_
  rintro e w' ⟨rfl,rfl⟩
  exact ⟨rfl,Below.refl _ _⟩
 ·have eg:∀ args w,(callFunc 230 args).run Tryz.prog w=.ok (.enter 230 args) w:=enters_of Tryz.func230 (by kernel_rfl) rfl
  unfold maxLen at hm
  have hcells:=h.cells (g:=g) rfl
  haveI:Inhabited (Sx.In w):=⟨⟨⟨.slice none 0 0,[],0⟩,World.ownsRow_nil _ _ _ _,fun x hx=>absurd hx (by simp)⟩⟩
  obtain ⟨zs,hz⟩:=lift ms hrs
  have hzl:zs.length=ms.length:=by rw [← hz,List.length_map]
  have hcon:=AnyQ.slices_ContainsFunc (α:=Sx.In w) Tryz.layS 2 Tryz.isAgg171 Tryz.sizeOf171 (fun z=>z.1.cells) (fun _=>rfl) (fun z=>z.1.xs.contains x) 230 #[.pointer (some ⟨b,0,none⟩)] eg g 0 ms.length cap zs w (theirsS x b w hb hcell) (Nat.le_of_eq hzl.symm) (by omega) (Array.getElem?_eq_some_iff.1 hg).1 (fun j hj i u hi=>by
   have e0:ms[j]? = some zs[j]!.1:=by
    rw [← hz,List.getElem?_map,List.getElem?_eq_getElem hj]
    simp [getElem!_pos,hj]
   have hi2:i < 2:=by
    have h2:i < (zs[j]!.1.cells).length:=Dk.zv hi
    rw [Sx.len] at h2
    exact h2
   have h1:=Dk.flat_get Sx.len ms j i _ e0 hi2
   rw [hi] at h1
   have:=hcells (j*2+i) _ h1
   rw [Addr.add_lit] at this
   rw [Nat.add_assoc]
   exact this)
  rw [← hzl,List.take_length] at hcon
  have ea:(ms.any fun m=>m.xs.contains x)=zs.any fun z=>z.1.xs.contains x:=by
   rw [← hz,List.any_map]
   rfl
  rw [ea,← hzl]
  exact hcon
theorem zmb {S:Dk.St} {ms:List Mx} {cs:List Cx} {ss:List Sx} (l:Like S ms cs ss) (x:Int):((ms.any fun m=>m.xs.contains x) || (cs.any fun c=>(c.xs.map Prod.fst).contains x) || (ss.any fun s=>s.xs.contains x))=S.waits x:=by
 unfold Dk.St.waits
 rw [← l.wait,← l.conds,← l.downs,List.any_map,List.any_map,List.any_map]
 have e:(cs.any fun c=>(c.xs.map Prod.fst).contains x)=cs.any ((fun l=>l.any fun p=>p.1 == x) ∘ Cx.xs):=by
  congr 1
  funext c
  show _=c.xs.any fun p=>p.1 == x
  rw [Bool.eq_iff_iff,List.any_eq_true,List.contains_iff_mem,List.mem_map]
  constructor
  ·rintro ⟨p,hp,e⟩
   exact ⟨p,hp,by simpa using e⟩
  ·rintro ⟨p,hp,e⟩
   exact ⟨p,hp,by simpa using e⟩
 rw [e,Bool.or_assoc,Bool.or_assoc,Bool.or_comm (cs.any _)]
 rfl
section
variable {W w : World} {b k : Nat} {S : Dk.St} {vm vc vs : Value} {ms : List Mx} {cs : List Cx} {ss : List Sx} {us : List Dk.Thing}
theorem rowsM (h:Dk.Sep W w (us++gts b vm vc vs ms cs ss)) (l:Like S ms cs ss) (ok:Dk.Ok S k):∀ m ∈ ms,w.ownsRow 0 3 1 m.u m.xs.length (Dk.is m.xs)∧∀ x ∈ m.xs,Dk.i64 x:=fun m hm=>
 ⟨h.get (t:=m.row) (by simp only [gts,List.mem_append,List.mem_cons,List.mem_map];exact .inr (.inr (.inr (.inr (.inr (.inl ⟨m,hm,rfl⟩)))))),ok.waits _ (by rw [← l.wait];exact List.mem_map_of_mem hm)⟩
theorem rowsC (h:Dk.Sep W w (us++gts b vm vc vs ms cs ss)) (l:Like S ms cs ss) (ok:Dk.Ok S k):∀ m ∈ cs,w.ownsRow 0 3 1 m.u m.xs.length (Dk.is (m.xs.map Prod.fst))∧∀ x ∈ m.xs.map Prod.fst,Dk.i64 x:=fun m hm=>
 ⟨h.get (t:=m.row) (by simp only [gts,List.mem_append,List.mem_cons,List.mem_map];exact .inr (.inr (.inr (.inr (.inr (.inr (.inl ⟨m,hm,rfl⟩))))))),fun x hx=>by
  obtain ⟨p,hp,rfl⟩:=List.mem_map.1 hx
  exact (ok.conds _ (by rw [← l.conds];exact List.mem_map_of_mem hm) p hp).1⟩
theorem rowsS (h:Dk.Sep W w (us++gts b vm vc vs ms cs ss)) (l:Like S ms cs ss) (ok:Dk.Ok S k):∀ m ∈ ss,w.ownsRow 0 3 1 m.u m.xs.length (Dk.is m.xs)∧∀ x ∈ m.xs,Dk.i64 x:=fun m hm=>
 ⟨h.get (t:=m.row) (by simp only [gts,List.mem_append,List.mem_cons,List.mem_map];exact .inr (.inr (.inr (.inr (.inr (.inr (.inr (.inr ⟨m,hm,rfl⟩)))))))),ok.downsI _ (by rw [← l.downs];exact List.mem_map_of_mem hm)⟩
theorem za0 (h:Dk.Sep W w (us++gts b vm vc vs ms cs ss)) (l:Like S ms cs ss) (ok:Dk.Ok S k) (x:Int) :
  Calls Tryz.prog 194 #[.pointer (some ⟨b,0,none⟩),.int .i64 x] w fun e w'=>e=.returned (.bool (S.waits x))∧Below w.heap.size w w':=by
 rw [← zmb l x]
 obtain ⟨W1,e1⟩:∃ W1,W1=w.alloc (.cells #[.int .i64 x] 3):=⟨_,rfl⟩
 have u1:Below w.heap.size w W1:=by rw [e1];exact Dk.zb (Below.refl _ _) _
 have b1:Dk.Box W1 w.heap.size #[.int .i64 x] 3:=by rw [e1];exact Dk.Box.new _ _ _
 have h1:=h.below u1
 have kx:∀ y:Dk.Up W1,y.wd.cell? ⟨w.heap.size,0,none⟩=some (.int .i64 x):=fun y=>(b1.up y.property).cell 0
 have kl:∀ y:Dk.Up W1,w.heap.size < y.wd.heap.size:=fun y=>Nat.lt_of_lt_of_le b1.lt y.property.size
 obtain ⟨r1,er1⟩:∃ r1,(ms.any fun m=>m.xs.contains x)=r1:=⟨_,rfl⟩
 obtain ⟨r2,er2⟩:∃ r2,(cs.any fun c=>(c.xs.map Prod.fst).contains x)=r2:=⟨_,rfl⟩
 obtain ⟨r3,er3⟩:∃ r3,(ss.any fun s=>s.xs.contains x)=r3:=⟨_,rfl⟩
 have C1:Hid (∀ y:Dk.Up W1,Calls Tryz.prog 224 #[vm,.func (.func 225) #[] #[.pointer (some ⟨w.heap.size,0,none⟩)]] y.wd fun e w'=>e=.returned (.bool r1)∧Below y.wd.heap.size y.wd w'):=fun y=>by
  rw [← er1]
  exact containsM W.heap.size _ ms x _ _ ((h1.below y.property).row (by simp [gts,hdM])) (rowsM (h1.below y.property) l ok) (kl y) (kx y)
 have C2:Hid (∀ y:Dk.Up W1,Calls Tryz.prog 227 #[vc,.func (.func 228) #[] #[.pointer (some ⟨w.heap.size,0,none⟩)]] y.wd fun e w'=>e=.returned (.bool r2)∧Below y.wd.heap.size y.wd w'):=fun y=>by
  rw [← er2]
  exact containsC W.heap.size _ cs x _ _ ((h1.below y.property).row (by simp [gts,hdC])) (rowsC (h1.below y.property) l ok) (kl y) (kx y)
 have C3:Hid (∀ y:Dk.Up W1,Calls Tryz.prog 229 #[vs,.func (.func 230) #[] #[.pointer (some ⟨w.heap.size,0,none⟩)]] y.wd fun e w'=>e=.returned (.bool r3)∧Below y.wd.heap.size y.wd w'):=fun y=>by
  rw [← er3]
  exact containsS W.heap.size _ ss x _ _ ((h1.below y.property).row (by simp [gts,hdS])) (rowsS (h1.below y.property) l ok) (kl y) (kx y)
 have hb:Hid (∀ y:Dk.Up W1,y.wd.cell? ⟨b,0,none⟩=some vm∧y.wd.cell? ⟨b,1,none⟩=some vc∧y.wd.cell? ⟨b,2,none⟩=some vs):=fun y=>⟨(headG (h1.below y.property)).cell 0,(headG (h1.below y.property)).cell 1,(headG (h1.below y.property)).cell 2⟩
 obtain ⟨A1,D1,ev1,_,_⟩:=shapeM h
 obtain ⟨A2,D2,ev2,_,_⟩:=shapeC h
 obtain ⟨A3,D3,ev3,_,_⟩:=shapeS h
 rw [er1,er2,er3]
 have HU:Hid _:=u1
 have HE:Hid (w.alloc (.cells #[.int .i64 x] 3)=W1):=e1.symm
 clear er1 er2 er3 h h1 kx kl b1 u1 e1 l ok
 generalize ms.length=L1 at *
 generalize cs.length=L2 at *
 generalize ss.length=L3 at *
 subst ev1 ev2 ev3
 have c0:=(hb.out ⟨W1,Below.refl _ _⟩).1
 have K1:=C1.out ⟨W1,Below.refl _ _⟩
 simp only [Dk.Up.wd] at c0 K1
 go_enter Tryz.func194,Tryz.ntmps194
 go_wp2_with (rw [HE.out];clear HE)
 refine K1.mono ?_
 rintro e w2 ⟨rfl,u2⟩
 have U2:Hid (Below W1.heap.size W1 w2):=u2
 have c1:w2.cell? ⟨b,1,none⟩=_:=(hb.out ⟨w2,u2⟩).2.1
 have K2:=C2.out ⟨w2,u2⟩
 simp only [Dk.Up.wd] at K2
 clear K1 c0 u2 C1 C2
 cases r1
 ·go_wp2_with fail
  refine K2.mono ?_
  rintro e w3 ⟨rfl,u3⟩
  have u3':Below W1.heap.size W1 w3:=Dk.zi U2.out u3
  have U3:Hid (Below W1.heap.size W1 w3):=u3'
  have c2:w3.cell? ⟨b,2,none⟩=_:=(hb.out ⟨w3,u3'⟩).2.2
  have K3:=C3.out ⟨w3,u3'⟩
  simp only [Dk.Up.wd] at K3
  clear K2 c1 u3 u3' C3 hb
  cases r2
  ·go_wp2_with fail
   refine K3.mono ?_
   rintro e w4 ⟨rfl,u4⟩
   have U4:Hid (Below w.heap.size w w4):=Dk.zi HU.out (Dk.zi U3.out u4)
   clear K3 c2 u4
   go_wp2_with fail
   go_ret
   exact ⟨rfl,U4.out⟩
  ·go_wp2_with fail
   go_ret
   exact ⟨rfl,Dk.zi HU.out U3.out⟩
 ·go_wp2_with fail
  go_ret
  exact ⟨rfl,Dk.zi HU.out U2.out⟩
theorem za7 (h:Dk.Sep W w (us++gts b vm vc vs ms cs ss)) (n:Nat) (hn:n < ms.length):Calls Tryz.prog 193 #[.pointer (some ⟨b,0,none⟩),.int .i64 (n:Int)] w fun e w'=>e=.returned (.bool true)∧w'=w:=by
 have c0:w.cell? ⟨b,0,none⟩=some vm:=(headG h).cell 0
 obtain ⟨A,D,ev,_,_⟩:=shapeM h
 generalize ms.length=L at *
 subst ev
 have z1:decide ((n:Int) < (L:Int))=true:=decide_eq_true (by omega)
 have z2:decide (0≤(n:Int))=true:=decide_eq_true (by omega)
 have z3:decide ((n:Int) ≥ 0)=true:=decide_eq_true (by omega)
 clear h
 go_enter Tryz.func193,Tryz.ntmps193
 go_wp2
 go_ret
 exact ⟨rfl,rfl⟩
theorem zjm (h:Dk.Sep W w (us++gts b vm vc vs ms cs ss)) (n:Int) (hn:n < 0∨(ms.length:Int)≤n):Calls Tryz.prog 193 #[.pointer (some ⟨b,0,none⟩),.int .i64 n] w fun e w'=>e=.returned (.bool false)∧w'=w:=by
 have c0:w.cell? ⟨b,0,none⟩=some vm:=(headG h).cell 0
 obtain ⟨A,D,ev,_,_⟩:=shapeM h
 generalize ms.length=L at *
 subst ev
 clear h
 by_cases h0:n < 0
 ·have z2:decide (0≤n)=false:=decide_eq_false (by omega)
  have z3:decide (n ≥ 0)=false:=decide_eq_false (by omega)
  clear hn
  go_enter Tryz.func193,Tryz.ntmps193
  go_wp2
  go_ret
  exact ⟨rfl,rfl⟩
 ·have z1:decide (n < (L:Int))=false:=decide_eq_false (by omega)
  have z2:decide (0≤n)=true:=decide_eq_true (by omega)
  have z3:decide (n ≥ 0)=true:=decide_eq_true (by omega)
  clear hn
  go_enter Tryz.func193,Tryz.ntmps193
  go_wp2
  go_ret
  exact ⟨rfl,rfl⟩
theorem zb9 (h:Dk.Sep W w (us++gts b vm vc vs ms cs ss)) (n:Nat) (hn:n < cs.length):Calls Tryz.prog 198 #[.pointer (some ⟨b,0,none⟩),.int .i64 (n:Int)] w fun e w'=>e=.returned (.bool true)∧w'=w:=by
 have c0:w.cell? ⟨b,1,none⟩=some vc:=(headG h).cell 1
 obtain ⟨A,D,ev,_,_⟩:=shapeC h
 generalize cs.length=L at *
 subst ev
 have z1:decide ((n:Int) < (L:Int))=true:=decide_eq_true (by omega)
 have z2:decide (0≤(n:Int))=true:=decide_eq_true (by omega)
 have z3:decide ((n:Int) ≥ 0)=true:=decide_eq_true (by omega)
 clear h
 go_enter Tryz.func198,Tryz.ntmps198
 go_wp2
 go_ret
 exact ⟨rfl,rfl⟩
theorem zov (h:Dk.Sep W w (us++gts b vm vc vs ms cs ss)) (n:Int) (hn:n < 0∨(cs.length:Int)≤n):Calls Tryz.prog 198 #[.pointer (some ⟨b,0,none⟩),.int .i64 n] w fun e w'=>e=.returned (.bool false)∧w'=w:=by
 have c0:w.cell? ⟨b,1,none⟩=some vc:=(headG h).cell 1
 obtain ⟨A,D,ev,_,_⟩:=shapeC h
 generalize cs.length=L at *
 subst ev
 clear h
 by_cases h0:n < 0
 ·have z2:decide (0≤n)=false:=decide_eq_false (by omega)
  have z3:decide (n ≥ 0)=false:=decide_eq_false (by omega)
  clear hn
  go_enter Tryz.func198,Tryz.ntmps198
  go_wp2
  go_ret
  exact ⟨rfl,rfl⟩
 ·have z1:decide (n < (L:Int))=false:=decide_eq_false (by omega)
  have z2:decide (0≤n)=true:=decide_eq_true (by omega)
  have z3:decide (n ≥ 0)=true:=decide_eq_true (by omega)
  clear hn
  go_enter Tryz.func198,Tryz.ntmps198
  go_wp2
  go_ret
  exact ⟨rfl,rfl⟩
theorem zco (h:Dk.Sep W w (us++gts b vm vc vs ms cs ss)) (n:Nat) (hn:n < ss.length):Calls Tryz.prog 200 #[.pointer (some ⟨b,0,none⟩),.int .i64 (n:Int)] w fun e w'=>e=.returned (.bool true)∧w'=w:=by
 have c0:w.cell? ⟨b,2,none⟩=some vs:=(headG h).cell 2
 obtain ⟨A,D,ev,_,_⟩:=shapeS h
 generalize ss.length=L at *
 subst ev
 have z1:decide ((n:Int) < (L:Int))=true:=decide_eq_true (by omega)
 have z2:decide (0≤(n:Int))=true:=decide_eq_true (by omega)
 have z3:decide ((n:Int) ≥ 0)=true:=decide_eq_true (by omega)
 clear h
 go_enter Tryz.func200,Tryz.ntmps200
 go_wp2
 go_ret
 exact ⟨rfl,rfl⟩
theorem zow (h:Dk.Sep W w (us++gts b vm vc vs ms cs ss)) (n:Int) (hn:n < 0∨(ss.length:Int)≤n):Calls Tryz.prog 200 #[.pointer (some ⟨b,0,none⟩),.int .i64 n] w fun e w'=>e=.returned (.bool false)∧w'=w:=by
 have c0:w.cell? ⟨b,2,none⟩=some vs:=(headG h).cell 2
 obtain ⟨A,D,ev,_,_⟩:=shapeS h
 generalize ss.length=L at *
 subst ev
 clear h
 by_cases h0:n < 0
 ·have z2:decide (0≤n)=false:=decide_eq_false (by omega)
  have z3:decide (n ≥ 0)=false:=decide_eq_false (by omega)
  clear hn
  go_enter Tryz.func200,Tryz.ntmps200
  go_wp2
  go_ret
  exact ⟨rfl,rfl⟩
 ·have z1:decide (n < (L:Int))=false:=decide_eq_false (by omega)
  have z2:decide (0≤n)=true:=decide_eq_true (by omega)
  have z3:decide (n ≥ 0)=true:=decide_eq_true (by omega)
  clear hn
  go_enter Tryz.func200,Tryz.ntmps200
  go_wp2
  go_ret
  exact ⟨rfl,rfl⟩
end
end Go.Proofs.YtglhhlfopccmaaaGreat
