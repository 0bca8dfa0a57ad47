import Derived.Test.YtpnajphbjfehnaaGreatLn27
import Derived.Deep.Upon
set_option linter.unusedSimpArgs false
set_option linter.unusedVariables false
set_option linter.unnecessarySimpa false
set_option maxHeartbeats 8000000
set_option maxRecDepth 100000
namespace Dk
open Go Go.RowKit
structure Ev where
 k:Int
 t:Int
 m:Int
def Ev.zero:Ev:=⟨0,0,0⟩
def Ev.ok (e:Ev):Prop:=i64 e.k∧i64 e.t∧i64 e.m
abbrev Ev.cells (e:Ev):List Value:=[.int .i64 e.k,.int .i64 e.t,.int .i64 e.m]
abbrev Ev.v (e:Ev):Value:=.agg #[.int .i64 e.k,.int .i64 e.t,.int .i64 e.m]
def evs:List Ev→List Value
 | []=>[]
 | r::l=>r.cells++evs l
theorem zb3:∀ rs,(evs rs).length=rs.length*3
 | []=>rfl
 | p::r=>by rw [evs,List.length_append,zb3 r,List.length_cons];simp [Ev.cells];omega
theorem zb2:∀ ps qs,evs (ps++qs)=evs ps++evs qs
 | [],qs=>rfl
 | p::r,qs=>by rw [List.cons_append,evs,evs,zb2 r,List.append_assoc]
theorem zjj:∀ ps,∀ u ∈ evs ps,u.oneCell'=true
 | [],u,h=>absurd h (by simp [evs])
 | p::r,u,h=>by
  rw [evs] at h
  rcases List.mem_append.1 h with h | h
  ·simp [Ev.cells] at h
   rcases h with rfl | rfl | rfl <;> rfl
  ·exact zjj r u h
theorem zf0:∀ (ps:List Ev) (k:Nat),k < ps.length→∀ j,j < 3→(evs ps)[k*3+j]? = (ps.getD k Ev.zero).cells[j]?
 | [],k,h=>absurd h (by simp)
 | p::r,0,_=>fun j hj=>by
  rw [evs,List.getElem?_append_left (by simp [Ev.cells];omega),Nat.zero_mul,Nat.zero_add]
  rfl
 | p::r,k+1,h=>fun j hj=>by
  have:=zf0 r k (by simp at h;omega) j hj
  rw [evs,List.getElem?_append_right (by simp [Ev.cells];omega)]
  simp only [Ev.cells,List.length_cons,List.length_nil,List.getD_cons_succ]
  rw [show (k+1)*3+j - (0+1+1+1)=k*3+j by omega]
  exact this
structure SlE (B:Nat) (w:World) (A:Option Addr) (L C:Nat) (es:List Ev):Prop where
 len:es.length=L
 cap:L≤C
 max:C≤maxLen
 wf:∀ e ∈ es,e.ok
 cells:0 < L→∃ b o,A=some ⟨b,o,none⟩∧b < B∧∀ k,k < L→∀ j,j < 3→w.cell? ⟨b,o+k*3+j,none⟩=(es.getD k Ev.zero).cells[j]?
theorem SlE.below {B B':Nat} {w w':World} {A:Option Addr} {L C:Nat} {xs:List Ev} (h:SlE B w A L C xs) (hb:Below B' w w') (hB:B≤B'):SlE B w' A L C xs:=
 ⟨h.len,h.cap,h.max,h.wf,fun h0=>by
  obtain ⟨b,o,h1,h2,h3⟩:=h.cells h0
  exact ⟨b,o,h1,h2,fun k hk j hj=>by rw [hb.cell (by show b < B';omega)];exact h3 k hk j hj⟩⟩
theorem SlE.more {B B':Nat} {w:World} {A:Option Addr} {L C:Nat} {xs:List Ev} (h:SlE B w A L C xs) (hB:B≤B'):SlE B' w A L C xs:=
 ⟨h.len,h.cap,h.max,h.wf,fun h0=>by
  obtain ⟨b,o,h1,h2,h3⟩:=h.cells h0
  exact ⟨b,o,h1,by omega,h3⟩⟩
theorem SlE.up {w w':World} {A:Option Addr} {L C:Nat} {xs:List Ev} (h:SlE w.heap.size w A L C xs) (u:Below w.heap.size w w'):SlE w'.heap.size w' A L C xs:=(h.below u (Nat.le_refl _)).more u.size
theorem SlE.at {B:Nat} {w:World} {A:Option Addr} {L C:Nat} {xs:List Ev} (h:SlE B w A L C xs) {k:Nat} (hk:k < L):∃ b o,A=some ⟨b,o,none⟩∧b < B∧(xs.getD k Ev.zero).ok∧w.cell? ⟨b,o+k*3,none⟩=some (.int .i64 (xs.getD k Ev.zero).k)∧w.cell? ⟨b,o+k*3+1,none⟩=some (.int .i64 (xs.getD k Ev.zero).t)∧w.cell? ⟨b,o+k*3+2,none⟩=some (.int .i64 (xs.getD k Ev.zero).m):=by
 obtain ⟨b,o,e,hb,hc⟩:=h.cells (by omega)
 have hl:=h.len
 have hk':k < xs.length:=by omega
 refine ⟨b,o,e,hb,h.wf _ (by simp [List.getD,hk']),hc k hk 0 (by omega),hc k hk 1 (by omega),hc k hk 2 (by omega)⟩
theorem SlE.take {B:Nat} {w:World} {A:Option Addr} {L C:Nat} {xs:List Ev} (h:SlE B w A L C xs) {k:Nat} (hk:k≤L):SlE B w A k C (xs.take k):=
 ⟨by rw [List.length_take,h.len];omega,Nat.le_trans hk h.cap,h.max,fun e he=>h.wf e (List.mem_of_mem_take he),fun h0=>by
  obtain ⟨b,o,h1,h2,h3⟩:=h.cells (by omega)
  refine ⟨b,o,h1,h2,fun i hi j hj=>?_⟩
  rw [h3 i (by omega) j hj]
  simp [List.getD,hi]⟩
theorem SlE.drop {B:Nat} {w:World} {b o:Nat} {L C:Nat} {xs:List Ev} (h:SlE B w (some ⟨b,o,none⟩) L C xs) {k:Nat} (hk:k≤L):SlE B w (some ⟨b,o+k*3,none⟩) (L - k) (C - k) (xs.drop k):=by
 have h1:=h.len
 have h2:=h.cap
 have h3:=h.max
 refine ⟨by rw [List.length_drop];omega,by omega,by omega,fun e he=>h.wf e (List.mem_of_mem_drop he),fun h0=>?_⟩
 obtain ⟨b',o',e,hlt,hc⟩:=h.cells (by omega)
 cases e
 refine ⟨b,o+k*3,rfl,hlt,fun i hi j hj=>?_⟩
 have:=hc (k+i) (by omega) j hj
 rw [show o+k*3+i*3+j=o+(k+i)*3+j by omega,this]
 simp [List.getD,List.getElem?_drop]
theorem SlE.none_ {B:Nat} {w:World} {A:Option Addr} {C:Nat} {xs:List Ev} (h:xs=[]) (hC:C≤maxLen):SlE B w A 0 C xs:=⟨by rw [h];rfl,Nat.zero_le _,hC,fun e he=>absurd he (by rw [h];simp),fun h0=>absurd h0 (by omega)⟩
theorem row_sle {B:Nat} {w:World} {A:Option Addr} {L C:Nat} {xs:List (List Int)} (h:Row 3 [] IsInts B w A L C xs):∃ es:List Ev,SlE B w A L C es:=by
 refine ⟨xs.map fun l=>⟨l.getD 0 0,l.getD 1 0,l.getD 2 0⟩,by rw [List.length_map];exact h.len,h.cap,h.max,fun e he=>?_,fun h0=>?_⟩
 ·obtain ⟨l,hl,rfl⟩:=List.mem_map.1 he
  obtain ⟨j,hj,rfl⟩:=List.getElem_of_mem hl
  have hL:=h.len
  obtain ⟨b,o,_,_,hc⟩:=h.cells (by omega)
  obtain ⟨vs,h1,⟨h2,h3⟩,_⟩:=hc j (by omega)
  have e:xs.getD j []=xs[j]:=by simp [List.getD,hj]
  rw [e] at h2 h3
  have hl3:xs[j].length=3:=by rw [h2,List.length_map] at h1;exact h1
  generalize xs[j]=l at h3 hl3
  match l,hl3 with
  | [x,y,z],_=>exact ⟨h3 x (by simp),h3 y (by simp),h3 z (by simp)⟩
 ·obtain ⟨b,o,e,hb,hc⟩:=h.cells h0
  refine ⟨b,o,e,hb,fun k hk j hj=>?_⟩
  obtain ⟨vs,h1,⟨h2,h3⟩,h4⟩:=hc k hk
  rw [h4 j hj,h2]
  have hL:=h.len
  have e:(xs.map fun l:List Int=>(⟨l.getD 0 0,l.getD 1 0,l.getD 2 0⟩:Ev)).getD k Ev.zero=⟨(xs.getD k []).getD 0 0,(xs.getD k []).getD 1 0,(xs.getD k []).getD 2 0⟩:=by
   have:k < xs.length:=by omega
   simp [List.getD,this]
  rw [e]
  have hl3:(xs.getD k []).length=3:=by rw [h2,List.length_map] at h1;exact h1
  generalize xs.getD k []=l at hl3
  match l,hl3 with
  | [x,y,z],_=>rfl
theorem zg6 {w:World} {base:Nat} {e:TypeId} {v:Value} {n:Nat} {xs:List Ev} (h:w.ownsRow base e 3 v n (evs xs)) (hn:xs.length=n) (hx:∀ x ∈ xs,x.ok):∃ A C,v=.slice A n C∧SlE w.heap.size w A n C xs:=by
 obtain ⟨_,h | ⟨g,cap,cur,rfl,hb,hg,hc,hm,hs,ht⟩⟩:=h
 ·obtain ⟨rfl,h0⟩:=h
  subst h0
  exact ⟨none,0,rfl,hn,Nat.le_refl _,Nat.zero_le _,hx,fun h=>absurd h (by omega)⟩
 ·refine ⟨_,cap,rfl,hn,hc,hm,hx,fun h0=>⟨g,0,rfl,(Array.getElem?_eq_some_iff.1 hg).1,fun k hk j hj=>?_⟩⟩
  have hbx:Box w g cur e:=⟨hg⟩
  rw [hbx.cell,Nat.zero_add,← zf0 xs k (by omega) j hj,← ht,List.getElem?_take,if_pos (by omega),Array.getElem?_toList]
theorem SlK.appendW {P:Go.Program} {t e:TypeId} {z:Value} {s bytes:Nat} (K:SlK P t e z s bytes) (B:Nat) (ty:TypeId) (v:Value) (xs:List Value) (n:Nat) (w:World) (hown:w.ownsRow B e s v n xs) (a:Addr) (m c:Nat) (news:List Value) (hl:news.length=m*s) (hnews:∀ j u,news[j]? = some u→w.cell? (a.add j)=some u) (h1:∀ u ∈ news,u.oneCell'=true)
  (h63:n+m≤maxLen) (h:(n+m)*bytes≤140737488355328) (hB:B≤w.heap.size) :
  ∃ v' w',(Builtin.append_ #[t,t] ty #[v,.slice (some a) m c]).run P w=.ok v' w'∧w'.ownsRow B e s v' (n+m) (xs++news)∧w.grownBy w' v.ownBlock∧From w v v'∧(v'=.slice none 0 0 ↔ v=.slice none 0 0∧m=0):=by
 obtain ⟨i0,hi0,hz0,hz1,hz2⟩:=info_parts K.info
 have hb3:m*bytes≤140737488355328:=Nat.le_trans (Nat.mul_le_mul_right _ (by omega)) h
 have hl1:news.length=m*i0.size:=by rw [hz1];exact hl
 obtain ⟨v',w',hr,ho,hg,hi⟩:=run_append_own (P:=P) w B t ty e i0 z s bytes K.und hi0 hz0 hz1 hz2 K.cells K.pos v n xs hown a m c news hl hnews h1 h63 h hB
 have hmm:m≤maxLen:=by omega
 refine ⟨v',w',hr,ho,hg,?_,hi⟩
 obtain ⟨hxl,⟨rfl,rfl⟩ | ⟨g,cap,cur,rfl,hb,hgg,hn,hm,hs,ht⟩⟩:=id hown
 ·by_cases hm:m=0
  ·rw [hi.2 ⟨rfl,hm⟩]
   exact From.refl _ _
  ·have hr2:=run_append_nil (P:=P) w t ty e i0 z K.und hi0 hz0 a m c news hl1 hnews (by omega) (by unfold maxLen at hmm;omega) (by rw [hz2];omega)
   rw [hr] at hr2
   injection hr2 with e1 e2
   subst e1
   exact fun k hk=>.inr (by simp [Value.ownBlock] at hk;omega)
 ·by_cases hroom:n+m≤cap
  ·have hr2:=run_append_room (P:=P) w t ty e i0 K.und hi0 g n cap cur hgg a m c news hl1 hnews h1 hroom (by
    rw [hz1,hl,hs,← Nat.add_mul]
    exact Nat.mul_le_mul_right _ hroom)
   rw [hr] at hr2
   injection hr2 with e1 e2
   subst e1
   exact From.same _ rfl
  ·have holds:∀ j u,xs[j]? = some u→w.cell? ((⟨g,0,none⟩:Addr).add j)=some u:=hown.cells (g:=g) rfl
   have hr2:=run_append_grow (P:=P) w t ty e i0 z K.und hi0 hz0 ⟨g,0,none⟩ n cap xs (by rw [hz1];exact hxl) holds a m c news hl1 hnews (by omega) (by unfold maxLen at h63;omega) (growslice_fits (by omega) (by rw [hz2];exact h))
   rw [hr] at hr2
   injection hr2 with e1 e2
   subst e1
   exact fun k hk=>.inr (by simp [Value.ownBlock] at hk;omega)
section
variable {W w w' : World} {us us1 us2 : List Thing} {P : Go.Program} {ty e : TypeId}
theorem Sep.nilRow (h:Sep W w us) (e:TypeId) (s:Nat):Sep W w (rowOf e s (.slice none 0 0) 0 []::us):=
 h.add (Below.refl _ _) ⟨by simp,.inl ⟨rfl,rfl⟩⟩ (fun k hk=>by simp [rowOf,Value.ownBlock] at hk)
theorem Sep.appendAt {z:Value} {s bytes n m c:Nat} {v:Value} {xs news:List Value} {a:Addr} (K:SlK P ty e z s bytes) (h:Sep W w (us1++rowOf e s v n xs::us2)) (hl:news.length=m*s) (hc:∀ j u,news[j]? = some u→w.cell? (a.add j)=some u) (h1:∀ u ∈ news,u.oneCell'=true) (h63:n+m≤maxLen) (hb:(n+m)*bytes≤140737488355328) :
  ∃ v' w',(Builtin.append_ #[ty,ty] ty #[v,.slice (some a) m c]).run P w=.ok v' w'∧Sep W w' (us1++rowOf e s v' (n+m) (xs++news)::us2)∧(v'=.slice none 0 0 ↔ v=.slice none 0 0∧m=0):=by
 obtain ⟨v',w',hrun,ho,hg,hf,hnil⟩:=K.appendW W.heap.size ty v xs n w (h.row (by simp)) a m c news hl hc h1 h63 hb h.out.size
 exact ⟨v',w',hrun,h.turn (Away.zar hg (fun k hk=>.inl hk)) (zx ho (Nat.zero_le _)) (fun k hk=>hf k hk),hnil⟩
theorem Sep.appendI {bytes n:Nat} {v:Value} {xs:List Int} {x:Int} (K:SlK P ty e (.int .i64 0) 1 bytes) (h:Sep W w (us1++rowOf e 1 v n (is xs)::us2)) (h63:n+1≤maxLen) (hb:(n+1)*bytes≤140737488355328) :
  ∃ v' w',(Builtin.append_ #[ty,ty] ty #[v,.slice (some ⟨w.heap.size,0,none⟩) 1 1]).run P (w.alloc (.cells #[.int .i64 x] e))=.ok v' w'∧Sep W w' (us1++rowOf e 1 v' (n+1) (is (xs++[x]))::us2):=by
 have s1:=h.below (w':=w.alloc (.cells #[.int .i64 x] e)) (Dk.zb (Below.refl _ _) _)
 obtain ⟨v',w',hr,hS,_⟩:=s1.appendAt (m:=1) (c:=1) (news:=[.int .i64 x]) (a:=⟨w.heap.size,0,none⟩) K rfl (fun j u hj=>by
  rw [Addr.add_lit,Nat.zero_add,(Box.new w #[.int .i64 x] e).cell]
  match j,hj with
  | 0,hj=>simpa using hj) (fun u hu=>by simp at hu;rw [hu];rfl) h63 hb
 refine ⟨v',w',hr,?_⟩
 rw [show is (xs++[x])=is xs++[.int .i64 x] from by simp]
 exact hS
theorem Sep.appendE {z:Value} {bytes n:Nat} {v:Value} {xs:List Ev} {x:Ev} (K:SlK P ty e z 3 bytes) (h:Sep W w (us1++rowOf e 3 v n (evs xs)::us2)) (h63:n+1≤maxLen) (hb:(n+1)*bytes≤140737488355328) :
  ∃ v' w',(Builtin.append_ #[ty,ty] ty #[v,.slice (some ⟨w.heap.size,0,none⟩) 1 1]).run P (w.alloc (.cells #[.int .i64 x.k,.int .i64 x.t,.int .i64 x.m] e))=.ok v' w'∧Sep W w' (us1++rowOf e 3 v' (n+1) (evs (xs++[x]))::us2):=by
 have s1:=h.below (w':=w.alloc (.cells #[.int .i64 x.k,.int .i64 x.t,.int .i64 x.m] e)) (Dk.zb (Below.refl _ _) _)
 obtain ⟨v',w',hr,hS,_⟩:=s1.appendAt (m:=1) (c:=1) (news:=x.cells) (a:=⟨w.heap.size,0,none⟩) K rfl (fun j u hj=>by
  rw [Addr.add_lit,Nat.zero_add,(Box.new w #[.int .i64 x.k,.int .i64 x.t,.int .i64 x.m] e).cell]
  match j,hj with
  | 0,hj=>simpa using hj
  | 1,hj=>simpa using hj
  | 2,hj=>simpa using hj) (fun u hu=>by
   simp [Ev.cells] at hu
   rcases hu with rfl | rfl | rfl <;> rfl) h63 hb
 refine ⟨v',w',hr,?_⟩
 rw [zb2]
 exact hS
theorem Sep.appendEs {z:Value} {bytes n m c:Nat} {v:Value} {xs ys:List Ev} {A:Option Addr} (K:SlK P ty e z 3 bytes) (h:Sep W w (us1++rowOf e 3 v n (evs xs)::us2)) (hn:xs.length=n) (hy:SlE w.heap.size w A m c ys) (h63:n+m≤maxLen) (hb:(n+m)*bytes≤140737488355328) :
  ∃ v' w',(Builtin.append_ #[ty,ty] ty #[v,.slice A m c]).run P w=.ok v' w'∧Sep W w' (us1++rowOf e 3 v' (n+m) (evs (xs++ys))::us2):=by
 cases A with
 | none=>
  have hm:m=0:=by
   cases m with
   | zero=>rfl
   | succ m=>obtain ⟨b,o,e,_⟩:=hy.cells (by omega);cases e
  subst hm
  have e0:ys=[]:=List.eq_nil_of_length_eq_zero hy.len
  subst e0
  obtain ⟨i0,hi0,hz0,hz1,hz2⟩:=info_parts K.info
  obtain ⟨A,C,ev,hc,hM⟩:=zf (h.row (e:=e) (s:=3) (v:=v) (n:=n) (xs:=evs xs) (by simp))
  refine ⟨v,w,?_,by simpa using h⟩
  rw [ev]
  exact run_append_nothing w ty ty ty e i0 K.und hi0 A n C hc _ (Src.ofNil w K.und c)
 | some a=>
  obtain ⟨v',w',hr,hS,_⟩:=h.appendAt (m:=m) (c:=c) (news:=evs ys) (a:=a) K (by rw [zb3,hy.len]) (fun j u hj=>by
   by_cases hm:m=0
   ·have e0:ys=[]:=List.eq_nil_of_length_eq_zero (by rw [hy.len,hm])
    subst e0
    simp [evs] at hj
   ·obtain ⟨b,o,e1,_,hc⟩:=hy.cells (by omega)
    cases e1
    have hjl:j < m*3:=by
     have:=(List.getElem?_eq_some_iff.1 hj).1
     rw [zb3,hy.len] at this
     exact this
    rw [Addr.add_lit,← hj,show o+j=o+(j / 3)*3+j % 3 by omega,hc (j / 3) (by omega) (j % 3) (by omega),← zf0 ys (j / 3) (by rw [hy.len];omega) (j % 3) (by omega),show j / 3*3+j % 3=j by omega]) (zjj ys) h63 hb
  refine ⟨v',w',hr,?_⟩
  rw [zb2]
  exact hS
end
def Ev.runs (e:Ev):Bool:=decide (0≤e.t) && decide (e.m≤0) && (e.k == 3 || e.k == 4)
def Ev.within (e:Ev):Bool:=decide (0 < e.m)
def Ev.has (e:Ev):Bool:=decide (0≤e.t)
def Ev.kept (e:Ev):Bool:=e.runs || e.within
def keepL (es:List Ev):List Ev:=es.filter Ev.kept
theorem zc2 (es:List Ev):(keepL es).length≤es.length:=List.length_filter_le _ _
theorem zbl {α:Type} (l:List α) (d:α) (k:Nat) (h:k < l.length):l.take (k+1)=l.take k++[l.getD k d]:=by
 rw [List.take_add_one,List.getElem?_eq_getElem h];simp [List.getD,h]
theorem zjq {es:List Ev} {k:Nat} (h:k < es.length) (hp:(es.getD k Ev.zero).kept=true):keepL (es.take (k+1))=keepL (es.take k)++[es.getD k Ev.zero]:=by
 rw [zbl es Ev.zero k h];unfold keepL;rw [List.filter_append,List.filter_cons_of_pos hp,List.filter_nil]
theorem keepL_no {es:List Ev} {k:Nat} (h:k < es.length) (hp:(es.getD k Ev.zero).kept=false):keepL (es.take (k+1))=keepL (es.take k):=by
 rw [zbl es Ev.zero k h];unfold keepL;rw [List.filter_append,List.filter_cons_of_neg (by rw [hp];simp),List.filter_nil,List.append_nil]
end Dk
namespace Go.Proofs.YtpnajphbjfehnaaGreat
open Go.RowKit Go.Lib
theorem infoI:(Tryz.prog.info? 3).map (fun i=>(i.zero,i.size,i.bytes))=some (some (.int .i64 0),1,8):=by kernel_rfl
theorem infoE:(Tryz.prog.info? 59).map (fun i=>(i.zero,i.size,i.bytes))=some (some (.agg #[.int .i64 0,.int .i64 0,.int .i64 0]),3,24):=by kernel_rfl
theorem KI:Dk.SlK Tryz.prog 23 3 (.int .i64 0) 1 8:=⟨Tryz.underlying23,infoI,rfl,by decide,by decide⟩
theorem KE:Dk.SlK Tryz.prog 50 59 (.agg #[.int .i64 0,.int .i64 0,.int .i64 0]) 3 24:=⟨Tryz.underlying50,infoE,rfl,by decide,by decide⟩
theorem refRuns_any (e:Dk.Ev) (w:World):Calls Tryz.prog 83 #[e.v] w fun x w'=>x=.returned (.tuple #[.int .i64 (if e.runs then e.t else 0),.bool e.runs])∧Below w.heap.size w w':=by
 obtain ⟨k,t,m⟩:=e
 go_enter Tryz.func83,Tryz.ntmps83
 go_wp2
 all_goals (go_ret2;refine ⟨?_,Dk.zb (Below.refl _ _) _⟩;(try simp_all [Dk.Ev.runs]);all_goals (first | done | omega | (split <;> simp_all <;> omega)))
theorem za7 (e:Dk.Ev) (w:World):Calls Tryz.prog 128 #[e.v] w fun x w'=>x=.returned (.bool e.within)∧Below w.heap.size w w':=by
 obtain ⟨k,t,m⟩:=e
 go_enter Tryz.func128,Tryz.ntmps128
 go_wp2
 all_goals (go_ret;refine ⟨?_,Dk.zb (Below.refl _ _) _⟩;(try simp_all [Dk.Ev.within]);all_goals (first | done | omega | (split <;> simp_all <;> omega)))
theorem zff (e:Dk.Ev) (w:World):Calls Tryz.prog 147 #[e.v] w fun x w'=>x=.returned (.tuple #[.int .i64 (if e.has then e.t else 0),.bool e.has])∧Below w.heap.size w w':=by
 obtain ⟨k,t,m⟩:=e
 go_enter Tryz.func147,Tryz.ntmps147
 go_wp2
 all_goals (go_ret2;refine ⟨?_,Dk.zb (Below.refl _ _) _⟩;(try simp_all [Dk.Ev.has]);all_goals (first | done | omega | (split <;> simp_all <;> omega)))
theorem zdz (e:Dk.Ev) (w:World):Calls Tryz.prog 123 #[e.v] w fun x w'=>x=.returned (.tuple #[.int .i64 (if e.runs then e.t else 0),.bool e.runs])∧Below w.heap.size w w':=by
 obtain ⟨k,t,m⟩:=e
 have K1:∀ w,Calls Tryz.prog 128 #[.agg #[.int .i64 k,.int .i64 t,.int .i64 m]] w fun x w'=>x=.returned (.bool (decide (0 < m)))∧Below w.heap.size w w':=fun w=>za7 ⟨k,t,m⟩ w
 have K2:∀ w,Calls Tryz.prog 147 #[.agg #[.int .i64 k,.int .i64 t,.int .i64 m]] w fun x w'=>x=.returned (.tuple #[.int .i64 (if decide (0≤t)=true then t else 0),.bool (decide (0≤t))])∧Below w.heap.size w w':=fun w=>zff ⟨k,t,m⟩ w
 obtain ⟨W1,e1⟩:∃ W1,W1=w.alloc (.cells #[.int .i64 k,.int .i64 t,.int .i64 m] 59):=⟨_,rfl⟩
 have u1:Below w.heap.size w W1:=by rw [e1];exact Dk.zb (Below.refl _ _) _
 have b1:Dk.Box W1 w.heap.size #[.int .i64 k,.int .i64 t,.int .i64 m] 59:=by rw [e1];exact Dk.Box.new _ _ _
 have c0:W1.cell? ⟨w.heap.size,0,none⟩=some (.int .i64 k):=b1.cell 0
 have c1:W1.cell? ⟨w.heap.size,1,none⟩=some (.int .i64 t):=b1.cell 1
 have c2:W1.cell? ⟨w.heap.size,2,none⟩=some (.int .i64 m):=b1.cell 2
 have HE:Hid (w.alloc (.cells #[.int .i64 k,.int .i64 t,.int .i64 m] 59)=W1):=e1.symm
 have HB:Hid (Dk.Box W1 w.heap.size #[.int .i64 k,.int .i64 t,.int .i64 m] 59):=b1
 have HU:Hid (Below w.heap.size w W1):=u1
 clear e1 u1 b1
 by_cases hm:0 < m
 ·have hr:(Dk.Ev.mk k t m).runs=false:=by simp [Dk.Ev.runs];omega
  rw [hr]
  rw [decide_eq_true hm] at K1
  clear hm hr
  go_enter Tryz.func123,Tryz.ntmps123
  go_wp2_with (rw [HE.out];clear HE)
  refine (K1 _).mono ?_
  rintro x w1 ⟨rfl,v1⟩
  clear c0 c1 c2
  go_wp2
  go_ret2
  exact ⟨rfl,Dk.zg HU.out v1⟩
 ·rw [decide_eq_false hm] at K1
  by_cases hk:k=3∨k=4
  ·have hr:(Dk.Ev.mk k t m).runs=decide (0≤t):=by rcases hk with rfl | rfl <;> simp [Dk.Ev.runs] <;> omega
   rw [hr]
   clear hr hm
   generalize (if decide (0≤t)=true then t else 0)=tv at K2 ⊢
   generalize decide (0≤t)=tb at K2 ⊢
   go_enter Tryz.func123,Tryz.ntmps123
   go_wp2_with (rw [HE.out];clear HE)
   refine (K1 _).mono ?_
   rintro x w1 ⟨rfl,v1⟩
   have b2:=(HB.out).up v1
   have c0:w1.cell? ⟨w.heap.size,0,none⟩=some (.int .i64 k):=b2.cell 0
   have c1:w1.cell? ⟨w.heap.size,1,none⟩=some (.int .i64 t):=b2.cell 1
   have c2:w1.cell? ⟨w.heap.size,2,none⟩=some (.int .i64 m):=b2.cell 2
   have u2:Hid (Below w.heap.size w w1):=Dk.zg HU.out v1
   clear HB HU v1 b2 K1
   rcases hk with rfl | rfl
   all_goals
    go_wp2_with fail
    refine (K2 _).mono ?_
    rintro x w2 ⟨rfl,v2⟩
    go_wp2
    go_ret2
    exact ⟨rfl,Dk.zg u2.out v2⟩
  ·have hr:(Dk.Ev.mk k t m).runs=false:=by simp [Dk.Ev.runs];omega
   rw [hr]
   have h3:(k != 3)=true:=by simp;omega
   have h4:(k != 4)=true:=by simp;omega
   clear hr hm hk
   go_enter Tryz.func123,Tryz.ntmps123
   go_wp2_with (rw [HE.out];clear HE)
   refine (K1 _).mono ?_
   rintro x w1 ⟨rfl,v1⟩
   have b2:=(HB.out).up v1
   have c0:w1.cell? ⟨w.heap.size,0,none⟩=some (.int .i64 k):=b2.cell 0
   have u2:Hid (Below w.heap.size w w1):=Dk.zg HU.out v1
   clear HB HU v1 b2 K1 K2
   go_wp2
   go_ret2
   exact ⟨rfl,u2.out⟩
theorem call_sec (args:Array Value) (w:World):(callFunc 128 args).run Tryz.prog w=.ok (.enter 128 args) w:=by kernel_rfl
section
variable {w : World}
theorem Keep_any {A:Option Addr} {L C:Nat} {es:List Dk.Ev} (hE:Dk.SlE w.heap.size w A L C es) (hL:L≤5864062014805) :
  Calls Tryz.prog 101 #[.slice A L C] w fun e w'=>∃ v,e=.returned v∧Dk.Sep w w' [Dk.rowOf 59 3 v (Dk.keepL es).length (Dk.evs (Dk.keepL es))]:=by
 have hlen:=hE.len
 have hcap:=hE.cap
 have HH:Hid (Dk.SlE w.heap.size w A L C es):=hE
 have HL:Hid (es.length=L):=hlen
 have s0:=(Dk.Sep.begin (Below.refl w.heap.size w)).nilRow 59 3
 clear hE hlen
 go_enter Tryz.func101,Tryz.ntmps101
 go_wp2_with fail
 go_loopw [3,10] (fun v i w'=>∃ k:Nat,k≤L∧i=.int .i64 k∧Dk.Sep w w' [Dk.rowOf 59 3 v (Dk.keepL (es.take k)).length (Dk.evs (Dk.keepL (es.take k)))]) (fun v i w'=>L - (RowKit.intOf i).toNat)
 case atStart=>exact ⟨0,Nat.zero_le _,rfl,s0⟩
 case round=>
  clear s0
  obtain ⟨k,hk,rfl,hS⟩:=hrel
  have hb:=hS.out
  by_cases hlt:k < L
  ·obtain ⟨b,o,rfl,hbb,_,k0,k1,k2⟩:=HH.out.at hlt
   have hkl:k < es.length:=by rw [HL.out];exact hlt
   have hn:(Dk.keepL (es.take k)).length≤k:=Nat.le_trans (Dk.zc2 _) (by rw [List.length_take];omega)
   have HY:Hid ((es.getD k Dk.Ev.zero).kept=true→Dk.keepL (es.take (k+1))=Dk.keepL (es.take k)++[es.getD k Dk.Ev.zero]):=Dk.zjq hkl
   have HN:Hid ((es.getD k Dk.Ev.zero).kept=false→Dk.keepL (es.take (k+1))=Dk.keepL (es.take k)):=Dk.keepL_no hkl
   generalize es.getD k Dk.Ev.zero=x at k0 k1 k2 HY HN
   have KR:=fun w=>zdz x w
   have KS:=fun w=>za7 x w
   have hkept:x.kept=(x.runs || x.within):=rfl
   generalize (if x.runs then x.t else 0)=tv at KR
   generalize x.runs=xr at KR hkept
   generalize x.within=xs at KS hkept
   obtain ⟨xk,xt,xm⟩:=x
   have c0:wr.cell? ⟨b,o+k*3,none⟩=some (.int .i64 xk):=by rw [hb.cell (by exact hbb)];exact k0
   have c1:wr.cell? ⟨b,o+k*3+1,none⟩=some (.int .i64 xt):=by rw [hb.cell (by exact hbb)];exact k1
   have c2:wr.cell? ⟨b,o+k*3+2,none⟩=some (.int .i64 xm):=by rw [hb.cell (by exact hbb)];exact k2
   obtain ⟨W1,e1⟩:∃ W1,W1=wr.alloc (.cells #[.int .i64 xk,.int .i64 xt,.int .i64 xm] 59):=⟨_,rfl⟩
   have S1:=hS.newBox e1
   have HE:Hid (wr.alloc (.cells #[.int .i64 xk,.int .i64 xt,.int .i64 xm] 59)=W1):=e1.symm
   have FB:Hid (∀ w2 ts,Dk.Sep w w2 (Dk.boxOf wr.heap.size #[.int .i64 xk,.int .i64 xt,.int .i64 xm] 59::ts)→w2.cell? ⟨wr.heap.size,0,none⟩=some (.int .i64 xk)∧w2.cell? ⟨wr.heap.size,1,none⟩=some (.int .i64 xt)∧w2.cell? ⟨wr.heap.size,2,none⟩=some (.int .i64 xm)):=fun w2 ts h=>⟨(h.box (List.mem_cons_self ..)).cell 0,(h.box (List.mem_cons_self ..)).cell 1,(h.box (List.mem_cons_self ..)).cell 2⟩
   obtain ⟨d0,d1,d2⟩:=FB.out _ _ S1
   clear e1 hb hS k0 k1 k2
   cases xr with
   | true=>
    have HQ:Hid _:=HY.out hkept
    clear HY HN hkept KS
    go_wp2_with (rw [HE.out];clear HE)
    refine (KR _).mono ?_
    rintro e w2 ⟨rfl,v2⟩
    have S2:=S1.below v2
    obtain ⟨f0,f1,f2⟩:=FB.out _ _ S2
    obtain ⟨v',w3,hrun,S3⟩:=Dk.Sep.appendE (us1:=[_]) (x:=⟨xk,xt,xm⟩) KE S2 (by unfold maxLen;omega) (by omega)
    have S4:=S3.sub (List.sublist_cons_self _ _)
    clear S1 S2 S3 v2 KR c0 c1 c2 d0 d1 d2 FB
    go_wp2_with (at_builtin;refine Lib.wpList_append_run _ rfl _ _ _ _ rfl _ _ rfl rfl _ _ hrun ?_)
    go_roundw
    case rel=>exact ⟨k+1,by omega,by go_num,by rw [HQ.out,List.length_append];exact S4⟩
    case measure=>simp [RowKit.intOf];omega
   | false=>
    cases xs with
    | true=>
     have HQ:Hid _:=HY.out hkept
     clear HY HN hkept
     go_wp2_with (rw [HE.out];clear HE)
     refine (KR _).mono ?_
     rintro e w2 ⟨rfl,v2⟩
     have S2:=S1.below v2
     obtain ⟨f0,f1,f2⟩:=FB.out _ _ S2
     clear S1 v2 KR c0 c1 c2 d0 d1 d2
     go_wp2_with fail
     refine (KS _).mono ?_
     rintro e w3 ⟨rfl,v3⟩
     have S3:=S2.below v3
     obtain ⟨g0,g1,g2⟩:=FB.out _ _ S3
     obtain ⟨v',w4,hrun,S4⟩:=Dk.Sep.appendE (us1:=[_]) (x:=⟨xk,xt,xm⟩) KE S3 (by unfold maxLen;omega) (by omega)
     have S5:=S4.sub (List.sublist_cons_self _ _)
     clear S2 S3 S4 v3 KS f0 f1 f2 FB
     go_wp2_with (at_builtin;refine Lib.wpList_append_run _ rfl _ _ _ _ rfl _ _ rfl rfl _ _ hrun ?_)
     go_roundw
     case rel=>exact ⟨k+1,by omega,by go_num,by rw [HQ.out,List.length_append];exact S5⟩
     case measure=>simp [RowKit.intOf];omega
    | false=>
     have HQ:Hid _:=HN.out hkept
     clear HY HN hkept
     go_wp2_with (rw [HE.out];clear HE)
     refine (KR _).mono ?_
     rintro e w2 ⟨rfl,v2⟩
     have S2:=S1.below v2
     obtain ⟨f0,f1,f2⟩:=FB.out _ _ S2
     clear S1 v2 KR c0 c1 c2 d0 d1 d2 FB
     go_wp2_with fail
     refine (KS _).mono ?_
     rintro e w3 ⟨rfl,v3⟩
     have S3:=(S2.below v3).sub (List.sublist_cons_self _ _)
     clear S2 v3 KS f0 f1 f2
     go_wp2_with fail
     go_roundw
     case rel=>exact ⟨k+1,by omega,by go_num,by rw [HQ.out];exact S3⟩
     case measure=>simp [RowKit.intOf];omega
  ·obtain rfl:k=L:=by omega
   rw [List.take_of_length_le (by rw [HL.out];omega)] at hS
   have HS:Hid _:=hS
   clear hS
   go_wp2
   go_ret
   exact ⟨_,rfl,HS.out⟩
end
end Go.Proofs.YtpnajphbjfehnaaGreat
namespace Dk
open Go Go.RowKit
section
variable {P : Go.Program} {ops : Array Oper} {md : Region.Mode} {S : World → Prop} {Q : Exit → Act → World → Prop}
def mixWalk (P:Go.Program) (ops:Array Oper) (Q:Exit→Act→World→Prop) (S:World→Prop):List (Bool × Nat)→Act→World→Prop
 | [],a,w=>Q .normal a w
 | (true,i)::r,a,w=>∃ o v,ops[i]? = some o∧YieldsIf P ops S o v a∧mixWalk P ops Q S r (a.put o.dst v) w
 | (false,j)::r,a,w=>wpOp P ops Q j (fun a' w'=>S w'∧mixWalk P ops Q S r a' w') a w
def mixB (md:Region.Mode) (ops:Array Oper):List (Bool × Nat)→Array Bool→Bool
 | [],listed=>Region.ready md ops listed == []
 | (true,i)::r,listed=>(Region.ready md ops listed).contains i && Region.free md ops listed i && mixB md ops r (listed.setIfInBounds i true)
 | (false,j)::r,listed=>Region.ready md ops listed == [j] && mixB md ops r (listed.setIfInBounds j true)
theorem zga (hs:Region.noSelect ops=true) (hQ:∀ c a w,¬ Q (.panic c) a w):∀ (r:List (Bool × Nat)) (listed:Array Bool) (a:Act) (w:World),mixB md ops r listed=true→S w→mixWalk P ops Q S r a w→wpAnyH P md ops Q S r.length listed a w
 | [],listed,a,w,hB,_,h=>⟨by simpa [mixB] using hB,h⟩
 | (true,i)::r,listed,a,w,hB,hS,h=>by
  simp only [mixB,Bool.and_eq_true] at hB
  obtain ⟨o,v,ho,hy,hK⟩:=h
  exact wpAnyH_take (fuel:=r.length) ho hs hB.1.2 hB.1.1 (fun c a w h=>absurd h (hQ _ _ _)) hy hS (zga hs hQ r _ _ _ hB.2 hS hK)
 | (false,j)::r,listed,a,w,hB,hS,h=>by
  simp only [mixB,Bool.and_eq_true] at hB
  have hr:Region.ready md ops listed=[j]:=by simpa using hB.1
  refine wpAnyH_all hr (by simp) fun i hi=>?_
  obtain rfl:i=j:=by simpa using hi
  exact wpOp_mono (fun a' w' h'=>⟨h'.1,zga hs hQ r _ a' w' hB.2 h'.1 h'.2⟩) h
theorem zq {id:Nat} {a:Act} {w:World} {L:List Oper} (r:List (Bool × Nat)) (hm:P.follows .mixedOrders=true) (hs:Region.noSelect L.toArray=true) (hB:mixB .any L.toArray r (Array.replicate L.toArray.size false)=true) (hl:r.length=L.length) (hS:S w.drew)
  (h:mixWalk P L.toArray (NoPanic Q) S r a w.drew):(Code.region id L.toArray true).wp P Q a w:=by
 refine wp_region_noPanic (wp_region_held (S:=S) hm ?_)
 have key:=zga (md:=.any) (Q:=NoPanic Q) (S:=S) hs (fun c a w h=>h) r _ a w.drew hB hS h
 rw [hl] at key
 have e:L.toArray.size=L.length:=by simp
 rw [e] at key ⊢
 exact key
theorem zj {L:List Oper} {i:Nat} {r:List (Bool × Nat)} {a:Act} {w:World} {o:Oper} {v:Value} (ho:L[i]? = some o) (hw:Region.wanted o (yielded L.toArray a.tmps)=true) (hy:∀ w,S w→(execOp a.eval o).run P w=.ok (.value v) w)
  (h:mixWalk P L.toArray Q S r (a.put o.dst v) w):mixWalk P L.toArray Q S ((true,i)::r) a w:=⟨o,v,by simpa using ho,.inl ⟨hw,hy⟩,h⟩
theorem zgb {L:List Oper} {j:Nat} {r:List (Bool × Nat)} {a:Act} {w w':World} {o:Oper} {v:Value} (ho:L[j]? = some o) (hw:Region.wanted o (yielded L.toArray a.tmps)=true) (hr:(execOp a.eval o).run P w=.ok (.value v) w') (hS:S w')
  (h:mixWalk P L.toArray Q S r (a.put o.dst v) w'):mixWalk P L.toArray Q S ((false,j)::r) a w:=by
 have ho':L.toArray[j]? = some o:=by simpa using ho
 unfold mixWalk wpOp
 simp only [ho',hw,if_true]
 refine .inl ?_
 unfold Oper.wp
 rw [hr]
 exact ⟨hS,h⟩
theorem zaq {L:List Oper} {j:Nat} {r:List (Bool × Nat)} {a:Act} {w:World} {o:Oper} (ho:L[j]? = some o) (hw:Region.wanted o (yielded L.toArray a.tmps)=true)
  (h:o.wp P a w (fun a' w'=>S w'∧mixWalk P L.toArray Q S r a' w') Q):mixWalk P L.toArray Q S ((false,j)::r) a w:=by
 have ho':L.toArray[j]? = some o:=by simpa using ho
 unfold mixWalk wpOp
 simp only [ho',hw,if_true]
 exact .inl h
theorem zad {L:List Oper} {j:Nat} {r:List (Bool × Nat)} {a:Act} {w:World} {o:Oper} {f:FuncId} {args:Array Value} (ho:L[j]? = some o) (hw:Region.wanted o (yielded L.toArray a.tmps)=true) (hr:(execOp a.eval o).run P w=.ok (.enter f args) w)
  (hc:Calls P f args w fun e w'=>∃ v,e=.returned v∧S w'∧mixWalk P L.toArray Q S r (a.put o.dst v) w'):mixWalk P L.toArray Q S ((false,j)::r) a w:=by
 have ho':L.toArray[j]? = some o:=by simpa using ho
 unfold mixWalk wpOp
 simp only [ho',hw,if_true]
 refine .inl ?_
 unfold Oper.wp
 rw [hr]
 simp only [Oper.upon]
 refine Calls.mono hc ?_
 rintro e w' ⟨v,rfl,h⟩
 exact h
end
def firstI (es:List Ev):Int:=if es.findIdx Ev.within < es.length then es.findIdx Ev.within else -1
theorem zjl {es:List Ev} {k:Nat} (h:k < es.length) (hn:∀ i,i < k→(es.getD i Ev.zero).within=false) (hy:(es.getD k Ev.zero).within=true):es.findIdx Ev.within=k:=by
 rw [List.findIdx_eq h]
 have e:∀ (i:Nat) (hi:i < es.length),es.getD i Ev.zero=es[i]:=fun i hi=>by simp [List.getD,hi]
 refine ⟨by rw [← e k h];exact hy,fun j hj=>by rw [← e j (by omega)];exact hn j hj⟩
theorem zf3 {es:List Ev} (hn:∀ i,i < es.length→(es.getD i Ev.zero).within=false):es.findIdx Ev.within=es.length:=by
 rw [List.findIdx_eq_length]
 intro x hx
 obtain ⟨j,hj,rfl⟩:=List.getElem_of_mem hx
 have:=hn j hj
 simpa [List.getD,hj] using this
theorem Sep.onto {W w w':World} {us:List Thing} {t:Thing} (h:Sep W w us) (s:Sep w w' [t]):Sep W w' (t::us):=h.add s.out (s.get (List.mem_cons_self ..)) (s.base (List.mem_cons_self ..))
end Dk
namespace Go.Proofs.YtpnajphbjfehnaaGreat
open Go.RowKit Go.Lib
theorem Dk.Away.rowE {S:Nat→Prop} {w w':World} {b:Nat} (h:Dk.Away S w w') (hb:S b∨w.heap.size≤b) (cs:Array Value):Dk.Away S w (w'.setRow b cs):=
 ⟨h.os,h.tape,h.output,by simp [World.setRow];exact h.size,fun k hk hn=>(setRow_other w' b k cs (fun e=>by subst e;exact hb.elim hn (fun h1=>absurd hk (by omega)))).trans (h.block k hk hn)⟩
theorem Dk.Sep.setRow {W w:World} {us1 us2:List Dk.Thing} {b:Nat} {cs:Array Value} {e:TypeId} (h:Dk.Sep W w (us1++Dk.boxOf b cs e::us2)) (cs':Array Value):Dk.Sep W (w.setRow b cs') (us1++Dk.boxOf b cs' e::us2):=
 h.turn (t':=Dk.boxOf b cs' e) (Dk.Away.rowE (S:=(Dk.boxOf b cs e).own) (Dk.Away.refl _ _) (.inl rfl) _) (h.box (b:=b) (cs:=cs) (t:=e) (by simp)).row (fun k hk=>.inl hk)
section
variable {w : World}
theorem za6 (a b c:Int):(#[.int .i64 a,.int .i64 b,.int .i64 c]:Array Value).all (·.oneCell')=true:=by simp [Value.oneCell']
theorem zji:(Tryz.prog.info? 59).map (·.size)=some 3:=by kernel_rfl
theorem za5 {A A':Option Addr} {L L' C C':Nat} {es es':List Dk.Ev} (hE:Dk.SlE w.heap.size w A L C es) (hE':Dk.SlE w.heap.size w A' L' C' es') (hL:L+L'≤5864062014805) :
  Calls Tryz.prog 61 #[.slice A L C,.slice A' L' C'] w fun e w'=>∃ B D,e=.returned (.slice B (L+L') D)∧Dk.Sep w w' [Dk.rowOf 59 3 (.slice B (L+L') D) (L+L') (Dk.evs (es++es'))]:=by
 have s0:=(Dk.Sep.begin (Below.refl w.heap.size w)).nilRow 59 3
 obtain ⟨v1,w1,r1,s1⟩:=Dk.Sep.appendEs (us1:=[]) (xs:=[]) KE s0 rfl hE (by unfold maxLen;omega) (by omega)
 obtain ⟨v2,w2,r2,s2⟩:=Dk.Sep.appendEs (us1:=[]) (xs:=[]++es) KE s1 (by rw [List.nil_append,hE.len];omega) (hE'.up s1.out) (by unfold maxLen;omega) (by omega)
 rw [List.nil_append,Nat.zero_add] at s2
 obtain ⟨B,D,ev,_,_⟩:=Dk.zf (s2.row (e:=59) (s:=3) (v:=v2) (n:=L+L') (xs:=Dk.evs (es++es')) (by simp))
 subst ev
 have HS:Hid _:=s2
 clear s0 s1 s2 hE hE'
 go_enter Tryz.func61,Tryz.ntmps61
 go_wp2_with (at_builtin;first | (refine Lib.wpList_append_run _ rfl _ _ _ _ rfl _ _ rfl rfl _ _ r1 ?_;clear r1) | (refine Lib.wpList_append_run _ rfl _ _ _ _ rfl _ _ rfl rfl _ _ r2 ?_;clear r2))
 go_ret
 exact ⟨_,_,rfl,HS.out⟩
theorem zbq {A:Option Addr} {L C:Nat} {es:List Dk.Ev} (hE:Dk.SlE w.heap.size w A L C es) :
  Calls Tryz.prog 141 #[.slice A L C,.func (.func 128) #[] #[]] w fun e w'=>e=.returned (.int .i64 (Dk.firstI es))∧Below w.heap.size w w':=by
 have hfn:=call_sec
 have hlen:=hE.len
 have hcap:=hE.cap
 have hmax:=hE.max
 unfold maxLen at hmax
 have HH:Hid (Dk.SlE w.heap.size w A L C es):=hE
 have HL:Hid (es.length=L):=hlen
 clear hE hlen
 go_enter Tryz.func141,Tryz.ntmps141
 go_wp2_with fail
 go_loopw [8] (fun i w'=>∃ k:Nat,k≤L∧i=.int .i64 k∧Hid (Below w.heap.size w w')∧Hid (∀ i,i < k→(es.getD i Dk.Ev.zero).within=false)) (fun i w'=>L - (RowKit.intOf i).toNat)
 case atStart=>exact ⟨0,Nat.zero_le _,rfl,Below.refl _ _,fun i hi=>absurd hi (Nat.not_lt_zero _)⟩
 case round=>
  obtain ⟨k,hk,rfl,HB,HN⟩:=hrel
  by_cases hlt:k < L
  ·obtain ⟨b,o,rfl,hbb,_,k0,k1,k2⟩:=HH.out.at hlt
   have KS:=fun w=>za7 (es.getD k Dk.Ev.zero) w
   obtain ⟨x,ex⟩:∃ x,es.getD k Dk.Ev.zero=x:=⟨_,rfl⟩
   rw [ex] at k0 k1 k2 KS
   have HX:Hid _:=ex
   clear ex
   have HW:Hid (x.within=x.within):=rfl
   obtain ⟨z,ez⟩:∃ z,x.within=z:=⟨_,rfl⟩
   rw [ez] at KS
   have HZ:Hid (x.within=z):=ez
   clear ez HW
   obtain ⟨xk,xt,xm⟩:=x
   have c0:wr.cell? ⟨b,o+k*3,none⟩=some (.int .i64 xk):=by rw [HB.out.cell (by exact hbb)];exact k0
   have c1:wr.cell? ⟨b,o+k*3+1,none⟩=some (.int .i64 xt):=by rw [HB.out.cell (by exact hbb)];exact k1
   have c2:wr.cell? ⟨b,o+k*3+2,none⟩=some (.int .i64 xm):=by rw [HB.out.cell (by exact hbb)];exact k2
   clear k0 k1 k2
   cases z with
   | true=>
    have e:Dk.firstI es=(k:Int):=by
     have:=Dk.zjl (es:=es) (k:=k) (by rw [HL.out];exact hlt) HN.out (by rw [HX.out];exact HZ.out)
     unfold Dk.firstI
     rw [this,if_pos (by rw [HL.out];exact hlt)]
    have HE:Hid _:=e
    clear e
    go_wp2_with fail
    refine (KS _).mono ?_
    rintro e w2 ⟨rfl,v2⟩
    clear KS c0 c1 c2
    go_wp2
    go_ret
    exact ⟨by rw [HE.out];rfl,Dk.zg HB.out v2⟩
   | false=>
    have HQ:Hid (∀ i,i < k+1→(es.getD i Dk.Ev.zero).within=false):=fun i hi=>by
     by_cases hik:i < k
     ·exact HN.out i hik
     ·obtain rfl:i=k:=by omega
      rw [HX.out];exact HZ.out
    go_wp2_with fail
    refine (KS _).mono ?_
    rintro e w2 ⟨rfl,v2⟩
    clear KS c0 c1 c2
    go_wp2_with fail
    go_roundw
    case rel=>exact ⟨k+1,by omega,by go_num,Dk.zg HB.out v2,HQ⟩
    case measure=>simp [RowKit.intOf];omega
  ·obtain rfl:k=L:=by omega
   have e:Dk.firstI es=-1:=by
    have:=Dk.zf3 (es:=es) (by rw [HL.out];exact HN.out)
    unfold Dk.firstI
    rw [this,if_neg (by omega)]
   have HE:Hid _:=e
   clear e
   go_wp2
   go_ret
   exact ⟨by rw [HE.out];rfl,HB.out⟩
theorem ziw {A:Option Addr} {L C:Nat} {es:List Dk.Ev} (hE:Dk.SlE w.heap.size w A L C es) (hL:L≤5864062014805) (hn:Dk.firstI es=-1) :
  Calls Tryz.prog 117 #[.slice A L C] w fun e w'=>∃ B D,e=.returned (.tuple #[Dk.Ev.zero.v,.slice B L D,.bool false])∧Dk.Sep w w' [Dk.rowOf 59 3 (.slice B L D) L (Dk.evs es)]:=by
 obtain ⟨W1,e1⟩:∃ W1,W1=w.alloc (.cells #[.int .i64 0,.int .i64 0,.int .i64 0] 59):=⟨_,rfl⟩
 have S1:=(Dk.Sep.begin (Below.refl w.heap.size w)).newBox e1
 have H1:Hid (w.alloc (.cells #[.int .i64 0,.int .i64 0,.int .i64 0] 59)=W1):=e1.symm
 have E1:=hE.up S1.out
 have K:=zbq E1
 rw [hn] at K
 have HE:Hid _:=E1
 clear hE e1 hn E1
 go_enter Tryz.func117,Tryz.ntmps117
 go_wp2_with (rw [H1.out];clear H1)
 refine K.mono ?_
 rintro e w2 ⟨rfl,v2⟩
 have S2:=S1.below v2
 have KJ:=za5 (HE.out.up v2) (Dk.SlE.none_ (B:=w2.heap.size) (w:=w2) (A:=none) (C:=0) rfl (Nat.zero_le _)) (by omega)
 rw [List.append_nil,Nat.add_zero] at KJ
 clear K S1 HE
 go_wp2_with fail
 refine KJ.mono ?_
 rintro e w3 ⟨B,D,rfl,s3⟩
 have S3:=S2.onto s3
 have b3:=S3.box (b:=w.heap.size) (cs:=#[.int .i64 0,.int .i64 0,.int .i64 0]) (t:=59) (by simp)
 have HB:Hid (Dk.Box w3 w.heap.size #[.int .i64 0,.int .i64 0,.int .i64 0] 59):=b3
 have HS:Hid _:=S3
 clear S2 S3 s3 KJ v2 b3
 go_wp2_with (refine wpList_store_row rfl 59 _ _ rfl w.heap.size #[.int .i64 0,.int .i64 0,.int .i64 0] rfl rfl 59 _ HB.out.heap zji rfl (za6 _ _ _) ?_)
 have d0:=(HB.out.row (cs':=#[.int .i64 0,.int .i64 0,.int .i64 0])).cell
 have s4:=Dk.Sep.setRow (us1:=[_]) (us2:=[]) HS.out #[.int .i64 0,.int .i64 0,.int .i64 0]
 exact bodyPost_ret (v:=.tuple #[.agg #[.int .i64 0,.int .i64 0,.int .i64 0],.slice B L D,.bool false]) (by simp [results,Tryz.results117,go_sem,d0]) rfl ⟨_,_,rfl,s4.sub (List.Sublist.cons_cons _ (List.sublist_cons_self _ _))⟩
theorem zdj {b o L C k:Nat} {es:List Dk.Ev} (hE:Dk.SlE w.heap.size w (some ⟨b,o,none⟩) L C es) (hL:L≤5864062014805) (hk:k < L) (hn:Dk.firstI es=(k:Int)) :
  Calls Tryz.prog 117 #[.slice (some ⟨b,o,none⟩) L C] w fun e w'=>∃ B D,e=.returned (.tuple #[(es.getD k Dk.Ev.zero).v,.slice B (L - 1) D,.bool true])∧Dk.Sep w w' [Dk.rowOf 59 3 (.slice B (L - 1) D) (L - 1) (Dk.evs (es.take k++es.drop (k+1)))]:=by
 obtain ⟨W1,e1⟩:∃ W1,W1=w.alloc (.cells #[.int .i64 0,.int .i64 0,.int .i64 0] 59):=⟨_,rfl⟩
 have S1:=(Dk.Sep.begin (Below.refl w.heap.size w)).newBox e1
 have H1:Hid (w.alloc (.cells #[.int .i64 0,.int .i64 0,.int .i64 0] 59)=W1):=e1.symm
 have E1:=hE.up S1.out
 have K:=zbq E1
 obtain ⟨b',o',eb,hb,_⟩:=hE.at hk
 cases eb
 have hcap:=hE.cap
 have hmax:=hE.max
 unfold maxLen at hmax
 rw [hn] at K
 have HE:Hid _:=E1
 have hki:((k:Nat):Int) < (L:Int):=by omega
 have hk0:(0:Int)≤(k:Int):=by omega
 have y1:decide ((k:Int) < 0)=false:=by simp
 clear hE e1 hn E1
 go_enter Tryz.func117,Tryz.ntmps117
 go_wp2_with (rw [H1.out];clear H1)
 refine K.mono ?_
 rintro e w2 ⟨rfl,v2⟩
 have S2:=S1.below v2
 have HE2:=HE.out.up v2
 have HE2:Hid _:=HE2
 clear K S1 HE
 obtain ⟨b',o',eb,hbb,_,k0,k1,k2⟩:=HE2.out.at hk
 cases eb
 have hEw:=HE2.out
 obtain ⟨x,ex⟩:∃ x,es.getD k Dk.Ev.zero=x:=⟨_,rfl⟩
 rw [ex] at k0 k1 k2
 obtain ⟨xk,xt,xm⟩:=x
 have HX:Hid (es.getD k Dk.Ev.zero=⟨xk,xt,xm⟩):=ex
 clear ex
 have E3:=HE2.out.up (Dk.zm (Below.refl w2.heap.size w2))
 obtain ⟨q,hq⟩:∃ q,q=k+1:=⟨_,rfl⟩
 have hw1:IntKind.i64.wrap ((k:Int)+1)=(q:Int):=by subst hq;go_bits;omega
 have ed:es.drop q=es.drop (k+1):=by rw [hq]
 obtain ⟨TA,eTA⟩:∃ TA:Option Addr,(if C=q then some ⟨b,o,none⟩ else some ⟨b,o+q*3,none⟩)=TA:=⟨_,rfl⟩
 have E4:Dk.SlE w2.drew.heap.size w2.drew TA (L - q) (C - q) (es.drop q):=by
  rw [← eTA]
  by_cases hc:C=q
  ·rw [if_pos hc,show C - q=0 by omega,show L - q=0 by omega]
   exact Dk.SlE.none_ (List.drop_eq_nil_of_le (by rw [E3.len];omega)) (Nat.zero_le _)
  ·rw [if_neg hc]
   exact E3.drop (by omega)
 have KJ:=za5 (E3.take (k:=k) (by omega)) E4 (by omega)
 rw [show k+(L - q)=L - 1 by omega,ed] at KJ
 have hqL:(q:Int)≤(L:Int):=by omega
 have hq0:(0:Int)≤(q:Int):=by omega
 have hkC:¬ C < k:=by omega
 have Hq:Hid _:=hq
 clear hq ed
 have S3:=S2.below (Dk.zm (Below.refl w2.heap.size w2))
 have hlt:b < w.heap.size:=hb
 clear hEw E3 E4 HE2
 go_wp2_with fail
 refine Dk.zq (S:=fun w'=>w'.cell? ⟨b,o+k*3,none⟩=some (.int .i64 xk)∧w'.cell? ⟨b,o+k*3+1,none⟩=some (.int .i64 xt)∧w'.cell? ⟨b,o+k*3+2,none⟩=some (.int .i64 xm)) [(true,0),(true,1),(true,2),(true,3),(true,4),(true,5),(true,6),(true,7),(true,8),(true,9),(true,10),(false,11),(false,12),(false,13),(false,14)] (by kernel_rfl) (by kernel_rfl) (by kernel_rfl) rfl ⟨k0,k1,k2⟩ ?_
 iterate 3 (refine Dk.zj rfl rfl (fun w' hw'=>by go_simp;rfl) ?_;simp only [zD])
 refine Dk.zj (v:=.agg #[.int .i64 xk,.int .i64 xt,.int .i64 xm]) rfl rfl (fun w' hw'=>by obtain ⟨q0,q1,q2⟩:=hw';go_simp) ?_
 simp only [zD]
 iterate 2 (refine Dk.zj rfl rfl (fun w' hw'=>by go_simp;rfl) ?_;simp only [zD])
 refine Dk.zj (v:=.slice (some ⟨b,o,none⟩) k C) rfl rfl (fun w' hw'=>by go_simp;first | done | (intro h;exact absurd h hkC)) ?_
 simp only [zD]
 iterate 2 (refine Dk.zj rfl rfl (fun w' hw'=>by go_simp;rfl) ?_;simp only [zD])
 refine Dk.zj (v:=.int .i64 (q:Int)) rfl rfl (fun w' hw'=>by go_simp) ?_
 simp only [zD]
 refine Dk.zj (v:=.slice TA (L - q) (C - q)) rfl rfl (fun w' hw'=>by go_simp) ?_
 simp only [zD]
 refine Dk.zad (f:=61) (args:=#[.slice (some ⟨b,o,none⟩) k C,.slice TA (L - q) (C - q)]) rfl rfl (by go_simp) ?_
 refine KJ.mono ?_
 rintro e w3 ⟨B,D,rfl,s3⟩
 have S4:=S3.onto s3
 have v3:=Dk.zg (Dk.zm (Below.refl w2.heap.size w2)) s3.out
 have b3:=S4.box (b:=w.heap.size) (cs:=#[.int .i64 0,.int .i64 0,.int .i64 0]) (t:=59) (by simp)
 have S5:=Dk.Sep.setRow (us1:=[_]) (us2:=[]) S4 #[.int .i64 xk,.int .i64 xt,.int .i64 xm]
 have b5:=S5.box (b:=w.heap.size) (cs:=#[.int .i64 xk,.int .i64 xt,.int .i64 xm]) (t:=59) (by simp)
 have q3:∀ j,w3.cell? ⟨b,j,none⟩=w2.cell? ⟨b,j,none⟩:=fun j=>v3.cell (by exact hbb)
 have SS:w3.cell? ⟨b,o+k*3,none⟩=some (.int .i64 xk)∧w3.cell? ⟨b,o+k*3+1,none⟩=some (.int .i64 xt)∧w3.cell? ⟨b,o+k*3+2,none⟩=some (.int .i64 xm):=⟨by rw [q3];exact k0,by rw [q3];exact k1,by rw [q3];exact k2⟩
 refine ⟨_,rfl,SS,?_⟩
 simp only [zD]
 obtain ⟨W5,e5⟩:∃ W5,W5=w3.setRow w.heap.size #[.int .i64 xk,.int .i64 xt,.int .i64 xm]:=⟨_,rfl⟩
 have q5:∀ j,W5.cell? ⟨b,j,none⟩=w3.cell? ⟨b,j,none⟩:=fun j=>by
  subst e5
  unfold World.cell?
  rw [setRow_other w3 w.heap.size b _ (by omega)]
 have SS5:W5.cell? ⟨b,o+k*3,none⟩=some (.int .i64 xk)∧W5.cell? ⟨b,o+k*3+1,none⟩=some (.int .i64 xt)∧W5.cell? ⟨b,o+k*3+2,none⟩=some (.int .i64 xm):=⟨by rw [q5];exact SS.1,by rw [q5];exact SS.2.1,by rw [q5];exact SS.2.2⟩
 rw [← e5] at S5 b5
 have HS:Hid (Dk.Sep w W5 ([Dk.rowOf 59 3 (.slice B (L - 1) D) (L - 1) (Dk.evs (es.take k++es.drop (k+1)))]++[Dk.boxOf w.heap.size #[.int .i64 xk,.int .i64 xt,.int .i64 xm] 59])):=S5
 have HB:Hid _:=b5
 refine Dk.zaq rfl rfl ?_
 refine wp_store_row 59 _ _ rfl w.heap.size #[.int .i64 xk,.int .i64 xt,.int .i64 xm] rfl rfl 59 _ b3.heap zji rfl (za6 _ _ _) ⟨by rw [← e5];exact SS5,?_⟩
 rw [← e5]
 simp only [zD]
 iterate 2 (refine Dk.zgb rfl rfl (by go_simp;rfl) SS5 ?_;simp only [zD])
 show NoPanic _ Exit.normal _ _
 refine NoPanic.normal ?_
 have d0:=HB.out.cell
 clear SS SS5 q3 q5 k0 k1 k2 S4 S5 b3 b5 S2 S3 s3 v3 KJ
 go_wp2_with fail
 exact bodyPost_ret (v:=.tuple #[.agg #[.int .i64 xk,.int .i64 xt,.int .i64 xm],.slice B (L - 1) D,.bool true]) (by simp [results,Tryz.results117,go_sem,d0]) rfl ⟨_,_,by rw [HX.out],Dk.Sep.sub HS.out (List.Sublist.cons_cons _ (List.sublist_cons_self _ _))⟩
end
end Go.Proofs.YtpnajphbjfehnaaGreat
