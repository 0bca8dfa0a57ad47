import Derived.Test.YtpnajphbjfehnaaGreatLn06
import Derived.WalkSpells
import Derived.WalkLawsBesides
set_option linter.unusedSimpArgs false
set_option linter.unusedVariables false
set_option linter.unnecessarySimpa false
set_option maxHeartbeats 8000000
set_option maxRecDepth 100000
namespace Go.Proofs.YtpnajphbjfehnaaGreat
open Go.RowKit
theorem info50:(Tryz.prog.info? 208).map (fun i=>(i.zero,i.size,i.bytes))=some (some (.agg #[.int .u64 0,.bool false]),2,16):=by kernel_rfl
theorem zb7 (n:Nat) (hn:n≤1024) (w:World):(Instr.makeSlice 156 (.int .i64 (n:Int)) (.int .i64 (n:Int))).run Tryz.prog w=.ok (.slice (some ⟨w.heap.size,0,none⟩) n n) (w.alloc (.cells (Dk.sc (Dk.blank n)) 208)):=by
 obtain ⟨i,hi,h0,h1,h2⟩:=info_parts info50
 have:=run_make (P:=Tryz.prog) w 156 208 i _ Tryz.underlying156 hi h0 .i64 .i64 (n:Int) (n:Int) (by omega) (Int.le_refl _) (by rw [h2];omega) (by omega)
 rw [this,h1]
 simp only [Int.toNat_natCast]
 rw [← Dk.sc_blank]
 rfl
theorem zbe (bt bs M:Nat) (st:Dk.StS) (k:Nat) (w:World) (hT:Dk.Tab w bt bs M st) (hM:M≤100000) (hk:k < st.length) :
  Calls Tryz.prog 113 #[.pointer (some ⟨bt,0,none⟩),.int .i64 (k:Int)] w fun e w'=>e=.returned (.int .u64 (Dk.hd st k:Nat))∧w'=w:=by
 have c0:w.cell? ⟨bt,0,none⟩=some (.slice (some ⟨bs,0,none⟩) st.length st.length):=hT.head.cell 0
 have c1:w.cell? ⟨bs,k*2,none⟩=some (.int .u64 (Dk.tk st k:Nat)):=by rw [hT.row.cell];exact (Dk.zc8 st k hk).1
 have hs:=hT.small.2 k
 have hl:=hT.small.1
 obtain ⟨t,ht⟩:∃ t,Dk.tk st k=t:=⟨_,rfl⟩
 have e1:Dk.hd st k=t*65536+k+1:=by unfold Dk.hd;rw [ht]
 rw [e1]
 rw [ht] at c1 hs
 clear e1 ht hT
 go_enter Tryz.func113,Tryz.ntmps113
 go_wp2
 go_ret
 exact ⟨rfl,rfl⟩
theorem za1 (bt bs M:Nat) (st:Dk.StS) (k:Int) (w:World) (hT:Dk.Tab w bt bs M st) :
  Calls Tryz.prog 182 #[.pointer (some ⟨bt,0,none⟩),.int .i64 k] w fun e w'=>e=.returned (.bool (decide (0≤k) && Dk.us st k.toNat))∧w'=w:=by
 have c0:w.cell? ⟨bt,0,none⟩=some (.slice (some ⟨bs,0,none⟩) st.length st.length):=hT.head.cell 0
 have hl:=hT.small.1
 by_cases h0:0≤k
 ·obtain ⟨n,rfl⟩:∃ n:Nat,k=n:=⟨k.toNat,by omega⟩
  by_cases h1:n < st.length
  ·have c1:w.cell? ⟨bs,n*2+1,none⟩=some (.bool (Dk.us st n)):=by rw [hT.row.cell];exact (Dk.zc8 st n h1).2
   have e:(decide ((0:Int)≤n) && Dk.us st (n:Int).toNat)=Dk.us st n:=by simp
   rw [e]
   generalize Dk.us st n=u at c1
   clear hT e
   go_enter Tryz.func182,Tryz.ntmps182
   go_wp2
   go_ret
   exact ⟨rfl,rfl⟩
  ·have e:(decide ((0:Int)≤n) && Dk.us st (n:Int).toNat)=false:=by
    cases h:Dk.us st n
    ·simp [h]
    ·exact absurd (Dk.zcm h) h1
   rw [e]
   clear hT e
   go_enter Tryz.func182,Tryz.ntmps182
   go_wp2
   go_ret
   exact ⟨rfl,rfl⟩
 ·have e:(decide ((0:Int)≤k) && Dk.us st k.toNat)=false:=by simp [h0]
  rw [e]
  clear hT e
  go_enter Tryz.func182,Tryz.ntmps182
  go_wp2
  go_ret
  exact ⟨rfl,rfl⟩
theorem zgh (bt bs M:Nat) (st:Dk.StS) (h:Nat) (w:World) (hT:Dk.Tab w bt bs M st) (hM:M≤100000) (hh:h < 18446744073709551616) :
  Calls Tryz.prog 245 #[.pointer (some ⟨bt,0,none⟩),.int .u64 (h:Nat)] w fun e w'=>e=.returned (.tuple #[.int .i64 (((Dk.find st h).getD 0:Nat):Int),.bool (Dk.find st h).isSome])∧w'=w:=by
 by_cases h0:h % 65536=0
 ·have e:Dk.find st h=none:=by unfold Dk.find;rw [if_pos h0]
  rw [e]
  have q:((h:Int) % 65536)=0:=by omega
  go_enter Tryz.func245,Tryz.ntmps245
  go_wp2_with (go_at_call 182;refine (za1 bt bs M st _ _ hT).mono ?_;rintro e w' ⟨rfl,rfl⟩)
  go_ret2
  exact ⟨rfl,rfl⟩
 ·obtain ⟨k,hk⟩:∃ k,h % 65536=k+1:=⟨h % 65536 - 1,by omega⟩
  have q:((h:Int) % 65536)=k+1:=by omega
  have hk':k < 65536:=by omega
  have ef:Dk.find st h=if Dk.us st k && Dk.hd st k == h then some k else none:=by unfold Dk.find;rw [if_neg h0,hk,Nat.add_sub_cancel]
  cases hu:Dk.us st k
  ·rw [hu] at ef
   simp at ef
   rw [ef]
   have e1:(decide ((0:Int)≤k) && Dk.us st (k:Int).toNat)=false:=by simp [hu]
   have K:∀ w:World,Dk.Tab w bt bs M st→Calls Tryz.prog 182 #[.pointer (some ⟨bt,0,none⟩),.int .i64 (k:Int)] w fun e w'=>e=.returned (.bool false)∧w'=w:=fun w hT=>by
    have:=za1 bt bs M st (k:Int) w hT
    rw [e1] at this
    exact this
   have HE:Hid _:=ef
   clear e1 ef hu
   go_enter Tryz.func245,Tryz.ntmps245
   go_wp2_with (go_at_call 182;refine (K _ hT).mono ?_;rintro e w' ⟨rfl,rfl⟩)
   go_ret2
   exact ⟨rfl,rfl⟩
  ·have hkl:=Dk.zcm hu
   have e1:(decide ((0:Int)≤k) && Dk.us st (k:Int).toNat)=true:=by simp [hu]
   have K:∀ w:World,Dk.Tab w bt bs M st→Calls Tryz.prog 182 #[.pointer (some ⟨bt,0,none⟩),.int .i64 (k:Int)] w fun e w'=>e=.returned (.bool true)∧w'=w:=fun w hT=>by
    have:=za1 bt bs M st (k:Int) w hT
    rw [e1] at this
    exact this
   have K2:=fun w hT=>zbe bt bs M st k w hT hM hkl
   have hb:Dk.hd st k < 18446744073709551616:=Dk.hd_lt hT.small hM (Nat.lt_of_lt_of_le hkl hT.small.1)
   rw [hu] at ef
   generalize Dk.hd st k=g at ef K2 hb
   by_cases hg:g=h
   ·subst hg
    simp at ef
    rw [ef]
    have y:((g:Int) != (g:Int))=false:=by simp
    clear e1 ef hu
    go_enter Tryz.func245,Tryz.ntmps245
    go_wp2_with (first | (go_at_call 182;refine (K _ hT).mono ?_;rintro e w' ⟨rfl,rfl⟩) | (go_at_call 113;refine (K2 _ hT).mono ?_;rintro e w' ⟨rfl,rfl⟩))
    go_ret2
    exact ⟨rfl,rfl⟩
   ·simp [hg] at ef
    rw [ef]
    have y:((g:Int) != (h:Int))=true:=by simp;omega
    clear e1 ef hu
    go_enter Tryz.func245,Tryz.ntmps245
    go_wp2_with (first | (go_at_call 182;refine (K _ hT).mono ?_;rintro e w' ⟨rfl,rfl⟩) | (go_at_call 113;refine (K2 _ hT).mono ?_;rintro e w' ⟨rfl,rfl⟩))
    go_ret2
    exact ⟨rfl,rfl⟩
theorem zdh (bt bs M:Nat) (st:Dk.StS) (k:Nat) (w:World) (hT:Dk.Tab w bt bs M st) (hM:M≤100000) (hu:Dk.us st k=true) :
  Calls Tryz.prog 151 #[.pointer (some ⟨bt,0,none⟩),.int .i64 (k:Int)] w fun e w'=>e=.returned (.tuple #[.int .u64 (Dk.hd st k:Nat),.bool true])∧w'=w:=by
 have hkl:=Dk.zcm hu
 have e1:(decide ((0:Int)≤k) && Dk.us st (k:Int).toNat)=true:=by simp [hu]
 have K:∀ w:World,Dk.Tab w bt bs M st→Calls Tryz.prog 182 #[.pointer (some ⟨bt,0,none⟩),.int .i64 (k:Int)] w fun e w'=>e=.returned (.bool true)∧w'=w:=fun w hT=>by
  have:=za1 bt bs M st (k:Int) w hT
  rw [e1] at this
  exact this
 have K2:=fun w hT=>zbe bt bs M st k w hT hM hkl
 generalize Dk.hd st k=g at K2
 clear e1 hu
 go_enter Tryz.func151,Tryz.ntmps151
 go_wp2_with (first | (go_at_call 182;refine (K _ hT).mono ?_;rintro e w' ⟨rfl,rfl⟩) | (go_at_call 113;refine (K2 _ hT).mono ?_;rintro e w' ⟨rfl,rfl⟩))
 go_ret2
 exact ⟨rfl,rfl⟩
theorem zer (bt bs M:Nat) (st:Dk.StS) (k:Int) (w:World) (hT:Dk.Tab w bt bs M st) (hu:(decide (0≤k) && Dk.us st k.toNat)=false) :
  Calls Tryz.prog 151 #[.pointer (some ⟨bt,0,none⟩),.int .i64 k] w fun e w'=>e=.returned (.tuple #[.int .u64 0,.bool false])∧w'=w:=by
 have K:∀ w:World,Dk.Tab w bt bs M st→Calls Tryz.prog 182 #[.pointer (some ⟨bt,0,none⟩),.int .i64 k] w fun e w'=>e=.returned (.bool false)∧w'=w:=fun w hT=>by
  have:=za1 bt bs M st k w hT
  rw [hu] at this
  exact this
 clear hu
 go_enter Tryz.func151,Tryz.ntmps151
 go_wp2_with (go_at_call 182;refine (K _ hT).mono ?_;rintro e w' ⟨rfl,rfl⟩)
 go_ret2
 exact ⟨rfl,rfl⟩
theorem Free_no (bt bs M:Nat) (st:Dk.StS) (h:Nat) (w:World) (hT:Dk.Tab w bt bs M st) (hM:M≤100000) (hh:h < 18446744073709551616) (hf:Dk.find st h=none) :
  Calls Tryz.prog 228 #[.pointer (some ⟨bt,0,none⟩),.int .u64 (h:Nat)] w fun e w'=>e=.returned (.int .i64 3)∧w'=w:=by
 have K:=fun w hT=>zgh bt bs M st h w hT hM hh
 rw [hf] at K
 clear hf
 go_enter Tryz.func228,Tryz.ntmps228
 go_wp2_with (go_at_call 245;refine (K _ hT).mono ?_;rintro e w' ⟨rfl,rfl⟩)
 go_ret
 exact ⟨rfl,rfl⟩
theorem Free_yes (bt bs M:Nat) (st:Dk.StS) (h k:Nat) (w:World) (hT:Dk.Tab w bt bs M st) (hM:M≤100000) (hh:h < 18446744073709551616) (hf:Dk.find st h=some k) :
  Calls Tryz.prog 228 #[.pointer (some ⟨bt,0,none⟩),.int .u64 (h:Nat)] w fun e w'=>e=.returned (.int .i64 0)∧w'=w.setCell ⟨bs,k*2+1,none⟩ (.bool false):=by
 have K:=fun w hT=>zgh bt bs M st h w hT hM hh
 have hk:=(Dk.zay hf).2.2.1
 have hl:=hT.small.1
 rw [hf] at K
 clear hf
 have c0:w.cell? ⟨bt,0,none⟩=some (.slice (some ⟨bs,0,none⟩) st.length st.length):=hT.head.cell 0
 have c1:w.cell? ⟨bs,k*2+1,none⟩=some (.bool (Dk.us st k)):=by rw [hT.row.cell];exact (Dk.zc8 st k hk).2
 have c2:w.frozen? ⟨bs,k*2+1,none⟩=false:=hT.row.frozen _
 go_enter Tryz.func228,Tryz.ntmps228
 go_wp2_with (go_at_call 245;refine (K _ hT).mono ?_;rintro e w' ⟨rfl,rfl⟩)
 go_ret
 exact ⟨rfl,rfl⟩
theorem Free_any (bt bs M:Nat) (st:Dk.StS) (h:Nat) (w:World) (hT:Dk.Tab w bt bs M st) (hM:M≤100000) (hh:h < 18446744073709551616) :
  Calls Tryz.prog 228 #[.pointer (some ⟨bt,0,none⟩),.int .u64 (h:Nat)] w fun e w'=>e=.returned (.int .i64 (if (Dk.find st h).isSome then 0 else 3))∧Dk.Tab w' bt bs M (Dk.freed st h)∧w.grownBy w' (some bs):=by
 unfold Dk.freed
 cases hf:Dk.find st h with
 | none=>
  refine (Free_no bt bs M st h w hT hM hh hf).mono ?_
  rintro e w' ⟨rfl,rfl⟩
  exact ⟨rfl,hT,Dk.zco _ _⟩
 | some k=>
  refine (Free_yes bt bs M st h k w hT hM hh hf).mono ?_
  rintro e w' ⟨rfl,rfl⟩
  exact ⟨rfl,hT.flag k false (Dk.zay hf).2.2.1,Dk.zd8 (Dk.zco _ _) _ _⟩
theorem zej (n c:Nat) (hc:c≤1024) (w:World) (e:n=c):Dk.Tab ((w.alloc (.cells (Dk.sc (Dk.blank c)) 208)).alloc (.cells #[.slice (some ⟨w.heap.size,0,none⟩) c c] 158)) (w.heap.size+1) w.heap.size 0 (Dk.blank n)∧Below w.heap.size w ((w.alloc (.cells (Dk.sc (Dk.blank c)) 208)).alloc (.cells #[.slice (some ⟨w.heap.size,0,none⟩) c c] 158))∧
  ((w.alloc (.cells (Dk.sc (Dk.blank c)) 208)).alloc (.cells #[.slice (some ⟨w.heap.size,0,none⟩) c c] 158)).heap.size=w.heap.size+2:=by
 subst e
 refine ⟨⟨?_,(Dk.Box.new _ _ _).old _,by omega,Dk.Small.blank hc⟩,Dk.zb (Dk.zb (Below.refl _ _) _) _,by simp⟩
 have:=Dk.Box.new (w.alloc (.cells (Dk.sc (Dk.blank n)) 208)) #[.slice (some ⟨w.heap.size,0,none⟩) n n] 158
 rw [World.size_alloc] at this
 have e:(Dk.blank n).length=n:=by simp [Dk.blank]
 rw [e]
 exact this
theorem New_anyS (n:Int) (hn:Dk.i64 n) (w:World) :
  Calls Tryz.prog 37 #[.int .i64 n] w fun e w'=>e=.returned (.pointer (some ⟨w.heap.size+1,0,none⟩))∧Dk.Tab w' (w.heap.size+1) w.heap.size 0 (Dk.blank (Dk.clamp n))∧Below w.heap.size w w'∧w'.heap.size=w.heap.size+2:=by
 by_cases h0:n < 0
 ·have hmk:∀ w:World,(Instr.makeSlice 156 (.int .i64 0) (.int .i64 0)).run Tryz.prog w=.ok (.slice (some ⟨w.heap.size,0,none⟩) 0 0) (w.alloc (.cells (Dk.sc (Dk.blank 0)) 208)):=zb7 0 (by omega)
  have hp:=zej (Dk.clamp n) 0 (by omega) w (by unfold Dk.clamp;rw [if_pos h0])
  go_enter Tryz.func37,Tryz.ntmps37
  go_wp2
  go_ret
  exact ⟨rfl,hp⟩
 ·by_cases h1:1024 < n
  ·have hmk:∀ w:World,(Instr.makeSlice 156 (.int .i64 1024) (.int .i64 1024)).run Tryz.prog w=.ok (.slice (some ⟨w.heap.size,0,none⟩) 1024 1024) (w.alloc (.cells (Dk.sc (Dk.blank 1024)) 208)):=zb7 1024 (by omega)
   have hp:=zej (Dk.clamp n) 1024 (by omega) w (by unfold Dk.clamp;rw [if_neg h0,if_pos h1])
   go_enter Tryz.func37,Tryz.ntmps37
   go_wp2
   go_ret
   exact ⟨rfl,hp⟩
  ·obtain ⟨c,rfl⟩:∃ c:Nat,n=c:=⟨n.toNat,by omega⟩
   have hmk:=zb7 c (by omega)
   have hp:=zej (Dk.clamp c) c (by omega) w (by unfold Dk.clamp;rw [if_neg h0,if_neg h1];rfl)
   go_enter Tryz.func37,Tryz.ntmps37
   go_wp2
   go_ret
   exact ⟨rfl,hp⟩
theorem zgi (bt bs M:Nat) (st:Dk.StS) (w:World) (hT:Dk.Tab w bt bs M st) (hM:M < 100000) :
  Calls Tryz.prog 79 #[.pointer (some ⟨bt,0,none⟩)] w fun e w'=>
   (Dk.least st < st.length∧e=.returned (.tuple #[.int .i64 (Dk.least st:Nat),.int .u64 (Dk.hd (Dk.taken st) (Dk.least st):Nat),.int .i64 0])∧Dk.Tab w' bt bs (M+1) (Dk.taken st)∧w.grownBy w' (some bs))∨
   (Dk.least st=st.length∧e=.returned (.tuple #[.int .i64 0,.int .u64 0,.int .i64 2])∧Dk.Tab w' bt bs M st∧w.grownBy w' (some bs)):=by
 have c0:w.cell? ⟨bt,0,none⟩=some (.slice (some ⟨bs,0,none⟩) st.length st.length):=hT.head.cell 0
 have hl:=hT.small.1
 go_enter Tryz.func79,Tryz.ntmps79
 go_wp2
 go_loopw [14] (fun i w'=>∃ k:Nat,k≤st.length∧i=.int .i64 k∧Hid (∀ j,j < k→Dk.us st j=true)∧Hid (Below w.heap.size w w')) (fun i w'=>st.length - (intOf i).toNat)
 case atStart=>exact ⟨0,Nat.zero_le _,rfl,fun j hj=>absurd hj (by omega),Below.refl _ _⟩
 case round=>
  obtain ⟨k,hk,rfl,HU,HB⟩:=hrel
  by_cases hlt:k < st.length
  ·have hTr:=hT.up HB.out
   have c1:wr.cell? ⟨bs,k*2,none⟩=some (.int .u64 (Dk.tk st k:Nat)):=by rw [hTr.row.cell];exact (Dk.zc8 st k hlt).1
   have c2:wr.cell? ⟨bs,k*2+1,none⟩=some (.bool (Dk.us st k)):=by rw [hTr.row.cell];exact (Dk.zc8 st k hlt).2
   have n1:=hTr.row.lt
   have n2:=hTr.head.lt
   clear c0
   cases hu:Dk.us st k
   ·rw [hu] at c2
    obtain ⟨W,eW⟩:∃ W,wr.alloc (.cells #[.int .u64 (Dk.tk st k:Nat),.bool false] 208)=W:=⟨_,rfl⟩
    have hW:Dk.Tab W bt bs M st:=eW ▸ hTr.up (Dk.zb (Below.refl _ _) _)
    have uW:Below w.heap.size w W:=eW ▸ Dk.zb HB.out _
    have bW:Dk.Box W wr.heap.size #[.int .u64 (Dk.tk st k:Nat),.bool false] 208:=eW ▸ Dk.Box.new _ _ _
    have d0:W.cell? ⟨bt,0,none⟩=some (.slice (some ⟨bs,0,none⟩) st.length st.length):=hW.head.cell 0
    have d1:W.cell? ⟨bs,k*2,none⟩=some (.int .u64 (Dk.tk st k:Nat)):=by rw [hW.row.cell];exact (Dk.zc8 st k hlt).1
    have d2:W.cell? ⟨bs,k*2+1,none⟩=some (.bool false):=by rw [hW.row.cell,(Dk.zc8 st k hlt).2,hu]
    have d3:W.frozen? ⟨bs,k*2,none⟩=false:=hW.row.frozen _
    have d4:W.frozen? ⟨bs,k*2+1,none⟩=false:=hW.row.frozen _
    have d5:W.cell? ⟨wr.heap.size,0,none⟩=some (.int .u64 (Dk.tk st k:Nat)):=bW.cell 0
    have d6:W.cell? ⟨wr.heap.size,1,none⟩=some (.bool false):=bW.cell 1
    have htk:=hT.small.2 k
    have hle:=Dk.least_eq HU.out hu hlt
    have HL:Hid _:=hle
    have HW:Hid _:=hW
    have HT:Hid _:=hT
    have HUW:Hid _:=uW
    have HUF:Hid _:=hu
    have HEW:Hid _:=eW
    clear hu hW uW bW hT hTr hle eW
    have K:∀ W',Dk.Tab W' bt bs (M+1) (Dk.taken st)→Calls Tryz.prog 113 #[.pointer (some ⟨bt,0,none⟩),.int .i64 (k:Int)] W' fun e w'=>e=.returned (.int .u64 (Dk.hd (Dk.taken st) k:Nat))∧w'=W':=fun W' h=>zbe bt bs (M+1) _ k W' h (by omega) (by unfold Dk.taken;rw [Dk.zc5];exact hlt)
    go_wp2
    rw [HEW.out]
    clear HEW c1 c2
    generalize et:Dk.tk st k=t at *
    have HET:Hid _:=et
    clear et
    refine Dk.zbm (C:=fun w'=>∃ n,w'=W.drewN n) (D:=fun w'=>∃ n,w'=((W.drewN n).setCell ⟨bs,k*2,none⟩ (.int .u64 ((t+1:Nat):Int))).setCell ⟨bs,k*2+1,none⟩ (.bool true)) (by kernel_rfl) (by kernel_rfl) ⟨1,rfl⟩ (by simp) ?_
    dsimp only [List.dropLast]
    repeat (go_big_quiet_step (fail))
    refine wpQuiet_nil ?_
    refine ⟨_,rfl,rfl,?_,?_⟩
    ·rintro _ ⟨nq,rfl⟩
     refine ⟨_,?_,nq,rfl⟩
     simp [go_sem,d1,d2,d3,d4]
    ·rintro _ ⟨nq,rfl⟩
     obtain ⟨V,eV⟩:∃ V,((W.drewN nq).setCell ⟨bs,k*2,none⟩ (.int .u64 ((t+1:Nat):Int))).setCell ⟨bs,k*2+1,none⟩ (.bool true)=V:=⟨_,rfl⟩
     have hV:Dk.Tab V bt bs (M+1) (Dk.taken st):=by
      unfold Dk.taken
      rw [HL.out,HET.out,← eV]
      exact ((HW.out.up (Dk.zy (Below.refl _ _) nq)).more (by omega)).both k (t+1) true hlt (by omega)
     have gV:w.grownBy V (some bs):=by
      rw [← eV]
      exact Dk.zd8 (Dk.zd8 (Dk.zex (Dk.zy HUW.out nq)) _ _) _ _
     rw [eV]
     have KV:=K V hV
     have HV:Hid _:=hV
     clear eV hV K d0 d1 d2 d3 d4 d5 d6
     go_wp2_with (go_at_call 113;refine KV.mono ?_;rintro e w' ⟨rfl,rfl⟩)
     go_ret3
     exact .inl ⟨by rw [HL.out];exact hlt,by rw [HL.out];rfl,HV.out,gV⟩
   ·rw [hu] at c2
    have HUF:Hid _:=hu
    clear hu
    go_wp2
    go_roundw
    case rel=>exact ⟨k+1,by omega,by go_num,fun j hj=>if e:j=k then by rw [e];exact HUF.out else HU.out j (by omega),Dk.zb HB.out _⟩
    case measure=>simp [intOf];omega
  ·go_wp2
   go_ret3
   exact .inr ⟨Dk.zjv fun j hj=>HU.out j (by omega),rfl,hT.up HB.out,Dk.zex HB.out⟩
end Go.Proofs.YtpnajphbjfehnaaGreat
namespace Dk
open Go Go.RowKit
def usl (st:StS) (k:Nat):List Int:=((List.range k).filter (us st)).map Int.ofNat
theorem usl_yes {st:StS} {k:Nat} (h:us st k=true):usl st (k+1)=usl st k++[(k:Int)]:=by
 unfold usl
 rw [List.range_succ,List.filter_append,List.map_append]
 simp [h]
theorem usl_no {st:StS} {k:Nat} (h:us st k=false):usl st (k+1)=usl st k:=by
 unfold usl
 rw [List.range_succ,List.filter_append,List.map_append]
 simp [h]
theorem zge (st:StS) (k:Nat):(usl st k).length≤k:=by
 unfold usl
 rw [List.length_map]
 have:=List.length_filter_le (us st) (List.range k)
 rw [List.length_range] at this
 exact this
theorem zkv {st:StS} {k:Nat} {x:Int} (h:x ∈ usl st k):∃ j:Nat,x=j∧j < k∧us st j=true:=by
 unfold usl at h
 obtain ⟨j,hj,rfl⟩:=List.mem_map.1 h
 rw [List.mem_filter,List.mem_range] at hj
 exact ⟨j,rfl,hj⟩
theorem zh3 {w:World} {base:Nat} {e:TypeId} {v:Value} {xs:List Int} (h:w.ownsRow base e 1 v xs.length (xs.map (Value.int .i64))) (hx:∀ x ∈ xs,i64 x) (hm:xs.length≤maxLen):∃ A C,v=.slice A xs.length C∧SlI w.heap.size w A xs.length C xs:=by
 obtain ⟨_,h | ⟨g,cap,cur,rfl,hb,hg,hc,hm,hs,ht⟩⟩:=h
 ·obtain ⟨rfl,h0⟩:=h
  rw [h0]
  exact ⟨none,0,rfl,h0,Nat.le_refl _,Nat.zero_le _,hx,fun h=>absurd h (by omega)⟩
 ·refine ⟨_,cap,rfl,rfl,hc,hm,hx,fun h0=>⟨g,0,rfl,(Array.getElem?_eq_some_iff.1 hg).1,fun k hk=>?_⟩⟩
  have hbx:Box w g cur e:=⟨hg⟩
  rw [hbx.cell,Nat.zero_add]
  have h1:(cur.toList.take (xs.length*1))[k]? = cur.toList[k]?:=by rw [List.getElem?_take,if_pos (by omega)]
  rw [ht] at h1
  rw [← Array.getElem?_toList,← h1]
  simp [List.getD,hk]
end Dk
namespace Go.Proofs.YtpnajphbjfehnaaGreat
open Go.RowKit
theorem info3S:(Tryz.prog.info? 3).map (fun i=>(i.zero,i.size,i.bytes))=some (some (.int .i64 0),1,8):=by kernel_rfl
theorem one_newS (w w':World) (v:Value) (t:TypeId) (e:w'=w.alloc (.cells #[v] t)):∀ (j:Nat) (u:Value),[v][j]? = some u→w'.cell? ((⟨w.heap.size,0,none⟩:Addr).add j)=some u:=by
 intro j u hj
 match j,hj with
 | 0,hj=>
  simp at hj
  subst hj
  subst e
  have:=(Dk.Box.new w #[v] t).cell 0
  simpa [Addr.add] using this
theorem Used_any (bt bs M:Nat) (st:Dk.StS) (w:World) (hT:Dk.Tab w bt bs M st) :
  Calls Tryz.prog 70 #[.pointer (some ⟨bt,0,none⟩)] w fun e w'=>∃ A C,e=.returned (.slice A (Dk.usl st st.length).length C)∧Dk.SlI w'.heap.size w' A (Dk.usl st st.length).length C (Dk.usl st st.length)∧Below w.heap.size w w':=by
 have c0:w.cell? ⟨bt,0,none⟩=some (.slice (some ⟨bs,0,none⟩) st.length st.length):=hT.head.cell 0
 have hl:=hT.small.1
 obtain ⟨i0,hi,hz0,hz1,hz2⟩:=info_parts info3S
 go_enter Tryz.func70,Tryz.ntmps70
 go_wp2
 go_loopw [3,13] (fun v i w'=>∃ k:Nat,k≤st.length∧i=.int .i64 k∧w'.ownsRow w.heap.size 3 1 v (Dk.usl st k).length ((Dk.usl st k).map (Value.int .i64))∧Hid (Below w.heap.size w w')) (fun v i w'=>st.length - (intOf i).toNat)
 case atStart=>exact ⟨0,Nat.zero_le _,rfl,World.ownsRow_nil _ _ _ _,Below.refl _ _⟩
 case round=>
  obtain ⟨k,hk,rfl,hown,HB⟩:=hrel
  by_cases hlt:k < st.length
  ·have hTr:=hT.up HB.out
   have c1:wr.cell? ⟨bs,k*2,none⟩=some (.int .u64 (Dk.tk st k:Nat)):=by rw [hTr.row.cell];exact (Dk.zc8 st k hlt).1
   have c2:wr.cell? ⟨bs,k*2+1,none⟩=some (.bool (Dk.us st k)):=by rw [hTr.row.cell];exact (Dk.zc8 st k hlt).2
   have n1:=hTr.row.lt
   have hul:=Dk.zge st k
   clear c0 hT hTr
   cases hu:Dk.us st k
   ·rw [hu] at c2
    have HUF:Hid _:=hu
    clear hu
    go_wp2
    go_roundw
    case rel=>exact ⟨k+1,by omega,by go_num,by rw [Dk.usl_no HUF.out];exact hown.alloc _,Dk.zb HB.out _⟩
    case measure=>simp [intOf];omega
   ·rw [hu] at c2
    have HUF:Hid _:=hu
    clear hu
    go_wp2_with (at_builtin;refine wpList_append_own _ rfl _ _ 23 rfl w.heap.size 3 i0 (.int .i64 0) 1 8 Tryz.underlying23 hi hz0 hz1 hz2 rfl (by decide) _ _ _ rfl ((hown.alloc _).alloc _) ⟨wr.heap.size+1,0,none⟩ 1 1 [.int .i64 (k:Int)] rfl rfl ?c1 ?c2 ?c3 ?c4 ?c5 ?_)
    case c1=>
     have:=one_newS (wr.alloc (.cells #[.int .u64 (Dk.tk st k:Nat),.bool true] 208)) _ (.int .i64 (k:Int)) 3 rfl
     rw [World.size_alloc] at this
     exact this
    case c2=>intro u hu;simp at hu;subst hu;rfl
    case c3=>unfold maxLen;omega
    case c4=>omega
    case c5=>have:=HB.out.size;simp;omega
    ·intro v' w1 hown' hgrow _
     clear c1 c2
     go_wp2
     go_roundw
     case rel=>
      refine ⟨k+1,by omega,by go_num,?_,?_⟩
      ·rw [Dk.usl_yes HUF.out,List.length_append,List.map_append]
       exact hown'
      ·exact HB.out.trans ((Dk.zb (Dk.zb (Below.refl _ _) _) _:Below wr.heap.size wr _) |>.mono HB.out.size |>.grown hgrow (by have:=HB.out.size;simp;omega) (fun q hq=>(hown.lt q hq).1))
     case measure=>simp [intOf];omega
  ·have hke:k=st.length:=by omega
   clear c0
   go_wp2
   subst hke
   obtain ⟨A,C,rfl,hS⟩:=Dk.zh3 hown (fun x hx=>by obtain ⟨j,rfl,hj,_⟩:=Dk.zkv hx;unfold Dk.i64;omega) (by have:=Dk.zge st st.length;unfold maxLen;omega)
   go_ret
   exact ⟨A,C,rfl,hS,HB.out⟩
theorem zd (n l m:Int) (w:World) :
  Calls Tryz.prog 110 #[.int .i64 n,.int .i64 l,.int .i64 m] w fun e w'=>e=.returned (.bool (Dk.withinB n l m))∧w'=w:=by
 unfold Dk.withinB
 by_cases h:l≤n
 all_goals
  go_enter Tryz.func110,Tryz.ntmps110
  go_wp2
  go_ret
  exact ⟨by simp [h] <;> omega,rfl⟩
theorem zbr (op:Int) (w:World) :
  Calls Tryz.prog 146 #[.int .i64 op] w fun e w'=>e=.returned (.int .i64 (Dk.classOf op))∧w'=w:=by
 unfold Dk.classOf
 cases h1:Dk.withinB op 1 19 <;> cases h2:Dk.withinB op 20 32 <;> cases h3:Dk.withinB op 33 38
 all_goals
  go_enter Tryz.func146,Tryz.ntmps146
  go_wp2_with (go_at_call 110;refine (zd _ _ _ _).mono ?_;rintro e w' ⟨rfl,rfl⟩)
  go_ret
  exact ⟨rfl,rfl⟩
theorem seen_any (op:Int) (w:World) :
  Calls Tryz.prog 201 #[.int .i64 op] w fun e w'=>e=.returned (.bool (Dk.seenB op))∧w'=w:=by
 go_enter Tryz.func201,Tryz.ntmps201
 go_wp2_with (go_at_call 110;refine (zd _ _ _ _).mono ?_;rintro e w' ⟨rfl,rfl⟩)
 go_ret
 exact ⟨rfl,rfl⟩
theorem zfu (s:Dk.Sh) (p:Dk.Prg) (x:Int) (w:World) (h1:p.funcs.length=s.fL) (h2:p.sems.length=s.sL) (h3:p.pipes.length=s.pL) :
  Calls Tryz.prog 163 #[.int .i64 x,Dk.pv s p] w fun e w'=>e=.returned (.int .i64 (Dk.choices p x))∧Below w.heap.size w w':=by
 obtain ⟨fA,fL,fC,sA,sL,sC,pA,pL,pC⟩:=s
 simp only at h1 h2 h3
 have H1:Hid (p.funcs.length=fL):=h1
 have H2:Hid (p.sems.length=sL):=h2
 have H3:Hid (p.pipes.length=pL):=h3
 clear h1 h2 h3
 go_enter Tryz.func163,Tryz.ntmps163
 go_wp2
 all_goals
  go_ret
  refine ⟨?_,(Below.refl _ _).alloc (Nat.le_refl _) _⟩
  unfold Dk.choices
  simp_all [H1.out,H2.out,H3.out]
theorem zl {a b:Bool} (h:a=b):Ending.returned (.bool a)=.returned (.bool b):=by rw [h]
theorem zep {k:IntKind} {a b:Int} (h:a=b):Ending.returned (.int k a)=.returned (.int k b):=by rw [h]
theorem zd4 (v:Int):IntKind.u64.wrap v=Dk.u64 v:=by rw [IntKind.wrap_u64];rfl
theorem zjz (s:Dk.Sh) (p:Dk.Prg) (x v:Int) (w:World) (h1:p.funcs.length=s.fL) (h2:p.sems.length=s.sL) (h3:p.pipes.length=s.pL) (hc:Dk.i64 (Dk.choices p x)) :
  Calls Tryz.prog 134 #[.int .i64 x,Dk.pv s p,.int .u64 v] w fun e w'=>e=.returned (.bool (Dk.mayB p x v))∧Below w.heap.size w w':=by
 have H1:Hid (p.funcs.length=s.fL):=h1
 have H2:Hid (p.sems.length=s.sL):=h2
 have H3:Hid (p.pipes.length=s.pL):=h3
 clear h1 h2 h3
 cases hx:(x == 2)
 ·go_enter Tryz.func134,Tryz.ntmps134
  go_wp2_with fail
  refine (zfu s p x _ H1.out H2.out H3.out).mono ?_
  rintro e w' ⟨rfl,hb⟩
  go_wp2_with fail
  all_goals
   go_ret
   refine ⟨zl ?_,((Below.refl _ _).alloc (Nat.le_refl _) _).trans (hb.mono (by simp))⟩
   unfold Dk.mayB
   rw [hx,IntKind.wrap_u64]
   unfold Dk.i64 at hc
   rw [Bool.eq_iff_iff]
   simp
   omega
 ·go_enter Tryz.func134,Tryz.ntmps134
  go_wp2
  go_ret
  exact ⟨by unfold Dk.mayB;rw [hx];rfl,(Below.refl _ _).alloc (Nat.le_refl _) _⟩
theorem zal (x n:Int) (w:World) :
  Calls Tryz.prog 179 #[.int .i64 x,.int .i64 n] w fun e w'=>e=.returned (.bool (Dk.plB x n))∧w'=w:=by
 unfold Dk.plB
 by_cases h:0≤x
 all_goals
  go_enter Tryz.func179,Tryz.ntmps179
  go_wp2
  first | go_ret | go_ret2
  exact ⟨by simp [h] <;> omega,rfl⟩
theorem zi0 {op:Int} (h:2≤op∧op≤15):op=2∨op=3∨op=4∨op=5∨op=6∨op=7∨op=8∨op=9∨op=10∨op=11∨op=12∨op=13∨op=14∨op=15:=by omega
theorem zcg {a b:Int} (h:a≠b):(a == b)=false:=by simp [h]
theorem zgd {W:World} {B:Nat} (hB:W.heap.size=B) (ys:List Int) (cs:Array Value) (t:TypeId) (n:Nat) (hn:ys.length=n) (hm:n≤maxLen) (hw:∀ y ∈ ys,Dk.i64 y) (hc:∀ k,k < n→cs[k]? = some (.int .i64 (ys.getD k 0))) :
  Dk.SlI (W.alloc (.cells cs t)).heap.size (W.alloc (.cells cs t)) (some ⟨B,0,none⟩) n n ys:=hB ▸
 ⟨hn,Nat.le_refl _,hm,hw,fun _=>⟨_,_,rfl,by simp,fun k hk=>by rw [Dk.zbg (Below.refl _ _),Nat.zero_add];exact hc k hk⟩⟩
def RegsSaid (i:Dk.Ins) (w:World):Prop:=
  Calls Tryz.prog 229 #[Dk.iv i] w fun e w'=>∃ A C,e=.returned (.slice A (Dk.regN i.op) C)∧Dk.SlI w'.heap.size w' A (Dk.regN i.op) C (Dk.regs i)∧Below w.heap.size w w'
theorem zdf (op a b c:Int) (n:Nat) (w:World) (hop:op=16) (ha:Dk.i64 a) (hb:Dk.i64 b) (hc:Dk.i64 c):RegsSaid ⟨op,a,b,c,n⟩ w:=by
 have er:Dk.regN op=0:=by unfold Dk.regN;rw [if_pos hop]
 have es:Dk.regs ⟨op,a,b,c,n⟩=[]:=by unfold Dk.regs;simp only [er];rfl
 unfold RegsSaid
 rw [es]
 simp only [er]
 clear er es
 subst hop
 go_enter Tryz.func229,Tryz.ntmps229
 go_wp2
 go_ret
 exact ⟨_,_,rfl,⟨rfl,Nat.le_refl _,Nat.zero_le _,by simp,fun h0=>absurd h0 (by omega)⟩,Dk.zb (Below.refl _ _) _⟩
theorem zen (op a b c:Int) (n:Nat) (w:World) (hop:op=1∨op=17) (ha:Dk.i64 a) (hb:Dk.i64 b) (hc:Dk.i64 c):RegsSaid ⟨op,a,b,c,n⟩ w:=by
 have er:Dk.regN op=1:=by unfold Dk.regN;rw [if_neg (by omega),if_pos hop]
 have es:Dk.regs ⟨op,a,b,c,n⟩=[a]:=by unfold Dk.regs;simp only [er];rfl
 unfold RegsSaid
 rw [es]
 simp only [er]
 clear er es
 rcases hop with rfl | rfl
 all_goals
  go_enter Tryz.func229,Tryz.ntmps229
  go_wp2
  go_ret
  refine ⟨_,_,rfl,?_,Dk.zb (Dk.zb (Below.refl _ _) _) _⟩
  refine zgd (World.size_alloc _ _) [a] _ _ 1 rfl (by decide) (by simp [*]) ?_
  intro k hk;obtain rfl:k=0:=(by omega);rfl
theorem zeo (op a b c:Int) (n:Nat) (w:World) (hop:op=2∨op=14∨op=15∨op=18∨op=19) (ha:Dk.i64 a) (hb:Dk.i64 b) (hc:Dk.i64 c):RegsSaid ⟨op,a,b,c,n⟩ w:=by
 have er:Dk.regN op=2:=by unfold Dk.regN;rw [if_neg (by omega),if_neg (by omega),if_pos hop]
 have es:Dk.regs ⟨op,a,b,c,n⟩=[a,b]:=by unfold Dk.regs;simp only [er];rfl
 unfold RegsSaid
 rw [es]
 simp only [er]
 clear er es
 rcases hop with rfl | rfl | rfl | rfl | rfl
 all_goals
  go_enter Tryz.func229,Tryz.ntmps229
  go_wp2
  go_ret
  refine ⟨_,_,rfl,?_,Dk.zb (Dk.zb (Below.refl _ _) _) _⟩
  refine zgd (World.size_alloc _ _) [a,b] _ _ 2 rfl (by decide) (by simp [*]) ?_
  intro k hk;rcases (by omega:k=0∨k=1) with rfl | rfl <;> rfl
theorem zc6 (op a b c:Int) (n:Nat) (w:World) (hop:op≠16∧op≠1∧op≠17∧op≠2∧op≠14∧op≠15∧op≠18∧op≠19) (ha:Dk.i64 a) (hb:Dk.i64 b) (hc:Dk.i64 c):RegsSaid ⟨op,a,b,c,n⟩ w:=by
 have er:Dk.regN op=3:=by unfold Dk.regN;rw [if_neg (by omega),if_neg (by omega),if_neg (by omega)]
 have es:Dk.regs ⟨op,a,b,c,n⟩=[a,b,c]:=by unfold Dk.regs;simp only [er];rfl
 unfold RegsSaid
 rw [es]
 simp only [er]
 clear er es
 have h16:(op == 16)=false:=zcg (by omega)
 have h1:(op == 1)=false:=zcg (by omega)
 have h17:(op == 17)=false:=zcg (by omega)
 have h2:(op == 2)=false:=zcg (by omega)
 have h14:(op == 14)=false:=zcg (by omega)
 have h15:(op == 15)=false:=zcg (by omega)
 have h18:(op == 18)=false:=zcg (by omega)
 have h19:(op == 19)=false:=zcg (by omega)
 clear hop
 go_enter Tryz.func229,Tryz.ntmps229
 go_wp2
 go_ret
 refine ⟨_,_,rfl,?_,Dk.zb (Dk.zb (Below.refl _ _) _) _⟩
 refine zgd (World.size_alloc _ _) [a,b,c] _ _ 3 rfl (by decide) (by simp [*]) ?_
 intro k hk;rcases (by omega:k=0∨k=1∨k=2) with rfl | rfl | rfl <;> rfl
theorem zem (i:Dk.Ins) (w:World) (hi:i.ok):RegsSaid i w:=by
 obtain ⟨op,a,b,c,n⟩:=i
 by_cases h1:op=16
 ·exact zdf op a b c n w h1 hi.a hi.b hi.c
 ·by_cases h2:op=1∨op=17
  ·exact zen op a b c n w h2 hi.a hi.b hi.c
  ·by_cases h3:op=2∨op=14∨op=15∨op=18∨op=19
   ·exact zeo op a b c n w h3 hi.a hi.b hi.c
   ·exact zc6 op a b c n w (by omega) hi.a hi.b hi.c
def Thrown (t1 t2:TypeId) (e:Ending):Prop:=∃ t v,(t=t1∨t=t2)∧e=.panicked [{ v:=.iface t v,recovered:=false }]
def CodeEnd (b:Bool) (e:Ending):Prop:=(b=true→e=.returned (.tuple #[]))∧(b=false→Thrown 314 316 e)
theorem zjb {op:Int} (h:Dk.withinB op 1 19=true):Dk.classOf op=1:=by unfold Dk.classOf;rw [h];rfl
theorem zhm {op:Int} (h:Dk.withinB op 1 19=false):(Dk.classOf op == 1)=false:=by
 unfold Dk.classOf
 rw [h]
 cases Dk.withinB op 20 32 <;> cases Dk.withinB op 33 38 <;> rfl
theorem zd0 (i:Dk.Ins) (w:World) (h:Dk.withinB i.op 1 19=false) :
  Calls Tryz.prog 217 #[Dk.iv i] w fun e w'=>Thrown 314 316 e∧Below w.heap.size w w':=by
 have hc:=zhm h
 have hc':(Dk.classOf i.op != 1)=true:=by rw [bne,hc];rfl
 clear h
 go_enter Tryz.func217,Tryz.ntmps217
 go_wp2_with (go_at_call 146;refine (zbr _ _).mono ?_;rintro e w' ⟨rfl,rfl⟩)
 exact ⟨rfl,⟨_,_,Or.inl rfl,rfl⟩,Dk.zb (Below.refl _ _) _⟩
theorem zde {α:Type} (xs:List α) (f:α→Bool) (d:α) (k:Nat) (h:k < xs.length):(xs.take (k+1)).all f=((xs.take k).all f && f (xs.getD k d)):=by
 rw [List.take_succ_eq_append_getElem h,List.all_append]
 simp [List.getD,h]
theorem all_noF {α:Type} (xs:List α) (f:α→Bool) (d:α) (k:Nat) (h:k < xs.length) (hf:f (xs.getD k d)=false):xs.all f=false:=by
 rw [List.all_eq_false]
 refine ⟨xs.getD k d,?_,by rw [hf];simp⟩
 rw [List.getD_eq_getElem?_getD,List.getElem?_eq_getElem h]
 exact List.getElem_mem h
theorem zcv (i:Dk.Ins) (w:World) (hi:i.ok) (h:Dk.withinB i.op 1 19=true) :
  Calls Tryz.prog 217 #[Dk.iv i] w fun e w'=>CodeEnd ((Dk.regs i).all fun r=>Dk.plB r 8) e∧Below w.heap.size w w':=by
 have hc:=zjb h
 clear h
 have hrg:=fun w=>zem i w hi
 have HRG:Hid _:=hrg
 clear hrg hi
 obtain ⟨xs,hxs⟩:∃ xs,xs=Dk.regs i:=⟨_,rfl⟩
 obtain ⟨L,hL⟩:∃ L,L=Dk.regN i.op:=⟨_,rfl⟩
 have hL3:L≤3:=by rw [hL];exact Dk.regN_le _
 unfold RegsSaid at HRG
 rw [← hxs,← hL] at HRG
 rw [← hxs]
 clear hxs hL
 go_enter Tryz.func217,Tryz.ntmps217
 go_wp2_with (go_at_call 146;refine (zbr _ _).mono ?_;rintro e w' ⟨rfl,rfl⟩)
 refine (HRG.out _).mono ?_
 rintro e w1 ⟨A,C,rfl,hs,hb⟩
 have u1:Below w.heap.size w w1:=Dk.zg (Dk.zb (Below.refl _ _) _) hb
 have HU:Hid _:=u1
 clear u1 hb HRG
 obtain ⟨hlen,hcap,hmax,_,hcells⟩:=hs
 unfold maxLen at hmax
 have HL:Hid (xs.length=L):=hlen
 have HC:Hid _:=hcells
 clear hlen hcells
 go_wp2_with fail
 go_loop [14] (fun x=>∃ k:Nat,k≤L∧x=.int .i64 k∧Hid ((xs.take k).all (fun r=>Dk.plB r 8)=true)) (fun x=>L - (intOf x).toNat)
 case atStart=>exact ⟨0,Nat.zero_le _,rfl,by show (xs.take 0).all _=true;simp⟩
 case round=>
  obtain ⟨k,hk,rfl,HA⟩:=hrel
  by_cases hlt:k < L
  ·obtain ⟨b,o,rfl,_,hcl⟩:=HC.out (by omega)
   have hcell:=hcl k hlt
   clear hcl HC
   obtain ⟨v,hv⟩:∃ v,v=xs.getD k 0:=⟨_,rfl⟩
   rw [← hv] at hcell
   have HV:Hid (v=xs.getD k 0):=hv
   clear hv
   cases hw:Dk.plB v 8
   ·have HW:=hw
    go_wp2_with (go_at_call 179;refine (zal _ _ _).mono ?_;rintro e w' ⟨rfl,rfl⟩)
    refine ⟨rfl,?_,HU.out⟩
    rw [all_noF xs _ 0 k (by rw [HL.out];exact hlt) (by rw [← HV.out];exact HW)]
    exact ⟨fun h=>(by cases h),fun _=>⟨_,_,Or.inr rfl,rfl⟩⟩
   ·have HW:=hw
    go_wp2_with (go_at_call 179;refine (zal _ _ _).mono ?_;rintro e w' ⟨rfl,rfl⟩)
    go_round
    case rel=>
     refine ⟨k+1,by omega,by go_num,?_⟩
     show (xs.take (k+1)).all _=true
     rw [zde xs _ 0 k (by rw [HL.out];exact hlt),HA.out,← HV.out,HW]
     rfl
    case measure=>simp [intOf];omega
  ·go_wp2
   have hall:=HA.out
   rw [List.take_of_length_le (by rw [HL.out];omega)] at hall
   go_end0
   rw [hall]
   exact ⟨⟨fun _=>rfl,fun h=>by cases h⟩,HU.out⟩
end Go.Proofs.YtpnajphbjfehnaaGreat
