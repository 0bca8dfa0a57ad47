import Derived.Test.YtglhhlfopccmaaaGreatOw08
import Derived.Deep.DrawnRows
set_option linter.unusedSimpArgs false
set_option linter.unusedVariables false
set_option linter.unnecessarySimpa false
set_option maxHeartbeats 8000000
set_option maxRecDepth 100000
namespace Go.Proofs.YtglhhlfopccmaaaGreat
open Go.RowKit
attribute [local go_sem ↓] Go.wp_at_zero Go.wp_at_succ
theorem zai:(Tryz.prog.info? 110).map (·.size)=some 10:=by kernel_rfl
theorem do_jump (f:Dk.Frm) (a b c:Int) (n:Nat) (A:Option Addr) (L C:Nat) (w:World) :
  Calls Tryz.prog 123 #[Dk.fv f,.agg #[.int .i64 16,.int .i64 a,.int .i64 b,.int .i64 c,.int .u64 (n:Nat)],.slice A L C] w fun e w'=>e=.returned (Dk.fv (f.to (wrap64 n)))∧Below w.heap.size w w':=by
 go_enter Tryz.func123,Tryz.ntmps123
 go_wp2
 exact bodyPost_ret (v:=Dk.fv (f.to (wrap64 n))) (by simp [results,Tryz.results123,go_sem,Dk.Frm.to]) rfl ⟨rfl,Dk.zb (Dk.zb (Dk.zb (Below.refl _ _) _) _) _⟩
theorem do_set (f:Dk.Frm) (a b c:Int) (n:Nat) (A:Option Addr) (L C:Nat) (w:World) (h0:0≤a) (h8:a < 8) :
  Calls Tryz.prog 123 #[Dk.fv f,.agg #[.int .i64 1,.int .i64 a,.int .i64 b,.int .i64 c,.int .u64 (n:Nat)],.slice A L C] w fun e w'=>e=.returned (Dk.fv ((f.to (wrap64 (f.pc+1))).set a.toNat n))∧Below w.heap.size w w':=by
 obtain ⟨W,e3⟩:∃ W,((w.alloc (.cells #[.int .i64 f.fn,.int .i64 (wrap64 (f.pc+1)),.int .u64 (f.r 0:Nat),.int .u64 (f.r 1:Nat),.int .u64 (f.r 2:Nat),.int .u64 (f.r 3:Nat),.int .u64 (f.r 4:Nat),.int .u64 (f.r 5:Nat),.int .u64 (f.r 6:Nat),.int .u64 (f.r 7:Nat)] 110)).alloc (.cells #[.int .i64 1,.int .i64 a,.int .i64 b,.int .i64 c,.int .u64 (n:Nat)] 112)).alloc (.cells #[.int .i64 0,.int .i64 0,.int .u64 0,.int .u64 0,.int .u64 0,.int .u64 0,.int .u64 0,.int .u64 0,.int .u64 0,.int .u64 0] 110)=W:=⟨_,rfl⟩
 obtain ⟨b1,b2,b3,u3,z3⟩:=Dk.three _ _ _ _ _ _ _ _ e3
 replace b1:Dk.Box W w.heap.size (Dk.fc (f.to (wrap64 (f.pc+1)))) 110:=b1
 have c2:=b2.cell
 have g1:=b1.frozen
 have ra:=b1.cell (2+a.toNat)
 rw [Dk.zav _ _ (by omega)] at ra
 replace ra:W.cell? ⟨w.heap.size,2+a.toNat,none⟩=some (.int .u64 (f.r a.toNat:Nat)):=ra
 obtain ⟨W4,W5,e4,e5,b4,b5,b6,u5⟩:=Dk.tail w W w.heap.size a.toNat n _ _ _ b1 b3 u3 (by omega)
 have c4:=b4.cell
 have c6:=b6.cell
 have HB5:Hid _:=b5
 have HU:Hid _:=u5
 have HE:Hid _:=e5
 clear b1 b2 b3 u3 z3 b4 b5 b6 u5 e5
 go_enter Tryz.func123,Tryz.ntmps123
 go_wp2_with (first | (rw [e3];clear e3) | (rw [e4];clear e4) | (refine wpList_store_row rfl 110 _ _ rfl (w.heap.size+1+1) (Dk.fc ((f.to (wrap64 (f.pc+1))).set a.toNat n)) rfl rfl 110 _ HB5.out.heap zai rfl (Dk.zah _) ?_;rw [HE.out]))
 exact bodyPost_ret (v:=Dk.fv ((f.to (wrap64 (f.pc+1))).set a.toNat n)) (by simp [results,Tryz.results123,go_sem,c6]) rfl ⟨rfl,HU.out⟩
theorem zl2 (f:Dk.Frm) (a b c:Int) (n:Nat) (A:Option Addr) (L C:Nat) (w:World) (h0:0≤a) (h8:a < 8) (hz:((f.r a.toNat:Int) == 0)=false) :
  Calls Tryz.prog 123 #[Dk.fv f,.agg #[.int .i64 17,.int .i64 a,.int .i64 b,.int .i64 c,.int .u64 (n:Nat)],.slice A L C] w fun e w'=>e=.returned (Dk.fv (f.to (wrap64 (f.pc+1))))∧Below w.heap.size w w':=by
 obtain ⟨W,e3⟩:∃ W,((w.alloc (.cells #[.int .i64 f.fn,.int .i64 (wrap64 (f.pc+1)),.int .u64 (f.r 0:Nat),.int .u64 (f.r 1:Nat),.int .u64 (f.r 2:Nat),.int .u64 (f.r 3:Nat),.int .u64 (f.r 4:Nat),.int .u64 (f.r 5:Nat),.int .u64 (f.r 6:Nat),.int .u64 (f.r 7:Nat)] 110)).alloc (.cells #[.int .i64 17,.int .i64 a,.int .i64 b,.int .i64 c,.int .u64 (n:Nat)] 112)).alloc (.cells #[.int .i64 0,.int .i64 0,.int .u64 0,.int .u64 0,.int .u64 0,.int .u64 0,.int .u64 0,.int .u64 0,.int .u64 0,.int .u64 0] 110)=W:=⟨_,rfl⟩
 obtain ⟨b1,b2,b3,u3,z3⟩:=Dk.three _ _ _ _ _ _ _ _ e3
 replace b1:Dk.Box W w.heap.size (Dk.fc (f.to (wrap64 (f.pc+1)))) 110:=b1
 have c2:=b2.cell
 have g1:=b1.frozen
 have ra:=b1.cell (2+a.toNat)
 rw [Dk.zav _ _ (by omega)] at ra
 replace ra:W.cell? ⟨w.heap.size,2+a.toNat,none⟩=some (.int .u64 (f.r a.toNat:Nat)):=ra
 have k0:W.cell? ⟨w.heap.size,0,none⟩=some (.int .i64 f.fn):=b1.cell 0
 have k1:W.cell? ⟨w.heap.size,1,none⟩=some (.int .i64 (wrap64 (f.pc+1))):=b1.cell 1
 have k2:W.cell? ⟨w.heap.size,2,none⟩=some (.int .u64 (f.r 0:Nat)):=b1.cell 2
 have k3:W.cell? ⟨w.heap.size,3,none⟩=some (.int .u64 (f.r 1:Nat)):=b1.cell 3
 have k4:W.cell? ⟨w.heap.size,4,none⟩=some (.int .u64 (f.r 2:Nat)):=b1.cell 4
 have k5:W.cell? ⟨w.heap.size,5,none⟩=some (.int .u64 (f.r 3:Nat)):=b1.cell 5
 have k6:W.cell? ⟨w.heap.size,6,none⟩=some (.int .u64 (f.r 4:Nat)):=b1.cell 6
 have k7:W.cell? ⟨w.heap.size,7,none⟩=some (.int .u64 (f.r 5:Nat)):=b1.cell 7
 have k8:W.cell? ⟨w.heap.size,8,none⟩=some (.int .u64 (f.r 6:Nat)):=b1.cell 8
 have k9:W.cell? ⟨w.heap.size,9,none⟩=some (.int .u64 (f.r 7:Nat)):=b1.cell 9
 obtain ⟨W5,e5,b6,u5⟩:=Dk.tail0 w W w.heap.size (f.to (wrap64 (f.pc+1))) _ _ b3 u3
 have c6:=b6.cell
 have HB5:Hid _:=b3
 have HU:Hid _:=u5
 have HE:Hid _:=e5
 clear b1 b2 b3 u3 z3 b6 u5 e5
 go_enter Tryz.func123,Tryz.ntmps123
 go_wp2_with (first | (rw [e3];clear e3) | (refine wpList_store_row rfl 110 _ _ rfl (w.heap.size+1+1) (Dk.fc (f.to (wrap64 (f.pc+1)))) rfl rfl 110 _ HB5.out.heap zai rfl (Dk.zah _) ?_;rw [HE.out]))
 exact bodyPost_ret (v:=Dk.fv (f.to (wrap64 (f.pc+1)))) (by simp [results,Tryz.results123,go_sem,c6]) rfl ⟨rfl,HU.out⟩
theorem zji (f:Dk.Frm) (a b c:Int) (n:Nat) (A:Option Addr) (L C:Nat) (w:World) (h0:0≤a) (h8:a < 8) (hz:((f.r a.toNat:Int) == 0)=true) :
  Calls Tryz.prog 123 #[Dk.fv f,.agg #[.int .i64 17,.int .i64 a,.int .i64 b,.int .i64 c,.int .u64 (n:Nat)],.slice A L C] w fun e w'=>e=.returned (Dk.fv (f.to (wrap64 n)))∧Below w.heap.size w w':=by
 obtain ⟨W,e3⟩:∃ W,((w.alloc (.cells #[.int .i64 f.fn,.int .i64 (wrap64 (f.pc+1)),.int .u64 (f.r 0:Nat),.int .u64 (f.r 1:Nat),.int .u64 (f.r 2:Nat),.int .u64 (f.r 3:Nat),.int .u64 (f.r 4:Nat),.int .u64 (f.r 5:Nat),.int .u64 (f.r 6:Nat),.int .u64 (f.r 7:Nat)] 110)).alloc (.cells #[.int .i64 17,.int .i64 a,.int .i64 b,.int .i64 c,.int .u64 (n:Nat)] 112)).alloc (.cells #[.int .i64 0,.int .i64 0,.int .u64 0,.int .u64 0,.int .u64 0,.int .u64 0,.int .u64 0,.int .u64 0,.int .u64 0,.int .u64 0] 110)=W:=⟨_,rfl⟩
 obtain ⟨b1,b2,b3,u3,z3⟩:=Dk.three _ _ _ _ _ _ _ _ e3
 replace b1:Dk.Box W w.heap.size (Dk.fc (f.to (wrap64 (f.pc+1)))) 110:=b1
 have c2:=b2.cell
 have g1:=b1.frozen
 have ra:=b1.cell (2+a.toNat)
 rw [Dk.zav _ _ (by omega)] at ra
 replace ra:W.cell? ⟨w.heap.size,2+a.toNat,none⟩=some (.int .u64 (f.r a.toNat:Nat)):=ra
 obtain ⟨W4,e4⟩:∃ W4,W.setCell ⟨w.heap.size,1,none⟩ (.int .i64 (wrap64 n))=W4:=⟨_,rfl⟩
 have b4:Dk.Box W4 w.heap.size (Dk.fc (f.to (wrap64 n))) 110:=e4 ▸ b1.set 1 _
 have b5:Dk.Box W4 (w.heap.size+1+1) _ 110:=e4 ▸ b3.zn (by omega) _ _
 have u4:Below w.heap.size w W4:=e4 ▸ Dk.up_set u3 (Nat.le_refl _) _
 have p1:W.cell? ⟨w.heap.size,1,none⟩=some (.int .i64 (wrap64 (f.pc+1))):=b1.cell 1
 obtain ⟨W5,e5,b6,u5⟩:=Dk.tail0 w W4 w.heap.size (f.to (wrap64 n)) _ _ b5 u4
 have c4:=b4.cell
 have c6:=b6.cell
 have HB5:Hid _:=b5
 have HU:Hid _:=u5
 have HE:Hid _:=e5
 clear b1 b2 b3 u3 z3 b4 b5 b6 u4 u5 e5
 go_enter Tryz.func123,Tryz.ntmps123
 go_wp2_with (first | (rw [e3];clear e3) | (rw [e4];clear e4) | (refine wpList_store_row rfl 110 _ _ rfl (w.heap.size+1+1) (Dk.fc (f.to (wrap64 n))) rfl rfl 110 _ HB5.out.heap zai rfl (Dk.zah _) ?_;rw [HE.out]))
 exact bodyPost_ret (v:=Dk.fv (f.to (wrap64 n))) (by simp [results,Tryz.results123,go_sem,c6]) rfl ⟨rfl,HU.out⟩
theorem do_three (f:Dk.Frm) (op a b c:Int) (n:Nat) (A:Option Addr) (L C:Nat) (w:World) (hf:f.ok) (hop:op≠16∧op≠17∧op≠1∧op≠18∧op≠19∧op≠2∧op≠14∧op≠15) (h0:0≤a) (h8:a < 8) (g0:0≤b) (g8:b < 8) (i0:0≤c) (i8:c < 8) :
  Calls Tryz.prog 123 #[Dk.fv f,.agg #[.int .i64 op,.int .i64 a,.int .i64 b,.int .i64 c,.int .u64 (n:Nat)],.slice A L C] w fun e w'=>e=.returned (Dk.fv ((f.to (wrap64 (f.pc+1))).set a.toNat (Dk.ariW op (f.r b.toNat) (f.r c.toNat))))∧Below w.heap.size w w':=by
 have h16:(op == 16)=false:=zaj (by omega)
 have h17:(op == 17)=false:=zaj (by omega)
 have h1:(op == 1)=false:=zaj (by omega)
 have h18:(op == 18)=false:=zaj (by omega)
 have h19:(op == 19)=false:=zaj (by omega)
 have h2:(op == 2)=false:=zaj (by omega)
 have h14:(op == 14)=false:=zaj (by omega)
 have h15:(op == 15)=false:=zaj (by omega)
 clear hop
 obtain ⟨W,e3⟩:∃ W,((w.alloc (.cells #[.int .i64 f.fn,.int .i64 (wrap64 (f.pc+1)),.int .u64 (f.r 0:Nat),.int .u64 (f.r 1:Nat),.int .u64 (f.r 2:Nat),.int .u64 (f.r 3:Nat),.int .u64 (f.r 4:Nat),.int .u64 (f.r 5:Nat),.int .u64 (f.r 6:Nat),.int .u64 (f.r 7:Nat)] 110)).alloc (.cells #[.int .i64 op,.int .i64 a,.int .i64 b,.int .i64 c,.int .u64 (n:Nat)] 112)).alloc (.cells #[.int .i64 0,.int .i64 0,.int .u64 0,.int .u64 0,.int .u64 0,.int .u64 0,.int .u64 0,.int .u64 0,.int .u64 0,.int .u64 0] 110)=W:=⟨_,rfl⟩
 obtain ⟨b1,b2,b3,u3,z3⟩:=Dk.three _ _ _ _ _ _ _ _ e3
 replace b1:Dk.Box W w.heap.size (Dk.fc (f.to (wrap64 (f.pc+1)))) 110:=b1
 have c2:=b2.cell
 have g1:=b1.frozen
 have ra:=b1.cell (2+a.toNat)
 rw [Dk.zav _ _ (by omega)] at ra
 replace ra:W.cell? ⟨w.heap.size,2+a.toNat,none⟩=some (.int .u64 (f.r a.toNat:Nat)):=ra
 have rb:=b1.cell (2+b.toNat)
 rw [Dk.zav _ _ (by omega)] at rb
 replace rb:W.cell? ⟨w.heap.size,2+b.toNat,none⟩=some (.int .u64 (f.r b.toNat:Nat)):=rb
 have rc:=b1.cell (2+c.toNat)
 rw [Dk.zav _ _ (by omega)] at rc
 replace rc:W.cell? ⟨w.heap.size,2+c.toNat,none⟩=some (.int .u64 (f.r c.toNat:Nat)):=rc
 have HB1:Hid _:=b1
 have HB3:Hid _:=b3
 have HU3:Hid _:=u3
 have HF:Hid _:=hf
 clear b1 b2 b3 u3 z3 hf
 go_enter Tryz.func123,Tryz.ntmps123
 go_wp2_with (first | (rw [e3];clear e3) | fail)
 refine Dk.zae (C:=fun w'=>∃ n,w'=W.drewN n) (D:=fun w'=>∃ n,w'=(W.drewN n).setCell ⟨w.heap.size,2+a.toNat,none⟩ (.int .u64 (Dk.ariW op (f.r b.toNat) (f.r c.toNat):Nat))) (by kernel_rfl) (by kernel_rfl) ⟨1,rfl⟩ (by simp) ?_
 dsimp only [List.dropLast]
 repeat (go_big_quiet_step ((go_at_call 151;exact Calls.quiet_of (zc4 _ _ _ _ (HF.out.r _) (HF.out.r _)))))
 refine wpQuiet_nil ?_
 refine ⟨_,rfl,rfl,?_,?_⟩
 ·rintro _ ⟨nq,rfl⟩
  refine ⟨_,?_,nq,rfl⟩
  simp [go_sem,ra,g1]
 ·rintro _ ⟨nq,rfl⟩
  obtain ⟨W4,W5,e4,e5,b4,b5,b6,u5⟩:=Dk.tail w (W.drewN nq) w.heap.size a.toNat (Dk.ariW op (f.r b.toNat) (f.r c.toNat)) _ _ _ (HB1.out.drewN nq) (HB3.out.drewN nq) (Dk.zx HU3.out nq) (by omega)
  have c4:=b4.cell
  have c6:=b6.cell
  have HB5:Hid _:=b5
  have HU:Hid _:=u5
  have HE:Hid _:=e5
  clear b4 b5 b6 u5 e5
  rw [e4]
  clear e4
  go_wp2_with (refine wpList_store_row rfl 110 _ _ rfl (w.heap.size+1+1) (Dk.fc ((f.to (wrap64 (f.pc+1))).set a.toNat (Dk.ariW op (f.r b.toNat) (f.r c.toNat)))) rfl rfl 110 _ HB5.out.heap zai rfl (Dk.zah _) ?_;rw [HE.out])
  exact bodyPost_ret (v:=Dk.fv ((f.to (wrap64 (f.pc+1))).set a.toNat (Dk.ariW op (f.r b.toNat) (f.r c.toNat)))) (by simp [results,Tryz.results123,go_sem,c6]) rfl ⟨rfl,HU.out⟩
theorem do_move2 (f:Dk.Frm) (a b c:Int) (n:Nat) (A:Option Addr) (L C:Nat) (w:World) (hf:f.ok) (h0:0≤a) (h8:a < 8) (g0:0≤b) (g8:b < 8) :
  Calls Tryz.prog 123 #[Dk.fv f,.agg #[.int .i64 2,.int .i64 a,.int .i64 b,.int .i64 c,.int .u64 (n:Nat)],.slice A L C] w fun e w'=>e=.returned (Dk.fv ((f.to (wrap64 (f.pc+1))).set a.toNat (Dk.ariW 2 (f.r b.toNat) 0)))∧Below w.heap.size w w':=by
 obtain ⟨W,e3⟩:∃ W,((w.alloc (.cells #[.int .i64 f.fn,.int .i64 (wrap64 (f.pc+1)),.int .u64 (f.r 0:Nat),.int .u64 (f.r 1:Nat),.int .u64 (f.r 2:Nat),.int .u64 (f.r 3:Nat),.int .u64 (f.r 4:Nat),.int .u64 (f.r 5:Nat),.int .u64 (f.r 6:Nat),.int .u64 (f.r 7:Nat)] 110)).alloc (.cells #[.int .i64 2,.int .i64 a,.int .i64 b,.int .i64 c,.int .u64 (n:Nat)] 112)).alloc (.cells #[.int .i64 0,.int .i64 0,.int .u64 0,.int .u64 0,.int .u64 0,.int .u64 0,.int .u64 0,.int .u64 0,.int .u64 0,.int .u64 0] 110)=W:=⟨_,rfl⟩
 obtain ⟨b1,b2,b3,u3,z3⟩:=Dk.three _ _ _ _ _ _ _ _ e3
 replace b1:Dk.Box W w.heap.size (Dk.fc (f.to (wrap64 (f.pc+1)))) 110:=b1
 have c2:=b2.cell
 have g1:=b1.frozen
 have ra:=b1.cell (2+a.toNat)
 rw [Dk.zav _ _ (by omega)] at ra
 replace ra:W.cell? ⟨w.heap.size,2+a.toNat,none⟩=some (.int .u64 (f.r a.toNat:Nat)):=ra
 have rb:=b1.cell (2+b.toNat)
 rw [Dk.zav _ _ (by omega)] at rb
 replace rb:W.cell? ⟨w.heap.size,2+b.toNat,none⟩=some (.int .u64 (f.r b.toNat:Nat)):=rb
 have HB1:Hid _:=b1
 have HB3:Hid _:=b3
 have HU3:Hid _:=u3
 have HF:Hid _:=hf
 clear b1 b2 b3 u3 z3 hf
 go_enter Tryz.func123,Tryz.ntmps123
 go_wp2_with (first | (rw [e3];clear e3) | fail)
 refine Dk.zae (C:=fun w'=>∃ n,w'=W.drewN n) (D:=fun w'=>∃ n,w'=(W.drewN n).setCell ⟨w.heap.size,2+a.toNat,none⟩ (.int .u64 (Dk.ariW 2 (f.r b.toNat) 0:Nat))) (by kernel_rfl) (by kernel_rfl) ⟨1,rfl⟩ (by simp) ?_
 dsimp only [List.dropLast]
 repeat (go_big_quiet_step ((go_at_call 151;exact Calls.quiet_of (zc4 2 _ 0 _ (HF.out.r _) (by decide)))))
 refine wpQuiet_nil ?_
 refine ⟨_,rfl,rfl,?_,?_⟩
 ·rintro _ ⟨nq,rfl⟩
  refine ⟨_,?_,nq,rfl⟩
  simp [go_sem,ra,g1]
 ·rintro _ ⟨nq,rfl⟩
  obtain ⟨W4,W5,e4,e5,b4,b5,b6,u5⟩:=Dk.tail w (W.drewN nq) w.heap.size a.toNat (Dk.ariW 2 (f.r b.toNat) 0) _ _ _ (HB1.out.drewN nq) (HB3.out.drewN nq) (Dk.zx HU3.out nq) (by omega)
  have c4:=b4.cell
  have c6:=b6.cell
  have HB5:Hid _:=b5
  have HU:Hid _:=u5
  have HE:Hid _:=e5
  clear b4 b5 b6 u5 e5
  rw [e4]
  clear e4
  go_wp2_with (refine wpList_store_row rfl 110 _ _ rfl (w.heap.size+1+1) (Dk.fc ((f.to (wrap64 (f.pc+1))).set a.toNat (Dk.ariW 2 (f.r b.toNat) 0))) rfl rfl 110 _ HB5.out.heap zai rfl (Dk.zah _) ?_;rw [HE.out])
  exact bodyPost_ret (v:=Dk.fv ((f.to (wrap64 (f.pc+1))).set a.toNat (Dk.ariW 2 (f.r b.toNat) 0))) (by simp [results,Tryz.results123,go_sem,c6]) rfl ⟨rfl,HU.out⟩
theorem zod (f:Dk.Frm) (a b c:Int) (n:Nat) (A:Option Addr) (L C:Nat) (w:World) (hf:f.ok) (h0:0≤a) (h8:a < 8) (g0:0≤b) (g8:b < 8) :
  Calls Tryz.prog 123 #[Dk.fv f,.agg #[.int .i64 14,.int .i64 a,.int .i64 b,.int .i64 c,.int .u64 (n:Nat)],.slice A L C] w fun e w'=>e=.returned (Dk.fv ((f.to (wrap64 (f.pc+1))).set a.toNat (Dk.ariW 14 (f.r b.toNat) 0)))∧Below w.heap.size w w':=by
 obtain ⟨W,e3⟩:∃ W,((w.alloc (.cells #[.int .i64 f.fn,.int .i64 (wrap64 (f.pc+1)),.int .u64 (f.r 0:Nat),.int .u64 (f.r 1:Nat),.int .u64 (f.r 2:Nat),.int .u64 (f.r 3:Nat),.int .u64 (f.r 4:Nat),.int .u64 (f.r 5:Nat),.int .u64 (f.r 6:Nat),.int .u64 (f.r 7:Nat)] 110)).alloc (.cells #[.int .i64 14,.int .i64 a,.int .i64 b,.int .i64 c,.int .u64 (n:Nat)] 112)).alloc (.cells #[.int .i64 0,.int .i64 0,.int .u64 0,.int .u64 0,.int .u64 0,.int .u64 0,.int .u64 0,.int .u64 0,.int .u64 0,.int .u64 0] 110)=W:=⟨_,rfl⟩
 obtain ⟨b1,b2,b3,u3,z3⟩:=Dk.three _ _ _ _ _ _ _ _ e3
 replace b1:Dk.Box W w.heap.size (Dk.fc (f.to (wrap64 (f.pc+1)))) 110:=b1
 have c2:=b2.cell
 have g1:=b1.frozen
 have ra:=b1.cell (2+a.toNat)
 rw [Dk.zav _ _ (by omega)] at ra
 replace ra:W.cell? ⟨w.heap.size,2+a.toNat,none⟩=some (.int .u64 (f.r a.toNat:Nat)):=ra
 have rb:=b1.cell (2+b.toNat)
 rw [Dk.zav _ _ (by omega)] at rb
 replace rb:W.cell? ⟨w.heap.size,2+b.toNat,none⟩=some (.int .u64 (f.r b.toNat:Nat)):=rb
 have HB1:Hid _:=b1
 have HB3:Hid _:=b3
 have HU3:Hid _:=u3
 have HF:Hid _:=hf
 clear b1 b2 b3 u3 z3 hf
 go_enter Tryz.func123,Tryz.ntmps123
 go_wp2_with (first | (rw [e3];clear e3) | fail)
 refine Dk.zae (C:=fun w'=>∃ n,w'=W.drewN n) (D:=fun w'=>∃ n,w'=(W.drewN n).setCell ⟨w.heap.size,2+a.toNat,none⟩ (.int .u64 (Dk.ariW 14 (f.r b.toNat) 0:Nat))) (by kernel_rfl) (by kernel_rfl) ⟨1,rfl⟩ (by simp) ?_
 dsimp only [List.dropLast]
 repeat (go_big_quiet_step ((go_at_call 151;exact Calls.quiet_of (zc4 14 _ 0 _ (HF.out.r _) (by decide)))))
 refine wpQuiet_nil ?_
 refine ⟨_,rfl,rfl,?_,?_⟩
 ·rintro _ ⟨nq,rfl⟩
  refine ⟨_,?_,nq,rfl⟩
  simp [go_sem,ra,g1]
 ·rintro _ ⟨nq,rfl⟩
  obtain ⟨W4,W5,e4,e5,b4,b5,b6,u5⟩:=Dk.tail w (W.drewN nq) w.heap.size a.toNat (Dk.ariW 14 (f.r b.toNat) 0) _ _ _ (HB1.out.drewN nq) (HB3.out.drewN nq) (Dk.zx HU3.out nq) (by omega)
  have c4:=b4.cell
  have c6:=b6.cell
  have HB5:Hid _:=b5
  have HU:Hid _:=u5
  have HE:Hid _:=e5
  clear b4 b5 b6 u5 e5
  rw [e4]
  clear e4
  go_wp2_with (refine wpList_store_row rfl 110 _ _ rfl (w.heap.size+1+1) (Dk.fc ((f.to (wrap64 (f.pc+1))).set a.toNat (Dk.ariW 14 (f.r b.toNat) 0))) rfl rfl 110 _ HB5.out.heap zai rfl (Dk.zah _) ?_;rw [HE.out])
  exact bodyPost_ret (v:=Dk.fv ((f.to (wrap64 (f.pc+1))).set a.toNat (Dk.ariW 14 (f.r b.toNat) 0))) (by simp [results,Tryz.results123,go_sem,c6]) rfl ⟨rfl,HU.out⟩
theorem zoe (f:Dk.Frm) (a b c:Int) (n:Nat) (A:Option Addr) (L C:Nat) (w:World) (hf:f.ok) (h0:0≤a) (h8:a < 8) (g0:0≤b) (g8:b < 8) :
  Calls Tryz.prog 123 #[Dk.fv f,.agg #[.int .i64 15,.int .i64 a,.int .i64 b,.int .i64 c,.int .u64 (n:Nat)],.slice A L C] w fun e w'=>e=.returned (Dk.fv ((f.to (wrap64 (f.pc+1))).set a.toNat (Dk.ariW 15 (f.r b.toNat) 0)))∧Below w.heap.size w w':=by
 obtain ⟨W,e3⟩:∃ W,((w.alloc (.cells #[.int .i64 f.fn,.int .i64 (wrap64 (f.pc+1)),.int .u64 (f.r 0:Nat),.int .u64 (f.r 1:Nat),.int .u64 (f.r 2:Nat),.int .u64 (f.r 3:Nat),.int .u64 (f.r 4:Nat),.int .u64 (f.r 5:Nat),.int .u64 (f.r 6:Nat),.int .u64 (f.r 7:Nat)] 110)).alloc (.cells #[.int .i64 15,.int .i64 a,.int .i64 b,.int .i64 c,.int .u64 (n:Nat)] 112)).alloc (.cells #[.int .i64 0,.int .i64 0,.int .u64 0,.int .u64 0,.int .u64 0,.int .u64 0,.int .u64 0,.int .u64 0,.int .u64 0,.int .u64 0] 110)=W:=⟨_,rfl⟩
 obtain ⟨b1,b2,b3,u3,z3⟩:=Dk.three _ _ _ _ _ _ _ _ e3
 replace b1:Dk.Box W w.heap.size (Dk.fc (f.to (wrap64 (f.pc+1)))) 110:=b1
 have c2:=b2.cell
 have g1:=b1.frozen
 have ra:=b1.cell (2+a.toNat)
 rw [Dk.zav _ _ (by omega)] at ra
 replace ra:W.cell? ⟨w.heap.size,2+a.toNat,none⟩=some (.int .u64 (f.r a.toNat:Nat)):=ra
 have rb:=b1.cell (2+b.toNat)
 rw [Dk.zav _ _ (by omega)] at rb
 replace rb:W.cell? ⟨w.heap.size,2+b.toNat,none⟩=some (.int .u64 (f.r b.toNat:Nat)):=rb
 have HB1:Hid _:=b1
 have HB3:Hid _:=b3
 have HU3:Hid _:=u3
 have HF:Hid _:=hf
 clear b1 b2 b3 u3 z3 hf
 go_enter Tryz.func123,Tryz.ntmps123
 go_wp2_with (first | (rw [e3];clear e3) | fail)
 refine Dk.zae (C:=fun w'=>∃ n,w'=W.drewN n) (D:=fun w'=>∃ n,w'=(W.drewN n).setCell ⟨w.heap.size,2+a.toNat,none⟩ (.int .u64 (Dk.ariW 15 (f.r b.toNat) 0:Nat))) (by kernel_rfl) (by kernel_rfl) ⟨1,rfl⟩ (by simp) ?_
 dsimp only [List.dropLast]
 repeat (go_big_quiet_step ((go_at_call 151;exact Calls.quiet_of (zc4 15 _ 0 _ (HF.out.r _) (by decide)))))
 refine wpQuiet_nil ?_
 refine ⟨_,rfl,rfl,?_,?_⟩
 ·rintro _ ⟨nq,rfl⟩
  refine ⟨_,?_,nq,rfl⟩
  simp [go_sem,ra,g1]
 ·rintro _ ⟨nq,rfl⟩
  obtain ⟨W4,W5,e4,e5,b4,b5,b6,u5⟩:=Dk.tail w (W.drewN nq) w.heap.size a.toNat (Dk.ariW 15 (f.r b.toNat) 0) _ _ _ (HB1.out.drewN nq) (HB3.out.drewN nq) (Dk.zx HU3.out nq) (by omega)
  have c4:=b4.cell
  have c6:=b6.cell
  have HB5:Hid _:=b5
  have HU:Hid _:=u5
  have HE:Hid _:=e5
  clear b4 b5 b6 u5 e5
  rw [e4]
  clear e4
  go_wp2_with (refine wpList_store_row rfl 110 _ _ rfl (w.heap.size+1+1) (Dk.fc ((f.to (wrap64 (f.pc+1))).set a.toNat (Dk.ariW 15 (f.r b.toNat) 0))) rfl rfl 110 _ HB5.out.heap zai rfl (Dk.zah _) ?_;rw [HE.out])
  exact bodyPost_ret (v:=Dk.fv ((f.to (wrap64 (f.pc+1))).set a.toNat (Dk.ariW 15 (f.r b.toNat) 0))) (by simp [results,Tryz.results123,go_sem,c6]) rfl ⟨rfl,HU.out⟩
theorem do_load (f:Dk.Frm) (a b c:Int) (n:Nat) (L C:Nat) (w:World) (hf:f.ok) (wb:Nat) (m:List Nat) (hm:Dk.Box w wb (Dk.wc m) 38) (hL:m.length=L) (hx:f.r b.toNat < L) (hmax:L≤maxLen) (h0:0≤a) (h8:a < 8) (g0:0≤b) (g8:b < 8) :
  Calls Tryz.prog 123 #[Dk.fv f,.agg #[.int .i64 18,.int .i64 a,.int .i64 b,.int .i64 c,.int .u64 (n:Nat)],.slice (some ⟨wb,0,none⟩) L C] w fun e w'=>e=.returned (Dk.fv ((f.to (wrap64 (f.pc+1))).set a.toNat (m.getD (f.r b.toNat) 0)))∧Below w.heap.size w w':=by
 obtain ⟨W,e3⟩:∃ W,((w.alloc (.cells #[.int .i64 f.fn,.int .i64 (wrap64 (f.pc+1)),.int .u64 (f.r 0:Nat),.int .u64 (f.r 1:Nat),.int .u64 (f.r 2:Nat),.int .u64 (f.r 3:Nat),.int .u64 (f.r 4:Nat),.int .u64 (f.r 5:Nat),.int .u64 (f.r 6:Nat),.int .u64 (f.r 7:Nat)] 110)).alloc (.cells #[.int .i64 18,.int .i64 a,.int .i64 b,.int .i64 c,.int .u64 (n:Nat)] 112)).alloc (.cells #[.int .i64 0,.int .i64 0,.int .u64 0,.int .u64 0,.int .u64 0,.int .u64 0,.int .u64 0,.int .u64 0,.int .u64 0,.int .u64 0] 110)=W:=⟨_,rfl⟩
 obtain ⟨b1,b2,b3,u3,z3⟩:=Dk.three _ _ _ _ _ _ _ _ e3
 replace b1:Dk.Box W w.heap.size (Dk.fc (f.to (wrap64 (f.pc+1)))) 110:=b1
 have c2:=b2.cell
 have g1:=b1.frozen
 have ra:=b1.cell (2+a.toNat)
 rw [Dk.zav _ _ (by omega)] at ra
 replace ra:W.cell? ⟨w.heap.size,2+a.toNat,none⟩=some (.int .u64 (f.r a.toNat:Nat)):=ra
 have rb:=b1.cell (2+b.toNat)
 rw [Dk.zav _ _ (by omega)] at rb
 replace rb:W.cell? ⟨w.heap.size,2+b.toNat,none⟩=some (.int .u64 (f.r b.toNat:Nat)):=rb
 have hw:W.cell? ⟨wb,f.r b.toNat,none⟩=some (.int .u64 ((m.getD (f.r b.toNat) 0:Nat):Nat)):=by
  rw [(hm.below u3 hm.lt).cell,Dk.zqo _ _ (by omega)]
 have x0:(0:Int)≤(f.r b.toNat:Int):=Int.natCast_nonneg _
 have x1:(f.r b.toNat:Int) < (L:Int):=by omega
 obtain ⟨v,hv⟩:∃ v,v=m.getD (f.r b.toNat) 0:=⟨_,rfl⟩
 rw [← hv] at hw
 rw [← hv]
 have HX:Hid _:=hx
 have HM:Hid _:=hmax
 clear hv hm hL hx hmax
 have HB1:Hid _:=b1
 have HB3:Hid _:=b3
 have HU3:Hid _:=u3
 have HF:Hid _:=hf
 clear b1 b2 b3 u3 z3 hf
 go_enter Tryz.func123,Tryz.ntmps123
 go_wp2_with (first | (rw [e3];clear e3) | fail)
 refine Dk.zae (C:=fun w'=>∃ n,w'=W.drewN n) (D:=fun w'=>∃ n,w'=(W.drewN n).setCell ⟨w.heap.size,2+a.toNat,none⟩ (.int .u64 (v:Nat))) (by kernel_rfl) (by kernel_rfl) ⟨1,rfl⟩ (by simp) ?_
 dsimp only [List.dropLast]
 repeat (go_big_quiet_step ((go_at_call 150;exact Calls.quiet_of_same (zc8 _ _ _ _ _ HX.out HM.out))))
 refine wpQuiet_nil ?_
 refine ⟨_,rfl,rfl,?_,?_⟩
 ·rintro _ ⟨nq,rfl⟩
  refine ⟨_,?_,nq,rfl⟩
  simp [go_sem,ra,g1]
 ·rintro _ ⟨nq,rfl⟩
  obtain ⟨W4,W5,e4,e5,b4,b5,b6,u5⟩:=Dk.tail w (W.drewN nq) w.heap.size a.toNat (v) _ _ _ (HB1.out.drewN nq) (HB3.out.drewN nq) (Dk.zx HU3.out nq) (by omega)
  have c4:=b4.cell
  have c6:=b6.cell
  have HB5:Hid _:=b5
  have HU:Hid _:=u5
  have HE:Hid _:=e5
  clear b4 b5 b6 u5 e5
  rw [e4]
  clear e4
  go_wp2_with (refine wpList_store_row rfl 110 _ _ rfl (w.heap.size+1+1) (Dk.fc ((f.to (wrap64 (f.pc+1))).set a.toNat (v))) rfl rfl 110 _ HB5.out.heap zai rfl (Dk.zah _) ?_;rw [HE.out])
  exact bodyPost_ret (v:=Dk.fv ((f.to (wrap64 (f.pc+1))).set a.toNat (v))) (by simp [results,Tryz.results123,go_sem,c6]) rfl ⟨rfl,HU.out⟩
theorem zjh (f:Dk.Frm) (a b c:Int) (n:Nat) (A:Option Addr) (L C:Nat) (w:World) (hx:L≤f.r b.toNat) (hmax:L≤maxLen) (h0:0≤a) (h8:a < 8) (g0:0≤b) (g8:b < 8) :
  Calls Tryz.prog 123 #[Dk.fv f,.agg #[.int .i64 18,.int .i64 a,.int .i64 b,.int .i64 c,.int .u64 (n:Nat)],.slice A L C] w fun e w'=>e=.panicked [{ v:=.iface 252 (.int .u64 (f.r b.toNat:Nat)),recovered:=false }]∧Below w.heap.size w w':=by
 obtain ⟨W,e3⟩:∃ W,((w.alloc (.cells #[.int .i64 f.fn,.int .i64 (wrap64 (f.pc+1)),.int .u64 (f.r 0:Nat),.int .u64 (f.r 1:Nat),.int .u64 (f.r 2:Nat),.int .u64 (f.r 3:Nat),.int .u64 (f.r 4:Nat),.int .u64 (f.r 5:Nat),.int .u64 (f.r 6:Nat),.int .u64 (f.r 7:Nat)] 110)).alloc (.cells #[.int .i64 18,.int .i64 a,.int .i64 b,.int .i64 c,.int .u64 (n:Nat)] 112)).alloc (.cells #[.int .i64 0,.int .i64 0,.int .u64 0,.int .u64 0,.int .u64 0,.int .u64 0,.int .u64 0,.int .u64 0,.int .u64 0,.int .u64 0] 110)=W:=⟨_,rfl⟩
 obtain ⟨b1,b2,b3,u3,z3⟩:=Dk.three _ _ _ _ _ _ _ _ e3
 replace b1:Dk.Box W w.heap.size (Dk.fc (f.to (wrap64 (f.pc+1)))) 110:=b1
 have c2:=b2.cell
 have g1:=b1.frozen
 have ra:=b1.cell (2+a.toNat)
 rw [Dk.zav _ _ (by omega)] at ra
 replace ra:W.cell? ⟨w.heap.size,2+a.toNat,none⟩=some (.int .u64 (f.r a.toNat:Nat)):=ra
 have rb:=b1.cell (2+b.toNat)
 rw [Dk.zav _ _ (by omega)] at rb
 replace rb:W.cell? ⟨w.heap.size,2+b.toNat,none⟩=some (.int .u64 (f.r b.toNat:Nat)):=rb
 have HX:Hid _:=hx
 have HM:Hid _:=hmax
 have HU3:Hid _:=u3
 clear b1 b2 b3 u3 z3 hx hmax
 go_enter Tryz.func123,Tryz.ntmps123
 go_wp2_with (first | (rw [e3];clear e3) | fail)
 refine Dk.zbh (C:=fun w'=>∃ n,w'=W.drewN n) (E:=fun w'=>∃ n,w'=W.drewN n) [0,1,2,3,4,5,6,7,8,12] [] 9 [{ v:=.iface 252 (.int .u64 (f.r b.toNat:Nat)),recovered:=false }] (by kernel_rfl) (by kernel_rfl) ⟨1,rfl⟩ ?_ ?_
 ·rintro a' w' ⟨hd,_⟩ ⟨nq,rfl⟩
  exact ⟨hd,rfl,Dk.zx HU3.out nq⟩
 dsimp only [List.filterMap,List.getElem?_cons_zero,List.getElem?_cons_succ]
 repeat (go_big_quiet_step (fail))
 refine wpQuiet_nil ?_
 refine ⟨_,rfl,rfl,?_,rfl,fun k hk=>absurd hk (by simp)⟩
 rintro _ ⟨nq,rfl⟩
 refine ⟨150,#[.int .u64 (f.r b.toNat:Nat),.slice A L C],?_,(zcv _ _ _ _ _ HX.out HM.out).mono fun e w' ⟨he,hw⟩=>⟨he,nq,hw⟩⟩
 go_simp
theorem zic (f:Dk.Frm) (a b c:Int) (n:Nat) (A:Option Addr) (L C:Nat) (w:World) (hx:L≤f.r a.toNat) (hmax:L≤maxLen) (h0:0≤a) (h8:a < 8) (g0:0≤b) (g8:b < 8) :
  Calls Tryz.prog 123 #[Dk.fv f,.agg #[.int .i64 19,.int .i64 a,.int .i64 b,.int .i64 c,.int .u64 (n:Nat)],.slice A L C] w fun e w'=>e=.panicked [{ v:=.iface 252 (.int .u64 (f.r a.toNat:Nat)),recovered:=false }]∧Below w.heap.size w w':=by
 obtain ⟨W,e3⟩:∃ W,((w.alloc (.cells #[.int .i64 f.fn,.int .i64 (wrap64 (f.pc+1)),.int .u64 (f.r 0:Nat),.int .u64 (f.r 1:Nat),.int .u64 (f.r 2:Nat),.int .u64 (f.r 3:Nat),.int .u64 (f.r 4:Nat),.int .u64 (f.r 5:Nat),.int .u64 (f.r 6:Nat),.int .u64 (f.r 7:Nat)] 110)).alloc (.cells #[.int .i64 19,.int .i64 a,.int .i64 b,.int .i64 c,.int .u64 (n:Nat)] 112)).alloc (.cells #[.int .i64 0,.int .i64 0,.int .u64 0,.int .u64 0,.int .u64 0,.int .u64 0,.int .u64 0,.int .u64 0,.int .u64 0,.int .u64 0] 110)=W:=⟨_,rfl⟩
 obtain ⟨b1,b2,b3,u3,z3⟩:=Dk.three _ _ _ _ _ _ _ _ e3
 replace b1:Dk.Box W w.heap.size (Dk.fc (f.to (wrap64 (f.pc+1)))) 110:=b1
 have c2:=b2.cell
 have g1:=b1.frozen
 have ra:=b1.cell (2+a.toNat)
 rw [Dk.zav _ _ (by omega)] at ra
 replace ra:W.cell? ⟨w.heap.size,2+a.toNat,none⟩=some (.int .u64 (f.r a.toNat:Nat)):=ra
 have rb:=b1.cell (2+b.toNat)
 rw [Dk.zav _ _ (by omega)] at rb
 replace rb:W.cell? ⟨w.heap.size,2+b.toNat,none⟩=some (.int .u64 (f.r b.toNat:Nat)):=rb
 have HX:Hid _:=hx
 have HM:Hid _:=hmax
 have HU3:Hid _:=u3
 clear b1 b2 b3 u3 z3 hx hmax
 go_enter Tryz.func123,Tryz.ntmps123
 go_wp2_with (first | (rw [e3];clear e3) | fail)
 refine Dk.zbh (C:=fun w'=>∃ n,w'=W.drewN n) (E:=fun w'=>∃ n,w'=W.drewN n) [0,1,2,3,4,5,6,8,9,10,11,12] [] 7 [{ v:=.iface 252 (.int .u64 (f.r a.toNat:Nat)),recovered:=false }] (by kernel_rfl) (by kernel_rfl) ⟨1,rfl⟩ ?_ ?_
 ·rintro a' w' ⟨hd,_⟩ ⟨nq,rfl⟩
  exact ⟨hd,rfl,Dk.zx HU3.out nq⟩
 dsimp only [List.filterMap,List.getElem?_cons_zero,List.getElem?_cons_succ]
 repeat (go_big_quiet_step (fail))
 refine wpQuiet_nil ?_
 refine ⟨_,rfl,rfl,?_,rfl,fun k hk=>absurd hk (by simp)⟩
 rintro _ ⟨nq,rfl⟩
 refine ⟨150,#[.int .u64 (f.r a.toNat:Nat),.slice A L C],?_,(zcv _ _ _ _ _ HX.out HM.out).mono fun e w' ⟨he,hw⟩=>⟨he,nq,hw⟩⟩
 go_simp
theorem do_store (f:Dk.Frm) (a b c:Int) (n:Nat) (L C:Nat) (w:World) (wb:Nat) (m:List Nat) (hm:Dk.Box w wb (Dk.wc m) 38) (hL:m.length=L) (hx:f.r a.toNat < L) (hmax:L≤maxLen) (h0:0≤a) (h8:a < 8) (g0:0≤b) (g8:b < 8) :
  Calls Tryz.prog 123 #[Dk.fv f,.agg #[.int .i64 19,.int .i64 a,.int .i64 b,.int .i64 c,.int .u64 (n:Nat)],.slice (some ⟨wb,0,none⟩) L C] w fun e w'=>e=.returned (Dk.fv (f.to (wrap64 (f.pc+1))))∧Below w.heap.size (w.setCell ⟨wb,f.r a.toNat,none⟩ (.int .u64 (f.r b.toNat:Nat))) w':=by
 obtain ⟨W,e3⟩:∃ W,((w.alloc (.cells #[.int .i64 f.fn,.int .i64 (wrap64 (f.pc+1)),.int .u64 (f.r 0:Nat),.int .u64 (f.r 1:Nat),.int .u64 (f.r 2:Nat),.int .u64 (f.r 3:Nat),.int .u64 (f.r 4:Nat),.int .u64 (f.r 5:Nat),.int .u64 (f.r 6:Nat),.int .u64 (f.r 7:Nat)] 110)).alloc (.cells #[.int .i64 19,.int .i64 a,.int .i64 b,.int .i64 c,.int .u64 (n:Nat)] 112)).alloc (.cells #[.int .i64 0,.int .i64 0,.int .u64 0,.int .u64 0,.int .u64 0,.int .u64 0,.int .u64 0,.int .u64 0,.int .u64 0,.int .u64 0] 110)=W:=⟨_,rfl⟩
 obtain ⟨b1,b2,b3,u3,z3⟩:=Dk.three _ _ _ _ _ _ _ _ e3
 replace b1:Dk.Box W w.heap.size (Dk.fc (f.to (wrap64 (f.pc+1)))) 110:=b1
 have c2:=b2.cell
 have g1:=b1.frozen
 have ra:=b1.cell (2+a.toNat)
 rw [Dk.zav _ _ (by omega)] at ra
 replace ra:W.cell? ⟨w.heap.size,2+a.toNat,none⟩=some (.int .u64 (f.r a.toNat:Nat)):=ra
 have rb:=b1.cell (2+b.toNat)
 rw [Dk.zav _ _ (by omega)] at rb
 replace rb:W.cell? ⟨w.heap.size,2+b.toNat,none⟩=some (.int .u64 (f.r b.toNat:Nat)):=rb
 have hw:W.cell? ⟨wb,f.r a.toNat,none⟩=some (.int .u64 ((m.getD (f.r a.toNat) 0:Nat):Nat)):=by
  rw [(hm.below u3 hm.lt).cell,Dk.zqo _ _ (by omega)]
 have hfz:=(hm.below u3 hm.lt).frozen (f.r a.toNat)
 have x0:(0:Int)≤(f.r a.toNat:Int):=Int.natCast_nonneg _
 have x1:(f.r a.toNat:Int) < (L:Int):=by omega
 have hlt:=hm.lt
 have n1:wb≠w.heap.size:=by omega
 have n2:wb≠w.heap.size+1:=by omega
 have HB1:Hid _:=b1
 have HB3:Hid _:=b3
 have HU3:Hid _:=u3
 have HX:Hid _:=hx
 have HM:Hid _:=hmax
 clear b1 b2 b3 u3 z3 hm hL hx hmax
 go_enter Tryz.func123,Tryz.ntmps123
 go_wp2_with (first | (rw [e3];clear e3) | fail)
 refine Dk.zae (C:=fun w'=>∃ n,w'=W.drewN n) (D:=fun w'=>∃ n,w'=(W.drewN n).setCell ⟨wb,f.r a.toNat,none⟩ (.int .u64 (f.r b.toNat:Nat))) (by kernel_rfl) (by kernel_rfl) ⟨1,rfl⟩ (by simp) ?_
 dsimp only [List.dropLast]
 repeat (go_big_quiet_step ((go_at_call 150;exact Calls.quiet_of_same (zc8 _ _ _ _ _ HX.out HM.out))))
 refine wpQuiet_nil ?_
 refine ⟨_,rfl,rfl,?_,?_⟩
 ·rintro _ ⟨nq,rfl⟩
  refine ⟨_,?_,nq,rfl⟩
  simp [go_sem,hw,hfz]
 ·rintro _ ⟨nq,rfl⟩
  obtain ⟨W4,e4⟩:∃ W4,(W.drewN nq).setCell ⟨wb,f.r a.toNat,none⟩ (.int .u64 (f.r b.toNat:Nat))=W4:=⟨_,rfl⟩
  have b4:Dk.Box W4 w.heap.size _ 110:=e4 ▸ ((HB1.out.drewN nq).zn (by omega) _ _)
  have b5:Dk.Box W4 (w.heap.size+1+1) _ 110:=e4 ▸ ((HB3.out.drewN nq).zn (by omega) _ _)
  have u4:Below w.heap.size (w.setCell ⟨wb,f.r a.toNat,none⟩ (.int .u64 (f.r b.toNat:Nat))) W4:=e4 ▸ (Dk.zlt (Dk.zx HU3.out nq) hlt _)
  obtain ⟨W5,e5,b6,u5⟩:=Dk.tail0 _ W4 w.heap.size (f.to (wrap64 (f.pc+1))) _ _ b5 u4
  have c4:=b4.cell
  have c6:=b6.cell
  have HB5:Hid _:=b5
  have HU:Hid _:=u5
  have HE:Hid _:=e5
  clear b4 b5 b6 u4 u5 e5
  rw [e4]
  clear e4
  go_wp2_with (refine wpList_store_row rfl 110 _ _ rfl (w.heap.size+1+1) (Dk.fc (f.to (wrap64 (f.pc+1)))) rfl rfl 110 _ HB5.out.heap zai rfl (Dk.zah _) ?_;rw [HE.out])
  exact bodyPost_ret (v:=Dk.fv (f.to (wrap64 (f.pc+1)))) (by simp [results,Tryz.results123,go_sem,c6]) rfl ⟨rfl,HU.out⟩
end Go.Proofs.YtglhhlfopccmaaaGreat
