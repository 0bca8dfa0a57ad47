import Derived.Test.YtpnajphbjfehnaaGreatLn07
import Derived.Deep.RegionWith
import Derived.Deep.DrawnRows
set_option linter.unusedSimpArgs false
set_option linter.unusedVariables false
set_option linter.unnecessarySimpa false
set_option maxHeartbeats 8000000
set_option maxRecDepth 100000
namespace Go.Proofs.YtpnajphbjfehnaaGreat
open Go.RowKit
attribute [local go_sem ↓] Go.wp_at_zero Go.wp_at_succ
theorem zbw:(Tryz.prog.info? 89).map (·.size)=some 10:=by kernel_rfl
theorem do_set (f:Dk.Frm) (a b c:Int) (n:Nat) (A:Option Addr) (L C:Nat) (w:World) (h0:0≤a) (h8:a < 8) :
  Calls Tryz.prog 218 #[Dk.fv f,.agg #[.int .i64 1,.int .i64 a,.int .i64 b,.int .i64 c,.int .u64 (n:Nat)],.slice A L C] w fun e w'=>e=.returned (Dk.fv ((f.to (wrap64 (f.pc+1))).set a.toNat n))∧Below w.heap.size w w':=by
 obtain ⟨W,e3⟩:∃ W,((w.alloc (.cells #[.int .i64 f.fn,.int .i64 (wrap64 (f.pc+1)),.int .u64 (f.r 0:Nat),.int .u64 (f.r 1:Nat),.int .u64 (f.r 2:Nat),.int .u64 (f.r 3:Nat),.int .u64 (f.r 4:Nat),.int .u64 (f.r 5:Nat),.int .u64 (f.r 6:Nat),.int .u64 (f.r 7:Nat)] 89)).alloc (.cells #[.int .i64 1,.int .i64 a,.int .i64 b,.int .i64 c,.int .u64 (n:Nat)] 75)).alloc (.cells #[.int .i64 0,.int .i64 0,.int .u64 0,.int .u64 0,.int .u64 0,.int .u64 0,.int .u64 0,.int .u64 0,.int .u64 0,.int .u64 0] 89)=W:=⟨_,rfl⟩
 obtain ⟨b1,b2,b3,u3,z3⟩:=Dk.three _ _ _ _ _ _ _ _ e3
 replace b1:Dk.Box W w.heap.size (Dk.fc (f.to (wrap64 (f.pc+1)))) 89:=b1
 have c2:=b2.cell
 have g1:=b1.frozen
 have ra:=b1.cell (2+a.toNat)
 rw [Dk.fc_reg _ _ (by omega)] at ra
 replace ra:W.cell? ⟨w.heap.size,2+a.toNat,none⟩=some (.int .u64 (f.r a.toNat:Nat)):=ra
 obtain ⟨W4,W5,e4,e5,b4,b5,b6,u5⟩:=Dk.tail w W w.heap.size a.toNat n _ _ _ b1 b3 u3 (by omega)
 have c4:=b4.cell
 have c6:=b6.cell
 have HB5:Hid _:=b5
 have HU:Hid _:=u5
 have HE:Hid _:=e5
 clear b1 b2 b3 u3 z3 b4 b5 b6 u5 e5
 go_enter Tryz.func218,Tryz.ntmps218
 go_wp2_with (first | (rw [e3];clear e3) | (rw [e4];clear e4) | (refine wpList_store_row rfl 89 _ _ rfl (w.heap.size+1+1) (Dk.fc ((f.to (wrap64 (f.pc+1))).set a.toNat n)) rfl rfl 89 _ HB5.out.heap zbw rfl (Dk.zbv _) ?_;rw [HE.out]))
 exact bodyPost_ret (v:=Dk.fv ((f.to (wrap64 (f.pc+1))).set a.toNat n)) (by simp [results,Tryz.results218,go_sem,c6]) rfl ⟨rfl,HU.out⟩
end Go.Proofs.YtpnajphbjfehnaaGreat
