import Derived.Test.YtnileplkkmhdgaaGreatDoorKH2DQ
import Derived.Test.YtnileplkkmhdgaaGreatDoorKXG4
namespace Go.Proofs.YtnileplkkmhdgaaGreatDoor
open Go.RowKit
theorem rV_zero9 (d:Int) (t:Int):rV d 53 0 1 t = 0:=by
  unfold rV rU rS rR
  rw [Nat.zero_mul,Nat.zero_div,Nat.zero_mod,upw_none _ _ _ (Nat.mul_pos (Nat.mul_pos (by omega) (Nat.pow_pos (by omega))) (Nat.pow_pos (by omega)))]
  simp
end Go.Proofs.YtnileplkkmhdgaaGreatDoor
