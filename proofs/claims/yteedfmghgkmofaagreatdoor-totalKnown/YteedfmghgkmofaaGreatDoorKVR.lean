import Derived.Test.YteedfmghgkmofaaGreatDoorKRT9
namespace Go.Proofs.YteedfmghgkmofaaGreatDoor
open Go.RowKit
set_option maxRecDepth 20000 in
theorem nroot_ (p : Option Addr) (c : Nat) (xs : List Int) (w : World) (hx : Arr w p xs) (hwx : Wd xs) (lx : xs.length ≤ 1048576) (hc : xs.length ≤ c) :
    Calls Tryz.prog 91 #[.slice p xs.length c] w fun e w' => ∃ v, e = .returned (.tuple #[v, .bool (rootN (val xs)).2.1, .int .i64 (rootN (val xs)).2.2]) ∧ Own w' w.heap.size v (rootN (val xs)).1 ∧ Kp w w' :=
  nroot_of p c xs w hx hwx lx hc (fun hl => by
    have e1 : nz xs = dig (val xs) := nz_dig xs hwx
    have hA2 : Arr w p (dig (val xs)) := by rw [← e1]; exact hx.take _
    have e2 : tl xs = (dig (val xs)).length := tl_len xs hwx
    have e3 := tl_le xs
    rw [e2]
    exact root_ (val xs) p c w hA2 (by omega) (by omega))
end Go.Proofs.YteedfmghgkmofaaGreatDoor
