import Derived.Test.YteedfmghgkmofaaGreatDoorKTSe
import Derived.Test.YteedfmghgkmofaaGreatDoorKTSf
namespace Go.Proofs.YteedfmghgkmofaaGreatDoor
open Go.RowKit
theorem torder_ (K : Nat) (hK : K = 1074) (p : Option Addr) (c : Nat) (L : List Tm) (hok : TmOk L) (nn : Int) (hnn : nn < 9223372036854775808) (w : World) (ha : ArrT w p L) (hT : Tab w) (hQ : Fq.Tab w) : Calls Tryz.prog 5 #[.slice p L.length c, .int .i64 nn] w fun e w' => e = .returned (.bool true) ∧ Kp w w' := by
  by_cases h3 : 3000 < L.length
  · exact torderA_ K hK p c L hok h3 nn hnn w ha hT hQ
  · exact torderB_ K hK p c L hok h3 nn hnn w ha hT hQ
end Go.Proofs.YteedfmghgkmofaaGreatDoor
