import Derived.Test.YteedfmghgkmofaaGreatDoorKDTotalTight1
import Derived.WalkKit
import Derived.ProofKit
import Derived.RowKit3
import Derived.WalkSpells
import Derived.StillTactics
import Derived.Deep.QuietTactic
import Derived.BigQuiet
import Derived.Below
import Derived.Deep.WholeRow
import Derived.Deep.MidRow
import Derived.Laws.Externs
import Derived.Deep.Cut
import Derived.Deep.RegionWith
import Derived.Deep.RegionHeld3
import Derived.Laws.Bits64
import Derived.Lib.Zigzag
import Derived.Deep.OwnRows
import Derived.Laws.MakeOwn
namespace Go.Proofs.YteedfmghgkmofaaGreatDoor
open Go.RowKit
theorem ttight_ (K : Nat) (hK : K = 1074) (p : Option Addr) (c : Nat) (L : List Tm) (hok : TmOk L) (nn : Int) (hnn : nn < 9223372036854775808) (w : World) (ha : ArrT w p L) (hT : Tab w) (hQ : Fq.Tab w) : Calls Tryz.prog 6 #[.slice p L.length c, .int .i64 nn] w fun e w' => e = .returned (.bool true) ∧ Kp w w' := by
  by_cases h3 : 1000 < L.length
  · by_cases c1 : nn < 1
    · exact ttightAS_ K hK p c L hok h3 nn c1 w ha hT hQ
    · obtain ⟨M, rfl⟩ := Int.eq_ofNat_of_zero_le (show 0 ≤ nn by omega)
      exact ttightA_ K hK p c L hok h3 M (by omega) (by omega) w ha hT hQ
  · by_cases c1 : nn < 1
    · exact ttightBS_ K hK p c L hok h3 nn c1 w ha hT hQ
    · obtain ⟨M, rfl⟩ := Int.eq_ofNat_of_zero_le (show 0 ≤ nn by omega)
      exact ttightB_ K hK p c L hok h3 M (by omega) (by omega) w ha hT hQ
end Go.Proofs.YteedfmghgkmofaaGreatDoor
