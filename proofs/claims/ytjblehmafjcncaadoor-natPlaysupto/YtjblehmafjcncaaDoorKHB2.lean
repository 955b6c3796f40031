import Derived.Test.YtjblehmafjcncaaDoorProg
import Derived.Test.YtjblehmafjcncaaDoorKXA0
import Derived.Test.YtjblehmafjcncaaDoorKHB
import Derived.Test.YtjblehmafjcncaaDoorKXM
import Derived.Test.YtjblehmafjcncaaDoorKXTZ
import Derived.WalkKit
import Derived.ProofKit
import Derived.RowKit3
import Derived.WalkSpells
import Derived.StillTactics
import Derived.Deep.QuietTactic
import Derived.BigQuiet
import Derived.Below
import Derived.Deep.OwnRows
import Derived.OwnWalk
namespace Go.Proofs.YtjblehmafjcncaaDoor
open Go.RowKit

/-- what 'held' needs of ask, or of want, at k, where the table is laid -/
def Asks2 (f : Nat) (k v n : Int) (F : List Int → List Int → Rs) : Prop := ∀ (p q : Option Addr) (c d : Nat) (xs ys : List Int) (w : World), Tab w → Arr w p xs → Arr w q ys → Wd xs → Wd ys → xs.length ≤ 1048576 → ys.length ≤ 1048576 → xs.length ≤ c → ys.length ≤ d →
  Calls Tryd.prog f #[.int .i64 k, .slice p xs.length c, .slice q ys.length d, .int .u64 v, .int .i64 n] w fun e w' => ∃ p1 c1 p2 c2, e = .returned (.agg #[.slice p1 (F xs ys).l1.length c1, .slice p2 (F xs ys).l2.length c2, .int .u64 (F xs ys).W, .int .i64 (F xs ys).Z, .bool (F xs ys).B, .int .i64 (F xs ys).E]) ∧ Out w' w.heap.size (F xs ys) p1 c1 p2 c2 ∧ Kp w w'
def F0 : List Int → List Int → Rs := fun xs _ => ⟨nz xs, [], 0, 0, false, 0⟩
def F1 (x : Nat) : List Int → List Int → Rs := fun _ _ => ⟨dig x, [], 0, 0, false, 0⟩
def F2 : List Int → List Int → Rs := fun xs _ => ⟨[], [], ((wordN (val xs)).1 : Nat), 0, (wordN (val xs)).2, 0⟩
def F3 : List Int → List Int → Rs := fun xs ys => ⟨[], [], 0, cmpN (val xs) (val ys), false, 0⟩
def F4 : List Int → List Int → Rs := fun xs _ => ⟨[], [], 0, (blen (val xs) : Nat), false, 0⟩
def F5 : List Int → List Int → Rs := fun xs _ => ⟨[], [], 0, (ctz (val xs) : Nat), false, 0⟩
end Go.Proofs.YtjblehmafjcncaaDoor
