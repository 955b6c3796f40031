import Derived.Test.YtcepchaakfiojaaKQM
import Derived.Test.YtcepchaakfiojaaProg
import Derived.BigQuiet
import Derived.Deep.QuietTactic
import Derived.Deep.RegionHeld3
import Derived.ProofKit
import Derived.RowKit3
import Derived.StillTactics
import Derived.WalkKit
import Derived.WalkSpells
namespace Go.Proofs.Ytcepchaakfiojaa
open Go.RowKit
namespace Fq
def bD:Int:=4503599627370496
def Grown (W w':World):Prop:=Below W.heap.size W w'
theorem Grown.refl (W:World):Grown W W:=Below.refl _ _
theorem Grown.alloc {W w':World} (h:Grown W w') (c:Array Value) (t:TypeId):Grown W (w'.alloc (.cells c t)):=Below.alloc h (Below.size h) _
theorem Grown.drew {W w':World} (h:Grown W w'):Grown W w'.drew:=Below.drew h
theorem gtrans {a b c:World} (h:Grown a b) (g:Grown b c):Grown a c:=Below.trans h (Below.mono g (Below.size h))
theorem gdrewN {a b:World} (n:Nat) (h:Grown a b):Grown a (b.drewN n):=by
  induction n with
  | zero=>exact h
  | succ n ih=>exact Below.drew ih
theorem gcell {W w:World} (h:Grown W w) (b o:Nat) (hb:b < W.heap.size):w.cell? ⟨b,o,none⟩ = W.cell? ⟨b,o,none⟩:=Below.cell h hb
theorem cell_lt {w:World} {b o:Nat} {v:Value} (h:w.cell? ⟨b,o,none⟩ = some v):b < w.heap.size:=by
  unfold World.cell? at h
  by_cases c:b < w.heap.size
  · exact c
  · rw [Array.getElem?_eq_none (by simpa using c)] at h;simp at h
theorem gkeep {W w:World} {b o:Nat} {v:Value} (g:Grown W w) (h:W.cell? ⟨b,o,none⟩ = some v):w.cell? ⟨b,o,none⟩ = some v:=by
  rw [gcell g b o (cell_lt h)];exact h
theorem fb64 (x:Nat) (w:World):(callFunc 11 #[.float .f64 x]).run Try.prog w = .ok (.value (.int .u64 (x:Int))) w:=by kernel_rfl
theorem ff64 (x:Nat) (w:World):(callFunc 10 #[.int .u64 (x:Int)]).run Try.prog w = .ok (.value (.float .f64 x)) w:=by kernel_rfl
end Fq
end Go.Proofs.Ytcepchaakfiojaa
