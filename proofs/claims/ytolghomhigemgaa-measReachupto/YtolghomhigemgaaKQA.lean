import Derived.Test.YtolghomhigemgaaProg
import Derived.Test.YtolghomhigemgaaKXQF
import Derived.WalkKit
import Derived.ProofKit
import Derived.RowKit3
import Derived.Deep.RegionHeld3
import Derived.WalkSpells
import Derived.StillTactics
import Derived.Laws.FloatArith
import Derived.Deep.QuietTactic
import Derived.BigQuiet
import Derived.Below
namespace Go.Proofs.Ytolghomhigemgaa
open Go.RowKit
namespace Fq

def iD : Int := 9218868437227405312
def iS : Int := 2139095040
def bD : Int := 4503599627370496
def bS : Int := 8388608
theorem bD_eq : bD = 4503599627370496 := rfl
theorem bS_eq : bS = 8388608 := rfl
theorem iD_eq : iD = 9218868437227405312 := rfl
theorem iS_eq : iS = 2139095040 := rfl

theorem c64 : floatToIntVal .f64 (floatOfInt .f64 16777217) .i64 = some 16777217 := by decide +kernel
theorem c32 : floatToIntVal .f32 (floatOfInt .f32 16777217) .i64 = some 16777216 := by decide +kernel

/-- old memory is as it was, by the word that nat's texts take -/
def Grown (W w' : World) : Prop := Below W.heap.size W w'
theorem Grown.refl (W : World) : Grown W W := Below.refl _ _
theorem Grown.alloc {W w' : World} (h : Grown W w') (c : Array Value) (t : TypeId) : Grown W (w'.alloc (.cells c t)) := Below.alloc h (Below.size h) _
theorem Grown.drew {W w' : World} (h : Grown W w') : Grown W w'.drew := Below.drew h
theorem gtrans {a b c : World} (h : Grown a b) (g : Grown b c) : Grown a c := Below.trans h (Below.mono g (Below.size h))
theorem gdrewN {a b : World} (n : Nat) (h : Grown a b) : Grown a (b.drewN n) := by
  induction n with
  | zero => exact h
  | succ n ih => exact Below.drew ih
theorem gcell {W w : World} (h : Grown W w) (b o : Nat) (hb : b < W.heap.size) : w.cell? ⟨b, o, none⟩ = W.cell? ⟨b, o, none⟩ := Below.cell h hb
theorem cell_lt {w : World} {b o : Nat} {v : Value} (h : w.cell? ⟨b, o, none⟩ = some v) : b < w.heap.size := by
  unfold World.cell? at h
  by_cases c : b < w.heap.size
  · exact c
  · rw [Array.getElem?_eq_none (by simpa using c)] at h; simp at h
theorem gkeep {W w : World} {b o : Nat} {v : Value} (g : Grown W w) (h : W.cell? ⟨b, o, none⟩ = some v) : w.cell? ⟨b, o, none⟩ = some v := by
  rw [gcell g b o (cell_lt h)]; exact h
theorem keep4 {W w : World} {b : Nat} {v0 v1 v2 v3 : Value} (h : W.cell? ⟨b, 0, none⟩ = some v0 ∧ W.cell? ⟨b, 1, none⟩ = some v1 ∧ W.cell? ⟨b, 2, none⟩ = some v2 ∧ W.cell? ⟨b, 3, none⟩ = some v3) (g : Grown W w) :
    w.cell? ⟨b, 0, none⟩ = some v0 ∧ w.cell? ⟨b, 1, none⟩ = some v1 ∧ w.cell? ⟨b, 2, none⟩ = some v2 ∧ w.cell? ⟨b, 3, none⟩ = some v3 :=
  ⟨gkeep g h.1, gkeep g h.2.1, gkeep g h.2.2.1, gkeep g h.2.2.2⟩

theorem fb64 (x : Nat) (w : World) : (callFunc 27 #[.float .f64 x]).run Try.prog w = .ok (.value (.int .u64 (x : Int))) w := by kernel_rfl
theorem ff64 (x : Nat) (w : World) : (callFunc 23 #[.int .u64 (x : Int)]).run Try.prog w = .ok (.value (.float .f64 x)) w := by kernel_rfl
end Fq
end Go.Proofs.Ytolghomhigemgaa
