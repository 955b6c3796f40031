import Derived.Test.YtakcpoapokacgabDoorProg
import Derived.Test.YtakcpoapokacgabDoorA
import Derived.Test.YtakcpoapokacgabDoorA2
import Derived.Test.YtakcpoapokacgabDoorA4
import Derived.Test.YtakcpoapokacgabDoorA5
import Derived.Test.YtakcpoapokacgabDoorMN
import Derived.Test.YtakcpoapokacgabDoorMV
import Derived.Test.YtakcpoapokacgabDoorSC
import Derived.WalkKit
import Derived.ProofKit
import Derived.RowKit3
import Derived.WalkSpells
import Derived.StillTactics
import Derived.Deep.QuietTactic
import Derived.BigQuiet
import Derived.Below
import Derived.Deep.OwnRows
import Derived.Laws.Closers25b
namespace Go.Proofs.YtakcpoapokacgabDoor
open Go.RowKit

def x32 (x y : Int) : Int := bits BinOp.xor IntKind.u32 x y
theorem x32_bd (x y : Int) : 0 ≤ x32 x y ∧ x32 x y < 4294967296 := by
  have := bits_within BinOp.xor IntKind.u32 x y
  have m1 : IntKind.u32.min = 0 := by decide
  have m2 : IntKind.u32.max = 4294967295 := by decide
  unfold x32
  omega
def oth1 (xs : List Int) : List Int := xs.set 0 (x32 (xs.getD 0 0) 5)
def oth (xs : List Int) : List Int := (oth1 xs).set (xs.length / 2) (x32 ((oth1 xs).getD (xs.length / 2) 0) 2147483648)
theorem oth_len (xs : List Int) : (oth xs).length = xs.length := by simp [oth, oth1]
theorem oth_wd (xs : List Int) (h : Wd xs) : Wd (oth xs) := (h.set _ _ (x32_bd _ _)).set _ _ (x32_bd _ _)
set_option maxRecDepth 20000 in
set_option maxHeartbeats 1000000 in
theorem other_ (p : Option Addr) (c : Nat) (xs : List Int) (w : World) (hx : Arr w p xs) (lx : xs.length ≤ 1099511627776) :
    Calls Tryd.prog 7 #[.slice p xs.length c] w fun e w' => ∃ g, e = .returned (.slice (some ⟨g, 0, none⟩) xs.length xs.length) ∧ w.heap.size ≤ g ∧ Rw w' g xs.length (oth xs) ∧ Kp w w' := by
  have hco := copied_ p c xs w hx lx
  by_cases c0 : xs.length = 0
  · have hnil : xs = [] := List.length_eq_zero_iff.1 c0
    have e0 : oth xs = xs := by subst hnil; rfl
    rw [e0]
    rw [c0] at hco ⊢
    clear hx lx e0 hnil c0
    go_enter Tryd.func7, Tryd.ntmps7
    go_wp2_with fail
    refine hco.mono ?_; rintro e w1 ⟨g, rfl, hg, hr, hk⟩
    go_wp2
    exact bodyPost_ret (v := .slice (some ⟨g, 0, none⟩) 0 0) (by simp [results, Tryd.results7, go_sem] <;> simp only [*]) rfl ⟨g, rfl, hg, hr, hk⟩
  · obtain ⟨N, hN⟩ : ∃ N, N = xs.length := ⟨_, rfl⟩
    rw [← hN] at hco lx c0 ⊢
    have HN : Hid (N = xs.length) := hN
    clear hx hN
    go_enter Tryd.func7, Tryd.ntmps7
    go_wp2_with fail
    refine hco.mono ?_; rintro e w1 ⟨g, rfl, hg, hr, hk⟩
    have hN := HN.out
    have e1 := World.rowIs.cell hr (i := 0) (by omega)
    have e2 := World.rowIs.frozen hr 0
    have hr1 : Rw (w1.setCell ⟨g, 0, none⟩ (.int .u32 (x32 (xs.getD 0 0) 5))) g N (oth1 xs) := hr.set 0 _ (by omega)
    have e3 := World.rowIs.cell hr1 (i := N / 2) (by omega)
    have e4 := World.rowIs.frozen hr1 (N / 2)
    have hr2 : Rw ((w1.setCell ⟨g, 0, none⟩ (.int .u32 (x32 (xs.getD 0 0) 5))).setCell ⟨g, N / 2, none⟩ (.int .u32 (x32 ((oth1 xs).getD (N / 2) 0) 2147483648))) g N (oth xs) := by
      have := hr1.set (N / 2) (x32 ((oth1 xs).getD (N / 2) 0) 2147483648) (by simp [oth1]; omega)
      rw [hN] at this ⊢
      exact this
    have hk2 : Kp w ((w1.setCell ⟨g, 0, none⟩ (.int .u32 (x32 (xs.getD 0 0) 5))).setCell ⟨g, N / 2, none⟩ (.int .u32 (x32 ((oth1 xs).getD (N / 2) 0) 2147483648))) := (hk.setCell hg _).setCell hg _
    obtain ⟨X, hX⟩ : ∃ X, X = xs.getD 0 0 := ⟨_, rfl⟩
    obtain ⟨Y, hY⟩ : ∃ Y, Y = (oth1 xs).getD (N / 2) 0 := ⟨_, rfl⟩
    rw [← hX] at e1 e3 e4 hr2 hk2
    rw [← hY] at e3 hr2 hk2
    have f1 : bits BinOp.xor IntKind.u32 X 5 = x32 X 5 := rfl
    have f2 : bits BinOp.xor IntKind.u32 Y 2147483648 = x32 Y 2147483648 := rfl
    have f3 : ((N : Int)).tdiv 2 = ((N / 2 : Nat) : Int) := by rw [Int.tdiv_eq_ediv_of_nonneg (by omega)]; omega
    have f4 : (0 : Int) < (N : Int) := by omega
    have f5 : ((N / 2 : Nat) : Int) < (N : Int) := by omega
    obtain ⟨H, hH⟩ : ∃ H, H = N / 2 := ⟨_, rfl⟩
    rw [← hH] at e3 e4 hr2 hk2 f3 f5
    clear hco hr hk hr1 hX hY hN HN hH
    go_wp2
    exact bodyPost_ret (v := .slice (some ⟨g, 0, none⟩) N N) (by simp [results, Tryd.results7, go_sem] <;> simp only [*]) rfl ⟨g, rfl, hg, hr2, hk2⟩
end Go.Proofs.YtakcpoapokacgabDoor
