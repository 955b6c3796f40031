import Derived.Test.YtgiffpohngaonaaGreatDoorProg
import Derived.Test.YtgiffpohngaonaaGreatDoorKXQF
import Derived.WalkKit
import Derived.ProofKit
import Derived.RowKit3
import Derived.Deep.RegionHeld3
import Derived.WalkSpells
import Derived.StillTactics
import Derived.Laws.FloatArith
import Derived.Deep.QuietTactic
import Derived.BigQuiet
import Derived.Below
namespace Go.Proofs.YtgiffpohngaonaaGreatDoor
open Go.RowKit
namespace Fq

def iD : Int := 9218868437227405312
def iS : Int := 2139095040
def bD : Int := 4503599627370496
def bS : Int := 8388608
theorem bD_eq : bD = 4503599627370496 := rfl
theorem bS_eq : bS = 8388608 := rfl
theorem iD_eq : iD = 9218868437227405312 := rfl
theorem iS_eq : iS = 2139095040 := rfl

theorem c64 : floatToIntVal .f64 (floatOfInt .f64 16777217) .i64 = some 16777217 := by decide +kernel
theorem c32 : floatToIntVal .f32 (floatOfInt .f32 16777217) .i64 = some 16777216 := by decide +kernel

/-- old memory is as it was, by the word that nat's texts take -/
def Grown (W w' : World) : Prop := Below W.heap.size W w'
theorem Grown.refl (W : World) : Grown W W := Below.refl _ _
theorem Grown.alloc {W w' : World} (h : Grown W w') (c : Array Value) (t : TypeId) : Grown W (w'.alloc (.cells c t)) := Below.alloc h (Below.size h) _
theorem Grown.drew {W w' : World} (h : Grown W w') : Grown W w'.drew := Below.drew h
theorem gtrans {a b c : World} (h : Grown a b) (g : Grown b c) : Grown a c := Below.trans h (Below.mono g (Below.size h))
theorem gdrewN {a b : World} (n : Nat) (h : Grown a b) : Grown a (b.drewN n) := by
  induction n with
  | zero => exact h
  | succ n ih => exact Below.drew ih
theorem gcell {W w : World} (h : Grown W w) (b o : Nat) (hb : b < W.heap.size) : w.cell? ⟨b, o, none⟩ = W.cell? ⟨b, o, none⟩ := Below.cell h hb
theorem cell_lt {w : World} {b o : Nat} {v : Value} (h : w.cell? ⟨b, o, none⟩ = some v) : b < w.heap.size := by
  unfold World.cell? at h
  by_cases c : b < w.heap.size
  · exact c
  · rw [Array.getElem?_eq_none (by simpa using c)] at h; simp at h
theorem gkeep {W w : World} {b o : Nat} {v : Value} (g : Grown W w) (h : W.cell? ⟨b, o, none⟩ = some v) : w.cell? ⟨b, o, none⟩ = some v := by
  rw [gcell g b o (cell_lt h)]; exact h
theorem keep4 {W w : World} {b : Nat} {v0 v1 v2 v3 : Value} (h : W.cell? ⟨b, 0, none⟩ = some v0 ∧ W.cell? ⟨b, 1, none⟩ = some v1 ∧ W.cell? ⟨b, 2, none⟩ = some v2 ∧ W.cell? ⟨b, 3, none⟩ = some v3) (g : Grown W w) :
    w.cell? ⟨b, 0, none⟩ = some v0 ∧ w.cell? ⟨b, 1, none⟩ = some v1 ∧ w.cell? ⟨b, 2, none⟩ = some v2 ∧ w.cell? ⟨b, 3, none⟩ = some v3 :=
  ⟨gkeep g h.1, gkeep g h.2.1, gkeep g h.2.2.1, gkeep g h.2.2.2⟩

theorem fb64 (x : Nat) (w : World) : (callFunc 16 #[.float .f64 x]).run Tryz.prog w = .ok (.value (.int .u64 (x : Int))) w := by kernel_rfl
theorem fb32 (x : Nat) (w : World) : (callFunc 91 #[.float .f32 x]).run Tryz.prog w = .ok (.value (.int .u32 (x : Int))) w := by kernel_rfl
theorem ff64 (x : Nat) (w : World) : (callFunc 8 #[.int .u64 (x : Int)]).run Tryz.prog w = .ok (.value (.float .f64 x)) w := by kernel_rfl
theorem ff32 (x : Nat) (w : World) : (callFunc 107 #[.int .u32 (x : Int)]).run Tryz.prog w = .ok (.value (.float .f32 x)) w := by kernel_rfl
set_option maxRecDepth 20000 in
set_option maxHeartbeats 400000 in
theorem full_D (w : World) : Calls Tryz.prog 65 #[.agg #[.int .i64 53, .int .i64 (-1074), .int .i64 971]] w fun e w' => e = .returned (.int .i64 4503599627370496) ∧ w' = w.alloc (.cells #[.int .i64 53, .int .i64 (-1074), .int .i64 971] 73) := by
  go_enter Tryz.func65, Tryz.ntmps65
  go_wp2
  exact bodyPost_ret (v := .int .i64 4503599627370496) (by simp [results, Tryz.results65, go_sem]) rfl ⟨rfl, rfl⟩

theorem fulb_D (w : World) : Calls Tryz.prog 65 #[.agg #[.int .i64 53, .int .i64 (-1074), .int .i64 971]] w fun e w' => e = .returned (.int .i64 bD) ∧ w' = w.alloc (.cells #[.int .i64 53, .int .i64 (-1074), .int .i64 971] 73) := full_D w

set_option maxRecDepth 20000 in
set_option maxHeartbeats 400000 in
theorem infi_D (w : World) : Calls Tryz.prog 62 #[.agg #[.int .i64 53, .int .i64 (-1074), .int .i64 971]] w fun e w' => e = .returned (.int .i64 iD) ∧ w' = ((w.alloc (.cells #[.int .i64 53, .int .i64 (-1074), .int .i64 971] 73)).alloc (.cells #[.int .i64 53, .int .i64 (-1074), .int .i64 971] 73)).drew := by
  go_enter Tryz.func62, Tryz.ntmps62
  go_wp2
  go_region_held3 (fun w' => w'.cell? ⟨w.heap.size, 0, none⟩ = some (.int .i64 53) ∧ w'.cell? ⟨w.heap.size, 1, none⟩ = some (.int .i64 (-1074)) ∧ w'.cell? ⟨w.heap.size, 2, none⟩ = some (.int .i64 971)) (simp [go_sem, World.cell?_alloc_past]) (first | (go_at_call 65; refine (full_D _).mono ?_; rintro e w' ⟨rfl, rfl⟩))
  go_wp2
  rw [show IntKind.i64.wrap (IntKind.i64.wrap (IntKind.i64.wrap 2045 + 2) * 4503599627370496) = iD from by decide +kernel]
  exact bodyPost_ret (v := .int .i64 iD) (by simp [results, Tryz.results62, go_sem]) rfl ⟨rfl, rfl⟩

set_option maxRecDepth 20000 in
set_option maxHeartbeats 400000 in
theorem full_S (w : World) : Calls Tryz.prog 65 #[.agg #[.int .i64 24, .int .i64 (-149), .int .i64 104]] w fun e w' => e = .returned (.int .i64 8388608) ∧ w' = w.alloc (.cells #[.int .i64 24, .int .i64 (-149), .int .i64 104] 73) := by
  go_enter Tryz.func65, Tryz.ntmps65
  go_wp2
  exact bodyPost_ret (v := .int .i64 8388608) (by simp [results, Tryz.results65, go_sem]) rfl ⟨rfl, rfl⟩

theorem fulb_S (w : World) : Calls Tryz.prog 65 #[.agg #[.int .i64 24, .int .i64 (-149), .int .i64 104]] w fun e w' => e = .returned (.int .i64 bS) ∧ w' = w.alloc (.cells #[.int .i64 24, .int .i64 (-149), .int .i64 104] 73) := full_S w

set_option maxRecDepth 20000 in
set_option maxHeartbeats 400000 in
theorem infi_S (w : World) : Calls Tryz.prog 62 #[.agg #[.int .i64 24, .int .i64 (-149), .int .i64 104]] w fun e w' => e = .returned (.int .i64 iS) ∧ w' = ((w.alloc (.cells #[.int .i64 24, .int .i64 (-149), .int .i64 104] 73)).alloc (.cells #[.int .i64 24, .int .i64 (-149), .int .i64 104] 73)).drew := by
  go_enter Tryz.func62, Tryz.ntmps62
  go_wp2
  go_region_held3 (fun w' => w'.cell? ⟨w.heap.size, 0, none⟩ = some (.int .i64 24) ∧ w'.cell? ⟨w.heap.size, 1, none⟩ = some (.int .i64 (-149)) ∧ w'.cell? ⟨w.heap.size, 2, none⟩ = some (.int .i64 104)) (simp [go_sem, World.cell?_alloc_past]) (first | (go_at_call 65; refine (full_S _).mono ?_; rintro e w' ⟨rfl, rfl⟩))
  go_wp2
  rw [show IntKind.i64.wrap (IntKind.i64.wrap (IntKind.i64.wrap 253 + 2) * 8388608) = iS from by decide +kernel]
  exact bodyPost_ret (v := .int .i64 iS) (by simp [results, Tryz.results62, go_sem]) rfl ⟨rfl, rfl⟩

set_option maxRecDepth 20000 in
set_option maxHeartbeats 400000 in
theorem isB_d (w : World) : Calls Tryz.prog 89 #[] w fun e w' => e = .returned (.bool true) ∧ w' = w := by
  have h2 := run_convert_float_int (P := Tryz.prog) w 24 2 .f64 .i64 _ _ (by kernel_rfl) (by kernel_rfl) c64
  go_enter Tryz.func89, Tryz.ntmps89
  go_wp2
  go_ret
  exact ⟨rfl, rfl⟩

set_option maxRecDepth 20000 in
set_option maxHeartbeats 400000 in
theorem lay_d (w : World) : Calls Tryz.prog 61 #[] w fun e w' => e = .returned (.agg #[.int .i64 53, .int .i64 (-1074), .int .i64 971]) ∧ w' = w.alloc (.cells #[.int .i64 53, .int .i64 (-1074), .int .i64 971] 73) := by
  go_enter Tryz.func61, Tryz.ntmps61
  go_wp2_with (go_at_call 89; refine (isB_d _).mono ?_; rintro e w' ⟨rfl, rfl⟩)
  exact bodyPost_ret (v := .agg #[.int .i64 53, .int .i64 (-1074), .int .i64 971]) (by simp [results, Tryz.results61, go_sem]) rfl ⟨rfl, rfl⟩

set_option maxRecDepth 20000 in
set_option maxHeartbeats 400000 in
theorem patt_d (n : Bool) (m : Nat) (hm : m < 9223372036854775808) (w : World) : Calls Tryz.prog 64 #[.float .f64 (wD n m)] w fun e w' => e = .returned (.tuple #[.bool n, .int .i64 (m : Int)]) ∧ w' = w := by
  have hx : wD n m < 18446744073709551616 := by unfold wD; split <;> omega
  go_enter Tryz.func64, Tryz.ntmps64
  go_wp2_with (first | (go_at_call 89; refine (isB_d _).mono ?_; rintro e w' ⟨rfl, rfl⟩) | simp only [fb64])
  rw [andD n m hm, shrD n m hm]
  exact bodyPost_ret (v := .tuple #[.bool n, .int .i64 (m : Int)]) (by simp [results, Tryz.results64, go_sem]) rfl ⟨rfl, rfl⟩

set_option maxRecDepth 20000 in
set_option maxHeartbeats 400000 in
theorem from_d (m : Nat) (hm : m < 9223372036854775808) (w : World) : Calls Tryz.prog 90 #[.int .i64 (m : Int)] w fun e w' => e = .returned (.float .f64 (wD false m)) ∧ w' = w := by
  go_enter Tryz.func90, Tryz.ntmps90
  go_wp2_with (first | (go_at_call 89; refine (isB_d _).mono ?_; rintro e w' ⟨rfl, rfl⟩) | simp only [ff64])
  exact bodyPost_ret (v := .float .f64 (wD false m)) (by simp [results, Tryz.results90, go_sem]; rfl) rfl ⟨rfl, rfl⟩

end Fq
end Go.Proofs.YtgiffpohngaonaaGreatDoor
