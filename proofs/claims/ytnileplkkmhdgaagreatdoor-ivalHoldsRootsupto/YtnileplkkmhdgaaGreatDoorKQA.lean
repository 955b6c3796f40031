import Derived.Test.YtnileplkkmhdgaaGreatDoorKQM
import Derived.Test.YtnileplkkmhdgaaGreatDoorProg
import Derived.BigQuiet
import Derived.Deep.QuietTactic
import Derived.Deep.RegionHeld3
import Derived.ProofKit
import Derived.RowKit3
import Derived.StillTactics
import Derived.WalkKit
import Derived.WalkSpells
set_option maxHeartbeats 400000
set_option maxRecDepth 20000
namespace Go.Proofs.YtnileplkkmhdgaaGreatDoor
open Go.RowKit
namespace Fq

def iD:Int:=9218868437227405312
def bD:Int:=4503599627370496
theorem c64:floatToIntVal .f64 (floatOfInt .f64 16777217) .i64 = some 16777217:=by decide +kernel
def Grown (W w':World):Prop:=Below W.heap.size W w'
theorem Grown.refl (W:World):Grown W W:=Below.refl _ _
theorem Grown.alloc {W w':World} (h:Grown W w') (c:Array Value) (t:TypeId):Grown W (w'.alloc (.cells c t)):=Below.alloc h (Below.size h) _
theorem Grown.drew {W w':World} (h:Grown W w'):Grown W w'.drew:=Below.drew h
theorem gtrans {a b c:World} (h:Grown a b) (g:Grown b c):Grown a c:=Below.trans h (Below.mono g (Below.size h))
theorem gdrewN {a b:World} (n:Nat) (h:Grown a b):Grown a (b.drewN n):=by
  induction n with
  | zero=>exact h
  | succ n ih=>exact Below.drew ih
theorem gcell {W w:World} (h:Grown W w) (b o:Nat) (hb:b < W.heap.size):w.cell? ⟨b,o,none⟩ = W.cell? ⟨b,o,none⟩:=Below.cell h hb
theorem cell_lt {w:World} {b o:Nat} {v:Value} (h:w.cell? ⟨b,o,none⟩ = some v):b < w.heap.size:=by
  unfold World.cell? at h
  by_cases c:b < w.heap.size
  · exact c
  · rw [Array.getElem?_eq_none (by simpa using c)] at h;simp at h
theorem gkeep {W w:World} {b o:Nat} {v:Value} (g:Grown W w) (h:W.cell? ⟨b,o,none⟩ = some v):w.cell? ⟨b,o,none⟩ = some v:=by
  rw [gcell g b o (cell_lt h)];exact h
theorem fb64 (x:Nat) (w:World):(callFunc 31 #[.float .f64 x]).run Tryz.prog w = .ok (.value (.int .u64 (x:Int))) w:=by kernel_rfl
theorem ff64 (x:Nat) (w:World):(callFunc 30 #[.int .u64 (x:Int)]).run Tryz.prog w = .ok (.value (.float .f64 x)) w:=by kernel_rfl
theorem full_D (w:World):Calls Tryz.prog 119 #[.agg #[.int .i64 53,.int .i64 (-1074),.int .i64 971]] w fun e w'=>e = .returned (.int .i64 4503599627370496)∧w' = w.alloc (.cells #[.int .i64 53,.int .i64 (-1074),.int .i64 971] 123):=by
  go_enter Tryz.func119,Tryz.ntmps119
  go_wp2
  exact bodyPost_ret (v:=.int .i64 4503599627370496) (by simp [results,Tryz.results119,go_sem]) rfl ⟨rfl,rfl⟩

theorem infi_D (w:World):Calls Tryz.prog 116 #[.agg #[.int .i64 53,.int .i64 (-1074),.int .i64 971]] w fun e w'=>e = .returned (.int .i64 iD)∧w' = ((w.alloc (.cells #[.int .i64 53,.int .i64 (-1074),.int .i64 971] 123)).alloc (.cells #[.int .i64 53,.int .i64 (-1074),.int .i64 971] 123)).drew:=by
  go_enter Tryz.func116,Tryz.ntmps116
  go_wp2
  go_region_held3 (fun w'=>w'.cell? ⟨w.heap.size,0,none⟩ = some (.int .i64 53)∧w'.cell? ⟨w.heap.size,1,none⟩ = some (.int .i64 (-1074))∧w'.cell? ⟨w.heap.size,2,none⟩ = some (.int .i64 971)) (simp [go_sem,World.cell?_alloc_past]) (first | (go_at_call 119;refine (full_D _).mono ?_;rintro e w' ⟨rfl,rfl⟩))
  go_wp2
  rw [show IntKind.i64.wrap (IntKind.i64.wrap (IntKind.i64.wrap 2045 + 2) * 4503599627370496) = iD from by decide +kernel]
  exact bodyPost_ret (v:=.int .i64 iD) (by simp [results,Tryz.results116,go_sem]) rfl ⟨rfl,rfl⟩

theorem isB_d (w:World):Calls Tryz.prog 147 #[] w fun e w'=>e = .returned (.bool true)∧w' = w:=by
  have h2:=run_convert_float_int (P:=Tryz.prog) w 34 2 .f64 .i64 _ _ (by kernel_rfl) (by kernel_rfl) c64
  go_enter Tryz.func147,Tryz.ntmps147
  go_wp2
  go_ret
  exact ⟨rfl,rfl⟩

theorem lay_d (w:World):Calls Tryz.prog 115 #[] w fun e w'=>e = .returned (.agg #[.int .i64 53,.int .i64 (-1074),.int .i64 971])∧w' = w.alloc (.cells #[.int .i64 53,.int .i64 (-1074),.int .i64 971] 123):=by
  go_enter Tryz.func115,Tryz.ntmps115
  go_wp2_with (go_at_call 147;refine (isB_d _).mono ?_;rintro e w' ⟨rfl,rfl⟩)
  exact bodyPost_ret (v:=.agg #[.int .i64 53,.int .i64 (-1074),.int .i64 971]) (by simp [results,Tryz.results115,go_sem]) rfl ⟨rfl,rfl⟩

theorem patt_d (n:Bool) (m:Nat) (hm:m < 9223372036854775808) (w:World):Calls Tryz.prog 118 #[.float .f64 (wD n m)] w fun e w'=>e = .returned (.tuple #[.bool n,.int .i64 (m:Int)])∧w' = w:=by
  have hx:wD n m < 18446744073709551616:=by unfold wD;split <;> omega
  go_enter Tryz.func118,Tryz.ntmps118
  go_wp2_with (first | (go_at_call 147;refine (isB_d _).mono ?_;rintro e w' ⟨rfl,rfl⟩) | simp only [fb64])
  rw [andD n m hm,shrD n m hm]
  exact bodyPost_ret (v:=.tuple #[.bool n,.int .i64 (m:Int)]) (by simp [results,Tryz.results118,go_sem]) rfl ⟨rfl,rfl⟩

theorem from_d (m:Nat) (hm:m < 9223372036854775808) (w:World):Calls Tryz.prog 148 #[.int .i64 (m:Int)] w fun e w'=>e = .returned (.float .f64 (wD false m))∧w' = w:=by
  go_enter Tryz.func148,Tryz.ntmps148
  go_wp2_with (first | (go_at_call 147;refine (isB_d _).mono ?_;rintro e w' ⟨rfl,rfl⟩) | simp only [ff64])
  exact bodyPost_ret (v:=.float .f64 (wD false m)) (by simp [results,Tryz.results148,go_sem];rfl) rfl ⟨rfl,rfl⟩

end Fq
end Go.Proofs.YtnileplkkmhdgaaGreatDoor
