import Derived.Test.YtmpjcknaelgnoaaGreatDoorKQM
import Derived.Test.YtmpjcknaelgnoaaGreatDoorProg
import Derived.BigQuiet
import Derived.Deep.QuietTactic
import Derived.Deep.RegionHeld3
import Derived.ProofKit
import Derived.RowKit3
import Derived.StillTactics
import Derived.WalkKit
import Derived.WalkSpells
set_option maxHeartbeats 400000
set_option maxRecDepth 20000
namespace Go.Proofs.YtmpjcknaelgnoaaGreatDoor
open Go.RowKit Tryz
namespace Fq

def iD:Int:=9218868437227405312
def bD:Int:=4503599627370496
theorem Iu:floatToIntVal .f64 (floatOfInt .f64 16777217) .i64=some 16777217:=by decide +kernel
def Grown (W w':World):Prop:=Below W.heap.size W w'
theorem Grown.refl (W:World):Grown W W:=Below.refl _ _
theorem Grown.alloc {W w':World}(h:Grown W w')(c:Array Value)(t:TypeId):Grown W (w'.alloc (.cells c t)):=Below.alloc h (Below.size h) _
theorem Grown.drew {W w':World}(h:Grown W w'):Grown W w'.drew:=Below.drew h
theorem iC {a b c:World}(h:Grown a b)(g:Grown b c):Grown a c:=Below.trans h (Below.mono g (Below.size h))
theorem pi {a b:World}(n:Nat)(h:Grown a b):Grown a (b.drewN n):=by
 induction n with
 | zero=>exact h
 | succ n ih=>exact Below.drew ih
theorem FD {W w:World}(h:Grown W w)(b o:Nat)(hb:b<W.heap.size):w.cell? ⟨b,o,none⟩=W.cell? ⟨b,o,none⟩:=Below.cell h hb
theorem be {w:World}{b o:Nat}{v:Value}(h:w.cell? ⟨b,o,none⟩=some v):b<w.heap.size:=by
 unfold World.cell? at h
 by_cases c:b<w.heap.size
 ·exact c
 ·rw[Array.getElem?_eq_none (by simpa using c)]at h;simp at h
theorem ft {W w:World}{b o:Nat}{v:Value}(g:Grown W w)(h:W.cell? ⟨b,o,none⟩=some v):w.cell? ⟨b,o,none⟩=some v:=by
 rw[FD g b o (be h)];exact h
theorem GX (x:Nat)(w:World):(callFunc 37 #[.float .f64 x]).run prog w=.ok (.value (.int .u64 (x:Int))) w:=by kernel_rfl
theorem DO (x:Nat)(w:World):(callFunc 36 #[.int .u64 (x:Int)]).run prog w=.ok (.value (.float .f64 x)) w:=by kernel_rfl
theorem sp (w:World):Calls prog 240 #[.agg #[.int .i64 53,.int .i64 (-1074),.int .i64 971]] w fun e w'=>e=.returned (.int .i64 4503599627370496)∧w'=w.alloc (.cells #[.int .i64 53,.int .i64 (-1074),.int .i64 971] 187):=by
 go_enter func240,ntmps240
 go_wp2
 exact bodyPost_ret (v:=.int .i64 4503599627370496) (by simp[results,results240,go_sem]) rfl ⟨rfl,rfl⟩

theorem mT (w:World):Calls prog 237 #[.agg #[.int .i64 53,.int .i64 (-1074),.int .i64 971]] w fun e w'=>e=.returned (.int .i64 iD)∧w'=((w.alloc (.cells #[.int .i64 53,.int .i64 (-1074),.int .i64 971] 187)).alloc (.cells #[.int .i64 53,.int .i64 (-1074),.int .i64 971] 187)).drew:=by
 go_enter func237,ntmps237
 go_wp2
 go_region_held3 (fun w'=>w'.cell? ⟨w.heap.size,0,none⟩=some (.int .i64 53)∧w'.cell? ⟨w.heap.size,1,none⟩=some (.int .i64 (-1074))∧w'.cell? ⟨w.heap.size,2,none⟩=some (.int .i64 971)) (simp[go_sem,World.cell?_alloc_past]) (first|(go_at_call 240;refine(sp _).mono ?_;rintro e w' ⟨rfl,rfl⟩))
 go_wp2
 rw[show IntKind.i64.wrap (IntKind.i64.wrap (IntKind.i64.wrap 2045+2)*4503599627370496)=iD from by decide +kernel]
 exact bodyPost_ret (v:=.int .i64 iD) (by simp[results,results237,go_sem]) rfl ⟨rfl,rfl⟩

theorem xZ (w:World):Calls prog 262 #[] w fun e w'=>e=.returned (.bool true)∧w'=w:=by
 have a:=run_convert_float_int (P:=prog) w 27 2 .f64 .i64 _ _ (by kernel_rfl) (by kernel_rfl) Iu
 go_enter func262,ntmps262
 go_wp2
 go_ret
 exact⟨rfl,rfl⟩

theorem gM (w:World):Calls prog 236 #[] w fun e w'=>e=.returned (.agg #[.int .i64 53,.int .i64 (-1074),.int .i64 971])∧w'=w.alloc (.cells #[.int .i64 53,.int .i64 (-1074),.int .i64 971] 187):=by
 go_enter func236,ntmps236
 go_wp2_with (go_at_call 262;refine(xZ _).mono ?_;rintro e w' ⟨rfl,rfl⟩)
 exact bodyPost_ret (v:=.agg #[.int .i64 53,.int .i64 (-1074),.int .i64 971]) (by simp[results,results236,go_sem]) rfl ⟨rfl,rfl⟩

theorem xj (n:Bool)(m:Nat)(hm:m<9223372036854775808)(w:World):Calls prog 239 #[.float .f64 (wD n m)] w fun e w'=>e=.returned (.tuple #[.bool n,.int .i64 (m:Int)])∧w'=w:=by
 have a:wD n m<18446744073709551616:=by unfold wD;split<;>omega
 go_enter func239,ntmps239
 go_wp2_with (first|(go_at_call 262;refine(xZ _).mono ?_;rintro e w' ⟨rfl,rfl⟩)|simp only[GX])
 rw[G3 n m hm,GF n m hm]
 exact bodyPost_ret (v:=.tuple #[.bool n,.int .i64 (m:Int)]) (by simp[results,results239,go_sem]) rfl ⟨rfl,rfl⟩

theorem sq (m:Nat)(hm:m<9223372036854775808)(w:World):Calls prog 263 #[.int .i64 (m:Int)] w fun e w'=>e=.returned (.float .f64 (wD false m))∧w'=w:=by
 go_enter func263,ntmps263
 go_wp2_with (first|(go_at_call 262;refine(xZ _).mono ?_;rintro e w' ⟨rfl,rfl⟩)|simp only[DO])
 exact bodyPost_ret (v:=.float .f64 (wD false m)) (by simp[results,results263,go_sem];rfl) rfl ⟨rfl,rfl⟩

end Fq
end Go.Proofs.YtmpjcknaelgnoaaGreatDoor
