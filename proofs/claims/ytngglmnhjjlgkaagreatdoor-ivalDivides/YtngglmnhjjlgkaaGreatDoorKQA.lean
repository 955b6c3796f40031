import Derived.Test.YtngglmnhjjlgkaaGreatDoorKXQF
import Derived.Test.YtngglmnhjjlgkaaGreatDoorProg
import Derived.BigQuiet
import Derived.Deep.QuietTactic
import Derived.Deep.RegionHeld3
import Derived.Laws.Bits64b
import Derived.Laws.Slices
import Derived.ProofKit
import Derived.RowKit3
import Derived.StillTactics
import Derived.WalkKit
import Derived.WalkSpells
set_option maxHeartbeats 2000000
set_option maxRecDepth 20000
namespace Go.Proofs.YtngglmnhjjlgkaaGreatDoor
open Go.RowKit
namespace Fq

def iD:Int:=9218868437227405312
def bD:Int:=4503599627370496
theorem c64:floatToIntVal .f64 (floatOfInt .f64 16777217) .i64 = some 16777217:=by decide +kernel
def Grown (W w':World):Prop:=Below W.heap.size W w'
theorem Grown.refl (W:World):Grown W W:=Below.refl _ _
theorem Grown.alloc {W w':World} (h:Grown W w') (c:Array Value) (t:TypeId):Grown W (w'.alloc (.cells c t)):=Below.alloc h (Below.size h) _
theorem Grown.drew {W w':World} (h:Grown W w'):Grown W w'.drew:=Below.drew h
theorem gtrans {a b c:World} (h:Grown a b) (g:Grown b c):Grown a c:=Below.trans h (Below.mono g (Below.size h))
theorem gdrewN {a b:World} (n:Nat) (h:Grown a b):Grown a (b.drewN n):=by
 induction n with
 | zero=>exact h
 | succ n ih=>exact Below.drew ih
theorem gcell {W w:World} (h:Grown W w) (b o:Nat) (hb:b < W.heap.size):w.cell? ⟨b,o,none⟩ = W.cell? ⟨b,o,none⟩:=Below.cell h hb
theorem cell_lt {w:World} {b o:Nat} {v:Value} (h:w.cell? ⟨b,o,none⟩ = some v):b < w.heap.size:=by
 unfold World.cell? at h
 by_cases c:b < w.heap.size
 ·exact c
 ·rw [Array.getElem?_eq_none (by simpa using c)] at h;simp at h
theorem gkeep {W w:World} {b o:Nat} {v:Value} (g:Grown W w) (h:W.cell? ⟨b,o,none⟩ = some v):w.cell? ⟨b,o,none⟩ = some v:=by
 rw [gcell g b o (cell_lt h)];exact h
theorem fb64 (x:Nat) (w:World):(callFunc 14 #[.float .f64 x]).run Tryz.prog w = .ok (.value (.int .u64 (x:Int))) w:=by kernel_rfl
theorem ff64 (x:Nat) (w:World):(callFunc 22 #[.int .u64 (x:Int)]).run Tryz.prog w = .ok (.value (.float .f64 x)) w:=by kernel_rfl
theorem full_D (w:World):Calls Tryz.prog 125 #[.agg #[.int .i64 53,.int .i64 (-1074),.int .i64 971]] w fun e w'=>e = .returned (.int .i64 4503599627370496)∧w' = w.alloc (.cells #[.int .i64 53,.int .i64 (-1074),.int .i64 971] 121):=by
 go_enter Tryz.func125,Tryz.ntmps125
 go_wp2
 exact bodyPost_ret (v:=.int .i64 4503599627370496) (by simp [results,Tryz.results125,go_sem]) rfl ⟨rfl,rfl⟩

theorem infi_D (w:World):Calls Tryz.prog 122 #[.agg #[.int .i64 53,.int .i64 (-1074),.int .i64 971]] w fun e w'=>e = .returned (.int .i64 iD)∧w' = ((w.alloc (.cells #[.int .i64 53,.int .i64 (-1074),.int .i64 971] 121)).alloc (.cells #[.int .i64 53,.int .i64 (-1074),.int .i64 971] 121)).drew:=by
 go_enter Tryz.func122,Tryz.ntmps122
 go_wp2
 go_region_held3 (fun w'=>w'.cell? ⟨w.heap.size,0,none⟩ = some (.int .i64 53)∧w'.cell? ⟨w.heap.size,1,none⟩ = some (.int .i64 (-1074))∧w'.cell? ⟨w.heap.size,2,none⟩ = some (.int .i64 971)) (simp [go_sem,World.cell?_alloc_past]) (first | (go_at_call 125;refine (full_D _).mono ?_;rintro e w' ⟨rfl,rfl⟩))
 go_wp2
 rw [show IntKind.i64.wrap (IntKind.i64.wrap (IntKind.i64.wrap 2045 + 2) * 4503599627370496) = iD from by decide +kernel]
 exact bodyPost_ret (v:=.int .i64 iD) (by simp [results,Tryz.results122,go_sem]) rfl ⟨rfl,rfl⟩

theorem isB_d (w:World):Calls Tryz.prog 149 #[] w fun e w'=>e = .returned (.bool true)∧w' = w:=by
 have h2:=run_convert_float_int (P:=Tryz.prog) w 26 2 .f64 .i64 _ _ (by kernel_rfl) (by kernel_rfl) c64
 go_enter Tryz.func149,Tryz.ntmps149
 go_wp2
 go_ret
 exact ⟨rfl,rfl⟩

theorem lay_d (w:World):Calls Tryz.prog 121 #[] w fun e w'=>e = .returned (.agg #[.int .i64 53,.int .i64 (-1074),.int .i64 971])∧w' = w.alloc (.cells #[.int .i64 53,.int .i64 (-1074),.int .i64 971] 121):=by
 go_enter Tryz.func121,Tryz.ntmps121
 go_wp2_with (go_at_call 149;refine (isB_d _).mono ?_;rintro e w' ⟨rfl,rfl⟩)
 exact bodyPost_ret (v:=.agg #[.int .i64 53,.int .i64 (-1074),.int .i64 971]) (by simp [results,Tryz.results121,go_sem]) rfl ⟨rfl,rfl⟩

theorem patt_d (n:Bool) (m:Nat) (hm:m < 9223372036854775808) (w:World):Calls Tryz.prog 124 #[.float .f64 (wD n m)] w fun e w'=>e = .returned (.tuple #[.bool n,.int .i64 (m:Int)])∧w' = w:=by
 have hx:wD n m < 18446744073709551616:=by unfold wD;split <;> omega
 go_enter Tryz.func124,Tryz.ntmps124
 go_wp2_with (first | (go_at_call 149;refine (isB_d _).mono ?_;rintro e w' ⟨rfl,rfl⟩) | simp only [fb64])
 rw [andD n m hm,shrD n m hm]
 exact bodyPost_ret (v:=.tuple #[.bool n,.int .i64 (m:Int)]) (by simp [results,Tryz.results124,go_sem]) rfl ⟨rfl,rfl⟩

theorem from_d (m:Nat) (hm:m < 9223372036854775808) (w:World):Calls Tryz.prog 150 #[.int .i64 (m:Int)] w fun e w'=>e = .returned (.float .f64 (wD false m))∧w' = w:=by
 go_enter Tryz.func150,Tryz.ntmps150
 go_wp2_with (first | (go_at_call 149;refine (isB_d _).mono ?_;rintro e w' ⟨rfl,rfl⟩) | simp only [ff64])
 exact bodyPost_ret (v:=.float .f64 (wD false m)) (by simp [results,Tryz.results150,go_sem];rfl) rfl ⟨rfl,rfl⟩

end Fq
namespace Fq

theorem wp_region_grow {P:Program} {id:Nat} {Q:Exit→Act→World→Prop} {a:Act} {w:World} {l:List Oper} (hm:P.follows .mixedOrders = true) (hB:Region.lexB .any l.toArray = true)
  (h:∀ (ι:Type) (_:Nonempty ι) (G:ι→World),(∀ n,Grown w (G n))→(∀ w',Grown w w'→∃ n,w' = G n)→wpQuiet P l.toArray (fun w'=>∃ n,w' = G n) (fun a'=>∀ w',(∃ n,w' = G n)→Q .normal a' w') l a) :
  (Code.region id l.toArray true).wp P Q a w:=by
 have hh:=h {w':World // Grown w w'} ⟨⟨w,Grown.refl w⟩⟩ Subtype.val (fun n=>n.2) (fun w' hw=>⟨⟨w',hw⟩,rfl⟩)
 exact wp_region_quiet (C:=fun w'=>∃ n:{w':World // Grown w w'},w' = n.val) hm hB ⟨⟨_,(Grown.refl w).drew⟩,rfl⟩ (by simpa using hh)
end Fq
namespace Fq
theorem split_d (n:Bool) (m:Nat) (hm:m < 9218868437227405312) (w:World):Calls Tryz.prog 88 #[.float .f64 (wD n m)] w fun e w'=>e = .returned (.tuple #[.bool (n && !(m == 0)),.int .u64 ((sgD m:Nat):Int),.int .i64 (epD m),.bool true])∧Grown w w':=by
 have hpat:=patt_d n m (by omega)
 obtain ⟨I,hI⟩:∃ I:Int,I = 9218868437227405312:=⟨_,rfl⟩
 have hinf:∀ w:World,Calls Tryz.prog 122 #[.agg #[.int .i64 53,.int .i64 (-1074),.int .i64 971]] w fun e w'=>e = .returned (.int .i64 I)∧w' = ((w.alloc (.cells #[.int .i64 53,.int .i64 (-1074),.int .i64 971] 121)).alloc (.cells #[.int .i64 53,.int .i64 (-1074),.int .i64 971] 121)).drew:=by rw [hI];exact infi_D
 obtain ⟨B,hB⟩:∃ B:Int,B = 4503599627370496:=⟨_,rfl⟩
 have hful:∀ w:World,Calls Tryz.prog 125 #[.agg #[.int .i64 53,.int .i64 (-1074),.int .i64 971]] w fun e w'=>e = .returned (.int .i64 B)∧w' = w.alloc (.cells #[.int .i64 53,.int .i64 (-1074),.int .i64 971] 121):=by rw [hB];exact full_D
 have d1:¬ (I≤(m:Int)):=by omega
 have f7:¬ B = 0:=by omega
 obtain ⟨R,hR⟩:∃ R:Int,R = (m:Int):=⟨_,rfl⟩
 rw [← hR] at hpat d1
 obtain ⟨U,hU⟩:∃ U:Int,wrap64 (wrap64 (R.tdiv B) - 1) = U:=⟨_,rfl⟩
 have hU2:U = (m:Int) / 4503599627370496 - 1:=by
  rw [← hU,hR,hB,Int.tdiv_eq_ediv_of_nonneg (by omega),wrapI (x:=(m:Int) / 4503599627370496) (by omega) (by omega),wrapI (by omega) (by omega)]
 by_cases cB:m < 4503599627370496
 ·have u1:U < 0:=by omega
  have e1:((sgD m:Nat):Int) = R:=by rw [hR];unfold sgD sgG;(repeat' split) <;> omega
  have e2:epD m = -1074:=by unfold epD epG;(repeat' split) <;> omega
  have e3:IntKind.u64.wrap R = R:=by rw [hR,wrapU (by omega) (by omega)]
  have e4:wrap64 R = R:=by rw [hR,wrapI (by omega) (by omega)]
  have e5:IntKind.i64.wrap R = R:=by rw [IntWalk.i64_left];exact e4
  rw [e1,e2]
  by_cases cz:m = 0
  ·have z1:(R != 0) = false:=by rw [hR];simp;omega
   have z2:(n && !(m == 0)) = false:=by simp [cz]
   rw [z2]
   clear hI hB hR hm hU2 cB e1 e2 z2 cz
   cases n
   ·skip
    go_enter Tryz.func88,Tryz.ntmps88
    go_wp2_with (first | (go_at_call 121;refine (lay_d _).mono ?_;rintro e w' ⟨rfl,rfl⟩) | (go_at_call 124;refine (hpat _).mono ?_;rintro e w' ⟨rfl,rfl⟩) | (go_at_call 122;refine (hinf _).mono ?_;rintro e w' ⟨rfl,rfl⟩) | (go_at_call 125;refine (hful _).mono ?_;rintro e w' ⟨rfl,rfl⟩))
    refine wp_region_grow (by kernel_rfl) (by kernel_rfl) (fun ι _ G hG hall=>?_)
    have c0:∀ n,(G n).cell? ⟨w.heap.size + 1,0,none⟩ = some (.int .i64 53):=fun n=>gkeep (hG n) (by simp [go_sem,World.cell?_alloc_past])
    have c1:∀ n,(G n).cell? ⟨w.heap.size + 1,1,none⟩ = some (.int .i64 (-1074)):=fun n=>gkeep (hG n) (by simp [go_sem,World.cell?_alloc_past])
    have c2:∀ n,(G n).cell? ⟨w.heap.size + 1,2,none⟩ = some (.int .i64 971):=fun n=>gkeep (hG n) (by simp [go_sem,World.cell?_alloc_past])
    repeat (go_big_quiet_step (exact (hful _).mono (fun e w' h=>⟨h.1,hall _ (by rw [h.2];exact (hG _).alloc _ _)⟩)))
    refine wpQuiet_nil ?_
    rintro _ ⟨nq,rfl⟩
    have gq:=hG nq
    clear c0 c1 c2 hall
    go_wp2
    exact bodyPost_ret (v:=.tuple #[.bool false,.int .u64 R,.int .i64 (-1074),.bool true]) (by simp [results,Tryz.results88,go_sem] <;> simp only [*]) rfl ⟨rfl,(by repeat (with_reducible (first | assumption | exact Grown.refl _ | apply Grown.drew | apply Grown.alloc | apply gdrewN | (refine gtrans ?_ (by assumption)))))⟩
   ·skip
    go_enter Tryz.func88,Tryz.ntmps88
    go_wp2_with (first | (go_at_call 121;refine (lay_d _).mono ?_;rintro e w' ⟨rfl,rfl⟩) | (go_at_call 124;refine (hpat _).mono ?_;rintro e w' ⟨rfl,rfl⟩) | (go_at_call 122;refine (hinf _).mono ?_;rintro e w' ⟨rfl,rfl⟩) | (go_at_call 125;refine (hful _).mono ?_;rintro e w' ⟨rfl,rfl⟩))
    refine wp_region_grow (by kernel_rfl) (by kernel_rfl) (fun ι _ G hG hall=>?_)
    have c0:∀ n,(G n).cell? ⟨w.heap.size + 1,0,none⟩ = some (.int .i64 53):=fun n=>gkeep (hG n) (by simp [go_sem,World.cell?_alloc_past])
    have c1:∀ n,(G n).cell? ⟨w.heap.size + 1,1,none⟩ = some (.int .i64 (-1074)):=fun n=>gkeep (hG n) (by simp [go_sem,World.cell?_alloc_past])
    have c2:∀ n,(G n).cell? ⟨w.heap.size + 1,2,none⟩ = some (.int .i64 971):=fun n=>gkeep (hG n) (by simp [go_sem,World.cell?_alloc_past])
    repeat (go_big_quiet_step (exact (hful _).mono (fun e w' h=>⟨h.1,hall _ (by rw [h.2];exact (hG _).alloc _ _)⟩)))
    refine wpQuiet_nil ?_
    rintro _ ⟨nq,rfl⟩
    have gq:=hG nq
    clear c0 c1 c2 hall
    go_wp2
    exact bodyPost_ret (v:=.tuple #[.bool false,.int .u64 R,.int .i64 (-1074),.bool true]) (by simp [results,Tryz.results88,go_sem] <;> simp only [*]) rfl ⟨rfl,(by repeat (with_reducible (first | assumption | exact Grown.refl _ | apply Grown.drew | apply Grown.alloc | apply gdrewN | (refine gtrans ?_ (by assumption)))))⟩
  ·have z1:(R != 0) = true:=by rw [hR];simp;omega
   have z2:(n && !(m == 0)) = n:=by simp [cz]
   rw [z2]
   clear hI hB hR hm hU2 cB e1 e2 z2 cz
   cases n
   ·skip
    go_enter Tryz.func88,Tryz.ntmps88
    go_wp2_with (first | (go_at_call 121;refine (lay_d _).mono ?_;rintro e w' ⟨rfl,rfl⟩) | (go_at_call 124;refine (hpat _).mono ?_;rintro e w' ⟨rfl,rfl⟩) | (go_at_call 122;refine (hinf _).mono ?_;rintro e w' ⟨rfl,rfl⟩) | (go_at_call 125;refine (hful _).mono ?_;rintro e w' ⟨rfl,rfl⟩))
    refine wp_region_grow (by kernel_rfl) (by kernel_rfl) (fun ι _ G hG hall=>?_)
    have c0:∀ n,(G n).cell? ⟨w.heap.size + 1,0,none⟩ = some (.int .i64 53):=fun n=>gkeep (hG n) (by simp [go_sem,World.cell?_alloc_past])
    have c1:∀ n,(G n).cell? ⟨w.heap.size + 1,1,none⟩ = some (.int .i64 (-1074)):=fun n=>gkeep (hG n) (by simp [go_sem,World.cell?_alloc_past])
    have c2:∀ n,(G n).cell? ⟨w.heap.size + 1,2,none⟩ = some (.int .i64 971):=fun n=>gkeep (hG n) (by simp [go_sem,World.cell?_alloc_past])
    repeat (go_big_quiet_step (exact (hful _).mono (fun e w' h=>⟨h.1,hall _ (by rw [h.2];exact (hG _).alloc _ _)⟩)))
    refine wpQuiet_nil ?_
    rintro _ ⟨nq,rfl⟩
    have gq:=hG nq
    clear c0 c1 c2 hall
    go_wp2
    exact bodyPost_ret (v:=.tuple #[.bool false,.int .u64 R,.int .i64 (-1074),.bool true]) (by simp [results,Tryz.results88,go_sem] <;> simp only [*]) rfl ⟨rfl,(by repeat (with_reducible (first | assumption | exact Grown.refl _ | apply Grown.drew | apply Grown.alloc | apply gdrewN | (refine gtrans ?_ (by assumption)))))⟩
   ·skip
    go_enter Tryz.func88,Tryz.ntmps88
    go_wp2_with (first | (go_at_call 121;refine (lay_d _).mono ?_;rintro e w' ⟨rfl,rfl⟩) | (go_at_call 124;refine (hpat _).mono ?_;rintro e w' ⟨rfl,rfl⟩) | (go_at_call 122;refine (hinf _).mono ?_;rintro e w' ⟨rfl,rfl⟩) | (go_at_call 125;refine (hful _).mono ?_;rintro e w' ⟨rfl,rfl⟩))
    refine wp_region_grow (by kernel_rfl) (by kernel_rfl) (fun ι _ G hG hall=>?_)
    have c0:∀ n,(G n).cell? ⟨w.heap.size + 1,0,none⟩ = some (.int .i64 53):=fun n=>gkeep (hG n) (by simp [go_sem,World.cell?_alloc_past])
    have c1:∀ n,(G n).cell? ⟨w.heap.size + 1,1,none⟩ = some (.int .i64 (-1074)):=fun n=>gkeep (hG n) (by simp [go_sem,World.cell?_alloc_past])
    have c2:∀ n,(G n).cell? ⟨w.heap.size + 1,2,none⟩ = some (.int .i64 971):=fun n=>gkeep (hG n) (by simp [go_sem,World.cell?_alloc_past])
    repeat (go_big_quiet_step (exact (hful _).mono (fun e w' h=>⟨h.1,hall _ (by rw [h.2];exact (hG _).alloc _ _)⟩)))
    refine wpQuiet_nil ?_
    rintro _ ⟨nq,rfl⟩
    have gq:=hG nq
    clear c0 c1 c2 hall
    go_wp2
    exact bodyPost_ret (v:=.tuple #[.bool true,.int .u64 R,.int .i64 (-1074),.bool true]) (by simp [results,Tryz.results88,go_sem] <;> simp only [*]) rfl ⟨rfl,(by repeat (with_reducible (first | assumption | exact Grown.refl _ | apply Grown.drew | apply Grown.alloc | apply gdrewN | (refine gtrans ?_ (by assumption)))))⟩
 ·have u1:¬ (U < 0):=by omega
  have e1:((sgD m:Nat):Int) = R - U * B:=by rw [hU2,hB,hR];unfold sgD sgG;(repeat' split) <;> omega
  have e2:epD m = -1074 + U:=by rw [hU2];unfold epD epG;(repeat' split) <;> omega
  have e3:IntKind.u64.wrap (wrap64 (R - wrap64 (U * B))) = R - U * B:=by
   rw [hU2,hB,hR,wrapI (x:=((m:Int) / 4503599627370496 - 1) * 4503599627370496) (by omega) (by omega),wrapI (by omega) (by omega),wrapU (by omega) (by omega)]
  have e4:wrap64 (-1074 + U) = -1074 + U:=by rw [wrapI (by omega) (by omega)]
  have e5:IntKind.u64.wrap (IntKind.i64.wrap (R - IntKind.i64.wrap (U * B))) = R - U * B:=by rw [IntWalk.i64_left,IntWalk.i64_left];exact e3
  have e6:IntKind.i64.wrap (-1074 + U) = -1074 + U:=by rw [IntWalk.i64_left];exact e4
  have e7:wrap64 U = U:=by rw [hU2,wrapI (by omega) (by omega)]
  have e8:IntKind.i64.wrap U = U:=by rw [IntWalk.i64_left];exact e7
  rw [e1,e2]
  have z1:(R != 0) = true:=by rw [hR];simp;omega
  have z2 : (n && !(m == 0)) = n := by have : ¬ m = 0 := by omega
                                       simp [this]
  rw [z2]
  clear hI hB hR hm hU2 cB e1 e2 z2
  cases n
  ·skip
   go_enter Tryz.func88,Tryz.ntmps88
   go_wp2_with (first | (go_at_call 121;refine (lay_d _).mono ?_;rintro e w' ⟨rfl,rfl⟩) | (go_at_call 124;refine (hpat _).mono ?_;rintro e w' ⟨rfl,rfl⟩) | (go_at_call 122;refine (hinf _).mono ?_;rintro e w' ⟨rfl,rfl⟩) | (go_at_call 125;refine (hful _).mono ?_;rintro e w' ⟨rfl,rfl⟩))
   refine wp_region_grow (by kernel_rfl) (by kernel_rfl) (fun ι _ G hG hall=>?_)
   have c0:∀ n,(G n).cell? ⟨w.heap.size + 1,0,none⟩ = some (.int .i64 53):=fun n=>gkeep (hG n) (by simp [go_sem,World.cell?_alloc_past])
   have c1:∀ n,(G n).cell? ⟨w.heap.size + 1,1,none⟩ = some (.int .i64 (-1074)):=fun n=>gkeep (hG n) (by simp [go_sem,World.cell?_alloc_past])
   have c2:∀ n,(G n).cell? ⟨w.heap.size + 1,2,none⟩ = some (.int .i64 971):=fun n=>gkeep (hG n) (by simp [go_sem,World.cell?_alloc_past])
   repeat (go_big_quiet_step (exact (hful _).mono (fun e w' h=>⟨h.1,hall _ (by rw [h.2];exact (hG _).alloc _ _)⟩)))
   refine wpQuiet_nil ?_
   rintro _ ⟨nq,rfl⟩
   have gq:=hG nq
   clear c0 c1 c2 hall
   go_wp2
   exact bodyPost_ret (v:=.tuple #[.bool false,.int .u64 (R - U * B),.int .i64 (-1074 + U),.bool true]) (by simp [results,Tryz.results88,go_sem] <;> simp only [*]) rfl ⟨rfl,(by repeat (with_reducible (first | assumption | exact Grown.refl _ | apply Grown.drew | apply Grown.alloc | apply gdrewN | (refine gtrans ?_ (by assumption)))))⟩
  ·skip
   go_enter Tryz.func88,Tryz.ntmps88
   go_wp2_with (first | (go_at_call 121;refine (lay_d _).mono ?_;rintro e w' ⟨rfl,rfl⟩) | (go_at_call 124;refine (hpat _).mono ?_;rintro e w' ⟨rfl,rfl⟩) | (go_at_call 122;refine (hinf _).mono ?_;rintro e w' ⟨rfl,rfl⟩) | (go_at_call 125;refine (hful _).mono ?_;rintro e w' ⟨rfl,rfl⟩))
   refine wp_region_grow (by kernel_rfl) (by kernel_rfl) (fun ι _ G hG hall=>?_)
   have c0:∀ n,(G n).cell? ⟨w.heap.size + 1,0,none⟩ = some (.int .i64 53):=fun n=>gkeep (hG n) (by simp [go_sem,World.cell?_alloc_past])
   have c1:∀ n,(G n).cell? ⟨w.heap.size + 1,1,none⟩ = some (.int .i64 (-1074)):=fun n=>gkeep (hG n) (by simp [go_sem,World.cell?_alloc_past])
   have c2:∀ n,(G n).cell? ⟨w.heap.size + 1,2,none⟩ = some (.int .i64 971):=fun n=>gkeep (hG n) (by simp [go_sem,World.cell?_alloc_past])
   repeat (go_big_quiet_step (exact (hful _).mono (fun e w' h=>⟨h.1,hall _ (by rw [h.2];exact (hG _).alloc _ _)⟩)))
   refine wpQuiet_nil ?_
   rintro _ ⟨nq,rfl⟩
   have gq:=hG nq
   clear c0 c1 c2 hall
   go_wp2
   exact bodyPost_ret (v:=.tuple #[.bool true,.int .u64 (R - U * B),.int .i64 (-1074 + U),.bool true]) (by simp [results,Tryz.results88,go_sem] <;> simp only [*]) rfl ⟨rfl,(by repeat (with_reducible (first | assumption | exact Grown.refl _ | apply Grown.drew | apply Grown.alloc | apply gdrewN | (refine gtrans ?_ (by assumption)))))⟩

end Fq
namespace Fq

def kyN (x:Nat):Nat:=if 9223372036854775808≤pla x then 18446744073709551615 - pla x else pla x + 9223372036854775808
theorem kyN_w (n:Bool) (m:Nat) (h:m≤9218868437227405312):(kyN (wD n m):Int) = if plz n m < 0 then 9223372036854775807 + plz n m else 9223372036854775808 + plz n m:=by
 unfold kyN pla wD plz
 cases n <;> simp <;> repeat' split
 all_goals omega
theorem kyN_lt (n n':Bool) (m m':Nat) (h:m≤9218868437227405312) (h':m'≤9218868437227405312):kyN (wD n m) < kyN (wD n' m') ↔ plz n m < plz n' m':=by
 have e1:=kyN_w n m h
 have e2:=kyN_w n' m' h'
 have:(kyN (wD n m) < kyN (wD n' m')) ↔ ((kyN (wD n m):Int) < kyN (wD n' m')):=by omega
 rw [this,e1,e2]
 repeat' split
 all_goals omega
end Fq
namespace Fq
theorem Grown.setCell {W w':World} (h:Grown W w') {a:Addr} (ha:W.heap.size≤a.block) (v:Value):Grown W (w'.setCell a v):=Below.setCell h ha v
@[go_sem] theorem run_store_float6 (P:Program) (w:World) (a:Addr) (m:Mode) (k:FloatKind) (x:Nat):(store a (.float k x) m).run P w = stored P w a (.float k x) m:=run_store P w a _ m rfl
theorem inf1_ (w:World):Calls Tryz.prog 32 #[.int .i64 1] w fun e w'=>e = .returned (.float .f64 9218868437227405312)∧w' = w:=by
 have hf:∀ w:World,(callFunc 22 #[.int .u64 9218868437227405312]).run Tryz.prog w = .ok (.value (.float .f64 9218868437227405312)) w:=ff64 9218868437227405312
 go_enter Tryz.func32,Tryz.ntmps32
 go_wp2_with (first | (simp only [hf]))
 exact bodyPost_ret (v:=.float .f64 9218868437227405312) (by simp [results,Tryz.results32,go_sem] <;> simp only [*]) rfl ⟨rfl,rfl⟩
theorem infm_ (w:World):Calls Tryz.prog 32 #[.int .i64 (-1)] w fun e w'=>e = .returned (.float .f64 18442240474082181120)∧w' = w:=by
 have hf:∀ w:World,(callFunc 22 #[.int .u64 18442240474082181120]).run Tryz.prog w = .ok (.value (.float .f64 18442240474082181120)) w:=ff64 18442240474082181120
 go_enter Tryz.func32,Tryz.ntmps32
 go_wp2_with (first | (simp only [hf]))
 exact bodyPost_ret (v:=.float .f64 18442240474082181120) (by simp [results,Tryz.results32,go_sem] <;> simp only [*]) rfl ⟨rfl,rfl⟩
theorem plain6_ (x:Nat) (h:x < 18446744073709551616) (w:World):Calls Tryz.prog 33 #[.float .f64 x] w fun e w'=>e = .returned (.float .f64 (pla x))∧w' = w:=by
 have t:=feq0 x h
 by_cases c:x = 0∨x = 9223372036854775808
 ·rw [decide_eq_true c] at t
  have e:pla x = 0:=by unfold pla;split <;> omega
  rw [e];clear c e h
  go_enter Tryz.func33,Tryz.ntmps33
  go_wp2
  exact bodyPost_ret (v:=.float .f64 0) (by simp [results,Tryz.results33,go_sem] <;> simp only [*]) rfl ⟨rfl,rfl⟩
 ·rw [decide_eq_false c] at t
  have e:pla x = x:=by unfold pla;rw [if_neg (by omega)]
  rw [e];clear c e h
  go_enter Tryz.func33,Tryz.ntmps33
  go_wp2
  exact bodyPost_ret (v:=.float .f64 x) (by simp [results,Tryz.results33,go_sem] <;> simp only [*]) rfl ⟨rfl,rfl⟩
theorem empty6_ (w:World):Calls Tryz.prog 17 #[] w fun e w'=>e = .returned (.agg #[.float .f64 9218868437227405312,.float .f64 18442240474082181120])∧w' = w.alloc (.cells #[.float .f64 9218868437227405312,.float .f64 18442240474082181120] 28):=by
 go_enter Tryz.func17,Tryz.ntmps17
 go_wp2_with (go_at_call 32;(first | refine (inf1_ _).mono ?_ | refine (infm_ _).mono ?_);rintro e w' ⟨rfl,rfl⟩)
 exact bodyPost_ret (v:=.agg #[.float .f64 9218868437227405312,.float .f64 18442240474082181120]) (by simp [results,Tryz.results17,go_sem] <;> simp only [*]) rfl ⟨rfl,rfl⟩
theorem entire6_ (w:World):Calls Tryz.prog 34 #[] w fun e w'=>e = .returned (.agg #[.float .f64 18442240474082181120,.float .f64 9218868437227405312])∧w' = w.alloc (.cells #[.float .f64 18442240474082181120,.float .f64 9218868437227405312] 28):=by
 go_enter Tryz.func34,Tryz.ntmps34
 go_wp2_with (go_at_call 32;(first | refine (inf1_ _).mono ?_ | refine (infm_ _).mono ?_);rintro e w' ⟨rfl,rfl⟩)
 exact bodyPost_ret (v:=.agg #[.float .f64 18442240474082181120,.float .f64 9218868437227405312]) (by simp [results,Tryz.results34,go_sem] <;> simp only [*]) rfl ⟨rfl,rfl⟩
end Fq
namespace Fq
theorem read_ (a b:Nat) (ha:a < 18446744073709551616) (hb:b < 18446744073709551616) (w:World):Calls Tryz.prog 15 #[.agg #[.float .f64 a,.float .f64 b]] w fun e w'=>e = .returned (.agg #[.float .f64 (rlo a b),.float .f64 (rhi a b)])∧Grown w w':=by
 have t2:=feqI a ha
 have t3:=feqM b hb
 have hpa:=plain6_ a ha
 have hpb:=plain6_ b hb
 by_cases h1:(FloatKind.f64.format.order a b == some Ordering.lt || FloatKind.f64.format.order a b == some Ordering.eq) = true
 ·by_cases h2:a = 9218868437227405312
  ·have es:snd a b = false:=by simp [snd,h2]
   rw [decide_eq_true h2] at t2
   rw [show rlo a b = 9218868437227405312 from by simp [rlo,es],show rhi a b = 18442240474082181120 from by simp [rhi,es]]
   clear h2 es ha hb
   go_enter Tryz.func15,Tryz.ntmps15
   go_wp2
   go_quiet ((go_at_call 32;first | exact Calls.quiet_of_same (inf1_ _) | exact Calls.quiet_of_same (infm_ _)))
   go_wp2_with (first | (go_at_call 17;refine (empty6_ _).mono ?_;rintro e w' ⟨rfl,rfl⟩))
   exact bodyPost_ret (v:=.agg #[.float .f64 9218868437227405312,.float .f64 18442240474082181120]) (by simp [results,Tryz.results15,go_sem] <;> simp only [*]) rfl ⟨rfl,(by repeat (with_reducible (first | assumption | exact Grown.refl _ | apply Grown.drew | apply Grown.alloc | apply gdrewN | (refine Grown.setCell ?_ (by simp <;> omega) _) | (refine gtrans ?_ (by assumption)))))⟩
  ·rw [decide_eq_false h2] at t2
   by_cases h3:b = 18442240474082181120
   ·have es:snd a b = false:=by simp [snd,h3]
    rw [decide_eq_true h3] at t3
    rw [show rlo a b = 9218868437227405312 from by simp [rlo,es],show rhi a b = 18442240474082181120 from by simp [rhi,es]]
    clear h2 h3 es ha hb
    go_enter Tryz.func15,Tryz.ntmps15
    go_wp2
    go_quiet ((go_at_call 32;first | exact Calls.quiet_of_same (inf1_ _) | exact Calls.quiet_of_same (infm_ _)))
    go_wp2_with (first | (go_at_call 17;refine (empty6_ _).mono ?_;rintro e w' ⟨rfl,rfl⟩))
    exact bodyPost_ret (v:=.agg #[.float .f64 9218868437227405312,.float .f64 18442240474082181120]) (by simp [results,Tryz.results15,go_sem] <;> simp only [*]) rfl ⟨rfl,(by repeat (with_reducible (first | assumption | exact Grown.refl _ | apply Grown.drew | apply Grown.alloc | apply gdrewN | (refine Grown.setCell ?_ (by simp <;> omega) _) | (refine gtrans ?_ (by assumption)))))⟩
   ·have es:snd a b = true:=by simp only [snd,h1,h2,h3];simp
    rw [decide_eq_false h3] at t3
    rw [show rlo a b = pla a from by simp [rlo,es],show rhi a b = pla b from by simp [rhi,es]]
    clear h2 h3 es ha hb
    go_enter Tryz.func15,Tryz.ntmps15
    go_wp2
    go_quiet ((go_at_call 32;first | exact Calls.quiet_of_same (inf1_ _) | exact Calls.quiet_of_same (infm_ _)))
    go_wp2
    go_region_held3 (fun w'=>w'.cell? ⟨w.heap.size,0,none⟩ = some (.float .f64 a)∧w'.cell? ⟨w.heap.size,1,none⟩ = some (.float .f64 b)) (simp [go_sem,World.cell?_alloc_past]) (first | (go_at_call 33;(first | refine (hpa _).mono ?_ | refine (hpb _).mono ?_);rintro e w' ⟨rfl,rfl⟩))
    go_wp2
    exact bodyPost_ret (v:=.agg #[.float .f64 (pla a),.float .f64 (pla b)]) (by simp [results,Tryz.results15,go_sem] <;> simp only [*]) rfl ⟨rfl,(by repeat (with_reducible (first | assumption | exact Grown.refl _ | apply Grown.drew | apply Grown.alloc | apply gdrewN | (refine Grown.setCell ?_ (by simp <;> omega) _) | (refine gtrans ?_ (by assumption)))))⟩
 ·have h1':(FloatKind.f64.format.order a b == some Ordering.lt || FloatKind.f64.format.order a b == some Ordering.eq) = false:=by simpa using h1
  have es:snd a b = false:=by simp only [snd,h1'];simp
  rw [show rlo a b = 9218868437227405312 from by simp [rlo,es],show rhi a b = 18442240474082181120 from by simp [rhi,es]]
  clear h1 es ha hb t2 t3
  go_enter Tryz.func15,Tryz.ntmps15
  go_wp2
  go_quiet ((go_at_call 32;first | exact Calls.quiet_of_same (inf1_ _) | exact Calls.quiet_of_same (infm_ _)))
  go_wp2_with (first | (go_at_call 17;refine (empty6_ _).mono ?_;rintro e w' ⟨rfl,rfl⟩))
  exact bodyPost_ret (v:=.agg #[.float .f64 9218868437227405312,.float .f64 18442240474082181120]) (by simp [results,Tryz.results15,go_sem] <;> simp only [*]) rfl ⟨rfl,(by repeat (with_reducible (first | assumption | exact Grown.refl _ | apply Grown.drew | apply Grown.alloc | apply gdrewN | (refine Grown.setCell ?_ (by simp <;> omega) _) | (refine gtrans ?_ (by assumption)))))⟩
end Fq
namespace Fq
theorem eqIn6 (a c:Nat) (w:World):(Op.equalIn 9999 26 (.float .f64 a) (.float .f64 c)).run Tryz.prog w = .ok (FloatKind.f64.format.order a c == some Ordering.eq) w:=by kernel_rfl
theorem void_ (a b:Nat) (ha:a < 18446744073709551616) (hb:b < 18446744073709551616) (w:World):Calls Tryz.prog 16 #[.agg #[.float .f64 a,.float .f64 b]] w fun e w'=>e = .returned (.bool (decide (a = 9218868437227405312∧b = 18442240474082181120)))∧Grown w w':=by
 have t2:=feqI a ha
 have t3:=feqM b hb
 have e1:(decide (a = 9218868437227405312∧b = 18442240474082181120)) = ((FloatKind.f64.format.order a 9218868437227405312 == some Ordering.eq) && (FloatKind.f64.format.order b 18442240474082181120 == some Ordering.eq)):=by
  rw [t2,t3];by_cases c1:a = 9218868437227405312 <;> by_cases c2:b = 18442240474082181120 <;> simp [c1,c2]
 rw [e1]
 clear e1 t2 t3 ha hb
 have h0:=eqIn6 a 9218868437227405312
 have h1:=eqIn6 b 18442240474082181120
 generalize g1:(FloatKind.f64.format.order a 9218868437227405312 == some Ordering.eq) = B1 at h0 ⊢
 generalize g2:(FloatKind.f64.format.order b 18442240474082181120 == some Ordering.eq) = B2 at h1 ⊢
 cases B1 <;> cases B2
 ·go_enter Tryz.func16,Tryz.ntmps16
  go_wp2
  go_region_held3 (fun w'=>w'.cell? ⟨w.heap.size,0,none⟩ = some (.float .f64 a)∧w'.cell? ⟨w.heap.size,1,none⟩ = some (.float .f64 b)) (simp [go_sem,World.cell?_alloc_past]) (first | (go_at_call 17;refine (empty6_ _).mono ?_;rintro e w' ⟨rfl,rfl⟩))
  go_wp2
  exact bodyPost_ret (v:=.bool false) (by simp [results,Tryz.results16,go_sem] <;> simp only [*]) rfl ⟨rfl,(by repeat (with_reducible (first | assumption | exact Grown.refl _ | apply Grown.drew | apply Grown.alloc | apply gdrewN | (refine Grown.setCell ?_ (by simp <;> omega) _) | (refine gtrans ?_ (by assumption)))))⟩
 ·go_enter Tryz.func16,Tryz.ntmps16
  go_wp2
  go_region_held3 (fun w'=>w'.cell? ⟨w.heap.size,0,none⟩ = some (.float .f64 a)∧w'.cell? ⟨w.heap.size,1,none⟩ = some (.float .f64 b)) (simp [go_sem,World.cell?_alloc_past]) (first | (go_at_call 17;refine (empty6_ _).mono ?_;rintro e w' ⟨rfl,rfl⟩))
  go_wp2
  exact bodyPost_ret (v:=.bool false) (by simp [results,Tryz.results16,go_sem] <;> simp only [*]) rfl ⟨rfl,(by repeat (with_reducible (first | assumption | exact Grown.refl _ | apply Grown.drew | apply Grown.alloc | apply gdrewN | (refine Grown.setCell ?_ (by simp <;> omega) _) | (refine gtrans ?_ (by assumption)))))⟩
 ·go_enter Tryz.func16,Tryz.ntmps16
  go_wp2
  go_region_held3 (fun w'=>w'.cell? ⟨w.heap.size,0,none⟩ = some (.float .f64 a)∧w'.cell? ⟨w.heap.size,1,none⟩ = some (.float .f64 b)) (simp [go_sem,World.cell?_alloc_past]) (first | (go_at_call 17;refine (empty6_ _).mono ?_;rintro e w' ⟨rfl,rfl⟩))
  go_wp2
  exact bodyPost_ret (v:=.bool false) (by simp [results,Tryz.results16,go_sem] <;> simp only [*]) rfl ⟨rfl,(by repeat (with_reducible (first | assumption | exact Grown.refl _ | apply Grown.drew | apply Grown.alloc | apply gdrewN | (refine Grown.setCell ?_ (by simp <;> omega) _) | (refine gtrans ?_ (by assumption)))))⟩
 ·go_enter Tryz.func16,Tryz.ntmps16
  go_wp2
  go_region_held3 (fun w'=>w'.cell? ⟨w.heap.size,0,none⟩ = some (.float .f64 a)∧w'.cell? ⟨w.heap.size,1,none⟩ = some (.float .f64 b)) (simp [go_sem,World.cell?_alloc_past]) (first | (go_at_call 17;refine (empty6_ _).mono ?_;rintro e w' ⟨rfl,rfl⟩))
  go_wp2
  exact bodyPost_ret (v:=.bool true) (by simp [results,Tryz.results16,go_sem] <;> simp only [*]) rfl ⟨rfl,(by repeat (with_reducible (first | assumption | exact Grown.refl _ | apply Grown.drew | apply Grown.alloc | apply gdrewN | (refine Grown.setCell ?_ (by simp <;> omega) _) | (refine gtrans ?_ (by assumption)))))⟩
end Fq
namespace Fq
theorem place_d (n:Bool) (m:Nat) (hm:m≤9218868437227405312) (w:World):Calls Tryz.prog 120 #[.float .f64 (wD n m)] w fun e w'=>e = .returned (.tuple #[.int .i64 (plz n m),.bool true])∧Grown w w':=by
 have hpat:=patt_d n m (by omega)
 obtain ⟨I,hI⟩:∃ I:Int,I = 9218868437227405312:=⟨_,rfl⟩
 have hinf:∀ w:World,Calls Tryz.prog 122 #[.agg #[.int .i64 53,.int .i64 (-1074),.int .i64 971]] w fun e w'=>e = .returned (.int .i64 I)∧w' = ((w.alloc (.cells #[.int .i64 53,.int .i64 (-1074),.int .i64 971] 121)).alloc (.cells #[.int .i64 53,.int .i64 (-1074),.int .i64 971] 121)).drew:=by rw [hI];exact infi_D
 have d1:¬ (I < (m:Int)):=by omega
 have d2:wrap64 (-(m:Int)) = -(m:Int):=by unfold wrap64;omega
 clear hI hm
 cases n
 ·have ec:plz false m = (m:Int):=rfl
  rw [ec]
  clear ec d2
  go_enter Tryz.func120,Tryz.ntmps120
  go_wp2_with (first | (go_at_call 121;refine (lay_d _).mono ?_;rintro e w' ⟨rfl,rfl⟩) | (go_at_call 124;refine (hpat _).mono ?_;rintro e w' ⟨rfl,rfl⟩) | (go_at_call 122;refine (hinf _).mono ?_;rintro e w' ⟨rfl,rfl⟩))
  exact bodyPost_ret (v:=.tuple #[.int .i64 (m:Int),.bool true]) (by simp [results,Tryz.results120,go_sem] <;> simp only [*]) rfl ⟨rfl,(by repeat (with_reducible (first | assumption | exact Grown.refl _ | apply Grown.drew | apply Grown.alloc | apply gdrewN | (refine gtrans ?_ (by assumption)))))⟩
 ·have ec:plz true m = -(m:Int):=rfl
  rw [ec]
  clear ec
  go_enter Tryz.func120,Tryz.ntmps120
  go_wp2_with (first | (go_at_call 121;refine (lay_d _).mono ?_;rintro e w' ⟨rfl,rfl⟩) | (go_at_call 124;refine (hpat _).mono ?_;rintro e w' ⟨rfl,rfl⟩) | (go_at_call 122;refine (hinf _).mono ?_;rintro e w' ⟨rfl,rfl⟩))
  exact bodyPost_ret (v:=.tuple #[.int .i64 (-(m:Int)),.bool true]) (by simp [results,Tryz.results120,go_sem] <;> simp only [*]) rfl ⟨rfl,(by repeat (with_reducible (first | assumption | exact Grown.refl _ | apply Grown.drew | apply Grown.alloc | apply gdrewN | (refine gtrans ?_ (by assumption)))))⟩

theorem at_d (p:Int) (h1:-9218868437227405312≤p) (h2:p≤9218868437227405312) (w:World):Calls Tryz.prog 123 #[.int .i64 p] w fun e w'=>e = .returned (.tuple #[.float .f64 (fD p),.bool true])∧Grown w w':=by
 obtain ⟨I,hI⟩:∃ I:Int,I = 9218868437227405312:=⟨_,rfl⟩
 have hinf:∀ w:World,Calls Tryz.prog 122 #[.agg #[.int .i64 53,.int .i64 (-1074),.int .i64 971]] w fun e w'=>e = .returned (.int .i64 I)∧w' = ((w.alloc (.cells #[.int .i64 53,.int .i64 (-1074),.int .i64 971] 121)).alloc (.cells #[.int .i64 53,.int .i64 (-1074),.int .i64 971] 121)).drew:=by rw [hI];exact infi_D
 have d1:¬ (p < -I):=by omega
 have d2:¬ (I < p):=by omega
 have d0:wrap64 (-I) = -I:=by unfold wrap64;omega
 by_cases c:p < 0
 ·have ef:fD p = wD true p.natAbs:=by unfold fD;simp [c]
  rw [ef]
  have e2:wrap64 (-p) = ((p.natAbs:Nat):Int):=by unfold wrap64;omega
  have hfr:=from_d p.natAbs (by omega)
  obtain ⟨a,ha⟩:∃ a:Nat,a = p.natAbs:=⟨_,rfl⟩
  rw [← ha] at e2 hfr ⊢
  have hng:Op.unary .neg (.float .f64 (wD false a)) = pure (.float .f64 (wD true a)):=by
   show pure (Value.float .f64 (Op.negFloat .f64 (wD false a))) = _
   rw [negD false a (by omega)];rfl
  clear hI h1 h2 ef ha
  go_enter Tryz.func123,Tryz.ntmps123
  go_wp2_with (first | (go_at_call 121;refine (lay_d _).mono ?_;rintro e w' ⟨rfl,rfl⟩) | (go_at_call 150;refine (hfr _).mono ?_;rintro e w' ⟨rfl,rfl⟩) | (go_at_call 122;refine (hinf _).mono ?_;rintro e w' ⟨rfl,rfl⟩))
  exact bodyPost_ret (v:=.tuple #[.float .f64 (wD true a),.bool true]) (by simp [results,Tryz.results123,go_sem] <;> simp only [*]) rfl ⟨rfl,(by repeat (with_reducible (first | assumption | exact Grown.refl _ | apply Grown.drew | apply Grown.alloc | apply gdrewN | (refine gtrans ?_ (by assumption)))))⟩
 ·have ef:fD p = wD false p.natAbs:=by unfold fD;simp [c]
  rw [ef]
  have e2:p = ((p.natAbs:Nat):Int):=by omega
  have hfr:∀ w:World,Calls Tryz.prog 150 #[.int .i64 p] w fun e w'=>e = .returned (.float .f64 (wD false p.natAbs))∧w' = w:=by
   have:=from_d p.natAbs (by omega)
   rw [← e2] at this;exact this
  obtain ⟨a,ha⟩:∃ a:Nat,a = p.natAbs:=⟨_,rfl⟩
  rw [← ha] at hfr ⊢
  clear hI h1 h2 ef ha e2
  go_enter Tryz.func123,Tryz.ntmps123
  go_wp2_with (first | (go_at_call 121;refine (lay_d _).mono ?_;rintro e w' ⟨rfl,rfl⟩) | (go_at_call 150;refine (hfr _).mono ?_;rintro e w' ⟨rfl,rfl⟩) | (go_at_call 122;refine (hinf _).mono ?_;rintro e w' ⟨rfl,rfl⟩))
  exact bodyPost_ret (v:=.tuple #[.float .f64 (wD false a),.bool true]) (by simp [results,Tryz.results123,go_sem] <;> simp only [*]) rfl ⟨rfl,(by repeat (with_reducible (first | assumption | exact Grown.refl _ | apply Grown.drew | apply Grown.alloc | apply gdrewN | (refine gtrans ?_ (by assumption)))))⟩

theorem up_d (n:Bool) (m:Nat) (hm:m≤9218868437227405312) (h2:plz n m≠9218868437227405312) (w:World):Calls Tryz.prog 84 #[.float .f64 (wD n m)] w fun e w'=>e = .returned (.float .f64 (fD (plz n m + 1)))∧Grown w w':=by
 have hpl:=place_d n m hm
 obtain ⟨I,hI⟩:∃ I:Int,I = 9218868437227405312:=⟨_,rfl⟩
 have hinf:∀ w:World,Calls Tryz.prog 122 #[.agg #[.int .i64 53,.int .i64 (-1074),.int .i64 971]] w fun e w'=>e = .returned (.int .i64 I)∧w' = ((w.alloc (.cells #[.int .i64 53,.int .i64 (-1074),.int .i64 971] 121)).alloc (.cells #[.int .i64 53,.int .i64 (-1074),.int .i64 971] 121)).drew:=by rw [hI];exact infi_D
 have hb:=plz_bd n m
 obtain ⟨p,hp⟩:∃ p:Int,p = plz n m:=⟨_,rfl⟩
 rw [← hp] at hpl h2 hb ⊢
 have hat:=at_d (p + 1) (by omega) (by omega)
 have d1:(p == I) = false:=by simp;omega
 have d2:wrap64 (p + 1) = p + 1:=by unfold wrap64;omega
 have d3:¬ (p = I):=by omega
 clear hI hm h2 hb hp
 go_enter Tryz.func84,Tryz.ntmps84
 go_wp2_with (first | (go_at_call 121;refine (lay_d _).mono ?_;rintro e w' ⟨rfl,rfl⟩) | (go_at_call 122;refine (hinf _).mono ?_;rintro e w' ⟨rfl,rfl⟩) | (go_at_call 120;refine (hpl _).mono ?_;rintro e w' ⟨rfl,g1⟩) | (go_at_call 123;refine (hat _).mono ?_;rintro e w' ⟨rfl,g2⟩))
 exact bodyPost_ret (v:=.float .f64 (fD (p + 1))) (by simp [results,Tryz.results84,go_sem] <;> simp only [*]) rfl ⟨rfl,(by repeat (with_reducible (first | assumption | exact Grown.refl _ | apply Grown.drew | apply Grown.alloc | apply gdrewN | (refine gtrans ?_ (by assumption)))))⟩

theorem dn_d (n:Bool) (m:Nat) (hm:m≤9218868437227405312) (h2:plz n m≠-9218868437227405312) (w:World):Calls Tryz.prog 83 #[.float .f64 (wD n m)] w fun e w'=>e = .returned (.float .f64 (fD (plz n m - 1)))∧Grown w w':=by
 have hpl:=place_d n m hm
 obtain ⟨I,hI⟩:∃ I:Int,I = 9218868437227405312:=⟨_,rfl⟩
 have hinf:∀ w:World,Calls Tryz.prog 122 #[.agg #[.int .i64 53,.int .i64 (-1074),.int .i64 971]] w fun e w'=>e = .returned (.int .i64 I)∧w' = ((w.alloc (.cells #[.int .i64 53,.int .i64 (-1074),.int .i64 971] 121)).alloc (.cells #[.int .i64 53,.int .i64 (-1074),.int .i64 971] 121)).drew:=by rw [hI];exact infi_D
 have hb:=plz_bd n m
 obtain ⟨p,hp⟩:∃ p:Int,p = plz n m:=⟨_,rfl⟩
 rw [← hp] at hpl h2 hb ⊢
 have hat:=at_d (p - 1) (by omega) (by omega)
 have d1:(p == -I) = false:=by simp;omega
 have d2:wrap64 (p - 1) = p - 1:=by unfold wrap64;omega
 have d0:wrap64 (-I) = -I:=by unfold wrap64;omega
 have d3:¬ (p = -I):=by omega
 clear hI hm h2 hb hp
 go_enter Tryz.func83,Tryz.ntmps83
 go_wp2_with (first | (go_at_call 121;refine (lay_d _).mono ?_;rintro e w' ⟨rfl,rfl⟩) | (go_at_call 122;refine (hinf _).mono ?_;rintro e w' ⟨rfl,rfl⟩) | (go_at_call 120;refine (hpl _).mono ?_;rintro e w' ⟨rfl,g1⟩) | (go_at_call 123;refine (hat _).mono ?_;rintro e w' ⟨rfl,g2⟩))
 exact bodyPost_ret (v:=.float .f64 (fD (p - 1))) (by simp [results,Tryz.results83,go_sem] <;> simp only [*]) rfl ⟨rfl,(by repeat (with_reducible (first | assumption | exact Grown.refl _ | apply Grown.drew | apply Grown.alloc | apply gdrewN | (refine gtrans ?_ (by assumption)))))⟩

theorem plain_d (n:Bool) (m:Nat) (h2:m < 9223372036854775808) (w:World):Calls Tryz.prog 61 #[.float .f64 (wD n m)] w fun e w'=>e = .returned (.float .f64 (wD (n && !(m == 0)) m))∧w' = w:=by
 have ho:=eqzD n m h2
 by_cases c:m = 0
 ·subst c
  have ew:wD (n && !((0:Nat) == 0)) 0 = 0:=by simp [wD]
  rw [ew]
  clear ew
  have ho2:(FloatKind.f64.format.order (wD n 0) 0 == some .eq) = true:=by rw [ho];rfl
  clear ho
  go_enter Tryz.func61,Tryz.ntmps61
  go_wp2
  exact bodyPost_ret (v:=.float .f64 0) (by simp [results,Tryz.results61,go_sem] <;> simp only [*]) rfl ⟨rfl,rfl⟩
 ·have ew:(n && !(m == 0)) = n:=by simp [c]
  rw [ew]
  clear ew
  have ho2:(FloatKind.f64.format.order (wD n m) 0 == some .eq) = false:=by rw [ho];simp [c]
  clear ho c
  go_enter Tryz.func61,Tryz.ntmps61
  go_wp2
  exact bodyPost_ret (v:=.float .f64 (wD n m)) (by simp [results,Tryz.results61,go_sem] <;> simp only [*]) rfl ⟨rfl,rfl⟩

end Fq
end Go.Proofs.YtngglmnhjjlgkaaGreatDoor
