import Derived.Test.YtinohggonicjhaaGreatDoorKXQF
import Derived.Test.YtinohggonicjhaaGreatDoorProg
import Derived.BigQuiet
import Derived.Deep.QuietTactic
import Derived.Deep.RegionHeld3
import Derived.ProofKit
import Derived.RowKit3
import Derived.StillTactics
import Derived.WalkKit
import Derived.WalkSpells
set_option maxHeartbeats 2000000
set_option maxRecDepth 20000
namespace Go.Proofs.YtinohggonicjhaaGreatDoor
open Go.RowKit
namespace Fq

def iD:Int:=9218868437227405312
def bD:Int:=4503599627370496
theorem c64:floatToIntVal .f64 (floatOfInt .f64 16777217) .i64 = some 16777217:=by decide +kernel
def Grown (W w':World):Prop:=Below W.heap.size W w'
theorem Grown.refl (W:World):Grown W W:=Below.refl _ _
theorem Grown.alloc {W w':World} (h:Grown W w') (c:Array Value) (t:TypeId):Grown W (w'.alloc (.cells c t)):=Below.alloc h (Below.size h) _
theorem Grown.drew {W w':World} (h:Grown W w'):Grown W w'.drew:=Below.drew h
theorem gtrans {a b c:World} (h:Grown a b) (g:Grown b c):Grown a c:=Below.trans h (Below.mono g (Below.size h))
theorem gdrewN {a b:World} (n:Nat) (h:Grown a b):Grown a (b.drewN n):=by
  induction n with
  | zero=>exact h
  | succ n ih=>exact Below.drew ih
theorem gcell {W w:World} (h:Grown W w) (b o:Nat) (hb:b < W.heap.size):w.cell? ⟨b,o,none⟩ = W.cell? ⟨b,o,none⟩:=Below.cell h hb
theorem cell_lt {w:World} {b o:Nat} {v:Value} (h:w.cell? ⟨b,o,none⟩ = some v):b < w.heap.size:=by
  unfold World.cell? at h
  by_cases c:b < w.heap.size
  · exact c
  · rw [Array.getElem?_eq_none (by simpa using c)] at h;simp at h
theorem gkeep {W w:World} {b o:Nat} {v:Value} (g:Grown W w) (h:W.cell? ⟨b,o,none⟩ = some v):w.cell? ⟨b,o,none⟩ = some v:=by
  rw [gcell g b o (cell_lt h)];exact h
theorem fb64 (x:Nat) (w:World):(callFunc 14 #[.float .f64 x]).run Tryz.prog w = .ok (.value (.int .u64 (x:Int))) w:=by kernel_rfl
theorem ff64 (x:Nat) (w:World):(callFunc 22 #[.int .u64 (x:Int)]).run Tryz.prog w = .ok (.value (.float .f64 x)) w:=by kernel_rfl
theorem full_D (w:World):Calls Tryz.prog 125 #[.agg #[.int .i64 53,.int .i64 (-1074),.int .i64 971]] w fun e w'=>e = .returned (.int .i64 4503599627370496)∧w' = w.alloc (.cells #[.int .i64 53,.int .i64 (-1074),.int .i64 971] 121):=by
  go_enter Tryz.func125,Tryz.ntmps125
  go_wp2
  exact bodyPost_ret (v:=.int .i64 4503599627370496) (by simp [results,Tryz.results125,go_sem]) rfl ⟨rfl,rfl⟩

theorem infi_D (w:World):Calls Tryz.prog 122 #[.agg #[.int .i64 53,.int .i64 (-1074),.int .i64 971]] w fun e w'=>e = .returned (.int .i64 iD)∧w' = ((w.alloc (.cells #[.int .i64 53,.int .i64 (-1074),.int .i64 971] 121)).alloc (.cells #[.int .i64 53,.int .i64 (-1074),.int .i64 971] 121)).drew:=by
  go_enter Tryz.func122,Tryz.ntmps122
  go_wp2
  go_region_held3 (fun w'=>w'.cell? ⟨w.heap.size,0,none⟩ = some (.int .i64 53)∧w'.cell? ⟨w.heap.size,1,none⟩ = some (.int .i64 (-1074))∧w'.cell? ⟨w.heap.size,2,none⟩ = some (.int .i64 971)) (simp [go_sem,World.cell?_alloc_past]) (first | (go_at_call 125;refine (full_D _).mono ?_;rintro e w' ⟨rfl,rfl⟩))
  go_wp2
  rw [show IntKind.i64.wrap (IntKind.i64.wrap (IntKind.i64.wrap 2045 + 2) * 4503599627370496) = iD from by decide +kernel]
  exact bodyPost_ret (v:=.int .i64 iD) (by simp [results,Tryz.results122,go_sem]) rfl ⟨rfl,rfl⟩

theorem isB_d (w:World):Calls Tryz.prog 149 #[] w fun e w'=>e = .returned (.bool true)∧w' = w:=by
  have h2:=run_convert_float_int (P:=Tryz.prog) w 26 2 .f64 .i64 _ _ (by kernel_rfl) (by kernel_rfl) c64
  go_enter Tryz.func149,Tryz.ntmps149
  go_wp2
  go_ret
  exact ⟨rfl,rfl⟩

theorem lay_d (w:World):Calls Tryz.prog 121 #[] w fun e w'=>e = .returned (.agg #[.int .i64 53,.int .i64 (-1074),.int .i64 971])∧w' = w.alloc (.cells #[.int .i64 53,.int .i64 (-1074),.int .i64 971] 121):=by
  go_enter Tryz.func121,Tryz.ntmps121
  go_wp2_with (go_at_call 149;refine (isB_d _).mono ?_;rintro e w' ⟨rfl,rfl⟩)
  exact bodyPost_ret (v:=.agg #[.int .i64 53,.int .i64 (-1074),.int .i64 971]) (by simp [results,Tryz.results121,go_sem]) rfl ⟨rfl,rfl⟩

theorem patt_d (n:Bool) (m:Nat) (hm:m < 9223372036854775808) (w:World):Calls Tryz.prog 124 #[.float .f64 (wD n m)] w fun e w'=>e = .returned (.tuple #[.bool n,.int .i64 (m:Int)])∧w' = w:=by
  have hx:wD n m < 18446744073709551616:=by unfold wD;split <;> omega
  go_enter Tryz.func124,Tryz.ntmps124
  go_wp2_with (first | (go_at_call 149;refine (isB_d _).mono ?_;rintro e w' ⟨rfl,rfl⟩) | simp only [fb64])
  rw [andD n m hm,shrD n m hm]
  exact bodyPost_ret (v:=.tuple #[.bool n,.int .i64 (m:Int)]) (by simp [results,Tryz.results124,go_sem]) rfl ⟨rfl,rfl⟩

theorem from_d (m:Nat) (hm:m < 9223372036854775808) (w:World):Calls Tryz.prog 150 #[.int .i64 (m:Int)] w fun e w'=>e = .returned (.float .f64 (wD false m))∧w' = w:=by
  go_enter Tryz.func150,Tryz.ntmps150
  go_wp2_with (first | (go_at_call 149;refine (isB_d _).mono ?_;rintro e w' ⟨rfl,rfl⟩) | simp only [ff64])
  exact bodyPost_ret (v:=.float .f64 (wD false m)) (by simp [results,Tryz.results150,go_sem];rfl) rfl ⟨rfl,rfl⟩

end Fq
namespace Fq

theorem wp_region_grow {P:Program} {id:Nat} {Q:Exit→Act→World→Prop} {a:Act} {w:World} {l:List Oper} (hm:P.follows .mixedOrders = true) (hB:Region.lexB .any l.toArray = true)
    (h:∀ (ι:Type) (_:Nonempty ι) (G:ι→World),(∀ n,Grown w (G n))→(∀ w',Grown w w'→∃ n,w' = G n)→wpQuiet P l.toArray (fun w'=>∃ n,w' = G n) (fun a'=>∀ w',(∃ n,w' = G n)→Q .normal a' w') l a) :
    (Code.region id l.toArray true).wp P Q a w:=by
  have hh:=h {w':World // Grown w w'} ⟨⟨w,Grown.refl w⟩⟩ Subtype.val (fun n=>n.2) (fun w' hw=>⟨⟨w',hw⟩,rfl⟩)
  exact wp_region_quiet (C:=fun w'=>∃ n:{w':World // Grown w w'},w' = n.val) hm hB ⟨⟨_,(Grown.refl w).drew⟩,rfl⟩ (by simpa using hh)
end Fq
namespace Fq
theorem split_d (n:Bool) (m:Nat) (hm:m < 9218868437227405312) (w:World):Calls Tryz.prog 88 #[.float .f64 (wD n m)] w fun e w'=>e = .returned (.tuple #[.bool (n && !(m == 0)),.int .u64 ((sgD m:Nat):Int),.int .i64 (epD m),.bool true])∧Grown w w':=by
  have hpat:=patt_d n m (by omega)
  obtain ⟨I,hI⟩:∃ I:Int,I = 9218868437227405312:=⟨_,rfl⟩
  have hinf:∀ w:World,Calls Tryz.prog 122 #[.agg #[.int .i64 53,.int .i64 (-1074),.int .i64 971]] w fun e w'=>e = .returned (.int .i64 I)∧w' = ((w.alloc (.cells #[.int .i64 53,.int .i64 (-1074),.int .i64 971] 121)).alloc (.cells #[.int .i64 53,.int .i64 (-1074),.int .i64 971] 121)).drew:=by rw [hI];exact infi_D
  obtain ⟨B,hB⟩:∃ B:Int,B = 4503599627370496:=⟨_,rfl⟩
  have hful:∀ w:World,Calls Tryz.prog 125 #[.agg #[.int .i64 53,.int .i64 (-1074),.int .i64 971]] w fun e w'=>e = .returned (.int .i64 B)∧w' = w.alloc (.cells #[.int .i64 53,.int .i64 (-1074),.int .i64 971] 121):=by rw [hB];exact full_D
  have d1:¬ (I≤(m:Int)):=by omega
  have f7:¬ B = 0:=by omega
  obtain ⟨R,hR⟩:∃ R:Int,R = (m:Int):=⟨_,rfl⟩
  rw [← hR] at hpat d1
  obtain ⟨U,hU⟩:∃ U:Int,wrap64 (wrap64 (R.tdiv B) - 1) = U:=⟨_,rfl⟩
  have hU2:U = (m:Int) / 4503599627370496 - 1:=by
    rw [← hU,hR,hB,Int.tdiv_eq_ediv_of_nonneg (by omega),wrapI (x:=(m:Int) / 4503599627370496) (by omega) (by omega),wrapI (by omega) (by omega)]
  by_cases cB:m < 4503599627370496
  · have u1:U < 0:=by omega
    have e1:((sgD m:Nat):Int) = R:=by rw [hR];unfold sgD sgG;(repeat' split) <;> omega
    have e2:epD m = -1074:=by unfold epD epG;(repeat' split) <;> omega
    have e3:IntKind.u64.wrap R = R:=by rw [hR,wrapU (by omega) (by omega)]
    have e4:wrap64 R = R:=by rw [hR,wrapI (by omega) (by omega)]
    have e5:IntKind.i64.wrap R = R:=by rw [IntWalk.i64_left];exact e4
    rw [e1,e2]
    by_cases cz:m = 0
    · have z1:(R != 0) = false:=by rw [hR];simp;omega
      have z2:(n && !(m == 0)) = false:=by simp [cz]
      rw [z2]
      clear hI hB hR hm hU2 cB e1 e2 z2 cz
      cases n
      · skip
        go_enter Tryz.func88,Tryz.ntmps88
        go_wp2_with (first | (go_at_call 121;refine (lay_d _).mono ?_;rintro e w' ⟨rfl,rfl⟩) | (go_at_call 124;refine (hpat _).mono ?_;rintro e w' ⟨rfl,rfl⟩) | (go_at_call 122;refine (hinf _).mono ?_;rintro e w' ⟨rfl,rfl⟩) | (go_at_call 125;refine (hful _).mono ?_;rintro e w' ⟨rfl,rfl⟩))
        refine wp_region_grow (by kernel_rfl) (by kernel_rfl) (fun ι _ G hG hall=>?_)
        have c0:∀ n,(G n).cell? ⟨w.heap.size + 1,0,none⟩ = some (.int .i64 53):=fun n=>gkeep (hG n) (by simp [go_sem,World.cell?_alloc_past])
        have c1:∀ n,(G n).cell? ⟨w.heap.size + 1,1,none⟩ = some (.int .i64 (-1074)):=fun n=>gkeep (hG n) (by simp [go_sem,World.cell?_alloc_past])
        have c2:∀ n,(G n).cell? ⟨w.heap.size + 1,2,none⟩ = some (.int .i64 971):=fun n=>gkeep (hG n) (by simp [go_sem,World.cell?_alloc_past])
        repeat (go_big_quiet_step (exact (hful _).mono (fun e w' h=>⟨h.1,hall _ (by rw [h.2];exact (hG _).alloc _ _)⟩)))
        refine wpQuiet_nil ?_
        rintro _ ⟨nq,rfl⟩
        have gq:=hG nq
        clear c0 c1 c2 hall
        go_wp2
        exact bodyPost_ret (v:=.tuple #[.bool false,.int .u64 R,.int .i64 (-1074),.bool true]) (by simp [results,Tryz.results88,go_sem] <;> simp only [*]) rfl ⟨rfl,(by repeat (with_reducible (first | assumption | exact Grown.refl _ | apply Grown.drew | apply Grown.alloc | apply gdrewN | (refine gtrans ?_ (by assumption)))))⟩
      · skip
        go_enter Tryz.func88,Tryz.ntmps88
        go_wp2_with (first | (go_at_call 121;refine (lay_d _).mono ?_;rintro e w' ⟨rfl,rfl⟩) | (go_at_call 124;refine (hpat _).mono ?_;rintro e w' ⟨rfl,rfl⟩) | (go_at_call 122;refine (hinf _).mono ?_;rintro e w' ⟨rfl,rfl⟩) | (go_at_call 125;refine (hful _).mono ?_;rintro e w' ⟨rfl,rfl⟩))
        refine wp_region_grow (by kernel_rfl) (by kernel_rfl) (fun ι _ G hG hall=>?_)
        have c0:∀ n,(G n).cell? ⟨w.heap.size + 1,0,none⟩ = some (.int .i64 53):=fun n=>gkeep (hG n) (by simp [go_sem,World.cell?_alloc_past])
        have c1:∀ n,(G n).cell? ⟨w.heap.size + 1,1,none⟩ = some (.int .i64 (-1074)):=fun n=>gkeep (hG n) (by simp [go_sem,World.cell?_alloc_past])
        have c2:∀ n,(G n).cell? ⟨w.heap.size + 1,2,none⟩ = some (.int .i64 971):=fun n=>gkeep (hG n) (by simp [go_sem,World.cell?_alloc_past])
        repeat (go_big_quiet_step (exact (hful _).mono (fun e w' h=>⟨h.1,hall _ (by rw [h.2];exact (hG _).alloc _ _)⟩)))
        refine wpQuiet_nil ?_
        rintro _ ⟨nq,rfl⟩
        have gq:=hG nq
        clear c0 c1 c2 hall
        go_wp2
        exact bodyPost_ret (v:=.tuple #[.bool false,.int .u64 R,.int .i64 (-1074),.bool true]) (by simp [results,Tryz.results88,go_sem] <;> simp only [*]) rfl ⟨rfl,(by repeat (with_reducible (first | assumption | exact Grown.refl _ | apply Grown.drew | apply Grown.alloc | apply gdrewN | (refine gtrans ?_ (by assumption)))))⟩
    · have z1:(R != 0) = true:=by rw [hR];simp;omega
      have z2:(n && !(m == 0)) = n:=by simp [cz]
      rw [z2]
      clear hI hB hR hm hU2 cB e1 e2 z2 cz
      cases n
      · skip
        go_enter Tryz.func88,Tryz.ntmps88
        go_wp2_with (first | (go_at_call 121;refine (lay_d _).mono ?_;rintro e w' ⟨rfl,rfl⟩) | (go_at_call 124;refine (hpat _).mono ?_;rintro e w' ⟨rfl,rfl⟩) | (go_at_call 122;refine (hinf _).mono ?_;rintro e w' ⟨rfl,rfl⟩) | (go_at_call 125;refine (hful _).mono ?_;rintro e w' ⟨rfl,rfl⟩))
        refine wp_region_grow (by kernel_rfl) (by kernel_rfl) (fun ι _ G hG hall=>?_)
        have c0:∀ n,(G n).cell? ⟨w.heap.size + 1,0,none⟩ = some (.int .i64 53):=fun n=>gkeep (hG n) (by simp [go_sem,World.cell?_alloc_past])
        have c1:∀ n,(G n).cell? ⟨w.heap.size + 1,1,none⟩ = some (.int .i64 (-1074)):=fun n=>gkeep (hG n) (by simp [go_sem,World.cell?_alloc_past])
        have c2:∀ n,(G n).cell? ⟨w.heap.size + 1,2,none⟩ = some (.int .i64 971):=fun n=>gkeep (hG n) (by simp [go_sem,World.cell?_alloc_past])
        repeat (go_big_quiet_step (exact (hful _).mono (fun e w' h=>⟨h.1,hall _ (by rw [h.2];exact (hG _).alloc _ _)⟩)))
        refine wpQuiet_nil ?_
        rintro _ ⟨nq,rfl⟩
        have gq:=hG nq
        clear c0 c1 c2 hall
        go_wp2
        exact bodyPost_ret (v:=.tuple #[.bool false,.int .u64 R,.int .i64 (-1074),.bool true]) (by simp [results,Tryz.results88,go_sem] <;> simp only [*]) rfl ⟨rfl,(by repeat (with_reducible (first | assumption | exact Grown.refl _ | apply Grown.drew | apply Grown.alloc | apply gdrewN | (refine gtrans ?_ (by assumption)))))⟩
      · skip
        go_enter Tryz.func88,Tryz.ntmps88
        go_wp2_with (first | (go_at_call 121;refine (lay_d _).mono ?_;rintro e w' ⟨rfl,rfl⟩) | (go_at_call 124;refine (hpat _).mono ?_;rintro e w' ⟨rfl,rfl⟩) | (go_at_call 122;refine (hinf _).mono ?_;rintro e w' ⟨rfl,rfl⟩) | (go_at_call 125;refine (hful _).mono ?_;rintro e w' ⟨rfl,rfl⟩))
        refine wp_region_grow (by kernel_rfl) (by kernel_rfl) (fun ι _ G hG hall=>?_)
        have c0:∀ n,(G n).cell? ⟨w.heap.size + 1,0,none⟩ = some (.int .i64 53):=fun n=>gkeep (hG n) (by simp [go_sem,World.cell?_alloc_past])
        have c1:∀ n,(G n).cell? ⟨w.heap.size + 1,1,none⟩ = some (.int .i64 (-1074)):=fun n=>gkeep (hG n) (by simp [go_sem,World.cell?_alloc_past])
        have c2:∀ n,(G n).cell? ⟨w.heap.size + 1,2,none⟩ = some (.int .i64 971):=fun n=>gkeep (hG n) (by simp [go_sem,World.cell?_alloc_past])
        repeat (go_big_quiet_step (exact (hful _).mono (fun e w' h=>⟨h.1,hall _ (by rw [h.2];exact (hG _).alloc _ _)⟩)))
        refine wpQuiet_nil ?_
        rintro _ ⟨nq,rfl⟩
        have gq:=hG nq
        clear c0 c1 c2 hall
        go_wp2
        exact bodyPost_ret (v:=.tuple #[.bool true,.int .u64 R,.int .i64 (-1074),.bool true]) (by simp [results,Tryz.results88,go_sem] <;> simp only [*]) rfl ⟨rfl,(by repeat (with_reducible (first | assumption | exact Grown.refl _ | apply Grown.drew | apply Grown.alloc | apply gdrewN | (refine gtrans ?_ (by assumption)))))⟩
  · have u1:¬ (U < 0):=by omega
    have e1:((sgD m:Nat):Int) = R - U * B:=by rw [hU2,hB,hR];unfold sgD sgG;(repeat' split) <;> omega
    have e2:epD m = -1074 + U:=by rw [hU2];unfold epD epG;(repeat' split) <;> omega
    have e3:IntKind.u64.wrap (wrap64 (R - wrap64 (U * B))) = R - U * B:=by
      rw [hU2,hB,hR,wrapI (x:=((m:Int) / 4503599627370496 - 1) * 4503599627370496) (by omega) (by omega),wrapI (by omega) (by omega),wrapU (by omega) (by omega)]
    have e4:wrap64 (-1074 + U) = -1074 + U:=by rw [wrapI (by omega) (by omega)]
    have e5:IntKind.u64.wrap (IntKind.i64.wrap (R - IntKind.i64.wrap (U * B))) = R - U * B:=by rw [IntWalk.i64_left,IntWalk.i64_left];exact e3
    have e6:IntKind.i64.wrap (-1074 + U) = -1074 + U:=by rw [IntWalk.i64_left];exact e4
    have e7:wrap64 U = U:=by rw [hU2,wrapI (by omega) (by omega)]
    have e8:IntKind.i64.wrap U = U:=by rw [IntWalk.i64_left];exact e7
    rw [e1,e2]
    have z1:(R != 0) = true:=by rw [hR];simp;omega
    have z2 : (n && !(m == 0)) = n := by have : ¬ m = 0 := by omega
                                         simp [this]
    rw [z2]
    clear hI hB hR hm hU2 cB e1 e2 z2
    cases n
    · skip
      go_enter Tryz.func88,Tryz.ntmps88
      go_wp2_with (first | (go_at_call 121;refine (lay_d _).mono ?_;rintro e w' ⟨rfl,rfl⟩) | (go_at_call 124;refine (hpat _).mono ?_;rintro e w' ⟨rfl,rfl⟩) | (go_at_call 122;refine (hinf _).mono ?_;rintro e w' ⟨rfl,rfl⟩) | (go_at_call 125;refine (hful _).mono ?_;rintro e w' ⟨rfl,rfl⟩))
      refine wp_region_grow (by kernel_rfl) (by kernel_rfl) (fun ι _ G hG hall=>?_)
      have c0:∀ n,(G n).cell? ⟨w.heap.size + 1,0,none⟩ = some (.int .i64 53):=fun n=>gkeep (hG n) (by simp [go_sem,World.cell?_alloc_past])
      have c1:∀ n,(G n).cell? ⟨w.heap.size + 1,1,none⟩ = some (.int .i64 (-1074)):=fun n=>gkeep (hG n) (by simp [go_sem,World.cell?_alloc_past])
      have c2:∀ n,(G n).cell? ⟨w.heap.size + 1,2,none⟩ = some (.int .i64 971):=fun n=>gkeep (hG n) (by simp [go_sem,World.cell?_alloc_past])
      repeat (go_big_quiet_step (exact (hful _).mono (fun e w' h=>⟨h.1,hall _ (by rw [h.2];exact (hG _).alloc _ _)⟩)))
      refine wpQuiet_nil ?_
      rintro _ ⟨nq,rfl⟩
      have gq:=hG nq
      clear c0 c1 c2 hall
      go_wp2
      exact bodyPost_ret (v:=.tuple #[.bool false,.int .u64 (R - U * B),.int .i64 (-1074 + U),.bool true]) (by simp [results,Tryz.results88,go_sem] <;> simp only [*]) rfl ⟨rfl,(by repeat (with_reducible (first | assumption | exact Grown.refl _ | apply Grown.drew | apply Grown.alloc | apply gdrewN | (refine gtrans ?_ (by assumption)))))⟩
    · skip
      go_enter Tryz.func88,Tryz.ntmps88
      go_wp2_with (first | (go_at_call 121;refine (lay_d _).mono ?_;rintro e w' ⟨rfl,rfl⟩) | (go_at_call 124;refine (hpat _).mono ?_;rintro e w' ⟨rfl,rfl⟩) | (go_at_call 122;refine (hinf _).mono ?_;rintro e w' ⟨rfl,rfl⟩) | (go_at_call 125;refine (hful _).mono ?_;rintro e w' ⟨rfl,rfl⟩))
      refine wp_region_grow (by kernel_rfl) (by kernel_rfl) (fun ι _ G hG hall=>?_)
      have c0:∀ n,(G n).cell? ⟨w.heap.size + 1,0,none⟩ = some (.int .i64 53):=fun n=>gkeep (hG n) (by simp [go_sem,World.cell?_alloc_past])
      have c1:∀ n,(G n).cell? ⟨w.heap.size + 1,1,none⟩ = some (.int .i64 (-1074)):=fun n=>gkeep (hG n) (by simp [go_sem,World.cell?_alloc_past])
      have c2:∀ n,(G n).cell? ⟨w.heap.size + 1,2,none⟩ = some (.int .i64 971):=fun n=>gkeep (hG n) (by simp [go_sem,World.cell?_alloc_past])
      repeat (go_big_quiet_step (exact (hful _).mono (fun e w' h=>⟨h.1,hall _ (by rw [h.2];exact (hG _).alloc _ _)⟩)))
      refine wpQuiet_nil ?_
      rintro _ ⟨nq,rfl⟩
      have gq:=hG nq
      clear c0 c1 c2 hall
      go_wp2
      exact bodyPost_ret (v:=.tuple #[.bool true,.int .u64 (R - U * B),.int .i64 (-1074 + U),.bool true]) (by simp [results,Tryz.results88,go_sem] <;> simp only [*]) rfl ⟨rfl,(by repeat (with_reducible (first | assumption | exact Grown.refl _ | apply Grown.drew | apply Grown.alloc | apply gdrewN | (refine gtrans ?_ (by assumption)))))⟩

end Fq
end Go.Proofs.YtinohggonicjhaaGreatDoor
