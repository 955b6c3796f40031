import Derived.Test.YtinohggonicjhaaGreatDoorKQA
import Derived.Laws.Bits64b
import Derived.Laws.Slices
set_option maxHeartbeats 1000000
set_option maxRecDepth 20000
namespace Go.Proofs.YtinohggonicjhaaGreatDoor
open Go.RowKit
namespace Fq

def kyN (x:Nat):Nat:=if 9223372036854775808≤pla x then 18446744073709551615 - pla x else pla x + 9223372036854775808
theorem kyN_w (n:Bool) (m:Nat) (h:m≤9218868437227405312):(kyN (wD n m):Int) = if plz n m < 0 then 9223372036854775807 + plz n m else 9223372036854775808 + plz n m:=by
  unfold kyN pla wD plz
  cases n <;> simp <;> repeat' split
  all_goals omega
theorem kyN_lt (n n':Bool) (m m':Nat) (h:m≤9218868437227405312) (h':m'≤9218868437227405312):kyN (wD n m) < kyN (wD n' m') ↔ plz n m < plz n' m':=by
  have e1:=kyN_w n m h
  have e2:=kyN_w n' m' h'
  have:(kyN (wD n m) < kyN (wD n' m')) ↔ ((kyN (wD n m):Int) < kyN (wD n' m')):=by omega
  rw [this,e1,e2]
  repeat' split
  all_goals omega
end Fq
namespace Fq
theorem Grown.setCell {W w':World} (h:Grown W w') {a:Addr} (ha:W.heap.size≤a.block) (v:Value):Grown W (w'.setCell a v):=Below.setCell h ha v
@[go_sem] theorem run_store_float6 (P:Program) (w:World) (a:Addr) (m:Mode) (k:FloatKind) (x:Nat):(store a (.float k x) m).run P w = stored P w a (.float k x) m:=run_store P w a _ m rfl
theorem inf1_ (w:World):Calls Tryz.prog 32 #[.int .i64 1] w fun e w'=>e = .returned (.float .f64 9218868437227405312)∧w' = w:=by
  have hf:∀ w:World,(callFunc 22 #[.int .u64 9218868437227405312]).run Tryz.prog w = .ok (.value (.float .f64 9218868437227405312)) w:=ff64 9218868437227405312
  go_enter Tryz.func32,Tryz.ntmps32
  go_wp2_with (first | (simp only [hf]))
  exact bodyPost_ret (v:=.float .f64 9218868437227405312) (by simp [results,Tryz.results32,go_sem] <;> simp only [*]) rfl ⟨rfl,rfl⟩
theorem infm_ (w:World):Calls Tryz.prog 32 #[.int .i64 (-1)] w fun e w'=>e = .returned (.float .f64 18442240474082181120)∧w' = w:=by
  have hf:∀ w:World,(callFunc 22 #[.int .u64 18442240474082181120]).run Tryz.prog w = .ok (.value (.float .f64 18442240474082181120)) w:=ff64 18442240474082181120
  go_enter Tryz.func32,Tryz.ntmps32
  go_wp2_with (first | (simp only [hf]))
  exact bodyPost_ret (v:=.float .f64 18442240474082181120) (by simp [results,Tryz.results32,go_sem] <;> simp only [*]) rfl ⟨rfl,rfl⟩
theorem plain6_ (x:Nat) (h:x < 18446744073709551616) (w:World):Calls Tryz.prog 33 #[.float .f64 x] w fun e w'=>e = .returned (.float .f64 (pla x))∧w' = w:=by
  have t:=feq0 x h
  by_cases c:x = 0∨x = 9223372036854775808
  · rw [decide_eq_true c] at t
    have e:pla x = 0:=by unfold pla;split <;> omega
    rw [e];clear c e h
    go_enter Tryz.func33,Tryz.ntmps33
    go_wp2
    exact bodyPost_ret (v:=.float .f64 0) (by simp [results,Tryz.results33,go_sem] <;> simp only [*]) rfl ⟨rfl,rfl⟩
  · rw [decide_eq_false c] at t
    have e:pla x = x:=by unfold pla;rw [if_neg (by omega)]
    rw [e];clear c e h
    go_enter Tryz.func33,Tryz.ntmps33
    go_wp2
    exact bodyPost_ret (v:=.float .f64 x) (by simp [results,Tryz.results33,go_sem] <;> simp only [*]) rfl ⟨rfl,rfl⟩
theorem empty6_ (w:World):Calls Tryz.prog 17 #[] w fun e w'=>e = .returned (.agg #[.float .f64 9218868437227405312,.float .f64 18442240474082181120])∧w' = w.alloc (.cells #[.float .f64 9218868437227405312,.float .f64 18442240474082181120] 28):=by
  go_enter Tryz.func17,Tryz.ntmps17
  go_wp2_with (go_at_call 32;(first | refine (inf1_ _).mono ?_ | refine (infm_ _).mono ?_);rintro e w' ⟨rfl,rfl⟩)
  exact bodyPost_ret (v:=.agg #[.float .f64 9218868437227405312,.float .f64 18442240474082181120]) (by simp [results,Tryz.results17,go_sem] <;> simp only [*]) rfl ⟨rfl,rfl⟩
theorem entire6_ (w:World):Calls Tryz.prog 34 #[] w fun e w'=>e = .returned (.agg #[.float .f64 18442240474082181120,.float .f64 9218868437227405312])∧w' = w.alloc (.cells #[.float .f64 18442240474082181120,.float .f64 9218868437227405312] 28):=by
  go_enter Tryz.func34,Tryz.ntmps34
  go_wp2_with (go_at_call 32;(first | refine (inf1_ _).mono ?_ | refine (infm_ _).mono ?_);rintro e w' ⟨rfl,rfl⟩)
  exact bodyPost_ret (v:=.agg #[.float .f64 18442240474082181120,.float .f64 9218868437227405312]) (by simp [results,Tryz.results34,go_sem] <;> simp only [*]) rfl ⟨rfl,rfl⟩
end Fq
namespace Fq
theorem read_ (a b:Nat) (ha:a < 18446744073709551616) (hb:b < 18446744073709551616) (w:World):Calls Tryz.prog 15 #[.agg #[.float .f64 a,.float .f64 b]] w fun e w'=>e = .returned (.agg #[.float .f64 (rlo a b),.float .f64 (rhi a b)])∧Grown w w':=by
  have t2:=feqI a ha
  have t3:=feqM b hb
  have hpa:=plain6_ a ha
  have hpb:=plain6_ b hb
  by_cases h1:(FloatKind.f64.format.order a b == some Ordering.lt || FloatKind.f64.format.order a b == some Ordering.eq) = true
  · by_cases h2:a = 9218868437227405312
    · have es:snd a b = false:=by simp [snd,h2]
      rw [decide_eq_true h2] at t2
      rw [show rlo a b = 9218868437227405312 from by simp [rlo,es],show rhi a b = 18442240474082181120 from by simp [rhi,es]]
      clear h2 es ha hb
      go_enter Tryz.func15,Tryz.ntmps15
      go_wp2
      go_quiet ((go_at_call 32;first | exact Calls.quiet_of_same (inf1_ _) | exact Calls.quiet_of_same (infm_ _)))
      go_wp2_with (first | (go_at_call 17;refine (empty6_ _).mono ?_;rintro e w' ⟨rfl,rfl⟩))
      exact bodyPost_ret (v:=.agg #[.float .f64 9218868437227405312,.float .f64 18442240474082181120]) (by simp [results,Tryz.results15,go_sem] <;> simp only [*]) rfl ⟨rfl,(by repeat (with_reducible (first | assumption | exact Grown.refl _ | apply Grown.drew | apply Grown.alloc | apply gdrewN | (refine Grown.setCell ?_ (by simp <;> omega) _) | (refine gtrans ?_ (by assumption)))))⟩
    · rw [decide_eq_false h2] at t2
      by_cases h3:b = 18442240474082181120
      · have es:snd a b = false:=by simp [snd,h3]
        rw [decide_eq_true h3] at t3
        rw [show rlo a b = 9218868437227405312 from by simp [rlo,es],show rhi a b = 18442240474082181120 from by simp [rhi,es]]
        clear h2 h3 es ha hb
        go_enter Tryz.func15,Tryz.ntmps15
        go_wp2
        go_quiet ((go_at_call 32;first | exact Calls.quiet_of_same (inf1_ _) | exact Calls.quiet_of_same (infm_ _)))
        go_wp2_with (first | (go_at_call 17;refine (empty6_ _).mono ?_;rintro e w' ⟨rfl,rfl⟩))
        exact bodyPost_ret (v:=.agg #[.float .f64 9218868437227405312,.float .f64 18442240474082181120]) (by simp [results,Tryz.results15,go_sem] <;> simp only [*]) rfl ⟨rfl,(by repeat (with_reducible (first | assumption | exact Grown.refl _ | apply Grown.drew | apply Grown.alloc | apply gdrewN | (refine Grown.setCell ?_ (by simp <;> omega) _) | (refine gtrans ?_ (by assumption)))))⟩
      · have es:snd a b = true:=by simp only [snd,h1,h2,h3];simp
        rw [decide_eq_false h3] at t3
        rw [show rlo a b = pla a from by simp [rlo,es],show rhi a b = pla b from by simp [rhi,es]]
        clear h2 h3 es ha hb
        go_enter Tryz.func15,Tryz.ntmps15
        go_wp2
        go_quiet ((go_at_call 32;first | exact Calls.quiet_of_same (inf1_ _) | exact Calls.quiet_of_same (infm_ _)))
        go_wp2
        go_region_held3 (fun w'=>w'.cell? ⟨w.heap.size,0,none⟩ = some (.float .f64 a)∧w'.cell? ⟨w.heap.size,1,none⟩ = some (.float .f64 b)) (simp [go_sem,World.cell?_alloc_past]) (first | (go_at_call 33;(first | refine (hpa _).mono ?_ | refine (hpb _).mono ?_);rintro e w' ⟨rfl,rfl⟩))
        go_wp2
        exact bodyPost_ret (v:=.agg #[.float .f64 (pla a),.float .f64 (pla b)]) (by simp [results,Tryz.results15,go_sem] <;> simp only [*]) rfl ⟨rfl,(by repeat (with_reducible (first | assumption | exact Grown.refl _ | apply Grown.drew | apply Grown.alloc | apply gdrewN | (refine Grown.setCell ?_ (by simp <;> omega) _) | (refine gtrans ?_ (by assumption)))))⟩
  · have h1':(FloatKind.f64.format.order a b == some Ordering.lt || FloatKind.f64.format.order a b == some Ordering.eq) = false:=by simpa using h1
    have es:snd a b = false:=by simp only [snd,h1'];simp
    rw [show rlo a b = 9218868437227405312 from by simp [rlo,es],show rhi a b = 18442240474082181120 from by simp [rhi,es]]
    clear h1 es ha hb t2 t3
    go_enter Tryz.func15,Tryz.ntmps15
    go_wp2
    go_quiet ((go_at_call 32;first | exact Calls.quiet_of_same (inf1_ _) | exact Calls.quiet_of_same (infm_ _)))
    go_wp2_with (first | (go_at_call 17;refine (empty6_ _).mono ?_;rintro e w' ⟨rfl,rfl⟩))
    exact bodyPost_ret (v:=.agg #[.float .f64 9218868437227405312,.float .f64 18442240474082181120]) (by simp [results,Tryz.results15,go_sem] <;> simp only [*]) rfl ⟨rfl,(by repeat (with_reducible (first | assumption | exact Grown.refl _ | apply Grown.drew | apply Grown.alloc | apply gdrewN | (refine Grown.setCell ?_ (by simp <;> omega) _) | (refine gtrans ?_ (by assumption)))))⟩
end Fq
namespace Fq
theorem eqIn6 (a c:Nat) (w:World):(Op.equalIn 9999 26 (.float .f64 a) (.float .f64 c)).run Tryz.prog w = .ok (FloatKind.f64.format.order a c == some Ordering.eq) w:=by kernel_rfl
theorem void_ (a b:Nat) (ha:a < 18446744073709551616) (hb:b < 18446744073709551616) (w:World):Calls Tryz.prog 16 #[.agg #[.float .f64 a,.float .f64 b]] w fun e w'=>e = .returned (.bool (decide (a = 9218868437227405312∧b = 18442240474082181120)))∧Grown w w':=by
  have t2:=feqI a ha
  have t3:=feqM b hb
  have e1:(decide (a = 9218868437227405312∧b = 18442240474082181120)) = ((FloatKind.f64.format.order a 9218868437227405312 == some Ordering.eq) && (FloatKind.f64.format.order b 18442240474082181120 == some Ordering.eq)):=by
    rw [t2,t3];by_cases c1:a = 9218868437227405312 <;> by_cases c2:b = 18442240474082181120 <;> simp [c1,c2]
  rw [e1]
  clear e1 t2 t3 ha hb
  have h0:=eqIn6 a 9218868437227405312
  have h1:=eqIn6 b 18442240474082181120
  generalize g1:(FloatKind.f64.format.order a 9218868437227405312 == some Ordering.eq) = B1 at h0 ⊢
  generalize g2:(FloatKind.f64.format.order b 18442240474082181120 == some Ordering.eq) = B2 at h1 ⊢
  cases B1 <;> cases B2
  · go_enter Tryz.func16,Tryz.ntmps16
    go_wp2
    go_region_held3 (fun w'=>w'.cell? ⟨w.heap.size,0,none⟩ = some (.float .f64 a)∧w'.cell? ⟨w.heap.size,1,none⟩ = some (.float .f64 b)) (simp [go_sem,World.cell?_alloc_past]) (first | (go_at_call 17;refine (empty6_ _).mono ?_;rintro e w' ⟨rfl,rfl⟩))
    go_wp2
    exact bodyPost_ret (v:=.bool false) (by simp [results,Tryz.results16,go_sem] <;> simp only [*]) rfl ⟨rfl,(by repeat (with_reducible (first | assumption | exact Grown.refl _ | apply Grown.drew | apply Grown.alloc | apply gdrewN | (refine Grown.setCell ?_ (by simp <;> omega) _) | (refine gtrans ?_ (by assumption)))))⟩
  · go_enter Tryz.func16,Tryz.ntmps16
    go_wp2
    go_region_held3 (fun w'=>w'.cell? ⟨w.heap.size,0,none⟩ = some (.float .f64 a)∧w'.cell? ⟨w.heap.size,1,none⟩ = some (.float .f64 b)) (simp [go_sem,World.cell?_alloc_past]) (first | (go_at_call 17;refine (empty6_ _).mono ?_;rintro e w' ⟨rfl,rfl⟩))
    go_wp2
    exact bodyPost_ret (v:=.bool false) (by simp [results,Tryz.results16,go_sem] <;> simp only [*]) rfl ⟨rfl,(by repeat (with_reducible (first | assumption | exact Grown.refl _ | apply Grown.drew | apply Grown.alloc | apply gdrewN | (refine Grown.setCell ?_ (by simp <;> omega) _) | (refine gtrans ?_ (by assumption)))))⟩
  · go_enter Tryz.func16,Tryz.ntmps16
    go_wp2
    go_region_held3 (fun w'=>w'.cell? ⟨w.heap.size,0,none⟩ = some (.float .f64 a)∧w'.cell? ⟨w.heap.size,1,none⟩ = some (.float .f64 b)) (simp [go_sem,World.cell?_alloc_past]) (first | (go_at_call 17;refine (empty6_ _).mono ?_;rintro e w' ⟨rfl,rfl⟩))
    go_wp2
    exact bodyPost_ret (v:=.bool false) (by simp [results,Tryz.results16,go_sem] <;> simp only [*]) rfl ⟨rfl,(by repeat (with_reducible (first | assumption | exact Grown.refl _ | apply Grown.drew | apply Grown.alloc | apply gdrewN | (refine Grown.setCell ?_ (by simp <;> omega) _) | (refine gtrans ?_ (by assumption)))))⟩
  · go_enter Tryz.func16,Tryz.ntmps16
    go_wp2
    go_region_held3 (fun w'=>w'.cell? ⟨w.heap.size,0,none⟩ = some (.float .f64 a)∧w'.cell? ⟨w.heap.size,1,none⟩ = some (.float .f64 b)) (simp [go_sem,World.cell?_alloc_past]) (first | (go_at_call 17;refine (empty6_ _).mono ?_;rintro e w' ⟨rfl,rfl⟩))
    go_wp2
    exact bodyPost_ret (v:=.bool true) (by simp [results,Tryz.results16,go_sem] <;> simp only [*]) rfl ⟨rfl,(by repeat (with_reducible (first | assumption | exact Grown.refl _ | apply Grown.drew | apply Grown.alloc | apply gdrewN | (refine Grown.setCell ?_ (by simp <;> omega) _) | (refine gtrans ?_ (by assumption)))))⟩
end Fq
namespace Fq
theorem place_d (n:Bool) (m:Nat) (hm:m≤9218868437227405312) (w:World):Calls Tryz.prog 120 #[.float .f64 (wD n m)] w fun e w'=>e = .returned (.tuple #[.int .i64 (plz n m),.bool true])∧Grown w w':=by
  have hpat:=patt_d n m (by omega)
  obtain ⟨I,hI⟩:∃ I:Int,I = 9218868437227405312:=⟨_,rfl⟩
  have hinf:∀ w:World,Calls Tryz.prog 122 #[.agg #[.int .i64 53,.int .i64 (-1074),.int .i64 971]] w fun e w'=>e = .returned (.int .i64 I)∧w' = ((w.alloc (.cells #[.int .i64 53,.int .i64 (-1074),.int .i64 971] 121)).alloc (.cells #[.int .i64 53,.int .i64 (-1074),.int .i64 971] 121)).drew:=by rw [hI];exact infi_D
  have d1:¬ (I < (m:Int)):=by omega
  have d2:wrap64 (-(m:Int)) = -(m:Int):=by unfold wrap64;omega
  clear hI hm
  cases n
  · have ec:plz false m = (m:Int):=rfl
    rw [ec]
    clear ec d2
    go_enter Tryz.func120,Tryz.ntmps120
    go_wp2_with (first | (go_at_call 121;refine (lay_d _).mono ?_;rintro e w' ⟨rfl,rfl⟩) | (go_at_call 124;refine (hpat _).mono ?_;rintro e w' ⟨rfl,rfl⟩) | (go_at_call 122;refine (hinf _).mono ?_;rintro e w' ⟨rfl,rfl⟩))
    exact bodyPost_ret (v:=.tuple #[.int .i64 (m:Int),.bool true]) (by simp [results,Tryz.results120,go_sem] <;> simp only [*]) rfl ⟨rfl,(by repeat (with_reducible (first | assumption | exact Grown.refl _ | apply Grown.drew | apply Grown.alloc | apply gdrewN | (refine gtrans ?_ (by assumption)))))⟩
  · have ec:plz true m = -(m:Int):=rfl
    rw [ec]
    clear ec
    go_enter Tryz.func120,Tryz.ntmps120
    go_wp2_with (first | (go_at_call 121;refine (lay_d _).mono ?_;rintro e w' ⟨rfl,rfl⟩) | (go_at_call 124;refine (hpat _).mono ?_;rintro e w' ⟨rfl,rfl⟩) | (go_at_call 122;refine (hinf _).mono ?_;rintro e w' ⟨rfl,rfl⟩))
    exact bodyPost_ret (v:=.tuple #[.int .i64 (-(m:Int)),.bool true]) (by simp [results,Tryz.results120,go_sem] <;> simp only [*]) rfl ⟨rfl,(by repeat (with_reducible (first | assumption | exact Grown.refl _ | apply Grown.drew | apply Grown.alloc | apply gdrewN | (refine gtrans ?_ (by assumption)))))⟩

theorem at_d (p:Int) (h1:-9218868437227405312≤p) (h2:p≤9218868437227405312) (w:World):Calls Tryz.prog 123 #[.int .i64 p] w fun e w'=>e = .returned (.tuple #[.float .f64 (fD p),.bool true])∧Grown w w':=by
  obtain ⟨I,hI⟩:∃ I:Int,I = 9218868437227405312:=⟨_,rfl⟩
  have hinf:∀ w:World,Calls Tryz.prog 122 #[.agg #[.int .i64 53,.int .i64 (-1074),.int .i64 971]] w fun e w'=>e = .returned (.int .i64 I)∧w' = ((w.alloc (.cells #[.int .i64 53,.int .i64 (-1074),.int .i64 971] 121)).alloc (.cells #[.int .i64 53,.int .i64 (-1074),.int .i64 971] 121)).drew:=by rw [hI];exact infi_D
  have d1:¬ (p < -I):=by omega
  have d2:¬ (I < p):=by omega
  have d0:wrap64 (-I) = -I:=by unfold wrap64;omega
  by_cases c:p < 0
  · have ef:fD p = wD true p.natAbs:=by unfold fD;simp [c]
    rw [ef]
    have e2:wrap64 (-p) = ((p.natAbs:Nat):Int):=by unfold wrap64;omega
    have hfr:=from_d p.natAbs (by omega)
    obtain ⟨a,ha⟩:∃ a:Nat,a = p.natAbs:=⟨_,rfl⟩
    rw [← ha] at e2 hfr ⊢
    have hng:Op.unary .neg (.float .f64 (wD false a)) = pure (.float .f64 (wD true a)):=by
      show pure (Value.float .f64 (Op.negFloat .f64 (wD false a))) = _
      rw [negD false a (by omega)];rfl
    clear hI h1 h2 ef ha
    go_enter Tryz.func123,Tryz.ntmps123
    go_wp2_with (first | (go_at_call 121;refine (lay_d _).mono ?_;rintro e w' ⟨rfl,rfl⟩) | (go_at_call 150;refine (hfr _).mono ?_;rintro e w' ⟨rfl,rfl⟩) | (go_at_call 122;refine (hinf _).mono ?_;rintro e w' ⟨rfl,rfl⟩))
    exact bodyPost_ret (v:=.tuple #[.float .f64 (wD true a),.bool true]) (by simp [results,Tryz.results123,go_sem] <;> simp only [*]) rfl ⟨rfl,(by repeat (with_reducible (first | assumption | exact Grown.refl _ | apply Grown.drew | apply Grown.alloc | apply gdrewN | (refine gtrans ?_ (by assumption)))))⟩
  · have ef:fD p = wD false p.natAbs:=by unfold fD;simp [c]
    rw [ef]
    have e2:p = ((p.natAbs:Nat):Int):=by omega
    have hfr:∀ w:World,Calls Tryz.prog 150 #[.int .i64 p] w fun e w'=>e = .returned (.float .f64 (wD false p.natAbs))∧w' = w:=by
      have:=from_d p.natAbs (by omega)
      rw [← e2] at this;exact this
    obtain ⟨a,ha⟩:∃ a:Nat,a = p.natAbs:=⟨_,rfl⟩
    rw [← ha] at hfr ⊢
    clear hI h1 h2 ef ha e2
    go_enter Tryz.func123,Tryz.ntmps123
    go_wp2_with (first | (go_at_call 121;refine (lay_d _).mono ?_;rintro e w' ⟨rfl,rfl⟩) | (go_at_call 150;refine (hfr _).mono ?_;rintro e w' ⟨rfl,rfl⟩) | (go_at_call 122;refine (hinf _).mono ?_;rintro e w' ⟨rfl,rfl⟩))
    exact bodyPost_ret (v:=.tuple #[.float .f64 (wD false a),.bool true]) (by simp [results,Tryz.results123,go_sem] <;> simp only [*]) rfl ⟨rfl,(by repeat (with_reducible (first | assumption | exact Grown.refl _ | apply Grown.drew | apply Grown.alloc | apply gdrewN | (refine gtrans ?_ (by assumption)))))⟩

theorem up_d (n:Bool) (m:Nat) (hm:m≤9218868437227405312) (h2:plz n m≠9218868437227405312) (w:World):Calls Tryz.prog 84 #[.float .f64 (wD n m)] w fun e w'=>e = .returned (.float .f64 (fD (plz n m + 1)))∧Grown w w':=by
  have hpl:=place_d n m hm
  obtain ⟨I,hI⟩:∃ I:Int,I = 9218868437227405312:=⟨_,rfl⟩
  have hinf:∀ w:World,Calls Tryz.prog 122 #[.agg #[.int .i64 53,.int .i64 (-1074),.int .i64 971]] w fun e w'=>e = .returned (.int .i64 I)∧w' = ((w.alloc (.cells #[.int .i64 53,.int .i64 (-1074),.int .i64 971] 121)).alloc (.cells #[.int .i64 53,.int .i64 (-1074),.int .i64 971] 121)).drew:=by rw [hI];exact infi_D
  have hb:=plz_bd n m
  obtain ⟨p,hp⟩:∃ p:Int,p = plz n m:=⟨_,rfl⟩
  rw [← hp] at hpl h2 hb ⊢
  have hat:=at_d (p + 1) (by omega) (by omega)
  have d1:(p == I) = false:=by simp;omega
  have d2:wrap64 (p + 1) = p + 1:=by unfold wrap64;omega
  have d3:¬ (p = I):=by omega
  clear hI hm h2 hb hp
  go_enter Tryz.func84,Tryz.ntmps84
  go_wp2_with (first | (go_at_call 121;refine (lay_d _).mono ?_;rintro e w' ⟨rfl,rfl⟩) | (go_at_call 122;refine (hinf _).mono ?_;rintro e w' ⟨rfl,rfl⟩) | (go_at_call 120;refine (hpl _).mono ?_;rintro e w' ⟨rfl,g1⟩) | (go_at_call 123;refine (hat _).mono ?_;rintro e w' ⟨rfl,g2⟩))
  exact bodyPost_ret (v:=.float .f64 (fD (p + 1))) (by simp [results,Tryz.results84,go_sem] <;> simp only [*]) rfl ⟨rfl,(by repeat (with_reducible (first | assumption | exact Grown.refl _ | apply Grown.drew | apply Grown.alloc | apply gdrewN | (refine gtrans ?_ (by assumption)))))⟩

theorem dn_d (n:Bool) (m:Nat) (hm:m≤9218868437227405312) (h2:plz n m≠-9218868437227405312) (w:World):Calls Tryz.prog 83 #[.float .f64 (wD n m)] w fun e w'=>e = .returned (.float .f64 (fD (plz n m - 1)))∧Grown w w':=by
  have hpl:=place_d n m hm
  obtain ⟨I,hI⟩:∃ I:Int,I = 9218868437227405312:=⟨_,rfl⟩
  have hinf:∀ w:World,Calls Tryz.prog 122 #[.agg #[.int .i64 53,.int .i64 (-1074),.int .i64 971]] w fun e w'=>e = .returned (.int .i64 I)∧w' = ((w.alloc (.cells #[.int .i64 53,.int .i64 (-1074),.int .i64 971] 121)).alloc (.cells #[.int .i64 53,.int .i64 (-1074),.int .i64 971] 121)).drew:=by rw [hI];exact infi_D
  have hb:=plz_bd n m
  obtain ⟨p,hp⟩:∃ p:Int,p = plz n m:=⟨_,rfl⟩
  rw [← hp] at hpl h2 hb ⊢
  have hat:=at_d (p - 1) (by omega) (by omega)
  have d1:(p == -I) = false:=by simp;omega
  have d2:wrap64 (p - 1) = p - 1:=by unfold wrap64;omega
  have d0:wrap64 (-I) = -I:=by unfold wrap64;omega
  have d3:¬ (p = -I):=by omega
  clear hI hm h2 hb hp
  go_enter Tryz.func83,Tryz.ntmps83
  go_wp2_with (first | (go_at_call 121;refine (lay_d _).mono ?_;rintro e w' ⟨rfl,rfl⟩) | (go_at_call 122;refine (hinf _).mono ?_;rintro e w' ⟨rfl,rfl⟩) | (go_at_call 120;refine (hpl _).mono ?_;rintro e w' ⟨rfl,g1⟩) | (go_at_call 123;refine (hat _).mono ?_;rintro e w' ⟨rfl,g2⟩))
  exact bodyPost_ret (v:=.float .f64 (fD (p - 1))) (by simp [results,Tryz.results83,go_sem] <;> simp only [*]) rfl ⟨rfl,(by repeat (with_reducible (first | assumption | exact Grown.refl _ | apply Grown.drew | apply Grown.alloc | apply gdrewN | (refine gtrans ?_ (by assumption)))))⟩

theorem plain_d (n:Bool) (m:Nat) (h2:m < 9223372036854775808) (w:World):Calls Tryz.prog 61 #[.float .f64 (wD n m)] w fun e w'=>e = .returned (.float .f64 (wD (n && !(m == 0)) m))∧w' = w:=by
  have ho:=eqzD n m h2
  by_cases c:m = 0
  · subst c
    have ew:wD (n && !((0:Nat) == 0)) 0 = 0:=by simp [wD]
    rw [ew]
    clear ew
    have ho2:(FloatKind.f64.format.order (wD n 0) 0 == some .eq) = true:=by rw [ho];rfl
    clear ho
    go_enter Tryz.func61,Tryz.ntmps61
    go_wp2
    exact bodyPost_ret (v:=.float .f64 0) (by simp [results,Tryz.results61,go_sem] <;> simp only [*]) rfl ⟨rfl,rfl⟩
  · have ew:(n && !(m == 0)) = n:=by simp [c]
    rw [ew]
    clear ew
    have ho2:(FloatKind.f64.format.order (wD n m) 0 == some .eq) = false:=by rw [ho];simp [c]
    clear ho c
    go_enter Tryz.func61,Tryz.ntmps61
    go_wp2
    exact bodyPost_ret (v:=.float .f64 (wD n m)) (by simp [results,Tryz.results61,go_sem] <;> simp only [*]) rfl ⟨rfl,rfl⟩

end Fq
end Go.Proofs.YtinohggonicjhaaGreatDoor
