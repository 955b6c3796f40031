import Derived.Test.YtmpjcknaelgnoaaGreatDoorKMR30
set_option maxHeartbeats 1000000
set_option maxRecDepth 20000
namespace Go.Proofs.YtmpjcknaelgnoaaGreatDoor
open Go.RowKit
namespace Fq
theorem Grown.setCell {W w':World} (h:Grown W w') {a:Addr} (ha:W.heap.size≤a.block) (v:Value):Grown W (w'.setCell a v):=Below.setCell h ha v
@[go_sem] theorem run_store_float6 (P:Program) (w:World) (a:Addr) (m:Mode) (k:FloatKind) (x:Nat):(store a (.float k x) m).run P w=stored P w a (.float k x) m:=run_store P w a _ m rfl
theorem inf1_ (w:World):Calls Tryz.prog 68 #[.int .i64 1] w fun e w'=>e=.returned (.float .f64 9218868437227405312)∧w'=w:=by
 have hf:∀ w:World,(callFunc 36 #[.int .u64 9218868437227405312]).run Tryz.prog w=.ok (.value (.float .f64 9218868437227405312)) w:=ff64 9218868437227405312
 go_enter Tryz.func68,Tryz.ntmps68
 go_wp2_with (first | (simp only [hf]))
 exact BR (v:=.float .f64 9218868437227405312) (by simp [results,Tryz.results68,go_sem] <;> simp only [*]) rfl ⟨rfl,rfl⟩
theorem infm_ (w:World):Calls Tryz.prog 68 #[.int .i64 (-1)] w fun e w'=>e=.returned (.float .f64 18442240474082181120)∧w'=w:=by
 have hf:∀ w:World,(callFunc 36 #[.int .u64 18442240474082181120]).run Tryz.prog w=.ok (.value (.float .f64 18442240474082181120)) w:=ff64 18442240474082181120
 go_enter Tryz.func68,Tryz.ntmps68
 go_wp2_with (first | (simp only [hf]))
 exact BR (v:=.float .f64 18442240474082181120) (by simp [results,Tryz.results68,go_sem] <;> simp only [*]) rfl ⟨rfl,rfl⟩
theorem plain6_ (x:Nat) (h:x<18446744073709551616) (w:World):Calls Tryz.prog 94 #[.float .f64 x] w fun e w'=>e=.returned (.float .f64 (pla x))∧w'=w:=by
 have t:=feq0 x h
 by_cases c:x=0∨x=9223372036854775808
 ·rw [decide_eq_true c] at t
  have e:pla x=0:=by unfold pla;split <;> omega
  rw [e];clear c e h
  go_enter Tryz.func94,Tryz.ntmps94
  go_wp2
  exact BR (v:=.float .f64 0) (by simp [results,Tryz.results94,go_sem] <;> simp only [*]) rfl ⟨rfl,rfl⟩
 ·rw [decide_eq_false c] at t
  have e:pla x=x:=by unfold pla;rw [if_neg (by omega)]
  rw [e];clear c e h
  go_enter Tryz.func94,Tryz.ntmps94
  go_wp2
  exact BR (v:=.float .f64 x) (by simp [results,Tryz.results94,go_sem] <;> simp only [*]) rfl ⟨rfl,rfl⟩
theorem empty6_ (w:World):Calls Tryz.prog 89 #[] w fun e w'=>e=.returned (.agg #[.float .f64 9218868437227405312,.float .f64 18442240474082181120])∧w'=w.alloc (.cells #[.float .f64 9218868437227405312,.float .f64 18442240474082181120] 29):=by
 go_enter Tryz.func89,Tryz.ntmps89
 go_wp2_with (go_at_call 68;(first | refine (inf1_ _).mono ?_ | refine (infm_ _).mono ?_);rintro e w' ⟨rfl,rfl⟩)
 exact BR (v:=.agg #[.float .f64 9218868437227405312,.float .f64 18442240474082181120]) (by simp [results,Tryz.results89,go_sem] <;> simp only [*]) rfl ⟨rfl,rfl⟩
end Fq
namespace Fq
theorem read_ (a b:Nat) (ha:a<18446744073709551616) (hb:b<18446744073709551616) (w:World):Calls Tryz.prog 38 #[.agg #[.float .f64 a,.float .f64 b]] w fun e w'=>e=.returned (.agg #[.float .f64 (rlo a b),.float .f64 (rhi a b)])∧Grown w w':=by
 have t2:=feqI a ha
 have t3:=feqM b hb
 have hpa:=plain6_ a ha
 have hpb:=plain6_ b hb
 by_cases h1:(FloatKind.f64.format.order a b == some Ordering.lt || FloatKind.f64.format.order a b == some Ordering.eq)=true
 ·by_cases h2:a=9218868437227405312
  ·have es:snd a b=false:=by simp [snd,h2]
   rw [decide_eq_true h2] at t2
   rw [show rlo a b=9218868437227405312 from by simp [rlo,es],show rhi a b=18442240474082181120 from by simp [rhi,es]]
   clear h2 es ha hb
   go_enter Tryz.func38,Tryz.ntmps38
   go_wp2
   go_quiet ((go_at_call 68;first | exact Calls.quiet_of_same (inf1_ _) | exact Calls.quiet_of_same (infm_ _)))
   go_wp2_with (first | (go_at_call 89;refine (empty6_ _).mono ?_;rintro e w' ⟨rfl,rfl⟩))
   exact BR (v:=.agg #[.float .f64 9218868437227405312,.float .f64 18442240474082181120]) (by simp [results,Tryz.results38,go_sem] <;> simp only [*]) rfl ⟨rfl,(by repeat (with_reducible (first | assumption | exact Grown.refl _ | apply Grown.drew | apply Grown.alloc | apply gdrewN | (refine Grown.setCell ?_ (by simp <;> omega) _) | (refine gtrans ?_ (by assumption)))))⟩
  ·rw [decide_eq_false h2] at t2
   by_cases h3:b=18442240474082181120
   ·have es:snd a b=false:=by simp [snd,h3]
    rw [decide_eq_true h3] at t3
    rw [show rlo a b=9218868437227405312 from by simp [rlo,es],show rhi a b=18442240474082181120 from by simp [rhi,es]]
    clear h2 h3 es ha hb
    go_enter Tryz.func38,Tryz.ntmps38
    go_wp2
    go_quiet ((go_at_call 68;first | exact Calls.quiet_of_same (inf1_ _) | exact Calls.quiet_of_same (infm_ _)))
    go_wp2_with (first | (go_at_call 89;refine (empty6_ _).mono ?_;rintro e w' ⟨rfl,rfl⟩))
    exact BR (v:=.agg #[.float .f64 9218868437227405312,.float .f64 18442240474082181120]) (by simp [results,Tryz.results38,go_sem] <;> simp only [*]) rfl ⟨rfl,(by repeat (with_reducible (first | assumption | exact Grown.refl _ | apply Grown.drew | apply Grown.alloc | apply gdrewN | (refine Grown.setCell ?_ (by simp <;> omega) _) | (refine gtrans ?_ (by assumption)))))⟩
   ·have es:snd a b=true:=by simp only [snd,h1,h2,h3];simp
    rw [decide_eq_false h3] at t3
    rw [show rlo a b=pla a from by simp [rlo,es],show rhi a b=pla b from by simp [rhi,es]]
    clear h2 h3 es ha hb
    go_enter Tryz.func38,Tryz.ntmps38
    go_wp2
    go_quiet ((go_at_call 68;first | exact Calls.quiet_of_same (inf1_ _) | exact Calls.quiet_of_same (infm_ _)))
    go_wp2
    go_region_held3 (fun w'=>w'.cell? ⟨w.heap.size,0,none⟩=some (.float .f64 a)∧w'.cell? ⟨w.heap.size,1,none⟩=some (.float .f64 b)) (simp [go_sem,World.cell?_alloc_past]) (first | (go_at_call 94;(first | refine (hpa _).mono ?_ | refine (hpb _).mono ?_);rintro e w' ⟨rfl,rfl⟩))
    go_wp2
    exact BR (v:=.agg #[.float .f64 (pla a),.float .f64 (pla b)]) (by simp [results,Tryz.results38,go_sem] <;> simp only [*]) rfl ⟨rfl,(by repeat (with_reducible (first | assumption | exact Grown.refl _ | apply Grown.drew | apply Grown.alloc | apply gdrewN | (refine Grown.setCell ?_ (by simp <;> omega) _) | (refine gtrans ?_ (by assumption)))))⟩
 ·have h1':(FloatKind.f64.format.order a b == some Ordering.lt || FloatKind.f64.format.order a b == some Ordering.eq)=false:=by simpa using h1
  have es:snd a b=false:=by simp only [snd,h1'];simp
  rw [show rlo a b=9218868437227405312 from by simp [rlo,es],show rhi a b=18442240474082181120 from by simp [rhi,es]]
  clear h1 es ha hb t2 t3
  go_enter Tryz.func38,Tryz.ntmps38
  go_wp2
  go_quiet ((go_at_call 68;first | exact Calls.quiet_of_same (inf1_ _) | exact Calls.quiet_of_same (infm_ _)))
  go_wp2_with (first | (go_at_call 89;refine (empty6_ _).mono ?_;rintro e w' ⟨rfl,rfl⟩))
  exact BR (v:=.agg #[.float .f64 9218868437227405312,.float .f64 18442240474082181120]) (by simp [results,Tryz.results38,go_sem] <;> simp only [*]) rfl ⟨rfl,(by repeat (with_reducible (first | assumption | exact Grown.refl _ | apply Grown.drew | apply Grown.alloc | apply gdrewN | (refine Grown.setCell ?_ (by simp <;> omega) _) | (refine gtrans ?_ (by assumption)))))⟩
end Fq
namespace Fq
theorem eqIn6 (a c:Nat) (w:World):(Op.equalIn 9999 27 (.float .f64 a) (.float .f64 c)).run Tryz.prog w=.ok (FloatKind.f64.format.order a c == some Ordering.eq) w:=by kernel_rfl
theorem void_ (a b:Nat) (ha:a<18446744073709551616) (hb:b<18446744073709551616) (w:World):Calls Tryz.prog 110 #[.agg #[.float .f64 a,.float .f64 b]] w fun e w'=>e=.returned (.bool (decide (a=9218868437227405312∧b=18442240474082181120)))∧Grown w w':=by
 have t2:=feqI a ha
 have t3:=feqM b hb
 have e1:(decide (a=9218868437227405312∧b=18442240474082181120))=((FloatKind.f64.format.order a 9218868437227405312 == some Ordering.eq) && (FloatKind.f64.format.order b 18442240474082181120 == some Ordering.eq)):=by
  rw [t2,t3];by_cases c1:a=9218868437227405312 <;> by_cases c2:b=18442240474082181120 <;> simp [c1,c2]
 rw [e1]
 clear e1 t2 t3 ha hb
 have h0:=eqIn6 a 9218868437227405312
 have h1:=eqIn6 b 18442240474082181120
 generalize g1:(FloatKind.f64.format.order a 9218868437227405312 == some Ordering.eq)=B1 at h0 ⊢
 generalize g2:(FloatKind.f64.format.order b 18442240474082181120 == some Ordering.eq)=B2 at h1 ⊢
 cases B1 <;> cases B2
 ·go_enter Tryz.func110,Tryz.ntmps110
  go_wp2
  go_region_held3 (fun w'=>w'.cell? ⟨w.heap.size,0,none⟩=some (.float .f64 a)∧w'.cell? ⟨w.heap.size,1,none⟩=some (.float .f64 b)) (simp [go_sem,World.cell?_alloc_past]) (first | (go_at_call 89;refine (empty6_ _).mono ?_;rintro e w' ⟨rfl,rfl⟩))
  go_wp2
  exact BR (v:=.bool false) (by simp [results,Tryz.results110,go_sem] <;> simp only [*]) rfl ⟨rfl,(by repeat (with_reducible (first | assumption | exact Grown.refl _ | apply Grown.drew | apply Grown.alloc | apply gdrewN | (refine Grown.setCell ?_ (by simp <;> omega) _) | (refine gtrans ?_ (by assumption)))))⟩
 ·go_enter Tryz.func110,Tryz.ntmps110
  go_wp2
  go_region_held3 (fun w'=>w'.cell? ⟨w.heap.size,0,none⟩=some (.float .f64 a)∧w'.cell? ⟨w.heap.size,1,none⟩=some (.float .f64 b)) (simp [go_sem,World.cell?_alloc_past]) (first | (go_at_call 89;refine (empty6_ _).mono ?_;rintro e w' ⟨rfl,rfl⟩))
  go_wp2
  exact BR (v:=.bool false) (by simp [results,Tryz.results110,go_sem] <;> simp only [*]) rfl ⟨rfl,(by repeat (with_reducible (first | assumption | exact Grown.refl _ | apply Grown.drew | apply Grown.alloc | apply gdrewN | (refine Grown.setCell ?_ (by simp <;> omega) _) | (refine gtrans ?_ (by assumption)))))⟩
 ·go_enter Tryz.func110,Tryz.ntmps110
  go_wp2
  go_region_held3 (fun w'=>w'.cell? ⟨w.heap.size,0,none⟩=some (.float .f64 a)∧w'.cell? ⟨w.heap.size,1,none⟩=some (.float .f64 b)) (simp [go_sem,World.cell?_alloc_past]) (first | (go_at_call 89;refine (empty6_ _).mono ?_;rintro e w' ⟨rfl,rfl⟩))
  go_wp2
  exact BR (v:=.bool false) (by simp [results,Tryz.results110,go_sem] <;> simp only [*]) rfl ⟨rfl,(by repeat (with_reducible (first | assumption | exact Grown.refl _ | apply Grown.drew | apply Grown.alloc | apply gdrewN | (refine Grown.setCell ?_ (by simp <;> omega) _) | (refine gtrans ?_ (by assumption)))))⟩
 ·go_enter Tryz.func110,Tryz.ntmps110
  go_wp2
  go_region_held3 (fun w'=>w'.cell? ⟨w.heap.size,0,none⟩=some (.float .f64 a)∧w'.cell? ⟨w.heap.size,1,none⟩=some (.float .f64 b)) (simp [go_sem,World.cell?_alloc_past]) (first | (go_at_call 89;refine (empty6_ _).mono ?_;rintro e w' ⟨rfl,rfl⟩))
  go_wp2
  exact BR (v:=.bool true) (by simp [results,Tryz.results110,go_sem] <;> simp only [*]) rfl ⟨rfl,(by repeat (with_reducible (first | assumption | exact Grown.refl _ | apply Grown.drew | apply Grown.alloc | apply gdrewN | (refine Grown.setCell ?_ (by simp <;> omega) _) | (refine gtrans ?_ (by assumption)))))⟩
end Fq
namespace Fq

theorem gfroz {W w:World} (h:Grown W w) {a:Addr} (_hb:a.block<W.heap.size):w.frozen? a=W.frozen? a:=Below.frozen h _hb
def H2 (w:World) (b:Nat) (u v:Value):Prop:=w.cell? ⟨b,0,none⟩=some u∧w.cell? ⟨b,1,none⟩=some v∧w.frozen? ⟨b,0,none⟩=false∧w.frozen? ⟨b,1,none⟩=false
theorem H2.keep {W w:World} {b:Nat} {u v:Value} (h:H2 W b u v) (g:Grown W w):H2 w b u v :=
 ⟨gkeep g h.1,gkeep g h.2.1,(gfroz g (cell_lt h.1)).trans h.2.2.1,(gfroz g (cell_lt h.1)).trans h.2.2.2⟩
theorem H2.new (w:World) (u v:Value) (t:TypeId):H2 (w.alloc (.cells #[u,v] t)) w.heap.size u v:=by
 unfold H2;simp [go_sem]
theorem H2.past {w:World} {b:Nat} {u v:Value} (h:H2 w b u v) (c:Array Value) (t:TypeId):H2 (w.alloc (.cells c t)) b u v:=h.keep (Grown.alloc (Grown.refl _) c t)
end Fq
namespace Fq
theorem H2.put {w:World} {b:Nat} {u v:Value} (h:H2 w b u v) (u' v':Value):H2 ((w.setCell ⟨b,0,none⟩ u').setCell ⟨b,1,none⟩ v') b u' v':=by
 obtain ⟨h0,h1,h2,h3⟩:=h
 unfold H2;simp [go_sem,h0,h1,h2,h3]
theorem H2.far {w:World} {b:Nat} {u v:Value} (h:H2 w b u v) {c:Nat} (hne:c≠b) (u' v':Value):H2 ((w.setCell ⟨c,0,none⟩ u').setCell ⟨c,1,none⟩ v') b u v:=by
 obtain ⟨h0,h1,h2,h3⟩:=h
 refine ⟨?_, ?_, ?_, ?_⟩
 ·rw [CF _ _ _ _ (by simpa using hne),CF _ _ _ _ (by simpa using hne)];exact h0
 ·rw [CF _ _ _ _ (by simpa using hne),CF _ _ _ _ (by simpa using hne)];exact h1
 ·simp only [World.frozen?_setCell];exact h2
 ·simp only [World.frozen?_setCell];exact h3
end Fq
namespace Fq

theorem xor_full (Y:Nat) (h:Y<18446744073709551616):18446744073709551615 ^^^ Y=18446744073709551615 - Y:=by
 have e:18446744073709551615 - Y=2 ^ 64 - (Y+1):=by omega
 rw [e,show 18446744073709551615=2 ^ 64 - 1 from by decide]
 apply Nat.eq_of_testBit_eq
 intro i
 rw [Nat.testBit_xor,Nat.testBit_two_pow_sub_one,Nat.testBit_two_pow_sub_succ (by omega)]
 by_cases c:i<64
 ·simp [c]
 ·have:Y.testBit i=false:=Nat.testBit_lt_two_pow (Nat.lt_of_lt_of_le (show Y<2 ^ 64 by omega) (Nat.pow_le_pow_right (by decide) (by omega)))
  simp [c,this]
theorem noTop6 (n:Bool) (m X:Nat) (hm:m<9223372036854775808) (hX:X=wD n m):bits .andNot .u64 (X:Int) 9223372036854775808=(m:Int)∧X<18446744073709551616:=by
 have hX9:X<18446744073709551616:=by rw [hX];unfold wD;split <;> omega
 have h:=u64_andNot_nat X 9223372036854775808 hX9 (by decide)
 have e:X % 9223372036854775808=m:=by rw [hX];unfold wD;split <;> omega
 rw [show 18446744073709551615 - 9223372036854775808=2 ^ 63 - 1 from by decide,Nat.and_two_pow_sub_one_eq_mod,show (2:Nat) ^ 63=9223372036854775808 from by decide,e] at h
 exact ⟨h,hX9⟩
theorem isnan6_ (n:Bool) (m:Nat) (hm:m<9223372036854775808) (w:World):Calls Tryz.prog 187 #[.int .u64 ((wD n m:Nat):Int)] w fun e w'=>e=.returned (.bool (decide (9218868437227405312<m)))∧w'=w:=by
 obtain ⟨X,hX⟩:∃ X,X=wD n m:=⟨_,rfl⟩
 have f1:=(noTop6 n m X hm hX).1
 rw [← hX]
 clear hX hm
 by_cases c:9218868437227405312<m
 ·have t1:9218868437227405312<(m:Int):=by omega
  rw [decide_eq_true c]
  clear c
  go_enter Tryz.func187,Tryz.ntmps187
  go_wp2
  exact BR (v:=.bool true) (by simp [results,Tryz.results187,go_sem] <;> omega) rfl ⟨rfl,rfl⟩
 ·have t1:¬ (9218868437227405312<(m:Int)):=by omega
  rw [decide_eq_false c]
  clear c
  go_enter Tryz.func187,Tryz.ntmps187
  go_wp2
  exact BR (v:=.bool false) (by simp [results,Tryz.results187,go_sem] <;> omega) rfl ⟨rfl,rfl⟩
theorem rplain6_ (n:Bool) (m:Nat) (hm:m≤9218868437227405312) (w:World):Calls Tryz.prog 149 #[.int .u64 ((wD n m:Nat):Int)] w fun e w'=>e=.returned (.int .u64 ((pla (wD n m):Nat):Int))∧w'=w:=by
 have hn:=isnan6_ n m (by omega)
 rw [decide_eq_false (by omega)] at hn
 obtain ⟨X,hX⟩:∃ X,X=wD n m:=⟨_,rfl⟩
 rw [← hX] at hn ⊢
 clear hX hm
 by_cases c:X=9223372036854775808
 ·have t:((X:Int) == 9223372036854775808)=true:=by rw [c];rfl
  rw [show pla X=0 from by simp [pla,c]]
  clear c hn
  go_enter Tryz.func149,Tryz.ntmps149
  go_wp2
  exact BR (v:=.int .u64 0) (by simp [results,Tryz.results149,go_sem] <;> simp only [*]) rfl ⟨rfl,rfl⟩
 ·have t:((X:Int) == 9223372036854775808)=false:=by simp;omega
  rw [show pla X=X from by simp [pla,c]]
  clear c
  go_enter Tryz.func149,Tryz.ntmps149
  go_wp2_with (first | (go_at_call 187;refine (hn _).mono ?_;rintro e w' ⟨rfl,rfl⟩))
  exact BR (v:=.int .u64 (X:Int)) (by simp [results,Tryz.results149,go_sem] <;> simp only [*]) rfl ⟨rfl,rfl⟩
theorem key6_ (n:Bool) (m:Nat) (hm:m≤9218868437227405312) (w:World):Calls Tryz.prog 217 #[.int .u64 ((wD n m:Nat):Int)] w fun e w'=>e=.returned (.int .u64 ((kyN (wD n m):Nat):Int))∧w'=w:=by
 have hp:=rplain6_ n m hm
 have hb:pla (wD n m)<18446744073709551616:=pla_lt _ (by unfold wD;split <;> omega)
 obtain ⟨X,hX⟩:∃ X,X=wD n m:=⟨_,rfl⟩
 rw [← hX] at hp hb ⊢
 unfold kyN
 obtain ⟨Y,hY⟩:∃ Y,Y=pla X:=⟨_,rfl⟩
 rw [← hY] at hp hb ⊢
 clear hX hm hY
 by_cases c:9223372036854775808≤Y
 ·have t:9223372036854775808≤(Y:Int):=by omega
  have u:bits .xor .u64 IntKind.u64.max (Y:Int)=((18446744073709551615 - Y:Nat):Int):=by
   have h:=u64_xor_nat 18446744073709551615 Y (by decide) hb
   rw [xor_full Y hb] at h
   exact h
  rw [if_pos c]
  clear c hb
  obtain ⟨Z,hZ⟩:∃ Z:Nat,Z=18446744073709551615 - Y:=⟨_,rfl⟩
  rw [← hZ] at u ⊢
  clear hZ
  go_enter Tryz.func217,Tryz.ntmps217
  go_wp2_with (first | (go_at_call 149;refine (hp _).mono ?_;rintro e w' ⟨rfl,rfl⟩))
  exact BR (v:=.int .u64 (Z:Int)) (by simp [results,Tryz.results217,go_sem] <;> simp only [*]) rfl ⟨rfl,rfl⟩
 ·have t:decide (9223372036854775808≤(Y:Int))=false:=decide_eq_false (by omega)
  have u:bits .or .u64 (Y:Int) 9223372036854775808=((Y+9223372036854775808:Nat):Int):=by
   have h:=u64_or_nat Y 9223372036854775808 hb (by decide)
   have h9:=Nat.two_pow_add_eq_or_of_lt (i:=63) (b:=Y) (by omega) 1
   rw [show 2 ^ 63*1=9223372036854775808 from by decide] at h9
   rw [Nat.or_comm,← h9,Nat.add_comm] at h
   exact h
  rw [if_neg c]
  clear c hb
  obtain ⟨Z,hZ⟩:∃ Z:Nat,Z=Y+9223372036854775808:=⟨_,rfl⟩
  rw [← hZ] at u ⊢
  clear hZ
  go_enter Tryz.func217,Tryz.ntmps217
  go_wp2_with (first | (go_at_call 149;refine (hp _).mono ?_;rintro e w' ⟨rfl,rfl⟩))
  exact BR (v:=.int .u64 (Z:Int)) (by simp [results,Tryz.results217,go_sem] <;> simp only [*]) rfl ⟨rfl,rfl⟩
theorem above6_ (n n':Bool) (m m':Nat) (hm:m<9223372036854775808) (hm':m'<9223372036854775808) (w:World):Calls Tryz.prog 188 #[.int .u64 ((wD n m:Nat):Int),.int .u64 ((wD n' m':Nat):Int)] w fun e w'=>e=.returned (.bool (decide (m≤9218868437227405312∧m'≤9218868437227405312∧plz n' m'<plz n m)))∧w'=w:=by
 have hn:=isnan6_ n m hm
 have hn':=isnan6_ n' m' hm'
 have kl:=kyN_lt n' n m' m
 have hk:=key6_ n m
 have hk':=key6_ n' m'
 have e1:m≤9218868437227405312→m'≤9218868437227405312→decide (m≤9218868437227405312∧m'≤9218868437227405312∧plz n' m'<plz n m)=decide ((kyN (wD n' m'):Int)<(kyN (wD n m):Int)):=by
  intro h1 h2
  have kl:=kl h2 h1
  have:((kyN (wD n' m'):Int)<(kyN (wD n m):Int)) ↔ plz n' m'<plz n m:=by rw [← kl];omega
  simp only [this];congr 1;apply propext;omega
 clear kl
 obtain ⟨X,hX⟩:∃ X,X=wD n m:=⟨_,rfl⟩
 obtain ⟨Y,hY⟩:∃ Y,Y=wD n' m':=⟨_,rfl⟩
 rw [← hX] at hn hk e1 ⊢
 rw [← hY] at hn' hk' e1 ⊢
 clear hX hY
 by_cases c1:9218868437227405312<m
 ·rw [decide_eq_true c1] at hn
  rw [decide_eq_false (by omega)]
  clear c1 e1 hk hk' hm hm' hn'
  go_enter Tryz.func188,Tryz.ntmps188
  go_wp2_with (first | (go_at_call 187;refine (hn _).mono ?_;rintro e w' ⟨rfl,rfl⟩))
  exact BR (v:=.bool false) (by simp [results,Tryz.results188,go_sem] <;> simp only [*]) rfl ⟨rfl,rfl⟩
 rw [decide_eq_false c1] at hn
 by_cases c2:9218868437227405312<m'
 ·rw [decide_eq_true c2] at hn'
  rw [decide_eq_false (by omega)]
  clear c1 c2 e1 hk hk' hm hm'
  go_enter Tryz.func188,Tryz.ntmps188
  go_wp2_with (first | (go_at_call_of 187 (Value.int .u64 (X:Int));refine (hn _).mono ?_;rintro e w' ⟨rfl,rfl⟩) | (go_at_call_of 187 (Value.int .u64 (Y:Int));refine (hn' _).mono ?_;rintro e w' ⟨rfl,rfl⟩))
  exact BR (v:=.bool false) (by simp [results,Tryz.results188,go_sem] <;> simp only [*]) rfl ⟨rfl,rfl⟩
 rw [decide_eq_false c2] at hn'
 have hk:=hk (by omega)
 have hk':=hk' (by omega)
 rw [e1 (by omega) (by omega)]
 clear e1 c1 c2 hm hm'
 generalize kyN X=KX at hk ⊢
 generalize kyN Y=KY at hk' ⊢
 go_enter Tryz.func188,Tryz.ntmps188
 go_wp2_with (first | (go_at_call_of 187 (Value.int .u64 (X:Int));refine (hn _).mono ?_;rintro e w' ⟨rfl,rfl⟩) | (go_at_call_of 187 (Value.int .u64 (Y:Int));refine (hn' _).mono ?_;rintro e w' ⟨rfl,rfl⟩) | (go_at_call_of 217 (Value.int .u64 (X:Int));refine (hk _).mono ?_;rintro e w' ⟨rfl,rfl⟩) | (go_at_call_of 217 (Value.int .u64 (Y:Int));refine (hk' _).mono ?_;rintro e w' ⟨rfl,rfl⟩))
 exact BR (v:=.bool (decide ((KY:Int)<(KX:Int)))) (by simp [results,Tryz.results188,go_sem] <;> simp only [*]) rfl ⟨rfl,rfl⟩
end Fq
namespace Fq
theorem rempty_ (w:World):Calls Tryz.prog 72 #[] w fun e w'=>e=.returned (.agg #[.int .u64 9218868437227405312,.int .u64 18442240474082181120])∧w'=w.alloc (.cells #[.int .u64 9218868437227405312,.int .u64 18442240474082181120] 24):=by
 go_enter Tryz.func72,Tryz.ntmps72
 go_wp2
 exact BR (v:=.agg #[.int .u64 9218868437227405312,.int .u64 18442240474082181120]) (by simp [results,Tryz.results72,go_sem] <;> simp only [*]) rfl ⟨rfl,rfl⟩
theorem rentire_ (w:World):Calls Tryz.prog 93 #[] w fun e w'=>e=.returned (.agg #[.int .u64 18442240474082181120,.int .u64 9218868437227405312])∧w'=w.alloc (.cells #[.int .u64 18442240474082181120,.int .u64 9218868437227405312] 24):=by
 go_enter Tryz.func93,Tryz.ntmps93
 go_wp2
 exact BR (v:=.agg #[.int .u64 18442240474082181120,.int .u64 9218868437227405312]) (by simp [results,Tryz.results93,go_sem] <;> simp only [*]) rfl ⟨rfl,rfl⟩
theorem sound_ (n n':Bool) (m m':Nat) (hm:m<9223372036854775808) (hm':m'<9223372036854775808) (w:World):Calls Tryz.prog 148 #[.agg #[.int .u64 (((wD n m):Nat):Int),.int .u64 (((wD n' m'):Nat):Int)]] w fun e w'=>e=.returned (.bool (snd (wD n m) (wD n' m')))∧w'=w.alloc (.cells #[.int .u64 (((wD n m):Nat):Int),.int .u64 (((wD n' m'):Nat):Int)] 24):=by
 have hn:=isnan6_ n m hm
 have hn':=isnan6_ n' m' hm'
 have ha:=above6_ n n' m m' hm hm'
 have es:=snd_w n n' m m' hm hm'
 have e1:(wD n m=9218868437227405312) ↔ (n=false∧m=9218868437227405312):=by unfold wD;cases n <;> simp;omega
 have e2:(wD n' m'=18442240474082181120) ↔ (n'=true∧m'=9218868437227405312):=by unfold wD;cases n' <;> simp <;> omega
 obtain ⟨X,hX⟩:∃ X,X=wD n m:=⟨_,rfl⟩
 obtain ⟨Y,hY⟩:∃ Y,Y=wD n' m':=⟨_,rfl⟩
 rw [← hX] at hn ha es e1 ⊢
 rw [← hY] at hn' ha es e2 ⊢
 clear hX hY
 rw [es]
 by_cases c1:9218868437227405312<m
 ·rw [decide_eq_true c1] at hn
  rw [decide_eq_false (by omega)]
  clear c1 es e1 e2 hm hm' hn' ha
  go_enter Tryz.func148,Tryz.ntmps148
  go_wp2_with (first | (go_at_call_of 187 (Value.int .u64 (X:Int));refine (hn _).mono ?_;rintro e w' ⟨rfl,rfl⟩))
  exact BR (v:=.bool false) (by simp [results,Tryz.results148,go_sem] <;> simp only [*]) rfl ⟨rfl,rfl⟩
 rw [decide_eq_false c1] at hn
 by_cases c2:9218868437227405312<m'
 ·rw [decide_eq_true c2] at hn'
  rw [decide_eq_false (by omega)]
  clear c1 c2 es e1 e2 hm hm' ha
  go_enter Tryz.func148,Tryz.ntmps148
  go_wp2_with (first | (go_at_call_of 187 (Value.int .u64 (X:Int));refine (hn _).mono ?_;rintro e w' ⟨rfl,rfl⟩) | (go_at_call_of 187 (Value.int .u64 (Y:Int));refine (hn' _).mono ?_;rintro e w' ⟨rfl,rfl⟩))
  exact BR (v:=.bool false) (by simp [results,Tryz.results148,go_sem] <;> simp only [*]) rfl ⟨rfl,rfl⟩
 rw [decide_eq_false c2] at hn'
 by_cases c3:plz n' m'<plz n m
 ·rw [decide_eq_true ⟨by omega,by omega,c3⟩] at ha
  rw [decide_eq_false (by omega)]
  clear c1 c2 c3 es e1 e2 hm hm'
  go_enter Tryz.func148,Tryz.ntmps148
  go_wp2_with (first | (go_at_call_of 187 (Value.int .u64 (X:Int));refine (hn _).mono ?_;rintro e w' ⟨rfl,rfl⟩) | (go_at_call_of 187 (Value.int .u64 (Y:Int));refine (hn' _).mono ?_;rintro e w' ⟨rfl,rfl⟩) | (go_at_call 188;refine (ha _).mono ?_;rintro e w' ⟨rfl,rfl⟩))
  exact BR (v:=.bool false) (by simp [results,Tryz.results148,go_sem] <;> simp only [*]) rfl ⟨rfl,rfl⟩
 rw [decide_eq_false (by omega)] at ha
 by_cases c4:X=9218868437227405312
 ·have t4:((X:Int) != 9218868437227405312)=false:=by rw [c4];rfl
  rw [decide_eq_false (fun h=>h.2.2.2.1 (e1.mp c4))]
  clear c1 c2 c3 c4 es e1 e2 hm hm'
  go_enter Tryz.func148,Tryz.ntmps148
  go_wp2_with (first | (go_at_call_of 187 (Value.int .u64 (X:Int));refine (hn _).mono ?_;rintro e w' ⟨rfl,rfl⟩) | (go_at_call_of 187 (Value.int .u64 (Y:Int));refine (hn' _).mono ?_;rintro e w' ⟨rfl,rfl⟩) | (go_at_call 188;refine (ha _).mono ?_;rintro e w' ⟨rfl,rfl⟩))
  exact BR (v:=.bool false) (by simp [results,Tryz.results148,go_sem] <;> simp only [*]) rfl ⟨rfl,rfl⟩
 have t4:((X:Int) != 9218868437227405312)=true:=by simp;omega
 by_cases c5:Y=18442240474082181120
 ·have t5:((Y:Int) != 18442240474082181120)=false:=by rw [c5];rfl
  rw [decide_eq_false (fun h=>h.2.2.2.2 (e2.mp c5))]
  clear c1 c2 c3 c4 c5 es e1 e2 hm hm'
  go_enter Tryz.func148,Tryz.ntmps148
  go_wp2_with (first | (go_at_call_of 187 (Value.int .u64 (X:Int));refine (hn _).mono ?_;rintro e w' ⟨rfl,rfl⟩) | (go_at_call_of 187 (Value.int .u64 (Y:Int));refine (hn' _).mono ?_;rintro e w' ⟨rfl,rfl⟩) | (go_at_call 188;refine (ha _).mono ?_;rintro e w' ⟨rfl,rfl⟩))
  exact BR (v:=.bool false) (by simp [results,Tryz.results148,go_sem] <;> simp only [*]) rfl ⟨rfl,rfl⟩
 have t5:((Y:Int) != 18442240474082181120)=true:=by simp;omega
 rw [decide_eq_true ⟨by omega,by omega,by omega,fun h=>c4 (e1.mpr h),fun h=>c5 (e2.mpr h)⟩]
 clear c1 c2 c3 c4 c5 es e1 e2 hm hm'
 go_enter Tryz.func148,Tryz.ntmps148
 go_wp2_with (first | (go_at_call_of 187 (Value.int .u64 (X:Int));refine (hn _).mono ?_;rintro e w' ⟨rfl,rfl⟩) | (go_at_call_of 187 (Value.int .u64 (Y:Int));refine (hn' _).mono ?_;rintro e w' ⟨rfl,rfl⟩) | (go_at_call 188;refine (ha _).mono ?_;rintro e w' ⟨rfl,rfl⟩))
 exact BR (v:=.bool true) (by simp [results,Tryz.results148,go_sem] <;> simp only [*]) rfl ⟨rfl,rfl⟩
theorem rread_ (n n':Bool) (m m':Nat) (hm:m<9223372036854775808) (hm':m'<9223372036854775808) (w:World):Calls Tryz.prog 98 #[.agg #[.int .u64 (((wD n m):Nat):Int),.int .u64 (((wD n' m'):Nat):Int)]] w fun e w'=>e=.returned (.agg #[.int .u64 (((rlo (wD n m) (wD n' m')):Nat):Int),.int .u64 (((rhi (wD n m) (wD n' m')):Nat):Int)])∧Grown w w':=by
 have hs:=sound_ n n' m m' hm hm'
 have es:=snd_w n n' m m' hm hm'
 have hp:=rplain6_ n m
 have hp':=rplain6_ n' m'
 obtain ⟨X,hX⟩:∃ X,X=wD n m:=⟨_,rfl⟩
 obtain ⟨Y,hY⟩:∃ Y,Y=wD n' m':=⟨_,rfl⟩
 rw [← hX] at hs es hp ⊢
 rw [← hY] at hs es hp' ⊢
 clear hX hY
 by_cases c:snd X Y=true
 ·rw [c] at hs
  rw [show rlo X Y=pla X from by simp [rlo,c],show rhi X Y=pla Y from by simp [rhi,c]]
  rw [c] at es
  replace es:=of_decide_eq_true es.symm
  replace hp:=hp es.1
  replace hp':=hp' es.2.1
  clear es c hm hm'
  generalize ((pla X:Nat):Int)=PX at hp ⊢
  generalize ((pla Y:Nat):Int)=PY at hp' ⊢
  generalize (X:Int)=X at hs hp ⊢
  generalize (Y:Int)=Y at hs hp' ⊢
  go_enter Tryz.func98,Tryz.ntmps98
  go_wp2_with (first | (go_at_call 148;refine (hs _).mono ?_;rintro e w' ⟨rfl,rfl⟩))
  go_region_held3 (fun w'=>w'.cell? ⟨w.heap.size,0,none⟩=some (.int .u64 X)∧w'.cell? ⟨w.heap.size,1,none⟩=some (.int .u64 Y)) (simp [go_sem,World.cell?_alloc_past]) (first | (go_at_call_of 149 (Value.int .u64 X);refine (hp _).mono ?_;rintro e w' ⟨rfl,rfl⟩) | (go_at_call_of 149 (Value.int .u64 Y);refine (hp' _).mono ?_;rintro e w' ⟨rfl,rfl⟩))
  go_wp2
  exact BR (v:=.agg #[.int .u64 PX,.int .u64 PY]) (by simp [results,Tryz.results98,go_sem] <;> simp only [*]) rfl ⟨rfl,(by repeat (with_reducible (first | assumption | exact Grown.refl _ | apply Grown.drew | apply Grown.alloc | apply gdrewN | (refine Grown.setCell ?_ (by simp <;> omega) _) | (refine gtrans ?_ (by assumption)))))⟩
 ·have c:snd X Y=false:=by simpa using c
  rw [c] at hs
  rw [show rlo X Y=9218868437227405312 from by simp [rlo,c],show rhi X Y=18442240474082181120 from by simp [rhi,c]]
  clear es c hm hm' hp hp'
  go_enter Tryz.func98,Tryz.ntmps98
  go_wp2_with (first | (go_at_call 148;refine (hs _).mono ?_;rintro e w' ⟨rfl,rfl⟩) | (go_at_call 72;refine (rempty_ _).mono ?_;rintro e w' ⟨rfl,rfl⟩))
  exact BR (v:=.agg #[.int .u64 9218868437227405312,.int .u64 18442240474082181120]) (by simp [results,Tryz.results98,go_sem] <;> simp only [*]) rfl ⟨rfl,(by repeat (with_reducible (first | assumption | exact Grown.refl _ | apply Grown.drew | apply Grown.alloc | apply gdrewN | (refine Grown.setCell ?_ (by simp <;> omega) _) | (refine gtrans ?_ (by assumption)))))⟩
end Fq
def opP (x:Nat):Nat:=if x % 9223372036854775808=0 then 0 else if x<9223372036854775808 then x+9223372036854775808 else x - 9223372036854775808
theorem opP_w (n:Bool) (m:Nat) (hm:m<9223372036854775808):opP (Fq.wD n m)=mnP n m:=by
 unfold opP mnP Fq.pla Fq.wD
 cases n <;> simp <;> repeat' split
 all_goals omega
theorem minus6_ (n:Bool) (m:Nat) (hm:m≤9218868437227405312) (w:World):Calls Tryz.prog 107 #[.float .f64 (Fq.wD n m)] w fun e w'=>e=.returned (.float .f64 (opP (Fq.wD n m)))∧w'=w:=by
 have e1:=sub_zero_w n m hm
 rw [← opP_w n m (by omega)] at e1
 generalize Fq.wD n m=X at e1 ⊢
 generalize opP X=Z at e1 ⊢
 have g1:∀ w:World,(binOp .sub 27 (.float .f64 0) (.float .f64 X)).run Tryz.prog w=.ok (.float .f64 Z) w:=fun w=>run_float_arith w .sub 27 .f64 0 X Z e1
 clear e1 hm
 go_enter Tryz.func107,Tryz.ntmps107
 go_wp2
 exact BR (v:=.float .f64 Z) (by simp [results,Tryz.results107,go_sem]) rfl ⟨rfl,rfl⟩
theorem Fq.H2.two0 (w:World) (a b c d:Value) (s t:TypeId):Fq.H2 ((w.alloc (.cells #[a,b] s)).alloc (.cells #[c,d] t)) (w.heap.size+1) c d:=by
 unfold Fq.H2;simp [go_sem]
theorem neg6c_ (a b LO HI NL NH:Nat) (hr:KC 38 #[.agg #[.float .f64 a,.float .f64 b]] (.agg #[.float .f64 LO,.float .f64 HI])) (h1:SC 107 #[.float .f64 LO] (.float .f64 NL)) (h2:SC 107 #[.float .f64 HI] (.float .f64 NH)) (w:World):Calls Tryz.prog 49 #[.agg #[.float .f64 a,.float .f64 b]] w fun e w'=>e=.returned (.agg #[.float .f64 NH,.float .f64 NL])∧Kp w w':=by
 go_enter Tryz.func49,Tryz.ntmps49
 go_wp2_with (first | (go_at_call 38;refine (hr _).mono ?_;rintro e w1 ⟨rfl,g1⟩;have q0:=Fq.H2.keep (Fq.H2.past (Fq.H2.new w (.float .f64 a) (.float .f64 b) 29) #[.float .f64 0,.float .f64 0] 29) g1;have q1:Fq.H2 w1 (w.heap.size+1) (.float .f64 0) (.float .f64 0):=Fq.H2.keep (Fq.H2.two0 w (.float .f64 a) (.float .f64 b) (.float .f64 0) (.float .f64 0) 29 29) g1;obtain ⟨x0,x1,x2,x3⟩:=id q0;obtain ⟨y0,y1,y2,y3⟩:=id q1))
 have kw:Kp w w1:=Kp.trans (((Kp.refl w).alloc _).alloc _) g1
 have qx:=Fq.H2.put q0 (.float .f64 LO) (.float .f64 HI)
 have qy:=Fq.H2.far q1 (show w.heap.size≠w.heap.size+1 by omega) (.float .f64 LO) (.float .f64 HI)
 have kW:Kp w ((w1.setCell ⟨w.heap.size,0,none⟩ (.float .f64 LO)).setCell ⟨w.heap.size,1,none⟩ (.float .f64 HI)):=(kw.setCell (Nat.le_refl _) _).setCell (Nat.le_refl _) _
 generalize hW:(w1.setCell ⟨w.heap.size,0,none⟩ (.float .f64 LO)).setCell ⟨w.heap.size,1,none⟩ (.float .f64 HI)=W at qx qy kW ⊢
 clear hW kw q0 q1 g1 x0 x1 x2 x3 y0 y1 y2 y3
 obtain ⟨x0,x1,x2,x3⟩:=id qx
 obtain ⟨y0,y1,y2,y3⟩:=id qy
 go_region_held3 (fun w'=>w'.cell? ⟨w.heap.size,0,none⟩=some (.float .f64 LO)∧w'.cell? ⟨w.heap.size,1,none⟩=some (.float .f64 HI)) (first | (exact ⟨x0,x1⟩) | (exact ⟨(CF _ _ _ _ (by simp)).trans ((CF _ _ _ _ (by simp)).trans x0),(CF _ _ _ _ (by simp)).trans ((CF _ _ _ _ (by simp)).trans x1)⟩)) (first | (go_at_call_of 107 (Value.float .f64 HI);refine (h2 _).mono ?_;rintro e w' ⟨rfl,rfl⟩) | (go_at_call_of 107 (Value.float .f64 LO);refine (h1 _).mono ?_;rintro e w' ⟨rfl,rfl⟩))
 go_wp2
 exact BR (v:=.agg #[.float .f64 NH,.float .f64 NL]) (by simp [results,Tryz.results49,go_sem,y0,y1]) rfl ⟨rfl,(by repeat (with_reducible (first | assumption | exact Kp.refl _ | apply Kp.drew | apply Kp.alloc | apply Kp.drewN | (refine Kp.setCell ?_ (by first | omega | (simp <;> omega)) _) | (refine Kp.trans ?_ (by assumption)))))⟩
end Go.Proofs.YtmpjcknaelgnoaaGreatDoor
