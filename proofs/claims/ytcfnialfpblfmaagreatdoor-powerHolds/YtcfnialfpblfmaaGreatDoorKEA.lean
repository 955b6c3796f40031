import Derived.Test.YtcfnialfpblfmaaGreatDoorKMR30
import Derived.Test.YtcfnialfpblfmaaGreatDoorKS6O
set_option maxHeartbeats 2000000
set_option maxRecDepth 20000
namespace Go.Proofs.YtcfnialfpblfmaaGreatDoor
open Go.RowKit
namespace Fq
theorem Grown.setCell {W w':World} (h:Grown W w') {a:Addr} (ha:W.heap.size≤a.block) (v:Value):Grown W (w'.setCell a v):=Below.setCell h ha v
@[go_sem] theorem run_store_float6 (P:Program) (w:World) (a:Addr) (m:Mode) (k:FloatKind) (x:Nat):(store a (.float k x) m).run P w=stored P w a (.float k x) m:=run_store P w a _ m rfl
theorem inf1_ (w:World):Calls Tryz.prog 8 #[.int .i64 1] w fun e w'=>e=.returned (.float .f64 9218868437227405312)∧w'=w:=by
 have hf:∀ w:World,(callFunc 45 #[.int .u64 9218868437227405312]).run Tryz.prog w=.ok (.value (.float .f64 9218868437227405312)) w:=ff64 9218868437227405312
 go_enter Tryz.func8,Tryz.ntmps8
 go_wp2_with (first | (simp only [hf]))
 exact BR (v:=.float .f64 9218868437227405312) (by simp [results,Tryz.results8,go_sem] <;> simp only [*]) rfl ⟨rfl,rfl⟩
theorem infm_ (w:World):Calls Tryz.prog 8 #[.int .i64 (-1)] w fun e w'=>e=.returned (.float .f64 18442240474082181120)∧w'=w:=by
 have hf:∀ w:World,(callFunc 45 #[.int .u64 18442240474082181120]).run Tryz.prog w=.ok (.value (.float .f64 18442240474082181120)) w:=ff64 18442240474082181120
 go_enter Tryz.func8,Tryz.ntmps8
 go_wp2_with (first | (simp only [hf]))
 exact BR (v:=.float .f64 18442240474082181120) (by simp [results,Tryz.results8,go_sem] <;> simp only [*]) rfl ⟨rfl,rfl⟩
theorem plain6_ (x:Nat) (h:x<18446744073709551616) (w:World):Calls Tryz.prog 84 #[.float .f64 x] w fun e w'=>e=.returned (.float .f64 (pla x))∧w'=w:=by
 have t:=feq0 x h
 by_cases c:x=0∨x=9223372036854775808
 ·rw [decide_eq_true c] at t
  have e:pla x=0:=by unfold pla;split <;> omega
  rw [e];clear c e h
  go_enter Tryz.func84,Tryz.ntmps84
  go_wp2
  exact BR (v:=.float .f64 0) (by simp [results,Tryz.results84,go_sem] <;> simp only [*]) rfl ⟨rfl,rfl⟩
 ·rw [decide_eq_false c] at t
  have e:pla x=x:=by unfold pla;rw [if_neg (by omega)]
  rw [e];clear c e h
  go_enter Tryz.func84,Tryz.ntmps84
  go_wp2
  exact BR (v:=.float .f64 x) (by simp [results,Tryz.results84,go_sem] <;> simp only [*]) rfl ⟨rfl,rfl⟩
theorem empty6_ (w:World):Calls Tryz.prog 56 #[] w fun e w'=>e=.returned (.agg #[.float .f64 9218868437227405312,.float .f64 18442240474082181120])∧w'=w.alloc (.cells #[.float .f64 9218868437227405312,.float .f64 18442240474082181120] 25):=by
 go_enter Tryz.func56,Tryz.ntmps56
 go_wp2_with (go_at_call 8;(first | refine (inf1_ _).mono ?_ | refine (infm_ _).mono ?_);rintro e w' ⟨rfl,rfl⟩)
 exact BR (v:=.agg #[.float .f64 9218868437227405312,.float .f64 18442240474082181120]) (by simp [results,Tryz.results56,go_sem] <;> simp only [*]) rfl ⟨rfl,rfl⟩
theorem entire6_ (w:World):Calls Tryz.prog 48 #[] w fun e w'=>e=.returned (.agg #[.float .f64 18442240474082181120,.float .f64 9218868437227405312])∧w'=w.alloc (.cells #[.float .f64 18442240474082181120,.float .f64 9218868437227405312] 25):=by
 go_enter Tryz.func48,Tryz.ntmps48
 go_wp2_with (go_at_call 8;(first | refine (inf1_ _).mono ?_ | refine (infm_ _).mono ?_);rintro e w' ⟨rfl,rfl⟩)
 exact BR (v:=.agg #[.float .f64 18442240474082181120,.float .f64 9218868437227405312]) (by simp [results,Tryz.results48,go_sem] <;> simp only [*]) rfl ⟨rfl,rfl⟩
end Fq
namespace Fq
theorem read_ (a b:Nat) (ha:a<18446744073709551616) (hb:b<18446744073709551616) (w:World):Calls Tryz.prog 46 #[.agg #[.float .f64 a,.float .f64 b]] w fun e w'=>e=.returned (.agg #[.float .f64 (rlo a b),.float .f64 (rhi a b)])∧Grown w w':=by
 have t2:=feqI a ha
 have t3:=feqM b hb
 have hpa:=plain6_ a ha
 have hpb:=plain6_ b hb
 by_cases h1:(FloatKind.f64.format.order a b == some Ordering.lt || FloatKind.f64.format.order a b == some Ordering.eq)=true
 ·by_cases h2:a=9218868437227405312
  ·have es:snd a b=false:=by simp [snd,h2]
   rw [decide_eq_true h2] at t2
   rw [show rlo a b=9218868437227405312 from by simp [rlo,es],show rhi a b=18442240474082181120 from by simp [rhi,es]]
   clear h2 es ha hb
   go_enter Tryz.func46,Tryz.ntmps46
   go_wp2
   go_quiet ((go_at_call 8;first | exact Calls.quiet_of_same (inf1_ _) | exact Calls.quiet_of_same (infm_ _)))
   go_wp2_with (first | (go_at_call 56;refine (empty6_ _).mono ?_;rintro e w' ⟨rfl,rfl⟩))
   exact BR (v:=.agg #[.float .f64 9218868437227405312,.float .f64 18442240474082181120]) (by simp [results,Tryz.results46,go_sem] <;> simp only [*]) rfl ⟨rfl,(by repeat (with_reducible (first | assumption | exact Grown.refl _ | apply Grown.drew | apply Grown.alloc | apply gdrewN | (refine Grown.setCell ?_ (by simp <;> omega) _) | (refine gtrans ?_ (by assumption)))))⟩
  ·rw [decide_eq_false h2] at t2
   by_cases h3:b=18442240474082181120
   ·have es:snd a b=false:=by simp [snd,h3]
    rw [decide_eq_true h3] at t3
    rw [show rlo a b=9218868437227405312 from by simp [rlo,es],show rhi a b=18442240474082181120 from by simp [rhi,es]]
    clear h2 h3 es ha hb
    go_enter Tryz.func46,Tryz.ntmps46
    go_wp2
    go_quiet ((go_at_call 8;first | exact Calls.quiet_of_same (inf1_ _) | exact Calls.quiet_of_same (infm_ _)))
    go_wp2_with (first | (go_at_call 56;refine (empty6_ _).mono ?_;rintro e w' ⟨rfl,rfl⟩))
    exact BR (v:=.agg #[.float .f64 9218868437227405312,.float .f64 18442240474082181120]) (by simp [results,Tryz.results46,go_sem] <;> simp only [*]) rfl ⟨rfl,(by repeat (with_reducible (first | assumption | exact Grown.refl _ | apply Grown.drew | apply Grown.alloc | apply gdrewN | (refine Grown.setCell ?_ (by simp <;> omega) _) | (refine gtrans ?_ (by assumption)))))⟩
   ·have es:snd a b=true:=by simp only [snd,h1,h2,h3];simp
    rw [decide_eq_false h3] at t3
    rw [show rlo a b=pla a from by simp [rlo,es],show rhi a b=pla b from by simp [rhi,es]]
    clear h2 h3 es ha hb
    go_enter Tryz.func46,Tryz.ntmps46
    go_wp2
    go_quiet ((go_at_call 8;first | exact Calls.quiet_of_same (inf1_ _) | exact Calls.quiet_of_same (infm_ _)))
    go_wp2
    go_region_held3 (fun w'=>w'.cell? ⟨w.heap.size,0,none⟩=some (.float .f64 a)∧w'.cell? ⟨w.heap.size,1,none⟩=some (.float .f64 b)) (simp [go_sem,World.cell?_alloc_past]) (first | (go_at_call 84;(first | refine (hpa _).mono ?_ | refine (hpb _).mono ?_);rintro e w' ⟨rfl,rfl⟩))
    go_wp2
    exact BR (v:=.agg #[.float .f64 (pla a),.float .f64 (pla b)]) (by simp [results,Tryz.results46,go_sem] <;> simp only [*]) rfl ⟨rfl,(by repeat (with_reducible (first | assumption | exact Grown.refl _ | apply Grown.drew | apply Grown.alloc | apply gdrewN | (refine Grown.setCell ?_ (by simp <;> omega) _) | (refine gtrans ?_ (by assumption)))))⟩
 ·have h1':(FloatKind.f64.format.order a b == some Ordering.lt || FloatKind.f64.format.order a b == some Ordering.eq)=false:=by simpa using h1
  have es:snd a b=false:=by simp only [snd,h1'];simp
  rw [show rlo a b=9218868437227405312 from by simp [rlo,es],show rhi a b=18442240474082181120 from by simp [rhi,es]]
  clear h1 es ha hb t2 t3
  go_enter Tryz.func46,Tryz.ntmps46
  go_wp2
  go_quiet ((go_at_call 8;first | exact Calls.quiet_of_same (inf1_ _) | exact Calls.quiet_of_same (infm_ _)))
  go_wp2_with (first | (go_at_call 56;refine (empty6_ _).mono ?_;rintro e w' ⟨rfl,rfl⟩))
  exact BR (v:=.agg #[.float .f64 9218868437227405312,.float .f64 18442240474082181120]) (by simp [results,Tryz.results46,go_sem] <;> simp only [*]) rfl ⟨rfl,(by repeat (with_reducible (first | assumption | exact Grown.refl _ | apply Grown.drew | apply Grown.alloc | apply gdrewN | (refine Grown.setCell ?_ (by simp <;> omega) _) | (refine gtrans ?_ (by assumption)))))⟩
end Fq
namespace Fq
theorem eqIn6 (a c:Nat) (w:World):(Op.equalIn 9999 22 (.float .f64 a) (.float .f64 c)).run Tryz.prog w=.ok (FloatKind.f64.format.order a c == some Ordering.eq) w:=by kernel_rfl
end Fq
namespace Fq

theorem gfroz {W w:World} (h:Grown W w) {a:Addr} (_hb:a.block<W.heap.size):w.frozen? a=W.frozen? a:=Below.frozen h _hb
def H2 (w:World) (b:Nat) (u v:Value):Prop:=w.cell? ⟨b,0,none⟩=some u∧w.cell? ⟨b,1,none⟩=some v∧w.frozen? ⟨b,0,none⟩=false∧w.frozen? ⟨b,1,none⟩=false
theorem H2.keep {W w:World} {b:Nat} {u v:Value} (h:H2 W b u v) (g:Grown W w):H2 w b u v :=
 ⟨gkeep g h.1,gkeep g h.2.1,(gfroz g (cell_lt h.1)).trans h.2.2.1,(gfroz g (cell_lt h.1)).trans h.2.2.2⟩
theorem H2.new (w:World) (u v:Value) (t:TypeId):H2 (w.alloc (.cells #[u,v] t)) w.heap.size u v:=by
 unfold H2;simp [go_sem]
theorem H2.past {w:World} {b:Nat} {u v:Value} (h:H2 w b u v) (c:Array Value) (t:TypeId):H2 (w.alloc (.cells c t)) b u v:=h.keep (Grown.alloc (Grown.refl _) c t)
end Fq
namespace Fq
theorem H2.put {w:World} {b:Nat} {u v:Value} (h:H2 w b u v) (u' v':Value):H2 ((w.setCell ⟨b,0,none⟩ u').setCell ⟨b,1,none⟩ v') b u' v':=by
 obtain ⟨h0,h1,h2,h3⟩:=h
 unfold H2;simp [go_sem,h0,h1,h2,h3]
theorem H2.far {w:World} {b:Nat} {u v:Value} (h:H2 w b u v) {c:Nat} (hne:c≠b) (u' v':Value):H2 ((w.setCell ⟨c,0,none⟩ u').setCell ⟨c,1,none⟩ v') b u v:=by
 obtain ⟨h0,h1,h2,h3⟩:=h
 refine ⟨?_, ?_, ?_, ?_⟩
 ·rw [CF _ _ _ _ (by simpa using hne),CF _ _ _ _ (by simpa using hne)];exact h0
 ·rw [CF _ _ _ _ (by simpa using hne),CF _ _ _ _ (by simpa using hne)];exact h1
 ·simp only [World.frozen?_setCell];exact h2
 ·simp only [World.frozen?_setCell];exact h3
end Fq
namespace Fq

theorem xor_full (Y:Nat) (h:Y<18446744073709551616):18446744073709551615 ^^^ Y=18446744073709551615 - Y:=by
 have e:18446744073709551615 - Y=2 ^ 64 - (Y+1):=by omega
 rw [e,show 18446744073709551615=2 ^ 64 - 1 from by decide]
 apply Nat.eq_of_testBit_eq
 intro i
 rw [Nat.testBit_xor,Nat.testBit_two_pow_sub_one,Nat.testBit_two_pow_sub_succ (by omega)]
 by_cases c:i<64
 ·simp [c]
 ·have:Y.testBit i=false:=Nat.testBit_lt_two_pow (Nat.lt_of_lt_of_le (show Y<2 ^ 64 by omega) (Nat.pow_le_pow_right (by decide) (by omega)))
  simp [c,this]
theorem noTop6 (n:Bool) (m X:Nat) (hm:m<9223372036854775808) (hX:X=wD n m):bits .andNot .u64 (X:Int) 9223372036854775808=(m:Int)∧X<18446744073709551616:=by
 have hX9:X<18446744073709551616:=by rw [hX];unfold wD;split <;> omega
 have h:=u64_andNot_nat X 9223372036854775808 hX9 (by decide)
 have e:X % 9223372036854775808=m:=by rw [hX];unfold wD;split <;> omega
 rw [show 18446744073709551615 - 9223372036854775808=2 ^ 63 - 1 from by decide,Nat.and_two_pow_sub_one_eq_mod,show (2:Nat) ^ 63=9223372036854775808 from by decide,e] at h
 exact ⟨h,hX9⟩
theorem isnan6_ (n:Bool) (m:Nat) (hm:m<9223372036854775808) (w:World):Calls Tryz.prog 77 #[.int .u64 ((wD n m:Nat):Int)] w fun e w'=>e=.returned (.bool (decide (9218868437227405312<m)))∧w'=w:=by
 obtain ⟨X,hX⟩:∃ X,X=wD n m:=⟨_,rfl⟩
 have f1:=(noTop6 n m X hm hX).1
 rw [← hX]
 clear hX hm
 by_cases c:9218868437227405312<m
 ·have t1:9218868437227405312<(m:Int):=by omega
  rw [decide_eq_true c]
  clear c
  go_enter Tryz.func77,Tryz.ntmps77
  go_wp2
  exact BR (v:=.bool true) (by simp [results,Tryz.results77,go_sem] <;> omega) rfl ⟨rfl,rfl⟩
 ·have t1:¬ (9218868437227405312<(m:Int)):=by omega
  rw [decide_eq_false c]
  clear c
  go_enter Tryz.func77,Tryz.ntmps77
  go_wp2
  exact BR (v:=.bool false) (by simp [results,Tryz.results77,go_sem] <;> omega) rfl ⟨rfl,rfl⟩
theorem rplain6_ (n:Bool) (m:Nat) (hm:m≤9218868437227405312) (w:World):Calls Tryz.prog 65 #[.int .u64 ((wD n m:Nat):Int)] w fun e w'=>e=.returned (.int .u64 ((pla (wD n m):Nat):Int))∧w'=w:=by
 have hn:=isnan6_ n m (by omega)
 rw [decide_eq_false (by omega)] at hn
 obtain ⟨X,hX⟩:∃ X,X=wD n m:=⟨_,rfl⟩
 rw [← hX] at hn ⊢
 clear hX hm
 by_cases c:X=9223372036854775808
 ·have t:((X:Int) == 9223372036854775808)=true:=by rw [c];rfl
  rw [show pla X=0 from by simp [pla,c]]
  clear c hn
  go_enter Tryz.func65,Tryz.ntmps65
  go_wp2
  exact BR (v:=.int .u64 0) (by simp [results,Tryz.results65,go_sem] <;> simp only [*]) rfl ⟨rfl,rfl⟩
 ·have t:((X:Int) == 9223372036854775808)=false:=by simp;omega
  rw [show pla X=X from by simp [pla,c]]
  clear c
  go_enter Tryz.func65,Tryz.ntmps65
  go_wp2_with (first | (go_at_call 77;refine (hn _).mono ?_;rintro e w' ⟨rfl,rfl⟩))
  exact BR (v:=.int .u64 (X:Int)) (by simp [results,Tryz.results65,go_sem] <;> simp only [*]) rfl ⟨rfl,rfl⟩
theorem key6_ (n:Bool) (m:Nat) (hm:m≤9218868437227405312) (w:World):Calls Tryz.prog 78 #[.int .u64 ((wD n m:Nat):Int)] w fun e w'=>e=.returned (.int .u64 ((kyN (wD n m):Nat):Int))∧w'=w:=by
 have hp:=rplain6_ n m hm
 have hb:pla (wD n m)<18446744073709551616:=pla_lt _ (by unfold wD;split <;> omega)
 obtain ⟨X,hX⟩:∃ X,X=wD n m:=⟨_,rfl⟩
 rw [← hX] at hp hb ⊢
 unfold kyN
 obtain ⟨Y,hY⟩:∃ Y,Y=pla X:=⟨_,rfl⟩
 rw [← hY] at hp hb ⊢
 clear hX hm hY
 by_cases c:9223372036854775808≤Y
 ·have t:9223372036854775808≤(Y:Int):=by omega
  have u:bits .xor .u64 IntKind.u64.max (Y:Int)=((18446744073709551615 - Y:Nat):Int):=by
   have h:=u64_xor_nat 18446744073709551615 Y (by decide) hb
   rw [xor_full Y hb] at h
   exact h
  rw [if_pos c]
  clear c hb
  obtain ⟨Z,hZ⟩:∃ Z:Nat,Z=18446744073709551615 - Y:=⟨_,rfl⟩
  rw [← hZ] at u ⊢
  clear hZ
  go_enter Tryz.func78,Tryz.ntmps78
  go_wp2_with (first | (go_at_call 65;refine (hp _).mono ?_;rintro e w' ⟨rfl,rfl⟩))
  exact BR (v:=.int .u64 (Z:Int)) (by simp [results,Tryz.results78,go_sem] <;> simp only [*]) rfl ⟨rfl,rfl⟩
 ·have t:decide (9223372036854775808≤(Y:Int))=false:=decide_eq_false (by omega)
  have u:bits .or .u64 (Y:Int) 9223372036854775808=((Y+9223372036854775808:Nat):Int):=by
   have h:=u64_or_nat Y 9223372036854775808 hb (by decide)
   have h9:=Nat.two_pow_add_eq_or_of_lt (i:=63) (b:=Y) (by omega) 1
   rw [show 2 ^ 63*1=9223372036854775808 from by decide] at h9
   rw [Nat.or_comm,← h9,Nat.add_comm] at h
   exact h
  rw [if_neg c]
  clear c hb
  obtain ⟨Z,hZ⟩:∃ Z:Nat,Z=Y+9223372036854775808:=⟨_,rfl⟩
  rw [← hZ] at u ⊢
  clear hZ
  go_enter Tryz.func78,Tryz.ntmps78
  go_wp2_with (first | (go_at_call 65;refine (hp _).mono ?_;rintro e w' ⟨rfl,rfl⟩))
  exact BR (v:=.int .u64 (Z:Int)) (by simp [results,Tryz.results78,go_sem] <;> simp only [*]) rfl ⟨rfl,rfl⟩
theorem above6_ (n n':Bool) (m m':Nat) (hm:m<9223372036854775808) (hm':m'<9223372036854775808) (w:World):Calls Tryz.prog 39 #[.int .u64 ((wD n m:Nat):Int),.int .u64 ((wD n' m':Nat):Int)] w fun e w'=>e=.returned (.bool (decide (m≤9218868437227405312∧m'≤9218868437227405312∧plz n' m'<plz n m)))∧w'=w:=by
 have hn:=isnan6_ n m hm
 have hn':=isnan6_ n' m' hm'
 have kl:=kyN_lt n' n m' m
 have hk:=key6_ n m
 have hk':=key6_ n' m'
 have e1:m≤9218868437227405312→m'≤9218868437227405312→decide (m≤9218868437227405312∧m'≤9218868437227405312∧plz n' m'<plz n m)=decide ((kyN (wD n' m'):Int)<(kyN (wD n m):Int)):=by
  intro h1 h2
  have kl:=kl h2 h1
  have:((kyN (wD n' m'):Int)<(kyN (wD n m):Int)) ↔ plz n' m'<plz n m:=by rw [← kl];omega
  simp only [this];congr 1;apply propext;omega
 clear kl
 obtain ⟨X,hX⟩:∃ X,X=wD n m:=⟨_,rfl⟩
 obtain ⟨Y,hY⟩:∃ Y,Y=wD n' m':=⟨_,rfl⟩
 rw [← hX] at hn hk e1 ⊢
 rw [← hY] at hn' hk' e1 ⊢
 clear hX hY
 by_cases c1:9218868437227405312<m
 ·rw [decide_eq_true c1] at hn
  rw [decide_eq_false (by omega)]
  clear c1 e1 hk hk' hm hm' hn'
  go_enter Tryz.func39,Tryz.ntmps39
  go_wp2_with (first | (go_at_call 77;refine (hn _).mono ?_;rintro e w' ⟨rfl,rfl⟩))
  exact BR (v:=.bool false) (by simp [results,Tryz.results39,go_sem] <;> simp only [*]) rfl ⟨rfl,rfl⟩
 rw [decide_eq_false c1] at hn
 by_cases c2:9218868437227405312<m'
 ·rw [decide_eq_true c2] at hn'
  rw [decide_eq_false (by omega)]
  clear c1 c2 e1 hk hk' hm hm'
  go_enter Tryz.func39,Tryz.ntmps39
  go_wp2_with (first | (go_at_call_of 77 (Value.int .u64 (X:Int));refine (hn _).mono ?_;rintro e w' ⟨rfl,rfl⟩) | (go_at_call_of 77 (Value.int .u64 (Y:Int));refine (hn' _).mono ?_;rintro e w' ⟨rfl,rfl⟩))
  exact BR (v:=.bool false) (by simp [results,Tryz.results39,go_sem] <;> simp only [*]) rfl ⟨rfl,rfl⟩
 rw [decide_eq_false c2] at hn'
 have hk:=hk (by omega)
 have hk':=hk' (by omega)
 rw [e1 (by omega) (by omega)]
 clear e1 c1 c2 hm hm'
 generalize kyN X=KX at hk ⊢
 generalize kyN Y=KY at hk' ⊢
 go_enter Tryz.func39,Tryz.ntmps39
 go_wp2_with (first | (go_at_call_of 77 (Value.int .u64 (X:Int));refine (hn _).mono ?_;rintro e w' ⟨rfl,rfl⟩) | (go_at_call_of 77 (Value.int .u64 (Y:Int));refine (hn' _).mono ?_;rintro e w' ⟨rfl,rfl⟩) | (go_at_call_of 78 (Value.int .u64 (X:Int));refine (hk _).mono ?_;rintro e w' ⟨rfl,rfl⟩) | (go_at_call_of 78 (Value.int .u64 (Y:Int));refine (hk' _).mono ?_;rintro e w' ⟨rfl,rfl⟩))
 exact BR (v:=.bool (decide ((KY:Int)<(KX:Int)))) (by simp [results,Tryz.results39,go_sem] <;> simp only [*]) rfl ⟨rfl,rfl⟩
end Fq
namespace Fq
theorem rempty_ (w:World):Calls Tryz.prog 24 #[] w fun e w'=>e=.returned (.agg #[.int .u64 9218868437227405312,.int .u64 18442240474082181120])∧w'=w.alloc (.cells #[.int .u64 9218868437227405312,.int .u64 18442240474082181120] 33):=by
 go_enter Tryz.func24,Tryz.ntmps24
 go_wp2
 exact BR (v:=.agg #[.int .u64 9218868437227405312,.int .u64 18442240474082181120]) (by simp [results,Tryz.results24,go_sem] <;> simp only [*]) rfl ⟨rfl,rfl⟩
theorem sound_ (n n':Bool) (m m':Nat) (hm:m<9223372036854775808) (hm':m'<9223372036854775808) (w:World):Calls Tryz.prog 64 #[.agg #[.int .u64 (((wD n m):Nat):Int),.int .u64 (((wD n' m'):Nat):Int)]] w fun e w'=>e=.returned (.bool (snd (wD n m) (wD n' m')))∧w'=w.alloc (.cells #[.int .u64 (((wD n m):Nat):Int),.int .u64 (((wD n' m'):Nat):Int)] 33):=by
 have hn:=isnan6_ n m hm
 have hn':=isnan6_ n' m' hm'
 have ha:=above6_ n n' m m' hm hm'
 have es:=snd_w n n' m m' hm hm'
 have e1:(wD n m=9218868437227405312) ↔ (n=false∧m=9218868437227405312):=by unfold wD;cases n <;> simp;omega
 have e2:(wD n' m'=18442240474082181120) ↔ (n'=true∧m'=9218868437227405312):=by unfold wD;cases n' <;> simp <;> omega
 obtain ⟨X,hX⟩:∃ X,X=wD n m:=⟨_,rfl⟩
 obtain ⟨Y,hY⟩:∃ Y,Y=wD n' m':=⟨_,rfl⟩
 rw [← hX] at hn ha es e1 ⊢
 rw [← hY] at hn' ha es e2 ⊢
 clear hX hY
 rw [es]
 by_cases c1:9218868437227405312<m
 ·rw [decide_eq_true c1] at hn
  rw [decide_eq_false (by omega)]
  clear c1 es e1 e2 hm hm' hn' ha
  go_enter Tryz.func64,Tryz.ntmps64
  go_wp2_with (first | (go_at_call_of 77 (Value.int .u64 (X:Int));refine (hn _).mono ?_;rintro e w' ⟨rfl,rfl⟩))
  exact BR (v:=.bool false) (by simp [results,Tryz.results64,go_sem] <;> simp only [*]) rfl ⟨rfl,rfl⟩
 rw [decide_eq_false c1] at hn
 by_cases c2:9218868437227405312<m'
 ·rw [decide_eq_true c2] at hn'
  rw [decide_eq_false (by omega)]
  clear c1 c2 es e1 e2 hm hm' ha
  go_enter Tryz.func64,Tryz.ntmps64
  go_wp2_with (first | (go_at_call_of 77 (Value.int .u64 (X:Int));refine (hn _).mono ?_;rintro e w' ⟨rfl,rfl⟩) | (go_at_call_of 77 (Value.int .u64 (Y:Int));refine (hn' _).mono ?_;rintro e w' ⟨rfl,rfl⟩))
  exact BR (v:=.bool false) (by simp [results,Tryz.results64,go_sem] <;> simp only [*]) rfl ⟨rfl,rfl⟩
 rw [decide_eq_false c2] at hn'
 by_cases c3:plz n' m'<plz n m
 ·rw [decide_eq_true ⟨by omega,by omega,c3⟩] at ha
  rw [decide_eq_false (by omega)]
  clear c1 c2 c3 es e1 e2 hm hm'
  go_enter Tryz.func64,Tryz.ntmps64
  go_wp2_with (first | (go_at_call_of 77 (Value.int .u64 (X:Int));refine (hn _).mono ?_;rintro e w' ⟨rfl,rfl⟩) | (go_at_call_of 77 (Value.int .u64 (Y:Int));refine (hn' _).mono ?_;rintro e w' ⟨rfl,rfl⟩) | (go_at_call 39;refine (ha _).mono ?_;rintro e w' ⟨rfl,rfl⟩))
  exact BR (v:=.bool false) (by simp [results,Tryz.results64,go_sem] <;> simp only [*]) rfl ⟨rfl,rfl⟩
 rw [decide_eq_false (by omega)] at ha
 by_cases c4:X=9218868437227405312
 ·have t4:((X:Int) != 9218868437227405312)=false:=by rw [c4];rfl
  rw [decide_eq_false (fun h=>h.2.2.2.1 (e1.mp c4))]
  clear c1 c2 c3 c4 es e1 e2 hm hm'
  go_enter Tryz.func64,Tryz.ntmps64
  go_wp2_with (first | (go_at_call_of 77 (Value.int .u64 (X:Int));refine (hn _).mono ?_;rintro e w' ⟨rfl,rfl⟩) | (go_at_call_of 77 (Value.int .u64 (Y:Int));refine (hn' _).mono ?_;rintro e w' ⟨rfl,rfl⟩) | (go_at_call 39;refine (ha _).mono ?_;rintro e w' ⟨rfl,rfl⟩))
  exact BR (v:=.bool false) (by simp [results,Tryz.results64,go_sem] <;> simp only [*]) rfl ⟨rfl,rfl⟩
 have t4:((X:Int) != 9218868437227405312)=true:=by simp;omega
 by_cases c5:Y=18442240474082181120
 ·have t5:((Y:Int) != 18442240474082181120)=false:=by rw [c5];rfl
  rw [decide_eq_false (fun h=>h.2.2.2.2 (e2.mp c5))]
  clear c1 c2 c3 c4 c5 es e1 e2 hm hm'
  go_enter Tryz.func64,Tryz.ntmps64
  go_wp2_with (first | (go_at_call_of 77 (Value.int .u64 (X:Int));refine (hn _).mono ?_;rintro e w' ⟨rfl,rfl⟩) | (go_at_call_of 77 (Value.int .u64 (Y:Int));refine (hn' _).mono ?_;rintro e w' ⟨rfl,rfl⟩) | (go_at_call 39;refine (ha _).mono ?_;rintro e w' ⟨rfl,rfl⟩))
  exact BR (v:=.bool false) (by simp [results,Tryz.results64,go_sem] <;> simp only [*]) rfl ⟨rfl,rfl⟩
 have t5:((Y:Int) != 18442240474082181120)=true:=by simp;omega
 rw [decide_eq_true ⟨by omega,by omega,by omega,fun h=>c4 (e1.mpr h),fun h=>c5 (e2.mpr h)⟩]
 clear c1 c2 c3 c4 c5 es e1 e2 hm hm'
 go_enter Tryz.func64,Tryz.ntmps64
 go_wp2_with (first | (go_at_call_of 77 (Value.int .u64 (X:Int));refine (hn _).mono ?_;rintro e w' ⟨rfl,rfl⟩) | (go_at_call_of 77 (Value.int .u64 (Y:Int));refine (hn' _).mono ?_;rintro e w' ⟨rfl,rfl⟩) | (go_at_call 39;refine (ha _).mono ?_;rintro e w' ⟨rfl,rfl⟩))
 exact BR (v:=.bool true) (by simp [results,Tryz.results64,go_sem] <;> simp only [*]) rfl ⟨rfl,rfl⟩
theorem rread_ (n n':Bool) (m m':Nat) (hm:m<9223372036854775808) (hm':m'<9223372036854775808) (w:World):Calls Tryz.prog 22 #[.agg #[.int .u64 (((wD n m):Nat):Int),.int .u64 (((wD n' m'):Nat):Int)]] w fun e w'=>e=.returned (.agg #[.int .u64 (((rlo (wD n m) (wD n' m')):Nat):Int),.int .u64 (((rhi (wD n m) (wD n' m')):Nat):Int)])∧Grown w w':=by
 have hs:=sound_ n n' m m' hm hm'
 have es:=snd_w n n' m m' hm hm'
 have hp:=rplain6_ n m
 have hp':=rplain6_ n' m'
 obtain ⟨X,hX⟩:∃ X,X=wD n m:=⟨_,rfl⟩
 obtain ⟨Y,hY⟩:∃ Y,Y=wD n' m':=⟨_,rfl⟩
 rw [← hX] at hs es hp ⊢
 rw [← hY] at hs es hp' ⊢
 clear hX hY
 by_cases c:snd X Y=true
 ·rw [c] at hs
  rw [show rlo X Y=pla X from by simp [rlo,c],show rhi X Y=pla Y from by simp [rhi,c]]
  rw [c] at es
  replace es:=of_decide_eq_true es.symm
  replace hp:=hp es.1
  replace hp':=hp' es.2.1
  clear es c hm hm'
  generalize ((pla X:Nat):Int)=PX at hp ⊢
  generalize ((pla Y:Nat):Int)=PY at hp' ⊢
  generalize (X:Int)=X at hs hp ⊢
  generalize (Y:Int)=Y at hs hp' ⊢
  go_enter Tryz.func22,Tryz.ntmps22
  go_wp2_with (first | (go_at_call 64;refine (hs _).mono ?_;rintro e w' ⟨rfl,rfl⟩))
  go_region_held3 (fun w'=>w'.cell? ⟨w.heap.size,0,none⟩=some (.int .u64 X)∧w'.cell? ⟨w.heap.size,1,none⟩=some (.int .u64 Y)) (simp [go_sem,World.cell?_alloc_past]) (first | (go_at_call_of 65 (Value.int .u64 X);refine (hp _).mono ?_;rintro e w' ⟨rfl,rfl⟩) | (go_at_call_of 65 (Value.int .u64 Y);refine (hp' _).mono ?_;rintro e w' ⟨rfl,rfl⟩))
  go_wp2
  exact BR (v:=.agg #[.int .u64 PX,.int .u64 PY]) (by simp [results,Tryz.results22,go_sem] <;> simp only [*]) rfl ⟨rfl,(by repeat (with_reducible (first | assumption | exact Grown.refl _ | apply Grown.drew | apply Grown.alloc | apply gdrewN | (refine Grown.setCell ?_ (by simp <;> omega) _) | (refine gtrans ?_ (by assumption)))))⟩
 ·have c:snd X Y=false:=by simpa using c
  rw [c] at hs
  rw [show rlo X Y=9218868437227405312 from by simp [rlo,c],show rhi X Y=18442240474082181120 from by simp [rhi,c]]
  clear es c hm hm' hp hp'
  go_enter Tryz.func22,Tryz.ntmps22
  go_wp2_with (first | (go_at_call 64;refine (hs _).mono ?_;rintro e w' ⟨rfl,rfl⟩) | (go_at_call 24;refine (rempty_ _).mono ?_;rintro e w' ⟨rfl,rfl⟩))
  exact BR (v:=.agg #[.int .u64 9218868437227405312,.int .u64 18442240474082181120]) (by simp [results,Tryz.results22,go_sem] <;> simp only [*]) rfl ⟨rfl,(by repeat (with_reducible (first | assumption | exact Grown.refl _ | apply Grown.drew | apply Grown.alloc | apply gdrewN | (refine Grown.setCell ?_ (by simp <;> omega) _) | (refine gtrans ?_ (by assumption)))))⟩
end Fq
namespace Fq
def vld (a b:Nat):Bool:=decide (a=9218868437227405312∧b=18442240474082181120) || (snd a b && (!(decide (a=9223372036854775808)) && !(decide (b=9223372036854775808))))
theorem rvalid_ (n n':Bool) (m m':Nat) (hm:m<9223372036854775808) (hm':m'<9223372036854775808) (w:World):Calls Tryz.prog 40 #[.agg #[.int .u64 (((wD n m):Nat):Int),.int .u64 (((wD n' m'):Nat):Int)]] w fun e w'=>e=.returned (.bool (vld (wD n m) (wD n' m')))∧Grown w w':=by
 have hs:=sound_ n n' m m' hm hm'
 unfold vld
 generalize snd (wD n m) (wD n' m')=s at hs ⊢
 have t1:decide (wD n m=9218868437227405312∧wD n' m'=18442240474082181120)=((((wD n m:Nat):Int) == 9218868437227405312) && (((wD n' m':Nat):Int) == 18442240474082181120)):=by
  by_cases c1:wD n m=9218868437227405312 <;> by_cases c2:wD n' m'=18442240474082181120 <;> simp [c1,c2] <;> omega
 have t3:(!decide (wD n m=9223372036854775808))=(((wD n m:Nat):Int) != 9223372036854775808):=by
  by_cases c1:wD n m=9223372036854775808 <;> simp [c1] <;> omega
 have t4:(!decide (wD n' m'=9223372036854775808))=(((wD n' m':Nat):Int) != 9223372036854775808):=by
  by_cases c1:wD n' m'=9223372036854775808 <;> simp [c1] <;> omega
 rw [t1,t3,t4]
 clear t1 t3 t4 hm hm'
 generalize ((wD n m:Nat):Int)=X at hs ⊢
 generalize ((wD n' m':Nat):Int)=Y at hs ⊢
 generalize h1:(X == 9218868437227405312)=E1
 generalize h2:(Y == 18442240474082181120)=E2
 generalize h3:(X != 9223372036854775808)=E3
 generalize h4:(Y != 9223372036854775808)=E4
 cases E1
 ·cases s <;> cases E2 <;> cases E3 <;> cases E4
  all_goals (
   go_enter Tryz.func40,Tryz.ntmps40
   go_wp2
   go_region_held3 (fun w'=>w'.cell? ⟨w.heap.size,0,none⟩=some (.int .u64 X)∧w'.cell? ⟨w.heap.size,1,none⟩=some (.int .u64 Y)) (simp [go_sem]) (first | (go_at_call 24;refine (rempty_ _).mono ?_;rintro e w' ⟨rfl,rfl⟩))
   go_wp2_with (first | (go_at_call 64;refine (hs _).mono ?_;rintro e w' ⟨rfl,rfl⟩))
   exact BR (v:=.bool _) (by simp [results,Tryz.results40,go_sem] <;> simp only [*]) rfl ⟨rfl,(by repeat (with_reducible (first | assumption | exact Grown.refl _ | apply Grown.drew | apply Grown.alloc | apply gdrewN | (refine Grown.setCell ?_ (by simp <;> omega) _) | (refine gtrans ?_ (by assumption)))))⟩)
 cases E2
 ·cases s <;> cases E3 <;> cases E4
  all_goals (
   go_enter Tryz.func40,Tryz.ntmps40
   go_wp2
   go_region_held3 (fun w'=>w'.cell? ⟨w.heap.size,0,none⟩=some (.int .u64 X)∧w'.cell? ⟨w.heap.size,1,none⟩=some (.int .u64 Y)) (simp [go_sem]) (first | (go_at_call 24;refine (rempty_ _).mono ?_;rintro e w' ⟨rfl,rfl⟩))
   go_wp2_with (first | (go_at_call 64;refine (hs _).mono ?_;rintro e w' ⟨rfl,rfl⟩))
   exact BR (v:=.bool _) (by simp [results,Tryz.results40,go_sem] <;> simp only [*]) rfl ⟨rfl,(by repeat (with_reducible (first | assumption | exact Grown.refl _ | apply Grown.drew | apply Grown.alloc | apply gdrewN | (refine Grown.setCell ?_ (by simp <;> omega) _) | (refine gtrans ?_ (by assumption)))))⟩)
 ·cases s <;> cases E3 <;> cases E4
  all_goals (
   go_enter Tryz.func40,Tryz.ntmps40
   go_wp2
   go_region_held3 (fun w'=>w'.cell? ⟨w.heap.size,0,none⟩=some (.int .u64 X)∧w'.cell? ⟨w.heap.size,1,none⟩=some (.int .u64 Y)) (simp [go_sem]) (first | (go_at_call 24;refine (rempty_ _).mono ?_;rintro e w' ⟨rfl,rfl⟩))
   go_wp2_with (first | (go_at_call 64;refine (hs _).mono ?_;rintro e w' ⟨rfl,rfl⟩))
   exact BR (v:=.bool _) (by simp [results,Tryz.results40,go_sem] <;> simp only [*]) rfl ⟨rfl,(by repeat (with_reducible (first | assumption | exact Grown.refl _ | apply Grown.drew | apply Grown.alloc | apply gdrewN | (refine Grown.setCell ?_ (by simp <;> omega) _) | (refine gtrans ?_ (by assumption)))))⟩)
end Fq
def opP (x:Nat):Nat:=if x % 9223372036854775808=0 then 0 else if x<9223372036854775808 then x+9223372036854775808 else x - 9223372036854775808
theorem opP_w (n:Bool) (m:Nat) (hm:m<9223372036854775808):opP (Fq.wD n m)=mnP n m:=by
 unfold opP mnP Fq.pla Fq.wD
 cases n <;> simp <;> repeat' split
 all_goals omega
theorem minus6_ (n:Bool) (m:Nat) (hm:m≤9218868437227405312) (w:World):Calls Tryz.prog 83 #[.float .f64 (Fq.wD n m)] w fun e w'=>e=.returned (.float .f64 (opP (Fq.wD n m)))∧w'=w:=by
 have e1:=sub_zero_w n m hm
 rw [← opP_w n m (by omega)] at e1
 generalize Fq.wD n m=X at e1 ⊢
 generalize opP X=Z at e1 ⊢
 have g1:∀ w:World,(binOp .sub 22 (.float .f64 0) (.float .f64 X)).run Tryz.prog w=.ok (.float .f64 Z) w:=fun w=>run_float_arith w .sub 22 .f64 0 X Z e1
 clear e1 hm
 go_enter Tryz.func83,Tryz.ntmps83
 go_wp2
 exact BR (v:=.float .f64 Z) (by simp [results,Tryz.results83,go_sem]) rfl ⟨rfl,rfl⟩
theorem Fq.H2.two0 (w:World) (a b c d:Value) (s t:TypeId):Fq.H2 ((w.alloc (.cells #[a,b] s)).alloc (.cells #[c,d] t)) (w.heap.size+1) c d:=by
 unfold Fq.H2;simp [go_sem]
theorem neg6c_ (a b LO HI NL NH:Nat) (hr:KC 46 #[.agg #[.float .f64 a,.float .f64 b]] (.agg #[.float .f64 LO,.float .f64 HI])) (h1:SC 83 #[.float .f64 LO] (.float .f64 NL)) (h2:SC 83 #[.float .f64 HI] (.float .f64 NH)) (w:World):Calls Tryz.prog 44 #[.agg #[.float .f64 a,.float .f64 b]] w fun e w'=>e=.returned (.agg #[.float .f64 NH,.float .f64 NL])∧Kp w w':=by
 go_enter Tryz.func44,Tryz.ntmps44
 go_wp2_with (first | (go_at_call 46;refine (hr _).mono ?_;rintro e w1 ⟨rfl,g1⟩;have q0:=Fq.H2.keep (Fq.H2.past (Fq.H2.new w (.float .f64 a) (.float .f64 b) 25) #[.float .f64 0,.float .f64 0] 25) g1;have q1:Fq.H2 w1 (w.heap.size+1) (.float .f64 0) (.float .f64 0):=Fq.H2.keep (Fq.H2.two0 w (.float .f64 a) (.float .f64 b) (.float .f64 0) (.float .f64 0) 25 25) g1;obtain ⟨x0,x1,x2,x3⟩:=id q0;obtain ⟨y0,y1,y2,y3⟩:=id q1))
 have kw:Kp w w1:=Kp.trans (((Kp.refl w).alloc _).alloc _) g1
 have qx:=Fq.H2.put q0 (.float .f64 LO) (.float .f64 HI)
 have qy:=Fq.H2.far q1 (show w.heap.size≠w.heap.size+1 by omega) (.float .f64 LO) (.float .f64 HI)
 have kW:Kp w ((w1.setCell ⟨w.heap.size,0,none⟩ (.float .f64 LO)).setCell ⟨w.heap.size,1,none⟩ (.float .f64 HI)):=(kw.setCell (Nat.le_refl _) _).setCell (Nat.le_refl _) _
 generalize hW:(w1.setCell ⟨w.heap.size,0,none⟩ (.float .f64 LO)).setCell ⟨w.heap.size,1,none⟩ (.float .f64 HI)=W at qx qy kW ⊢
 clear hW kw q0 q1 g1 x0 x1 x2 x3 y0 y1 y2 y3
 obtain ⟨x0,x1,x2,x3⟩:=id qx
 obtain ⟨y0,y1,y2,y3⟩:=id qy
 go_region_held3 (fun w'=>w'.cell? ⟨w.heap.size,0,none⟩=some (.float .f64 LO)∧w'.cell? ⟨w.heap.size,1,none⟩=some (.float .f64 HI)) (first | (exact ⟨x0,x1⟩) | (exact ⟨(CF _ _ _ _ (by simp)).trans ((CF _ _ _ _ (by simp)).trans x0),(CF _ _ _ _ (by simp)).trans ((CF _ _ _ _ (by simp)).trans x1)⟩)) (first | (go_at_call_of 83 (Value.float .f64 HI);refine (h2 _).mono ?_;rintro e w' ⟨rfl,rfl⟩) | (go_at_call_of 83 (Value.float .f64 LO);refine (h1 _).mono ?_;rintro e w' ⟨rfl,rfl⟩))
 go_wp2
 exact BR (v:=.agg #[.float .f64 NH,.float .f64 NL]) (by simp [results,Tryz.results44,go_sem,y0,y1]) rfl ⟨rfl,(by repeat (with_reducible (first | assumption | exact Kp.refl _ | apply Kp.drew | apply Kp.alloc | apply Kp.drewN | (refine Kp.setCell ?_ (by first | omega | (simp <;> omega)) _) | (refine Kp.trans ?_ (by assumption)))))⟩

def RF (s:Bool) (a b:Nat) (n:Bool) (m:Nat):Prop:=∀ K:Nat,K=1074→b≠0∧a*2 ^ K=Fq.vV Ieee.double m*b∧Iv n m=(if s then -((Fq.vV Ieee.double m:Nat):Int) else ((Fq.vV Ieee.double m:Nat):Int))∧blen a≤1500∧blen b≤1500
def RP (base:Nat) (w:World) (s:Bool) (p:Option Addr) (l c:Nat) (q:Option Addr) (k d:Nat) (n:Bool) (m:Nat):Prop:=∃ a b,Own w base (.slice p l c) (dig a)∧Own w base (.slice q k d) (dig b)∧RF s a b n m
theorem RP.mono {base base':Nat} {w:World} {s:Bool} {p:Option Addr} {l c:Nat} {q:Option Addr} {k d:Nat} {n:Bool} {m:Nat} (h:RP base w s p l c q k d n m) (g:base'≤base):RP base' w s p l c q k d n m:=by
 obtain ⟨a,b,h1,h2,h3⟩:=h
 exact ⟨a,b,h1.mono g,h2.mono g,h3⟩
theorem RP.set {base:Nat} {w:World} {s:Bool} {p:Option Addr} {l c:Nat} {q:Option Addr} {k d:Nat} {n:Bool} {m:Nat} (h:RP base w s p l c q k d n m) {x:Addr} (hx:x.block<base) (u:Value):RP base (w.setCell x u) s p l c q k d n m:=by
 obtain ⟨a,b,h1,h2,h3⟩:=h
 exact ⟨a,b,h1.setOther hx u,h2.setOther hx u,h3⟩
theorem fromR_ (n:Bool) (m:Nat) (hm:m<9218868437227405312) (w:World):Calls Tryz.prog 26 #[.int .u64 ((Fq.wD n m:Nat):Int)] w fun e w'=>∃ s p l c q k d,e=.returned (.agg #[.bool s,.slice p l c,.slice q k d])∧RP w.heap.size w' s p l c q k d n m∧Kp w w':=by
 have h:=fromBits_ n m hm w
 refine Calls.mono (show Calls Tryz.prog 26 #[.int .u64 ((Fq.wD n m:Nat):Int)] w _ from h) ?_
 rintro e w' ⟨vn,vd,a,b,s,rfl,o1,o2,⟨hF,hs⟩,g⟩
 obtain ⟨p,c,rfl,-,-⟩:=o1.arr
 obtain ⟨q,d,rfl,-,-⟩:=o2.arr
 obtain ⟨v1,v2,v3,v4,v5⟩:=Fq.vlsgD m hm
 have hF':FracOf (Fq.sgD m) 1 (Fq.epD m) a b:=hF
 have hs':Fq.sgD m≠0→s=n:=hs
 have hval:Fq.vV Ieee.double m=Fq.sgD m*2 ^ (Fq.epD m+1074).toNat:=v1.symm
 refine ⟨s,p,_,c,q,_,d,rfl,⟨a,b,o1,o2,fun K hK=>⟨hF'.1, ?_, ?_, ?_, ?_⟩⟩,g⟩
 ·by_cases c0:Fq.sgD m=0
  ·rw [hval,c0,hF'.2.1.2 c0];simp
  ·rw [hval]
   exact frac_exact (Fq.sgD m) (Fq.epD m) a b K (Fq.epD m+1074).toNat hF' c0 (by omega)
 ·unfold Iv
  by_cases c0:Fq.sgD m=0
  ·have:Fq.vV Ieee.double m=0:=by rw [hval,c0];simp
   rw [this];cases n <;> cases s <;> simp
  ·rw [hs' c0]
 ·have h1:=hF'.2.2.2.1
  have h2:blen (Fq.sgD m)≤53:=by rw [blen_le_iff,show (2:Nat) ^ 53=9007199254740992 from by decide];exact v2
  omega
 ·have h1:=hF'.2.2.2.2
  have h2:blen 1=1:=blen_uniq 1 0 (by decide) (by decide)
  omega
theorem dig_zero6:dig 0=[]:=by decide +kernel
theorem dig_one6:dig 1=[1]:=by decide +kernel
theorem int0_ (w:World):Calls Tryz.prog 32 #[.int .i64 0] w fun e w'=>∃ s p l c q k d,e=.returned (.agg #[.bool s,.slice p l c,.slice q k d])∧RP w.heap.size w' s p l c q k d false 0∧Kp w w':=by
 obtain ⟨B,hB⟩:∃ B,B=w.heap.size:=⟨_,rfl⟩
 obtain ⟨w0,hw0⟩:∃ w0,w0=w.alloc (.cells #[.bool false,.slice none 0 0,.slice none 0 0] 43):=⟨_,rfl⟩
 have kw:Kp w w0:=by rw [hw0];exact (Kp.refl w).alloc _
 obtain ⟨r0,r1,r2,f0,f1,f2⟩:w0.cell? ⟨B,0,none⟩=some (.bool false)∧w0.cell? ⟨B,1,none⟩=some (.slice none 0 0)∧w0.cell? ⟨B,2,none⟩=some (.slice none 0 0)∧w0.frozen? ⟨B,0,none⟩=false∧w0.frozen? ⟨B,1,none⟩=false∧w0.frozen? ⟨B,2,none⟩=false:=by rw [hw0,hB];simp [go_sem]
 have hlt:=cell_lt r0
 have hs:=rsmall_ 0 (by decide) w0
 have HW:Hid (w0=w.alloc (.cells #[.bool false,.slice none 0 0,.slice none 0 0] 43)∧B=w.heap.size∧Kp w w0):=⟨hw0,hB,kw⟩
 clear hw0 hB kw
 go_enter Tryz.func32,Tryz.ntmps32
 go_wp2_with fail
 rw [← HW.out.2.1]
 try rw [← HW.out.1]
 refine hs.mono ?_;rintro e w1 ⟨v,rfl,ho,k1⟩
 obtain ⟨pv,cv,rfl,hav,hcv⟩:=ho.arr
 obtain ⟨L,hL⟩:∃ L,L=(dig 0).length:=⟨_,rfl⟩
 rw [← hL]
 obtain ⟨g4,hg4⟩:∃ g4,g4=w1.heap.size:=⟨_,rfl⟩
 obtain ⟨w4,hw4⟩:∃ w4,w4=w1.alloc (.cells #[.int .u32 1] 81):=⟨_,rfl⟩
 have k4:Kp w1 w4:=by rw [hw4];exact (Kp.refl _).alloc _
 have ar4:Arr w4 (some ⟨g4,0,none⟩) (dig 1):=by
  have h:=(row1 w1 1).all rfl
  rw [← hw4,← hg4] at h
  rw [dig_one6]
  exact h
 have h:=frac_ false (.slice pv (dig 0).length cv) (.slice (some ⟨g4,0,none⟩) (dig 1).length 1) (dig 0) (dig 1) 0 w4 ⟨pv,cv,rfl,hav.grown k4,hcv⟩ ⟨some ⟨g4,0,none⟩,1,rfl,ar4,by rw [dig_one6];decide⟩ (Wd_dig _) (Wd_dig _) (by rw [dig_zero6];decide) (by rw [dig_one6];decide) (by rw [val_dig];decide) (by decide)
 rw [val_dig,val_dig] at h
 rw [show (dig 1).length=1 from by rw [dig_one6];rfl] at h
 rw [← hL] at h
 have k04:=k1.trans k4
 have HG:Hid (g4=w1.heap.size∧w4=w1.alloc (.cells #[.int .u32 1] 81)):=⟨hg4,hw4⟩
 replace r0:=kkeep k04 r0
 replace r1:=kkeep k04 r1
 replace r2:=kkeep k04 r2
 replace f0:=(kfro k04 hlt).trans f0
 replace f1:=(kfro k04 hlt).trans f1
 replace f2:=(kfro k04 hlt).trans f2
 have HK:Hid (Kp w0 w4∧B<w0.heap.size):=⟨k04,hlt⟩
 have hlt4:=cell_lt r0
 clear hs ho hav hcv hL hg4 hw4 k4 ar4 k1 k04 hlt
 go_wp2_with fail
 rw [← HG.out.1,← HG.out.2]
 refine h.mono ?_;rintro e w5 ⟨vn,vd,a',b',ng,rfl,o1,o2,ff,k5⟩
 obtain ⟨pn,cn,rfl,an,ln⟩:=o1.arr
 obtain ⟨pd,cd,rfl,ad,ld⟩:=o2.arr
 replace r0:=kkeep k5 r0
 replace r1:=kkeep k5 r1
 replace r2:=kkeep k5 r2
 replace f0:=(kfro k5 hlt4).trans f0
 replace f1:=(kfro k5 hlt4).trans f1
 replace f2:=(kfro k5 hlt4).trans f2
 have hp:RP w4.heap.size w5 ng pn (dig a').length cn pd (dig b').length cd false 0:=by
  refine ⟨a',b',o1,o2,fun K hK=>⟨ff.1.1, ?_, ?_, ?_, ?_⟩⟩
  ·rw [ff.1.2.1.2 rfl,Fq.vV_zero];simp
  ·unfold Iv;rw [Fq.vV_zero];cases ng <;> rfl
  ·have:=ff.1.2.2.2.1;rw [ff.1.2.1.2 rfl];rw [blen_zero];omega
  ·have:=ff.1.2.2.2.2
   have h2:blen 1=1:=blen_uniq 1 0 (by decide) (by decide)
   simp at this;omega
 have hq:=(((hp.set (x:=⟨B,0,none⟩) hlt4 (.bool ng)).set (x:=⟨B,1,none⟩) hlt4 (.slice pn (dig a').length cn)).set (x:=⟨B,2,none⟩) hlt4 (.slice pd (dig b').length cd)).mono (base':=w.heap.size) (by have h1:=Below.size HW.out.2.2;have h2:=Below.size HK.out.1;omega)
 have hkw:Kp w (((w5.setCell ⟨B,0,none⟩ (.bool ng)).setCell ⟨B,1,none⟩ (.slice pn (dig a').length cn)).setCell ⟨B,2,none⟩ (.slice pd (dig b').length cd)):=by
  have hB:=HW.out.2.1
  exact ((((HW.out.2.2.trans HK.out.1).trans k5).setCell (by rw [hB];exact Nat.le_refl _) _).setCell (by rw [hB];exact Nat.le_refl _) _).setCell (by rw [hB];exact Nat.le_refl _) _
 generalize (dig a').length=La at hq hkw ⊢
 generalize (dig b').length=Lb at hq hkw ⊢
 have HO:Hid (_∧_):=⟨hq,hkw⟩
 clear h hp hq hkw o1 o2 ff k5 an ln ad ld hlt4 HG
 go_wp2
 exact BR (v:=.agg #[.bool ng,.slice pn La cn,.slice pd Lb cd]) (by simp [results,Tryz.results32,go_sem,r0,r1,r2]) rfl ⟨ng,pn,La,cn,pd,Lb,cd,rfl,HO.out.1,HO.out.2⟩
def infS (n:Bool) (m:Nat):Int:=if m=9218868437227405312 then (if n then -1 else 1) else 0
def fN (n:Bool) (m:Nat):Bool:=if m=9218868437227405312 then false else n
def fM (m:Nat):Nat:=if m=9218868437227405312 then 0 else m

def QP (base:Nat) (w:World) (s:Bool) (p:Option Addr) (l c:Nat) (q:Option Addr) (k d:Nat) (Z:Int→Nat):Prop:=∃ a b,Own w base (.slice p l c) (dig a)∧Own w base (.slice q k d) (dig b)∧b≠0∧blen a≤4194304∧blen b≤4194304∧∀ dd:Int,refW 53 1074 2098 9218868437227405311 0 dd s a b=Z dd

def H6 (w:World) (B:Nat) (a b c d e f:Value):Prop:=Fq.H2 w B a b∧Fq.H2 w (B+1) c d∧Fq.H2 w (B+2) e f
theorem H6.keep {W w:World} {B:Nat} {a b c d e f:Value} (h:H6 W B a b c d e f) (g:Kp W w):H6 w B a b c d e f:=⟨Fq.H2.keep h.1 g,Fq.H2.keep h.2.1 g,Fq.H2.keep h.2.2 g⟩
theorem H6.new (w:World) (a b c d e f:Value) (s t u:TypeId):H6 (((w.alloc (.cells #[a,b] s)).alloc (.cells #[c,d] t)).alloc (.cells #[e,f] u)) w.heap.size a b c d e f:=by
 refine ⟨?_, ?_, ?_⟩ <;> (unfold Fq.H2;simp [go_sem])
theorem H6.put {w:World} {B:Nat} {a b c d e f:Value} (h:H6 w B a b c d e f) (a' b' c' d':Value):H6 ((((w.setCell ⟨B,0,none⟩ a').setCell ⟨B,1,none⟩ b').setCell ⟨B+1,0,none⟩ c').setCell ⟨B+1,1,none⟩ d') B a' b' c' d' e f:=by
 refine ⟨?_, ?_, ?_⟩
 ·exact Fq.H2.far (Fq.H2.put h.1 a' b') (by omega) c' d'
 ·exact Fq.H2.put (Fq.H2.far h.2.1 (by omega) a' b') c' d'
 ·exact Fq.H2.far (Fq.H2.far h.2.2 (by omega) a' b') (by omega) c' d'
def SV1 (n:Bool) (m:Nat) (n':Bool) (m':Nat) (W:World) (v:Value):Prop:=∃ (s:Bool) (p:Option Addr) (l c:Nat) (q:Option Addr) (k d:Nat) (s2:Bool) (p2:Option Addr) (l2 c2:Nat) (q2:Option Addr) (k2 d2:Nat),v=.agg #[.bool false,.int .i64 (infS n m),.bool s,.slice p l c,.slice q k d,.int .i64 (infS n' m'),.bool s2,.slice p2 l2 c2,.slice q2 k2 d2]∧RP 0 W s p l c q k d (fN n m) (fM m)∧RP 0 W s2 p2 l2 c2 q2 k2 d2 (fN n' m') (fM m')
end Go.Proofs.YtcfnialfpblfmaaGreatDoor
