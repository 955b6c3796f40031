import Derived.Test.YtcepchaakfiojaaKMR30
import Derived.Test.YtcepchaakfiojaaKXQU
set_option maxHeartbeats 1000000
set_option maxRecDepth 20000
namespace Go.Proofs.Ytcepchaakfiojaa
open Go.RowKit
namespace Fq
theorem Grown.setCell {W w':World} (h:Grown W w') {a:Addr} (ha:W.heap.size≤a.block) (v:Value):Grown W (w'.setCell a v):=Below.setCell h ha v
@[go_sem] theorem run_store_float6 (P:Program) (w:World) (a:Addr) (m:Mode) (k:FloatKind) (x:Nat):(store a (.float k x) m).run P w = stored P w a (.float k x) m:=run_store P w a _ m rfl
theorem inf1_ (w:World):Calls Try.prog 16 #[.int .i64 1] w fun e w'=>e = .returned (.float .f64 9218868437227405312)∧w' = w:=by
  have hf:∀ w:World,(callFunc 10 #[.int .u64 9218868437227405312]).run Try.prog w = .ok (.value (.float .f64 9218868437227405312)) w:=ff64 9218868437227405312
  go_enter Try.func16,Try.ntmps16
  go_wp2_with (first | (simp only [hf]))
  exact bodyPost_ret (v:=.float .f64 9218868437227405312) (by simp [results,Try.results16,go_sem] <;> simp only [*]) rfl ⟨rfl,rfl⟩
theorem infm_ (w:World):Calls Try.prog 16 #[.int .i64 (-1)] w fun e w'=>e = .returned (.float .f64 18442240474082181120)∧w' = w:=by
  have hf:∀ w:World,(callFunc 10 #[.int .u64 18442240474082181120]).run Try.prog w = .ok (.value (.float .f64 18442240474082181120)) w:=ff64 18442240474082181120
  go_enter Try.func16,Try.ntmps16
  go_wp2_with (first | (simp only [hf]))
  exact bodyPost_ret (v:=.float .f64 18442240474082181120) (by simp [results,Try.results16,go_sem] <;> simp only [*]) rfl ⟨rfl,rfl⟩
theorem plain6_ (x:Nat) (h:x < 18446744073709551616) (w:World):Calls Try.prog 26 #[.float .f64 x] w fun e w'=>e = .returned (.float .f64 (pla x))∧w' = w:=by
  have t:=feq0 x h
  by_cases c:x = 0∨x = 9223372036854775808
  · rw [decide_eq_true c] at t
    have e:pla x = 0:=by unfold pla;split <;> omega
    rw [e];clear c e h
    go_enter Try.func26,Try.ntmps26
    go_wp2
    exact bodyPost_ret (v:=.float .f64 0) (by simp [results,Try.results26,go_sem] <;> simp only [*]) rfl ⟨rfl,rfl⟩
  · rw [decide_eq_false c] at t
    have e:pla x = x:=by unfold pla;rw [if_neg (by omega)]
    rw [e];clear c e h
    go_enter Try.func26,Try.ntmps26
    go_wp2
    exact bodyPost_ret (v:=.float .f64 x) (by simp [results,Try.results26,go_sem] <;> simp only [*]) rfl ⟨rfl,rfl⟩
theorem empty6_ (w:World):Calls Try.prog 14 #[] w fun e w'=>e = .returned (.agg #[.float .f64 9218868437227405312,.float .f64 18442240474082181120])∧w' = w.alloc (.cells #[.float .f64 9218868437227405312,.float .f64 18442240474082181120] 29):=by
  go_enter Try.func14,Try.ntmps14
  go_wp2_with (go_at_call 16;(first | refine (inf1_ _).mono ?_ | refine (infm_ _).mono ?_);rintro e w' ⟨rfl,rfl⟩)
  exact bodyPost_ret (v:=.agg #[.float .f64 9218868437227405312,.float .f64 18442240474082181120]) (by simp [results,Try.results14,go_sem] <;> simp only [*]) rfl ⟨rfl,rfl⟩
end Fq
namespace Fq
theorem read_ (a b:Nat) (ha:a < 18446744073709551616) (hb:b < 18446744073709551616) (w:World):Calls Try.prog 12 #[.agg #[.float .f64 a,.float .f64 b]] w fun e w'=>e = .returned (.agg #[.float .f64 (rlo a b),.float .f64 (rhi a b)])∧Grown w w':=by
  have t2:=feqI a ha
  have t3:=feqM b hb
  have hpa:=plain6_ a ha
  have hpb:=plain6_ b hb
  by_cases h1:(FloatKind.f64.format.order a b == some Ordering.lt || FloatKind.f64.format.order a b == some Ordering.eq) = true
  · by_cases h2:a = 9218868437227405312
    · have es:snd a b = false:=by simp [snd,h2]
      rw [decide_eq_true h2] at t2
      rw [show rlo a b = 9218868437227405312 from by simp [rlo,es],show rhi a b = 18442240474082181120 from by simp [rhi,es]]
      clear h2 es ha hb
      go_enter Try.func12,Try.ntmps12
      go_wp2
      go_quiet ((go_at_call 16;first | exact Calls.quiet_of_same (inf1_ _) | exact Calls.quiet_of_same (infm_ _)))
      go_wp2_with (first | (go_at_call 14;refine (empty6_ _).mono ?_;rintro e w' ⟨rfl,rfl⟩))
      exact bodyPost_ret (v:=.agg #[.float .f64 9218868437227405312,.float .f64 18442240474082181120]) (by simp [results,Try.results12,go_sem] <;> simp only [*]) rfl ⟨rfl,(by repeat (with_reducible (first | assumption | exact Grown.refl _ | apply Grown.drew | apply Grown.alloc | apply gdrewN | (refine Grown.setCell ?_ (by simp <;> omega) _) | (refine gtrans ?_ (by assumption)))))⟩
    · rw [decide_eq_false h2] at t2
      by_cases h3:b = 18442240474082181120
      · have es:snd a b = false:=by simp [snd,h3]
        rw [decide_eq_true h3] at t3
        rw [show rlo a b = 9218868437227405312 from by simp [rlo,es],show rhi a b = 18442240474082181120 from by simp [rhi,es]]
        clear h2 h3 es ha hb
        go_enter Try.func12,Try.ntmps12
        go_wp2
        go_quiet ((go_at_call 16;first | exact Calls.quiet_of_same (inf1_ _) | exact Calls.quiet_of_same (infm_ _)))
        go_wp2_with (first | (go_at_call 14;refine (empty6_ _).mono ?_;rintro e w' ⟨rfl,rfl⟩))
        exact bodyPost_ret (v:=.agg #[.float .f64 9218868437227405312,.float .f64 18442240474082181120]) (by simp [results,Try.results12,go_sem] <;> simp only [*]) rfl ⟨rfl,(by repeat (with_reducible (first | assumption | exact Grown.refl _ | apply Grown.drew | apply Grown.alloc | apply gdrewN | (refine Grown.setCell ?_ (by simp <;> omega) _) | (refine gtrans ?_ (by assumption)))))⟩
      · have es:snd a b = true:=by simp only [snd,h1,h2,h3];simp
        rw [decide_eq_false h3] at t3
        rw [show rlo a b = pla a from by simp [rlo,es],show rhi a b = pla b from by simp [rhi,es]]
        clear h2 h3 es ha hb
        go_enter Try.func12,Try.ntmps12
        go_wp2
        go_quiet ((go_at_call 16;first | exact Calls.quiet_of_same (inf1_ _) | exact Calls.quiet_of_same (infm_ _)))
        go_wp2
        go_region_held3 (fun w'=>w'.cell? ⟨w.heap.size,0,none⟩ = some (.float .f64 a)∧w'.cell? ⟨w.heap.size,1,none⟩ = some (.float .f64 b)) (simp [go_sem,World.cell?_alloc_past]) (first | (go_at_call 26;(first | refine (hpa _).mono ?_ | refine (hpb _).mono ?_);rintro e w' ⟨rfl,rfl⟩))
        go_wp2
        exact bodyPost_ret (v:=.agg #[.float .f64 (pla a),.float .f64 (pla b)]) (by simp [results,Try.results12,go_sem] <;> simp only [*]) rfl ⟨rfl,(by repeat (with_reducible (first | assumption | exact Grown.refl _ | apply Grown.drew | apply Grown.alloc | apply gdrewN | (refine Grown.setCell ?_ (by simp <;> omega) _) | (refine gtrans ?_ (by assumption)))))⟩
  · have h1':(FloatKind.f64.format.order a b == some Ordering.lt || FloatKind.f64.format.order a b == some Ordering.eq) = false:=by simpa using h1
    have es:snd a b = false:=by simp only [snd,h1'];simp
    rw [show rlo a b = 9218868437227405312 from by simp [rlo,es],show rhi a b = 18442240474082181120 from by simp [rhi,es]]
    clear h1 es ha hb t2 t3
    go_enter Try.func12,Try.ntmps12
    go_wp2
    go_quiet ((go_at_call 16;first | exact Calls.quiet_of_same (inf1_ _) | exact Calls.quiet_of_same (infm_ _)))
    go_wp2_with (first | (go_at_call 14;refine (empty6_ _).mono ?_;rintro e w' ⟨rfl,rfl⟩))
    exact bodyPost_ret (v:=.agg #[.float .f64 9218868437227405312,.float .f64 18442240474082181120]) (by simp [results,Try.results12,go_sem] <;> simp only [*]) rfl ⟨rfl,(by repeat (with_reducible (first | assumption | exact Grown.refl _ | apply Grown.drew | apply Grown.alloc | apply gdrewN | (refine Grown.setCell ?_ (by simp <;> omega) _) | (refine gtrans ?_ (by assumption)))))⟩
end Fq
namespace Fq

theorem gfroz {W w:World} (h:Grown W w) {a:Addr} (_hb:a.block < W.heap.size):w.frozen? a = W.frozen? a:=Below.frozen h _hb
def H2 (w:World) (b:Nat) (u v:Value):Prop:=w.cell? ⟨b,0,none⟩ = some u∧w.cell? ⟨b,1,none⟩ = some v∧w.frozen? ⟨b,0,none⟩ = false∧w.frozen? ⟨b,1,none⟩ = false
theorem H2.keep {W w:World} {b:Nat} {u v:Value} (h:H2 W b u v) (g:Grown W w):H2 w b u v :=
  ⟨gkeep g h.1,gkeep g h.2.1,(gfroz g (cell_lt h.1)).trans h.2.2.1,(gfroz g (cell_lt h.1)).trans h.2.2.2⟩
theorem H2.lt {w:World} {b:Nat} {u v:Value} (h:H2 w b u v):b < w.heap.size:=cell_lt h.1
theorem H2.new (w:World) (u v:Value) (t:TypeId):H2 (w.alloc (.cells #[u,v] t)) w.heap.size u v:=by
  unfold H2;simp [go_sem]
theorem H2.past {w:World} {b:Nat} {u v:Value} (h:H2 w b u v) (c:Array Value) (t:TypeId):H2 (w.alloc (.cells c t)) b u v:=h.keep (Grown.alloc (Grown.refl _) c t)
theorem H2.drew {w:World} {b:Nat} {u v:Value} (h:H2 w b u v):H2 w.drew b u v:=h.keep (Grown.drew (Grown.refl _))
theorem H2.drewN {w:World} {b:Nat} {u v:Value} (h:H2 w b u v) (n:Nat):H2 (w.drewN n) b u v:=h.keep (gdrewN n (Grown.refl _))
end Fq
namespace Fq

theorem H2.two (w:World) (a b c d:Value) (s t:TypeId):H2 (((w.alloc (.cells #[a,b] s)).drew).alloc (.cells #[c,d] t)) (w.heap.size + 1) c d:=by
  unfold H2;simp [go_sem]
theorem H2.put {w:World} {b:Nat} {u v:Value} (h:H2 w b u v) (u' v':Value):H2 ((w.setCell ⟨b,0,none⟩ u').setCell ⟨b,1,none⟩ v') b u' v':=by
  obtain ⟨h0,h1,h2,h3⟩:=h
  unfold H2;simp [go_sem,h0,h1,h2,h3]
theorem H2.far {w:World} {b:Nat} {u v:Value} (h:H2 w b u v) {c:Nat} (hne:c≠b) (u' v':Value):H2 ((w.setCell ⟨c,0,none⟩ u').setCell ⟨c,1,none⟩ v') b u v:=by
  obtain ⟨h0,h1,h2,h3⟩:=h
  refine ⟨?_, ?_, ?_, ?_⟩
  · rw [World.cell?_setCell_far _ _ _ _ (by simpa using hne),World.cell?_setCell_far _ _ _ _ (by simpa using hne)];exact h0
  · rw [World.cell?_setCell_far _ _ _ _ (by simpa using hne),World.cell?_setCell_far _ _ _ _ (by simpa using hne)];exact h1
  · simp only [World.frozen?_setCell];exact h2
  · simp only [World.frozen?_setCell];exact h3
end Fq
namespace Fq

theorem xor_full (Y:Nat) (h:Y < 18446744073709551616):18446744073709551615 ^^^ Y = 18446744073709551615 - Y:=by
  have e:18446744073709551615 - Y = 2 ^ 64 - (Y + 1):=by omega
  rw [e,show 18446744073709551615 = 2 ^ 64 - 1 from by decide]
  apply Nat.eq_of_testBit_eq
  intro i
  rw [Nat.testBit_xor,Nat.testBit_two_pow_sub_one,Nat.testBit_two_pow_sub_succ (by omega)]
  by_cases c:i < 64
  · simp [c]
  · have:Y.testBit i = false:=Nat.testBit_lt_two_pow (Nat.lt_of_lt_of_le (show Y < 2 ^ 64 by omega) (Nat.pow_le_pow_right (by decide) (by omega)))
    simp [c,this]
theorem noTop6 (n:Bool) (m X:Nat) (hm:m < 9223372036854775808) (hX:X = wD n m):bits .andNot .u64 (X:Int) 9223372036854775808 = (m:Int)∧X < 18446744073709551616:=by
  have hX9:X < 18446744073709551616:=by rw [hX];unfold wD;split <;> omega
  have h:=u64_andNot_nat X 9223372036854775808 hX9 (by decide)
  have e:X % 9223372036854775808 = m:=by rw [hX];unfold wD;split <;> omega
  rw [show 18446744073709551615 - 9223372036854775808 = 2 ^ 63 - 1 from by decide,Nat.and_two_pow_sub_one_eq_mod,show (2:Nat) ^ 63 = 9223372036854775808 from by decide,e] at h
  exact ⟨h,hX9⟩
theorem isnan6_ (n:Bool) (m:Nat) (hm:m < 9223372036854775808) (w:World):Calls Try.prog 55 #[.int .u64 ((wD n m:Nat):Int)] w fun e w'=>e = .returned (.bool (decide (9218868437227405312 < m)))∧w' = w:=by
  obtain ⟨X,hX⟩:∃ X,X = wD n m:=⟨_,rfl⟩
  have f1:=(noTop6 n m X hm hX).1
  rw [← hX]
  clear hX hm
  by_cases c:9218868437227405312 < m
  · have t1:9218868437227405312 < (m:Int):=by omega
    rw [decide_eq_true c]
    clear c
    go_enter Try.func55,Try.ntmps55
    go_wp2
    exact bodyPost_ret (v:=.bool true) (by simp [results,Try.results55,go_sem] <;> omega) rfl ⟨rfl,rfl⟩
  · have t1:¬ (9218868437227405312 < (m:Int)):=by omega
    rw [decide_eq_false c]
    clear c
    go_enter Try.func55,Try.ntmps55
    go_wp2
    exact bodyPost_ret (v:=.bool false) (by simp [results,Try.results55,go_sem] <;> omega) rfl ⟨rfl,rfl⟩
theorem rplain6_ (n:Bool) (m:Nat) (hm:m≤9218868437227405312) (w:World):Calls Try.prog 40 #[.int .u64 ((wD n m:Nat):Int)] w fun e w'=>e = .returned (.int .u64 ((pla (wD n m):Nat):Int))∧w' = w:=by
  have hn:=isnan6_ n m (by omega)
  rw [decide_eq_false (by omega)] at hn
  obtain ⟨X,hX⟩:∃ X,X = wD n m:=⟨_,rfl⟩
  rw [← hX] at hn ⊢
  clear hX hm
  by_cases c:X = 9223372036854775808
  · have t:((X:Int) == 9223372036854775808) = true:=by rw [c];rfl
    rw [show pla X = 0 from by simp [pla,c]]
    clear c hn
    go_enter Try.func40,Try.ntmps40
    go_wp2
    exact bodyPost_ret (v:=.int .u64 0) (by simp [results,Try.results40,go_sem] <;> simp only [*]) rfl ⟨rfl,rfl⟩
  · have t:((X:Int) == 9223372036854775808) = false:=by simp;omega
    rw [show pla X = X from by simp [pla,c]]
    clear c
    go_enter Try.func40,Try.ntmps40
    go_wp2_with (first | (go_at_call 55;refine (hn _).mono ?_;rintro e w' ⟨rfl,rfl⟩))
    exact bodyPost_ret (v:=.int .u64 (X:Int)) (by simp [results,Try.results40,go_sem] <;> simp only [*]) rfl ⟨rfl,rfl⟩
theorem key6_ (n:Bool) (m:Nat) (hm:m≤9218868437227405312) (w:World):Calls Try.prog 68 #[.int .u64 ((wD n m:Nat):Int)] w fun e w'=>e = .returned (.int .u64 ((kyN (wD n m):Nat):Int))∧w' = w:=by
  have hp:=rplain6_ n m hm
  have hb:pla (wD n m) < 18446744073709551616:=pla_lt _ (by unfold wD;split <;> omega)
  obtain ⟨X,hX⟩:∃ X,X = wD n m:=⟨_,rfl⟩
  rw [← hX] at hp hb ⊢
  unfold kyN
  obtain ⟨Y,hY⟩:∃ Y,Y = pla X:=⟨_,rfl⟩
  rw [← hY] at hp hb ⊢
  clear hX hm hY
  by_cases c:9223372036854775808≤Y
  · have t:9223372036854775808≤(Y:Int):=by omega
    have u:bits .xor .u64 IntKind.u64.max (Y:Int) = ((18446744073709551615 - Y:Nat):Int):=by
      have h:=u64_xor_nat 18446744073709551615 Y (by decide) hb
      rw [xor_full Y hb] at h
      exact h
    rw [if_pos c]
    clear c hb
    obtain ⟨Z,hZ⟩:∃ Z:Nat,Z = 18446744073709551615 - Y:=⟨_,rfl⟩
    rw [← hZ] at u ⊢
    clear hZ
    go_enter Try.func68,Try.ntmps68
    go_wp2_with (first | (go_at_call 40;refine (hp _).mono ?_;rintro e w' ⟨rfl,rfl⟩))
    exact bodyPost_ret (v:=.int .u64 (Z:Int)) (by simp [results,Try.results68,go_sem] <;> simp only [*]) rfl ⟨rfl,rfl⟩
  · have t:decide (9223372036854775808≤(Y:Int)) = false:=decide_eq_false (by omega)
    have u:bits .or .u64 (Y:Int) 9223372036854775808 = ((Y + 9223372036854775808:Nat):Int):=by
      have h:=u64_or_nat Y 9223372036854775808 hb (by decide)
      have h9:=Nat.two_pow_add_eq_or_of_lt (i:=63) (b:=Y) (by omega) 1
      rw [show 2 ^ 63 * 1 = 9223372036854775808 from by decide] at h9
      rw [Nat.or_comm,← h9,Nat.add_comm] at h
      exact h
    rw [if_neg c]
    clear c hb
    obtain ⟨Z,hZ⟩:∃ Z:Nat,Z = Y + 9223372036854775808:=⟨_,rfl⟩
    rw [← hZ] at u ⊢
    clear hZ
    go_enter Try.func68,Try.ntmps68
    go_wp2_with (first | (go_at_call 40;refine (hp _).mono ?_;rintro e w' ⟨rfl,rfl⟩))
    exact bodyPost_ret (v:=.int .u64 (Z:Int)) (by simp [results,Try.results68,go_sem] <;> simp only [*]) rfl ⟨rfl,rfl⟩
theorem above6_ (n n':Bool) (m m':Nat) (hm:m < 9223372036854775808) (hm':m' < 9223372036854775808) (w:World):Calls Try.prog 56 #[.int .u64 ((wD n m:Nat):Int),.int .u64 ((wD n' m':Nat):Int)] w fun e w'=>e = .returned (.bool (decide (m≤9218868437227405312∧m'≤9218868437227405312∧plz n' m' < plz n m)))∧w' = w:=by
  have hn:=isnan6_ n m hm
  have hn':=isnan6_ n' m' hm'
  have kl:=kyN_lt n' n m' m
  have hk:=key6_ n m
  have hk':=key6_ n' m'
  have e1:m≤9218868437227405312→m'≤9218868437227405312→decide (m≤9218868437227405312∧m'≤9218868437227405312∧plz n' m' < plz n m) = decide ((kyN (wD n' m'):Int) < (kyN (wD n m):Int)):=by
    intro h1 h2
    have kl:=kl h2 h1
    have:((kyN (wD n' m'):Int) < (kyN (wD n m):Int)) ↔ plz n' m' < plz n m:=by rw [← kl];omega
    simp only [this];congr 1;apply propext;omega
  clear kl
  obtain ⟨X,hX⟩:∃ X,X = wD n m:=⟨_,rfl⟩
  obtain ⟨Y,hY⟩:∃ Y,Y = wD n' m':=⟨_,rfl⟩
  rw [← hX] at hn hk e1 ⊢
  rw [← hY] at hn' hk' e1 ⊢
  clear hX hY
  by_cases c1:9218868437227405312 < m
  · rw [decide_eq_true c1] at hn
    rw [decide_eq_false (by omega)]
    clear c1 e1 hk hk' hm hm' hn'
    go_enter Try.func56,Try.ntmps56
    go_wp2_with (first | (go_at_call 55;refine (hn _).mono ?_;rintro e w' ⟨rfl,rfl⟩))
    exact bodyPost_ret (v:=.bool false) (by simp [results,Try.results56,go_sem] <;> simp only [*]) rfl ⟨rfl,rfl⟩
  rw [decide_eq_false c1] at hn
  by_cases c2:9218868437227405312 < m'
  · rw [decide_eq_true c2] at hn'
    rw [decide_eq_false (by omega)]
    clear c1 c2 e1 hk hk' hm hm'
    go_enter Try.func56,Try.ntmps56
    go_wp2_with (first | (go_at_call_of 55 (Value.int .u64 (X:Int));refine (hn _).mono ?_;rintro e w' ⟨rfl,rfl⟩) | (go_at_call_of 55 (Value.int .u64 (Y:Int));refine (hn' _).mono ?_;rintro e w' ⟨rfl,rfl⟩))
    exact bodyPost_ret (v:=.bool false) (by simp [results,Try.results56,go_sem] <;> simp only [*]) rfl ⟨rfl,rfl⟩
  rw [decide_eq_false c2] at hn'
  have hk:=hk (by omega)
  have hk':=hk' (by omega)
  rw [e1 (by omega) (by omega)]
  clear e1 c1 c2 hm hm'
  generalize kyN X = KX at hk ⊢
  generalize kyN Y = KY at hk' ⊢
  go_enter Try.func56,Try.ntmps56
  go_wp2_with (first | (go_at_call_of 55 (Value.int .u64 (X:Int));refine (hn _).mono ?_;rintro e w' ⟨rfl,rfl⟩) | (go_at_call_of 55 (Value.int .u64 (Y:Int));refine (hn' _).mono ?_;rintro e w' ⟨rfl,rfl⟩) | (go_at_call_of 68 (Value.int .u64 (X:Int));refine (hk _).mono ?_;rintro e w' ⟨rfl,rfl⟩) | (go_at_call_of 68 (Value.int .u64 (Y:Int));refine (hk' _).mono ?_;rintro e w' ⟨rfl,rfl⟩))
  exact bodyPost_ret (v:=.bool (decide ((KY:Int) < (KX:Int)))) (by simp [results,Try.results56,go_sem] <;> simp only [*]) rfl ⟨rfl,rfl⟩
end Fq
namespace Fq
theorem rempty_ (w:World):Calls Try.prog 18 #[] w fun e w'=>e = .returned (.agg #[.int .u64 9218868437227405312,.int .u64 18442240474082181120])∧w' = w.alloc (.cells #[.int .u64 9218868437227405312,.int .u64 18442240474082181120] 24):=by
  go_enter Try.func18,Try.ntmps18
  go_wp2
  exact bodyPost_ret (v:=.agg #[.int .u64 9218868437227405312,.int .u64 18442240474082181120]) (by simp [results,Try.results18,go_sem] <;> simp only [*]) rfl ⟨rfl,rfl⟩
theorem rentire_ (w:World):Calls Try.prog 48 #[] w fun e w'=>e = .returned (.agg #[.int .u64 18442240474082181120,.int .u64 9218868437227405312])∧w' = w.alloc (.cells #[.int .u64 18442240474082181120,.int .u64 9218868437227405312] 24):=by
  go_enter Try.func48,Try.ntmps48
  go_wp2
  exact bodyPost_ret (v:=.agg #[.int .u64 18442240474082181120,.int .u64 9218868437227405312]) (by simp [results,Try.results48,go_sem] <;> simp only [*]) rfl ⟨rfl,rfl⟩
theorem sound_ (n n':Bool) (m m':Nat) (hm:m < 9223372036854775808) (hm':m' < 9223372036854775808) (w:World):Calls Try.prog 39 #[.agg #[.int .u64 (((wD n m):Nat):Int),.int .u64 (((wD n' m'):Nat):Int)]] w fun e w'=>e = .returned (.bool (snd (wD n m) (wD n' m')))∧w' = w.alloc (.cells #[.int .u64 (((wD n m):Nat):Int),.int .u64 (((wD n' m'):Nat):Int)] 24):=by
  have hn:=isnan6_ n m hm
  have hn':=isnan6_ n' m' hm'
  have ha:=above6_ n n' m m' hm hm'
  have es:=snd_w n n' m m' hm hm'
  have e1:(wD n m = 9218868437227405312) ↔ (n = false∧m = 9218868437227405312):=by unfold wD;cases n <;> simp;omega
  have e2:(wD n' m' = 18442240474082181120) ↔ (n' = true∧m' = 9218868437227405312):=by unfold wD;cases n' <;> simp <;> omega
  obtain ⟨X,hX⟩:∃ X,X = wD n m:=⟨_,rfl⟩
  obtain ⟨Y,hY⟩:∃ Y,Y = wD n' m':=⟨_,rfl⟩
  rw [← hX] at hn ha es e1 ⊢
  rw [← hY] at hn' ha es e2 ⊢
  clear hX hY
  rw [es]
  by_cases c1:9218868437227405312 < m
  · rw [decide_eq_true c1] at hn
    rw [decide_eq_false (by omega)]
    clear c1 es e1 e2 hm hm' hn' ha
    go_enter Try.func39,Try.ntmps39
    go_wp2_with (first | (go_at_call_of 55 (Value.int .u64 (X:Int));refine (hn _).mono ?_;rintro e w' ⟨rfl,rfl⟩))
    exact bodyPost_ret (v:=.bool false) (by simp [results,Try.results39,go_sem] <;> simp only [*]) rfl ⟨rfl,rfl⟩
  rw [decide_eq_false c1] at hn
  by_cases c2:9218868437227405312 < m'
  · rw [decide_eq_true c2] at hn'
    rw [decide_eq_false (by omega)]
    clear c1 c2 es e1 e2 hm hm' ha
    go_enter Try.func39,Try.ntmps39
    go_wp2_with (first | (go_at_call_of 55 (Value.int .u64 (X:Int));refine (hn _).mono ?_;rintro e w' ⟨rfl,rfl⟩) | (go_at_call_of 55 (Value.int .u64 (Y:Int));refine (hn' _).mono ?_;rintro e w' ⟨rfl,rfl⟩))
    exact bodyPost_ret (v:=.bool false) (by simp [results,Try.results39,go_sem] <;> simp only [*]) rfl ⟨rfl,rfl⟩
  rw [decide_eq_false c2] at hn'
  by_cases c3:plz n' m' < plz n m
  · rw [decide_eq_true ⟨by omega,by omega,c3⟩] at ha
    rw [decide_eq_false (by omega)]
    clear c1 c2 c3 es e1 e2 hm hm'
    go_enter Try.func39,Try.ntmps39
    go_wp2_with (first | (go_at_call_of 55 (Value.int .u64 (X:Int));refine (hn _).mono ?_;rintro e w' ⟨rfl,rfl⟩) | (go_at_call_of 55 (Value.int .u64 (Y:Int));refine (hn' _).mono ?_;rintro e w' ⟨rfl,rfl⟩) | (go_at_call 56;refine (ha _).mono ?_;rintro e w' ⟨rfl,rfl⟩))
    exact bodyPost_ret (v:=.bool false) (by simp [results,Try.results39,go_sem] <;> simp only [*]) rfl ⟨rfl,rfl⟩
  rw [decide_eq_false (by omega)] at ha
  by_cases c4:X = 9218868437227405312
  · have t4:((X:Int) != 9218868437227405312) = false:=by rw [c4];rfl
    rw [decide_eq_false (fun h=>h.2.2.2.1 (e1.mp c4))]
    clear c1 c2 c3 c4 es e1 e2 hm hm'
    go_enter Try.func39,Try.ntmps39
    go_wp2_with (first | (go_at_call_of 55 (Value.int .u64 (X:Int));refine (hn _).mono ?_;rintro e w' ⟨rfl,rfl⟩) | (go_at_call_of 55 (Value.int .u64 (Y:Int));refine (hn' _).mono ?_;rintro e w' ⟨rfl,rfl⟩) | (go_at_call 56;refine (ha _).mono ?_;rintro e w' ⟨rfl,rfl⟩))
    exact bodyPost_ret (v:=.bool false) (by simp [results,Try.results39,go_sem] <;> simp only [*]) rfl ⟨rfl,rfl⟩
  have t4:((X:Int) != 9218868437227405312) = true:=by simp;omega
  by_cases c5:Y = 18442240474082181120
  · have t5:((Y:Int) != 18442240474082181120) = false:=by rw [c5];rfl
    rw [decide_eq_false (fun h=>h.2.2.2.2 (e2.mp c5))]
    clear c1 c2 c3 c4 c5 es e1 e2 hm hm'
    go_enter Try.func39,Try.ntmps39
    go_wp2_with (first | (go_at_call_of 55 (Value.int .u64 (X:Int));refine (hn _).mono ?_;rintro e w' ⟨rfl,rfl⟩) | (go_at_call_of 55 (Value.int .u64 (Y:Int));refine (hn' _).mono ?_;rintro e w' ⟨rfl,rfl⟩) | (go_at_call 56;refine (ha _).mono ?_;rintro e w' ⟨rfl,rfl⟩))
    exact bodyPost_ret (v:=.bool false) (by simp [results,Try.results39,go_sem] <;> simp only [*]) rfl ⟨rfl,rfl⟩
  have t5:((Y:Int) != 18442240474082181120) = true:=by simp;omega
  rw [decide_eq_true ⟨by omega,by omega,by omega,fun h=>c4 (e1.mpr h),fun h=>c5 (e2.mpr h)⟩]
  clear c1 c2 c3 c4 c5 es e1 e2 hm hm'
  go_enter Try.func39,Try.ntmps39
  go_wp2_with (first | (go_at_call_of 55 (Value.int .u64 (X:Int));refine (hn _).mono ?_;rintro e w' ⟨rfl,rfl⟩) | (go_at_call_of 55 (Value.int .u64 (Y:Int));refine (hn' _).mono ?_;rintro e w' ⟨rfl,rfl⟩) | (go_at_call 56;refine (ha _).mono ?_;rintro e w' ⟨rfl,rfl⟩))
  exact bodyPost_ret (v:=.bool true) (by simp [results,Try.results39,go_sem] <;> simp only [*]) rfl ⟨rfl,rfl⟩
theorem rread_ (n n':Bool) (m m':Nat) (hm:m < 9223372036854775808) (hm':m' < 9223372036854775808) (w:World):Calls Try.prog 28 #[.agg #[.int .u64 (((wD n m):Nat):Int),.int .u64 (((wD n' m'):Nat):Int)]] w fun e w'=>e = .returned (.agg #[.int .u64 (((rlo (wD n m) (wD n' m')):Nat):Int),.int .u64 (((rhi (wD n m) (wD n' m')):Nat):Int)])∧Grown w w':=by
  have hs:=sound_ n n' m m' hm hm'
  have es:=snd_w n n' m m' hm hm'
  have hp:=rplain6_ n m
  have hp':=rplain6_ n' m'
  obtain ⟨X,hX⟩:∃ X,X = wD n m:=⟨_,rfl⟩
  obtain ⟨Y,hY⟩:∃ Y,Y = wD n' m':=⟨_,rfl⟩
  rw [← hX] at hs es hp ⊢
  rw [← hY] at hs es hp' ⊢
  clear hX hY
  by_cases c:snd X Y = true
  · rw [c] at hs
    rw [show rlo X Y = pla X from by simp [rlo,c],show rhi X Y = pla Y from by simp [rhi,c]]
    rw [c] at es
    replace es:=of_decide_eq_true es.symm
    replace hp:=hp es.1
    replace hp':=hp' es.2.1
    clear es c hm hm'
    generalize ((pla X:Nat):Int) = PX at hp ⊢
    generalize ((pla Y:Nat):Int) = PY at hp' ⊢
    generalize (X:Int) = X at hs hp ⊢
    generalize (Y:Int) = Y at hs hp' ⊢
    go_enter Try.func28,Try.ntmps28
    go_wp2_with (first | (go_at_call 39;refine (hs _).mono ?_;rintro e w' ⟨rfl,rfl⟩))
    go_region_held3 (fun w'=>w'.cell? ⟨w.heap.size,0,none⟩ = some (.int .u64 X)∧w'.cell? ⟨w.heap.size,1,none⟩ = some (.int .u64 Y)) (simp [go_sem,World.cell?_alloc_past]) (first | (go_at_call_of 40 (Value.int .u64 X);refine (hp _).mono ?_;rintro e w' ⟨rfl,rfl⟩) | (go_at_call_of 40 (Value.int .u64 Y);refine (hp' _).mono ?_;rintro e w' ⟨rfl,rfl⟩))
    go_wp2
    exact bodyPost_ret (v:=.agg #[.int .u64 PX,.int .u64 PY]) (by simp [results,Try.results28,go_sem] <;> simp only [*]) rfl ⟨rfl,(by repeat (with_reducible (first | assumption | exact Grown.refl _ | apply Grown.drew | apply Grown.alloc | apply gdrewN | (refine Grown.setCell ?_ (by simp <;> omega) _) | (refine gtrans ?_ (by assumption)))))⟩
  · have c:snd X Y = false:=by simpa using c
    rw [c] at hs
    rw [show rlo X Y = 9218868437227405312 from by simp [rlo,c],show rhi X Y = 18442240474082181120 from by simp [rhi,c]]
    clear es c hm hm' hp hp'
    go_enter Try.func28,Try.ntmps28
    go_wp2_with (first | (go_at_call 39;refine (hs _).mono ?_;rintro e w' ⟨rfl,rfl⟩) | (go_at_call 18;refine (rempty_ _).mono ?_;rintro e w' ⟨rfl,rfl⟩))
    exact bodyPost_ret (v:=.agg #[.int .u64 9218868437227405312,.int .u64 18442240474082181120]) (by simp [results,Try.results28,go_sem] <;> simp only [*]) rfl ⟨rfl,(by repeat (with_reducible (first | assumption | exact Grown.refl _ | apply Grown.drew | apply Grown.alloc | apply gdrewN | (refine Grown.setCell ?_ (by simp <;> omega) _) | (refine gtrans ?_ (by assumption)))))⟩
end Fq

theorem rlo_w (a b:Nat) (ha:a < 18446744073709551616) (hb:b < 18446744073709551616):∃ n m,m≤9218868437227405312∧Fq.rlo a b = Fq.wD n m:=by
  obtain ⟨n,m,hm,rfl⟩:=Fq.exD a ha
  obtain ⟨n',m',hm',rfl⟩:=Fq.exD b hb
  by_cases c:Fq.snd (Fq.wD n m) (Fq.wD n' m') = true
  · have es:=Fq.snd_w n n' m m' hm hm'
    rw [c] at es
    have es:=of_decide_eq_true es.symm
    rw [show Fq.rlo (Fq.wD n m) (Fq.wD n' m') = Fq.pla (Fq.wD n m) from by simp [Fq.rlo,c]]
    by_cases c2:Fq.wD n m = 9223372036854775808
    · exact ⟨false,0,by decide,by unfold Fq.pla;rw [if_pos c2];rfl⟩
    · exact ⟨n,m,es.1,by simp [Fq.pla,c2]⟩
  · exact ⟨false,9218868437227405312,by decide,by unfold Fq.rlo;rw [if_neg c];rfl⟩
theorem rhi_w (a b:Nat) (ha:a < 18446744073709551616) (hb:b < 18446744073709551616):∃ n m,m≤9218868437227405312∧Fq.rhi a b = Fq.wD n m:=by
  obtain ⟨n,m,hm,rfl⟩:=Fq.exD a ha
  obtain ⟨n',m',hm',rfl⟩:=Fq.exD b hb
  by_cases c:Fq.snd (Fq.wD n m) (Fq.wD n' m') = true
  · have es:=Fq.snd_w n n' m m' hm hm'
    rw [c] at es
    have es:=of_decide_eq_true es.symm
    rw [show Fq.rhi (Fq.wD n m) (Fq.wD n' m') = Fq.pla (Fq.wD n' m') from by simp [Fq.rhi,c]]
    by_cases c2:Fq.wD n' m' = 9223372036854775808
    · exact ⟨false,0,by decide,by unfold Fq.pla;rw [if_pos c2];rfl⟩
    · exact ⟨n',m',es.2.1,by simp [Fq.pla,c2]⟩
  · exact ⟨true,9218868437227405312,by decide,by unfold Fq.rhi;rw [if_neg c];rfl⟩
def opP (x:Nat):Nat:=if x % 9223372036854775808 = 0 then 0 else if x < 9223372036854775808 then x + 9223372036854775808 else x - 9223372036854775808
theorem opP_w (n:Bool) (m:Nat) (hm:m < 9223372036854775808):opP (Fq.wD n m) = mnP n m:=by
  unfold opP mnP Fq.pla Fq.wD
  cases n <;> simp <;> repeat' split
  all_goals omega
theorem minus6_ (n:Bool) (m:Nat) (hm:m≤9218868437227405312) (w:World):Calls Try.prog 37 #[.float .f64 (Fq.wD n m)] w fun e w'=>e = .returned (.float .f64 (opP (Fq.wD n m)))∧w' = w:=by
  have e1:=sub_zero_w n m hm
  rw [← opP_w n m (by omega)] at e1
  generalize Fq.wD n m = X at e1 ⊢
  generalize opP X = Z at e1 ⊢
  have g1:∀ w:World,(binOp .sub 27 (.float .f64 0) (.float .f64 X)).run Try.prog w = .ok (.float .f64 Z) w:=fun w=>run_float_arith w .sub 27 .f64 0 X Z e1
  clear e1 hm
  go_enter Try.func37,Try.ntmps37
  go_wp2
  exact bodyPost_ret (v:=.float .f64 Z) (by simp [results,Try.results37,go_sem]) rfl ⟨rfl,rfl⟩
theorem Fq.H2.two0 (w:World) (a b c d:Value) (s t:TypeId):Fq.H2 ((w.alloc (.cells #[a,b] s)).alloc (.cells #[c,d] t)) (w.heap.size + 1) c d:=by
  unfold Fq.H2;simp [go_sem]
theorem neg6c_ (a b LO HI NL NH:Nat) (hr:∀ w:World,Calls Try.prog 12 #[.agg #[.float .f64 a,.float .f64 b]] w fun e w'=>e = .returned (.agg #[.float .f64 LO,.float .f64 HI])∧Kp w w') (h1:∀ w:World,Calls Try.prog 37 #[.float .f64 LO] w fun e w'=>e = .returned (.float .f64 NL)∧w' = w) (h2:∀ w:World,Calls Try.prog 37 #[.float .f64 HI] w fun e w'=>e = .returned (.float .f64 NH)∧w' = w) (w:World):Calls Try.prog 24 #[.agg #[.float .f64 a,.float .f64 b]] w fun e w'=>e = .returned (.agg #[.float .f64 NH,.float .f64 NL])∧Kp w w':=by
  go_enter Try.func24,Try.ntmps24
  go_wp2_with (first | (go_at_call 12;refine (hr _).mono ?_;rintro e w1 ⟨rfl,g1⟩;have q0:=Fq.H2.keep (Fq.H2.past (Fq.H2.new w (.float .f64 a) (.float .f64 b) 29) #[.float .f64 0,.float .f64 0] 29) g1;have q1:Fq.H2 w1 (w.heap.size + 1) (.float .f64 0) (.float .f64 0):=Fq.H2.keep (Fq.H2.two0 w (.float .f64 a) (.float .f64 b) (.float .f64 0) (.float .f64 0) 29 29) g1;obtain ⟨x0,x1,x2,x3⟩:=id q0;obtain ⟨y0,y1,y2,y3⟩:=id q1))
  have kw:Kp w w1:=Kp.trans (((Kp.refl w).alloc _).alloc _) g1
  have qx:=Fq.H2.put q0 (.float .f64 LO) (.float .f64 HI)
  have qy:=Fq.H2.far q1 (show w.heap.size≠w.heap.size + 1 by omega) (.float .f64 LO) (.float .f64 HI)
  have kW:Kp w ((w1.setCell ⟨w.heap.size,0,none⟩ (.float .f64 LO)).setCell ⟨w.heap.size,1,none⟩ (.float .f64 HI)):=(kw.setCell (Nat.le_refl _) _).setCell (Nat.le_refl _) _
  generalize hW:(w1.setCell ⟨w.heap.size,0,none⟩ (.float .f64 LO)).setCell ⟨w.heap.size,1,none⟩ (.float .f64 HI) = W at qx qy kW ⊢
  clear hW kw q0 q1 g1 x0 x1 x2 x3 y0 y1 y2 y3
  obtain ⟨x0,x1,x2,x3⟩:=id qx
  obtain ⟨y0,y1,y2,y3⟩:=id qy
  go_region_held3 (fun w'=>w'.cell? ⟨w.heap.size,0,none⟩ = some (.float .f64 LO)∧w'.cell? ⟨w.heap.size,1,none⟩ = some (.float .f64 HI)) (first | (exact ⟨x0,x1⟩) | (exact ⟨(World.cell?_setCell_far _ _ _ _ (by simp)).trans ((World.cell?_setCell_far _ _ _ _ (by simp)).trans x0),(World.cell?_setCell_far _ _ _ _ (by simp)).trans ((World.cell?_setCell_far _ _ _ _ (by simp)).trans x1)⟩)) (first | (go_at_call_of 37 (Value.float .f64 HI);refine (h2 _).mono ?_;rintro e w' ⟨rfl,rfl⟩) | (go_at_call_of 37 (Value.float .f64 LO);refine (h1 _).mono ?_;rintro e w' ⟨rfl,rfl⟩))
  go_wp2
  exact bodyPost_ret (v:=.agg #[.float .f64 NH,.float .f64 NL]) (by simp [results,Try.results24,go_sem,y0,y1]) rfl ⟨rfl,(by repeat (with_reducible (first | assumption | exact Kp.refl _ | apply Kp.drew | apply Kp.alloc | apply Kp.drewN | (refine Kp.setCell ?_ (by first | omega | (simp <;> omega)) _) | (refine Kp.trans ?_ (by assumption)))))⟩
end Go.Proofs.Ytcepchaakfiojaa
