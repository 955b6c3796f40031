import Derived.Test.YtnileplkkmhdgaaGreatDoorKEC2
set_option maxHeartbeats 1000000
set_option maxRecDepth 20000
namespace Go.Proofs.YtnileplkkmhdgaaGreatDoor
open Go.RowKit

def rvI (s:Bool) (a:Nat):Int:=if s then -(a:Int) else a
def cmI (x y:Int):Int:=if x < y then -1 else if y < x then 1 else 0
namespace Fq

def pla (x:Nat):Nat:=if x = 9223372036854775808 then 0 else x
open Ieee in
theorem feq (n n':Bool) (m m':Nat) (h:m < 9223372036854775808) (h':m' < 9223372036854775808):(FloatKind.f64.format.order (wD n m) (wD n' m') == some Ordering.eq) = decide (m≤9218868437227405312∧m'≤9218868437227405312∧plz n m = plz n' m'):=by
  by_cases c:9218868437227405312 < m
  · rw [ordD_nanl n m _ c h,decide_eq_false (by omega)];rfl
  by_cases c':9218868437227405312 < m'
  · rw [ordD_nanr n' m' _ c' h',decide_eq_false (by omega)];rfl
  rw [ordD n n' m m' (by omega) (by omega)]
  by_cases e:plz n m = plz n' m'
  · rw [cmp_eq e,decide_eq_true ⟨by omega,by omega,e⟩];rfl
  · rw [decide_eq_false (fun x=>e x.2.2)]
    rcases Int.lt_or_gt_of_ne e with g | g
    · rw [cmp_lt g];rfl
    · rw [cmp_gt g];rfl
open Ieee in
theorem fle (n n':Bool) (m m':Nat) (h:m < 9223372036854775808) (h':m' < 9223372036854775808):(FloatKind.f64.format.order (wD n m) (wD n' m') == some Ordering.lt || FloatKind.f64.format.order (wD n m) (wD n' m') == some Ordering.eq) = decide (m≤9218868437227405312∧m'≤9218868437227405312∧plz n m≤plz n' m'):=by
  by_cases c:9218868437227405312 < m
  · rw [ordD_nanl n m _ c h,decide_eq_false (by omega)];rfl
  by_cases c':9218868437227405312 < m'
  · rw [ordD_nanr n' m' _ c' h',decide_eq_false (by omega)];rfl
  rw [ordD n n' m m' (by omega) (by omega)]
  rcases Int.lt_trichotomy (plz n m) (plz n' m') with g | g | g
  · rw [cmp_lt g,decide_eq_true ⟨by omega,by omega,by omega⟩];rfl
  · rw [cmp_eq g,decide_eq_true ⟨by omega,by omega,by omega⟩];rfl
  · rw [cmp_gt g,decide_eq_false (by omega)];rfl
theorem feq0 (x:Nat) (h:x < 18446744073709551616):(FloatKind.f64.format.order x 0 == some Ordering.eq) = decide (x = 0∨x = 9223372036854775808):=by
  obtain ⟨n,m,hm,rfl⟩:=exD x h
  have g:=feq n false m 0 hm (by decide)
  rw [show wD false 0 = 0 from rfl] at g
  rw [g];congr 1;apply propext
  unfold plz wD
  cases n <;> simp <;> omega
theorem feqI (x:Nat) (h:x < 18446744073709551616):(FloatKind.f64.format.order x 9218868437227405312 == some Ordering.eq) = decide (x = 9218868437227405312):=by
  obtain ⟨n,m,hm,rfl⟩:=exD x h
  have g:=feq n false m 9218868437227405312 hm (by decide)
  rw [show wD false 9218868437227405312 = 9218868437227405312 from rfl] at g
  rw [g];congr 1;apply propext
  unfold plz wD
  cases n <;> simp <;> omega
theorem feqM (x:Nat) (h:x < 18446744073709551616):(FloatKind.f64.format.order x 18442240474082181120 == some Ordering.eq) = decide (x = 18442240474082181120):=by
  obtain ⟨n,m,hm,rfl⟩:=exD x h
  have g:=feq n true m 9218868437227405312 hm (by decide)
  rw [show wD true 9218868437227405312 = 18442240474082181120 from rfl] at g
  rw [g];congr 1;apply propext
  unfold plz wD
  cases n <;> simp <;> omega
def snd (a b:Nat):Bool:=(FloatKind.f64.format.order a b == some Ordering.lt || FloatKind.f64.format.order a b == some Ordering.eq) && (!(decide (a = 9218868437227405312)) && !(decide (b = 18442240474082181120)))
def rlo (a b:Nat):Nat:=if snd a b then pla a else 9218868437227405312
def rhi (a b:Nat):Nat:=if snd a b then pla b else 18442240474082181120
theorem pla_lt (x:Nat) (h:x < 18446744073709551616):pla x < 18446744073709551616:=by unfold pla;split <;> omega
theorem snd_w (n n':Bool) (m m':Nat) (h:m < 9223372036854775808) (h':m' < 9223372036854775808):snd (wD n m) (wD n' m') = decide (m≤9218868437227405312∧m'≤9218868437227405312∧plz n m≤plz n' m'∧¬ (n = false∧m = 9218868437227405312)∧¬ (n' = true∧m' = 9218868437227405312)):=by
  unfold snd
  rw [fle n n' m m' h h']
  have e1:(wD n m = 9218868437227405312) ↔ (n = false∧m = 9218868437227405312):=by unfold wD;cases n <;> simp;omega
  have e2:(wD n' m' = 18442240474082181120) ↔ (n' = true∧m' = 9218868437227405312):=by unfold wD;cases n' <;> simp <;> omega
  simp only [e1,e2]
  by_cases c1:m≤9218868437227405312∧m'≤9218868437227405312∧plz n m≤plz n' m' <;> by_cases c2:n = false∧m = 9218868437227405312 <;> by_cases c3:n' = true∧m' = 9218868437227405312 <;> simp [c1,c2,c3]
end Fq
namespace Fq

def kyN (x:Nat):Nat:=if 9223372036854775808≤pla x then 18446744073709551615 - pla x else pla x + 9223372036854775808
theorem kyN_w (n:Bool) (m:Nat) (h:m≤9218868437227405312):(kyN (wD n m):Int) = if plz n m < 0 then 9223372036854775807 + plz n m else 9223372036854775808 + plz n m:=by
  unfold kyN pla wD plz
  cases n <;> simp <;> repeat' split
  all_goals omega
theorem kyN_lt (n n':Bool) (m m':Nat) (h:m≤9218868437227405312) (h':m'≤9218868437227405312):kyN (wD n m) < kyN (wD n' m') ↔ plz n m < plz n' m':=by
  have e1:=kyN_w n m h
  have e2:=kyN_w n' m' h'
  have:(kyN (wD n m) < kyN (wD n' m')) ↔ ((kyN (wD n m):Int) < kyN (wD n' m')):=by omega
  rw [this,e1,e2]
  repeat' split
  all_goals omega
end Fq
namespace Fq
theorem Grown.setCell {W w':World} (h:Grown W w') {a:Addr} (ha:W.heap.size≤a.block) (v:Value):Grown W (w'.setCell a v):=Below.setCell h ha v
@[go_sem] theorem run_store_float6 (P:Program) (w:World) (a:Addr) (m:Mode) (k:FloatKind) (x:Nat):(store a (.float k x) m).run P w = stored P w a (.float k x) m:=run_store P w a _ m rfl
theorem inf1_ (w:World):Calls Tryz.prog 61 #[.int .i64 1] w fun e w'=>e = .returned (.float .f64 9218868437227405312)∧w' = w:=by
  have hf:∀ w:World,(callFunc 30 #[.int .u64 9218868437227405312]).run Tryz.prog w = .ok (.value (.float .f64 9218868437227405312)) w:=ff64 9218868437227405312
  go_enter Tryz.func61,Tryz.ntmps61
  go_wp2_with (first | (simp only [hf]))
  exact bodyPost_ret (v:=.float .f64 9218868437227405312) (by simp [results,Tryz.results61,go_sem] <;> simp only [*]) rfl ⟨rfl,rfl⟩
theorem infm_ (w:World):Calls Tryz.prog 61 #[.int .i64 (-1)] w fun e w'=>e = .returned (.float .f64 18442240474082181120)∧w' = w:=by
  have hf:∀ w:World,(callFunc 30 #[.int .u64 18442240474082181120]).run Tryz.prog w = .ok (.value (.float .f64 18442240474082181120)) w:=ff64 18442240474082181120
  go_enter Tryz.func61,Tryz.ntmps61
  go_wp2_with (first | (simp only [hf]))
  exact bodyPost_ret (v:=.float .f64 18442240474082181120) (by simp [results,Tryz.results61,go_sem] <;> simp only [*]) rfl ⟨rfl,rfl⟩
theorem plain6_ (x:Nat) (h:x < 18446744073709551616) (w:World):Calls Tryz.prog 62 #[.float .f64 x] w fun e w'=>e = .returned (.float .f64 (pla x))∧w' = w:=by
  have t:=feq0 x h
  by_cases c:x = 0∨x = 9223372036854775808
  · rw [decide_eq_true c] at t
    have e:pla x = 0:=by unfold pla;split <;> omega
    rw [e];clear c e h
    go_enter Tryz.func62,Tryz.ntmps62
    go_wp2
    exact bodyPost_ret (v:=.float .f64 0) (by simp [results,Tryz.results62,go_sem] <;> simp only [*]) rfl ⟨rfl,rfl⟩
  · rw [decide_eq_false c] at t
    have e:pla x = x:=by unfold pla;rw [if_neg (by omega)]
    rw [e];clear c e h
    go_enter Tryz.func62,Tryz.ntmps62
    go_wp2
    exact bodyPost_ret (v:=.float .f64 x) (by simp [results,Tryz.results62,go_sem] <;> simp only [*]) rfl ⟨rfl,rfl⟩
theorem empty6_ (w:World):Calls Tryz.prog 34 #[] w fun e w'=>e = .returned (.agg #[.float .f64 9218868437227405312,.float .f64 18442240474082181120])∧w' = w.alloc (.cells #[.float .f64 9218868437227405312,.float .f64 18442240474082181120] 36):=by
  go_enter Tryz.func34,Tryz.ntmps34
  go_wp2_with (go_at_call 61;(first | refine (inf1_ _).mono ?_ | refine (infm_ _).mono ?_);rintro e w' ⟨rfl,rfl⟩)
  exact bodyPost_ret (v:=.agg #[.float .f64 9218868437227405312,.float .f64 18442240474082181120]) (by simp [results,Tryz.results34,go_sem] <;> simp only [*]) rfl ⟨rfl,rfl⟩
end Fq
namespace Fq
theorem read_ (a b:Nat) (ha:a < 18446744073709551616) (hb:b < 18446744073709551616) (w:World):Calls Tryz.prog 32 #[.agg #[.float .f64 a,.float .f64 b]] w fun e w'=>e = .returned (.agg #[.float .f64 (rlo a b),.float .f64 (rhi a b)])∧Grown w w':=by
  have t2:=feqI a ha
  have t3:=feqM b hb
  have hpa:=plain6_ a ha
  have hpb:=plain6_ b hb
  by_cases h1:(FloatKind.f64.format.order a b == some Ordering.lt || FloatKind.f64.format.order a b == some Ordering.eq) = true
  · by_cases h2:a = 9218868437227405312
    · have es:snd a b = false:=by simp [snd,h2]
      rw [decide_eq_true h2] at t2
      rw [show rlo a b = 9218868437227405312 from by simp [rlo,es],show rhi a b = 18442240474082181120 from by simp [rhi,es]]
      clear h2 es ha hb
      go_enter Tryz.func32,Tryz.ntmps32
      go_wp2
      go_quiet ((go_at_call 61;first | exact Calls.quiet_of_same (inf1_ _) | exact Calls.quiet_of_same (infm_ _)))
      go_wp2_with (first | (go_at_call 34;refine (empty6_ _).mono ?_;rintro e w' ⟨rfl,rfl⟩))
      exact bodyPost_ret (v:=.agg #[.float .f64 9218868437227405312,.float .f64 18442240474082181120]) (by simp [results,Tryz.results32,go_sem] <;> simp only [*]) rfl ⟨rfl,(by repeat (with_reducible (first | assumption | exact Grown.refl _ | apply Grown.drew | apply Grown.alloc | apply gdrewN | (refine Grown.setCell ?_ (by simp <;> omega) _) | (refine gtrans ?_ (by assumption)))))⟩
    · rw [decide_eq_false h2] at t2
      by_cases h3:b = 18442240474082181120
      · have es:snd a b = false:=by simp [snd,h3]
        rw [decide_eq_true h3] at t3
        rw [show rlo a b = 9218868437227405312 from by simp [rlo,es],show rhi a b = 18442240474082181120 from by simp [rhi,es]]
        clear h2 h3 es ha hb
        go_enter Tryz.func32,Tryz.ntmps32
        go_wp2
        go_quiet ((go_at_call 61;first | exact Calls.quiet_of_same (inf1_ _) | exact Calls.quiet_of_same (infm_ _)))
        go_wp2_with (first | (go_at_call 34;refine (empty6_ _).mono ?_;rintro e w' ⟨rfl,rfl⟩))
        exact bodyPost_ret (v:=.agg #[.float .f64 9218868437227405312,.float .f64 18442240474082181120]) (by simp [results,Tryz.results32,go_sem] <;> simp only [*]) rfl ⟨rfl,(by repeat (with_reducible (first | assumption | exact Grown.refl _ | apply Grown.drew | apply Grown.alloc | apply gdrewN | (refine Grown.setCell ?_ (by simp <;> omega) _) | (refine gtrans ?_ (by assumption)))))⟩
      · have es:snd a b = true:=by simp only [snd,h1,h2,h3];simp
        rw [decide_eq_false h3] at t3
        rw [show rlo a b = pla a from by simp [rlo,es],show rhi a b = pla b from by simp [rhi,es]]
        clear h2 h3 es ha hb
        go_enter Tryz.func32,Tryz.ntmps32
        go_wp2
        go_quiet ((go_at_call 61;first | exact Calls.quiet_of_same (inf1_ _) | exact Calls.quiet_of_same (infm_ _)))
        go_wp2
        go_region_held3 (fun w'=>w'.cell? ⟨w.heap.size,0,none⟩ = some (.float .f64 a)∧w'.cell? ⟨w.heap.size,1,none⟩ = some (.float .f64 b)) (simp [go_sem,World.cell?_alloc_past]) (first | (go_at_call 62;(first | refine (hpa _).mono ?_ | refine (hpb _).mono ?_);rintro e w' ⟨rfl,rfl⟩))
        go_wp2
        exact bodyPost_ret (v:=.agg #[.float .f64 (pla a),.float .f64 (pla b)]) (by simp [results,Tryz.results32,go_sem] <;> simp only [*]) rfl ⟨rfl,(by repeat (with_reducible (first | assumption | exact Grown.refl _ | apply Grown.drew | apply Grown.alloc | apply gdrewN | (refine Grown.setCell ?_ (by simp <;> omega) _) | (refine gtrans ?_ (by assumption)))))⟩
  · have h1':(FloatKind.f64.format.order a b == some Ordering.lt || FloatKind.f64.format.order a b == some Ordering.eq) = false:=by simpa using h1
    have es:snd a b = false:=by simp only [snd,h1'];simp
    rw [show rlo a b = 9218868437227405312 from by simp [rlo,es],show rhi a b = 18442240474082181120 from by simp [rhi,es]]
    clear h1 es ha hb t2 t3
    go_enter Tryz.func32,Tryz.ntmps32
    go_wp2
    go_quiet ((go_at_call 61;first | exact Calls.quiet_of_same (inf1_ _) | exact Calls.quiet_of_same (infm_ _)))
    go_wp2_with (first | (go_at_call 34;refine (empty6_ _).mono ?_;rintro e w' ⟨rfl,rfl⟩))
    exact bodyPost_ret (v:=.agg #[.float .f64 9218868437227405312,.float .f64 18442240474082181120]) (by simp [results,Tryz.results32,go_sem] <;> simp only [*]) rfl ⟨rfl,(by repeat (with_reducible (first | assumption | exact Grown.refl _ | apply Grown.drew | apply Grown.alloc | apply gdrewN | (refine Grown.setCell ?_ (by simp <;> omega) _) | (refine gtrans ?_ (by assumption)))))⟩
end Fq
namespace Fq

theorem gfroz {W w:World} (h:Grown W w) {a:Addr} (_hb:a.block < W.heap.size):w.frozen? a = W.frozen? a:=Below.frozen h _hb
def H2 (w:World) (b:Nat) (u v:Value):Prop:=w.cell? ⟨b,0,none⟩ = some u∧w.cell? ⟨b,1,none⟩ = some v∧w.frozen? ⟨b,0,none⟩ = false∧w.frozen? ⟨b,1,none⟩ = false
theorem H2.keep {W w:World} {b:Nat} {u v:Value} (h:H2 W b u v) (g:Grown W w):H2 w b u v :=
  ⟨gkeep g h.1,gkeep g h.2.1,(gfroz g (cell_lt h.1)).trans h.2.2.1,(gfroz g (cell_lt h.1)).trans h.2.2.2⟩
theorem H2.lt {w:World} {b:Nat} {u v:Value} (h:H2 w b u v):b < w.heap.size:=cell_lt h.1
theorem H2.new (w:World) (u v:Value) (t:TypeId):H2 (w.alloc (.cells #[u,v] t)) w.heap.size u v:=by
  unfold H2;simp [go_sem]
theorem H2.past {w:World} {b:Nat} {u v:Value} (h:H2 w b u v) (c:Array Value) (t:TypeId):H2 (w.alloc (.cells c t)) b u v:=h.keep (Grown.alloc (Grown.refl _) c t)
theorem H2.drew {w:World} {b:Nat} {u v:Value} (h:H2 w b u v):H2 w.drew b u v:=h.keep (Grown.drew (Grown.refl _))
theorem H2.drewN {w:World} {b:Nat} {u v:Value} (h:H2 w b u v) (n:Nat):H2 (w.drewN n) b u v:=h.keep (gdrewN n (Grown.refl _))
theorem void_read (a b:Nat):decide (rlo a b = 9218868437227405312∧rhi a b = 18442240474082181120) = !(snd a b):=by
  by_cases c:snd a b = true
  · rw [c]
    have h:a≠9218868437227405312:=by
      intro h;rw [h] at c;simp [snd] at c
    have:rlo a b≠9218868437227405312:=by simp only [rlo,c,if_true,pla];split <;> omega
    simp [this]
  · have c:snd a b = false:=by simpa using c
    simp [rlo,rhi,c]
end Fq
namespace Fq

theorem H2.two (w:World) (a b c d:Value) (s t:TypeId):H2 (((w.alloc (.cells #[a,b] s)).drew).alloc (.cells #[c,d] t)) (w.heap.size + 1) c d:=by
  unfold H2;simp [go_sem]
theorem H2.put {w:World} {b:Nat} {u v:Value} (h:H2 w b u v) (u' v':Value):H2 ((w.setCell ⟨b,0,none⟩ u').setCell ⟨b,1,none⟩ v') b u' v':=by
  obtain ⟨h0,h1,h2,h3⟩:=h
  unfold H2;simp [go_sem,h0,h1,h2,h3]
theorem H2.far {w:World} {b:Nat} {u v:Value} (h:H2 w b u v) {c:Nat} (hne:c≠b) (u' v':Value):H2 ((w.setCell ⟨c,0,none⟩ u').setCell ⟨c,1,none⟩ v') b u v:=by
  obtain ⟨h0,h1,h2,h3⟩:=h
  refine ⟨?_, ?_, ?_, ?_⟩
  · rw [World.cell?_setCell_far _ _ _ _ (by simpa using hne),World.cell?_setCell_far _ _ _ _ (by simpa using hne)];exact h0
  · rw [World.cell?_setCell_far _ _ _ _ (by simpa using hne),World.cell?_setCell_far _ _ _ _ (by simpa using hne)];exact h1
  · simp only [World.frozen?_setCell];exact h2
  · simp only [World.frozen?_setCell];exact h3
end Fq
namespace Fq

theorem xor_full (Y:Nat) (h:Y < 18446744073709551616):18446744073709551615 ^^^ Y = 18446744073709551615 - Y:=by
  have e:18446744073709551615 - Y = 2 ^ 64 - (Y + 1):=by omega
  rw [e,show 18446744073709551615 = 2 ^ 64 - 1 from by decide]
  apply Nat.eq_of_testBit_eq
  intro i
  rw [Nat.testBit_xor,Nat.testBit_two_pow_sub_one,Nat.testBit_two_pow_sub_succ (by omega)]
  by_cases c:i < 64
  · simp [c]
  · have:Y.testBit i = false:=Nat.testBit_lt_two_pow (Nat.lt_of_lt_of_le (show Y < 2 ^ 64 by omega) (Nat.pow_le_pow_right (by decide) (by omega)))
    simp [c,this]
theorem noTop6 (n:Bool) (m X:Nat) (hm:m < 9223372036854775808) (hX:X = wD n m):bits .andNot .u64 (X:Int) 9223372036854775808 = (m:Int)∧X < 18446744073709551616:=by
  have hX9:X < 18446744073709551616:=by rw [hX];unfold wD;split <;> omega
  have h:=u64_andNot_nat X 9223372036854775808 hX9 (by decide)
  have e:X % 9223372036854775808 = m:=by rw [hX];unfold wD;split <;> omega
  rw [show 18446744073709551615 - 9223372036854775808 = 2 ^ 63 - 1 from by decide,Nat.and_two_pow_sub_one_eq_mod,show (2:Nat) ^ 63 = 9223372036854775808 from by decide,e] at h
  exact ⟨h,hX9⟩
theorem isnan6_ (n:Bool) (m:Nat) (hm:m < 9223372036854775808) (w:World):Calls Tryz.prog 112 #[.int .u64 ((wD n m:Nat):Int)] w fun e w'=>e = .returned (.bool (decide (9218868437227405312 < m)))∧w' = w:=by
  obtain ⟨X,hX⟩:∃ X,X = wD n m:=⟨_,rfl⟩
  have f1:=(noTop6 n m X hm hX).1
  rw [← hX]
  clear hX hm
  by_cases c:9218868437227405312 < m
  · have t1:9218868437227405312 < (m:Int):=by omega
    rw [decide_eq_true c]
    clear c
    go_enter Tryz.func112,Tryz.ntmps112
    go_wp2
    exact bodyPost_ret (v:=.bool true) (by simp [results,Tryz.results112,go_sem] <;> omega) rfl ⟨rfl,rfl⟩
  · have t1:¬ (9218868437227405312 < (m:Int)):=by omega
    rw [decide_eq_false c]
    clear c
    go_enter Tryz.func112,Tryz.ntmps112
    go_wp2
    exact bodyPost_ret (v:=.bool false) (by simp [results,Tryz.results112,go_sem] <;> omega) rfl ⟨rfl,rfl⟩
theorem rplain6_ (n:Bool) (m:Nat) (hm:m≤9218868437227405312) (w:World):Calls Tryz.prog 87 #[.int .u64 ((wD n m:Nat):Int)] w fun e w'=>e = .returned (.int .u64 ((pla (wD n m):Nat):Int))∧w' = w:=by
  have hn:=isnan6_ n m (by omega)
  rw [decide_eq_false (by omega)] at hn
  obtain ⟨X,hX⟩:∃ X,X = wD n m:=⟨_,rfl⟩
  rw [← hX] at hn ⊢
  clear hX hm
  by_cases c:X = 9223372036854775808
  · have t:((X:Int) == 9223372036854775808) = true:=by rw [c];rfl
    rw [show pla X = 0 from by simp [pla,c]]
    clear c hn
    go_enter Tryz.func87,Tryz.ntmps87
    go_wp2
    exact bodyPost_ret (v:=.int .u64 0) (by simp [results,Tryz.results87,go_sem] <;> simp only [*]) rfl ⟨rfl,rfl⟩
  · have t:((X:Int) == 9223372036854775808) = false:=by simp;omega
    rw [show pla X = X from by simp [pla,c]]
    clear c
    go_enter Tryz.func87,Tryz.ntmps87
    go_wp2_with (first | (go_at_call 112;refine (hn _).mono ?_;rintro e w' ⟨rfl,rfl⟩))
    exact bodyPost_ret (v:=.int .u64 (X:Int)) (by simp [results,Tryz.results87,go_sem] <;> simp only [*]) rfl ⟨rfl,rfl⟩
theorem key6_ (n:Bool) (m:Nat) (hm:m≤9218868437227405312) (w:World):Calls Tryz.prog 146 #[.int .u64 ((wD n m:Nat):Int)] w fun e w'=>e = .returned (.int .u64 ((kyN (wD n m):Nat):Int))∧w' = w:=by
  have hp:=rplain6_ n m hm
  have hb:pla (wD n m) < 18446744073709551616:=pla_lt _ (by unfold wD;split <;> omega)
  obtain ⟨X,hX⟩:∃ X,X = wD n m:=⟨_,rfl⟩
  rw [← hX] at hp hb ⊢
  unfold kyN
  obtain ⟨Y,hY⟩:∃ Y,Y = pla X:=⟨_,rfl⟩
  rw [← hY] at hp hb ⊢
  clear hX hm hY
  by_cases c:9223372036854775808≤Y
  · have t:9223372036854775808≤(Y:Int):=by omega
    have u:bits .xor .u64 IntKind.u64.max (Y:Int) = ((18446744073709551615 - Y:Nat):Int):=by
      have h:=u64_xor_nat 18446744073709551615 Y (by decide) hb
      rw [xor_full Y hb] at h
      exact h
    rw [if_pos c]
    clear c hb
    obtain ⟨Z,hZ⟩:∃ Z:Nat,Z = 18446744073709551615 - Y:=⟨_,rfl⟩
    rw [← hZ] at u ⊢
    clear hZ
    go_enter Tryz.func146,Tryz.ntmps146
    go_wp2_with (first | (go_at_call 87;refine (hp _).mono ?_;rintro e w' ⟨rfl,rfl⟩))
    exact bodyPost_ret (v:=.int .u64 (Z:Int)) (by simp [results,Tryz.results146,go_sem] <;> simp only [*]) rfl ⟨rfl,rfl⟩
  · have t:decide (9223372036854775808≤(Y:Int)) = false:=decide_eq_false (by omega)
    have u:bits .or .u64 (Y:Int) 9223372036854775808 = ((Y + 9223372036854775808:Nat):Int):=by
      have h:=u64_or_nat Y 9223372036854775808 hb (by decide)
      have h9:=Nat.two_pow_add_eq_or_of_lt (i:=63) (b:=Y) (by omega) 1
      rw [show 2 ^ 63 * 1 = 9223372036854775808 from by decide] at h9
      rw [Nat.or_comm,← h9,Nat.add_comm] at h
      exact h
    rw [if_neg c]
    clear c hb
    obtain ⟨Z,hZ⟩:∃ Z:Nat,Z = Y + 9223372036854775808:=⟨_,rfl⟩
    rw [← hZ] at u ⊢
    clear hZ
    go_enter Tryz.func146,Tryz.ntmps146
    go_wp2_with (first | (go_at_call 87;refine (hp _).mono ?_;rintro e w' ⟨rfl,rfl⟩))
    exact bodyPost_ret (v:=.int .u64 (Z:Int)) (by simp [results,Tryz.results146,go_sem] <;> simp only [*]) rfl ⟨rfl,rfl⟩
theorem above6_ (n n':Bool) (m m':Nat) (hm:m < 9223372036854775808) (hm':m' < 9223372036854775808) (w:World):Calls Tryz.prog 113 #[.int .u64 ((wD n m:Nat):Int),.int .u64 ((wD n' m':Nat):Int)] w fun e w'=>e = .returned (.bool (decide (m≤9218868437227405312∧m'≤9218868437227405312∧plz n' m' < plz n m)))∧w' = w:=by
  have hn:=isnan6_ n m hm
  have hn':=isnan6_ n' m' hm'
  have kl:=kyN_lt n' n m' m
  have hk:=key6_ n m
  have hk':=key6_ n' m'
  have e1:m≤9218868437227405312→m'≤9218868437227405312→decide (m≤9218868437227405312∧m'≤9218868437227405312∧plz n' m' < plz n m) = decide ((kyN (wD n' m'):Int) < (kyN (wD n m):Int)):=by
    intro h1 h2
    have kl:=kl h2 h1
    have:((kyN (wD n' m'):Int) < (kyN (wD n m):Int)) ↔ plz n' m' < plz n m:=by rw [← kl];omega
    simp only [this];congr 1;apply propext;omega
  clear kl
  obtain ⟨X,hX⟩:∃ X,X = wD n m:=⟨_,rfl⟩
  obtain ⟨Y,hY⟩:∃ Y,Y = wD n' m':=⟨_,rfl⟩
  rw [← hX] at hn hk e1 ⊢
  rw [← hY] at hn' hk' e1 ⊢
  clear hX hY
  by_cases c1:9218868437227405312 < m
  · rw [decide_eq_true c1] at hn
    rw [decide_eq_false (by omega)]
    clear c1 e1 hk hk' hm hm' hn'
    go_enter Tryz.func113,Tryz.ntmps113
    go_wp2_with (first | (go_at_call 112;refine (hn _).mono ?_;rintro e w' ⟨rfl,rfl⟩))
    exact bodyPost_ret (v:=.bool false) (by simp [results,Tryz.results113,go_sem] <;> simp only [*]) rfl ⟨rfl,rfl⟩
  rw [decide_eq_false c1] at hn
  by_cases c2:9218868437227405312 < m'
  · rw [decide_eq_true c2] at hn'
    rw [decide_eq_false (by omega)]
    clear c1 c2 e1 hk hk' hm hm'
    go_enter Tryz.func113,Tryz.ntmps113
    go_wp2_with (first | (go_at_call_of 112 (Value.int .u64 (X:Int));refine (hn _).mono ?_;rintro e w' ⟨rfl,rfl⟩) | (go_at_call_of 112 (Value.int .u64 (Y:Int));refine (hn' _).mono ?_;rintro e w' ⟨rfl,rfl⟩))
    exact bodyPost_ret (v:=.bool false) (by simp [results,Tryz.results113,go_sem] <;> simp only [*]) rfl ⟨rfl,rfl⟩
  rw [decide_eq_false c2] at hn'
  have hk:=hk (by omega)
  have hk':=hk' (by omega)
  rw [e1 (by omega) (by omega)]
  clear e1 c1 c2 hm hm'
  generalize kyN X = KX at hk ⊢
  generalize kyN Y = KY at hk' ⊢
  go_enter Tryz.func113,Tryz.ntmps113
  go_wp2_with (first | (go_at_call_of 112 (Value.int .u64 (X:Int));refine (hn _).mono ?_;rintro e w' ⟨rfl,rfl⟩) | (go_at_call_of 112 (Value.int .u64 (Y:Int));refine (hn' _).mono ?_;rintro e w' ⟨rfl,rfl⟩) | (go_at_call_of 146 (Value.int .u64 (X:Int));refine (hk _).mono ?_;rintro e w' ⟨rfl,rfl⟩) | (go_at_call_of 146 (Value.int .u64 (Y:Int));refine (hk' _).mono ?_;rintro e w' ⟨rfl,rfl⟩))
  exact bodyPost_ret (v:=.bool (decide ((KY:Int) < (KX:Int)))) (by simp [results,Tryz.results113,go_sem] <;> simp only [*]) rfl ⟨rfl,rfl⟩
end Fq
end Go.Proofs.YtnileplkkmhdgaaGreatDoor
