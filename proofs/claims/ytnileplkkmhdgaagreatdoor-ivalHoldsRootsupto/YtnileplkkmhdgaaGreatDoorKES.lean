import Derived.Test.YtnileplkkmhdgaaGreatDoorKEC3
import Derived.Test.YtnileplkkmhdgaaGreatDoorKMR17
set_option maxHeartbeats 1000000
set_option maxRecDepth 20000
namespace Go.Proofs.YtnileplkkmhdgaaGreatDoor
open Go.RowKit
namespace Fq
theorem rempty_ (w:World):Calls Tryz.prog 57 #[] w fun e w'=>e = .returned (.agg #[.int .u64 9218868437227405312,.int .u64 18442240474082181120])∧w' = w.alloc (.cells #[.int .u64 9218868437227405312,.int .u64 18442240474082181120] 24):=by
  go_enter Tryz.func57,Tryz.ntmps57
  go_wp2
  exact bodyPost_ret (v:=.agg #[.int .u64 9218868437227405312,.int .u64 18442240474082181120]) (by simp [results,Tryz.results57,go_sem] <;> simp only [*]) rfl ⟨rfl,rfl⟩
theorem sound_ (n n':Bool) (m m':Nat) (hm:m < 9223372036854775808) (hm':m' < 9223372036854775808) (w:World):Calls Tryz.prog 86 #[.agg #[.int .u64 (((wD n m):Nat):Int),.int .u64 (((wD n' m'):Nat):Int)]] w fun e w'=>e = .returned (.bool (snd (wD n m) (wD n' m')))∧w' = w.alloc (.cells #[.int .u64 (((wD n m):Nat):Int),.int .u64 (((wD n' m'):Nat):Int)] 24):=by
  have hn:=isnan6_ n m hm
  have hn':=isnan6_ n' m' hm'
  have ha:=above6_ n n' m m' hm hm'
  have es:=snd_w n n' m m' hm hm'
  have e1:(wD n m = 9218868437227405312) ↔ (n = false∧m = 9218868437227405312):=by unfold wD;cases n <;> simp;omega
  have e2:(wD n' m' = 18442240474082181120) ↔ (n' = true∧m' = 9218868437227405312):=by unfold wD;cases n' <;> simp <;> omega
  obtain ⟨X,hX⟩:∃ X,X = wD n m:=⟨_,rfl⟩
  obtain ⟨Y,hY⟩:∃ Y,Y = wD n' m':=⟨_,rfl⟩
  rw [← hX] at hn ha es e1 ⊢
  rw [← hY] at hn' ha es e2 ⊢
  clear hX hY
  rw [es]
  by_cases c1:9218868437227405312 < m
  · rw [decide_eq_true c1] at hn
    rw [decide_eq_false (by omega)]
    clear c1 es e1 e2 hm hm' hn' ha
    go_enter Tryz.func86,Tryz.ntmps86
    go_wp2_with (first | (go_at_call_of 112 (Value.int .u64 (X:Int));refine (hn _).mono ?_;rintro e w' ⟨rfl,rfl⟩))
    exact bodyPost_ret (v:=.bool false) (by simp [results,Tryz.results86,go_sem] <;> simp only [*]) rfl ⟨rfl,rfl⟩
  rw [decide_eq_false c1] at hn
  by_cases c2:9218868437227405312 < m'
  · rw [decide_eq_true c2] at hn'
    rw [decide_eq_false (by omega)]
    clear c1 c2 es e1 e2 hm hm' ha
    go_enter Tryz.func86,Tryz.ntmps86
    go_wp2_with (first | (go_at_call_of 112 (Value.int .u64 (X:Int));refine (hn _).mono ?_;rintro e w' ⟨rfl,rfl⟩) | (go_at_call_of 112 (Value.int .u64 (Y:Int));refine (hn' _).mono ?_;rintro e w' ⟨rfl,rfl⟩))
    exact bodyPost_ret (v:=.bool false) (by simp [results,Tryz.results86,go_sem] <;> simp only [*]) rfl ⟨rfl,rfl⟩
  rw [decide_eq_false c2] at hn'
  by_cases c3:plz n' m' < plz n m
  · rw [decide_eq_true ⟨by omega,by omega,c3⟩] at ha
    rw [decide_eq_false (by omega)]
    clear c1 c2 c3 es e1 e2 hm hm'
    go_enter Tryz.func86,Tryz.ntmps86
    go_wp2_with (first | (go_at_call_of 112 (Value.int .u64 (X:Int));refine (hn _).mono ?_;rintro e w' ⟨rfl,rfl⟩) | (go_at_call_of 112 (Value.int .u64 (Y:Int));refine (hn' _).mono ?_;rintro e w' ⟨rfl,rfl⟩) | (go_at_call 113;refine (ha _).mono ?_;rintro e w' ⟨rfl,rfl⟩))
    exact bodyPost_ret (v:=.bool false) (by simp [results,Tryz.results86,go_sem] <;> simp only [*]) rfl ⟨rfl,rfl⟩
  rw [decide_eq_false (by omega)] at ha
  by_cases c4:X = 9218868437227405312
  · have t4:((X:Int) != 9218868437227405312) = false:=by rw [c4];rfl
    rw [decide_eq_false (fun h=>h.2.2.2.1 (e1.mp c4))]
    clear c1 c2 c3 c4 es e1 e2 hm hm'
    go_enter Tryz.func86,Tryz.ntmps86
    go_wp2_with (first | (go_at_call_of 112 (Value.int .u64 (X:Int));refine (hn _).mono ?_;rintro e w' ⟨rfl,rfl⟩) | (go_at_call_of 112 (Value.int .u64 (Y:Int));refine (hn' _).mono ?_;rintro e w' ⟨rfl,rfl⟩) | (go_at_call 113;refine (ha _).mono ?_;rintro e w' ⟨rfl,rfl⟩))
    exact bodyPost_ret (v:=.bool false) (by simp [results,Tryz.results86,go_sem] <;> simp only [*]) rfl ⟨rfl,rfl⟩
  have t4:((X:Int) != 9218868437227405312) = true:=by simp;omega
  by_cases c5:Y = 18442240474082181120
  · have t5:((Y:Int) != 18442240474082181120) = false:=by rw [c5];rfl
    rw [decide_eq_false (fun h=>h.2.2.2.2 (e2.mp c5))]
    clear c1 c2 c3 c4 c5 es e1 e2 hm hm'
    go_enter Tryz.func86,Tryz.ntmps86
    go_wp2_with (first | (go_at_call_of 112 (Value.int .u64 (X:Int));refine (hn _).mono ?_;rintro e w' ⟨rfl,rfl⟩) | (go_at_call_of 112 (Value.int .u64 (Y:Int));refine (hn' _).mono ?_;rintro e w' ⟨rfl,rfl⟩) | (go_at_call 113;refine (ha _).mono ?_;rintro e w' ⟨rfl,rfl⟩))
    exact bodyPost_ret (v:=.bool false) (by simp [results,Tryz.results86,go_sem] <;> simp only [*]) rfl ⟨rfl,rfl⟩
  have t5:((Y:Int) != 18442240474082181120) = true:=by simp;omega
  rw [decide_eq_true ⟨by omega,by omega,by omega,fun h=>c4 (e1.mpr h),fun h=>c5 (e2.mpr h)⟩]
  clear c1 c2 c3 c4 c5 es e1 e2 hm hm'
  go_enter Tryz.func86,Tryz.ntmps86
  go_wp2_with (first | (go_at_call_of 112 (Value.int .u64 (X:Int));refine (hn _).mono ?_;rintro e w' ⟨rfl,rfl⟩) | (go_at_call_of 112 (Value.int .u64 (Y:Int));refine (hn' _).mono ?_;rintro e w' ⟨rfl,rfl⟩) | (go_at_call 113;refine (ha _).mono ?_;rintro e w' ⟨rfl,rfl⟩))
  exact bodyPost_ret (v:=.bool true) (by simp [results,Tryz.results86,go_sem] <;> simp only [*]) rfl ⟨rfl,rfl⟩
theorem rread_ (n n':Bool) (m m':Nat) (hm:m < 9223372036854775808) (hm':m' < 9223372036854775808) (w:World):Calls Tryz.prog 56 #[.agg #[.int .u64 (((wD n m):Nat):Int),.int .u64 (((wD n' m'):Nat):Int)]] w fun e w'=>e = .returned (.agg #[.int .u64 (((rlo (wD n m) (wD n' m')):Nat):Int),.int .u64 (((rhi (wD n m) (wD n' m')):Nat):Int)])∧Grown w w':=by
  have hs:=sound_ n n' m m' hm hm'
  have es:=snd_w n n' m m' hm hm'
  have hp:=rplain6_ n m
  have hp':=rplain6_ n' m'
  obtain ⟨X,hX⟩:∃ X,X = wD n m:=⟨_,rfl⟩
  obtain ⟨Y,hY⟩:∃ Y,Y = wD n' m':=⟨_,rfl⟩
  rw [← hX] at hs es hp ⊢
  rw [← hY] at hs es hp' ⊢
  clear hX hY
  by_cases c:snd X Y = true
  · rw [c] at hs
    rw [show rlo X Y = pla X from by simp [rlo,c],show rhi X Y = pla Y from by simp [rhi,c]]
    rw [c] at es
    replace es:=of_decide_eq_true es.symm
    replace hp:=hp es.1
    replace hp':=hp' es.2.1
    clear es c hm hm'
    generalize ((pla X:Nat):Int) = PX at hp ⊢
    generalize ((pla Y:Nat):Int) = PY at hp' ⊢
    generalize (X:Int) = X at hs hp ⊢
    generalize (Y:Int) = Y at hs hp' ⊢
    go_enter Tryz.func56,Tryz.ntmps56
    go_wp2_with (first | (go_at_call 86;refine (hs _).mono ?_;rintro e w' ⟨rfl,rfl⟩))
    go_region_held3 (fun w'=>w'.cell? ⟨w.heap.size,0,none⟩ = some (.int .u64 X)∧w'.cell? ⟨w.heap.size,1,none⟩ = some (.int .u64 Y)) (simp [go_sem,World.cell?_alloc_past]) (first | (go_at_call_of 87 (Value.int .u64 X);refine (hp _).mono ?_;rintro e w' ⟨rfl,rfl⟩) | (go_at_call_of 87 (Value.int .u64 Y);refine (hp' _).mono ?_;rintro e w' ⟨rfl,rfl⟩))
    go_wp2
    exact bodyPost_ret (v:=.agg #[.int .u64 PX,.int .u64 PY]) (by simp [results,Tryz.results56,go_sem] <;> simp only [*]) rfl ⟨rfl,(by repeat (with_reducible (first | assumption | exact Grown.refl _ | apply Grown.drew | apply Grown.alloc | apply gdrewN | (refine Grown.setCell ?_ (by simp <;> omega) _) | (refine gtrans ?_ (by assumption)))))⟩
  · have c:snd X Y = false:=by simpa using c
    rw [c] at hs
    rw [show rlo X Y = 9218868437227405312 from by simp [rlo,c],show rhi X Y = 18442240474082181120 from by simp [rhi,c]]
    clear es c hm hm' hp hp'
    go_enter Tryz.func56,Tryz.ntmps56
    go_wp2_with (first | (go_at_call 86;refine (hs _).mono ?_;rintro e w' ⟨rfl,rfl⟩) | (go_at_call 57;refine (rempty_ _).mono ?_;rintro e w' ⟨rfl,rfl⟩))
    exact bodyPost_ret (v:=.agg #[.int .u64 9218868437227405312,.int .u64 18442240474082181120]) (by simp [results,Tryz.results56,go_sem] <;> simp only [*]) rfl ⟨rfl,(by repeat (with_reducible (first | assumption | exact Grown.refl _ | apply Grown.drew | apply Grown.alloc | apply gdrewN | (refine Grown.setCell ?_ (by simp <;> omega) _) | (refine gtrans ?_ (by assumption)))))⟩
end Fq
namespace Fq
theorem eqIn6 (a c:Nat) (w:World):(Op.equalIn 9999 34 (.float .f64 a) (.float .f64 c)).run Tryz.prog w = .ok (FloatKind.f64.format.order a c == some Ordering.eq) w:=by kernel_rfl
theorem void_ (a b:Nat) (ha:a < 18446744073709551616) (hb:b < 18446744073709551616) (w:World):Calls Tryz.prog 33 #[.agg #[.float .f64 a,.float .f64 b]] w fun e w'=>e = .returned (.bool (decide (a = 9218868437227405312∧b = 18442240474082181120)))∧Grown w w':=by
  have t2:=feqI a ha
  have t3:=feqM b hb
  have e1:(decide (a = 9218868437227405312∧b = 18442240474082181120)) = ((FloatKind.f64.format.order a 9218868437227405312 == some Ordering.eq) && (FloatKind.f64.format.order b 18442240474082181120 == some Ordering.eq)):=by
    rw [t2,t3];by_cases c1:a = 9218868437227405312 <;> by_cases c2:b = 18442240474082181120 <;> simp [c1,c2]
  rw [e1]
  clear e1 t2 t3 ha hb
  have h0:=eqIn6 a 9218868437227405312
  have h1:=eqIn6 b 18442240474082181120
  generalize g1:(FloatKind.f64.format.order a 9218868437227405312 == some Ordering.eq) = B1 at h0 ⊢
  generalize g2:(FloatKind.f64.format.order b 18442240474082181120 == some Ordering.eq) = B2 at h1 ⊢
  cases B1 <;> cases B2
  · go_enter Tryz.func33,Tryz.ntmps33
    go_wp2
    go_region_held3 (fun w'=>w'.cell? ⟨w.heap.size,0,none⟩ = some (.float .f64 a)∧w'.cell? ⟨w.heap.size,1,none⟩ = some (.float .f64 b)) (simp [go_sem,World.cell?_alloc_past]) (first | (go_at_call 34;refine (empty6_ _).mono ?_;rintro e w' ⟨rfl,rfl⟩))
    go_wp2
    exact bodyPost_ret (v:=.bool false) (by simp [results,Tryz.results33,go_sem] <;> simp only [*]) rfl ⟨rfl,(by repeat (with_reducible (first | assumption | exact Grown.refl _ | apply Grown.drew | apply Grown.alloc | apply gdrewN | (refine Grown.setCell ?_ (by simp <;> omega) _) | (refine gtrans ?_ (by assumption)))))⟩
  · go_enter Tryz.func33,Tryz.ntmps33
    go_wp2
    go_region_held3 (fun w'=>w'.cell? ⟨w.heap.size,0,none⟩ = some (.float .f64 a)∧w'.cell? ⟨w.heap.size,1,none⟩ = some (.float .f64 b)) (simp [go_sem,World.cell?_alloc_past]) (first | (go_at_call 34;refine (empty6_ _).mono ?_;rintro e w' ⟨rfl,rfl⟩))
    go_wp2
    exact bodyPost_ret (v:=.bool false) (by simp [results,Tryz.results33,go_sem] <;> simp only [*]) rfl ⟨rfl,(by repeat (with_reducible (first | assumption | exact Grown.refl _ | apply Grown.drew | apply Grown.alloc | apply gdrewN | (refine Grown.setCell ?_ (by simp <;> omega) _) | (refine gtrans ?_ (by assumption)))))⟩
  · go_enter Tryz.func33,Tryz.ntmps33
    go_wp2
    go_region_held3 (fun w'=>w'.cell? ⟨w.heap.size,0,none⟩ = some (.float .f64 a)∧w'.cell? ⟨w.heap.size,1,none⟩ = some (.float .f64 b)) (simp [go_sem,World.cell?_alloc_past]) (first | (go_at_call 34;refine (empty6_ _).mono ?_;rintro e w' ⟨rfl,rfl⟩))
    go_wp2
    exact bodyPost_ret (v:=.bool false) (by simp [results,Tryz.results33,go_sem] <;> simp only [*]) rfl ⟨rfl,(by repeat (with_reducible (first | assumption | exact Grown.refl _ | apply Grown.drew | apply Grown.alloc | apply gdrewN | (refine Grown.setCell ?_ (by simp <;> omega) _) | (refine gtrans ?_ (by assumption)))))⟩
  · go_enter Tryz.func33,Tryz.ntmps33
    go_wp2
    go_region_held3 (fun w'=>w'.cell? ⟨w.heap.size,0,none⟩ = some (.float .f64 a)∧w'.cell? ⟨w.heap.size,1,none⟩ = some (.float .f64 b)) (simp [go_sem,World.cell?_alloc_past]) (first | (go_at_call 34;refine (empty6_ _).mono ?_;rintro e w' ⟨rfl,rfl⟩))
    go_wp2
    exact bodyPost_ret (v:=.bool true) (by simp [results,Tryz.results33,go_sem] <;> simp only [*]) rfl ⟨rfl,(by repeat (with_reducible (first | assumption | exact Grown.refl _ | apply Grown.drew | apply Grown.alloc | apply gdrewN | (refine Grown.setCell ?_ (by simp <;> omega) _) | (refine gtrans ?_ (by assumption)))))⟩
end Fq
theorem Fq.H2.two0 (w:World) (a b c d:Value) (s t:TypeId):Fq.H2 ((w.alloc (.cells #[a,b] s)).alloc (.cells #[c,d] t)) (w.heap.size + 1) c d:=by
  unfold Fq.H2;simp [go_sem]

def pw (z:Int):Nat:=Fq.wD (decide (z < 0)) z.natAbs
def BdZ (z:Int):Prop:=-9218868437227405312≤z∧z≤9218868437227405312
theorem plz_pw (z:Int):Fq.plz (decide (z < 0)) z.natAbs = z:=by
  unfold Fq.plz
  by_cases c:z < 0 <;> simp [c] <;> omega
theorem abs_pw (z:Int) (h:BdZ z):z.natAbs≤9218868437227405312:=by unfold BdZ at h;omega
theorem pw_lt (z:Int) (h:BdZ z):pw z < 18446744073709551616:=by
  have:=abs_pw z h
  unfold pw Fq.wD;split <;> omega
theorem pw_ne (z:Int) (h:BdZ z):pw z≠9223372036854775808:=by
  have h2:=abs_pw z h
  unfold pw Fq.wD
  by_cases c:z < 0 <;> simp [c] <;> omega
theorem pla_pw (z:Int) (h:BdZ z):Fq.pla (pw z) = pw z:=by unfold Fq.pla;rw [if_neg (pw_ne z h)]
theorem pw_I:pw 9218868437227405312 = 9218868437227405312:=by decide
theorem pw_MI:pw (-9218868437227405312) = 18442240474082181120:=by decide
theorem ord_pw (x y:Int) (hx:BdZ x) (hy:BdZ y):FloatKind.f64.format.order (pw x) (pw y) = some (compare x y):=by
  have h:=Fq.ordD (decide (x < 0)) (decide (y < 0)) x.natAbs y.natAbs (abs_pw x hx) (abs_pw y hy)
  rw [plz_pw,plz_pw] at h
  exact h
theorem plt9 (x y:Int) (hx:BdZ x) (hy:BdZ y):(FloatKind.f64.format.order (pw x) (pw y) == some Ordering.lt) = decide (x < y):=by
  rw [ord_pw x y hx hy]
  rcases Int.lt_trichotomy x y with g | g | g
  · rw [Fq.cmp_lt g,decide_eq_true g];rfl
  · rw [Fq.cmp_eq g,decide_eq_false (by omega)];rfl
  · rw [Fq.cmp_gt g,decide_eq_false (by omega)];rfl
theorem peq9 (x y:Int) (hx:BdZ x) (hy:BdZ y):(FloatKind.f64.format.order (pw x) (pw y) == some Ordering.eq) = decide (x = y):=by
  rw [ord_pw x y hx hy]
  rcases Int.lt_trichotomy x y with g | g | g
  · rw [Fq.cmp_lt g,decide_eq_false (by omega)];rfl
  · rw [Fq.cmp_eq g,decide_eq_true g];rfl
  · rw [Fq.cmp_gt g,decide_eq_false (by omega)];rfl
theorem ple9 (x y:Int) (hx:BdZ x) (hy:BdZ y):(FloatKind.f64.format.order (pw x) (pw y) == some Ordering.lt || FloatKind.f64.format.order (pw x) (pw y) == some Ordering.eq) = decide (x≤y):=by
  rw [plt9 x y hx hy,peq9 x y hx hy]
  by_cases c:x < y <;> by_cases c2:x = y <;> simp [c,c2] <;> omega
theorem pw_inj (x y:Int) (hx:BdZ x) (hy:BdZ y):pw x = pw y ↔ x = y:=by
  constructor
  · intro h
    have e:=peq9 x y hx hy
    have e2:=peq9 y y hy hy
    rw [h,e2] at e
    by_cases c:x = y
    · exact c
    · simp [c] at e
  · intro h;rw [h]
def VdZ (L H:Int):Prop:=(L = 9218868437227405312∧H = -9218868437227405312)∨(-9218868437227405312≤L∧L < 9218868437227405312∧-9218868437227405312 < H∧H≤9218868437227405312∧L≤H)
theorem VdZ.lo {L H:Int} (h:VdZ L H):BdZ L:=by unfold VdZ at h;unfold BdZ;omega
theorem VdZ.hi {L H:Int} (h:VdZ L H):BdZ H:=by unfold VdZ at h;unfold BdZ;omega
theorem pw_plz (n:Bool) (m:Nat) (h:Fq.wD n m≠9223372036854775808) (hm:m≤9218868437227405312):pw (Fq.plz n m) = Fq.wD n m∧BdZ (Fq.plz n m):=by
  cases n
  · have e:Fq.plz false m = (m:Int):=by simp [Fq.plz]
    rw [e]
    refine ⟨?_,by unfold BdZ;omega⟩
    unfold pw
    rw [show decide ((m:Int) < 0) = false from decide_eq_false (by omega),show ((m:Int)).natAbs = m from by omega]
  · have e:Fq.plz true m = -(m:Int):=by simp [Fq.plz]
    have z:m≠0:=by intro z;apply h;rw [z];rfl
    rw [e]
    refine ⟨?_,by unfold BdZ;omega⟩
    unfold pw
    rw [show decide (-(m:Int) < 0) = true from decide_eq_true (by omega),show (-(m:Int)).natAbs = m from by omega]
theorem snd_pw (L H:Int) (hL:BdZ L) (hH:BdZ H):Fq.snd (pw L) (pw H) = decide (L≤H∧L≠9218868437227405312∧H≠-9218868437227405312):=by
  unfold Fq.snd
  rw [ple9 L H hL hH]
  have e1:(pw L = 9218868437227405312) ↔ L = 9218868437227405312:=by
    have h:=pw_inj L 9218868437227405312 hL (by unfold BdZ;omega)
    rw [pw_I] at h;exact h
  have e2:(pw H = 18442240474082181120) ↔ H = -9218868437227405312:=by
    have h:=pw_inj H (-9218868437227405312) hH (by unfold BdZ;omega)
    rw [pw_MI] at h;exact h
  simp only [e1,e2]
  by_cases c1:L≤H <;> by_cases c2:L = 9218868437227405312 <;> by_cases c3:H = -9218868437227405312 <;> simp [c1,c2,c3]
theorem rlo_pw (L H:Int) (hL:BdZ L) (hH:BdZ H):Fq.rlo (pw L) (pw H) = pw (if L≤H∧L≠9218868437227405312∧H≠-9218868437227405312 then L else 9218868437227405312):=by
  unfold Fq.rlo
  rw [snd_pw L H hL hH,pla_pw L hL]
  by_cases c:L≤H∧L≠9218868437227405312∧H≠-9218868437227405312
  · rw [if_pos c,if_pos (decide_eq_true c)]
  · rw [if_neg c,if_neg (by simpa using c),pw_I]
theorem rhi_pw (L H:Int) (hL:BdZ L) (hH:BdZ H):Fq.rhi (pw L) (pw H) = pw (if L≤H∧L≠9218868437227405312∧H≠-9218868437227405312 then H else -9218868437227405312):=by
  unfold Fq.rhi
  rw [snd_pw L H hL hH,pla_pw H hH]
  by_cases c:L≤H∧L≠9218868437227405312∧H≠-9218868437227405312
  · rw [if_pos c,if_pos (decide_eq_true c)]
  · rw [if_neg c,if_neg (by simpa using c),pw_MI]
theorem read_pw (a b:Nat) (ha:a < 18446744073709551616) (hb:b < 18446744073709551616):∃ L H,VdZ L H∧Fq.rlo a b = pw L∧Fq.rhi a b = pw H:=by
  by_cases c:Fq.snd a b = true
  · obtain ⟨n,m,hm,rfl⟩:=Fq.exD a ha
    obtain ⟨n',m',hm',rfl⟩:=Fq.exD b hb
    have es:=Fq.snd_w n n' m m' hm hm'
    rw [c] at es
    have es:=of_decide_eq_true es.symm
    have key:∀ (g:Bool) (r:Nat),r≤9218868437227405312→pw (Fq.plz g r) = Fq.pla (Fq.wD g r)∧BdZ (Fq.plz g r):=by
      intro g r hr
      by_cases c2:Fq.wD g r = 9223372036854775808
      · have hg:g = true∧r = 0:=by
          unfold Fq.wD at c2
          cases g
          · simp at c2;omega
          · simp at c2;exact ⟨rfl,c2⟩
        rw [c2,hg.1,hg.2]
        exact ⟨by decide,by unfold BdZ Fq.plz;simp⟩
      · have h:=pw_plz g r c2 hr
        rw [show Fq.pla (Fq.wD g r) = Fq.wD g r from by simp [Fq.pla,c2]]
        exact h
    have k1:=key n m es.1
    have k2:=key n' m' es.2.1
    refine ⟨Fq.plz n m,Fq.plz n' m',Or.inr ?_, ?_, ?_⟩
    · have b1:=k1.2
      have b2:=k2.2
      unfold BdZ at b1 b2
      have e1:Fq.plz n m≠9218868437227405312:=by
        intro h
        apply es.2.2.2.1
        unfold Fq.plz at h
        cases n
        · simp at h;exact ⟨rfl,by omega⟩
        · simp at h;omega
      have e2:Fq.plz n' m'≠-9218868437227405312:=by
        intro h
        apply es.2.2.2.2
        unfold Fq.plz at h
        cases n'
        · simp at h <;> omega
        · simp at h;exact ⟨rfl,by omega⟩
      have:=es.2.2.1
      omega
    · rw [k1.1];simp [Fq.rlo,c]
    · rw [k2.1];simp [Fq.rhi,c]
  · refine ⟨9218868437227405312,-9218868437227405312,Or.inl ⟨rfl,rfl⟩, ?_, ?_⟩
    · rw [pw_I];unfold Fq.rlo;rw [if_neg c]
    · rw [pw_MI];unfold Fq.rhi;rw [if_neg c]
theorem reread9 (L H:Int) (h:VdZ L H):Fq.rlo (pw L) (pw H) = pw L∧Fq.rhi (pw L) (pw H) = pw H:=by
  rw [rlo_pw L H h.lo h.hi,rhi_pw L H h.lo h.hi]
  rcases h with ⟨rfl,rfl⟩ | h
  · exact ⟨by rw [if_neg (by omega)],by rw [if_neg (by omega)]⟩
  · exact ⟨by rw [if_pos (by omega)],by rw [if_pos (by omega)]⟩
theorem bd_max (x y:Int) (hx:BdZ x) (hy:BdZ y):BdZ (max x y):=by unfold BdZ at *;omega
end Go.Proofs.YtnileplkkmhdgaaGreatDoor
