import Derived.Test.YtcepchaakfiojaaKEA
import Derived.Deep.CutRange
set_option maxHeartbeats 1000000
set_option maxRecDepth 20000
namespace Go.Proofs.Ytcepchaakfiojaa
open Go.RowKit

def pw (z:Int):Nat:=Fq.wD (decide (z < 0)) z.natAbs
def BdZ (z:Int):Prop:=-9218868437227405312≤z∧z≤9218868437227405312
theorem plz_pw (z:Int):Fq.plz (decide (z < 0)) z.natAbs = z:=by
  unfold Fq.plz
  by_cases c:z < 0 <;> simp [c] <;> omega
theorem abs_pw (z:Int) (h:BdZ z):z.natAbs≤9218868437227405312:=by unfold BdZ at h;omega
theorem pw_lt (z:Int) (h:BdZ z):pw z < 18446744073709551616:=by
  have:=abs_pw z h
  unfold pw Fq.wD;split <;> omega
theorem pw_ne (z:Int) (h:BdZ z):pw z≠9223372036854775808:=by
  have h2:=abs_pw z h
  unfold pw Fq.wD
  by_cases c:z < 0 <;> simp [c] <;> omega
theorem pla_pw (z:Int) (h:BdZ z):Fq.pla (pw z) = pw z:=by unfold Fq.pla;rw [if_neg (pw_ne z h)]
theorem pw_I:pw 9218868437227405312 = 9218868437227405312:=by decide
theorem pw_MI:pw (-9218868437227405312) = 18442240474082181120:=by decide
theorem ord_pw (x y:Int) (hx:BdZ x) (hy:BdZ y):FloatKind.f64.format.order (pw x) (pw y) = some (compare x y):=by
  have h:=Fq.ordD (decide (x < 0)) (decide (y < 0)) x.natAbs y.natAbs (abs_pw x hx) (abs_pw y hy)
  rw [plz_pw,plz_pw] at h
  exact h
theorem plt9 (x y:Int) (hx:BdZ x) (hy:BdZ y):(FloatKind.f64.format.order (pw x) (pw y) == some Ordering.lt) = decide (x < y):=by
  rw [ord_pw x y hx hy]
  rcases Int.lt_trichotomy x y with g | g | g
  · rw [Fq.cmp_lt g,decide_eq_true g];rfl
  · rw [Fq.cmp_eq g,decide_eq_false (by omega)];rfl
  · rw [Fq.cmp_gt g,decide_eq_false (by omega)];rfl
theorem peq9 (x y:Int) (hx:BdZ x) (hy:BdZ y):(FloatKind.f64.format.order (pw x) (pw y) == some Ordering.eq) = decide (x = y):=by
  rw [ord_pw x y hx hy]
  rcases Int.lt_trichotomy x y with g | g | g
  · rw [Fq.cmp_lt g,decide_eq_false (by omega)];rfl
  · rw [Fq.cmp_eq g,decide_eq_true g];rfl
  · rw [Fq.cmp_gt g,decide_eq_false (by omega)];rfl
theorem ple9 (x y:Int) (hx:BdZ x) (hy:BdZ y):(FloatKind.f64.format.order (pw x) (pw y) == some Ordering.lt || FloatKind.f64.format.order (pw x) (pw y) == some Ordering.eq) = decide (x≤y):=by
  rw [plt9 x y hx hy,peq9 x y hx hy]
  by_cases c:x < y <;> by_cases c2:x = y <;> simp [c,c2] <;> omega
theorem pw_inj (x y:Int) (hx:BdZ x) (hy:BdZ y):pw x = pw y ↔ x = y:=by
  constructor
  · intro h
    have e:=peq9 x y hx hy
    have e2:=peq9 y y hy hy
    rw [h,e2] at e
    by_cases c:x = y
    · exact c
    · simp [c] at e
  · intro h;rw [h]
def VdZ (L H:Int):Prop:=(L = 9218868437227405312∧H = -9218868437227405312)∨(-9218868437227405312≤L∧L < 9218868437227405312∧-9218868437227405312 < H∧H≤9218868437227405312∧L≤H)
theorem VdZ.lo {L H:Int} (h:VdZ L H):BdZ L:=by unfold VdZ at h;unfold BdZ;omega
theorem VdZ.hi {L H:Int} (h:VdZ L H):BdZ H:=by unfold VdZ at h;unfold BdZ;omega
theorem pw_plz (n:Bool) (m:Nat) (h:Fq.wD n m≠9223372036854775808) (hm:m≤9218868437227405312):pw (Fq.plz n m) = Fq.wD n m∧BdZ (Fq.plz n m):=by
  cases n
  · have e:Fq.plz false m = (m:Int):=by simp [Fq.plz]
    rw [e]
    refine ⟨?_,by unfold BdZ;omega⟩
    unfold pw
    rw [show decide ((m:Int) < 0) = false from decide_eq_false (by omega),show ((m:Int)).natAbs = m from by omega]
  · have e:Fq.plz true m = -(m:Int):=by simp [Fq.plz]
    have z:m≠0:=by intro z;apply h;rw [z];rfl
    rw [e]
    refine ⟨?_,by unfold BdZ;omega⟩
    unfold pw
    rw [show decide (-(m:Int) < 0) = true from decide_eq_true (by omega),show (-(m:Int)).natAbs = m from by omega]
theorem snd_pw (L H:Int) (hL:BdZ L) (hH:BdZ H):Fq.snd (pw L) (pw H) = decide (L≤H∧L≠9218868437227405312∧H≠-9218868437227405312):=by
  unfold Fq.snd
  rw [ple9 L H hL hH]
  have e1:(pw L = 9218868437227405312) ↔ L = 9218868437227405312:=by
    have h:=pw_inj L 9218868437227405312 hL (by unfold BdZ;omega)
    rw [pw_I] at h;exact h
  have e2:(pw H = 18442240474082181120) ↔ H = -9218868437227405312:=by
    have h:=pw_inj H (-9218868437227405312) hH (by unfold BdZ;omega)
    rw [pw_MI] at h;exact h
  simp only [e1,e2]
  by_cases c1:L≤H <;> by_cases c2:L = 9218868437227405312 <;> by_cases c3:H = -9218868437227405312 <;> simp [c1,c2,c3]
theorem rlo_pw (L H:Int) (hL:BdZ L) (hH:BdZ H):Fq.rlo (pw L) (pw H) = pw (if L≤H∧L≠9218868437227405312∧H≠-9218868437227405312 then L else 9218868437227405312):=by
  unfold Fq.rlo
  rw [snd_pw L H hL hH,pla_pw L hL]
  by_cases c:L≤H∧L≠9218868437227405312∧H≠-9218868437227405312
  · rw [if_pos c,if_pos (decide_eq_true c)]
  · rw [if_neg c,if_neg (by simpa using c),pw_I]
theorem rhi_pw (L H:Int) (hL:BdZ L) (hH:BdZ H):Fq.rhi (pw L) (pw H) = pw (if L≤H∧L≠9218868437227405312∧H≠-9218868437227405312 then H else -9218868437227405312):=by
  unfold Fq.rhi
  rw [snd_pw L H hL hH,pla_pw H hH]
  by_cases c:L≤H∧L≠9218868437227405312∧H≠-9218868437227405312
  · rw [if_pos c,if_pos (decide_eq_true c)]
  · rw [if_neg c,if_neg (by simpa using c),pw_MI]
theorem read_pw (a b:Nat) (ha:a < 18446744073709551616) (hb:b < 18446744073709551616):∃ L H,VdZ L H∧Fq.rlo a b = pw L∧Fq.rhi a b = pw H:=by
  by_cases c:Fq.snd a b = true
  · obtain ⟨n,m,hm,rfl⟩:=Fq.exD a ha
    obtain ⟨n',m',hm',rfl⟩:=Fq.exD b hb
    have es:=Fq.snd_w n n' m m' hm hm'
    rw [c] at es
    have es:=of_decide_eq_true es.symm
    have key:∀ (g:Bool) (r:Nat),r≤9218868437227405312→pw (Fq.plz g r) = Fq.pla (Fq.wD g r)∧BdZ (Fq.plz g r):=by
      intro g r hr
      by_cases c2:Fq.wD g r = 9223372036854775808
      · have hg:g = true∧r = 0:=by
          unfold Fq.wD at c2
          cases g
          · simp at c2;omega
          · simp at c2;exact ⟨rfl,c2⟩
        rw [c2,hg.1,hg.2]
        exact ⟨by decide,by unfold BdZ Fq.plz;simp⟩
      · have h:=pw_plz g r c2 hr
        rw [show Fq.pla (Fq.wD g r) = Fq.wD g r from by simp [Fq.pla,c2]]
        exact h
    have k1:=key n m es.1
    have k2:=key n' m' es.2.1
    refine ⟨Fq.plz n m,Fq.plz n' m',Or.inr ?_, ?_, ?_⟩
    · have b1:=k1.2
      have b2:=k2.2
      unfold BdZ at b1 b2
      have e1:Fq.plz n m≠9218868437227405312:=by
        intro h
        apply es.2.2.2.1
        unfold Fq.plz at h
        cases n
        · simp at h;exact ⟨rfl,by omega⟩
        · simp at h;omega
      have e2:Fq.plz n' m'≠-9218868437227405312:=by
        intro h
        apply es.2.2.2.2
        unfold Fq.plz at h
        cases n'
        · simp at h <;> omega
        · simp at h;exact ⟨rfl,by omega⟩
      have:=es.2.2.1
      omega
    · rw [k1.1];simp [Fq.rlo,c]
    · rw [k2.1];simp [Fq.rhi,c]
  · refine ⟨9218868437227405312,-9218868437227405312,Or.inl ⟨rfl,rfl⟩, ?_, ?_⟩
    · rw [pw_I];unfold Fq.rlo;rw [if_neg c]
    · rw [pw_MI];unfold Fq.rhi;rw [if_neg c]
theorem reread9 (L H:Int) (h:VdZ L H):Fq.rlo (pw L) (pw H) = pw L∧Fq.rhi (pw L) (pw H) = pw H:=by
  rw [rlo_pw L H h.lo h.hi,rhi_pw L H h.lo h.hi]
  rcases h with ⟨rfl,rfl⟩ | h
  · exact ⟨by rw [if_neg (by omega)],by rw [if_neg (by omega)]⟩
  · exact ⟨by rw [if_pos (by omega)],by rw [if_pos (by omega)]⟩
def iL (L1 H1 L2 H2:Int):Int:=if max L1 L2≤min H1 H2 then max L1 L2 else 9218868437227405312
def iH (L1 H1 L2 H2:Int):Int:=if max L1 L2≤min H1 H2 then min H1 H2 else -9218868437227405312
theorem bd_max (x y:Int) (hx:BdZ x) (hy:BdZ y):BdZ (max x y):=by unfold BdZ at *;omega
theorem bd_min (x y:Int) (hx:BdZ x) (hy:BdZ y):BdZ (min x y):=by unfold BdZ at *;omega
theorem vd_meet (L1 H1 L2 H2:Int) (h1:VdZ L1 H1) (h2:VdZ L2 H2):VdZ (iL L1 H1 L2 H2) (iH L1 H1 L2 H2):=by
  unfold iL iH VdZ at *
  split <;> omega
theorem vd_hull (L1 H1 L2 H2:Int) (h1:VdZ L1 H1) (h2:VdZ L2 H2):VdZ (min L1 L2) (max H1 H2):=by
  unfold VdZ at *
  omega
theorem read_meet (L1 H1 L2 H2:Int) (h1:VdZ L1 H1) (h2:VdZ L2 H2):Fq.rlo (pw (max L1 L2)) (pw (min H1 H2)) = pw (iL L1 H1 L2 H2)∧Fq.rhi (pw (max L1 L2)) (pw (min H1 H2)) = pw (iH L1 H1 L2 H2):=by
  rw [rlo_pw _ _ (bd_max _ _ h1.lo h2.lo) (bd_min _ _ h1.hi h2.hi),rhi_pw _ _ (bd_max _ _ h1.lo h2.lo) (bd_min _ _ h1.hi h2.hi)]
  unfold iL iH
  have e:(max L1 L2≤min H1 H2∧max L1 L2≠9218868437227405312∧min H1 H2≠-9218868437227405312) ↔ max L1 L2≤min H1 H2:=by
    unfold VdZ at h1 h2
    omega
  simp only [e]
  exact ⟨trivial,trivial⟩
namespace Fq
theorem eqInR (a c:Nat) (w:World):(Op.equalIn 9999 27 (.float .f64 a) (.float .f64 c)).run Try.prog w = .ok (FloatKind.f64.format.order a c == some Ordering.eq) w:=by kernel_rfl
theorem voidR_ (a b:Nat) (ha:a < 18446744073709551616) (hb:b < 18446744073709551616) (w:World):Calls Try.prog 27 #[.agg #[.float .f64 a,.float .f64 b]] w fun e w'=>e = .returned (.bool (decide (a = 9218868437227405312∧b = 18442240474082181120)))∧Grown w w':=by
  have t2:=feqI a ha
  have t3:=feqM b hb
  have e1:(decide (a = 9218868437227405312∧b = 18442240474082181120)) = ((FloatKind.f64.format.order a 9218868437227405312 == some Ordering.eq) && (FloatKind.f64.format.order b 18442240474082181120 == some Ordering.eq)):=by
    rw [t2,t3];by_cases c1:a = 9218868437227405312 <;> by_cases c2:b = 18442240474082181120 <;> simp [c1,c2]
  rw [e1]
  clear e1 t2 t3 ha hb
  have h0:=eqInR a 9218868437227405312
  have h1:=eqInR b 18442240474082181120
  generalize g1:(FloatKind.f64.format.order a 9218868437227405312 == some Ordering.eq) = B1 at h0 ⊢
  generalize g2:(FloatKind.f64.format.order b 18442240474082181120 == some Ordering.eq) = B2 at h1 ⊢
  cases B1 <;> cases B2
  · go_enter Try.func27,Try.ntmps27
    go_wp2
    go_region_held3 (fun w'=>w'.cell? ⟨w.heap.size,0,none⟩ = some (.float .f64 a)∧w'.cell? ⟨w.heap.size,1,none⟩ = some (.float .f64 b)) (simp [go_sem,World.cell?_alloc_past]) (first | (go_at_call 14;refine (empty6_ _).mono ?_;rintro e w' ⟨rfl,rfl⟩))
    go_wp2
    exact bodyPost_ret (v:=.bool false) (by simp [results,Try.results27,go_sem] <;> simp only [*]) rfl ⟨rfl,(by repeat (with_reducible (first | assumption | exact Grown.refl _ | apply Grown.drew | apply Grown.alloc | apply gdrewN | (refine Grown.setCell ?_ (by simp <;> omega) _) | (refine gtrans ?_ (by assumption)))))⟩
  · go_enter Try.func27,Try.ntmps27
    go_wp2
    go_region_held3 (fun w'=>w'.cell? ⟨w.heap.size,0,none⟩ = some (.float .f64 a)∧w'.cell? ⟨w.heap.size,1,none⟩ = some (.float .f64 b)) (simp [go_sem,World.cell?_alloc_past]) (first | (go_at_call 14;refine (empty6_ _).mono ?_;rintro e w' ⟨rfl,rfl⟩))
    go_wp2
    exact bodyPost_ret (v:=.bool false) (by simp [results,Try.results27,go_sem] <;> simp only [*]) rfl ⟨rfl,(by repeat (with_reducible (first | assumption | exact Grown.refl _ | apply Grown.drew | apply Grown.alloc | apply gdrewN | (refine Grown.setCell ?_ (by simp <;> omega) _) | (refine gtrans ?_ (by assumption)))))⟩
  · go_enter Try.func27,Try.ntmps27
    go_wp2
    go_region_held3 (fun w'=>w'.cell? ⟨w.heap.size,0,none⟩ = some (.float .f64 a)∧w'.cell? ⟨w.heap.size,1,none⟩ = some (.float .f64 b)) (simp [go_sem,World.cell?_alloc_past]) (first | (go_at_call 14;refine (empty6_ _).mono ?_;rintro e w' ⟨rfl,rfl⟩))
    go_wp2
    exact bodyPost_ret (v:=.bool false) (by simp [results,Try.results27,go_sem] <;> simp only [*]) rfl ⟨rfl,(by repeat (with_reducible (first | assumption | exact Grown.refl _ | apply Grown.drew | apply Grown.alloc | apply gdrewN | (refine Grown.setCell ?_ (by simp <;> omega) _) | (refine gtrans ?_ (by assumption)))))⟩
  · go_enter Try.func27,Try.ntmps27
    go_wp2
    go_region_held3 (fun w'=>w'.cell? ⟨w.heap.size,0,none⟩ = some (.float .f64 a)∧w'.cell? ⟨w.heap.size,1,none⟩ = some (.float .f64 b)) (simp [go_sem,World.cell?_alloc_past]) (first | (go_at_call 14;refine (empty6_ _).mono ?_;rintro e w' ⟨rfl,rfl⟩))
    go_wp2
    exact bodyPost_ret (v:=.bool true) (by simp [results,Try.results27,go_sem] <;> simp only [*]) rfl ⟨rfl,(by repeat (with_reducible (first | assumption | exact Grown.refl _ | apply Grown.drew | apply Grown.alloc | apply gdrewN | (refine Grown.setCell ?_ (by simp <;> omega) _) | (refine gtrans ?_ (by assumption)))))⟩
end Fq
theorem min7_ (n n':Bool) (m m':Nat) (hm:m≤9218868437227405312) (hm':m'≤9218868437227405312) (h1:Fq.wD n m≠9223372036854775808) (h2:Fq.wD n' m'≠9223372036854775808) (ts:Array TypeId) (t:TypeId) (w:World):(Builtin.min_ ts t #[.float .f64 (Fq.wD n m),.float .f64 (Fq.wD n' m')]).run Try.prog w = .ok (.float .f64 (if Fq.plz n' m' < Fq.plz n m then Fq.wD n' m' else Fq.wD n m)) w:=by
  have ho:=Fq.ordD n n' m m' hm hm'
  rcases Int.lt_trichotomy (Fq.plz n m) (Fq.plz n' m') with g | g | g
  · rw [Fq.cmp_lt g] at ho
    rw [if_neg (by omega)]
    generalize Fq.wD n m = X at ho ⊢
    generalize Fq.wD n' m' = Y at ho ⊢
    simp [Builtin.min_,Builtin.min2,ho]
  · rw [Fq.cmp_eq g] at ho
    have e:Fq.wD n m = Fq.wD n' m':=by
      have z1:n = true→m≠0:=fun h z=>h1 (by rw [h,z];rfl)
      have z2:n' = true→m'≠0:=fun h z=>h2 (by rw [h,z];rfl)
      unfold Fq.wD
      unfold Fq.plz at g
      cases n <;> cases n' <;> simp at z1 z2 g ⊢ <;> omega
    rw [if_neg (by omega)]
    rw [← e] at ho ⊢
    generalize Fq.wD n m = X at ho ⊢
    simp [Builtin.min_,Builtin.min2,ho]
  · rw [Fq.cmp_gt g] at ho
    rw [if_pos (by omega)]
    generalize Fq.wD n m = X at ho ⊢
    generalize Fq.wD n' m' = Y at ho ⊢
    simp [Builtin.min_,Builtin.min2,ho]
theorem max7_ (n n':Bool) (m m':Nat) (hm:m≤9218868437227405312) (hm':m'≤9218868437227405312) (h1:Fq.wD n m≠9223372036854775808) (h2:Fq.wD n' m'≠9223372036854775808) (ts:Array TypeId) (t:TypeId) (w:World):(Builtin.max_ ts t #[.float .f64 (Fq.wD n m),.float .f64 (Fq.wD n' m')]).run Try.prog w = .ok (.float .f64 (if Fq.plz n' m' > Fq.plz n m then Fq.wD n' m' else Fq.wD n m)) w:=by
  have ho:=Fq.ordD n n' m m' hm hm'
  rcases Int.lt_trichotomy (Fq.plz n m) (Fq.plz n' m') with g | g | g
  · rw [Fq.cmp_lt g] at ho
    rw [if_pos (by omega)]
    generalize Fq.wD n m = X at ho ⊢
    generalize Fq.wD n' m' = Y at ho ⊢
    simp [Builtin.max_,Builtin.max2,ho]
  · rw [Fq.cmp_eq g] at ho
    have e:Fq.wD n m = Fq.wD n' m':=by
      have z1:n = true→m≠0:=fun h z=>h1 (by rw [h,z];rfl)
      have z2:n' = true→m'≠0:=fun h z=>h2 (by rw [h,z];rfl)
      unfold Fq.wD
      unfold Fq.plz at g
      cases n <;> cases n' <;> simp at z1 z2 g ⊢ <;> omega
    rw [if_neg (by omega)]
    rw [← e] at ho ⊢
    generalize Fq.wD n m = X at ho ⊢
    simp [Builtin.max_,Builtin.max2,ho]
  · rw [Fq.cmp_gt g] at ho
    rw [if_neg (by omega)]
    generalize Fq.wD n m = X at ho ⊢
    generalize Fq.wD n' m' = Y at ho ⊢
    simp [Builtin.max_,Builtin.max2,ho]

def Rd (a b:Nat) (L H:Int):Prop:=a < 18446744073709551616∧b < 18446744073709551616∧VdZ L H∧Fq.rlo a b = pw L∧Fq.rhi a b = pw H
theorem Rd.ex (a b:Nat) (ha:a < 18446744073709551616) (hb:b < 18446744073709551616):∃ L H,Rd a b L H:=by
  obtain ⟨L,H,h1,h2,h3⟩:=read_pw a b ha hb
  exact ⟨L,H,ha,hb,h1,h2,h3⟩
theorem Rd.of {L H:Int} (h:VdZ L H):Rd (pw L) (pw H) L H:=⟨pw_lt L h.lo,pw_lt H h.hi,h,(reread9 L H h).1,(reread9 L H h).2⟩
theorem Rd.vd {a b:Nat} {L H:Int} (h:Rd a b L H):VdZ L H:=h.2.2.1
theorem Rd.call {a b:Nat} {L H:Int} (h:Rd a b L H) (w:World):Calls Try.prog 12 #[.agg #[.float .f64 a,.float .f64 b]] w fun e w'=>e = .returned (.agg #[.float .f64 (pw L),.float .f64 (pw H)])∧Kp w w':=by
  have g:=Fq.read_ a b h.1 h.2.1 w
  rw [h.2.2.2.1,h.2.2.2.2] at g
  exact g
theorem emp9 (L H:Int) (h:VdZ L H):decide (pw L = 9218868437227405312∧pw H = 18442240474082181120) = decide (L = 9218868437227405312):=by
  congr 1;apply propext
  have e1:=pw_inj L 9218868437227405312 h.lo (by unfold BdZ;omega)
  have e2:=pw_inj H (-9218868437227405312) h.hi (by unfold BdZ;omega)
  rw [pw_I] at e1
  rw [pw_MI] at e2
  rw [e1,e2]
  unfold VdZ at h
  omega
theorem void9_ (L H:Int) (h:VdZ L H) (w:World):Calls Try.prog 27 #[.agg #[.float .f64 (pw L),.float .f64 (pw H)]] w fun e w'=>e = .returned (.bool (decide (L = 9218868437227405312)))∧Kp w w':=by
  have g:=Fq.voidR_ (pw L) (pw H) (pw_lt L h.lo) (pw_lt H h.hi) w
  rw [emp9 L H h] at g
  exact g
theorem min9_ (x y:Int) (hx:BdZ x) (hy:BdZ y) (ts:Array TypeId) (t:TypeId) (w:World):(Builtin.min_ ts t #[.float .f64 (pw x),.float .f64 (pw y)]).run Try.prog w = .ok (.float .f64 (pw (min x y))) w:=by
  have h:=min7_ (decide (x < 0)) (decide (y < 0)) x.natAbs y.natAbs (abs_pw x hx) (abs_pw y hy) (pw_ne x hx) (pw_ne y hy) ts t w
  rw [plz_pw,plz_pw] at h
  have e:(if y < x then pw y else pw x) = pw (min x y):=by
    by_cases c:y < x
    · rw [if_pos c,show min x y = y from by omega]
    · rw [if_neg c,show min x y = x from by omega]
  exact e ▸ h
theorem max9_ (x y:Int) (hx:BdZ x) (hy:BdZ y) (ts:Array TypeId) (t:TypeId) (w:World):(Builtin.max_ ts t #[.float .f64 (pw x),.float .f64 (pw y)]).run Try.prog w = .ok (.float .f64 (pw (max x y))) w:=by
  have h:=max7_ (decide (x < 0)) (decide (y < 0)) x.natAbs y.natAbs (abs_pw x hx) (abs_pw y hy) (pw_ne x hx) (pw_ne y hy) ts t w
  rw [plz_pw,plz_pw] at h
  have e:(if y > x then pw y else pw x) = pw (max x y):=by
    by_cases c:y > x
    · rw [if_pos c,show max x y = y from by omega]
    · rw [if_neg c,show max x y = x from by omega]
  exact e ▸ h

def pI (x:Int):Int:=((pw x:Nat):Int)
theorem pI_inj (x y:Int) (hx:BdZ x) (hy:BdZ y):pI x = pI y ↔ x = y:=by
  unfold pI
  rw [← pw_inj x y hx hy]
  omega
theorem isinf6_ (n:Bool) (m:Nat) (hm:m < 9223372036854775808) (w:World):Calls Try.prog 63 #[.int .u64 ((Fq.wD n m:Nat):Int)] w fun e w'=>e = .returned (.bool (decide (m = 9218868437227405312)))∧w' = w:=by
  obtain ⟨X,hX⟩:∃ X,X = Fq.wD n m:=⟨_,rfl⟩
  have f1:=(Fq.noTop6 n m X hm hX).1
  rw [← hX]
  clear hX hm
  by_cases c:m = 9218868437227405312
  · have t1:((m:Int) == 9218868437227405312) = true:=by rw [c];rfl
    rw [decide_eq_true c]
    clear c
    go_enter Try.func63,Try.ntmps63
    go_wp2
    exact bodyPost_ret (v:=.bool true) (by simp [results,Try.results63,go_sem] <;> simpa using t1) rfl ⟨rfl,rfl⟩
  · have t1:((m:Int) == 9218868437227405312) = false:=by simp;omega
    rw [decide_eq_false c]
    clear c
    go_enter Try.func63,Try.ntmps63
    go_wp2
    exact bodyPost_ret (v:=.bool false) (by simp [results,Try.results63,go_sem] <;> simpa using t1) rfl ⟨rfl,rfl⟩
theorem isinf9_ (x:Int) (h:BdZ x) (w:World):Calls Try.prog 63 #[.int .u64 (pI x)] w fun e w'=>e = .returned (.bool (decide (x = 9218868437227405312∨x = -9218868437227405312)))∧w' = w:=by
  have g:=isinf6_ (decide (x < 0)) x.natAbs (by have:=abs_pw x h;omega) w
  rw [show decide (x.natAbs = 9218868437227405312) = decide (x = 9218868437227405312∨x = -9218868437227405312) from by congr 1;apply propext;omega] at g
  exact g
theorem rread9_ (a b:Nat) (L H:Int) (h:Rd a b L H) (w:World):Calls Try.prog 28 #[.agg #[.int .u64 ((a:Nat):Int),.int .u64 ((b:Nat):Int)]] w fun e w'=>e = .returned (.agg #[.int .u64 (pI L),.int .u64 (pI H)])∧Kp w w':=by
  have e1:=h.2.2.2.1
  have e2:=h.2.2.2.2
  unfold pI
  rw [← e1,← e2]
  obtain ⟨n,m,hm,rfl⟩:=Fq.exD a h.1
  obtain ⟨n',m',hm',rfl⟩:=Fq.exD b h.2.1
  exact Fq.rread_ n n' m m' hm hm' w
theorem rempty9_ (w:World):Calls Try.prog 18 #[] w fun e w'=>e = .returned (.agg #[.int .u64 9218868437227405312,.int .u64 18442240474082181120])∧Kp w w':=by
  refine (Fq.rempty_ w).mono ?_
  rintro e w' ⟨rfl,rfl⟩
  exact ⟨rfl,(Kp.refl w).alloc _⟩
end Go.Proofs.Ytcepchaakfiojaa
