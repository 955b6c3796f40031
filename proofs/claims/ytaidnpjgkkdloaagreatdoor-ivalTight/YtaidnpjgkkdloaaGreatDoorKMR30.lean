import Derived.Test.YtaidnpjgkkdloaaGreatDoorKEN
import Derived.Test.YtaidnpjgkkdloaaGreatDoorKXMS
set_option maxHeartbeats 1000000
set_option maxRecDepth 20000
namespace Go.Proofs.YtaidnpjgkkdloaaGreatDoor
open Go.RowKit
theorem rU_vV (d:Int) (m:Nat) (hm:m < 9218868437227405312):rU d 53 (Fq.vV Ieee.double m) 1 = Fq.vV Ieee.double m:=by
  obtain ⟨E,hE⟩:∃ E,E = Fq.eE Ieee.double m:=⟨_,rfl⟩
  obtain ⟨M,hM⟩:∃ M,M = Fq.mM Ieee.double m:=⟨_,rfl⟩
  have hV:Fq.vV Ieee.double m = M * 2 ^ E:=by rw [hM,hE];rfl
  have hMb:M < 9007199254740992∧(E = 0∨4503599627370496≤M):=by
    rw [hM,hE];unfold Fq.mM Fq.eE;rw [Fq.binD]
    by_cases c:m < 4503599627370496
    · rw [if_pos c,if_pos c];exact ⟨by omega,.inl rfl⟩
    · rw [if_neg c,if_neg c]
      have:=Nat.mod_lt m (show 0 < 4503599627370496 by decide)
      exact ⟨by omega,.inr (by omega)⟩
  rw [hV]
  clear hV hM hE
  have p0:0 < 2 ^ E:=Nat.two_pow_pos E
  have hr:rE 53 (M * 2 ^ E) 1 = E:=by
    refine rE_uniq 53 (M * 2 ^ E) 1 E (by decide) (by decide) ?_ ?_
    · rw [Nat.one_mul,Nat.pow_add,Nat.mul_comm]
      exact Nat.mul_lt_mul_of_pos_left (by rw [show (2:Nat) ^ 53 = 9007199254740992 from by decide];exact hMb.1) p0
    · rcases hMb.2 with h | h
      · exact .inl h
      · refine .inr ?_
        rw [Nat.one_mul,show E + 53 - 1 = 52 + E from by omega,Nat.pow_add,show (2:Nat) ^ 52 = 4503599627370496 from by decide]
        exact Nat.mul_le_mul_right _ h
  unfold rU rS rR
  rw [hr,Nat.one_mul,Nat.mul_div_cancel _ p0,Nat.mul_mod_left,upw_none _ _ _ p0]
  simp
theorem fin_vV (d:Int) (m:Nat) (hm:m < 9218868437227405312):finU 53 2098 9218868437227405311 9218868437227405312 d (Fq.vV Ieee.double m) = m:=by
  have h1:=rU_vV d m hm
  have h2:=vV_rung (Fq.vV Ieee.double m) d
  rw [h1] at h2
  have h3:rgU 53 (Fq.vV Ieee.double m) = m:=(Fq.vV_inj _ _ _).1 h2
  obtain ⟨K,hK⟩:∃ K:Nat,K = 2098:=⟨_,rfl⟩
  have hb:Fq.vV Ieee.double m < 2 ^ K:=by
    unfold Fq.vV Fq.mM Fq.eE;rw [Fq.binD]
    have hp:∀ a e:Nat,a < 9007199254740992→e≤2045→a * 2 ^ e < 2 ^ K:=fun a e ha he=>by
      have g:a * 2 ^ e < 2 ^ 53 * 2 ^ e:=Nat.mul_lt_mul_of_pos_right (by rw [show (2:Nat) ^ 53 = 9007199254740992 from by decide];exact ha) (Nat.two_pow_pos e)
      rw [← Nat.pow_add] at g
      exact Nat.lt_of_lt_of_le g (Nat.pow_le_pow_right (by decide) (by omega))
    by_cases c:m < 4503599627370496
    · rw [if_pos c,if_pos c];exact hp _ _ (by omega) (by omega)
    · rw [if_neg c,if_neg c]
      have:=Nat.mod_lt m (show 0 < 4503599627370496 by decide)
      exact hp _ _ (by omega) (by omega)
  have hbl:blen (Fq.vV Ieee.double m)≤2098:=by rw [← hK];exact (blen_le_iff _ _).2 hb
  unfold finU
  rw [if_pos hbl,h3]
theorem vV_zero_iff (m:Nat):Fq.vV Ieee.double m = 0 ↔ m = 0:=by
  have h:=Fq.vV_inj Ieee.double m 0
  rw [Fq.vV_zero] at h
  exact h
theorem sumW_exact (d:Int) (n:Bool) (m:Nat) (hm:m < 9218868437227405312):sumW d (Iv n m) = Fq.pla (Fq.wD n m):=by
  unfold sumW
  by_cases c:m = 0
  · have h0:Iv n m = 0:=by unfold Iv;rw [c,Fq.vV_zero];cases n <;> rfl
    rw [if_pos h0,c];unfold Fq.pla Fq.wD;cases n <;> rfl
  · have hv:Fq.vV Ieee.double m≠0:=fun h=>c ((vV_zero_iff m).1 h)
    have h0:Iv n m≠0:=by unfold Iv;cases n <;> simp <;> omega
    have h1:decide (Iv n m < 0) = n:=by unfold Iv;cases n <;> simp <;> omega
    have h2:(Iv n m).natAbs = Fq.vV Ieee.double m:=by unfold Iv;cases n <;> simp
    rw [if_neg h0,h1,h2,rU_vV _ m hm,fin_vV _ m hm]
    unfold mdW Fq.pla Fq.wD
    rw [if_neg c]
    cases n <;> simp <;> omega
def mnP (n:Bool) (m:Nat):Nat:=Fq.pla (Fq.wD (!n) m)
theorem sub_zero_w (n:Bool) (m:Nat) (hm:m≤9218868437227405312):FloatKind.f64.format.sub 0 (Fq.wD n m) = some (mnP n m):=by
  by_cases c:m = 9218868437227405312
  · rw [c];cases n <;> decide +kernel
  · have h:=sub_w false n 0 m (by decide) (by omega) (Iv (!n) m) (by unfold Iv;rw [Fq.vV_zero];cases n <;> simp)
    rw [show Fq.wD false 0 = 0 from rfl] at h
    rw [h]
    have e:=sumW_exact 0 (!n) m (by omega)
    unfold mnP
    by_cases z:m = 0
    · have h0:Iv (!n) m = 0:=by unfold Iv;rw [z,Fq.vV_zero];cases n <;> rfl
      rw [if_pos h0,h0,z]
      have g:=rU_vV 0 0 (by decide)
      have g2:=fin_vV 0 0 (by decide)
      rw [Fq.vV_zero] at g g2
      rw [show (0:Int).natAbs = 0 from rfl,g,g2]
      cases n <;> rfl
    · have hv:Fq.vV Ieee.double m≠0:=fun h=>z ((vV_zero_iff m).1 h)
      have h0:Iv (!n) m≠0:=by unfold Iv;cases n <;> simp <;> omega
      have h1:decide (Iv (!n) m < 0) = !n:=by unfold Iv;cases n <;> simp <;> omega
      have h2:(Iv (!n) m).natAbs = Fq.vV Ieee.double m:=by unfold Iv;cases n <;> simp
      rw [if_neg h0,h1,h2,rU_vV _ m (by omega),fin_vV _ m (by omega)]
      congr 1
      unfold Fq.pla Fq.wD
      cases n <;> simp <;> omega
def opP (x:Nat):Nat:=if x % 9223372036854775808 = 0 then 0 else if x < 9223372036854775808 then x + 9223372036854775808 else x - 9223372036854775808
theorem opP_w (n:Bool) (m:Nat) (hm:m < 9223372036854775808):opP (Fq.wD n m) = mnP n m:=by
  unfold opP mnP Fq.pla Fq.wD
  cases n <;> simp <;> repeat' split
  all_goals omega
theorem minus6_ (n:Bool) (m:Nat) (hm:m≤9218868437227405312) (w:World):Calls Tryz.prog 46 #[.float .f64 (Fq.wD n m)] w fun e w'=>e = .returned (.float .f64 (opP (Fq.wD n m)))∧w' = w:=by
  have e1:=sub_zero_w n m hm
  rw [← opP_w n m (by omega)] at e1
  generalize Fq.wD n m = X at e1 ⊢
  generalize opP X = Z at e1 ⊢
  have g1:∀ w:World,(binOp .sub 30 (.float .f64 0) (.float .f64 X)).run Tryz.prog w = .ok (.float .f64 Z) w:=fun w=>run_float_arith w .sub 30 .f64 0 X Z e1
  clear e1 hm
  go_enter Tryz.func46,Tryz.ntmps46
  go_wp2
  exact bodyPost_ret (v:=.float .f64 Z) (by simp [results,Tryz.results46,go_sem]) rfl ⟨rfl,rfl⟩
theorem Fq.H2.two0 (w:World) (a b c d:Value) (s t:TypeId):Fq.H2 ((w.alloc (.cells #[a,b] s)).alloc (.cells #[c,d] t)) (w.heap.size + 1) c d:=by
  unfold Fq.H2;simp [go_sem]
theorem neg6c_ (a b LO HI NL NH:Nat) (hr:∀ w:World,Calls Tryz.prog 26 #[.agg #[.float .f64 a,.float .f64 b]] w fun e w'=>e = .returned (.agg #[.float .f64 LO,.float .f64 HI])∧Kp w w') (h1:∀ w:World,Calls Tryz.prog 46 #[.float .f64 LO] w fun e w'=>e = .returned (.float .f64 NL)∧w' = w) (h2:∀ w:World,Calls Tryz.prog 46 #[.float .f64 HI] w fun e w'=>e = .returned (.float .f64 NH)∧w' = w) (w:World):Calls Tryz.prog 35 #[.agg #[.float .f64 a,.float .f64 b]] w fun e w'=>e = .returned (.agg #[.float .f64 NH,.float .f64 NL])∧Kp w w':=by
  go_enter Tryz.func35,Tryz.ntmps35
  go_wp2_with (first | (go_at_call 26;refine (hr _).mono ?_;rintro e w1 ⟨rfl,g1⟩;have q0:=Fq.H2.keep (Fq.H2.past (Fq.H2.new w (.float .f64 a) (.float .f64 b) 32) #[.float .f64 0,.float .f64 0] 32) g1;have q1:Fq.H2 w1 (w.heap.size + 1) (.float .f64 0) (.float .f64 0):=Fq.H2.keep (Fq.H2.two0 w (.float .f64 a) (.float .f64 b) (.float .f64 0) (.float .f64 0) 32 32) g1;obtain ⟨x0,x1,x2,x3⟩:=id q0;obtain ⟨y0,y1,y2,y3⟩:=id q1))
  have kw:Kp w w1:=Kp.trans (((Kp.refl w).alloc _).alloc _) g1
  have qx:=Fq.H2.put q0 (.float .f64 LO) (.float .f64 HI)
  have qy:=Fq.H2.far q1 (show w.heap.size≠w.heap.size + 1 by omega) (.float .f64 LO) (.float .f64 HI)
  have kW:Kp w ((w1.setCell ⟨w.heap.size,0,none⟩ (.float .f64 LO)).setCell ⟨w.heap.size,1,none⟩ (.float .f64 HI)):=(kw.setCell (Nat.le_refl _) _).setCell (Nat.le_refl _) _
  generalize hW:(w1.setCell ⟨w.heap.size,0,none⟩ (.float .f64 LO)).setCell ⟨w.heap.size,1,none⟩ (.float .f64 HI) = W at qx qy kW ⊢
  clear hW kw q0 q1 g1 x0 x1 x2 x3 y0 y1 y2 y3
  obtain ⟨x0,x1,x2,x3⟩:=id qx
  obtain ⟨y0,y1,y2,y3⟩:=id qy
  go_region_held3 (fun w'=>w'.cell? ⟨w.heap.size,0,none⟩ = some (.float .f64 LO)∧w'.cell? ⟨w.heap.size,1,none⟩ = some (.float .f64 HI)) (first | (exact ⟨x0,x1⟩) | (exact ⟨(World.cell?_setCell_far _ _ _ _ (by simp)).trans ((World.cell?_setCell_far _ _ _ _ (by simp)).trans x0),(World.cell?_setCell_far _ _ _ _ (by simp)).trans ((World.cell?_setCell_far _ _ _ _ (by simp)).trans x1)⟩)) (first | (go_at_call_of 46 (Value.float .f64 HI);refine (h2 _).mono ?_;rintro e w' ⟨rfl,rfl⟩) | (go_at_call_of 46 (Value.float .f64 LO);refine (h1 _).mono ?_;rintro e w' ⟨rfl,rfl⟩))
  go_wp2
  exact bodyPost_ret (v:=.agg #[.float .f64 NH,.float .f64 NL]) (by simp [results,Tryz.results35,go_sem,y0,y1]) rfl ⟨rfl,(by repeat (with_reducible (first | assumption | exact Kp.refl _ | apply Kp.drew | apply Kp.alloc | apply Kp.drewN | (refine Kp.setCell ?_ (by first | omega | (simp <;> omega)) _) | (refine Kp.trans ?_ (by assumption)))))⟩

def pw (z:Int):Nat:=Fq.wD (decide (z < 0)) z.natAbs
def BdZ (z:Int):Prop:=-9218868437227405312≤z∧z≤9218868437227405312
theorem plz_pw (z:Int):Fq.plz (decide (z < 0)) z.natAbs = z:=by
  unfold Fq.plz
  by_cases c:z < 0 <;> simp [c] <;> omega
theorem abs_pw (z:Int) (h:BdZ z):z.natAbs≤9218868437227405312:=by unfold BdZ at h;omega
theorem pw_lt (z:Int) (h:BdZ z):pw z < 18446744073709551616:=by
  have:=abs_pw z h
  unfold pw Fq.wD;split <;> omega
theorem pw_ne (z:Int) (h:BdZ z):pw z≠9223372036854775808:=by
  have h2:=abs_pw z h
  unfold pw Fq.wD
  by_cases c:z < 0 <;> simp [c] <;> omega
theorem pla_pw (z:Int) (h:BdZ z):Fq.pla (pw z) = pw z:=by unfold Fq.pla;rw [if_neg (pw_ne z h)]
theorem pw_I:pw 9218868437227405312 = 9218868437227405312:=by decide
theorem pw_MI:pw (-9218868437227405312) = 18442240474082181120:=by decide
theorem ord_pw (x y:Int) (hx:BdZ x) (hy:BdZ y):FloatKind.f64.format.order (pw x) (pw y) = some (compare x y):=by
  have h:=Fq.ordD (decide (x < 0)) (decide (y < 0)) x.natAbs y.natAbs (abs_pw x hx) (abs_pw y hy)
  rw [plz_pw,plz_pw] at h
  exact h
theorem plt9 (x y:Int) (hx:BdZ x) (hy:BdZ y):(FloatKind.f64.format.order (pw x) (pw y) == some Ordering.lt) = decide (x < y):=by
  rw [ord_pw x y hx hy]
  rcases Int.lt_trichotomy x y with g | g | g
  · rw [Fq.cmp_lt g,decide_eq_true g];rfl
  · rw [Fq.cmp_eq g,decide_eq_false (by omega)];rfl
  · rw [Fq.cmp_gt g,decide_eq_false (by omega)];rfl
theorem pgt9 (x y:Int) (hx:BdZ x) (hy:BdZ y):(FloatKind.f64.format.order (pw x) (pw y) == some Ordering.gt) = decide (y < x):=by
  rw [ord_pw x y hx hy]
  rcases Int.lt_trichotomy x y with g | g | g
  · rw [Fq.cmp_lt g,decide_eq_false (by omega)];rfl
  · rw [Fq.cmp_eq g,decide_eq_false (by omega)];rfl
  · rw [Fq.cmp_gt g,decide_eq_true g];rfl
theorem peq9 (x y:Int) (hx:BdZ x) (hy:BdZ y):(FloatKind.f64.format.order (pw x) (pw y) == some Ordering.eq) = decide (x = y):=by
  rw [ord_pw x y hx hy]
  rcases Int.lt_trichotomy x y with g | g | g
  · rw [Fq.cmp_lt g,decide_eq_false (by omega)];rfl
  · rw [Fq.cmp_eq g,decide_eq_true g];rfl
  · rw [Fq.cmp_gt g,decide_eq_false (by omega)];rfl
theorem ple9 (x y:Int) (hx:BdZ x) (hy:BdZ y):(FloatKind.f64.format.order (pw x) (pw y) == some Ordering.lt || FloatKind.f64.format.order (pw x) (pw y) == some Ordering.eq) = decide (x≤y):=by
  rw [plt9 x y hx hy,peq9 x y hx hy]
  by_cases c:x < y <;> by_cases c2:x = y <;> simp [c,c2] <;> omega
theorem pge9 (x y:Int) (hx:BdZ x) (hy:BdZ y):(FloatKind.f64.format.order (pw x) (pw y) == some Ordering.gt || FloatKind.f64.format.order (pw x) (pw y) == some Ordering.eq) = decide (y≤x):=by
  rw [pgt9 x y hx hy,peq9 x y hx hy]
  by_cases c:y < x <;> by_cases c2:x = y <;> simp [c,c2] <;> omega
theorem pw_inj (x y:Int) (hx:BdZ x) (hy:BdZ y):pw x = pw y ↔ x = y:=by
  constructor
  · intro h
    have e:=peq9 x y hx hy
    have e2:=peq9 y y hy hy
    rw [h,e2] at e
    by_cases c:x = y
    · exact c
    · simp [c] at e
  · intro h;rw [h]
def VdZ (L H:Int):Prop:=(L = 9218868437227405312∧H = -9218868437227405312)∨(-9218868437227405312≤L∧L < 9218868437227405312∧-9218868437227405312 < H∧H≤9218868437227405312∧L≤H)
theorem VdZ.lo {L H:Int} (h:VdZ L H):BdZ L:=by unfold VdZ at h;unfold BdZ;omega
theorem VdZ.hi {L H:Int} (h:VdZ L H):BdZ H:=by unfold VdZ at h;unfold BdZ;omega
theorem pw_plz (n:Bool) (m:Nat) (h:Fq.wD n m≠9223372036854775808) (hm:m≤9218868437227405312):pw (Fq.plz n m) = Fq.wD n m∧BdZ (Fq.plz n m):=by
  cases n
  · have e:Fq.plz false m = (m:Int):=by simp [Fq.plz]
    rw [e]
    refine ⟨?_,by unfold BdZ;omega⟩
    unfold pw
    rw [show decide ((m:Int) < 0) = false from decide_eq_false (by omega),show ((m:Int)).natAbs = m from by omega]
  · have e:Fq.plz true m = -(m:Int):=by simp [Fq.plz]
    have z:m≠0:=by intro z;apply h;rw [z];rfl
    rw [e]
    refine ⟨?_,by unfold BdZ;omega⟩
    unfold pw
    rw [show decide (-(m:Int) < 0) = true from decide_eq_true (by omega),show (-(m:Int)).natAbs = m from by omega]
theorem snd_pw (L H:Int) (hL:BdZ L) (hH:BdZ H):Fq.snd (pw L) (pw H) = decide (L≤H∧L≠9218868437227405312∧H≠-9218868437227405312):=by
  unfold Fq.snd
  rw [ple9 L H hL hH]
  have e1:(pw L = 9218868437227405312) ↔ L = 9218868437227405312:=by
    have h:=pw_inj L 9218868437227405312 hL (by unfold BdZ;omega)
    rw [pw_I] at h;exact h
  have e2:(pw H = 18442240474082181120) ↔ H = -9218868437227405312:=by
    have h:=pw_inj H (-9218868437227405312) hH (by unfold BdZ;omega)
    rw [pw_MI] at h;exact h
  simp only [e1,e2]
  by_cases c1:L≤H <;> by_cases c2:L = 9218868437227405312 <;> by_cases c3:H = -9218868437227405312 <;> simp [c1,c2,c3]
theorem rlo_pw (L H:Int) (hL:BdZ L) (hH:BdZ H):Fq.rlo (pw L) (pw H) = pw (if L≤H∧L≠9218868437227405312∧H≠-9218868437227405312 then L else 9218868437227405312):=by
  unfold Fq.rlo
  rw [snd_pw L H hL hH,pla_pw L hL]
  by_cases c:L≤H∧L≠9218868437227405312∧H≠-9218868437227405312
  · rw [if_pos c,if_pos (decide_eq_true c)]
  · rw [if_neg c,if_neg (by simpa using c),pw_I]
theorem rhi_pw (L H:Int) (hL:BdZ L) (hH:BdZ H):Fq.rhi (pw L) (pw H) = pw (if L≤H∧L≠9218868437227405312∧H≠-9218868437227405312 then H else -9218868437227405312):=by
  unfold Fq.rhi
  rw [snd_pw L H hL hH,pla_pw H hH]
  by_cases c:L≤H∧L≠9218868437227405312∧H≠-9218868437227405312
  · rw [if_pos c,if_pos (decide_eq_true c)]
  · rw [if_neg c,if_neg (by simpa using c),pw_MI]
theorem read_pw (a b:Nat) (ha:a < 18446744073709551616) (hb:b < 18446744073709551616):∃ L H,VdZ L H∧Fq.rlo a b = pw L∧Fq.rhi a b = pw H:=by
  by_cases c:Fq.snd a b = true
  · obtain ⟨n,m,hm,rfl⟩:=Fq.exD a ha
    obtain ⟨n',m',hm',rfl⟩:=Fq.exD b hb
    have es:=Fq.snd_w n n' m m' hm hm'
    rw [c] at es
    have es:=of_decide_eq_true es.symm
    have key:∀ (g:Bool) (r:Nat),r≤9218868437227405312→pw (Fq.plz g r) = Fq.pla (Fq.wD g r)∧BdZ (Fq.plz g r):=by
      intro g r hr
      by_cases c2:Fq.wD g r = 9223372036854775808
      · have hg:g = true∧r = 0:=by
          unfold Fq.wD at c2
          cases g
          · simp at c2;omega
          · simp at c2;exact ⟨rfl,c2⟩
        rw [c2,hg.1,hg.2]
        exact ⟨by decide,by unfold BdZ Fq.plz;simp⟩
      · have h:=pw_plz g r c2 hr
        rw [show Fq.pla (Fq.wD g r) = Fq.wD g r from by simp [Fq.pla,c2]]
        exact h
    have k1:=key n m es.1
    have k2:=key n' m' es.2.1
    refine ⟨Fq.plz n m,Fq.plz n' m',Or.inr ?_, ?_, ?_⟩
    · have b1:=k1.2
      have b2:=k2.2
      unfold BdZ at b1 b2
      have e1:Fq.plz n m≠9218868437227405312:=by
        intro h
        apply es.2.2.2.1
        unfold Fq.plz at h
        cases n
        · simp at h;exact ⟨rfl,by omega⟩
        · simp at h;omega
      have e2:Fq.plz n' m'≠-9218868437227405312:=by
        intro h
        apply es.2.2.2.2
        unfold Fq.plz at h
        cases n'
        · simp at h <;> omega
        · simp at h;exact ⟨rfl,by omega⟩
      have:=es.2.2.1
      omega
    · rw [k1.1];simp [Fq.rlo,c]
    · rw [k2.1];simp [Fq.rhi,c]
  · refine ⟨9218868437227405312,-9218868437227405312,Or.inl ⟨rfl,rfl⟩, ?_, ?_⟩
    · rw [pw_I];unfold Fq.rlo;rw [if_neg c]
    · rw [pw_MI];unfold Fq.rhi;rw [if_neg c]
theorem reread9 (L H:Int) (h:VdZ L H):Fq.rlo (pw L) (pw H) = pw L∧Fq.rhi (pw L) (pw H) = pw H:=by
  rw [rlo_pw L H h.lo h.hi,rhi_pw L H h.lo h.hi]
  rcases h with ⟨rfl,rfl⟩ | h
  · exact ⟨by rw [if_neg (by omega)],by rw [if_neg (by omega)]⟩
  · exact ⟨by rw [if_pos (by omega)],by rw [if_pos (by omega)]⟩
theorem bd_max (x y:Int) (hx:BdZ x) (hy:BdZ y):BdZ (max x y):=by unfold BdZ at *;omega
theorem bd_min (x y:Int) (hx:BdZ x) (hy:BdZ y):BdZ (min x y):=by unfold BdZ at *;omega
theorem min7_ (n n':Bool) (m m':Nat) (hm:m≤9218868437227405312) (hm':m'≤9218868437227405312) (h1:Fq.wD n m≠9223372036854775808) (h2:Fq.wD n' m'≠9223372036854775808) (ts:Array TypeId) (t:TypeId) (w:World):(Builtin.min_ ts t #[.float .f64 (Fq.wD n m),.float .f64 (Fq.wD n' m')]).run Tryz.prog w = .ok (.float .f64 (if Fq.plz n' m' < Fq.plz n m then Fq.wD n' m' else Fq.wD n m)) w:=by
  have ho:=Fq.ordD n n' m m' hm hm'
  rcases Int.lt_trichotomy (Fq.plz n m) (Fq.plz n' m') with g | g | g
  · rw [Fq.cmp_lt g] at ho
    rw [if_neg (by omega)]
    generalize Fq.wD n m = X at ho ⊢
    generalize Fq.wD n' m' = Y at ho ⊢
    simp [Builtin.min_,Builtin.min2,ho]
  · rw [Fq.cmp_eq g] at ho
    have e:Fq.wD n m = Fq.wD n' m':=by
      have z1:n = true→m≠0:=fun h z=>h1 (by rw [h,z];rfl)
      have z2:n' = true→m'≠0:=fun h z=>h2 (by rw [h,z];rfl)
      unfold Fq.wD
      unfold Fq.plz at g
      cases n <;> cases n' <;> simp at z1 z2 g ⊢ <;> omega
    rw [if_neg (by omega)]
    rw [← e] at ho ⊢
    generalize Fq.wD n m = X at ho ⊢
    simp [Builtin.min_,Builtin.min2,ho]
  · rw [Fq.cmp_gt g] at ho
    rw [if_pos (by omega)]
    generalize Fq.wD n m = X at ho ⊢
    generalize Fq.wD n' m' = Y at ho ⊢
    simp [Builtin.min_,Builtin.min2,ho]
theorem max7_ (n n':Bool) (m m':Nat) (hm:m≤9218868437227405312) (hm':m'≤9218868437227405312) (h1:Fq.wD n m≠9223372036854775808) (h2:Fq.wD n' m'≠9223372036854775808) (ts:Array TypeId) (t:TypeId) (w:World):(Builtin.max_ ts t #[.float .f64 (Fq.wD n m),.float .f64 (Fq.wD n' m')]).run Tryz.prog w = .ok (.float .f64 (if Fq.plz n' m' > Fq.plz n m then Fq.wD n' m' else Fq.wD n m)) w:=by
  have ho:=Fq.ordD n n' m m' hm hm'
  rcases Int.lt_trichotomy (Fq.plz n m) (Fq.plz n' m') with g | g | g
  · rw [Fq.cmp_lt g] at ho
    rw [if_pos (by omega)]
    generalize Fq.wD n m = X at ho ⊢
    generalize Fq.wD n' m' = Y at ho ⊢
    simp [Builtin.max_,Builtin.max2,ho]
  · rw [Fq.cmp_eq g] at ho
    have e:Fq.wD n m = Fq.wD n' m':=by
      have z1:n = true→m≠0:=fun h z=>h1 (by rw [h,z];rfl)
      have z2:n' = true→m'≠0:=fun h z=>h2 (by rw [h,z];rfl)
      unfold Fq.wD
      unfold Fq.plz at g
      cases n <;> cases n' <;> simp at z1 z2 g ⊢ <;> omega
    rw [if_neg (by omega)]
    rw [← e] at ho ⊢
    generalize Fq.wD n m = X at ho ⊢
    simp [Builtin.max_,Builtin.max2,ho]
  · rw [Fq.cmp_gt g] at ho
    rw [if_neg (by omega)]
    generalize Fq.wD n m = X at ho ⊢
    generalize Fq.wD n' m' = Y at ho ⊢
    simp [Builtin.max_,Builtin.max2,ho]

def Rd (a b:Nat) (L H:Int):Prop:=a < 18446744073709551616∧b < 18446744073709551616∧VdZ L H∧Fq.rlo a b = pw L∧Fq.rhi a b = pw H
theorem Rd.ex (a b:Nat) (ha:a < 18446744073709551616) (hb:b < 18446744073709551616):∃ L H,Rd a b L H:=by
  obtain ⟨L,H,h1,h2,h3⟩:=read_pw a b ha hb
  exact ⟨L,H,ha,hb,h1,h2,h3⟩
theorem Rd.of {L H:Int} (h:VdZ L H):Rd (pw L) (pw H) L H:=⟨pw_lt L h.lo,pw_lt H h.hi,h,(reread9 L H h).1,(reread9 L H h).2⟩
theorem Rd.vd {a b:Nat} {L H:Int} (h:Rd a b L H):VdZ L H:=h.2.2.1
theorem Rd.call {a b:Nat} {L H:Int} (h:Rd a b L H) (w:World):Calls Tryz.prog 26 #[.agg #[.float .f64 a,.float .f64 b]] w fun e w'=>e = .returned (.agg #[.float .f64 (pw L),.float .f64 (pw H)])∧Kp w w':=by
  have g:=Fq.read_ a b h.1 h.2.1 w
  rw [h.2.2.2.1,h.2.2.2.2] at g
  exact g
theorem emp9 (L H:Int) (h:VdZ L H):decide (pw L = 9218868437227405312∧pw H = 18442240474082181120) = decide (L = 9218868437227405312):=by
  congr 1;apply propext
  have e1:=pw_inj L 9218868437227405312 h.lo (by unfold BdZ;omega)
  have e2:=pw_inj H (-9218868437227405312) h.hi (by unfold BdZ;omega)
  rw [pw_I] at e1
  rw [pw_MI] at e2
  rw [e1,e2]
  unfold VdZ at h
  omega
theorem void9_ (L H:Int) (h:VdZ L H) (w:World):Calls Tryz.prog 27 #[.agg #[.float .f64 (pw L),.float .f64 (pw H)]] w fun e w'=>e = .returned (.bool (decide (L = 9218868437227405312)))∧Kp w w':=by
  have g:=Fq.void_ (pw L) (pw H) (pw_lt L h.lo) (pw_lt H h.hi) w
  rw [emp9 L H h] at g
  exact g
theorem min9_ (x y:Int) (hx:BdZ x) (hy:BdZ y) (ts:Array TypeId) (t:TypeId) (w:World):(Builtin.min_ ts t #[.float .f64 (pw x),.float .f64 (pw y)]).run Tryz.prog w = .ok (.float .f64 (pw (min x y))) w:=by
  have h:=min7_ (decide (x < 0)) (decide (y < 0)) x.natAbs y.natAbs (abs_pw x hx) (abs_pw y hy) (pw_ne x hx) (pw_ne y hy) ts t w
  rw [plz_pw,plz_pw] at h
  have e:(if y < x then pw y else pw x) = pw (min x y):=by
    by_cases c:y < x
    · rw [if_pos c,show min x y = y from by omega]
    · rw [if_neg c,show min x y = x from by omega]
  exact e ▸ h
theorem max9_ (x y:Int) (hx:BdZ x) (hy:BdZ y) (ts:Array TypeId) (t:TypeId) (w:World):(Builtin.max_ ts t #[.float .f64 (pw x),.float .f64 (pw y)]).run Tryz.prog w = .ok (.float .f64 (pw (max x y))) w:=by
  have h:=max7_ (decide (x < 0)) (decide (y < 0)) x.natAbs y.natAbs (abs_pw x hx) (abs_pw y hy) (pw_ne x hx) (pw_ne y hy) ts t w
  rw [plz_pw,plz_pw] at h
  have e:(if y > x then pw y else pw x) = pw (max x y):=by
    by_cases c:y > x
    · rw [if_pos c,show max x y = y from by omega]
    · rw [if_neg c,show max x y = x from by omega]
  exact e ▸ h
end Go.Proofs.YtaidnpjgkkdloaaGreatDoor
