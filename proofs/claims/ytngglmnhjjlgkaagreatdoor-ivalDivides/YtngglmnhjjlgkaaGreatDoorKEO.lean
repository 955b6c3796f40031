import Derived.Test.YtngglmnhjjlgkaaGreatDoorKEH
import Derived.Test.YtngglmnhjjlgkaaGreatDoorKS6
set_option maxHeartbeats 1000000
set_option maxRecDepth 20000
namespace Go.Proofs.YtngglmnhjjlgkaaGreatDoor
open Go.RowKit
namespace Fq
theorem out_ (a b:Nat) (w:World):Calls Tryz.prog 6 #[.agg #[.float .f64 a,.float .f64 b]] w fun e w'=>e = .returned (.agg #[.int .u64 (((a):Nat):Int),.int .u64 (((b):Nat):Int)])∧Grown w w':=by
 have h1:=fb64 a
 have h2:=fb64 b
 generalize (a:Int) = X at h1 ⊢
 generalize (b:Int) = Y at h2 ⊢
 go_enter Tryz.func6,Tryz.ntmps6
 go_wp2
 go_region_held3 (fun w'=>w'.cell? ⟨w.heap.size,0,none⟩ = some (.float .f64 a)∧w'.cell? ⟨w.heap.size,1,none⟩ = some (.float .f64 b)) (simp [go_sem,World.cell?_alloc_past]) (fail)
 go_wp2
 exact bodyPost_ret (v:=.agg #[.int .u64 X,.int .u64 Y]) (by simp [results,Tryz.results6,go_sem] <;> simp only [*]) rfl ⟨rfl,(by repeat (with_reducible (first | assumption | exact Grown.refl _ | apply Grown.drew | apply Grown.alloc | apply gdrewN | (refine Grown.setCell ?_ (by simp <;> omega) _) | (refine gtrans ?_ (by assumption)))))⟩
theorem in_ (a b:Nat) (w:World):Calls Tryz.prog 8 #[.agg #[.int .u64 (((a):Nat):Int),.int .u64 (((b):Nat):Int)]] w fun e w'=>e = .returned (.agg #[.float .f64 a,.float .f64 b])∧Grown w w':=by
 have h1:=ff64 a
 have h2:=ff64 b
 generalize (a:Int) = X at h1 ⊢
 generalize (b:Int) = Y at h2 ⊢
 go_enter Tryz.func8,Tryz.ntmps8
 go_wp2
 go_region_held3 (fun w'=>w'.cell? ⟨w.heap.size,0,none⟩ = some (.int .u64 X)∧w'.cell? ⟨w.heap.size,1,none⟩ = some (.int .u64 Y)) (simp [go_sem]) (fail)
 go_wp2
 exact bodyPost_ret (v:=.agg #[.float .f64 a,.float .f64 b]) (by simp [results,Tryz.results8,go_sem] <;> simp only [*]) rfl ⟨rfl,(by repeat (with_reducible (first | assumption | exact Grown.refl _ | apply Grown.drew | apply Grown.alloc | apply gdrewN | (refine Grown.setCell ?_ (by simp <;> omega) _) | (refine gtrans ?_ (by assumption)))))⟩
end Fq
theorem rU_vV (d:Int) (m:Nat) (hm:m < 9218868437227405312):rU d 53 (Fq.vV Ieee.double m) 1 = Fq.vV Ieee.double m:=by
 obtain ⟨E,hE⟩:∃ E,E = Fq.eE Ieee.double m:=⟨_,rfl⟩
 obtain ⟨M,hM⟩:∃ M,M = Fq.mM Ieee.double m:=⟨_,rfl⟩
 have hV:Fq.vV Ieee.double m = M * 2 ^ E:=by rw [hM,hE];rfl
 have hMb:M < 9007199254740992∧(E = 0∨4503599627370496≤M):=by
  rw [hM,hE];unfold Fq.mM Fq.eE;rw [Fq.binD]
  by_cases c:m < 4503599627370496
  ·rw [if_pos c,if_pos c];exact ⟨by omega,.inl rfl⟩
  ·rw [if_neg c,if_neg c]
   have:=Nat.mod_lt m (show 0 < 4503599627370496 by decide)
   exact ⟨by omega,.inr (by omega)⟩
 rw [hV]
 clear hV hM hE
 have p0:0 < 2 ^ E:=Nat.two_pow_pos E
 have hr:rE 53 (M * 2 ^ E) 1 = E:=by
  refine rE_uniq 53 (M * 2 ^ E) 1 E (by decide) (by decide) ?_ ?_
  ·rw [Nat.one_mul,Nat.pow_add,Nat.mul_comm]
   exact Nat.mul_lt_mul_of_pos_left (by rw [show (2:Nat) ^ 53 = 9007199254740992 from by decide];exact hMb.1) p0
  ·rcases hMb.2 with h | h
   ·exact .inl h
   ·refine .inr ?_
    rw [Nat.one_mul,show E + 53 - 1 = 52 + E from by omega,Nat.pow_add,show (2:Nat) ^ 52 = 4503599627370496 from by decide]
    exact Nat.mul_le_mul_right _ h
 unfold rU rS rR
 rw [hr,Nat.one_mul,Nat.mul_div_cancel _ p0,Nat.mul_mod_left,upw_none _ _ _ p0]
 simp
theorem fin_vV (d:Int) (m:Nat) (hm:m < 9218868437227405312):finU 53 2098 9218868437227405311 9218868437227405312 d (Fq.vV Ieee.double m) = m:=by
 have h1:=rU_vV d m hm
 have h2:=vV_rung (Fq.vV Ieee.double m) d
 rw [h1] at h2
 have h3:rgU 53 (Fq.vV Ieee.double m) = m:=(Fq.vV_inj _ _ _).1 h2
 obtain ⟨K,hK⟩:∃ K:Nat,K = 2098:=⟨_,rfl⟩
 have hb:Fq.vV Ieee.double m < 2 ^ K:=by
  unfold Fq.vV Fq.mM Fq.eE;rw [Fq.binD]
  have hp:∀ a e:Nat,a < 9007199254740992→e≤2045→a * 2 ^ e < 2 ^ K:=fun a e ha he=>by
   have g:a * 2 ^ e < 2 ^ 53 * 2 ^ e:=Nat.mul_lt_mul_of_pos_right (by rw [show (2:Nat) ^ 53 = 9007199254740992 from by decide];exact ha) (Nat.two_pow_pos e)
   rw [← Nat.pow_add] at g
   exact Nat.lt_of_lt_of_le g (Nat.pow_le_pow_right (by decide) (by omega))
  by_cases c:m < 4503599627370496
  ·rw [if_pos c,if_pos c];exact hp _ _ (by omega) (by omega)
  ·rw [if_neg c,if_neg c]
   have:=Nat.mod_lt m (show 0 < 4503599627370496 by decide)
   exact hp _ _ (by omega) (by omega)
 have hbl:blen (Fq.vV Ieee.double m)≤2098:=by rw [← hK];exact (blen_le_iff _ _).2 hb
 unfold finU
 rw [if_pos hbl,h3]
theorem vV_zero_iff (m:Nat):Fq.vV Ieee.double m = 0 ↔ m = 0:=by
 have h:=Fq.vV_inj Ieee.double m 0
 rw [Fq.vV_zero] at h
 exact h
theorem sumW_exact (d:Int) (n:Bool) (m:Nat) (hm:m < 9218868437227405312):sumW d (Iv n m) = Fq.pla (Fq.wD n m):=by
 unfold sumW
 by_cases c:m = 0
 ·have h0:Iv n m = 0:=by unfold Iv;rw [c,Fq.vV_zero];cases n <;> rfl
  rw [if_pos h0,c];unfold Fq.pla Fq.wD;cases n <;> rfl
 ·have hv:Fq.vV Ieee.double m≠0:=fun h=>c ((vV_zero_iff m).1 h)
  have h0:Iv n m≠0:=by unfold Iv;cases n <;> simp <;> omega
  have h1:decide (Iv n m < 0) = n:=by unfold Iv;cases n <;> simp <;> omega
  have h2:(Iv n m).natAbs = Fq.vV Ieee.double m:=by unfold Iv;cases n <;> simp
  rw [if_neg h0,h1,h2,rU_vV _ m hm,fin_vV _ m hm]
  unfold mdW Fq.pla Fq.wD
  rw [if_neg c]
  cases n <;> simp <;> omega
def mnP (n:Bool) (m:Nat):Nat:=Fq.pla (Fq.wD (!n) m)
theorem sub_zero_w (n:Bool) (m:Nat) (hm:m≤9218868437227405312):FloatKind.f64.format.sub 0 (Fq.wD n m) = some (mnP n m):=by
 by_cases c:m = 9218868437227405312
 ·rw [c];cases n <;> decide +kernel
 ·have h:=sub_w false n 0 m (by decide) (by omega) (Iv (!n) m) (by unfold Iv;rw [Fq.vV_zero];cases n <;> simp)
  rw [show Fq.wD false 0 = 0 from rfl] at h
  rw [h]
  have e:=sumW_exact 0 (!n) m (by omega)
  unfold mnP
  by_cases z:m = 0
  ·have h0:Iv (!n) m = 0:=by unfold Iv;rw [z,Fq.vV_zero];cases n <;> rfl
   rw [if_pos h0,h0,z]
   have g:=rU_vV 0 0 (by decide)
   have g2:=fin_vV 0 0 (by decide)
   rw [Fq.vV_zero] at g g2
   rw [show (0:Int).natAbs = 0 from rfl,g,g2]
   cases n <;> rfl
  ·have hv:Fq.vV Ieee.double m≠0:=fun h=>z ((vV_zero_iff m).1 h)
   have h0:Iv (!n) m≠0:=by unfold Iv;cases n <;> simp <;> omega
   have h1:decide (Iv (!n) m < 0) = !n:=by unfold Iv;cases n <;> simp <;> omega
   have h2:(Iv (!n) m).natAbs = Fq.vV Ieee.double m:=by unfold Iv;cases n <;> simp
   rw [if_neg h0,h1,h2,rU_vV _ m (by omega),fin_vV _ m (by omega)]
   congr 1
   unfold Fq.pla Fq.wD
   cases n <;> simp <;> omega

theorem rlo_w (a b:Nat) (ha:a < 18446744073709551616) (hb:b < 18446744073709551616):∃ n m,m≤9218868437227405312∧Fq.rlo a b = Fq.wD n m:=by
 obtain ⟨n,m,hm,rfl⟩:=Fq.exD a ha
 obtain ⟨n',m',hm',rfl⟩:=Fq.exD b hb
 by_cases c:Fq.snd (Fq.wD n m) (Fq.wD n' m') = true
 ·have es:=Fq.snd_w n n' m m' hm hm'
  rw [c] at es
  have es:=of_decide_eq_true es.symm
  rw [show Fq.rlo (Fq.wD n m) (Fq.wD n' m') = Fq.pla (Fq.wD n m) from by simp [Fq.rlo,c]]
  by_cases c2:Fq.wD n m = 9223372036854775808
  ·exact ⟨false,0,by decide,by unfold Fq.pla;rw [if_pos c2];rfl⟩
  ·exact ⟨n,m,es.1,by simp [Fq.pla,c2]⟩
 ·exact ⟨false,9218868437227405312,by decide,by unfold Fq.rlo;rw [if_neg c];rfl⟩
theorem rhi_w (a b:Nat) (ha:a < 18446744073709551616) (hb:b < 18446744073709551616):∃ n m,m≤9218868437227405312∧Fq.rhi a b = Fq.wD n m:=by
 obtain ⟨n,m,hm,rfl⟩:=Fq.exD a ha
 obtain ⟨n',m',hm',rfl⟩:=Fq.exD b hb
 by_cases c:Fq.snd (Fq.wD n m) (Fq.wD n' m') = true
 ·have es:=Fq.snd_w n n' m m' hm hm'
  rw [c] at es
  have es:=of_decide_eq_true es.symm
  rw [show Fq.rhi (Fq.wD n m) (Fq.wD n' m') = Fq.pla (Fq.wD n' m') from by simp [Fq.rhi,c]]
  by_cases c2:Fq.wD n' m' = 9223372036854775808
  ·exact ⟨false,0,by decide,by unfold Fq.pla;rw [if_pos c2];rfl⟩
  ·exact ⟨n',m',es.2.1,by simp [Fq.pla,c2]⟩
 ·exact ⟨true,9218868437227405312,by decide,by unfold Fq.rhi;rw [if_neg c];rfl⟩
def opP (x:Nat):Nat:=if x % 9223372036854775808 = 0 then 0 else if x < 9223372036854775808 then x + 9223372036854775808 else x - 9223372036854775808
theorem opP_w (n:Bool) (m:Nat) (hm:m < 9223372036854775808):opP (Fq.wD n m) = mnP n m:=by
 unfold opP mnP Fq.pla Fq.wD
 cases n <;> simp <;> repeat' split
 all_goals omega
theorem minus6_ (n:Bool) (m:Nat) (hm:m≤9218868437227405312) (w:World):Calls Tryz.prog 28 #[.float .f64 (Fq.wD n m)] w fun e w'=>e = .returned (.float .f64 (opP (Fq.wD n m)))∧w' = w:=by
 have e1:=sub_zero_w n m hm
 rw [← opP_w n m (by omega)] at e1
 generalize Fq.wD n m = X at e1 ⊢
 generalize opP X = Z at e1 ⊢
 have g1:∀ w:World,(binOp .sub 26 (.float .f64 0) (.float .f64 X)).run Tryz.prog w = .ok (.float .f64 Z) w:=fun w=>run_float_arith w .sub 26 .f64 0 X Z e1
 clear e1 hm
 go_enter Tryz.func28,Tryz.ntmps28
 go_wp2
 exact bodyPost_ret (v:=.float .f64 Z) (by simp [results,Tryz.results28,go_sem]) rfl ⟨rfl,rfl⟩
theorem Fq.H2.two0 (w:World) (a b c d:Value) (s t:TypeId):Fq.H2 ((w.alloc (.cells #[a,b] s)).alloc (.cells #[c,d] t)) (w.heap.size + 1) c d:=by
 unfold Fq.H2;simp [go_sem]
theorem neg6c_ (a b LO HI NL NH:Nat) (hr:∀ w:World,Calls Tryz.prog 15 #[.agg #[.float .f64 a,.float .f64 b]] w fun e w'=>e = .returned (.agg #[.float .f64 LO,.float .f64 HI])∧Kp w w') (h1:∀ w:World,Calls Tryz.prog 28 #[.float .f64 LO] w fun e w'=>e = .returned (.float .f64 NL)∧w' = w) (h2:∀ w:World,Calls Tryz.prog 28 #[.float .f64 HI] w fun e w'=>e = .returned (.float .f64 NH)∧w' = w) (w:World):Calls Tryz.prog 29 #[.agg #[.float .f64 a,.float .f64 b]] w fun e w'=>e = .returned (.agg #[.float .f64 NH,.float .f64 NL])∧Kp w w':=by
 go_enter Tryz.func29,Tryz.ntmps29
 go_wp2_with (first | (go_at_call 15;refine (hr _).mono ?_;rintro e w1 ⟨rfl,g1⟩;have q0:=Fq.H2.keep (Fq.H2.past (Fq.H2.new w (.float .f64 a) (.float .f64 b) 28) #[.float .f64 0,.float .f64 0] 28) g1;have q1:Fq.H2 w1 (w.heap.size + 1) (.float .f64 0) (.float .f64 0):=Fq.H2.keep (Fq.H2.two0 w (.float .f64 a) (.float .f64 b) (.float .f64 0) (.float .f64 0) 28 28) g1;obtain ⟨x0,x1,x2,x3⟩:=id q0;obtain ⟨y0,y1,y2,y3⟩:=id q1))
 have kw:Kp w w1:=Kp.trans (((Kp.refl w).alloc _).alloc _) g1
 have qx:=Fq.H2.put q0 (.float .f64 LO) (.float .f64 HI)
 have qy:=Fq.H2.far q1 (show w.heap.size≠w.heap.size + 1 by omega) (.float .f64 LO) (.float .f64 HI)
 have kW:Kp w ((w1.setCell ⟨w.heap.size,0,none⟩ (.float .f64 LO)).setCell ⟨w.heap.size,1,none⟩ (.float .f64 HI)):=(kw.setCell (Nat.le_refl _) _).setCell (Nat.le_refl _) _
 generalize hW:(w1.setCell ⟨w.heap.size,0,none⟩ (.float .f64 LO)).setCell ⟨w.heap.size,1,none⟩ (.float .f64 HI) = W at qx qy kW ⊢
 clear hW kw q0 q1 g1 x0 x1 x2 x3 y0 y1 y2 y3
 obtain ⟨x0,x1,x2,x3⟩:=id qx
 obtain ⟨y0,y1,y2,y3⟩:=id qy
 go_region_held3 (fun w'=>w'.cell? ⟨w.heap.size,0,none⟩ = some (.float .f64 LO)∧w'.cell? ⟨w.heap.size,1,none⟩ = some (.float .f64 HI)) (first | (exact ⟨x0,x1⟩) | (exact ⟨(CF _ _ _ _ (by simp)).trans ((CF _ _ _ _ (by simp)).trans x0),(CF _ _ _ _ (by simp)).trans ((CF _ _ _ _ (by simp)).trans x1)⟩)) (first | (go_at_call_of 28 (Value.float .f64 HI);refine (h2 _).mono ?_;rintro e w' ⟨rfl,rfl⟩) | (go_at_call_of 28 (Value.float .f64 LO);refine (h1 _).mono ?_;rintro e w' ⟨rfl,rfl⟩))
 go_wp2
 exact bodyPost_ret (v:=.agg #[.float .f64 NH,.float .f64 NL]) (by simp [results,Tryz.results29,go_sem,y0,y1]) rfl ⟨rfl,(by repeat (with_reducible (first | assumption | exact Kp.refl _ | apply Kp.drew | apply Kp.alloc | apply Kp.drewN | (refine Kp.setCell ?_ (by first | omega | (simp <;> omega)) _) | (refine Kp.trans ?_ (by assumption)))))⟩

def RF (s:Bool) (a b:Nat) (n:Bool) (m:Nat):Prop:=∀ K:Nat,K = 1074→b≠0∧a * 2 ^ K = Fq.vV Ieee.double m * b∧Iv n m = (if s then -((Fq.vV Ieee.double m:Nat):Int) else ((Fq.vV Ieee.double m:Nat):Int))∧blen a≤1500∧blen b≤1500
def RP (base:Nat) (w:World) (s:Bool) (p:Option Addr) (l c:Nat) (q:Option Addr) (k d:Nat) (n:Bool) (m:Nat):Prop:=∃ a b,Own w base (.slice p l c) (dig a)∧Own w base (.slice q k d) (dig b)∧RF s a b n m
theorem RP.kp {base:Nat} {w w':World} {s:Bool} {p:Option Addr} {l c:Nat} {q:Option Addr} {k d:Nat} {n:Bool} {m:Nat} (h:RP base w s p l c q k d n m) (g:Kp w w'):RP base w' s p l c q k d n m:=by
 obtain ⟨a,b,h1,h2,h3⟩:=h
 exact ⟨a,b,h1.kp g,h2.kp g,h3⟩
theorem RP.mono {base base':Nat} {w:World} {s:Bool} {p:Option Addr} {l c:Nat} {q:Option Addr} {k d:Nat} {n:Bool} {m:Nat} (h:RP base w s p l c q k d n m) (g:base'≤base):RP base' w s p l c q k d n m:=by
 obtain ⟨a,b,h1,h2,h3⟩:=h
 exact ⟨a,b,h1.mono g,h2.mono g,h3⟩
theorem RP.set {base:Nat} {w:World} {s:Bool} {p:Option Addr} {l c:Nat} {q:Option Addr} {k d:Nat} {n:Bool} {m:Nat} (h:RP base w s p l c q k d n m) {x:Addr} (hx:x.block < base) (u:Value):RP base (w.setCell x u) s p l c q k d n m:=by
 obtain ⟨a,b,h1,h2,h3⟩:=h
 exact ⟨a,b,h1.setOther hx u,h2.setOther hx u,h3⟩
theorem fromR_ (n:Bool) (m:Nat) (hm:m < 9218868437227405312) (w:World):Calls Tryz.prog 71 #[.int .u64 ((Fq.wD n m:Nat):Int)] w fun e w'=>∃ s p l c q k d,e = .returned (.agg #[.bool s,.slice p l c,.slice q k d])∧RP w.heap.size w' s p l c q k d n m∧Kp w w':=by
 have h:=fromBits_ n m hm w
 refine Calls.mono (show Calls Tryz.prog 71 #[.int .u64 ((Fq.wD n m:Nat):Int)] w _ from h) ?_
 rintro e w' ⟨vn,vd,a,b,s,rfl,o1,o2,⟨hF,hs⟩,g⟩
 obtain ⟨p,c,rfl,-,-⟩:=o1.arr
 obtain ⟨q,d,rfl,-,-⟩:=o2.arr
 obtain ⟨v1,v2,v3,v4,v5⟩:=Fq.vlsgD m hm
 have hF':FracOf (Fq.sgD m) 1 (Fq.epD m) a b:=hF
 have hs':Fq.sgD m≠0→s = n:=hs
 have hval:Fq.vV Ieee.double m = Fq.sgD m * 2 ^ (Fq.epD m + 1074).toNat:=v1.symm
 refine ⟨s,p,_,c,q,_,d,rfl,⟨a,b,o1,o2,fun K hK=>⟨hF'.1, ?_, ?_, ?_, ?_⟩⟩,g⟩
 ·by_cases c0:Fq.sgD m = 0
  ·rw [hval,c0,hF'.2.1.2 c0];simp
  ·rw [hval]
   exact frac_exact (Fq.sgD m) (Fq.epD m) a b K (Fq.epD m + 1074).toNat hF' c0 (by omega)
 ·unfold Iv
  by_cases c0:Fq.sgD m = 0
  ·have:Fq.vV Ieee.double m = 0:=by rw [hval,c0];simp
   rw [this];cases n <;> cases s <;> simp
  ·rw [hs' c0]
 ·have h1:=hF'.2.2.2.1
  have h2:blen (Fq.sgD m)≤53:=by rw [blen_le_iff,show (2:Nat) ^ 53 = 9007199254740992 from by decide];exact v2
  omega
 ·have h1:=hF'.2.2.2.2
  have h2:blen 1 = 1:=blen_uniq 1 0 (by decide) (by decide)
  omega
theorem dig_zero6:dig 0 = []:=by decide +kernel
theorem dig_one6:dig 1 = [1]:=by decide +kernel
theorem int0_ (w:World):Calls Tryz.prog 65 #[.int .i64 0] w fun e w'=>∃ s p l c q k d,e = .returned (.agg #[.bool s,.slice p l c,.slice q k d])∧RP w.heap.size w' s p l c q k d false 0∧Kp w w':=by
 obtain ⟨B,hB⟩:∃ B,B = w.heap.size:=⟨_,rfl⟩
 obtain ⟨w0,hw0⟩:∃ w0,w0 = w.alloc (.cells #[.bool false,.slice none 0 0,.slice none 0 0] 48):=⟨_,rfl⟩
 have kw:Kp w w0:=by rw [hw0];exact (Kp.refl w).alloc _
 have r0:w0.cell? ⟨B,0,none⟩ = some (.bool false):=by rw [hw0,hB];simp [go_sem]
 have r1:w0.cell? ⟨B,1,none⟩ = some (.slice none 0 0):=by rw [hw0,hB];simp [go_sem]
 have r2:w0.cell? ⟨B,2,none⟩ = some (.slice none 0 0):=by rw [hw0,hB];simp [go_sem]
 have f0:w0.frozen? ⟨B,0,none⟩ = false:=by rw [hw0,hB];simp [go_sem]
 have f1:w0.frozen? ⟨B,1,none⟩ = false:=by rw [hw0,hB];simp [go_sem]
 have f2:w0.frozen? ⟨B,2,none⟩ = false:=by rw [hw0,hB];simp [go_sem]
 have hlt:=cell_lt r0
 have hs:=rsmall_ 0 (by decide) w0
 have HW:Hid (w0 = w.alloc (.cells #[.bool false,.slice none 0 0,.slice none 0 0] 48)∧B = w.heap.size∧Kp w w0):=⟨hw0,hB,kw⟩
 clear hw0 hB kw
 go_enter Tryz.func65,Tryz.ntmps65
 go_wp2_with fail
 rw [← HW.out.2.1]
 try rw [← HW.out.1]
 refine hs.mono ?_;rintro e w1 ⟨v,rfl,ho,k1⟩
 obtain ⟨pv,cv,rfl,hav,hcv⟩:=ho.arr
 obtain ⟨L,hL⟩:∃ L,L = (dig 0).length:=⟨_,rfl⟩
 rw [← hL]
 obtain ⟨g4,hg4⟩:∃ g4,g4 = w1.heap.size:=⟨_,rfl⟩
 obtain ⟨w4,hw4⟩:∃ w4,w4 = w1.alloc (.cells #[.int .u32 1] 107):=⟨_,rfl⟩
 have k4:Kp w1 w4:=by rw [hw4];exact (Kp.refl _).alloc _
 have ar4:Arr w4 (some ⟨g4,0,none⟩) (dig 1):=by
  have h:=(row1 w1 1).all rfl
  rw [← hw4,← hg4] at h
  rw [dig_one6]
  exact h
 have h:=frac_ false (.slice pv (dig 0).length cv) (.slice (some ⟨g4,0,none⟩) (dig 1).length 1) (dig 0) (dig 1) 0 w4 ⟨pv,cv,rfl,hav.grown k4,hcv⟩ ⟨some ⟨g4,0,none⟩,1,rfl,ar4,by rw [dig_one6];decide⟩ (Wd_dig _) (Wd_dig _) (by rw [dig_zero6];decide) (by rw [dig_one6];decide) (by rw [val_dig];decide) (by decide)
 rw [val_dig,val_dig] at h
 rw [show (dig 1).length = 1 from by rw [dig_one6];rfl] at h
 rw [← hL] at h
 have k04:=k1.trans k4
 have HG:Hid (g4 = w1.heap.size∧w4 = w1.alloc (.cells #[.int .u32 1] 107)):=⟨hg4,hw4⟩
 replace r0:=kkeep k04 r0
 replace r1:=kkeep k04 r1
 replace r2:=kkeep k04 r2
 replace f0:=(kfro k04 hlt).trans f0
 replace f1:=(kfro k04 hlt).trans f1
 replace f2:=(kfro k04 hlt).trans f2
 have HK:Hid (Kp w0 w4∧B < w0.heap.size):=⟨k04,hlt⟩
 have hlt4:=cell_lt r0
 clear hs ho hav hcv hL hg4 hw4 k4 ar4 k1 k04 hlt
 go_wp2_with fail
 rw [← HG.out.1,← HG.out.2]
 refine h.mono ?_;rintro e w5 ⟨vn,vd,a',b',ng,rfl,o1,o2,ff,k5⟩
 obtain ⟨pn,cn,rfl,an,ln⟩:=o1.arr
 obtain ⟨pd,cd,rfl,ad,ld⟩:=o2.arr
 replace r0:=kkeep k5 r0
 replace r1:=kkeep k5 r1
 replace r2:=kkeep k5 r2
 replace f0:=(kfro k5 hlt4).trans f0
 replace f1:=(kfro k5 hlt4).trans f1
 replace f2:=(kfro k5 hlt4).trans f2
 have hp:RP w4.heap.size w5 ng pn (dig a').length cn pd (dig b').length cd false 0:=by
  refine ⟨a',b',o1,o2,fun K hK=>⟨ff.1.1, ?_, ?_, ?_, ?_⟩⟩
  ·rw [ff.1.2.1.2 rfl,Fq.vV_zero];simp
  ·unfold Iv;rw [Fq.vV_zero];cases ng <;> rfl
  ·have:=ff.1.2.2.2.1;rw [ff.1.2.1.2 rfl];rw [blen_zero];omega
  ·have:=ff.1.2.2.2.2
   have h2:blen 1 = 1:=blen_uniq 1 0 (by decide) (by decide)
   simp at this;omega
 have hq:=(((hp.set (x:=⟨B,0,none⟩) hlt4 (.bool ng)).set (x:=⟨B,1,none⟩) hlt4 (.slice pn (dig a').length cn)).set (x:=⟨B,2,none⟩) hlt4 (.slice pd (dig b').length cd)).mono (base':=w.heap.size) (by have h1:=Below.size HW.out.2.2;have h2:=Below.size HK.out.1;omega)
 have hkw:Kp w (((w5.setCell ⟨B,0,none⟩ (.bool ng)).setCell ⟨B,1,none⟩ (.slice pn (dig a').length cn)).setCell ⟨B,2,none⟩ (.slice pd (dig b').length cd)):=by
  have hB:=HW.out.2.1
  exact ((((HW.out.2.2.trans HK.out.1).trans k5).setCell (by rw [hB];exact Nat.le_refl _) _).setCell (by rw [hB];exact Nat.le_refl _) _).setCell (by rw [hB];exact Nat.le_refl _) _
 generalize (dig a').length = La at hq hkw ⊢
 generalize (dig b').length = Lb at hq hkw ⊢
 have HO:Hid (_∧_):=⟨hq,hkw⟩
 clear h hp hq hkw o1 o2 ff k5 an ln ad ld hlt4 HG
 go_wp2
 exact bodyPost_ret (v:=.agg #[.bool ng,.slice pn La cn,.slice pd Lb cd]) (by simp [results,Tryz.results65,go_sem,r0,r1,r2]) rfl ⟨ng,pn,La,cn,pd,Lb,cd,rfl,HO.out.1,HO.out.2⟩
theorem boundI_ (w:World):Calls Tryz.prog 48 #[.int .u64 9218868437227405312] w fun e w'=>∃ s p l c q k d,e = .returned (.agg #[.int .i64 1,.bool s,.slice p l c,.slice q k d])∧RP w.heap.size w' s p l c q k d false 0∧Kp w w':=by
 go_enter Tryz.func48,Tryz.ntmps48
 go_wp2_with (first | (go_at_call 65;refine (int0_ _).mono ?_;rintro e w1 ⟨s,p,l,c,q,k,d,rfl,hp,g1⟩;have r0:=kkeep g1 (b:=w.heap.size) (o:=0) (v:=.int .i64 0) (by simp [go_sem]);have rz0:w1.frozen? ⟨w.heap.size,0,none⟩ = false:=(kfro g1 (by simp <;> omega)).trans (by simp [go_sem]);have r1:=kkeep g1 (b:=w.heap.size) (o:=1) (v:=.bool false) (by simp [go_sem]);have rz1:w1.frozen? ⟨w.heap.size,1,none⟩ = false:=(kfro g1 (by simp <;> omega)).trans (by simp [go_sem]);have r2:=kkeep g1 (b:=w.heap.size) (o:=2) (v:=.slice none 0 0) (by simp [go_sem]);have rz2:w1.frozen? ⟨w.heap.size,2,none⟩ = false:=(kfro g1 (by simp <;> omega)).trans (by simp [go_sem]);have r3:=kkeep g1 (b:=w.heap.size) (o:=3) (v:=.slice none 0 0) (by simp [go_sem]);have rz3:w1.frozen? ⟨w.heap.size,3,none⟩ = false:=(kfro g1 (by simp <;> omega)).trans (by simp [go_sem])))
 exact bodyPost_ret (v:=.agg #[.int .i64 1,.bool s,.slice p l c,.slice q k d]) (by simp [results,Tryz.results48,go_sem,r0,r1,r2,r3]) rfl ⟨s,p,l,c,q,k,d,rfl,RP.mono (((((hp).set (x:=⟨w.heap.size,0,none⟩) (by simp) (.int .i64 1)).set (x:=⟨w.heap.size,1,none⟩) (by simp) (.bool s)).set (x:=⟨w.heap.size,2,none⟩) (by simp) (.slice p l c)).set (x:=⟨w.heap.size,3,none⟩) (by simp) (.slice q k d)) (by simp),(((((Kp.trans ((Kp.refl w).alloc _) g1)).setCell (Nat.le_refl _) _).setCell (Nat.le_refl _) _).setCell (Nat.le_refl _) _).setCell (Nat.le_refl _) _⟩
theorem boundM_ (w:World):Calls Tryz.prog 48 #[.int .u64 18442240474082181120] w fun e w'=>∃ s p l c q k d,e = .returned (.agg #[.int .i64 (-1),.bool s,.slice p l c,.slice q k d])∧RP w.heap.size w' s p l c q k d false 0∧Kp w w':=by
 go_enter Tryz.func48,Tryz.ntmps48
 go_wp2_with (first | (go_at_call 65;refine (int0_ _).mono ?_;rintro e w1 ⟨s,p,l,c,q,k,d,rfl,hp,g1⟩;have r0:=kkeep g1 (b:=w.heap.size) (o:=0) (v:=.int .i64 0) (by simp [go_sem]);have rz0:w1.frozen? ⟨w.heap.size,0,none⟩ = false:=(kfro g1 (by simp <;> omega)).trans (by simp [go_sem]);have r1:=kkeep g1 (b:=w.heap.size) (o:=1) (v:=.bool false) (by simp [go_sem]);have rz1:w1.frozen? ⟨w.heap.size,1,none⟩ = false:=(kfro g1 (by simp <;> omega)).trans (by simp [go_sem]);have r2:=kkeep g1 (b:=w.heap.size) (o:=2) (v:=.slice none 0 0) (by simp [go_sem]);have rz2:w1.frozen? ⟨w.heap.size,2,none⟩ = false:=(kfro g1 (by simp <;> omega)).trans (by simp [go_sem]);have r3:=kkeep g1 (b:=w.heap.size) (o:=3) (v:=.slice none 0 0) (by simp [go_sem]);have rz3:w1.frozen? ⟨w.heap.size,3,none⟩ = false:=(kfro g1 (by simp <;> omega)).trans (by simp [go_sem])))
 exact bodyPost_ret (v:=.agg #[.int .i64 (-1),.bool s,.slice p l c,.slice q k d]) (by simp [results,Tryz.results48,go_sem,r0,r1,r2,r3]) rfl ⟨s,p,l,c,q,k,d,rfl,RP.mono (((((hp).set (x:=⟨w.heap.size,0,none⟩) (by simp) (.int .i64 (-1))).set (x:=⟨w.heap.size,1,none⟩) (by simp) (.bool s)).set (x:=⟨w.heap.size,2,none⟩) (by simp) (.slice p l c)).set (x:=⟨w.heap.size,3,none⟩) (by simp) (.slice q k d)) (by simp),(((((Kp.trans ((Kp.refl w).alloc _) g1)).setCell (Nat.le_refl _) _).setCell (Nat.le_refl _) _).setCell (Nat.le_refl _) _).setCell (Nat.le_refl _) _⟩
theorem boundF_ (n:Bool) (m:Nat) (hm:m < 9218868437227405312) (ht:Fq.wD n m≠9223372036854775808) (w:World):Calls Tryz.prog 48 #[.int .u64 ((Fq.wD n m:Nat):Int)] w fun e w'=>∃ s p l c q k d,e = .returned (.agg #[.int .i64 0,.bool s,.slice p l c,.slice q k d])∧RP w.heap.size w' s p l c q k d n m∧Kp w w':=by
 have hf:=fromR_ n m hm
 have hq:=Fq.rplain6_ n m (by omega)
 rw [show Fq.pla (Fq.wD n m) = Fq.wD n m from by unfold Fq.pla;rw [if_neg ht]] at hq
 have t1:(((Fq.wD n m:Nat):Int) == 9218868437227405312) = false:=by
  have:Fq.wD n m≠9218868437227405312:=by unfold Fq.wD;cases n <;> simp <;> omega
  simp;omega
 have t2:(((Fq.wD n m:Nat):Int) == 18442240474082181120) = false:=by
  have:Fq.wD n m≠18442240474082181120:=by unfold Fq.wD;cases n <;> simp <;> omega
  simp;omega
 generalize ((Fq.wD n m:Nat):Int) = X at hf hq t1 t2 ⊢
 clear hm ht
 go_enter Tryz.func48,Tryz.ntmps48
 go_wp2_with (first | (go_at_call 70;refine (hq _).mono ?_;rintro e w' ⟨rfl,rfl⟩) | (go_at_call 71;refine (hf _).mono ?_;rintro e w1 ⟨s,p,l,c,q,k,d,rfl,hp,g1⟩;have r0:=kkeep g1 (b:=w.heap.size) (o:=0) (v:=.int .i64 0) (by simp [go_sem]);have rz0:w1.frozen? ⟨w.heap.size,0,none⟩ = false:=(kfro g1 (by simp <;> omega)).trans (by simp [go_sem]);have r1:=kkeep g1 (b:=w.heap.size) (o:=1) (v:=.bool false) (by simp [go_sem]);have rz1:w1.frozen? ⟨w.heap.size,1,none⟩ = false:=(kfro g1 (by simp <;> omega)).trans (by simp [go_sem]);have r2:=kkeep g1 (b:=w.heap.size) (o:=2) (v:=.slice none 0 0) (by simp [go_sem]);have rz2:w1.frozen? ⟨w.heap.size,2,none⟩ = false:=(kfro g1 (by simp <;> omega)).trans (by simp [go_sem]);have r3:=kkeep g1 (b:=w.heap.size) (o:=3) (v:=.slice none 0 0) (by simp [go_sem]);have rz3:w1.frozen? ⟨w.heap.size,3,none⟩ = false:=(kfro g1 (by simp <;> omega)).trans (by simp [go_sem])))
 exact bodyPost_ret (v:=.agg #[.int .i64 0,.bool s,.slice p l c,.slice q k d]) (by simp [results,Tryz.results48,go_sem,r0,r1,r2,r3]) rfl ⟨s,p,l,c,q,k,d,rfl,RP.mono (((((hp).set (x:=⟨w.heap.size,0,none⟩) (by simp) (.int .i64 0)).set (x:=⟨w.heap.size,1,none⟩) (by simp) (.bool s)).set (x:=⟨w.heap.size,2,none⟩) (by simp) (.slice p l c)).set (x:=⟨w.heap.size,3,none⟩) (by simp) (.slice q k d)) (by simp),(((((Kp.trans ((Kp.refl w).alloc _) g1)).setCell (Nat.le_refl _) _).setCell (Nat.le_refl _) _).setCell (Nat.le_refl _) _).setCell (Nat.le_refl _) _⟩
def infS (n:Bool) (m:Nat):Int:=if m = 9218868437227405312 then (if n then -1 else 1) else 0
def fN (n:Bool) (m:Nat):Bool:=if m = 9218868437227405312 then false else n
def fM (m:Nat):Nat:=if m = 9218868437227405312 then 0 else m
theorem bound_ (n:Bool) (m:Nat) (hm:m≤9218868437227405312) (ht:Fq.wD n m≠9223372036854775808) (w:World):Calls Tryz.prog 48 #[.int .u64 ((Fq.wD n m:Nat):Int)] w fun e w'=>∃ s p l c q k d,e = .returned (.agg #[.int .i64 (infS n m),.bool s,.slice p l c,.slice q k d])∧RP w.heap.size w' s p l c q k d (fN n m) (fM m)∧Kp w w':=by
 unfold infS fN fM
 by_cases c:m = 9218868437227405312
 ·rw [if_pos c,if_pos c,if_pos c,c]
  cases n
  ·exact boundI_ w
  ·exact boundM_ w
 ·rw [if_neg c,if_neg c,if_neg c]
  exact boundF_ n m (by omega) ht w
end Go.Proofs.YtngglmnhjjlgkaaGreatDoor
