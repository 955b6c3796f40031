import Derived.Test.YtngglmnhjjlgkaaGreatDoorKEGs
import Derived.Deep.CutRange
set_option maxHeartbeats 1000000
set_option maxRecDepth 20000
namespace Go.Proofs.YtngglmnhjjlgkaaGreatDoor
open Go.RowKit

def H6 (w:World) (B:Nat) (a b c d e f:Value):Prop:=Fq.H2 w B a b∧Fq.H2 w (B + 1) c d∧Fq.H2 w (B + 2) e f
theorem H6.keep {W w:World} {B:Nat} {a b c d e f:Value} (h:H6 W B a b c d e f) (g:Kp W w):H6 w B a b c d e f:=⟨Fq.H2.keep h.1 g,Fq.H2.keep h.2.1 g,Fq.H2.keep h.2.2 g⟩
theorem H6.new (w:World) (a b c d e f:Value) (s t u:TypeId):H6 (((w.alloc (.cells #[a,b] s)).alloc (.cells #[c,d] t)).alloc (.cells #[e,f] u)) w.heap.size a b c d e f:=by
 refine ⟨?_, ?_, ?_⟩ <;> (unfold Fq.H2;simp [go_sem])
theorem H6.put {w:World} {B:Nat} {a b c d e f:Value} (h:H6 w B a b c d e f) (a' b' c' d':Value):H6 ((((w.setCell ⟨B,0,none⟩ a').setCell ⟨B,1,none⟩ b').setCell ⟨B + 1,0,none⟩ c').setCell ⟨B + 1,1,none⟩ d') B a' b' c' d' e f:=by
 refine ⟨?_, ?_, ?_⟩
 ·exact Fq.H2.far (Fq.H2.put h.1 a' b') (by omega) c' d'
 ·exact Fq.H2.put (Fq.H2.far h.2.1 (by omega) a' b') c' d'
 ·exact Fq.H2.far (Fq.H2.far h.2.2 (by omega) a' b') (by omega) c' d'

def H48 (w:World) (B:Nat) (a b c d:Value):Prop:=Fq.H2 w B a b∧Fq.H2 w (B + 1) c d
theorem H48.keep {W w:World} {B:Nat} {a b c d:Value} (h:H48 W B a b c d) (g:Kp W w):H48 w B a b c d:=⟨Fq.H2.keep h.1 g,Fq.H2.keep h.2 g⟩
theorem H48.new (w:World) (a b c d:Value) (s t:TypeId):H48 ((w.alloc (.cells #[a,b] s)).alloc (.cells #[c,d] t)) w.heap.size a b c d:=by
 refine ⟨?_, ?_⟩ <;> (unfold Fq.H2;simp [go_sem])
theorem H48.put {w:World} {B:Nat} {a b c d:Value} (h:H48 w B a b c d) (a' b' c' d':Value):H48 ((((w.setCell ⟨B,0,none⟩ a').setCell ⟨B,1,none⟩ b').setCell ⟨B + 1,0,none⟩ c').setCell ⟨B + 1,1,none⟩ d') B a' b' c' d':=by
 refine ⟨?_, ?_⟩
 ·exact Fq.H2.far (Fq.H2.put h.1 a' b') (by omega) c' d'
 ·exact Fq.H2.put (Fq.H2.far h.2 (by omega) a' b') c' d'
set_option linter.unusedVariables false
theorem quo1_ (X Y Z:Nat) (w:World) (hM:Calls Tryz.prog 36 #[.int .i64 (-1),.float .f64 X,.float .f64 Y] w fun e w'=>e = .returned (.float .f64 Z)∧Kp w w'):Calls Tryz.prog 21 #[.float .f64 X,.float .f64 Y] w fun e w'=>e = .returned (.float .f64 Z)∧Kp w w':=by
 go_enter Tryz.func21,Tryz.ntmps21
 go_wp2_with (first | (go_at_call 36;refine hM.mono ?_;rintro e w1 ⟨rfl,g1⟩))
 exact bodyPost_ret (v:=.float .f64 Z) (by simp [results,Tryz.results21,go_sem]) rfl ⟨rfl,g1⟩
theorem eq0_pw (x:Int) (hx:BdZ x):(FloatKind.f64.format.order (pw x) 0 == some Ordering.eq) = decide (x = 0):=by
 have h:=peq9 x 0 hx (by unfold BdZ;omega)
 rw [show pw 0 = 0 from rfl] at h
 exact h
theorem lt0_pw (x:Int) (hx:BdZ x):(FloatKind.f64.format.order (pw x) 0 == some Ordering.lt) = decide (x < 0):=by
 have h:=plt9 x 0 hx (by unfold BdZ;omega)
 rw [show pw 0 = 0 from rfl] at h
 exact h
theorem gt0_pw (x:Int) (hx:BdZ x):(FloatKind.f64.format.order (pw x) 0 == some Ordering.gt) = decide (0 < x):=by
 have h:=pgt9 x 0 hx (by unfold BdZ;omega)
 rw [show pw 0 = 0 from rfl] at h
 exact h
theorem le0_pw (x:Int) (hx:BdZ x):(FloatKind.f64.format.order (pw x) 0 == some Ordering.lt || FloatKind.f64.format.order (pw x) 0 == some Ordering.eq) = decide (x≤0):=by
 have h:=ple9 x 0 hx (by unfold BdZ;omega)
 rw [show pw 0 = 0 from rfl] at h
 exact h
theorem ge0_pw (x:Int) (hx:BdZ x):(FloatKind.f64.format.order (pw x) 0 == some Ordering.gt || FloatKind.f64.format.order (pw x) 0 == some Ordering.eq) = decide (0≤x):=by
 have h:=pge9 x 0 hx (by unfold BdZ;omega)
 rw [show pw 0 = 0 from rfl] at h
 exact h
set_option linter.unusedVariables false

theorem opP_pw (x:Int) (h:BdZ x):opP (pw x) = pw (-x):=by
 have h2:=abs_pw x h
 unfold opP pw Fq.wD
 rcases Int.lt_trichotomy x 0 with c | c | c
 ·rw [decide_eq_true c,decide_eq_false (show ¬ -x < 0 by omega),Int.natAbs_neg]
  simp;repeat' split
  all_goals omega
 ·subst c;rfl
 ·rw [decide_eq_false (show ¬ x < 0 by omega),decide_eq_true (show -x < 0 by omega),Int.natAbs_neg]
  simp;repeat' split
  all_goals omega
theorem bd_neg (x:Int) (h:BdZ x):BdZ (-x):=by unfold BdZ at *;omega
theorem minus9_ (x:Int) (h:BdZ x) (w:World):Calls Tryz.prog 28 #[.float .f64 (pw x)] w fun e w'=>e = .returned (.float .f64 (pw (-x)))∧w' = w:=by
 have g:=minus6_ (decide (x < 0)) x.natAbs (abs_pw x h) w
 have e:=opP_pw x h
 unfold pw at e ⊢
 rw [e] at g
 exact g
theorem neg9_ (a b:Nat) (L H:Int) (hx:Rd a b L H) (w:World):Calls Tryz.prog 29 #[.agg #[.float .f64 a,.float .f64 b]] w fun e w'=>e = .returned (.agg #[.float .f64 (pw (-H)),.float .f64 (pw (-L))])∧Kp w w' :=
 neg6c_ a b _ _ _ _ hx.call (minus9_ L hx.vd.lo) (minus9_ H hx.vd.hi) w
theorem empty9_ (w:World):Calls Tryz.prog 17 #[] w fun e w'=>e = .returned (.agg #[.float .f64 9218868437227405312,.float .f64 18442240474082181120])∧Kp w w':=by
 refine (Fq.empty6_ w).mono ?_
 exact fun e w' h=>⟨h.1,by first | exact h.2 | (rw [h.2];exact (Kp.refl _).alloc _)⟩

set_option linter.unusedVariables false
def vZ (z:Int):Int:=Iv (decide (z < 0)) z.natAbs
theorem vZ_pos (z:Int) (h:0≤z):vZ z = ((Fq.vV Ieee.double z.natAbs:Nat):Int):=by
 unfold vZ Iv
 rw [decide_eq_false (show ¬ z < 0 by omega)];rfl
theorem vV0X:Fq.vV Ieee.double 0 = 0:=by decide
theorem vZ_neg (z:Int):vZ (-z) = -vZ z:=by
 unfold vZ Iv
 rw [Int.natAbs_neg]
 by_cases z0:z = 0
 ·rw [z0];simp [vV0X]
 ·by_cases c:z < 0
  ·rw [decide_eq_true c,decide_eq_false (show ¬ -z < 0 by omega)];simp
  ·rw [decide_eq_false c,decide_eq_true (show -z < 0 by omega)];simp
theorem vZ_sn (z:Int):Iv (sN z) z.natAbs = vZ z:=rfl
theorem iv_le9 (n n':Bool) (m m':Nat) (h:Fq.plz n m≤Fq.plz n' m'):Iv n m≤Iv n' m':=by
 have h1:=Fq.vV_lt_iff Ieee.double m m'
 have h2:=Fq.vV_lt_iff Ieee.double m' m
 have h3:=vV_zero m
 have h4:=vV_zero m'
 unfold Iv
 unfold Fq.plz at h
 cases n <;> cases n' <;> simp at h ⊢ <;> omega
theorem vZ_le (x y:Int) (h:x≤y):vZ x≤vZ y:=iv_le9 _ _ _ _ (by rw [plz_pw,plz_pw];exact h)
theorem vZ_zero:vZ 0 = 0:=by rw [vZ_pos 0 (by omega)];exact congrArg _ vV0X
theorem vZ_nn (x:Int) (h:0≤x):0≤vZ x:=by rw [vZ_pos x h];omega
structure Gd (f:Int→Int→Int) (e:Int):Prop where
 sym:∀ x y,f x y = f y x
 neg:∀ x y,f (-x) y = f x (-y)
 zero:∀ x,f x 0 = e
 mono:∀ x x' y,BdZ x→BdZ x'→BdZ y→0≤y→x≤x'→f x y≤f x' y

set_option linter.unusedVariables false
def pII (p q:Int):Prop:=(p≠0∧q≠0)∧((p = 9218868437227405312∨p = -9218868437227405312)∨(q = 9218868437227405312∨q = -9218868437227405312))
instance (p q:Int):Decidable (pII p q):=by unfold pII;infer_instance
def cmJ (V W:Int):Int:=if V < W then -1 else if W < V then 1 else 0
def cB (i V j W:Int):Int:=if i < j then -1 else if j < i then 1 else if i≠0 then 0 else cmJ V W
def lB (a b:Int × Int):Int × Int:=if cB b.1 b.2 a.1 a.2 < 0 then b else a
def gB (a b:Int × Int):Int × Int:=if 0 < cB b.1 b.2 a.1 a.2 then b else a
def okB (a:Int × Int):Prop:=a.1 = 0∨a.1 = 1∨a.1 = -1
theorem cB_flip (i V j W:Int):cB j W i V = -(cB i V j W):=by
 unfold cB
 rcases Int.lt_trichotomy i j with c | c | c
 ·rw [if_neg (show ¬ j < i by omega),if_pos c,if_pos c];rfl
 ·subst c
  rw [if_neg (show ¬ i < i by omega),if_neg (show ¬ i < i by omega),if_neg (show ¬ i < i by omega),if_neg (show ¬ i < i by omega)]
  by_cases z:i = 0
  ·rw [if_neg (show ¬ i≠0 by omega),if_neg (show ¬ i≠0 by omega)]
   unfold cmJ
   repeat' split
   all_goals omega
  ·rw [if_pos z,if_pos z];rfl
 ·rw [if_pos c,if_neg (show ¬ i < j by omega),if_pos c]
theorem cmI_scale (x y k:Int) (hk:0 < k):cmI (x * k) (y * k) = cmI x y:=by
 unfold cmI
 have e1:x * k < y * k ↔ x < y:=⟨fun h=>Int.lt_of_mul_lt_mul_right h (Int.le_of_lt hk),fun h=>Int.mul_lt_mul_of_pos_right h hk⟩
 have e2:y * k < x * k ↔ y < x:=⟨fun h=>Int.lt_of_mul_lt_mul_right h (Int.le_of_lt hk),fun h=>Int.mul_lt_mul_of_pos_right h hk⟩
 simp only [e1,e2]
theorem frac_ratio (x D a b:Nat) (hD:D≠0) (hF:FracOf x D 0 a b):a * D = x * b:=by
 have hb:=hF.1
 by_cases c0:x = 0
 ·rw [hF.2.1.2 c0,c0,Nat.zero_mul,Nat.zero_mul]
 ·have hfl:∀ t:Nat,a * 2 ^ t / b = x * 2 ^ t / D:=fun t=>by
   have h:=hF.2.2.1 (-1) (blen (a * 2 ^ t / b) + blen (x * 2 ^ t / D)) (t:Int) c0
   unfold rV at h
   rw [show ((t:Int)).toNat = t from by omega,show (-(t:Int)).toNat = 0 from by omega,show ((t:Int) + 0).toNat = t from by omega,show (-((t:Int) + 0)).toNat = 0 from by omega,Nat.pow_zero,Nat.mul_one,Nat.mul_one,rU_floor _ _ _ (by omega),rU_floor _ _ _ (by omega)] at h
   exact h
  obtain ⟨t,ht⟩:∃ t,b * D < 2 ^ t:=⟨b * D,Nat.lt_two_pow_self⟩
  have h:=hfl t
  obtain ⟨f,hf⟩:∃ f,f = a * 2 ^ t / b:=⟨_,rfl⟩
  have f1:f * b≤a * 2 ^ t:=by rw [hf];exact Nat.div_mul_le_self _ _
  have f2:a * 2 ^ t < (f + 1) * b:=by rw [hf];exact Nat.lt_mul_of_div_lt (Nat.lt_succ_self _) (by omega)
  have f3:f * D≤x * 2 ^ t:=by rw [hf,h];exact Nat.div_mul_le_self _ _
  have f4:x * 2 ^ t < (f + 1) * D:=by rw [hf,h];exact Nat.lt_mul_of_div_lt (Nat.lt_succ_self _) (by omega)
  have g1:=Nat.mul_le_mul_right D f1
  have g2:=Nat.mul_lt_mul_of_pos_right f2 (show 0 < D by omega)
  have g3:=Nat.mul_le_mul_right b f3
  have g4:=Nat.mul_lt_mul_of_pos_right f4 (show 0 < b by omega)
  rw [show f * b * D = f * (b * D) from Nat.mul_assoc _ _ _,show a * 2 ^ t * D = a * D * 2 ^ t from Nat.mul_right_comm _ _ _] at g1
  rw [show (f + 1) * b * D = f * (b * D) + b * D from by rw [Nat.mul_assoc,Nat.add_mul,Nat.one_mul],show a * 2 ^ t * D = a * D * 2 ^ t from Nat.mul_right_comm _ _ _] at g2
  rw [show f * D * b = f * (b * D) from by rw [Nat.mul_assoc,Nat.mul_comm D b],show x * 2 ^ t * b = x * b * 2 ^ t from Nat.mul_right_comm _ _ _] at g3
  rw [show (f + 1) * D * b = f * (b * D) + b * D from by rw [Nat.mul_assoc,Nat.mul_comm D b,Nat.add_mul,Nat.one_mul],show x * 2 ^ t * b = x * b * 2 ^ t from Nat.mul_right_comm _ _ _] at g4
  rcases Nat.lt_trichotomy (a * D) (x * b) with c | c | c
  ·exfalso
   have h5:=Nat.mul_le_mul_right (2 ^ t) (show a * D + 1≤x * b from c)
   rw [Nat.add_mul,Nat.one_mul] at h5
   omega
  ·exact c
  ·exfalso
   have h5:=Nat.mul_le_mul_right (2 ^ t) (show x * b + 1≤a * D from c)
   rw [Nat.add_mul,Nat.one_mul] at h5
   omega

set_option linter.unusedVariables false
def XF (s:Bool) (a b:Nat) (V:Int) (C N:Nat):Prop:=b≠0∧C≠0∧rvI s a * (C:Int) = V * (b:Int)∧blen a≤N∧blen b≤N
def XP (base:Nat) (w:World) (s:Bool) (p:Option Addr) (l c:Nat) (q:Option Addr) (k d:Nat) (V:Int) (C N:Nat):Prop:=∃ a b,Own w base (.slice p l c) (dig a)∧Own w base (.slice q k d) (dig b)∧XF s a b V C N
theorem XP.kp {base:Nat} {w:World} {s:Bool} {p:Option Addr} {l c:Nat} {q:Option Addr} {k d:Nat} {V:Int} {C N:Nat} {w':World} (h:XP base w s p l c q k d V C N) (g:Kp w w'):XP base w' s p l c q k d V C N:=by
 obtain ⟨a,b,h1,h2,h3⟩:=h
 exact ⟨a,b,h1.kp g,h2.kp g,h3⟩
theorem XP.mono {base:Nat} {w:World} {s:Bool} {p:Option Addr} {l c:Nat} {q:Option Addr} {k d:Nat} {V:Int} {C N:Nat} {base':Nat} (h:XP base w s p l c q k d V C N) (g:base'≤base):XP base' w s p l c q k d V C N:=by
 obtain ⟨a,b,h1,h2,h3⟩:=h
 exact ⟨a,b,h1.mono g,h2.mono g,h3⟩
theorem XP.set {base:Nat} {w:World} {s:Bool} {p:Option Addr} {l c:Nat} {q:Option Addr} {k d:Nat} {V:Int} {C N:Nat} (h:XP base w s p l c q k d V C N) {x:Addr} (hx:x.block < base) (u:Value):XP base (w.setCell x u) s p l c q k d V C N:=by
 obtain ⟨a,b,h1,h2,h3⟩:=h
 exact ⟨a,b,h1.setOther hx u,h2.setOther hx u,h3⟩
theorem XP.as {base:Nat} {w:World} {s:Bool} {p:Option Addr} {l c:Nat} {q:Option Addr} {k d:Nat} {V:Int} {C N:Nat} (h:XP base w s p l c q k d V C N) (V2:Int) (C2 N2:Nat) (hc:C2≠0) (e:V * (C2:Int) = V2 * (C:Int)) (hN:N≤N2):XP base w s p l c q k d V2 C2 N2:=by
 obtain ⟨a,b,h1,h2,f1,f2,f3,f4,f5⟩:=h
 refine ⟨a,b,h1,h2,f1,hc, ?_,by omega,by omega⟩
 refine Int.eq_of_mul_eq_mul_right (show (C:Int)≠0 by omega) ?_
 have e1:rvI s a * (C2:Int) * (C:Int) = rvI s a * (C:Int) * (C2:Int):=by ac_rfl
 have e2:V2 * (b:Int) * (C:Int) = V2 * (C:Int) * (b:Int):=by ac_rfl
 rw [e1,f3,e2,← e];ac_rfl
theorem RP.xp {base:Nat} {w:World} {s:Bool} {p:Option Addr} {l c:Nat} {q:Option Addr} {k d:Nat} {n:Bool} {m:Nat} (h:RP base w s p l c q k d n m) (K:Nat) (hK:K = 1074):XP base w s p l c q k d (Iv n m) (2 ^ K) 1500:=by
 obtain ⟨a,b,h1,h2,h3⟩:=h
 obtain ⟨f1,f2,f3,f4,f5⟩:=h3 K hK
 refine ⟨a,b,h1,h2,f1,by have:=Nat.two_pow_pos K;omega, ?_,f4,f5⟩
 have e:(a:Int) * ((2 ^ K:Nat):Int) = ((Fq.vV Ieee.double m:Nat):Int) * (b:Int):=by rw [← Int.natCast_mul,f2,Int.natCast_mul]
 rw [f3];unfold rvI
 cases s
 ·rw [if_neg (by decide),if_neg (by decide)];exact e
 ·rw [if_pos rfl,if_pos rfl,Int.neg_mul,e,Int.neg_mul]
theorem rvI_mul (s:Bool) (a b:Nat):rvI s (a * b) = rvI s a * (b:Int):=by
 unfold rvI;cases s
 ·rw [if_neg (by decide),if_neg (by decide),Int.natCast_mul]
 ·rw [if_pos rfl,if_pos rfl,Int.natCast_mul,Int.neg_mul]
theorem rvI_mul2 (s s':Bool) (a b:Nat):rvI (s ^^ s') (a * b) = rvI s a * rvI s' b:=by
 unfold rvI;cases s <;> cases s' <;> simp [Int.neg_mul,Int.mul_neg]
theorem frac_x (x D a' b':Nat) (ng neg:Bool) (hD:D≠0) (hF:FracOf x D 0 a' b') (hn:x≠0→ng = neg):rvI ng a' * (D:Int) = rvI neg x * (b':Int):=by
 have h:=frac_ratio x D a' b' hD hF
 by_cases z:x = 0
 ·have z':=hF.2.1.2 z
  rw [z,z'];unfold rvI;simp
 ·rw [hn z,← rvI_mul,← rvI_mul,h]
theorem blen_mulX (u v N1 N2:Nat) (h1:blen u≤N1) (h2:blen v≤N2):blen (u * v)≤N1 + N2:=by
 rw [blen_le_iff,Nat.pow_add]
 exact Nat.mul_lt_mul'' ((blen_le_iff u N1).1 h1) ((blen_le_iff v N2).1 h2)
theorem xcmp_ (B1 B2:Nat) (V V':Int) (C C' N N':Nat) (hN:N≤200000) (hN':N'≤200000) s p l c q k d s2 p2 l2 c2 q2 k2 d2 (w:World) (h1:XP B1 w s p l c q k d V C N) (h2:XP B2 w s2 p2 l2 c2 q2 k2 d2 V' C' N'):Calls Tryz.prog 119 #[.agg #[.bool s,.slice p l c,.slice q k d],.agg #[.bool s2,.slice p2 l2 c2,.slice q2 k2 d2]] w fun e w'=>e = .returned (.int .i64 (cmI (V * (C':Int)) (V' * (C:Int))))∧Kp w w':=by
 obtain ⟨a,b,o1,o2,zb,zc,i1,j1,j2⟩:=h1
 obtain ⟨x,y,o3,o4,zy,zc',i2,j3,j4⟩:=h2
 have h:=rcmp6_ s p l c q k d s2 p2 l2 c2 q2 k2 d2 a b x y B1 B2 w o1 o2 o3 o4 zb zy (by omega) (by omega) (by omega) (by omega)
 have e:cmI (rvI s a * (y:Int)) (rvI s2 x * (b:Int)) = cmI (V * (C':Int)) (V' * (C:Int)):=by
  have pk:(0:Int) < (C:Int) * (C':Int):=Int.mul_pos (by omega) (by omega)
  have pb:(0:Int) < (b:Int) * (y:Int):=Int.mul_pos (by omega) (by omega)
  rw [← cmI_scale _ _ _ pk,← cmI_scale (V * (C':Int)) (V' * (C:Int)) _ pb]
  have e1:rvI s a * (y:Int) * ((C:Int) * (C':Int)) = rvI s a * (C:Int) * ((y:Int) * (C':Int)):=by ac_rfl
  have e2:rvI s2 x * (b:Int) * ((C:Int) * (C':Int)) = rvI s2 x * (C':Int) * ((b:Int) * (C:Int)):=by ac_rfl
  rw [e1,e2,i1,i2]
  have e3:V * (b:Int) * ((y:Int) * (C':Int)) = V * (C':Int) * ((b:Int) * (y:Int)):=by ac_rfl
  have e4:V' * (y:Int) * ((b:Int) * (C:Int)) = V' * (C:Int) * ((b:Int) * (y:Int)):=by ac_rfl
  rw [e3,e4]
 rw [e] at h
 exact h
theorem XF.add (s s' ng:Bool) (a1 a2 b1 b2 a' b':Nat) (V V':Int) (C C' N N' M:Nat) (h1:XF s a1 a2 V C N) (h2:XF s' b1 b2 V' C' N') (hb:b'≠0) (h:rvI ng a' * ((a2:Int) * (b2:Int)) = (rvI s a1 * (b2:Int) + rvI s' b1 * (a2:Int)) * (b':Int)) (m1:blen a'≤M) (m2:blen b'≤M):XF ng a' b' (V * (C':Int) + V' * (C:Int)) (C * C') M:=by
 obtain ⟨za,zc,i1,-,-⟩:=h1
 obtain ⟨zb,zc',i2,-,-⟩:=h2
 refine ⟨hb,Nat.mul_ne_zero zc zc', ?_,m1,m2⟩
 have pn:(a2:Int) * (b2:Int)≠0:=by have:(0:Int) < (a2:Int) * (b2:Int):=Int.mul_pos (by omega) (by omega);omega
 refine Int.eq_of_mul_eq_mul_right pn ?_
 rw [Int.natCast_mul]
 have e1:rvI ng a' * ((C:Int) * (C':Int)) * ((a2:Int) * (b2:Int)) = rvI ng a' * ((a2:Int) * (b2:Int)) * ((C:Int) * (C':Int)):=by ac_rfl
 rw [e1,h]
 simp only [Int.add_mul]
 have e2:rvI s a1 * (b2:Int) * (b':Int) * ((C:Int) * (C':Int)) = rvI s a1 * (C:Int) * ((b2:Int) * (b':Int) * (C':Int)):=by ac_rfl
 have e3:rvI s' b1 * (a2:Int) * (b':Int) * ((C:Int) * (C':Int)) = rvI s' b1 * (C':Int) * ((a2:Int) * (b':Int) * (C:Int)):=by ac_rfl
 rw [e2,e3,i1,i2]
 have e4:V * (a2:Int) * ((b2:Int) * (b':Int) * (C':Int)) = V * (C':Int) * (b':Int) * ((a2:Int) * (b2:Int)):=by ac_rfl
 have e5:V' * (b2:Int) * ((a2:Int) * (b':Int) * (C:Int)) = V' * (C:Int) * (b':Int) * ((a2:Int) * (b2:Int)):=by ac_rfl
 rw [e4,e5]
theorem XF.mul (s s' ng:Bool) (a1 a2 b1 b2 a' b':Nat) (V V':Int) (C C' N N' M:Nat) (h1:XF s a1 a2 V C N) (h2:XF s' b1 b2 V' C' N') (hb:b'≠0) (h:rvI ng a' * ((a2:Int) * (b2:Int)) = rvI s a1 * rvI s' b1 * (b':Int)) (m1:blen a'≤M) (m2:blen b'≤M):XF ng a' b' (V * V') (C * C') M:=by
 obtain ⟨za,zc,i1,-,-⟩:=h1
 obtain ⟨zb,zc',i2,-,-⟩:=h2
 refine ⟨hb,Nat.mul_ne_zero zc zc', ?_,m1,m2⟩
 have pn:(a2:Int) * (b2:Int)≠0:=by have:(0:Int) < (a2:Int) * (b2:Int):=Int.mul_pos (by omega) (by omega);omega
 refine Int.eq_of_mul_eq_mul_right pn ?_
 rw [Int.natCast_mul]
 have e1:rvI ng a' * ((C:Int) * (C':Int)) * ((a2:Int) * (b2:Int)) = rvI ng a' * ((a2:Int) * (b2:Int)) * ((C:Int) * (C':Int)):=by ac_rfl
 have e2:rvI s a1 * rvI s' b1 * (b':Int) * ((C:Int) * (C':Int)) = rvI s a1 * (C:Int) * (rvI s' b1 * (C':Int)) * (b':Int):=by ac_rfl
 rw [e1,h,e2,i1,i2];ac_rfl
theorem XF.quo (s s' ng:Bool) (a1 a2 b1 b2 a' b':Nat) (V:Int) (U:Nat) (t:Bool) (C C' N N' M:Nat) (h1:XF s a1 a2 V C N) (h2:XF s' b1 b2 (rvI t U) C' N') (hU:U≠0) (hb:b'≠0) (h:rvI ng a' * ((a2:Int) * (b1:Int)) = rvI (s ^^ s') (a1 * b2) * (b':Int)) (m1:blen a'≤M) (m2:blen b'≤M):XF ng a' b' (rvI t 1 * V * (C':Int)) (C * U) M:=by
 obtain ⟨za,zc,i1,-,-⟩:=h1
 obtain ⟨zb,zc',i2,-,-⟩:=h2
 have hU':(0:Int) < (U:Int):=by omega
 have hC':(0:Int) < (C':Int):=by omega
 have hb2:(0:Int) < (b2:Int):=by omega
 have q1:(0:Int) < (U:Int) * (b2:Int):=Int.mul_pos hU' hb2
 have key:s' = t∧(b1:Int) * (C':Int) = (U:Int) * (b2:Int):=by
  have q2:(0:Int)≤(b1:Int) * (C':Int):=Int.mul_nonneg (by omega) (by omega)
  unfold rvI at i2
  cases s' <;> cases t <;> simp [Int.neg_mul] at i2 ⊢ <;> omega
 obtain ⟨rfl,i3⟩:=key
 have zb1:(0:Int) < (b1:Int):=by
  rcases Nat.eq_zero_or_pos b1 with z | z
  ·rw [z] at i3;simp at i3;omega
  ·omega
 refine ⟨hb,Nat.mul_ne_zero zc hU, ?_,m1,m2⟩
 have pn:(a2:Int) * (b1:Int)≠0:=by have:(0:Int) < (a2:Int) * (b1:Int):=Int.mul_pos (by omega) (by omega);omega
 refine Int.eq_of_mul_eq_mul_right pn ?_
 refine Int.eq_of_mul_eq_mul_right (show (b2:Int)≠0 by omega) ?_
 rw [Int.natCast_mul]
 have e0:rvI (s ^^ s') (a1 * b2) = rvI s' 1 * (rvI s a1 * (b2:Int)):=by unfold rvI;cases s <;> cases s' <;> simp [Int.neg_mul]
 have e1:rvI ng a' * ((C:Int) * (U:Int)) * ((a2:Int) * (b1:Int)) * (b2:Int) = rvI ng a' * ((a2:Int) * (b1:Int)) * ((C:Int) * ((U:Int) * (b2:Int))):=by ac_rfl
 rw [e1,h,← i3,e0]
 have e2:rvI s' 1 * (rvI s a1 * (b2:Int)) * (b':Int) * ((C:Int) * ((b1:Int) * (C':Int))) = (rvI s a1 * (C:Int)) * (rvI s' 1 * (b2:Int) * (b':Int) * (b1:Int) * (C':Int)):=by ac_rfl
 rw [e2,i1];ac_rfl

theorem XP.setNe {base:Nat} {w:World} {s:Bool} {p:Option Addr} {l c:Nat} {q:Option Addr} {k d:Nat} {V:Int} {C N:Nat} (h:XP base w s p l c q k d V C N) {x:Addr} (hx:NB p q x.block) (u:Value):XP base (w.setCell x u) s p l c q k d V C N:=by
 obtain ⟨a,b,h1,h2,h3⟩:=h
 exact ⟨a,b,h1.setNe hx.1 u,h2.setNe hx.2 u,h3⟩
end Go.Proofs.YtngglmnhjjlgkaaGreatDoor
