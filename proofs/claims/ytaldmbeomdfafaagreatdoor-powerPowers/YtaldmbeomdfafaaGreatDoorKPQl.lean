import Derived.Test.YtaldmbeomdfafaaGreatDoorKNPw
set_option maxHeartbeats 2000000
set_option maxRecDepth 20000
namespace Go.Proofs.YtaldmbeomdfafaaGreatDoor
open Go.RowKit
set_option linter.unusedVariables false

def iF (z:Int):Int:=infS (decide (z < 0)) z.natAbs
def vF (z:Int):Int:=Iv (fN (decide (z < 0)) z.natAbs) (fM z.natAbs)
theorem iF_fin (z:Int) (h:-9218868437227405312 < z∧z < 9218868437227405312):iF z = 0∧vF z = vZ z:=by
 have c:z.natAbs≠9218868437227405312:=by omega
 unfold iF vF
 exact ⟨(infS_zero _ _).2 c,by unfold fN fM;rw [if_neg c,if_neg c];rfl⟩
theorem iF_I:iF 9218868437227405312 = 1∧vF 9218868437227405312 = 0:=by
 unfold iF vF infS fN fM
 refine ⟨by decide, ?_⟩
 rw [if_pos (by decide),if_pos (by decide)];exact iv_ff
theorem iF_MI:iF (-9218868437227405312) = -1∧vF (-9218868437227405312) = 0:=by
 unfold iF vF infS fN fM
 refine ⟨by decide, ?_⟩
 rw [if_pos (by decide),if_pos (by decide)];exact iv_ff
def V3 (k:Nat) (z:Int):Int:=if iF z = 0 then vF z ^ k else vF z
def C3 (K k:Nat) (z:Int):Nat:=if iF z = 0 then (2 ^ K) ^ k else 2 ^ K
theorem V3_fin (K k:Nat) (z:Int) (h:-9218868437227405312 < z∧z < 9218868437227405312):V3 k z = vZ z ^ k∧C3 K k z = (2 ^ K) ^ k:=by
 have e:=iF_fin z h
 unfold V3 C3
 rw [if_pos e.1,if_pos e.1,e.2]
 exact ⟨rfl,rfl⟩
theorem ipow_pos (x:Int) (k:Nat) (h:0 < x):0 < x ^ k:=by
 induction k with
 | zero=>simp
 | succ j ih=>rw [Int.pow_succ];exact Int.mul_pos ih h
theorem ipow_z (x:Int) (k:Nat) (h:x ^ k = 0):x = 0:=by
 induction k with
 | zero=>simp at h
 | succ j ih =>
   rw [Int.pow_succ] at h
   rcases Int.mul_eq_zero.1 h with c | c
   ·exact ih c
   ·exact c
theorem ipow_ng (x:Int) (k:Nat) (h:x < 0) (o:k % 2 = 1):x ^ k < 0:=by
 have e:∀ (x:Int) (k:Nat),(-x) ^ k = if k % 2 = 1 then -(x ^ k) else x ^ k:=by
  intro x k
  induction k with
  | zero=>simp
  | succ j ih =>
    rw [Int.pow_succ,Int.pow_succ,ih]
    by_cases c:j % 2 = 1
    ·rw [if_pos c,if_neg (by omega)];simp [Int.mul_neg,Int.neg_mul]
    ·rw [if_neg c,if_pos (by omega)];simp [Int.mul_neg]
 have p:=ipow_pos (-x) k (by omega)
 rw [e,if_pos o] at p
 omega
theorem vZ_p (z:Int) (h:0 < z):0 < vZ z:=by have:=vZ_lt7 0 z h;rw [vZ_0] at this;exact this
theorem vZ_n (z:Int) (h:z < 0):vZ z < 0:=by have:=vZ_lt7 z 0 h;rw [vZ_0] at this;exact this
theorem g53_mv (d:Int) (c1 c2 t:Nat) (ht:0 < t) (V:Int):g53 d c1 c2 (V * (t:Int)) = g53 d (c1 * t) c2 V:=by
 unfold g53 gpl
 have hp:(0:Int) < (t:Int):=by omega
 have e:(V * (t:Int)).natAbs * c1 = V.natAbs * (c1 * t):=by
  rw [Int.natAbs_mul,Int.natAbs_natCast,Nat.mul_assoc,Nat.mul_comm t c1]
 by_cases z:V = 0
 ·rw [z,Int.zero_mul,if_pos rfl,if_pos rfl]
 ·rw [if_neg (fun h=>by rcases Int.mul_eq_zero.1 h with h | h <;> omega),if_neg z,e]
  by_cases n:V < 0
  ·rw [if_pos (Int.mul_neg_of_neg_of_pos n hp),if_pos n]
  ·have:=Int.mul_nonneg (show 0≤V by omega) (Int.le_of_lt hp)
   rw [if_neg (by omega),if_neg n]
theorem g53_0 (d:Int) (c1 c2:Nat):g53 d c1 c2 0 = 0:=by unfold g53 gpl;rw [if_pos rfl]
theorem pwk (K k:Nat) (hk:0 < k):(2 ^ K) ^ k = 2 ^ (K * (k - 1)) * 2 ^ K:=by
 rw [← Nat.pow_mul,← Nat.pow_add]
 congr 1
 obtain ⟨j,rfl⟩:∃ j,k = j + 1:=⟨k - 1,by omega⟩
 rw [Nat.add_sub_cancel,Nat.mul_add,Nat.mul_one]
theorem up_fin (K k:Nat) (hk:0 < k) (d z:Int) (h:-9218868437227405312 < z∧z < 9218868437227405312):pz (g53 d (2 ^ K) (C3 K k z) (V3 k z)) = pw (pU K d k z):=by
 have e:=V3_fin K k z h
 rw [e.1,e.2,pz_pw]
 unfold pU
 rw [if_neg (by omega),if_neg (by omega),pwk K k hk]
 congr 1
 have q:=g53_mv d 1 (2 ^ (K * (k - 1)) * 2 ^ K) (2 ^ K) (Nat.two_pow_pos K) (vZ z ^ k)
 rw [Nat.one_mul] at q
 rw [← q]
 exact g53_scale d 1 (2 ^ (K * (k - 1))) (2 ^ K) (Nat.two_pow_pos _) (Nat.two_pow_pos _) _
theorem dn_fin (K k:Nat) (d z s:Int) (h:-9218868437227405312 < z∧z < 9218868437227405312) (z0:z≠0) (hs:s = if z < 0∧k % 2 = 1 then -1 else 1):pz (g53 d (2 ^ K) (V3 k z).natAbs (s * (C3 K k z:Int))) = pw (pD K d k z):=by
 have e:=V3_fin K k z h
 rw [e.1,e.2,pz_pw]
 unfold pD
 rw [if_neg (by omega),if_neg z0,g53_mv d (2 ^ K) _ ((2 ^ K) ^ k) (Nat.pow_pos (Nat.two_pow_pos K)) s,Int.natAbs_pow,hs]
 congr 2
 rw [← Nat.pow_mul,← Nat.pow_add]
 congr 1
 rw [Nat.mul_add];omega
theorem pos_lo (K k:Nat) (hk:0 < k) (x:Int) (hx:BdZ x) (n:x≠9218868437227405312) (o:x = -9218868437227405312→k % 2 = 1):(if iF x = 0 then pz (g53 (-1) (2 ^ K) (C3 K k x) (V3 k x)) else 18442240474082181120) = pw (pU K (-1) k x):=by
 by_cases c:x = -9218868437227405312
 ·have e:=iF_MI.1
  rw [← c] at e
  rw [e,if_neg (by decide)]
  unfold pU
  rw [if_neg n,if_pos c,if_pos (o c),pw_MI]
 ·have f:-9218868437227405312 < x∧x < 9218868437227405312:=by unfold BdZ at hx;omega
  rw [if_pos (iF_fin x f).1,up_fin K k hk (-1) x f]
theorem pos_hi (K k:Nat) (hk:0 < k) (y:Int) (hy:BdZ y) (n:y≠-9218868437227405312):(if iF y = 0 then pz (g53 1 (2 ^ K) (C3 K k y) (V3 k y)) else 9218868437227405312) = pw (pU K 1 k y):=by
 by_cases c:y = 9218868437227405312
 ·have e:=iF_I.1
  rw [← c] at e
  rw [e,if_neg (by decide)]
  unfold pU
  rw [if_pos c,pw_I]
 ·have f:-9218868437227405312 < y∧y < 9218868437227405312:=by unfold BdZ at hy;omega
  rw [if_pos (iF_fin y f).1,up_fin K k hk 1 y f]
theorem V3_zero (k:Nat) (hk:0 < k) (x:Int) (f:-9218868437227405312 < x∧x < 9218868437227405312):V3 k x = 0 ↔ x = 0:=by
 rw [(V3_fin 0 k x f).1]
 constructor
 ·intro h
  have h2:=ipow_z _ _ h
  rcases Int.lt_trichotomy x 0 with c | c | c
  ·have:=vZ_n x c;omega
  ·exact c
  ·have:=vZ_p x c;omega
 ·intro h
  rw [h,vZ_0]
  obtain ⟨j,rfl⟩:∃ j,k = j + 1:=⟨k - 1,by omega⟩
  rw [Int.pow_succ,Int.mul_zero]
theorem V3_pos (k:Nat) (x:Int) (f:-9218868437227405312 < x∧x < 9218868437227405312) (h:0 < x):0 < V3 k x:=by
 rw [(V3_fin 0 k x f).1];exact ipow_pos _ k (vZ_p x h)
theorem V3_neg (k:Nat) (o:k % 2 = 1) (x:Int) (f:-9218868437227405312 < x∧x < 9218868437227405312) (h:x < 0):V3 k x < 0:=by
 rw [(V3_fin 0 k x f).1];exact ipow_ng _ k (vZ_n x h) o
theorem inv_lo (K k:Nat) (d y:Int) (hy:BdZ y) (h:0 < y):pz (g53 d (2 ^ K) (if iF y = 0 then (V3 k y).natAbs else 1) (if iF y = 0 then (C3 K k y:Int) else 0)) = pw (pD K d k y):=by
 by_cases c:y = 9218868437227405312
 ·have e:=iF_I.1
  rw [← c] at e
  rw [e,if_neg (by decide),if_neg (by decide),g53_0,pz_pw]
  unfold pD
  rw [if_pos (Or.inl c)]
 ·have f:-9218868437227405312 < y∧y < 9218868437227405312:=by unfold BdZ at hy;omega
  rw [if_pos (iF_fin y f).1,if_pos (iF_fin y f).1]
  have q:=dn_fin K k d y 1 f (by omega) (by rw [if_neg (by omega)])
  rw [Int.one_mul] at q
  exact q
theorem inv_hi (K k:Nat) (hk:0 < k) (x:Int) (f:-9218868437227405312 < x∧x < 9218868437227405312) (h:0≤x):(if (if V3 k x = 0 then (1:Int) else 0) = 0 then pz (g53 1 (2 ^ K) (if V3 k x = 0 then 1 else (V3 k x).natAbs) (if V3 k x = 0 then 0 else (C3 K k x:Int))) else 9218868437227405312) = pw (pD K 1 k x):=by
 by_cases c:x = 0
 ·have e:=(V3_zero k hk x f).2 c
  rw [if_pos e,if_neg (by decide)]
  unfold pD
  rw [if_neg (by omega),if_pos c,pw_I]
 ·have e:¬ V3 k x = 0:=fun h=>c ((V3_zero k hk x f).1 h)
  rw [if_neg e,if_neg e,if_neg e,if_pos rfl]
  have q:=dn_fin K k 1 x 1 f c (by rw [if_neg (by omega)])
  rw [Int.one_mul] at q
  exact q
theorem inm_lo (K k:Nat) (hk:0 < k) (o:k % 2 = 1) (y:Int) (f:-9218868437227405312 < y∧y < 9218868437227405312) (h:y≤0):(if (if V3 k y = 0 then (-1:Int) else 0) = 0 then pz (g53 (-1) (2 ^ K) (if V3 k y = 0 then 1 else (V3 k y).natAbs) (if V3 k y = 0 then 0 else -(C3 K k y:Int))) else 18442240474082181120) = (if y = 0 then 18442240474082181120 else pw (pD K (-1) k y)):=by
 by_cases c:y = 0
 ·have e:=(V3_zero k hk y f).2 c
  rw [if_pos e,if_neg (by decide),if_pos c]
 ·have e:¬ V3 k y = 0:=fun h=>c ((V3_zero k hk y f).1 h)
  rw [if_neg e,if_neg e,if_neg e,if_pos rfl,if_neg c]
  have q:=dn_fin K k (-1) y (-1) f c (by rw [if_pos ⟨by omega,o⟩])
  rw [Int.neg_one_mul] at q
  exact q
theorem inm_hi (K k:Nat) (o:k % 2 = 1) (x:Int) (hx:BdZ x) (h:x < 0):pz (g53 1 (2 ^ K) (if iF x = 0 then (V3 k x).natAbs else 1) (if iF x = 0 then -(C3 K k x:Int) else 0)) = pw (pD K 1 k x):=by
 by_cases c:x = -9218868437227405312
 ·have e:=iF_MI.1
  rw [← c] at e
  rw [e,if_neg (by decide),if_neg (by decide),g53_0,pz_pw]
  unfold pD
  rw [if_pos (Or.inr c)]
 ·have f:-9218868437227405312 < x∧x < 9218868437227405312:=by unfold BdZ at hx;omega
  rw [if_pos (iF_fin x f).1,if_pos (iF_fin x f).1]
  have q:=dn_fin K k 1 x (-1) f (by omega) (by rw [if_pos ⟨h,o⟩])
  rw [Int.neg_one_mul] at q
  exact q
set_option linter.unusedVariables false
set_option linter.unusedVariables false

theorem XP.ez {base:Nat} {w:World} {s:Bool} {p:Option Addr} {l c:Nat} {q:Option Addr} {k d:Nat} {V:Int} {N K:Nat} (hK:K = 1074) (hN:N≤4194304) (z:Int) (hz:-9218868437227405312 < z∧z < 9218868437227405312) (e:V = vZ z) (h:XP base w s p l c q k d V (2 ^ K) N):QP base w s p l c q k d (fun _=>pw z):=by
 obtain ⟨a,b,h1,h2,hx⟩:=h
 obtain ⟨f1,f0,f3,f4,f5⟩:=hx
 refine ⟨a,b,h1,h2,f1,by omega,by omega,fun dd=>?_⟩
 have hs:sumW dd V = pw z:=by
  rw [e]
  show sumW dd (Iv (decide (z < 0)) z.natAbs) = _
  rw [sumW_exact dd _ _ (by omega)]
  exact pla_pw z (by unfold BdZ;omega)
 show _ = pw z
 rw [← hs]
 refine ratio_sum dd V a b a b K s hK f1 ⟨f1,Iff.rfl,fun d' p' t' _=>by rw [Int.add_zero],by omega,by omega⟩ ?_ s (fun _=>rfl) ?_
 ·have k:=congrArg Int.natAbs f3
  rw [Int.natAbs_mul,Int.natAbs_mul,Int.natAbs_natCast,Int.natAbs_natCast,show (rvI s a).natAbs = a from by unfold rvI;cases s <;> simp] at k
  exact k
 ·intro hV
  have hb:(0:Int) < (b:Int):=by omega
  have hc:(0:Int) < ((2 ^ K:Nat):Int):=by have:=Nat.two_pow_pos K;omega
  have ha:(0:Int)≤(a:Int) * ((2 ^ K:Nat):Int):=Int.mul_nonneg (by omega) (Int.le_of_lt hc)
  by_cases c:V < 0
  ·rw [decide_eq_true c]
   cases s
   ·exfalso
    have e9:(a:Int) * ((2 ^ K:Nat):Int) = V * (b:Int):=by rw [← f3];unfold rvI;simp
    have:=Int.mul_neg_of_neg_of_pos c hb
    omega
   ·rfl
  ·rw [decide_eq_false c]
   cases s
   ·rfl
   ·exfalso
    have e9:-((a:Int) * ((2 ^ K:Nat):Int)) = V * (b:Int):=by rw [← f3];unfold rvI;simp [Int.neg_mul]
    have:=Int.mul_pos (show 0 < V by omega) hb
    omega
theorem vZ_1 (K:Nat) (hK:K = 1074):vZ 4607182418800017408 = ((2 ^ K:Nat):Int):=by
 rw [vZ_pos _ (by omega),show (4607182418800017408:Int).natAbs = 4607182418800017408 from rfl,vV_one K hK]
theorem magnK_ (i S9:Int) s p l c q k d (t:¬ (S9 < 0)) (w:World) (hs:∀ W:World,Kp w W→Calls Tryz.prog 130 #[.agg #[.int .i64 i,.bool s,.slice p l c,.slice q k d]] W fun e w'=>e = .returned (.int .i64 S9)∧Kp W w'):Calls Tryz.prog 128 #[.agg #[.int .i64 i,.bool s,.slice p l c,.slice q k d]] w fun e w'=>e = .returned (.agg #[.int .i64 i,.bool s,.slice p l c,.slice q k d])∧Kp w w':=by
 go_enter Tryz.func128,Tryz.ntmps128
 go_wp2_with (first | (go_at_call 130;refine (hs _ (((Kp.refl w).alloc _).alloc _)).mono ?_;rintro e w1 ⟨rfl,g1⟩;have k1:Kp w w1:=Kp.trans (((Kp.refl w).alloc _).alloc _) g1;obtain ⟨x0,xz0,x1,xz1,x2,xz2,x3,xz3⟩:=FK4 g1 (w.heap.size) (.int .i64 i) (.bool s) (.slice p l c) (.slice q k d) (by simp [go_sem]);obtain ⟨r0,rz0,r1,rz1,r2,rz2,r3,rz3⟩:=FK4 g1 (w.heap.size + 1) (.int .i64 0) (.bool false) (.slice none 0 0) (.slice none 0 0) (by simp [go_sem])))
 exact bodyPost_ret (v:=.agg #[.int .i64 i,.bool s,.slice p l c,.slice q k d]) (by simp [results,Tryz.results128,go_sem,r0,r1,r2,r3]) rfl ⟨rfl,KS4 (k1) (by first | omega | (simp <;> omega))⟩
theorem magnZ_ (S9:Int) (N:Bool) (M:Nat) s p l c q k d (t:S9 < 0) (w:World) (hs:∀ W:World,Kp w W→Calls Tryz.prog 130 #[.agg #[.int .i64 0,.bool s,.slice p l c,.slice q k d]] W fun e w'=>e = .returned (.int .i64 S9)∧Kp W w') (hN:∀ W:World,Kp w W→Calls Tryz.prog 34 #[.agg #[.bool s,.slice p l c,.slice q k d]] W fun e w'=>∃ s2 p2 l2 c2 q2 k2 d2,e = .returned (.agg #[.bool s2,.slice p2 l2 c2,.slice q2 k2 d2])∧RP W.heap.size w' s2 p2 l2 c2 q2 k2 d2 N M∧Kp W w'):Calls Tryz.prog 128 #[.agg #[.int .i64 0,.bool s,.slice p l c,.slice q k d]] w fun e w'=>∃ s2 p2 l2 c2 q2 k2 d2,e = .returned (.agg #[.int .i64 0,.bool s2,.slice p2 l2 c2,.slice q2 k2 d2])∧RP w.heap.size w' s2 p2 l2 c2 q2 k2 d2 N M∧Kp w w':=by
 go_enter Tryz.func128,Tryz.ntmps128
 go_wp2_with (first | (go_at_call 130;refine (hs _ (((Kp.refl w).alloc _).alloc _)).mono ?_;rintro e w1 ⟨rfl,g1⟩;have k1:Kp w w1:=Kp.trans (((Kp.refl w).alloc _).alloc _) g1;obtain ⟨x0,xz0,x1,xz1,x2,xz2,x3,xz3⟩:=FK4 g1 (w.heap.size) (.int .i64 0) (.bool s) (.slice p l c) (.slice q k d) (by simp [go_sem]);obtain ⟨r0,rz0,r1,rz1,r2,rz2,r3,rz3⟩:=FK4 g1 (w.heap.size + 1) (.int .i64 0) (.bool false) (.slice none 0 0) (.slice none 0 0) (by simp [go_sem])))
 have hBW:w.heap.size + 1 < w1.heap.size:=cell_lt r0
 have hn1:w.heap.size + 1≠w.heap.size:=by omega
 have dw0:w1.drew.cell? ⟨w.heap.size,0,none⟩ = some (.int .i64 0):=x0
 have dw1:w1.drew.cell? ⟨w.heap.size,1,none⟩ = some (.bool s):=x1
 have dw2:w1.drew.cell? ⟨w.heap.size,2,none⟩ = some (.slice p l c):=x2
 have dw3:w1.drew.cell? ⟨w.heap.size,3,none⟩ = some (.slice q k d):=x3
 go_region_held3 (fun w'=>w'.cell? ⟨w.heap.size,0,none⟩ = some (.int .i64 0)∧w'.cell? ⟨w.heap.size,1,none⟩ = some (.bool s)∧w'.cell? ⟨w.heap.size,2,none⟩ = some (.slice p l c)∧w'.cell? ⟨w.heap.size,3,none⟩ = some (.slice q k d)) (first | (with_reducible exact ⟨x0,x1,x2,x3⟩) | (with_reducible exact ⟨dw0,dw1,dw2,dw3⟩) | (with_reducible exact ⟨aw0,aw1,aw2,aw3⟩) | (exact ⟨(CF4 hn1 aw0),(CF4 hn1 aw1),(CF4 hn1 aw2),(CF4 hn1 aw3)⟩)) (first | (go_at_call 34;refine (hN _ ?q0).mono ?_;(case q0=>exact k1.drew);rintro e wl ⟨s2,p2,l2,c2,q2,k2,d2,rfl,hp,gl⟩;have kl:Kp w1 wl:=Kp.trans (Kp.drew (Kp.refl _)) gl;have aw0:=kkeep kl x0;have aw1:=kkeep kl x1;have aw2:=kkeep kl x2;have aw3:=kkeep kl x3;obtain ⟨R0,Rz0,R1,Rz1,R2,Rz2,R3,Rz3⟩:=AK4 kl ⟨r0,rz0,r1,rz1,r2,rz2,r3,rz3⟩))
 go_wp2
 have hle:w.heap.size≤w1.heap.size:=by omega
 exact bodyPost_ret (v:=.agg #[.int .i64 0,.bool s2,.slice p2 l2 c2,.slice q2 k2 d2]) (by simp [results,Tryz.results128,go_sem,R0,R1,R2,R3] <;> decide +kernel) rfl ⟨s2,p2,l2,c2,q2,k2,d2,rfl,RP.mono ((((((hp.mono (base':=w1.heap.size) (Nat.le_refl _))).set (x:=⟨w.heap.size + 1,0,none⟩) hBW (.int .i64 0)).set (x:=⟨w.heap.size + 1,1,none⟩) hBW (.bool s2)).set (x:=⟨w.heap.size + 1,2,none⟩) hBW (.slice p2 l2 c2)).set (x:=⟨w.heap.size + 1,3,none⟩) hBW (.slice q2 k2 d2)) hle,KS4 ((Kp.trans k1 kl)) (by first | omega | (simp <;> omega))⟩
theorem magnM_ (S9:Int) (N:Bool) (M:Nat) s p l c q k d (t:S9 < 0) (w:World) (hs:∀ W:World,Kp w W→Calls Tryz.prog 130 #[.agg #[.int .i64 (-1),.bool s,.slice p l c,.slice q k d]] W fun e w'=>e = .returned (.int .i64 S9)∧Kp W w') (hN:∀ W:World,Kp w W→Calls Tryz.prog 34 #[.agg #[.bool s,.slice p l c,.slice q k d]] W fun e w'=>∃ s2 p2 l2 c2 q2 k2 d2,e = .returned (.agg #[.bool s2,.slice p2 l2 c2,.slice q2 k2 d2])∧RP W.heap.size w' s2 p2 l2 c2 q2 k2 d2 N M∧Kp W w'):Calls Tryz.prog 128 #[.agg #[.int .i64 (-1),.bool s,.slice p l c,.slice q k d]] w fun e w'=>∃ s2 p2 l2 c2 q2 k2 d2,e = .returned (.agg #[.int .i64 1,.bool s2,.slice p2 l2 c2,.slice q2 k2 d2])∧RP w.heap.size w' s2 p2 l2 c2 q2 k2 d2 N M∧Kp w w':=by
 go_enter Tryz.func128,Tryz.ntmps128
 go_wp2_with (first | (go_at_call 130;refine (hs _ (((Kp.refl w).alloc _).alloc _)).mono ?_;rintro e w1 ⟨rfl,g1⟩;have k1:Kp w w1:=Kp.trans (((Kp.refl w).alloc _).alloc _) g1;obtain ⟨x0,xz0,x1,xz1,x2,xz2,x3,xz3⟩:=FK4 g1 (w.heap.size) (.int .i64 (-1)) (.bool s) (.slice p l c) (.slice q k d) (by simp [go_sem]);obtain ⟨r0,rz0,r1,rz1,r2,rz2,r3,rz3⟩:=FK4 g1 (w.heap.size + 1) (.int .i64 0) (.bool false) (.slice none 0 0) (.slice none 0 0) (by simp [go_sem])))
 have hBW:w.heap.size + 1 < w1.heap.size:=cell_lt r0
 have hn1:w.heap.size + 1≠w.heap.size:=by omega
 have dw0:w1.drew.cell? ⟨w.heap.size,0,none⟩ = some (.int .i64 (-1)):=x0
 have dw1:w1.drew.cell? ⟨w.heap.size,1,none⟩ = some (.bool s):=x1
 have dw2:w1.drew.cell? ⟨w.heap.size,2,none⟩ = some (.slice p l c):=x2
 have dw3:w1.drew.cell? ⟨w.heap.size,3,none⟩ = some (.slice q k d):=x3
 go_region_held3 (fun w'=>w'.cell? ⟨w.heap.size,0,none⟩ = some (.int .i64 (-1))∧w'.cell? ⟨w.heap.size,1,none⟩ = some (.bool s)∧w'.cell? ⟨w.heap.size,2,none⟩ = some (.slice p l c)∧w'.cell? ⟨w.heap.size,3,none⟩ = some (.slice q k d)) (first | (with_reducible exact ⟨x0,x1,x2,x3⟩) | (with_reducible exact ⟨dw0,dw1,dw2,dw3⟩) | (with_reducible exact ⟨aw0,aw1,aw2,aw3⟩) | (exact ⟨(CF4 hn1 aw0),(CF4 hn1 aw1),(CF4 hn1 aw2),(CF4 hn1 aw3)⟩)) (first | (go_at_call 34;refine (hN _ ?q0).mono ?_;(case q0=>exact k1.drew);rintro e wl ⟨s2,p2,l2,c2,q2,k2,d2,rfl,hp,gl⟩;have kl:Kp w1 wl:=Kp.trans (Kp.drew (Kp.refl _)) gl;have aw0:=kkeep kl x0;have aw1:=kkeep kl x1;have aw2:=kkeep kl x2;have aw3:=kkeep kl x3;obtain ⟨R0,Rz0,R1,Rz1,R2,Rz2,R3,Rz3⟩:=AK4 kl ⟨r0,rz0,r1,rz1,r2,rz2,r3,rz3⟩))
 go_wp2
 have hle:w.heap.size≤w1.heap.size:=by omega
 exact bodyPost_ret (v:=.agg #[.int .i64 1,.bool s2,.slice p2 l2 c2,.slice q2 k2 d2]) (by simp [results,Tryz.results128,go_sem,R0,R1,R2,R3] <;> decide +kernel) rfl ⟨s2,p2,l2,c2,q2,k2,d2,rfl,RP.mono ((((((hp.mono (base':=w1.heap.size) (Nat.le_refl _))).set (x:=⟨w.heap.size + 1,0,none⟩) hBW (.int .i64 1)).set (x:=⟨w.heap.size + 1,1,none⟩) hBW (.bool s2)).set (x:=⟨w.heap.size + 1,2,none⟩) hBW (.slice p2 l2 c2)).set (x:=⟨w.heap.size + 1,3,none⟩) hBW (.slice q2 k2 d2)) hle,KS4 ((Kp.trans k1 kl)) (by first | omega | (simp <;> omega))⟩

theorem mag7_ (n:Bool) (m:Nat) (hm:m≤9218868437227405312) (z:n = true→m≠0) s p l c q k d (B1:Nat) (w:World) (h:RP B1 w s p l c q k d (fN n m) (fM m)) (W:World) (g:Kp w W):Calls Tryz.prog 128 #[.agg #[.int .i64 (infS n m),.bool s,.slice p l c,.slice q k d]] W fun e w'=>∃ s3 p3 l3 c3 q3 k3 d3,e = .returned (.agg #[.int .i64 (infS false m),.bool s3,.slice p3 l3 c3,.slice q3 k3 d3])∧RP 0 w' s3 p3 l3 c3 q3 k3 d3 (fN false m) (fM m)∧(∀ b,w.heap.size≤b→b < W.heap.size→NB p3 q3 b)∧Kp W w':=by
 have hs:=fun (V:World) (y:Kp W V)=>signE_ n m s p l c q k d B1 V ((h.kp g).kp y)
 have hN:=fun (V:World) (y:Kp W V)=>rneg6_ (fN n m) (fM m) s p l c q k d B1 V ((h.kp g).kp y)
 have P1:Fq.plz n m = if n then -(m:Int) else m:=by unfold Fq.plz;cases n <;> rfl
 cases n with
 | false =>
   have t:¬ (cmI (Fq.plz false m) 0 < 0):=by
    rw [P1];unfold cmI;simp;split <;> first | omega | decide
   refine (magnK_ _ _ s p l c q k d t W hs).mono ?_
   rintro e w' ⟨rfl,g2⟩
   exact ⟨s,p,l,c,q,k,d,rfl,((h.kp g).kp g2).mono (Nat.zero_le _),fun b h1 _=>h.nbNew h1,g2⟩
 | true =>
   have hm0:=z rfl
   have t:cmI (Fq.plz true m) 0 < 0:=by
    rw [P1,cmI_lt _ _ (by simp;omega)];decide
   have fin:∀ i j:Int,i = infS true m→j = infS false m→(Calls Tryz.prog 128 #[.agg #[.int .i64 i,.bool s,.slice p l c,.slice q k d]] W fun e w'=>∃ s2 p2 l2 c2 q2 k2 d2,e = .returned (.agg #[.int .i64 j,.bool s2,.slice p2 l2 c2,.slice q2 k2 d2])∧RP W.heap.size w' s2 p2 l2 c2 q2 k2 d2 (!(fN true m)) (fM m)∧Kp W w')→Calls Tryz.prog 128 #[.agg #[.int .i64 (infS true m),.bool s,.slice p l c,.slice q k d]] W fun e w'=>∃ s3 p3 l3 c3 q3 k3 d3,e = .returned (.agg #[.int .i64 (infS false m),.bool s3,.slice p3 l3 c3,.slice q3 k3 d3])∧RP 0 w' s3 p3 l3 c3 q3 k3 d3 (fN false m) (fM m)∧(∀ b,w.heap.size≤b→b < W.heap.size→NB p3 q3 b)∧Kp W w':=by
    rintro i j rfl rfl hh
    refine hh.mono ?_
    rintro e w' ⟨s2,p2,l2,c2,q2,k2,d2,rfl,hp,g2⟩
    refine ⟨s2,p2,l2,c2,q2,k2,d2,rfl, ?_,fun b _ h2=>hp.nbLow h2,g2⟩
    have hp:=hp.mono (Nat.zero_le _)
    unfold fN at hp ⊢
    by_cases ci:m = 9218868437227405312
    ·rw [if_pos ci] at hp ⊢
     have e0:fM m = 0:=by unfold fM;rw [if_pos ci]
     rw [e0] at hp ⊢
     exact hp.nought _
    ·rw [if_neg ci] at hp ⊢
     exact hp
   by_cases ci:m = 9218868437227405312
   ·exact fin (-1) 1 (by rw [ci];rfl) (by rw [ci];rfl) (magnM_ _ _ _ s p l c q k d t W (by have e:infS true m = -1:=(by unfold infS;simp [ci]);rw [e] at hs;exact hs) hN)
   ·exact fin 0 0 (by unfold infS;simp [ci]) (by unfold infS;simp [ci]) (magnZ_ _ _ _ s p l c q k d t W (by have e:infS true m = 0:=(by unfold infS;simp [ci]);rw [e] at hs;exact hs) hN)
set_option linter.unusedVariables false
theorem sizeN1_ (i j i3 i5 C S1 S2:Int) (N3 N5:Bool) (M3 M5:Nat) s p l c q k d s2 p2 l2 c2 q2 k2 d2 (tc:¬ (0 < C)) (t1:¬ (S1≤0)) (w:World) (hM1:∀ W:World,Kp w W→Calls Tryz.prog 128 #[.agg #[.int .i64 i,.bool s,.slice p l c,.slice q k d]] W fun e w'=>∃ s3 p3 l3 c3 q3 k3 d3,e = .returned (.agg #[.int .i64 i3,.bool s3,.slice p3 l3 c3,.slice q3 k3 d3])∧RP 0 w' s3 p3 l3 c3 q3 k3 d3 N3 M3∧(∀ b,w.heap.size≤b→b < W.heap.size→NB p3 q3 b)∧Kp W w') (hM2:∀ W:World,Kp w W→Calls Tryz.prog 128 #[.agg #[.int .i64 j,.bool s2,.slice p2 l2 c2,.slice q2 k2 d2]] W fun e w'=>∃ s5 p5 l5 c5 q5 k5 d5,e = .returned (.agg #[.int .i64 i5,.bool s5,.slice p5 l5 c5,.slice q5 k5 d5])∧RP 0 w' s5 p5 l5 c5 q5 k5 d5 N5 M5∧(∀ b,w.heap.size≤b→b < W.heap.size→NB p5 q5 b)∧Kp W w') (hC:∀ (W:World) s3 p3 l3 c3 q3 k3 d3 s5 p5 l5 c5 q5 k5 d5,RP 0 W s3 p3 l3 c3 q3 k3 d3 N3 M3→RP 0 W s5 p5 l5 c5 q5 k5 d5 N5 M5→Calls Tryz.prog 129 #[.agg #[.int .i64 i3,.bool s3,.slice p3 l3 c3,.slice q3 k3 d3],.agg #[.int .i64 i5,.bool s5,.slice p5 l5 c5,.slice q5 k5 d5]] W fun e w'=>e = .returned (.int .i64 C)∧Kp W w') (hS1:∀ W:World,Kp w W→Calls Tryz.prog 130 #[.agg #[.int .i64 i,.bool s,.slice p l c,.slice q k d]] W fun e w'=>e = .returned (.int .i64 S1)∧Kp W w') (hS2:∀ W:World,Kp w W→Calls Tryz.prog 130 #[.agg #[.int .i64 j,.bool s2,.slice p2 l2 c2,.slice q2 k2 d2]] W fun e w'=>e = .returned (.int .i64 S2)∧Kp W w') (hF:∀ W:World,Calls Tryz.prog 92 #[.int .i64 0] W fun e w'=>∃ s7 p7 l7 c7 q7 k7 d7,e = .returned (.agg #[.int .i64 0,.bool s7,.slice p7 l7 c7,.slice q7 k7 d7])∧RP W.heap.size w' s7 p7 l7 c7 q7 k7 d7 false 0∧Kp W w'):Calls Tryz.prog 96 #[.agg #[.bool false,.int .i64 i,.bool s,.slice p l c,.slice q k d,.int .i64 j,.bool s2,.slice p2 l2 c2,.slice q2 k2 d2]] w fun e w'=>SzQ i3 i5 N3 M3 N5 M5 e w'∧Kp w w':=by
 go_enter Tryz.func96,Tryz.ntmps96
 go_upto_region 5 with (first | (go_at_call_of 128 (Value.bool s);refine (hM1 _ (((Kp.refl w).alloc _).alloc _)).mono ?_;rintro e w1 ⟨s3,p3,l3,c3,q3,k3,d3,rfl,hp3,nb3,g1⟩;have k1:Kp w w1:=Kp.trans (((Kp.refl w).alloc _).alloc _) g1;have S1:=H9c.keep (H9c.keep (H9c.new w (.bool false) (.int .i64 i) (.bool s) (.slice p l c) (.slice q k d) (.int .i64 j) (.bool s2) (.slice p2 l2 c2) (.slice q2 k2 d2) 74) ((Kp.refl _).alloc (.cells #[.bool false,.int .i64 0,.bool false,.slice none 0 0,.slice none 0 0,.int .i64 0,.bool false,.slice none 0 0,.slice none 0 0] 74))) g1;have R1:=H9c.keep (H9c.new (w.alloc (.cells #[.bool false,.int .i64 i,.bool s,.slice p l c,.slice q k d,.int .i64 j,.bool s2,.slice p2 l2 c2,.slice q2 k2 d2] 74)) (.bool false) (.int .i64 0) (.bool false) (.slice none 0 0) (.slice none 0 0) (.int .i64 0) (.bool false) (.slice none 0 0) (.slice none 0 0) 74) g1;have y5:=fun o=>(H9c.keep S1 ((Kp.refl w1).alloc o)).2.2.2.2.2.1;have y6:=fun o=>(H9c.keep S1 ((Kp.refl w1).alloc o)).2.2.2.2.2.2.1;have y7:=fun o=>(H9c.keep S1 ((Kp.refl w1).alloc o)).2.2.2.2.2.2.2.1;have y8:=fun o=>(H9c.keep S1 ((Kp.refl w1).alloc o)).2.2.2.2.2.2.2.2.1) | (go_at_call_of 128 (Value.bool s2);refine (hM2 _ (k1.alloc _)).mono ?_;rintro e w2 ⟨s5,p5,l5,c5,q5,k5,d5,rfl,hp5,nb5,g2⟩))
 have K12:Kp w1 w2:=Kp.trans ((Kp.refl w1).alloc _) g2
 have KQ:Kp w2 (w2.alloc (.cells #[.int .i64 i5,.bool s5,.slice p5 l5 c5,.slice q5 k5 d5] 72)):=(Kp.refl w2).alloc _
 have lR:=S1.lt
 have lR':=R1.lt
 have l12:=Below.size K12
 have lP:w1.heap.size < w2.heap.size:=(H4c.keep (H4c.new w1 (.int .i64 i3) (.bool s3) (.slice p3 l3 c3) (.slice q3 k3 d3) 72) g2).lt
 have SS:=H9c.keep (H9c.keep S1 K12) KQ
 have RR:=H9c.keep (H9c.keep R1 K12) KQ
 have PP:=H4c.keep (H4c.keep (H4c.new w1 (.int .i64 i3) (.bool s3) (.slice p3 l3 c3) (.slice q3 k3 d3) 72) g2) KQ
 have QQ:=H4c.new w2 (.int .i64 i5) (.bool s5) (.slice p5 l5 c5) (.slice q5 k5 d5) 72
 have nR3:NB p3 q3 (w.heap.size + 1):=nb3 _ (by omega) (by simp)
 have nP3:NB p3 q3 w1.heap.size:=hp3.nbNew (Nat.le_refl _)
 have nQ3:NB p3 q3 w2.heap.size:=hp3.nbNew l12
 have nR5:NB p5 q5 (w.heap.size + 1):=nb5 _ (by omega) (by simp;omega)
 have nP5:NB p5 q5 w1.heap.size:=nb5 _ (by omega) (by simp)
 have nQ5:NB p5 q5 w2.heap.size:=hp5.nbNew (Nat.le_refl _)
 replace hp3:=(hp3.kp K12).kp KQ
 replace hp5:=hp5.kp KQ
 have kW:=Kp.trans (Kp.trans k1 K12) KQ
 have hB1:(w.alloc (.cells #[.bool false,.int .i64 i,.bool s,.slice p l c,.slice q k d,.int .i64 j,.bool s2,.slice p2 l2 c2,.slice q2 k2 d2] 74)).heap.size = w.heap.size + 1:=by simp
 rw [hB1] at RR lR'
 generalize w2.alloc (.cells #[.int .i64 i5,.bool s5,.slice p5 l5 c5,.slice q5 k5 d5] 72) = W at SS RR PP QQ hp3 hp5 kW ⊢
 clear S1 R1 K12 KQ g2 g1 nb3 nb5 k1 y5 y6 y7 y8 hB1
 generalize w1.heap.size = bP at PP nP3 nP5 lP lR lR' ⊢
 generalize w2.heap.size = bQ at QQ nQ3 nQ5 lP ⊢
 obtain ⟨sc0,sc1,sc2,sc3,sc4,sc5,sc6,sc7,sc8,sz0,sz1,sz2,sz3,sz4,sz5,sz6,sz7,sz8⟩:=id SS;obtain ⟨rc0,rc1,rc2,rc3,rc4,rc5,rc6,rc7,rc8,rz0,rz1,rz2,rz3,rz4,rz5,rz6,rz7,rz8⟩:=id RR;obtain ⟨pc0,pc1,pc2,pc3,pz0,pz1,pz2,pz3⟩:=id PP;obtain ⟨qc0,qc1,qc2,qc3,qz0,qz1,qz2,qz3⟩:=id QQ
 go_wp2_with (first | (go_at_call 129;refine (hC _ s3 p3 l3 c3 q3 k3 d3 s5 p5 l5 c5 q5 k5 d5 hp3 hp5).mono ?_;rintro e wv ⟨rfl,gv⟩;replace kW:=Kp.trans kW gv;replace SS:=H9c.keep SS gv;replace RR:=H9c.keep RR gv;replace PP:=H4c.keep PP gv;replace QQ:=H4c.keep QQ gv;replace hp3:=hp3.kp gv;replace hp5:=hp5.kp gv;clear sc0 sc1 sc2 sc3 sc4 sc5 sc6 sc7 sc8 sz0 sz1 sz2 sz3 sz4 sz5 sz6 sz7 sz8 rc0 rc1 rc2 rc3 rc4 rc5 rc6 rc7 rc8 rz0 rz1 rz2 rz3 rz4 rz5 rz6 rz7 rz8 pc0 pc1 pc2 pc3 pz0 pz1 pz2 pz3 qc0 qc1 qc2 qc3 qz0 qz1 qz2 qz3;obtain ⟨sc0,sc1,sc2,sc3,sc4,sc5,sc6,sc7,sc8,sz0,sz1,sz2,sz3,sz4,sz5,sz6,sz7,sz8⟩:=id SS;obtain ⟨rc0,rc1,rc2,rc3,rc4,rc5,rc6,rc7,rc8,rz0,rz1,rz2,rz3,rz4,rz5,rz6,rz7,rz8⟩:=id RR;obtain ⟨pc0,pc1,pc2,pc3,pz0,pz1,pz2,pz3⟩:=id PP;obtain ⟨qc0,qc1,qc2,qc3,qz0,qz1,qz2,qz3⟩:=id QQ;clear gv) | (go_at_call_of 130 (Value.bool s);refine (hS1 _ kW).mono ?_;rintro e wv ⟨rfl,gv⟩;replace kW:=Kp.trans kW gv;replace SS:=H9c.keep SS gv;replace RR:=H9c.keep RR gv;replace PP:=H4c.keep PP gv;replace QQ:=H4c.keep QQ gv;replace hp3:=hp3.kp gv;replace hp5:=hp5.kp gv;clear sc0 sc1 sc2 sc3 sc4 sc5 sc6 sc7 sc8 sz0 sz1 sz2 sz3 sz4 sz5 sz6 sz7 sz8 rc0 rc1 rc2 rc3 rc4 rc5 rc6 rc7 rc8 rz0 rz1 rz2 rz3 rz4 rz5 rz6 rz7 rz8 pc0 pc1 pc2 pc3 pz0 pz1 pz2 pz3 qc0 qc1 qc2 qc3 qz0 qz1 qz2 qz3;obtain ⟨sc0,sc1,sc2,sc3,sc4,sc5,sc6,sc7,sc8,sz0,sz1,sz2,sz3,sz4,sz5,sz6,sz7,sz8⟩:=id SS;obtain ⟨rc0,rc1,rc2,rc3,rc4,rc5,rc6,rc7,rc8,rz0,rz1,rz2,rz3,rz4,rz5,rz6,rz7,rz8⟩:=id RR;obtain ⟨pc0,pc1,pc2,pc3,pz0,pz1,pz2,pz3⟩:=id PP;obtain ⟨qc0,qc1,qc2,qc3,qz0,qz1,qz2,qz3⟩:=id QQ;clear gv))
 exact bodyPost_ret (v:=.agg #[.bool false,.int .i64 i3,.bool s3,.slice p3 l3 c3,.slice q3 k3 d3,.int .i64 i5,.bool s5,.slice p5 l5 c5,.slice q5 k5 d5]) (by simp [results,Tryz.results96,go_sem,rc0,rc1,rc2,rc3,rc4,rc5,rc6,rc7,rc8]) rfl ⟨⟨s3,p3,l3,c3,q3,k3,d3,s5,p5,l5,c5,q5,k5,d5,rfl,(RP.setNe (RP.setNe (RP.setNe (RP.setNe (RP.setNe (RP.setNe (RP.setNe (RP.setNe (RP.setNe hp3 (x:=⟨w.heap.size + 1,0,none⟩) nR3 (.bool false)) (x:=⟨w.heap.size + 1,1,none⟩) nR3 (.int .i64 i3)) (x:=⟨w.heap.size + 1,2,none⟩) nR3 (.bool s3)) (x:=⟨w.heap.size + 1,3,none⟩) nR3 (.slice p3 l3 c3)) (x:=⟨w.heap.size + 1,4,none⟩) nR3 (.slice q3 k3 d3)) (x:=⟨w.heap.size + 1,5,none⟩) nR3 (.int .i64 i5)) (x:=⟨w.heap.size + 1,6,none⟩) nR3 (.bool s5)) (x:=⟨w.heap.size + 1,7,none⟩) nR3 (.slice p5 l5 c5)) (x:=⟨w.heap.size + 1,8,none⟩) nR3 (.slice q5 k5 d5)),(RP.setNe (RP.setNe (RP.setNe (RP.setNe (RP.setNe (RP.setNe (RP.setNe (RP.setNe (RP.setNe hp5 (x:=⟨w.heap.size + 1,0,none⟩) nR5 (.bool false)) (x:=⟨w.heap.size + 1,1,none⟩) nR5 (.int .i64 i3)) (x:=⟨w.heap.size + 1,2,none⟩) nR5 (.bool s3)) (x:=⟨w.heap.size + 1,3,none⟩) nR5 (.slice p3 l3 c3)) (x:=⟨w.heap.size + 1,4,none⟩) nR5 (.slice q3 k3 d3)) (x:=⟨w.heap.size + 1,5,none⟩) nR5 (.int .i64 i5)) (x:=⟨w.heap.size + 1,6,none⟩) nR5 (.bool s5)) (x:=⟨w.heap.size + 1,7,none⟩) nR5 (.slice p5 l5 c5)) (x:=⟨w.heap.size + 1,8,none⟩) nR5 (.slice q5 k5 d5))⟩,KS9 (kW) (by first | omega | (simp <;> omega))⟩
theorem sizeN2_ (i j i3 i5 C S1 S2:Int) (N3 N5:Bool) (M3 M5:Nat) s p l c q k d s2 p2 l2 c2 q2 k2 d2 (tc:¬ (0 < C)) (t1:S1≤0) (t2:¬ (0≤S2)) (w:World) (hM1:∀ W:World,Kp w W→Calls Tryz.prog 128 #[.agg #[.int .i64 i,.bool s,.slice p l c,.slice q k d]] W fun e w'=>∃ s3 p3 l3 c3 q3 k3 d3,e = .returned (.agg #[.int .i64 i3,.bool s3,.slice p3 l3 c3,.slice q3 k3 d3])∧RP 0 w' s3 p3 l3 c3 q3 k3 d3 N3 M3∧(∀ b,w.heap.size≤b→b < W.heap.size→NB p3 q3 b)∧Kp W w') (hM2:∀ W:World,Kp w W→Calls Tryz.prog 128 #[.agg #[.int .i64 j,.bool s2,.slice p2 l2 c2,.slice q2 k2 d2]] W fun e w'=>∃ s5 p5 l5 c5 q5 k5 d5,e = .returned (.agg #[.int .i64 i5,.bool s5,.slice p5 l5 c5,.slice q5 k5 d5])∧RP 0 w' s5 p5 l5 c5 q5 k5 d5 N5 M5∧(∀ b,w.heap.size≤b→b < W.heap.size→NB p5 q5 b)∧Kp W w') (hC:∀ (W:World) s3 p3 l3 c3 q3 k3 d3 s5 p5 l5 c5 q5 k5 d5,RP 0 W s3 p3 l3 c3 q3 k3 d3 N3 M3→RP 0 W s5 p5 l5 c5 q5 k5 d5 N5 M5→Calls Tryz.prog 129 #[.agg #[.int .i64 i3,.bool s3,.slice p3 l3 c3,.slice q3 k3 d3],.agg #[.int .i64 i5,.bool s5,.slice p5 l5 c5,.slice q5 k5 d5]] W fun e w'=>e = .returned (.int .i64 C)∧Kp W w') (hS1:∀ W:World,Kp w W→Calls Tryz.prog 130 #[.agg #[.int .i64 i,.bool s,.slice p l c,.slice q k d]] W fun e w'=>e = .returned (.int .i64 S1)∧Kp W w') (hS2:∀ W:World,Kp w W→Calls Tryz.prog 130 #[.agg #[.int .i64 j,.bool s2,.slice p2 l2 c2,.slice q2 k2 d2]] W fun e w'=>e = .returned (.int .i64 S2)∧Kp W w') (hF:∀ W:World,Calls Tryz.prog 92 #[.int .i64 0] W fun e w'=>∃ s7 p7 l7 c7 q7 k7 d7,e = .returned (.agg #[.int .i64 0,.bool s7,.slice p7 l7 c7,.slice q7 k7 d7])∧RP W.heap.size w' s7 p7 l7 c7 q7 k7 d7 false 0∧Kp W w'):Calls Tryz.prog 96 #[.agg #[.bool false,.int .i64 i,.bool s,.slice p l c,.slice q k d,.int .i64 j,.bool s2,.slice p2 l2 c2,.slice q2 k2 d2]] w fun e w'=>SzQ i3 i5 N3 M3 N5 M5 e w'∧Kp w w':=by
 go_enter Tryz.func96,Tryz.ntmps96
 go_upto_region 5 with (first | (go_at_call_of 128 (Value.bool s);refine (hM1 _ (((Kp.refl w).alloc _).alloc _)).mono ?_;rintro e w1 ⟨s3,p3,l3,c3,q3,k3,d3,rfl,hp3,nb3,g1⟩;have k1:Kp w w1:=Kp.trans (((Kp.refl w).alloc _).alloc _) g1;have S1:=H9c.keep (H9c.keep (H9c.new w (.bool false) (.int .i64 i) (.bool s) (.slice p l c) (.slice q k d) (.int .i64 j) (.bool s2) (.slice p2 l2 c2) (.slice q2 k2 d2) 74) ((Kp.refl _).alloc (.cells #[.bool false,.int .i64 0,.bool false,.slice none 0 0,.slice none 0 0,.int .i64 0,.bool false,.slice none 0 0,.slice none 0 0] 74))) g1;have R1:=H9c.keep (H9c.new (w.alloc (.cells #[.bool false,.int .i64 i,.bool s,.slice p l c,.slice q k d,.int .i64 j,.bool s2,.slice p2 l2 c2,.slice q2 k2 d2] 74)) (.bool false) (.int .i64 0) (.bool false) (.slice none 0 0) (.slice none 0 0) (.int .i64 0) (.bool false) (.slice none 0 0) (.slice none 0 0) 74) g1;have y5:=fun o=>(H9c.keep S1 ((Kp.refl w1).alloc o)).2.2.2.2.2.1;have y6:=fun o=>(H9c.keep S1 ((Kp.refl w1).alloc o)).2.2.2.2.2.2.1;have y7:=fun o=>(H9c.keep S1 ((Kp.refl w1).alloc o)).2.2.2.2.2.2.2.1;have y8:=fun o=>(H9c.keep S1 ((Kp.refl w1).alloc o)).2.2.2.2.2.2.2.2.1) | (go_at_call_of 128 (Value.bool s2);refine (hM2 _ (k1.alloc _)).mono ?_;rintro e w2 ⟨s5,p5,l5,c5,q5,k5,d5,rfl,hp5,nb5,g2⟩))
 have K12:Kp w1 w2:=Kp.trans ((Kp.refl w1).alloc _) g2
 have KQ:Kp w2 (w2.alloc (.cells #[.int .i64 i5,.bool s5,.slice p5 l5 c5,.slice q5 k5 d5] 72)):=(Kp.refl w2).alloc _
 have lR:=S1.lt
 have lR':=R1.lt
 have l12:=Below.size K12
 have lP:w1.heap.size < w2.heap.size:=(H4c.keep (H4c.new w1 (.int .i64 i3) (.bool s3) (.slice p3 l3 c3) (.slice q3 k3 d3) 72) g2).lt
 have SS:=H9c.keep (H9c.keep S1 K12) KQ
 have RR:=H9c.keep (H9c.keep R1 K12) KQ
 have PP:=H4c.keep (H4c.keep (H4c.new w1 (.int .i64 i3) (.bool s3) (.slice p3 l3 c3) (.slice q3 k3 d3) 72) g2) KQ
 have QQ:=H4c.new w2 (.int .i64 i5) (.bool s5) (.slice p5 l5 c5) (.slice q5 k5 d5) 72
 have nR3:NB p3 q3 (w.heap.size + 1):=nb3 _ (by omega) (by simp)
 have nP3:NB p3 q3 w1.heap.size:=hp3.nbNew (Nat.le_refl _)
 have nQ3:NB p3 q3 w2.heap.size:=hp3.nbNew l12
 have nR5:NB p5 q5 (w.heap.size + 1):=nb5 _ (by omega) (by simp;omega)
 have nP5:NB p5 q5 w1.heap.size:=nb5 _ (by omega) (by simp)
 have nQ5:NB p5 q5 w2.heap.size:=hp5.nbNew (Nat.le_refl _)
 replace hp3:=(hp3.kp K12).kp KQ
 replace hp5:=hp5.kp KQ
 have kW:=Kp.trans (Kp.trans k1 K12) KQ
 have hB1:(w.alloc (.cells #[.bool false,.int .i64 i,.bool s,.slice p l c,.slice q k d,.int .i64 j,.bool s2,.slice p2 l2 c2,.slice q2 k2 d2] 74)).heap.size = w.heap.size + 1:=by simp
 rw [hB1] at RR lR'
 generalize w2.alloc (.cells #[.int .i64 i5,.bool s5,.slice p5 l5 c5,.slice q5 k5 d5] 72) = W at SS RR PP QQ hp3 hp5 kW ⊢
 clear S1 R1 K12 KQ g2 g1 nb3 nb5 k1 y5 y6 y7 y8 hB1
 generalize w1.heap.size = bP at PP nP3 nP5 lP lR lR' ⊢
 generalize w2.heap.size = bQ at QQ nQ3 nQ5 lP ⊢
 obtain ⟨sc0,sc1,sc2,sc3,sc4,sc5,sc6,sc7,sc8,sz0,sz1,sz2,sz3,sz4,sz5,sz6,sz7,sz8⟩:=id SS;obtain ⟨rc0,rc1,rc2,rc3,rc4,rc5,rc6,rc7,rc8,rz0,rz1,rz2,rz3,rz4,rz5,rz6,rz7,rz8⟩:=id RR;obtain ⟨pc0,pc1,pc2,pc3,pz0,pz1,pz2,pz3⟩:=id PP;obtain ⟨qc0,qc1,qc2,qc3,qz0,qz1,qz2,qz3⟩:=id QQ
 go_wp2_with (first | (go_at_call 129;refine (hC _ s3 p3 l3 c3 q3 k3 d3 s5 p5 l5 c5 q5 k5 d5 hp3 hp5).mono ?_;rintro e wv ⟨rfl,gv⟩;replace kW:=Kp.trans kW gv;replace SS:=H9c.keep SS gv;replace RR:=H9c.keep RR gv;replace PP:=H4c.keep PP gv;replace QQ:=H4c.keep QQ gv;replace hp3:=hp3.kp gv;replace hp5:=hp5.kp gv;clear sc0 sc1 sc2 sc3 sc4 sc5 sc6 sc7 sc8 sz0 sz1 sz2 sz3 sz4 sz5 sz6 sz7 sz8 rc0 rc1 rc2 rc3 rc4 rc5 rc6 rc7 rc8 rz0 rz1 rz2 rz3 rz4 rz5 rz6 rz7 rz8 pc0 pc1 pc2 pc3 pz0 pz1 pz2 pz3 qc0 qc1 qc2 qc3 qz0 qz1 qz2 qz3;obtain ⟨sc0,sc1,sc2,sc3,sc4,sc5,sc6,sc7,sc8,sz0,sz1,sz2,sz3,sz4,sz5,sz6,sz7,sz8⟩:=id SS;obtain ⟨rc0,rc1,rc2,rc3,rc4,rc5,rc6,rc7,rc8,rz0,rz1,rz2,rz3,rz4,rz5,rz6,rz7,rz8⟩:=id RR;obtain ⟨pc0,pc1,pc2,pc3,pz0,pz1,pz2,pz3⟩:=id PP;obtain ⟨qc0,qc1,qc2,qc3,qz0,qz1,qz2,qz3⟩:=id QQ;clear gv) | (go_at_call_of 130 (Value.bool s);refine (hS1 _ kW).mono ?_;rintro e wv ⟨rfl,gv⟩;replace kW:=Kp.trans kW gv;replace SS:=H9c.keep SS gv;replace RR:=H9c.keep RR gv;replace PP:=H4c.keep PP gv;replace QQ:=H4c.keep QQ gv;replace hp3:=hp3.kp gv;replace hp5:=hp5.kp gv;clear sc0 sc1 sc2 sc3 sc4 sc5 sc6 sc7 sc8 sz0 sz1 sz2 sz3 sz4 sz5 sz6 sz7 sz8 rc0 rc1 rc2 rc3 rc4 rc5 rc6 rc7 rc8 rz0 rz1 rz2 rz3 rz4 rz5 rz6 rz7 rz8 pc0 pc1 pc2 pc3 pz0 pz1 pz2 pz3 qc0 qc1 qc2 qc3 qz0 qz1 qz2 qz3;obtain ⟨sc0,sc1,sc2,sc3,sc4,sc5,sc6,sc7,sc8,sz0,sz1,sz2,sz3,sz4,sz5,sz6,sz7,sz8⟩:=id SS;obtain ⟨rc0,rc1,rc2,rc3,rc4,rc5,rc6,rc7,rc8,rz0,rz1,rz2,rz3,rz4,rz5,rz6,rz7,rz8⟩:=id RR;obtain ⟨pc0,pc1,pc2,pc3,pz0,pz1,pz2,pz3⟩:=id PP;obtain ⟨qc0,qc1,qc2,qc3,qz0,qz1,qz2,qz3⟩:=id QQ;clear gv) | (go_at_call_of 130 (Value.bool s2);refine (hS2 _ kW).mono ?_;rintro e wv ⟨rfl,gv⟩;replace kW:=Kp.trans kW gv;replace SS:=H9c.keep SS gv;replace RR:=H9c.keep RR gv;replace PP:=H4c.keep PP gv;replace QQ:=H4c.keep QQ gv;replace hp3:=hp3.kp gv;replace hp5:=hp5.kp gv;clear sc0 sc1 sc2 sc3 sc4 sc5 sc6 sc7 sc8 sz0 sz1 sz2 sz3 sz4 sz5 sz6 sz7 sz8 rc0 rc1 rc2 rc3 rc4 rc5 rc6 rc7 rc8 rz0 rz1 rz2 rz3 rz4 rz5 rz6 rz7 rz8 pc0 pc1 pc2 pc3 pz0 pz1 pz2 pz3 qc0 qc1 qc2 qc3 qz0 qz1 qz2 qz3;obtain ⟨sc0,sc1,sc2,sc3,sc4,sc5,sc6,sc7,sc8,sz0,sz1,sz2,sz3,sz4,sz5,sz6,sz7,sz8⟩:=id SS;obtain ⟨rc0,rc1,rc2,rc3,rc4,rc5,rc6,rc7,rc8,rz0,rz1,rz2,rz3,rz4,rz5,rz6,rz7,rz8⟩:=id RR;obtain ⟨pc0,pc1,pc2,pc3,pz0,pz1,pz2,pz3⟩:=id PP;obtain ⟨qc0,qc1,qc2,qc3,qz0,qz1,qz2,qz3⟩:=id QQ;clear gv))
 exact bodyPost_ret (v:=.agg #[.bool false,.int .i64 i3,.bool s3,.slice p3 l3 c3,.slice q3 k3 d3,.int .i64 i5,.bool s5,.slice p5 l5 c5,.slice q5 k5 d5]) (by simp [results,Tryz.results96,go_sem,rc0,rc1,rc2,rc3,rc4,rc5,rc6,rc7,rc8]) rfl ⟨⟨s3,p3,l3,c3,q3,k3,d3,s5,p5,l5,c5,q5,k5,d5,rfl,(RP.setNe (RP.setNe (RP.setNe (RP.setNe (RP.setNe (RP.setNe (RP.setNe (RP.setNe (RP.setNe hp3 (x:=⟨w.heap.size + 1,0,none⟩) nR3 (.bool false)) (x:=⟨w.heap.size + 1,1,none⟩) nR3 (.int .i64 i3)) (x:=⟨w.heap.size + 1,2,none⟩) nR3 (.bool s3)) (x:=⟨w.heap.size + 1,3,none⟩) nR3 (.slice p3 l3 c3)) (x:=⟨w.heap.size + 1,4,none⟩) nR3 (.slice q3 k3 d3)) (x:=⟨w.heap.size + 1,5,none⟩) nR3 (.int .i64 i5)) (x:=⟨w.heap.size + 1,6,none⟩) nR3 (.bool s5)) (x:=⟨w.heap.size + 1,7,none⟩) nR3 (.slice p5 l5 c5)) (x:=⟨w.heap.size + 1,8,none⟩) nR3 (.slice q5 k5 d5)),(RP.setNe (RP.setNe (RP.setNe (RP.setNe (RP.setNe (RP.setNe (RP.setNe (RP.setNe (RP.setNe hp5 (x:=⟨w.heap.size + 1,0,none⟩) nR5 (.bool false)) (x:=⟨w.heap.size + 1,1,none⟩) nR5 (.int .i64 i3)) (x:=⟨w.heap.size + 1,2,none⟩) nR5 (.bool s3)) (x:=⟨w.heap.size + 1,3,none⟩) nR5 (.slice p3 l3 c3)) (x:=⟨w.heap.size + 1,4,none⟩) nR5 (.slice q3 k3 d3)) (x:=⟨w.heap.size + 1,5,none⟩) nR5 (.int .i64 i5)) (x:=⟨w.heap.size + 1,6,none⟩) nR5 (.bool s5)) (x:=⟨w.heap.size + 1,7,none⟩) nR5 (.slice p5 l5 c5)) (x:=⟨w.heap.size + 1,8,none⟩) nR5 (.slice q5 k5 d5))⟩,KS9 (kW) (by first | omega | (simp <;> omega))⟩
theorem sizeN3_ (i j i3 i5 C S1 S2:Int) (N3 N5:Bool) (M3 M5:Nat) s p l c q k d s2 p2 l2 c2 q2 k2 d2 (tc:¬ (0 < C)) (t1:S1≤0) (t2:0≤S2) (w:World) (hM1:∀ W:World,Kp w W→Calls Tryz.prog 128 #[.agg #[.int .i64 i,.bool s,.slice p l c,.slice q k d]] W fun e w'=>∃ s3 p3 l3 c3 q3 k3 d3,e = .returned (.agg #[.int .i64 i3,.bool s3,.slice p3 l3 c3,.slice q3 k3 d3])∧RP 0 w' s3 p3 l3 c3 q3 k3 d3 N3 M3∧(∀ b,w.heap.size≤b→b < W.heap.size→NB p3 q3 b)∧Kp W w') (hM2:∀ W:World,Kp w W→Calls Tryz.prog 128 #[.agg #[.int .i64 j,.bool s2,.slice p2 l2 c2,.slice q2 k2 d2]] W fun e w'=>∃ s5 p5 l5 c5 q5 k5 d5,e = .returned (.agg #[.int .i64 i5,.bool s5,.slice p5 l5 c5,.slice q5 k5 d5])∧RP 0 w' s5 p5 l5 c5 q5 k5 d5 N5 M5∧(∀ b,w.heap.size≤b→b < W.heap.size→NB p5 q5 b)∧Kp W w') (hC:∀ (W:World) s3 p3 l3 c3 q3 k3 d3 s5 p5 l5 c5 q5 k5 d5,RP 0 W s3 p3 l3 c3 q3 k3 d3 N3 M3→RP 0 W s5 p5 l5 c5 q5 k5 d5 N5 M5→Calls Tryz.prog 129 #[.agg #[.int .i64 i3,.bool s3,.slice p3 l3 c3,.slice q3 k3 d3],.agg #[.int .i64 i5,.bool s5,.slice p5 l5 c5,.slice q5 k5 d5]] W fun e w'=>e = .returned (.int .i64 C)∧Kp W w') (hS1:∀ W:World,Kp w W→Calls Tryz.prog 130 #[.agg #[.int .i64 i,.bool s,.slice p l c,.slice q k d]] W fun e w'=>e = .returned (.int .i64 S1)∧Kp W w') (hS2:∀ W:World,Kp w W→Calls Tryz.prog 130 #[.agg #[.int .i64 j,.bool s2,.slice p2 l2 c2,.slice q2 k2 d2]] W fun e w'=>e = .returned (.int .i64 S2)∧Kp W w') (hF:∀ W:World,Calls Tryz.prog 92 #[.int .i64 0] W fun e w'=>∃ s7 p7 l7 c7 q7 k7 d7,e = .returned (.agg #[.int .i64 0,.bool s7,.slice p7 l7 c7,.slice q7 k7 d7])∧RP W.heap.size w' s7 p7 l7 c7 q7 k7 d7 false 0∧Kp W w'):Calls Tryz.prog 96 #[.agg #[.bool false,.int .i64 i,.bool s,.slice p l c,.slice q k d,.int .i64 j,.bool s2,.slice p2 l2 c2,.slice q2 k2 d2]] w fun e w'=>SzQ 0 i5 false 0 N5 M5 e w'∧Kp w w':=by
 go_enter Tryz.func96,Tryz.ntmps96
 go_upto_region 5 with (first | (go_at_call_of 128 (Value.bool s);refine (hM1 _ (((Kp.refl w).alloc _).alloc _)).mono ?_;rintro e w1 ⟨s3,p3,l3,c3,q3,k3,d3,rfl,hp3,nb3,g1⟩;have k1:Kp w w1:=Kp.trans (((Kp.refl w).alloc _).alloc _) g1;have S1:=H9c.keep (H9c.keep (H9c.new w (.bool false) (.int .i64 i) (.bool s) (.slice p l c) (.slice q k d) (.int .i64 j) (.bool s2) (.slice p2 l2 c2) (.slice q2 k2 d2) 74) ((Kp.refl _).alloc (.cells #[.bool false,.int .i64 0,.bool false,.slice none 0 0,.slice none 0 0,.int .i64 0,.bool false,.slice none 0 0,.slice none 0 0] 74))) g1;have R1:=H9c.keep (H9c.new (w.alloc (.cells #[.bool false,.int .i64 i,.bool s,.slice p l c,.slice q k d,.int .i64 j,.bool s2,.slice p2 l2 c2,.slice q2 k2 d2] 74)) (.bool false) (.int .i64 0) (.bool false) (.slice none 0 0) (.slice none 0 0) (.int .i64 0) (.bool false) (.slice none 0 0) (.slice none 0 0) 74) g1;have y5:=fun o=>(H9c.keep S1 ((Kp.refl w1).alloc o)).2.2.2.2.2.1;have y6:=fun o=>(H9c.keep S1 ((Kp.refl w1).alloc o)).2.2.2.2.2.2.1;have y7:=fun o=>(H9c.keep S1 ((Kp.refl w1).alloc o)).2.2.2.2.2.2.2.1;have y8:=fun o=>(H9c.keep S1 ((Kp.refl w1).alloc o)).2.2.2.2.2.2.2.2.1) | (go_at_call_of 128 (Value.bool s2);refine (hM2 _ (k1.alloc _)).mono ?_;rintro e w2 ⟨s5,p5,l5,c5,q5,k5,d5,rfl,hp5,nb5,g2⟩))
 have K12:Kp w1 w2:=Kp.trans ((Kp.refl w1).alloc _) g2
 have KQ:Kp w2 (w2.alloc (.cells #[.int .i64 i5,.bool s5,.slice p5 l5 c5,.slice q5 k5 d5] 72)):=(Kp.refl w2).alloc _
 have lR:=S1.lt
 have lR':=R1.lt
 have l12:=Below.size K12
 have lP:w1.heap.size < w2.heap.size:=(H4c.keep (H4c.new w1 (.int .i64 i3) (.bool s3) (.slice p3 l3 c3) (.slice q3 k3 d3) 72) g2).lt
 have SS:=H9c.keep (H9c.keep S1 K12) KQ
 have RR:=H9c.keep (H9c.keep R1 K12) KQ
 have PP:=H4c.keep (H4c.keep (H4c.new w1 (.int .i64 i3) (.bool s3) (.slice p3 l3 c3) (.slice q3 k3 d3) 72) g2) KQ
 have QQ:=H4c.new w2 (.int .i64 i5) (.bool s5) (.slice p5 l5 c5) (.slice q5 k5 d5) 72
 have nR3:NB p3 q3 (w.heap.size + 1):=nb3 _ (by omega) (by simp)
 have nP3:NB p3 q3 w1.heap.size:=hp3.nbNew (Nat.le_refl _)
 have nQ3:NB p3 q3 w2.heap.size:=hp3.nbNew l12
 have nR5:NB p5 q5 (w.heap.size + 1):=nb5 _ (by omega) (by simp;omega)
 have nP5:NB p5 q5 w1.heap.size:=nb5 _ (by omega) (by simp)
 have nQ5:NB p5 q5 w2.heap.size:=hp5.nbNew (Nat.le_refl _)
 replace hp3:=(hp3.kp K12).kp KQ
 replace hp5:=hp5.kp KQ
 have kW:=Kp.trans (Kp.trans k1 K12) KQ
 have hB1:(w.alloc (.cells #[.bool false,.int .i64 i,.bool s,.slice p l c,.slice q k d,.int .i64 j,.bool s2,.slice p2 l2 c2,.slice q2 k2 d2] 74)).heap.size = w.heap.size + 1:=by simp
 rw [hB1] at RR lR'
 generalize w2.alloc (.cells #[.int .i64 i5,.bool s5,.slice p5 l5 c5,.slice q5 k5 d5] 72) = W at SS RR PP QQ hp3 hp5 kW ⊢
 clear S1 R1 K12 KQ g2 g1 nb3 nb5 k1 y5 y6 y7 y8 hB1
 generalize w1.heap.size = bP at PP nP3 nP5 lP lR lR' ⊢
 generalize w2.heap.size = bQ at QQ nQ3 nQ5 lP ⊢
 obtain ⟨sc0,sc1,sc2,sc3,sc4,sc5,sc6,sc7,sc8,sz0,sz1,sz2,sz3,sz4,sz5,sz6,sz7,sz8⟩:=id SS;obtain ⟨rc0,rc1,rc2,rc3,rc4,rc5,rc6,rc7,rc8,rz0,rz1,rz2,rz3,rz4,rz5,rz6,rz7,rz8⟩:=id RR;obtain ⟨pc0,pc1,pc2,pc3,pz0,pz1,pz2,pz3⟩:=id PP;obtain ⟨qc0,qc1,qc2,qc3,qz0,qz1,qz2,qz3⟩:=id QQ
 go_upto_region 10 with (first | (go_at_call 129;refine (hC _ s3 p3 l3 c3 q3 k3 d3 s5 p5 l5 c5 q5 k5 d5 hp3 hp5).mono ?_;rintro e wv ⟨rfl,gv⟩;replace kW:=Kp.trans kW gv;replace SS:=H9c.keep SS gv;replace RR:=H9c.keep RR gv;replace PP:=H4c.keep PP gv;replace QQ:=H4c.keep QQ gv;replace hp3:=hp3.kp gv;replace hp5:=hp5.kp gv;clear sc0 sc1 sc2 sc3 sc4 sc5 sc6 sc7 sc8 sz0 sz1 sz2 sz3 sz4 sz5 sz6 sz7 sz8 rc0 rc1 rc2 rc3 rc4 rc5 rc6 rc7 rc8 rz0 rz1 rz2 rz3 rz4 rz5 rz6 rz7 rz8 pc0 pc1 pc2 pc3 pz0 pz1 pz2 pz3 qc0 qc1 qc2 qc3 qz0 qz1 qz2 qz3;obtain ⟨sc0,sc1,sc2,sc3,sc4,sc5,sc6,sc7,sc8,sz0,sz1,sz2,sz3,sz4,sz5,sz6,sz7,sz8⟩:=id SS;obtain ⟨rc0,rc1,rc2,rc3,rc4,rc5,rc6,rc7,rc8,rz0,rz1,rz2,rz3,rz4,rz5,rz6,rz7,rz8⟩:=id RR;obtain ⟨pc0,pc1,pc2,pc3,pz0,pz1,pz2,pz3⟩:=id PP;obtain ⟨qc0,qc1,qc2,qc3,qz0,qz1,qz2,qz3⟩:=id QQ;clear gv) | (go_at_call_of 130 (Value.bool s);refine (hS1 _ kW).mono ?_;rintro e wv ⟨rfl,gv⟩;replace kW:=Kp.trans kW gv;replace SS:=H9c.keep SS gv;replace RR:=H9c.keep RR gv;replace PP:=H4c.keep PP gv;replace QQ:=H4c.keep QQ gv;replace hp3:=hp3.kp gv;replace hp5:=hp5.kp gv;clear sc0 sc1 sc2 sc3 sc4 sc5 sc6 sc7 sc8 sz0 sz1 sz2 sz3 sz4 sz5 sz6 sz7 sz8 rc0 rc1 rc2 rc3 rc4 rc5 rc6 rc7 rc8 rz0 rz1 rz2 rz3 rz4 rz5 rz6 rz7 rz8 pc0 pc1 pc2 pc3 pz0 pz1 pz2 pz3 qc0 qc1 qc2 qc3 qz0 qz1 qz2 qz3;obtain ⟨sc0,sc1,sc2,sc3,sc4,sc5,sc6,sc7,sc8,sz0,sz1,sz2,sz3,sz4,sz5,sz6,sz7,sz8⟩:=id SS;obtain ⟨rc0,rc1,rc2,rc3,rc4,rc5,rc6,rc7,rc8,rz0,rz1,rz2,rz3,rz4,rz5,rz6,rz7,rz8⟩:=id RR;obtain ⟨pc0,pc1,pc2,pc3,pz0,pz1,pz2,pz3⟩:=id PP;obtain ⟨qc0,qc1,qc2,qc3,qz0,qz1,qz2,qz3⟩:=id QQ;clear gv) | (go_at_call_of 130 (Value.bool s2);refine (hS2 _ kW).mono ?_;rintro e wv ⟨rfl,gv⟩;replace kW:=Kp.trans kW gv;replace SS:=H9c.keep SS gv;replace RR:=H9c.keep RR gv;replace PP:=H4c.keep PP gv;replace QQ:=H4c.keep QQ gv;replace hp3:=hp3.kp gv;replace hp5:=hp5.kp gv;clear sc0 sc1 sc2 sc3 sc4 sc5 sc6 sc7 sc8 sz0 sz1 sz2 sz3 sz4 sz5 sz6 sz7 sz8 rc0 rc1 rc2 rc3 rc4 rc5 rc6 rc7 rc8 rz0 rz1 rz2 rz3 rz4 rz5 rz6 rz7 rz8 pc0 pc1 pc2 pc3 pz0 pz1 pz2 pz3 qc0 qc1 qc2 qc3 qz0 qz1 qz2 qz3;obtain ⟨sc0,sc1,sc2,sc3,sc4,sc5,sc6,sc7,sc8,sz0,sz1,sz2,sz3,sz4,sz5,sz6,sz7,sz8⟩:=id SS;obtain ⟨rc0,rc1,rc2,rc3,rc4,rc5,rc6,rc7,rc8,rz0,rz1,rz2,rz3,rz4,rz5,rz6,rz7,rz8⟩:=id RR;obtain ⟨pc0,pc1,pc2,pc3,pz0,pz1,pz2,pz3⟩:=id PP;obtain ⟨qc0,qc1,qc2,qc3,qz0,qz1,qz2,qz3⟩:=id QQ;clear gv))
 clear sc0 sc1 sc2 sc3 sc4 sc5 sc6 sc7 sc8 sz0 sz1 sz2 sz3 sz4 sz5 sz6 sz7 sz8 rc0 rc1 rc2 rc3 rc4 rc5 rc6 rc7 rc8 rz0 rz1 rz2 rz3 rz4 rz5 rz6 rz7 rz8 pc0 pc1 pc2 pc3 pz0 pz1 pz2 pz3 qc0 qc1 qc2 qc3 qz0 qz1 qz2 qz3
 generalize wv = W at SS RR PP QQ hp3 hp5 kW ⊢
 obtain ⟨sc0,sc1,sc2,sc3,sc4,sc5,sc6,sc7,sc8,sz0,sz1,sz2,sz3,sz4,sz5,sz6,sz7,sz8⟩:=id SS;obtain ⟨rc0,rc1,rc2,rc3,rc4,rc5,rc6,rc7,rc8,rz0,rz1,rz2,rz3,rz4,rz5,rz6,rz7,rz8⟩:=id RR;obtain ⟨pc0,pc1,pc2,pc3,pz0,pz1,pz2,pz3⟩:=id PP;obtain ⟨qc0,qc1,qc2,qc3,qz0,qz1,qz2,qz3⟩:=id QQ
 have lR3:=RR.lt
 have lP3:=PP.lt
 go_cut [] (fun wx=>∃ s7 p7 l7 c7 q7 k7 d7,H9c wx (w.heap.size + 1) (.bool false) (.int .i64 0) (.bool false) (.slice none 0 0) (.slice none 0 0) (.int .i64 0) (.bool false) (.slice none 0 0) (.slice none 0 0)∧H4c wx bP (.int .i64 0) (.bool s7) (.slice p7 l7 c7) (.slice q7 k7 d7)∧H4c wx bQ (.int .i64 i5) (.bool s5) (.slice p5 l5 c5) (.slice q5 k5 d5)∧RP 0 wx s7 p7 l7 c7 q7 k7 d7 false 0∧NB p7 q7 (w.heap.size + 1)∧RP 0 wx s5 p5 l5 c5 q5 k5 d5 N5 M5∧Kp w wx)
 case first =>
  go_wp2_with (first | (go_at_call 92;refine (hF _).mono ?_;rintro e wf ⟨s7,p7,l7,c7,q7,k7,d7,rfl,hp7,gf⟩;have PF:=H4c.keep PP gf;obtain ⟨f0,f1,f2,f3,f4,f5,f6,f7⟩:=id PF))
  go_meet
  exact ⟨s7,p7,l7,c7,q7,k7,d7,(H9c.far1 (H9c.far1 (H9c.far1 (H9c.far1 (H9c.keep RR gf) ⟨bP,0,none⟩ (by simp <;> omega) _) ⟨bP,1,none⟩ (by simp <;> omega) _) ⟨bP,2,none⟩ (by simp <;> omega) _) ⟨bP,3,none⟩ (by simp <;> omega) _),H4c.put PF (.int .i64 0) (.bool s7) (.slice p7 l7 c7) (.slice q7 k7 d7),(H4c.far1 (H4c.far1 (H4c.far1 (H4c.far1 (H4c.keep QQ gf) ⟨bP,0,none⟩ (by simp <;> omega) _) ⟨bP,1,none⟩ (by simp <;> omega) _) ⟨bP,2,none⟩ (by simp <;> omega) _) ⟨bP,3,none⟩ (by simp <;> omega) _),(RP.setNe (RP.setNe (RP.setNe (RP.setNe (hp7.mono (Nat.zero_le _)) (x:=⟨bP,0,none⟩) (hp7.nbLow lP3) (.int .i64 0)) (x:=⟨bP,1,none⟩) (hp7.nbLow lP3) (.bool s7)) (x:=⟨bP,2,none⟩) (hp7.nbLow lP3) (.slice p7 l7 c7)) (x:=⟨bP,3,none⟩) (hp7.nbLow lP3) (.slice q7 k7 d7)),hp7.nbLow lR3,(RP.setNe (RP.setNe (RP.setNe (RP.setNe (hp5.kp gf) (x:=⟨bP,0,none⟩) nP5 (.int .i64 0)) (x:=⟨bP,1,none⟩) nP5 (.bool s7)) (x:=⟨bP,2,none⟩) nP5 (.slice p7 l7 c7)) (x:=⟨bP,3,none⟩) nP5 (.slice q7 k7 d7)),KS4 ((Kp.trans kW gf)) (by first | omega | (simp <;> omega))⟩
 case rest =>
 obtain ⟨s7,p7,l7,c7,q7,k7,d7,RR,PP,QQ,hp7,nR7,hp5,kW⟩:=hcut
 clear sc0 sc1 sc2 sc3 sc4 sc5 sc6 sc7 sc8 sz0 sz1 sz2 sz3 sz4 sz5 sz6 sz7 sz8 rc0 rc1 rc2 rc3 rc4 rc5 rc6 rc7 rc8 rz0 rz1 rz2 rz3 rz4 rz5 rz6 rz7 rz8 pc0 pc1 pc2 pc3 pz0 pz1 pz2 pz3 qc0 qc1 qc2 qc3 qz0 qz1 qz2 qz3 SS
 generalize wc = W at RR PP QQ hp7 hp5 kW ⊢
 obtain ⟨rc0,rc1,rc2,rc3,rc4,rc5,rc6,rc7,rc8,rz0,rz1,rz2,rz3,rz4,rz5,rz6,rz7,rz8⟩:=id RR
 obtain ⟨pc0,pc1,pc2,pc3,pz0,pz1,pz2,pz3⟩:=id PP
 obtain ⟨qc0,qc1,qc2,qc3,qz0,qz1,qz2,qz3⟩:=id QQ
 go_wp2
 exact bodyPost_ret (v:=.agg #[.bool false,.int .i64 0,.bool s7,.slice p7 l7 c7,.slice q7 k7 d7,.int .i64 i5,.bool s5,.slice p5 l5 c5,.slice q5 k5 d5]) (by simp [results,Tryz.results96,go_sem,rc0,rc1,rc2,rc3,rc4,rc5,rc6,rc7,rc8]) rfl ⟨⟨s7,p7,l7,c7,q7,k7,d7,s5,p5,l5,c5,q5,k5,d5,rfl,(RP.setNe (RP.setNe (RP.setNe (RP.setNe (RP.setNe (RP.setNe (RP.setNe (RP.setNe (RP.setNe hp7 (x:=⟨w.heap.size + 1,0,none⟩) nR7 (.bool false)) (x:=⟨w.heap.size + 1,1,none⟩) nR7 (.int .i64 0)) (x:=⟨w.heap.size + 1,2,none⟩) nR7 (.bool s7)) (x:=⟨w.heap.size + 1,3,none⟩) nR7 (.slice p7 l7 c7)) (x:=⟨w.heap.size + 1,4,none⟩) nR7 (.slice q7 k7 d7)) (x:=⟨w.heap.size + 1,5,none⟩) nR7 (.int .i64 i5)) (x:=⟨w.heap.size + 1,6,none⟩) nR7 (.bool s5)) (x:=⟨w.heap.size + 1,7,none⟩) nR7 (.slice p5 l5 c5)) (x:=⟨w.heap.size + 1,8,none⟩) nR7 (.slice q5 k5 d5)),(RP.setNe (RP.setNe (RP.setNe (RP.setNe (RP.setNe (RP.setNe (RP.setNe (RP.setNe (RP.setNe hp5 (x:=⟨w.heap.size + 1,0,none⟩) nR5 (.bool false)) (x:=⟨w.heap.size + 1,1,none⟩) nR5 (.int .i64 0)) (x:=⟨w.heap.size + 1,2,none⟩) nR5 (.bool s7)) (x:=⟨w.heap.size + 1,3,none⟩) nR5 (.slice p7 l7 c7)) (x:=⟨w.heap.size + 1,4,none⟩) nR5 (.slice q7 k7 d7)) (x:=⟨w.heap.size + 1,5,none⟩) nR5 (.int .i64 i5)) (x:=⟨w.heap.size + 1,6,none⟩) nR5 (.bool s5)) (x:=⟨w.heap.size + 1,7,none⟩) nR5 (.slice p5 l5 c5)) (x:=⟨w.heap.size + 1,8,none⟩) nR5 (.slice q5 k5 d5))⟩,KS9 (kW) (by first | omega | (simp <;> omega))⟩
end Go.Proofs.YtaldmbeomdfafaaGreatDoor
