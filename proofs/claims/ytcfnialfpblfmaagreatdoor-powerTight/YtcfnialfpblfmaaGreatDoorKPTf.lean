import Derived.Test.YtcfnialfpblfmaaGreatDoorKPTc
set_option maxHeartbeats 1000000
set_option maxRecDepth 20000
namespace Go.Proofs.YtcfnialfpblfmaaGreatDoor
open Go.RowKit
theorem finA_ (X Q E:Int) (Z:Bool) (f1:X / 4503599627370496 = Q) (f2:bits BinOp.and IntKind.u64 Q 2047 = E) (t:(E != 2047) = Z) (w:World):Calls Tryz.prog 38 #[.int .u64 X] w fun e w'=>e = .returned (.bool Z)∧w' = w:=by
  cases Z
  all_goals (
    go_enter Tryz.func38,Tryz.ntmps38
    go_wp2
    exact bodyPost_ret (v:=.bool _) (by simp [results,Tryz.results38,go_sem] <;> simpa using t) rfl ⟨rfl,rfl⟩)
theorem fin_ (n:Bool) (m:Nat) (hm:m < 9223372036854775808) (w:World):Calls Tryz.prog 38 #[.int .u64 ((Fq.wD n m:Nat):Int)] w fun e w'=>e = .returned (.bool (decide (m < 9218868437227405312)))∧w' = w:=by
  obtain ⟨X,hX⟩:∃ X,X = Fq.wD n m:=⟨_,rfl⟩
  obtain ⟨Q,hQ⟩:∃ Q,Q = X / 4503599627370496:=⟨_,rfl⟩
  have hX9:X < 18446744073709551616:=by rw [hX];unfold Fq.wD;split <;> omega
  have e1:Q % 2048 = m / 4503599627370496:=by rw [hQ,hX];unfold Fq.wD;split <;> omega
  have f2:bits BinOp.and IntKind.u64 (Q:Int) 2047 = ((m / 4503599627370496:Nat):Int):=by
    have h:=u64_and_nat Q 2047 (by omega) (by decide)
    rw [show (2047:Nat) = 2 ^ 11 - 1 from by decide,Nat.and_two_pow_sub_one_eq_mod,show (2:Nat) ^ 11 = 2048 from by decide,e1] at h
    exact h
  rw [← hX]
  refine finA_ _ _ _ _ (by rw [hQ];exact (Int.natCast_ediv _ _).symm) f2 ?_ w
  by_cases c:m < 9218868437227405312
  · rw [decide_eq_true c];simp;omega
  · rw [decide_eq_false c];simp;omega
set_option linter.unusedVariables false

def QS (b:Nat) (i j:Int) (ZA ZB:Int→Nat) (W:World) (v:Value):Prop:=∃ (s:Bool) (p:Option Addr) (l c:Nat) (q:Option Addr) (k d:Nat) (s2:Bool) (p2:Option Addr) (l2 c2:Nat) (q2:Option Addr) (k2 d2:Nat),v = .agg #[.bool false,.int .i64 i,.bool s,.slice p l c,.slice q k d,.int .i64 j,.bool s2,.slice p2 l2 c2,.slice q2 k2 d2]∧(i = 0→QP b W s p l c q k d ZA)∧(j = 0→QP b W s2 p2 l2 c2 q2 k2 d2 ZB)
set_option linter.unusedVariables false
def Ab (V:Int) (C:Nat) (L H:Int):Prop:=(L = H∧-9218868437227405312 < L∧L < 9218868437227405312∧vZ L * (C:Int) = V)∨(H = L + 1∧-9218868437227405312≤L∧H≤9218868437227405312∧(-9218868437227405312 < L→vZ L * (C:Int) < V)∧(H < 9218868437227405312→V < vZ H * (C:Int)))
theorem ab_g (C:Nat) (hC:0 < C) (V:Int):Ab V C (g53 (-1) 1 C V) (g53 1 1 C V):=by
  have h:=g53_tight 1 C hC V vZ vZ_pos vZ_neg
  rw [show V * ((1:Nat):Int) = V from Int.mul_one V] at h
  rcases h with ⟨h1,_,h3,h4,h5⟩ | ⟨h1,h2,h3,h4,h5,_⟩
  · exact Or.inl ⟨h1,by omega,by omega,h5⟩
  · exact Or.inr ⟨h1,by omega,by omega,fun h=>h4 (by omega),fun h=>h5 (by omega)⟩
set_option linter.unusedVariables false

def pA (k:Nat) (z:Int):Int:=vZ z ^ k
def pDn (K k:Nat):Nat:=2 ^ (K * (k - 1))
theorem pU_ab (K k:Nat) (z:Int) (f:-9218868437227405312 < z∧z < 9218868437227405312):Ab (pA k z) (pDn K k) (pU K (-1) k z) (pU K 1 k z):=by
  have e:∀ d,pU K d k z = g53 d 1 (pDn K k) (pA k z):=fun d=>by
    unfold pU pA pDn;rw [if_neg (by omega),if_neg (by omega)]
  rw [e,e]
  exact ab_g _ (Nat.two_pow_pos _) _
theorem pA_even (k:Nat) (o:k % 2 = 0) (z:Int):pA k (z.natAbs:Int) = pA k z:=by
  unfold pA
  rcases Int.lt_or_le z 0 with c | c
  · rw [show ((z.natAbs:Nat):Int) = -z by omega,vZ_neg]
    have e:∀ (x:Int) (k:Nat),(-x) ^ k = if k % 2 = 1 then -(x ^ k) else x ^ k:=by
      intro x k
      induction k with
      | zero=>simp
      | succ j ih =>
        rw [Int.pow_succ,Int.pow_succ,ih]
        by_cases c:j % 2 = 1
        · rw [if_pos c,if_neg (by omega)];simp [Int.mul_neg,Int.neg_mul]
        · rw [if_neg c,if_pos (by omega)];simp [Int.mul_neg]
    rw [e,if_neg (by omega)]
  · rw [show ((z.natAbs:Nat):Int) = z by omega]
theorem pU_even (K k:Nat) (d:Int) (o:k % 2 = 0) (z:Int) (f:-9218868437227405312 < z∧z < 9218868437227405312):pU K d k (z.natAbs:Int) = pU K d k z:=by
  have e:=pA_even k o z
  unfold pA at e
  unfold pU
  rw [if_neg (by omega),if_neg (by omega),if_neg (by omega),if_neg (by omega),e]
theorem mulD (D:Nat) (hD:0 < D) (x y:Int) (h:x≤y):x * (D:Int)≤y * (D:Int):=Int.mul_le_mul_of_nonneg_right h (by omega)
theorem mulDl (D:Nat) (hD:0 < D) (x y:Int) (h:x < y):x * (D:Int) < y * (D:Int):=Int.mul_lt_mul_of_pos_right h (by omega)
theorem lo_holds (K k:Nat) (z lo:Int) (f:-9218868437227405312 < z∧z < 9218868437227405312) (h:lo≤pU K (-1) k z) (b:-9218868437227405312≤lo):lo = -9218868437227405312∨vZ lo * (pDn K k:Int)≤pA k z:=by
  have hD:0 < pDn K k:=Nat.two_pow_pos _
  rcases Int.lt_or_eq_of_le b with c | c
  · right
    rcases pU_ab K k z f with ⟨e1,e2,e3,e4⟩ | ⟨e1,e2,e3,e4,e5⟩
    · rw [← e4];exact mulD _ hD _ _ ((vZ_iff _ _).2 h)
    · exact Int.le_of_lt (Int.lt_of_le_of_lt (mulD _ hD _ _ ((vZ_iff _ _).2 h)) (e4 (by omega)))
  · exact Or.inl c.symm
theorem hi_holds (K k:Nat) (z hi:Int) (f:-9218868437227405312 < z∧z < 9218868437227405312) (h:pU K 1 k z≤hi) (b:hi≤9218868437227405312):hi = 9218868437227405312∨pA k z≤vZ hi * (pDn K k:Int):=by
  have hD:0 < pDn K k:=Nat.two_pow_pos _
  rcases Int.lt_or_eq_of_le b with c | c
  · right
    rcases pU_ab K k z f with ⟨e1,e2,e3,e4⟩ | ⟨e1,e2,e3,e4,e5⟩
    · rw [← e4,e1];exact mulD _ hD _ _ ((vZ_iff _ _).2 h)
    · exact Int.le_of_lt (Int.lt_of_lt_of_le (e5 (by omega)) (mulD _ hD _ _ ((vZ_iff _ _).2 h)))
  · exact Or.inl c
theorem lo_tight (K k:Nat) (z:Int) (f:-9218868437227405312 < z∧z < 9218868437227405312):pU K (-1) k z + 1 = 9218868437227405312∨pA k z < vZ (pU K (-1) k z + 1) * (pDn K k:Int):=by
  have hD:0 < pDn K k:=Nat.two_pow_pos _
  rcases pU_ab K k z f with ⟨e1,e2,e3,e4⟩ | ⟨e1,e2,e3,e4,e5⟩
  · right
    have:=mulDl _ hD _ _ (vZ_lt7 (pU K (-1) k z) (pU K (-1) k z + 1) (by omega))
    rw [e4] at this
    exact this
  · by_cases c:pU K (-1) k z + 1 = 9218868437227405312
    · exact Or.inl c
    · right
      rw [← e1];exact e5 (by omega)
theorem hi_tight (K k:Nat) (z:Int) (f:-9218868437227405312 < z∧z < 9218868437227405312):pU K 1 k z - 1 = -9218868437227405312∨vZ (pU K 1 k z - 1) * (pDn K k:Int) < pA k z:=by
  have hD:0 < pDn K k:=Nat.two_pow_pos _
  rcases pU_ab K k z f with ⟨e1,e2,e3,e4⟩ | ⟨e1,e2,e3,e4,e5⟩
  · right
    rw [← e1]
    have:=mulDl _ hD _ _ (vZ_lt7 (pU K (-1) k z - 1) (pU K (-1) k z) (by omega))
    rw [e4] at this
    exact this
  · by_cases c:pU K 1 k z - 1 = -9218868437227405312
    · exact Or.inl c
    · right
      rw [show pU K 1 k z - 1 = pU K (-1) k z by omega];exact e4 (by omega)
def tpts (L H:Int):List Int:=if L < 0∧0 < H then [L,H,0] else [L,H]
set_option linter.unusedVariables false

theorem tp_in (L H:Int) (hd:L≤H) (z:Int) (h:z ∈ tpts L H):L≤z∧z≤H:=by
  unfold tpts at h
  split at h
  · simp at h;omega
  · simp at h;omega
theorem sM_in (L H z:Int) (hd:L≤H) (h:L≤z∧z≤H):0≤sMl L H∧sMl L H≤(z.natAbs:Int)∧(z.natAbs:Int)≤sMh L H:=by
  unfold sMl sMh
  split <;> omega
theorem tp_all (K k:Nat) (hk:0 < k) (hk2:k≤1024) (L H:Int) (hd:L≤H) (fL:-9218868437227405312 < L) (fH:H < 9218868437227405312) (z:Int) (h:L≤z∧z≤H):nLo K (k:Int) L H≤pU K (-1) k z∧pU K 1 k z≤nHi K (k:Int) L H:=by
  have n0:¬ (k:Int) = 0:=by omega
  have pn:∀ d z,pnZ K d (k:Int) z = pU K d k z:=fun d z=>by unfold pnZ;rw [if_neg n0,if_pos (by omega),show ((k:Nat):Int).natAbs = k by omega]
  have s:=sM_in L H z hd h
  have a1:¬ L = 9218868437227405312:=by omega
  have a2:¬ ((k:Int) < -1024∨1024 < (k:Int)):=by omega
  have a3:¬ (k:Int) < 0:=by omega
  unfold nLo nHi
  rw [if_neg a1,if_neg a1,if_neg a2,if_neg a2,if_neg a3,if_neg a3]
  by_cases e:k % 2 = 0
  · have a4:(k:Int) % 2 = 0:=by omega
    rw [if_pos a4,if_pos a4,pn,pn,← pU_even K k (-1) e z (by omega),← pU_even K k 1 e z (by omega)]
    have bM:sMh L H < 9218868437227405312:=by unfold sMh;omega
    exact ⟨pU_mono K (-1) k hk _ _ (by unfold BdZ;omega) (by unfold BdZ;omega) (Or.inr s.1) s.2.1,pU_mono K 1 k hk _ _ (by unfold BdZ;omega) (by unfold BdZ;omega) (Or.inr (by omega)) s.2.2⟩
  · have a4:¬ (k:Int) % 2 = 0:=by omega
    rw [if_neg a4,if_neg a4,pn,pn]
    exact ⟨pU_mono K (-1) k hk _ _ (by unfold BdZ;omega) (by unfold BdZ;omega) (Or.inl (by omega)) h.1,pU_mono K 1 k hk _ _ (by unfold BdZ;omega) (by unfold BdZ;omega) (Or.inl (by omega)) h.2⟩
theorem tp_low (K k:Nat) (hk:0 < k) (hk2:k≤1024) (L H:Int) (hd:L≤H) (fL:-9218868437227405312 < L) (fH:H < 9218868437227405312):∃ z,z ∈ tpts L H∧nLo K (k:Int) L H = pU K (-1) k z:=by
  have n0:¬ (k:Int) = 0:=by omega
  have pn:∀ d z,pnZ K d (k:Int) z = pU K d k z:=fun d z=>by unfold pnZ;rw [if_neg n0,if_pos (by omega),show ((k:Nat):Int).natAbs = k by omega]
  have a1:¬ L = 9218868437227405312:=by omega
  have a2:¬ ((k:Int) < -1024∨1024 < (k:Int)):=by omega
  have a3:¬ (k:Int) < 0:=by omega
  unfold nLo tpts
  rw [if_neg a1,if_neg a2,if_neg a3]
  by_cases e:k % 2 = 0
  · have a4:(k:Int) % 2 = 0:=by omega
    rw [if_pos a4,pn]
    have ev:=fun z f=>(pU_even K k (-1) e z f).symm
    by_cases c:L < 0∧0 < H
    · rw [if_pos c]
      exact ⟨0,by simp,by rw [show sMl L H = 0 by unfold sMl;rw [if_pos (by omega)]]⟩
    · rw [if_neg c]
      by_cases c2:0≤L
      · exact ⟨L,by simp,by rw [ev L (by omega)];congr 1;unfold sMl;split <;> omega⟩
      · exact ⟨H,by simp,by rw [ev H (by omega)];congr 1;unfold sMl;split <;> omega⟩
  · have a4:¬ (k:Int) % 2 = 0:=by omega
    rw [if_neg a4,pn]
    exact ⟨L,by split <;> simp,rfl⟩
theorem tp_high (K k:Nat) (hk:0 < k) (hk2:k≤1024) (L H:Int) (hd:L≤H) (fL:-9218868437227405312 < L) (fH:H < 9218868437227405312):∃ z,z ∈ tpts L H∧nHi K (k:Int) L H = pU K 1 k z:=by
  have n0:¬ (k:Int) = 0:=by omega
  have pn:∀ d z,pnZ K d (k:Int) z = pU K d k z:=fun d z=>by unfold pnZ;rw [if_neg n0,if_pos (by omega),show ((k:Nat):Int).natAbs = k by omega]
  have a1:¬ L = 9218868437227405312:=by omega
  have a2:¬ ((k:Int) < -1024∨1024 < (k:Int)):=by omega
  have a3:¬ (k:Int) < 0:=by omega
  unfold nHi tpts
  rw [if_neg a1,if_neg a2,if_neg a3]
  by_cases e:k % 2 = 0
  · have a4:(k:Int) % 2 = 0:=by omega
    rw [if_pos a4,pn]
    have ev:=fun z f=>(pU_even K k 1 e z f).symm
    by_cases c2:L.natAbs≤H.natAbs
    · exact ⟨H,by split <;> simp,by rw [ev H (by omega)];congr 1;unfold sMh;omega⟩
    · exact ⟨L,by split <;> simp,by rw [ev L (by omega)];congr 1;unfold sMh;omega⟩
  · have a4:¬ (k:Int) % 2 = 0:=by omega
    rw [if_neg a4,pn]
    exact ⟨H,by split <;> simp,rfl⟩
set_option linter.unusedVariables false

def orTo (f:Nat→Bool):Nat→Bool
  | 0=>false
  | j + 1=>(orTo f j || f j)
theorem orTo_true (f:Nat→Bool) (n j:Nat) (h:j < n) (e:f j = true):orTo f n = true:=by
  induction n with
  | zero=>omega
  | succ i ih =>
    show (orTo f i || f i) = true
    by_cases c:j < i
    · rw [ih c];rfl
    · have hij:i = j:=by omega
      rw [hij,e];simp
theorem ptC (K k:Nat) (hk:0 < k):(((2 ^ K) ^ k:Nat):Int) = (pDn K k:Int) * ((2 ^ K:Nat):Int):=by
  have h:(2 ^ K) ^ k = pDn K k * 2 ^ K:=by
    unfold pDn
    obtain ⟨j,rfl⟩:∃ j,k = j + 1:=⟨k - 1,by omega⟩
    rw [← Nat.pow_mul,← Nat.pow_add,Nat.add_sub_cancel,Nat.mul_succ]
  rw [h,Int.natCast_mul]
theorem sc_lt (A v D P:Int) (hP:0 < P) (h:A < v * D):A * P < v * (D * P):=by
  rw [← Int.mul_assoc];exact Int.mul_lt_mul_of_pos_right h hP
theorem sc_lt2 (A v D P:Int) (hP:0 < P) (h:v * D < A):v * (D * P) < A * P:=by
  rw [← Int.mul_assoc];exact Int.mul_lt_mul_of_pos_right h hP
theorem sc_le (A v D P:Int) (hP:0 < P) (h:A≤v * D):A * P≤v * (D * P):=by
  rw [← Int.mul_assoc];exact Int.mul_le_mul_of_nonneg_right h (Int.le_of_lt hP)
theorem sc_le2 (A v D P:Int) (hP:0 < P) (h:v * D≤A):v * (D * P)≤A * P:=by
  rw [← Int.mul_assoc];exact Int.mul_le_mul_of_nonneg_right h (Int.le_of_lt hP)
theorem cmI_lt0 (x y:Int) (h:x < y):cmI x y < 0:=by unfold cmI;rw [if_pos h];decide
theorem cmI_gt0 (x y:Int) (h:y < x):0 < cmI x y:=by unfold cmI;rw [if_neg (by omega),if_pos h];decide
theorem pI0:pI 0 = 0:=by decide
theorem pI_eq (z c:Int) (hz:BdZ z) (hc:BdZ c):(pI z == pI c) = decide (z = c):=by
  unfold BdZ at hz hc
  have e1:=pw_v z
  have e2:=pw_v c
  unfold pI;rw [e1,e2,Bool.eq_iff_iff,beq_iff_eq,decide_eq_true_iff]
  by_cases a:z < 0
  · by_cases b:c < 0
    · rw [if_pos a,if_pos b];omega
    · rw [if_pos a,if_neg b];omega
  · by_cases b:c < 0
    · rw [if_neg a,if_pos b];omega
    · rw [if_neg a,if_neg b];omega
def hxN (z:Int):Nat:=if z < 0 then z.natAbs else 9223372036854775808 + z.natAbs
def lxN (z:Int):Nat:=if z < 0 then z.natAbs + 1 else if z≤1 then 0 else 9223372036854775808 + (z.natAbs - 1)
def zlZ (z:Int):Int:=if z = 0 then 0 else z - 1
def lsW (z:Int):Int:=if z = 0 then 9223372036854775808 else pI z
theorem xor_lo (x:Nat) (h:x < 9223372036854775808):bits BinOp.xor IntKind.u64 (x:Int) 9223372036854775808 = ((9223372036854775808 + x:Nat):Int):=by
  have g:=u64_xor_nat x 9223372036854775808 (by omega) (by decide)
  have e:x ^^^ 9223372036854775808 = 9223372036854775808 + x:=by
    have h1:x ^^^ 9223372036854775808 < 2 ^ 64:=Nat.xor_lt_two_pow (by omega) (by decide)
    have h2:(x ^^^ 9223372036854775808) % 2 ^ 63 = x:=by
      rw [Nat.xor_mod_two_pow,show (9223372036854775808:Nat) % 2 ^ 63 = 0 from by decide,Nat.xor_zero];omega
    have h3:(x ^^^ 9223372036854775808) / 2 ^ 63 = 1:=by
      rw [← Nat.shiftRight_eq_div_pow,Nat.shiftRight_xor_distrib,show (9223372036854775808:Nat) >>> 63 = 1 from by decide,Nat.shiftRight_eq_div_pow,Nat.div_eq_of_lt (by omega)];rfl
    omega
  rw [e] at g
  exact g
theorem xor_hi (x:Nat) (h:x < 9223372036854775808):bits BinOp.xor IntKind.u64 ((9223372036854775808 + x:Nat):Int) 9223372036854775808 = (x:Int):=by
  have g:=u64_xor_nat (9223372036854775808 + x) 9223372036854775808 (by omega) (by decide)
  have e:(9223372036854775808 + x) ^^^ 9223372036854775808 = x:=by
    have h1:(9223372036854775808 + x) ^^^ 9223372036854775808 < 2 ^ 64:=Nat.xor_lt_two_pow (by omega) (by decide)
    have h2:((9223372036854775808 + x) ^^^ 9223372036854775808) % 2 ^ 63 = x:=by
      rw [Nat.xor_mod_two_pow,show (9223372036854775808:Nat) % 2 ^ 63 = 0 from by decide,Nat.xor_zero];omega
    have h3:((9223372036854775808 + x) ^^^ 9223372036854775808) / 2 ^ 63 = 0:=by
      rw [← Nat.shiftRight_eq_div_pow,Nat.shiftRight_xor_distrib,show (9223372036854775808:Nat) >>> 63 = 1 from by decide,Nat.shiftRight_eq_div_pow,show (9223372036854775808 + x) / 2 ^ 63 = 1 by omega];rfl
    omega
  rw [e] at g
  exact g
theorem hx1_ (z:Int) (hz:BdZ z):bits BinOp.xor IntKind.u64 (pI z) 9223372036854775808 = ((hxN z:Nat):Int):=by
  unfold BdZ at hz
  unfold pI hxN;rw [pw_v]
  by_cases a:z < 0
  · rw [if_pos a,if_pos a];exact xor_hi _ (by omega)
  · rw [if_neg a,if_neg a];exact xor_lo _ (by omega)
theorem hx2_ (z:Int) (hz:-9218868437227405312 < z∧z≤9218868437227405312):bits BinOp.xor IntKind.u64 ((lxN z:Nat):Int) 9223372036854775808 = lsW (zlZ z):=by
  unfold lxN zlZ lsW
  by_cases a:z < 0
  · rw [if_pos a,if_neg (show ¬ z = 0 by omega),if_neg (by omega),xor_lo _ (by omega)]
    unfold pI;rw [pw_v,if_pos (by omega)];omega
  · rw [if_neg a]
    by_cases b:z≤1
    · rw [if_pos b,xor_lo _ (by decide)]
      by_cases c:z = 0
      · rw [if_pos c,if_pos rfl];rfl
      · rw [if_neg c,if_pos (by omega)];rfl
    · rw [if_neg b,if_neg (by omega),if_neg (by omega),xor_hi _ (by omega)]
      unfold pI;rw [pw_v,if_neg (by omega)];omega
theorem upq_ (z:Int) (hz:-9218868437227405312 < z∧z≤9218868437227405312) (w:World):Calls Tryz.prog 41 #[.int .u64 ((hxN z:Nat):Int)] w fun e w'=>e = .returned (.int .u64 ((lxN z:Nat):Int))∧w' = w:=by
  refine nxB_ _ _ ?_ ?_ ?_ w
  · unfold hxN;split <;> omega
  · unfold hxN lxN
    by_cases a:z < 0
    · rw [if_pos a,if_pos a,if_neg (by omega),if_neg (by omega)]
    · rw [if_neg a,if_neg a]
      by_cases b:z≤1
      · rw [if_pos b,if_pos (by omega)]
      · rw [if_neg b,if_neg (by omega),if_pos (by omega)];omega
  · unfold hxN;split <;> omega
theorem fromL_ (K:Nat) (hK:K = 1074) (z:Int) (f:-9218868437227405312 < z∧z < 9218868437227405312) (w:World):Calls Tryz.prog 26 #[.int .u64 (lsW z)] w fun e w'=>∃ s2 p2 l2 c2 q2 k2 d2,e = .returned (.agg #[.bool s2,.slice p2 l2 c2,.slice q2 k2 d2])∧XP 0 w' s2 p2 l2 c2 q2 k2 d2 (vZ z) (2 ^ K) 1500∧Kp w w':=by
  by_cases c:z = 0
  · have hs:lsW z = ((Fq.wD true 0:Nat):Int):=by unfold lsW;rw [if_pos c];rfl
    rw [hs]
    refine (fromR_ true 0 (by decide) w).mono ?_
    rintro e w' ⟨s2,p2,l2,c2,q2,k2,d2,rfl,h,g⟩
    have hv:Iv true 0 = vZ z:=by rw [c];decide
    exact ⟨s2,p2,l2,c2,q2,k2,d2,rfl,hv ▸ (h.xp K hK).mono (Nat.zero_le _),g⟩
  · have hs:lsW z = pI z:=by unfold lsW;rw [if_neg c]
    rw [hs]
    exact fromZ_ K hK z f w
theorem getD_map9 (ts:List Int) (j:Nat):(ts.map pI).getD j 0 = pI (ts.getD j 0):=by
  rw [List.getD_eq_getElem?_getD,List.getD_eq_getElem?_getD,List.getElem?_map]
  cases ts[j]? with
  | none=>exact pI0.symm
  | some x=>rfl
theorem mem_at9 (ts:List Int) (z:Int) (h:z ∈ ts):∃ j,j < ts.length∧ts.getD j 0 = z:=by
  obtain ⟨j,hj,e⟩:=List.mem_iff_getElem.1 h
  exact ⟨j,hj,by rw [List.getD_eq_getElem?_getD,List.getElem?_eq_getElem hj,e];rfl⟩
theorem at_mem9 (ts:List Int) (j:Nat) (h:j < ts.length):ts.getD j 0 ∈ ts:=by
  rw [List.getD_eq_getElem?_getD,List.getElem?_eq_getElem h];exact List.getElem_mem h
theorem ptB_ (X1 X2 Z1 Z2 n m1:Int) (e0 f1 f2 DF:Bool) (L H:Int) (e9:Nat) (w:World) (hT:TU7 w)
    (hRd:∀ W:World,Calls Tryz.prog 22 #[.agg #[.int .u64 X1,.int .u64 X2]] W fun e w'=>e = .returned (.agg #[.int .u64 Z1,.int .u64 Z2])∧Kp W w')
    (hL:∀ W:World,Calls Tryz.prog 23 #[.int .i64 n] W fun e w'=>e = .returned (.int .i64 m1)∧Kp W w')
    (hM:(m1 < 1∧(e9:Int) = 2)∨(¬ m1 < 1∧(e9:Int) = m1))
    (he1:((Z1 == 9218868437227405312) && (Z2 == 18442240474082181120)) = e0)
    (hF1:∀ W:World,Calls Tryz.prog 38 #[.int .u64 Z1] W fun e w'=>e = .returned (.bool f1)∧Kp W w')
    (hF2:∀ W:World,Calls Tryz.prog 38 #[.int .u64 Z2] W fun e w'=>e = .returned (.bool f2)∧Kp W w')
    (hDF:DF = (e0 || !f1 || !f2))
    (hY:(DF = true∧pI L = 13832806255468478464∧pI H = 4613937818241073152)∨(DF = false∧pI L = Z1∧pI H = Z2))
    (he:0 < e9) (he2:e9≤64) (hLH:L≤H) (fL:-9218868437227405312 < L) (fH:H < 9218868437227405312):Calls Tryz.prog 6 #[.agg #[.int .u64 X1,.int .u64 X2],.int .i64 n] w fun e w'=>e = .returned (.bool true)∧Kp w w':=by
  obtain ⟨K,hK⟩:∃ K:Nat,K = 1074:=⟨_,rfl⟩
  have d:VdZ L H:=Or.inr ⟨by omega,by omega,by omega,by omega,hLH⟩
  have dn:=(n_all K (e9:Int) L H L H d d (by omega) (by omega) (Int.le_refl _) (Int.le_refl _)).1
  obtain ⟨zl,hzl,ezl⟩:=tp_low K e9 he (by omega) L H hLH fL fH
  obtain ⟨zh,hzh,ezh⟩:=tp_high K e9 he (by omega) L H hLH fL fH
  have rl:=tp_in L H hLH zl hzl
  have rh:=tp_in L H hLH zh hzh
  have tl:=lo_tight K e9 zl (by omega)
  have th:=hi_tight K e9 zh (by omega)
  have al:=tp_all K e9 he (by omega) L H hLH fL fH
  rw [← ezl] at tl
  rw [← ezh] at th
  unfold pA at tl th
  have blo:-9218868437227405312≤nLo K (e9:Int) L H∧nLo K (e9:Int) L H < 9218868437227405312:=by
    rw [ezl]
    rcases pU_ab K e9 zl (by omega) with ⟨a1,a2,a3,a4⟩ | ⟨a1,a2,a3,a4,a5⟩ <;> omega
  have bhi:-9218868437227405312 < nHi K (e9:Int) L H∧nHi K (e9:Int) L H≤9218868437227405312:=by
    rw [ezh]
    rcases pU_ab K e9 zh (by omega) with ⟨a1,a2,a3,a4⟩ | ⟨a1,a2,a3,a4,a5⟩ <;> omega
  have hPn:=fun (W:World) (h:TU7 W)=>pown9_ K hK (pw L) (pw H) L H (e9:Int) (Rd.of d) W h
  clear ezl ezh
  generalize nLo K (e9:Int) L H = lo at *
  generalize nHi K (e9:Int) L H = hi at *
  have hP9:(0:Int) < ((2 ^ K:Nat):Int):=by have:=Nat.two_pow_pos K;omega
  have hC:=ptC K e9 he
  have fz:∀ j,j < ((tpts L H).map pI).length→L≤(tpts L H).getD j 0∧(tpts L H).getD j 0≤H:=fun j h=>tp_in L H hLH _ (at_mem9 _ j (by simpa using h))
  have b0:BdZ 0:=by unfold BdZ;omega
  have bL:BdZ L:=d.lo
  have bH:BdZ H:=d.hi
  have dl:BdZ lo:=dn.lo
  have dh:BdZ hi:=dn.hi
  have hA1:=fun W=>rabove9_ 0 L b0 bL W
  have hA2:=fun W=>rabove9_ H 0 bH b0 W
  rw [pI0] at hA1 hA2
  have cN:=fun (v:Int) (j:Nat) (hj:j < ((tpts L H).map pI).length) (U W:World) s p l c q k d s2 p2 l2 c2 q2 k2 d2 (h:XP 0 U s p l c q k d (vZ ((tpts L H).getD j 0) ^ e9) ((2 ^ K) ^ e9) 1540000) (g:Kp U W) (h2:XP 0 W s2 p2 l2 c2 q2 k2 d2 v (2 ^ K) 1500)=>xcmp_ 0 0 (vZ ((tpts L H).getD j 0) ^ e9) v ((2 ^ K) ^ e9) (2 ^ K) 1540000 1500 (by decide) (by decide) s p l c q k d s2 p2 l2 c2 q2 k2 d2 W (h.kp g) h2
  have tN:(pI (lo + 1) == 9218868437227405312) = decide (lo + 1 = 9218868437227405312):=by
    have h:=pI_eq (lo + 1) 9218868437227405312 (by unfold BdZ;omega) (by unfold BdZ;omega)
    rwa [show pI 9218868437227405312 = 9218868437227405312 by decide] at h
  have tZ:(pI hi == 0) = decide (hi = 0):=by
    have h:=pI_eq hi 0 dh b0
    rwa [pI0] at h
  have tS:(lsW (zlZ hi) == 18442240474082181120) = decide (hi - 1 = -9218868437227405312):=by
    unfold lsW zlZ
    by_cases c:hi = 0
    · rw [if_pos c,if_pos rfl,decide_eq_false (by omega)];decide
    · rw [if_neg c]
      by_cases c2:hi - 1 = 0
      · rw [if_pos c2,decide_eq_false (by omega)];decide
      · rw [if_neg c2]
        have h:=pI_eq (hi - 1) (-9218868437227405312) (by unfold BdZ;omega) (by unfold BdZ;omega)
        rwa [show pI (-9218868437227405312) = 18442240474082181120 by decide] at h
  have tE:(pI lo == 9218868437227405312) = false:=by
    have h:=pI_eq lo 9218868437227405312 dl (by unfold BdZ;omega)
    rw [show pI 9218868437227405312 = 9218868437227405312 by decide,decide_eq_false (by omega)] at h
    exact h
  have hT1:=fun W=>fromZ_ K hK (-1) (by omega) W
  rw [show pI (-1) = 9223372036854775809 by decide] at hT1
  refine pt1_ X1 X2 Z1 Z2 (pI L) (pI H) n m1 (e9:Int) e0 f1 f2 DF w hT hRd hL hM he1 hF1 hF2 hDF hY (decide (L < 0)) (decide (0 < H)) ((tpts L H).map pI) hA1 hA2 ?zs (pw L) (pw H) (pw lo) (pw hi) (pI lo) (pI hi) (in9_ _ _) hPn (fun W=>out9_ _ _ W) (fun W=>valid9_ lo hi dn W) tE
    (pI (lo + 1)) (hxN hi) (lxN hi) (lsW (zlZ hi)) (decide (lo + 1 = 9218868437227405312)) (decide (hi = 0)) (decide (hi - 1 = -9218868437227405312))
    (orTo (fun j=>(decide (lo + 1 = 9218868437227405312) || decide (cmI (vZ ((tpts L H).getD j 0) ^ e9 * ((2 ^ K:Nat):Int)) (vZ (lo + 1) * (((2 ^ K) ^ e9:Nat):Int)) < 0))))
    (orTo (fun j=>(if decide (hi = 0) = true then decide (0 < cmI (vZ ((tpts L H).getD j 0) ^ e9 * ((2 ^ K:Nat):Int)) (vZ (-1) * (((2 ^ K) ^ e9:Nat):Int))) else (decide (hi - 1 = -9218868437227405312) || decide (0 < cmI (vZ ((tpts L H).getD j 0) ^ e9 * ((2 ^ K:Nat):Int)) (vZ (zlZ hi) * (((2 ^ K) ^ e9:Nat):Int)))))))
    (fun j=>cmI (vZ ((tpts L H).getD j 0) ^ e9 * ((2 ^ K:Nat):Int)) (vZ (lo + 1) * (((2 ^ K) ^ e9:Nat):Int)))
    (fun j=>cmI (vZ ((tpts L H).getD j 0) ^ e9 * ((2 ^ K:Nat):Int)) (vZ (-1) * (((2 ^ K) ^ e9:Nat):Int)))
    (fun j=>cmI (vZ ((tpts L H).getD j 0) ^ e9 * ((2 ^ K:Nat):Int)) (vZ (zlZ hi) * (((2 ^ K) ^ e9:Nat):Int)))
    (fun j=>fun w' s p l c q k d=>XP 0 w' s p l c q k d (vZ ((tpts L H).getD j 0)) (2 ^ K) 1500)
    (fun j=>fun w' s p l c q k d=>XP 0 w' s p l c q k d (vZ ((tpts L H).getD j 0) ^ e9) ((2 ^ K) ^ e9) 1540000)
    (fun w' s p l c q k d=>XP 0 w' s p l c q k d (vZ (lo + 1)) (2 ^ K) 1500) (fun w' s p l c q k d=>XP 0 w' s p l c q k d (vZ (-1)) (2 ^ K) 1500) (fun w' s p l c q k d=>XP 0 w' s p l c q k d (vZ (zlZ hi)) (2 ^ K) 1500)
    ?fa ?rp ?ho (fun W=>nx9_ lo blo.1 blo.2 W) (fun W=>upq_ hi bhi W) (hx1_ hi dh) (hx2_ hi bhi) tN tZ tS ?fn hT1 ?fl
    (fun j hj U W s p l c q k d s2 p2 l2 c2 q2 k2 d2 h g h2=>cN _ j hj U W s p l c q k d s2 p2 l2 c2 q2 k2 d2 h g h2) (fun j hj U W s p l c q k d s2 p2 l2 c2 q2 k2 d2 h g h2=>cN _ j hj U W s p l c q k d s2 p2 l2 c2 q2 k2 d2 h g h2) (fun j hj U W s p l c q k d s2 p2 l2 c2 q2 k2 d2 h g h2=>cN _ j hj U W s p l c q k d s2 p2 l2 c2 q2 k2 d2 h g h2)
    rfl rfl (fun _ _=>rfl) (fun _ _=>rfl) ?lwN ?hgN ?len (fun W h=>lives7_ W h)
  case zs =>
    unfold tpts
    by_cases c:L < 0∧0 < H
    · left
      rw [if_pos c,decide_eq_true c.1,decide_eq_true c.2]
      exact ⟨rfl,by simp [pI0]⟩
    · right
      rw [if_neg c]
      refine ⟨?_,rfl⟩
      simp;omega
  case fa =>
    intro j hj W
    rw [getD_map9]
    have:=fz j hj
    exact fromZ_ K hK _ (by omega) W
  case rp =>
    intro j hj W s2 p2 l2 c2 q2 k2 d2 hx
    refine (xpow_ _ _ e9 (by omega) s2 p2 l2 c2 q2 k2 d2 0 W hx).mono ?_
    rintro e w' ⟨s,p,l,c,q,k,d,rfl,h,g⟩
    exact ⟨s,p,l,c,q,k,d,rfl,h.mono (Nat.zero_le _),g⟩
  case ho =>
    intro j hj U W s p l c q k d hx g
    have hz:=fz j hj
    have ha:=al _ hz
    refine holds9_ K hK lo hi dn (by omega) _ _ 1540000 (by decide) s p l c q k d 0 W (hx.kp g) ?_ ?_
    · rcases lo_holds K e9 _ lo (by omega) ha.1 blo.1 with c | c
      · exact Or.inl c
      · right;rw [hC];exact sc_le2 _ _ _ _ hP9 c
    · rcases hi_holds K e9 _ hi (by omega) ha.2 bhi.2 with c | c
      · exact Or.inl c
      · right;rw [hC];exact sc_le _ _ _ _ hP9 c
  case fn =>
    intro h W
    have:=of_decide_eq_false h
    exact fromZ_ K hK _ (by omega) W
  case fl =>
    intro h W
    have:=of_decide_eq_false h
    exact fromL_ K hK _ (by unfold zlZ;split <;> omega) W
  case lwN =>
    obtain ⟨j,hj,ej⟩:=mem_at9 _ _ hzl
    refine orTo_true _ _ j (by simpa using hj) ?_
    show (decide (lo + 1 = 9218868437227405312) || decide (cmI (vZ ((tpts L H).getD j 0) ^ e9 * ((2 ^ K:Nat):Int)) (vZ (lo + 1) * (((2 ^ K) ^ e9:Nat):Int)) < 0)) = true
    rw [ej]
    rcases tl with c | c
    · rw [decide_eq_true c];rfl
    · rw [hC,decide_eq_true (cmI_lt0 _ _ (sc_lt _ _ _ _ hP9 c))];simp
  case hgN =>
    obtain ⟨j,hj,ej⟩:=mem_at9 _ _ hzh
    refine orTo_true _ _ j (by simpa using hj) ?_
    show (if decide (hi = 0) = true then decide (0 < cmI (vZ ((tpts L H).getD j 0) ^ e9 * ((2 ^ K:Nat):Int)) (vZ (-1) * (((2 ^ K) ^ e9:Nat):Int))) else (decide (hi - 1 = -9218868437227405312) || decide (0 < cmI (vZ ((tpts L H).getD j 0) ^ e9 * ((2 ^ K:Nat):Int)) (vZ (zlZ hi) * (((2 ^ K) ^ e9:Nat):Int))))) = true
    rw [ej,hC]
    by_cases b:hi = 0
    · rw [if_pos (decide_eq_true b)]
      rcases th with c | c
      · omega
      · rw [show hi - 1 = -1 by omega] at c
        exact decide_eq_true (cmI_gt0 _ _ (sc_lt2 _ _ _ _ hP9 c))
    · rw [if_neg (by simpa using b)]
      rcases th with c | c
      · rw [decide_eq_true c];rfl
      · have ez:zlZ hi = hi - 1:=by unfold zlZ;rw [if_neg b]
        rw [ez,decide_eq_true (cmI_gt0 _ _ (sc_lt2 _ _ _ _ hP9 c))];simp
  case len =>
    rw [List.length_map];unfold tpts;split <;> simp
theorem finZ_ (z:Int) (h:BdZ z) (w:World):Calls Tryz.prog 38 #[.int .u64 (pI z)] w fun e w'=>e = .returned (.bool (decide (z.natAbs < 9218868437227405312)))∧Kp w w':=by
  unfold BdZ at h
  refine (fin_ (decide (z < 0)) z.natAbs (by omega) w).mono ?_
  rintro e w' ⟨rfl,hw⟩
  exact ⟨rfl,by rw [hw];exact Kp.refl _⟩
theorem limZ_b (n:Int):limZ n≤64:=by unfold limZ;split <;> omega
theorem ptight_ (a b:Nat) (N:Int) (ha:a < 18446744073709551616) (hb:b < 18446744073709551616) (w:World) (hT:Tab w) (hQ:Fq.Tab w):Calls Tryz.prog 6 #[.agg #[.int .u64 ((a:Nat):Int),.int .u64 ((b:Nat):Int)],.int .i64 N] w fun e w'=>e = .returned (.bool true)∧Kp w w':=by
  obtain ⟨L,H,hx⟩:=Rd.ex a b ha hb
  have d:=hx.vd
  have hl:=limZ_b N
  obtain ⟨e9,h1,h2,hM⟩:∃ e9:Nat,0 < e9∧e9≤64∧((limZ N < 1∧(e9:Int) = 2)∨(¬ limZ N < 1∧(e9:Int) = limZ N)):=by
    by_cases c:limZ N < 1
    · exact ⟨2,by decide,by decide,Or.inl ⟨c,rfl⟩⟩
    · exact ⟨(limZ N).toNat,by omega,by omega,Or.inr ⟨c,by omega⟩⟩
  by_cases c:((((pI L == 9218868437227405312) && (pI H == 18442240474082181120)) || !(decide (L.natAbs < 9218868437227405312)) || !(decide (H.natAbs < 9218868437227405312))) = true)
  · exact ptB_ _ _ _ _ N _ _ _ _ _ (-4609434218613702656) 4613937818241073152 e9 w ⟨hT,hQ⟩ (fun W=>rread9_ a b L H hx W) (fun W=>lim_ N W) hM rfl (fun W=>finZ_ L d.lo W) (fun W=>finZ_ H d.hi W) rfl (Or.inl ⟨c,by decide,by decide⟩) h1 h2 (by decide) (by decide) (by decide)
  · have c2:=c
    simp only [Bool.not_eq_true,Bool.or_eq_false_iff,Bool.not_eq_false',decide_eq_true_eq] at c2
    unfold VdZ at d
    exact ptB_ _ _ _ _ N _ _ _ _ _ L H e9 w ⟨hT,hQ⟩ (fun W=>rread9_ a b L H hx W) (fun W=>lim_ N W) hM rfl (fun W=>finZ_ L hx.vd.lo W) (fun W=>finZ_ H hx.vd.hi W) rfl (Or.inr ⟨Bool.eq_false_iff.2 c,rfl,rfl⟩) h1 h2 (by omega) (by omega) (by omega)
end Go.Proofs.YtcfnialfpblfmaaGreatDoor
