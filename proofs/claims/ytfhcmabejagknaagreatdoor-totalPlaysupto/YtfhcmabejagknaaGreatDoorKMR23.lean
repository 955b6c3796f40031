import Derived.Test.YtfhcmabejagknaaGreatDoorKMR18
import Derived.Test.YtfhcmabejagknaaGreatDoorKO6
namespace Go.Proofs.YtfhcmabejagknaaGreatDoor
open Go.RowKit
def mulW (d:Int) (ng:Bool) (P:Nat):Nat:=if P = 0 then 0 else mdW ng (finU 53 2098 9218868437227405311 9218868437227405312 (dirN ng d) (rV (dirN ng d) 53 P 1 (-1074)))
theorem of_mul (d:Int) (ng:Bool) (c:Nat) (low:Int) (P:Nat) (h1:-2148≤low) (h2:low≤8192) (hb:blen c≤524288) (hP:P = c * 2 ^ (low + 2148).toNat):ofW d ng c low = mulW d ng P:=by
  have hl:¬ 16384 < len32 c:=mt (long_iff c).2 (by omega)
  rw [of_rat]
  unfold ratW mulW
  rw [if_neg (by rw [len32_one];omega),if_neg (by decide)]
  obtain ⟨k,hk⟩:∃ k,k = (low + 2148).toNat:=⟨_,rfl⟩
  rw [← hk] at hP
  by_cases c0:c = 0
  · rw [if_pos c0,if_pos (by rw [hP,c0,Nat.zero_mul])]
  · have hp:P≠0:=by rw [hP];exact Nat.mul_ne_zero c0 (Nat.ne_of_gt (Nat.two_pow_pos k))
    rw [if_neg c0,if_neg hp,hP,rV_up _ _ _ _ _ _ (by decide),show (-1074:Int) + (k:Int) = low + 1074 from by omega]
theorem ref_mul (d:Int) (ng neg:Bool) (x D a b P K:Nat) (hK:K = 1074) (hD:D≠0) (hF:FracOf x D 0 a b) (hg:x≠0→ng = neg) (hx:x * 2 ^ (K + K) = P * D):refW 53 1074 2098 9218868437227405311 0 d ng a b = mulW d neg P:=by
  have h:=refW_fin d ng neg x D a b 0 hF hg K hK
  rw [← hK,h]
  unfold mulW
  have hp:=Nat.two_pow_pos (K + K)
  by_cases c:x = 0
  · have h0:P = 0:=by
      rw [c,Nat.zero_mul] at hx
      rcases Nat.mul_eq_zero.1 hx.symm with h1 | h1
      · exact h1
      · exact absurd h1 hD
    rw [if_pos c,if_pos h0]
  · have h0:P≠0:=fun h1=>by
      rw [h1,Nat.zero_mul] at hx
      rcases Nat.mul_eq_zero.1 hx with h2 | h2 <;> omega
    rw [if_neg c,if_neg h0]
    have e:rV (dirN neg d) 53 x D (0 + 1074) = rV (dirN neg d) 53 P 1 (-1074):=by
      rw [← rV_ratio _ _ (x * 2 ^ (K + K)) D P 1 _ (by omega) (by decide) (by rw [Nat.mul_one];exact hx),rV_up _ _ _ _ _ _ (by omega)]
      congr 1
      omega
    rw [e]
theorem vV_zero (m:Nat):Fq.vV Ieee.double m = 0 ↔ m = 0:=by
  unfold Fq.vV Fq.mM Fq.eE
  rw [Fq.binD]
  have:=Nat.two_pow_pos (if m < 4503599627370496 then 0 else m / 4503599627370496 - 1)
  constructor
  · intro h
    rcases Nat.mul_eq_zero.1 h with h | h
    · split at h <;> omega
    · omega
  · intro h;subst h;simp
theorem rV_sticky9 (d:Int) (p N D h r H:Nat) (t:Int) (hD:0 < D) (hp:0 < p) (hp53:p≤53) (hN:N = h * D + r) (hr:r < D) (hH:H = 2 * h + (if r = 0 then 0 else 1)) (hbig:r = 0∨9007199254740992≤h):rV d p (2 * N) D t = rV d p H 1 t:=by
  by_cases c:r = 0
  · rw [if_pos c,Nat.add_zero] at hH
    refine rV_ratio d p _ _ _ _ t hD (by omega) ?_
    rw [hN,hH,c,Nat.add_zero,Nat.mul_one,Nat.mul_assoc]
  · rw [if_neg c] at hH
    have hh:9007199254740992≤h:=by rcases hbig with h9 | h9;exact absurd h9 c;exact h9
    have e0:rV d p H 1 t = rV d p (H * D) D t:=rV_ratio d p _ _ _ _ t (by omega) hD (by rw [Nat.mul_one])
    rw [e0]
    unfold rV
    obtain ⟨x,hx⟩:∃ x,x = t.toNat:=⟨_,rfl⟩
    obtain ⟨y,hy⟩:∃ y,y = (-t).toNat:=⟨_,rfl⟩
    rw [← hx,← hy]
    obtain ⟨X,hX⟩:∃ X,X = 2 ^ x:=⟨_,rfl⟩
    have hXp:0 < X:=by rw [hX];exact Nat.pow_pos (by omega)
    have hB:0 < D * 2 ^ y:=Nat.mul_pos hD (Nat.pow_pos (by omega))
    obtain ⟨E,hE⟩:∃ E,E = rE p (2 * N * 2 ^ x) (D * 2 ^ y):=⟨_,rfl⟩
    have hs:=(rE_spec p (2 * N * 2 ^ x) (D * 2 ^ y) hB hp).1
    rw [← hE] at hs
    have hbound:x + 2≤y + E:=by
      by_cases c2:x + 2≤y + E
      · exact c2
      · exfalso
        have h1:D * 2 ^ y * 2 ^ (E + p)≤D * 2 ^ (x + 54):=by
          rw [Nat.mul_assoc,← Nat.pow_add]
          exact Nat.mul_le_mul_left _ (Nat.pow_le_pow_right (by omega) (by omega))
        have h2:D * 2 ^ (x + 54)≤2 * N * 2 ^ x:=by
          rw [Nat.pow_add,Nat.mul_left_comm,Nat.mul_comm (2 * N)]
          refine Nat.mul_le_mul_left _ ?_
          rw [show (2:Nat) ^ 54 = 18014398509481984 from by decide,hN]
          have h9:9007199254740992 * D≤h * D:=Nat.mul_le_mul_right _ hh
          generalize h * D = g at h9 ⊢
          clear hN hH hE hs c2 h1
          omega
        omega
    refine rU_sticky d p (2 * N * 2 ^ x) (H * D * 2 ^ x) (D * 2 ^ y) (2 * D * X) h (2 * r * X) (D * X) (2 ^ (y + E - x - 2)) hB hp ?_ ?_ ?_ ?_ ?_ ?_
    · rw [hN,← hX]
      rw [Nat.mul_add,Nat.add_mul,← Nat.mul_assoc h,Nat.mul_left_comm 2 h D]
    · exact Nat.mul_lt_mul_of_pos_right (by omega) hXp
    · rw [hH,← hX,Nat.add_mul,Nat.add_mul,Nat.one_mul,Nat.mul_assoc 2 h D,Nat.mul_left_comm 2 h D,Nat.mul_assoc h]
    · exact Nat.mul_lt_mul_of_pos_right (by omega) hXp
    · have a1:0 < 2 * r * X:=Nat.mul_pos (by omega) hXp
      have a2:0 < D * X:=Nat.mul_pos hD hXp
      constructor <;> intro h9 <;> omega
    · rw [← hE,hX]
      have e1:(2:Nat) ^ y * 2 ^ E = 4 * 2 ^ x * 2 ^ (y + E - x - 2):=by
        rw [← Nat.pow_add,show (4:Nat) = 2 ^ 2 from rfl,← Nat.pow_add,← Nat.pow_add]
        exact congrArg _ (by omega)
      rw [Nat.mul_assoc D,e1]
      generalize (2:Nat) ^ x = a
      generalize (2:Nat) ^ (y + E - x - 2) = b
      rw [show (4:Nat) = 2 * 2 from rfl]
      ac_rfl
theorem sgn_mul (u p:Int) (hp:0 < p):(u < 0 ↔ u * p < 0)∧(0 < u ↔ 0 < u * p):=by
  rcases Int.lt_trichotomy u 0 with c | c | c
  · have:=Int.mul_neg_of_neg_of_pos c hp
    omega
  · rw [c,Int.zero_mul];omega
  · have:=Int.mul_pos c hp
    omega
theorem pw53:(2:Nat) ^ 53 = 9007199254740992:=by decide
theorem Nr.mag {v s:Int} {T:Nat} (h:Nr v s T) (h1:T≠1):4503599627370496 * T≤s.natAbs:=by
  have hl:=h.low.resolve_left h1
  have hn:=h.near
  have hp:=h.pos
  obtain ⟨k,hk⟩:=h.dvd
  have e:s.natAbs = T * k.natAbs:=by rw [hk,Int.natAbs_mul,Int.natAbs_natCast]
  rw [e]
  rcases Nat.lt_or_ge k.natAbs 4503599627370496 with c | c
  · exfalso
    have h5:T * k.natAbs≤T * 4503599627370495:=Nat.mul_le_mul_left T (by omega)
    omega
  · have h5:=Nat.mul_le_mul_left T c
    omega
theorem pow4 (t:Nat):4 ^ t = 2 ^ t * 2 ^ t:=by rw [show (4:Nat) = 2 * 2 from rfl,Nat.mul_pow]
theorem isrt_div (num den r:Nat) (hden:0 < den) (h:IsRt (num / den) r):r * r * den≤num∧num < (r + 1) * (r + 1) * den :=
  ⟨(Nat.le_div_iff_mul_le hden).1 h.1,(Nat.div_lt_iff_lt_mul hden).1 h.2⟩
theorem blen_divQ (num den:Nat) (g:Nat) (hn:num≠0) (hd:den≠0) (h:blen num = blen den + g) (hg:1≤g):2 ^ (g - 1)≤num / den∧num / den < 2 ^ (g + 1):=by
  obtain ⟨n1,n2,_⟩:=blen_spec num hn
  obtain ⟨d1,d2,db⟩:=blen_spec den hd
  constructor
  · rw [Nat.le_div_iff_mul_le (by omega)]
    have:2 ^ (g - 1) * den≤2 ^ (g - 1) * 2 ^ blen den:=Nat.mul_le_mul_left _ (by omega)
    rw [← Nat.pow_add,show g - 1 + blen den = blen num - 1 from by omega] at this
    omega
  · rw [Nat.div_lt_iff_lt_mul (by omega)]
    have:2 ^ (g + 1) * 2 ^ (blen den - 1)≤2 ^ (g + 1) * den:=Nat.mul_le_mul_left _ d1
    rw [← Nat.pow_add,show g + 1 + (blen den - 1) = blen num from by omega] at this
    omega
theorem root_round (B r i:Nat) (h0:r % 2 ^ (i + 1) = 0) (h2:B < (r + 2 ^ (i + 1)) * (r + 2 ^ (i + 1))) :
    (∀ t,t = r + 2 ^ i→2 * i < blen B→t * t≤B→t % 2 ^ i = 0∧B < (t + 2 ^ i) * (t + 2 ^ i))∧(¬ (2 * i < blen B∧(r + 2 ^ i) * (r + 2 ^ i)≤B)→r % 2 ^ i = 0∧B < (r + 2 ^ i) * (r + 2 ^ i)):=by
  have hz:r % 2 ^ i = 0:=by
    obtain ⟨q,hq⟩:=Nat.dvd_of_mod_eq_zero h0
    rw [hq,Nat.pow_succ,Nat.mul_assoc]
    exact Nat.mul_mod_right _ _
  refine ⟨fun t ht _ _=>⟨?_, ?_⟩,fun hn=>⟨hz, ?_⟩⟩
  · rw [ht,Nat.add_mod_right];exact hz
  · rw [ht,Nat.add_assoc,show 2 ^ i + 2 ^ i = 2 ^ (i + 1) from by rw [Nat.pow_succ];omega];exact h2
  · refine Decidable.byContradiction fun c=>hn ⟨?_,by omega⟩
    refine Decidable.byContradiction fun c2=>c ?_
    have b1:B < 2 ^ (2 * i):=(blen_le_iff B _).1 (by omega)
    have b2:2 ^ i * 2 ^ i≤(r + 2 ^ i) * (r + 2 ^ i):=Nat.mul_le_mul (by omega) (by omega)
    rw [← Nat.pow_add,show i + i = 2 * i from by omega] at b2
    omega
theorem root_len (B r g:Nat) (hr:IsRt B r) (b1:2 ^ (g - 1)≤B) (b2:B < 2 ^ (g + 1)) (g1:118≤g) (g2:g≤123):9007199254740992≤r∧r < 4611686018427387904:=by
  constructor
  · refine Decidable.byContradiction fun c=>?_
    have h1:(r + 1) * (r + 1)≤2 ^ 53 * 2 ^ 53:=Nat.mul_le_mul (by rw [pw53];omega) (by rw [pw53];omega)
    have h2:2 ^ 106≤2 ^ (g - 1):=Nat.pow_le_pow_right (by decide) (by omega)
    have:=hr.2
    rw [← Nat.pow_add] at h1
    omega
  · refine Decidable.byContradiction fun c=>?_
    have h1:2 ^ 62 * 2 ^ 62≤r * r:=Nat.mul_le_mul (by rw [show (2:Nat) ^ 62 = 4611686018427387904 from by decide];omega) (by rw [show (2:Nat) ^ 62 = 4611686018427387904 from by decide];omega)
    have h2:2 ^ (g + 1)≤2 ^ 124:=Nat.pow_le_pow_right (by decide) (by omega)
    have:=hr.1
    rw [← Nat.pow_add] at h1
    omega
end Go.Proofs.YtfhcmabejagknaaGreatDoor
