import Derived.Test.YtnileplkkmhdgaaGreatDoorKQM
import Derived.Test.YtnileplkkmhdgaaGreatDoorKXY
namespace Go.Proofs.YtnileplkkmhdgaaGreatDoor
open Go.RowKit
def Iv (n:Bool) (m:Nat):Int:=if n then -((Fq.vV Ieee.double m:Nat):Int) else ((Fq.vV Ieee.double m:Nat):Int)
theorem lpD9:Ieee.double.leastPlace = -1074:=by decide +kernel
theorem fbD9:Ieee.double.fractionBits = 52:=rfl
theorem wdD9 (n:Bool) (r:Nat):Ieee.double.word n r = Fq.wD n r:=by unfold Ieee.Format.word Fq.wD;rw [Fq.signD]
theorem log2_blen (m:Nat) (h:m≠0):blen m = m.log2 + 1:=by unfold blen;rw [if_neg h]
open Ieee in
theorem nearest_def (f:Format) (neg:Bool) (mag:Nat) (place:Int) (h:mag≠0):f.nearest neg mag place = f.word neg (min ((max (place + (mag.log2:Nat) - (f.fractionBits:Nat)) f.leastPlace - f.leastPlace).toNat * f.binade + Toward.even.cut neg (mag <<< (place - max (place + (mag.log2:Nat) - (f.fractionBits:Nat)) f.leastPlace).toNat) (max (place + (mag.log2:Nat) - (f.fractionBits:Nat)) f.leastPlace - place).toNat) f.infRung):=by
  unfold Format.nearest
  rw [if_neg h]
theorem near_w (neg:Bool) (mag:Nat) (place:Int) (t:Nat) (ht:(t:Int) = place + 1074):Ieee.double.nearest neg mag place = Fq.wD neg (finU 53 2098 9218868437227405311 9218868437227405312 0 (rU 0 53 (mag * 2 ^ t) 1)):=by
  by_cases c:mag = 0
  · unfold Ieee.Format.nearest
    rw [if_pos c,wdD9,c,Nat.zero_mul]
    have h0:rU 0 53 0 1 = 0:=by
      unfold rU rS rR
      rw [Nat.zero_div,Nat.zero_mod,upw_none _ _ _ (by rw [Nat.one_mul];exact Nat.two_pow_pos _)]
      simp
    rw [h0]
    unfold finU
    rw [blen_zero,if_pos (by omega),rgU_zero]
  · rw [nearest_def _ _ _ _ c,wdD9,lpD9,fbD9,Fq.binD,Fq.infD]
    obtain ⟨A,hA⟩:∃ A,A = mag * 2 ^ t:=⟨_,rfl⟩
    have hbA:blen A = mag.log2 + 1 + t:=by rw [hA,blen_mul _ _ c,log2_blen mag c]
    obtain ⟨E,hE⟩:∃ E,E = rE 53 A 1:=⟨_,rfl⟩
    have hE2:E = mag.log2 + t - 52:=by rw [hE];unfold rE;rw [Nat.div_one,hbA];omega
    obtain ⟨last,hl⟩:∃ last:Int,last = max (place + (mag.log2:Nat) - ((52:Nat):Int)) (-1074):=⟨_,rfl⟩
    have hlE:(E:Int) = last + 1074:=by rw [hl];omega
    obtain ⟨K,hK⟩:∃ K,K = rS 53 A 1 + (upw 0 (rS 53 A 1) (rR 53 A 1) (1 * 2 ^ rE 53 A 1)).toNat:=⟨_,rfl⟩
    have hkept:Ieee.Toward.even.cut neg (mag <<< (place - last).toNat) (last - place).toNat = K:=by
      rw [cut_even,hK]
      unfold rS rR
      rw [← hE,Nat.one_mul,Nat.shiftLeft_eq]
      by_cases c1:E≤t
      · rw [show (place - last).toNat = t - E from by omega,show (last - place).toNat = 0 from by omega,Nat.pow_zero,Nat.div_one,Nat.mod_one,upw_none _ _ _ (by omega)]
        have e1:A = mag * 2 ^ (t - E) * 2 ^ E:=by rw [hA,Nat.mul_assoc,← Nat.pow_add];congr 2;omega
        rw [e1,Nat.mul_div_cancel _ (Nat.two_pow_pos E),Nat.mul_mod_left,upw_none _ _ _ (Nat.two_pow_pos E)]
      · rw [show (place - last).toNat = 0 from by omega,show (last - place).toNat = E - t from by omega,Nat.pow_zero,Nat.mul_one]
        have e1:2 ^ E = 2 ^ (E - t) * 2 ^ t:=by rw [← Nat.pow_add];congr 1;omega
        rw [hA,e1,Nat.mul_div_mul_right _ _ (Nat.two_pow_pos t),Nat.mul_mod_mul_right,upw_scale _ _ _ _ _ (Nat.two_pow_pos t)]
    rw [← hl]
    rw [hkept,show (last - (-1074)).toNat = E from by omega,← hA]
    obtain ⟨_,_,_,_,h5,h6⟩:=rung_of A 0 E K hE hK
    unfold finU
    congr 1
    by_cases c2:blen (rU 0 53 A 1)≤2098
    · rw [if_pos c2,h5];exact Nat.min_eq_left (Nat.le_of_lt (h6.1 c2))
    · rw [if_neg c2,if_neg (by decide)]
      exact Nat.min_eq_right (Nat.le_of_not_lt (fun h=>c2 (h6.2 h)))
theorem vV_rung (A:Nat) (d:Int):Fq.vV Ieee.double (rgU 53 (rU d 53 A 1)) = rU d 53 A 1:=by
  obtain ⟨E,hE⟩:∃ E,E = rE 53 A 1:=⟨_,rfl⟩
  obtain ⟨K,hK⟩:∃ K,K = rS 53 A 1 + (upw d (rS 53 A 1) (rR 53 A 1) (1 * 2 ^ rE 53 A 1)).toNat:=⟨_,rfl⟩
  obtain ⟨h1,h2,h3,h4,h5,_⟩:=rung_of A d E K hE hK
  rw [h5,h1]
  unfold Fq.vV Fq.mM Fq.eE
  rw [Fq.binD]
  by_cases c0:E * 4503599627370496 + K < 4503599627370496
  · have:E = 0:=by omega
    rw [if_pos c0,if_pos c0,this];simp
  · rw [if_neg c0,if_neg c0]
    by_cases c1:K = 9007199254740992
    · rw [c1,show (E * 4503599627370496 + 9007199254740992) / 4503599627370496 = E + 2 from by omega,show (E * 4503599627370496 + 9007199254740992) % 4503599627370496 = 0 from by omega,show E + 2 - 1 = E + 1 from by omega,Nat.pow_succ]
      omega
    · have hge:4503599627370496≤K:=by omega
      rw [show (E * 4503599627370496 + K) / 4503599627370496 = E + 1 from by omega,show (E * 4503599627370496 + K) % 4503599627370496 = K - 4503599627370496 from by omega,show 4503599627370496 + (K - 4503599627370496) = K from by omega,Nat.add_sub_cancel]
open Ieee in
theorem signed_mul (n:Bool) (m u v:Nat):signed n m u * ((2 ^ v:Nat):Int) = if n then -((m * 2 ^ (u + v):Nat):Int) else ((m * 2 ^ (u + v):Nat):Int):=by
  unfold signed
  rw [Nat.shiftLeft_eq]
  cases n
  · simp [Nat.pow_add,Int.mul_assoc]
  · simp [Nat.pow_add,Int.mul_assoc,Int.neg_mul]
theorem add_w (n n':Bool) (m m':Nat) (h:m < 9218868437227405312) (h':m' < 9218868437227405312) (V:Int) (hV:V = Iv n m + Iv n' m') :
    FloatKind.f64.format.add (Fq.wD n m) (Fq.wD n' m') = some (Fq.wD (if V = 0 then n && n' else decide (V < 0)) (finU 53 2098 9218868437227405311 9218868437227405312 0 (rU 0 53 V.natAbs 1))):=by
  show Ieee.double.add _ _ = _
  unfold Ieee.Format.add
  rw [Fq.read_fin _ _ (by rw [Fq.rgD n m (by omega),Fq.infD];exact h),Fq.read_fin _ _ (by rw [Fq.rgD n' m' (by omega),Fq.infD];exact h'),Fq.rgD n m (by omega),Fq.rgD n' m' (by omega),Fq.ngD n m (by omega),Fq.ngD n' m' (by omega),lpD9]
  unfold Ieee.Datum.sum
  obtain ⟨e,he⟩:∃ e,e = Fq.eE Ieee.double m:=⟨_,rfl⟩
  obtain ⟨e',he'⟩:∃ e',e' = Fq.eE Ieee.double m':=⟨_,rfl⟩
  obtain ⟨a,ha⟩:∃ a,a = Fq.mM Ieee.double m:=⟨_,rfl⟩
  obtain ⟨a',ha'⟩:∃ a',a' = Fq.mM Ieee.double m':=⟨_,rfl⟩
  rw [← he,← he',← ha,← ha']
  obtain ⟨b,hb⟩:∃ b,b = min e e':=⟨_,rfl⟩
  simp only
  rw [show min (-1074 + (e:Int)) (-1074 + (e':Int)) = -1074 + (b:Int) from by omega,show (-1074 + (e:Int) - (-1074 + (b:Int))).toNat = e - b from by omega,show (-1074 + (e':Int) - (-1074 + (b:Int))).toNat = e' - b from by omega]
  obtain ⟨t,ht⟩:∃ t,t = Ieee.signed n a (e - b) + Ieee.signed n' a' (e' - b):=⟨_,rfl⟩
  have hT:t * ((2 ^ b:Nat):Int) = V:=by
    rw [ht,Int.add_mul,signed_mul,signed_mul,hV,show e - b + b = e from by omega,show e' - b + b = e' from by omega]
    unfold Iv Fq.vV
    rw [← he,← he',← ha,← ha']
  have hp:(0:Int) < ((2 ^ b:Nat):Int):=by have:=Nat.two_pow_pos b;omega
  rw [← ht]
  simp only [Option.map_some]
  unfold Ieee.Format.write
  simp only
  rw [near_w _ _ _ b (by omega)]
  have hab:t.natAbs * 2 ^ b = V.natAbs:=by rw [← hT,Int.natAbs_mul,Int.natAbs_natCast]
  rw [hab]
  have h0:t = 0 ↔ V = 0:=by
    constructor
    · intro h;rw [← hT,h,Int.zero_mul]
    · intro h;rw [h] at hT
      rcases Int.mul_eq_zero.1 hT with h | h
      · exact h
      · omega
  have hs:t < 0 ↔ V < 0:=by
    rw [← hT]
    constructor
    · intro h;exact Int.mul_neg_of_neg_of_pos h hp
    · intro h
      rcases Int.lt_or_le t 0 with c | c
      · exact c
      · have:=Int.mul_nonneg c (Int.le_of_lt hp);omega
  by_cases c:t = 0
  · rw [if_pos c,if_pos (h0.1 c)]
  · rw [if_neg c,if_neg (fun h=>c (h0.2 h)),decide_eq_decide.2 hs]
theorem dirs (A:Nat):(A < rU 0 53 A 1→rgU 53 (rU (-1) 53 A 1) + 1 = rgU 53 (rU 0 53 A 1))∧(rU 0 53 A 1≤A→rgU 53 (rU (-1) 53 A 1) = rgU 53 (rU 0 53 A 1))∧(rU 0 53 A 1 < A→rgU 53 (rU 1 53 A 1) = rgU 53 (rU 0 53 A 1) + 1)∧(A≤rU 0 53 A 1→rgU 53 (rU 1 53 A 1) = rgU 53 (rU 0 53 A 1)):=by
  obtain ⟨E,hE⟩:∃ E,E = rE 53 A 1:=⟨_,rfl⟩
  obtain ⟨q,hq⟩:∃ q,q = rS 53 A 1:=⟨_,rfl⟩
  obtain ⟨r,hr⟩:∃ r,r = rR 53 A 1:=⟨_,rfl⟩
  obtain ⟨T,hT⟩:∃ T,T = 2 ^ E:=⟨_,rfl⟩
  have hTp:0 < T:=by rw [hT];exact Nat.two_pow_pos E
  have hA:A = q * T + r:=by
    rw [hq,hr,hT,hE];unfold rS rR;rw [Nat.one_mul,Nat.mul_comm];exact (Nat.div_add_mod _ _).symm
  have hrl:r < T:=by rw [hr,hT,hE];unfold rR;rw [Nat.one_mul];exact Nat.mod_lt _ (Nat.two_pow_pos _)
  have h0:=rung_of A 0 E (q + (upw 0 q r T).toNat) hE (by rw [hq,hr,hT,hE,Nat.one_mul])
  have h1:=rung_of A 1 E (q + (upw 1 q r T).toNat) hE (by rw [hq,hr,hT,hE,Nat.one_mul])
  have h2:=rung_of A (-1) E (q + (upw (-1) q r T).toNat) hE (by rw [hq,hr,hT,hE,Nat.one_mul])
  rw [← hT] at h0 h1 h2
  have e1:upw 1 q r T = decide (0 < r):=by unfold upw;simp
  have e2:upw (-1) q r T = false:=by unfold upw;simp
  rw [e1] at h1
  rw [e2] at h2
  rw [h0.2.2.2.2.1,h1.2.2.2.2.1,h2.2.2.2.2.1,h0.1]
  have hexp:∀ b:Bool,(q + b.toNat) * T = q * T + b.toNat * T:=fun b=>Nat.add_mul _ _ _
  rw [hexp]
  have hno:upw 0 q 0 T = false:=upw_none _ _ _ hTp
  cases hu:upw 0 q r T
  · simp only [Bool.toNat_false,Nat.zero_mul,Nat.add_zero]
    by_cases c:0 < r
    · rw [decide_eq_true c]
      simp only [Bool.toNat_true]
      refine ⟨fun h=>by omega,fun _=>trivial,fun _=>by omega,fun h=>by omega⟩
    · rw [decide_eq_false c]
      simp only [Bool.toNat_false,Nat.add_zero]
      refine ⟨fun h=>by omega,fun _=>trivial,fun h=>by omega,fun _=>trivial⟩
  · have hr0:0 < r:=by
      rcases Nat.eq_zero_or_pos r with h | h
      · rw [h,hno] at hu;cases hu
      · exact h
    rw [decide_eq_true hr0]
    simp only [Bool.toNat_true,Bool.toNat_false,Nat.one_mul,Nat.add_zero]
    refine ⟨fun _=>by omega,fun h=>by omega,fun h=>by omega,fun _=>trivial⟩
theorem dir_oth (A:Nat) (d:Int) (h1:d≠1) (h2:d≠-1):rU d 53 A 1 = rU 0 53 A 1:=by
  unfold rU
  have e:∀ S r w:Nat,upw d S r w = upw 0 S r w:=fun S r w=>by unfold upw;rw [if_neg h1,if_neg h2,if_neg (by decide),if_neg (by decide)]
  rw [e]
def sumW (d V:Int):Nat:=if V = 0 then 0 else mdW (decide (V < 0)) (finU 53 2098 9218868437227405311 9218868437227405312 (dirN (decide (V < 0)) d) (rU (dirN (decide (V < 0)) d) 53 V.natAbs 1))
theorem rU_blen (A:Nat) (d:Int) (k:Nat) (hk:53≤k) (h:A < 2 ^ k):blen (rU d 53 A 1)≤k + 1:=by
  obtain ⟨E,hE⟩:∃ E,E = rE 53 A 1:=⟨_,rfl⟩
  obtain ⟨K,hK⟩:∃ K,K = rS 53 A 1 + (upw d (rS 53 A 1) (rR 53 A 1) (1 * 2 ^ rE 53 A 1)).toNat:=⟨_,rfl⟩
  obtain ⟨h1,h2,h3,h4,h5,_⟩:=rung_of A d E K hE hK
  rw [h1]
  have hEk:E≤k - 53:=by
    rw [hE];unfold rE;rw [Nat.div_one]
    have:=(blen_le_iff A k).2 h
    omega
  rw [blen_le_iff]
  have hp:2 ^ E≤2 ^ (k - 53):=Nat.pow_le_pow_right (by omega) hEk
  have e1:2 ^ (k + 1) = 2 ^ 54 * 2 ^ (k - 53):=by rw [← Nat.pow_add];congr 1;omega
  rw [e1,show (2:Nat) ^ 54 = 18014398509481984 from by decide]
  have hp0:=Nat.two_pow_pos (k - 53)
  calc K * 2 ^ E≤9007199254740992 * 2 ^ (k - 53):=Nat.mul_le_mul h2 hp
    _ < 18014398509481984 * 2 ^ (k - 53):=Nat.mul_lt_mul_of_pos_right (by decide) hp0
theorem fin_small (A:Nat) (d d2:Int) (k:Nat) (hk:53≤k) (hk2:k≤2097) (h:A < 2 ^ k):finU 53 2098 9218868437227405311 9218868437227405312 d2 (rU d 53 A 1) = rgU 53 (rU d 53 A 1)∧rgU 53 (rU d 53 A 1) < 9218868437227405312:=by
  have hb:=rU_blen A d k hk h
  have hb2:blen (rU d 53 A 1)≤2098:=by omega
  constructor
  · unfold finU;rw [if_pos hb2]
  · have h9:=rung_of A d _ _ rfl rfl
    rw [h9.2.2.2.2.1];exact h9.2.2.2.2.2.1 hb2
theorem op_nr (V:Int) (sz:Bool) (k:Nat) (hk:53≤k) (hk2:k≤2097) (h:V.natAbs < 2 ^ k):∃ s r T,Fq.wD (if V = 0 then sz else decide (V < 0)) (finU 53 2098 9218868437227405311 9218868437227405312 0 (rU 0 53 V.natAbs 1)) = Fq.wD s r∧r < 9218868437227405312∧Nr V (Iv s r) T∧r = rgU 53 (rU 0 53 V.natAbs 1)∧s = (if V = 0 then sz else decide (V < 0))∧(Iv s r).natAbs < 2 ^ (k + 1):=by
  obtain ⟨h1,h2⟩:=fin_small V.natAbs 0 0 k hk hk2 h
  have hval:Iv (if V = 0 then sz else decide (V < 0)) (rgU 53 (rU 0 53 V.natAbs 1)) = if V < 0 then -((rU 0 53 V.natAbs 1:Nat):Int) else ((rU 0 53 V.natAbs 1:Nat):Int):=by
    unfold Iv
    rw [vV_rung]
    by_cases c:V = 0
    · have h0:rU 0 53 V.natAbs 1 = 0:=by
        rw [c]
        unfold rU rS rR
        rw [Int.natAbs_zero,Nat.zero_div,Nat.zero_mod,upw_none _ _ _ (by rw [Nat.one_mul];exact Nat.two_pow_pos _)]
        simp
      have hn:¬ V < 0:=by rw [c];decide
      rw [h0,if_neg hn]
      simp
    · rw [if_neg c]
      by_cases c2:V < 0
      · rw [decide_eq_true c2,if_pos rfl,if_pos c2]
      · rw [decide_eq_false c2,if_neg (by simp),if_neg c2]
  refine ⟨_,_,2 ^ rE 53 V.natAbs 1,by rw [h1],h2, ?_,rfl,rfl, ?_⟩
  · rw [hval]
    have hn:=rn_nr V.natAbs
    by_cases c2:V < 0
    · rw [if_pos c2]
      have e:V = -((V.natAbs:Nat):Int):=by omega
      have hn2:=hn.neg
      rw [← e] at hn2
      exact hn2
    · rw [if_neg c2]
      have e:((V.natAbs:Nat):Int) = V:=by omega
      rw [e] at hn
      exact hn
  · rw [hval]
    have hb:=(blen_le_iff _ _).1 (rU_blen V.natAbs 0 k hk h)
    split
    · rw [Int.natAbs_neg,Int.natAbs_natCast];exact hb
    · rw [Int.natAbs_natCast];exact hb
end Go.Proofs.YtnileplkkmhdgaaGreatDoor
