import Derived.Test.YtfhcmabejagknaaGreatDoorKFM
import Derived.Test.YtfhcmabejagknaaGreatDoorKMR17
namespace Go.Proofs.YtfhcmabejagknaaGreatDoor
open Go.RowKit
theorem rU_floor (p A B:Nat) (h:blen (A / B)≤p):rU (-1) p A B = A / B:=by
  have hE:rE p A B = 0:=by unfold rE;omega
  unfold rU rS rR
  rw [hE,Nat.pow_zero,Nat.mul_one,Nat.mul_one]
  have e:upw (-1) (A / B) (A % B) B = false:=by unfold upw;simp
  rw [e];simp
theorem near_shift (neg:Bool) (a j:Nat) (p:Int) (ha:a≠0):Ieee.double.nearest neg (a * 2 ^ j) p = Ieee.double.nearest neg a (p + j):=by
  have hp:=Nat.two_pow_pos j
  have hm:a * 2 ^ j≠0:=fun h=>by rcases Nat.mul_eq_zero.1 h with h | h <;> omega
  have hlg:(a * 2 ^ j).log2 = a.log2 + j:=by
    have h1:=blen_mul a j ha
    rw [log2_blen _ hm,log2_blen _ ha] at h1
    omega
  rw [nearest_def _ _ _ _ hm,nearest_def _ _ _ _ ha,lpD9,fbD9,Fq.binD,Fq.infD,hlg]
  obtain ⟨last,hl⟩:∃ last:Int,last = max (p + ((a.log2 + j:Nat):Int) - ((52:Nat):Int)) (-1074):=⟨_,rfl⟩
  have hl2:max (p + (j:Int) + ((a.log2:Nat):Int) - ((52:Nat):Int)) (-1074) = last:=by rw [hl];congr 1;omega
  rw [← hl,hl2]
  congr 3
  rw [cut_even,cut_even,Nat.shiftLeft_eq,Nat.shiftLeft_eq]
  by_cases c1:last≤p
  · rw [show (last - p).toNat = 0 from by omega,show (last - (p + (j:Int))).toNat = 0 from by omega,show (p + (j:Int) - last).toNat = j + (p - last).toNat from by omega,Nat.pow_add,Nat.mul_assoc]
  · rw [show (p - last).toNat = 0 from by omega,Nat.pow_zero,Nat.mul_one]
    by_cases c2:last≤p + (j:Int)
    · rw [show (last - (p + (j:Int))).toNat = 0 from by omega]
      obtain ⟨c,hc⟩:∃ c,c = (last - p).toNat:=⟨_,rfl⟩
      rw [← hc,show (p + (j:Int) - last).toNat = j - c from by omega]
      have e1:a * 2 ^ j = a * 2 ^ (j - c) * 2 ^ c:=by rw [Nat.mul_assoc,← Nat.pow_add];congr 2;omega
      rw [e1,Nat.mul_div_cancel _ (Nat.two_pow_pos c),Nat.mul_mod_left,upw_none _ _ _ (Nat.two_pow_pos c),Nat.pow_zero,Nat.div_one,Nat.mod_one,upw_none _ _ _ (by omega)]
    · rw [show (p + (j:Int) - last).toNat = 0 from by omega,Nat.pow_zero,Nat.mul_one]
      obtain ⟨c,hc⟩:∃ c,c = (last - (p + (j:Int))).toNat:=⟨_,rfl⟩
      rw [← hc,show (last - p).toNat = c + j from by omega,Nat.pow_add,Nat.mul_div_mul_right _ _ hp,Nat.mul_mod_mul_right,upw_scale _ _ _ _ _ hp]
theorem near_v (neg:Bool) (mag P K t:Nat) (place:Int) (ht:(t:Int) = place + 1074 + K) (hP:mag * 2 ^ t = P * 2 ^ K):Ieee.double.nearest neg mag place = Fq.wD neg (finU 53 2098 9218868437227405311 9218868437227405312 0 (rU 0 53 P 1)):=by
  by_cases c:K≤t
  · have e:mag * 2 ^ (t - K) = P:=by
      have h1:mag * 2 ^ (t - K) * 2 ^ K = P * 2 ^ K:=by
        rw [Nat.mul_assoc,← Nat.pow_add,show t - K + K = t from by omega,hP]
      exact Nat.eq_of_mul_eq_mul_right (Nat.two_pow_pos K) h1
    rw [near_w neg mag place (t - K) (by omega),e]
  · have e:mag = P * 2 ^ (K - t):=by
      have h1:mag * 2 ^ t = P * 2 ^ (K - t) * 2 ^ t:=by
        rw [hP,Nat.mul_assoc,← Nat.pow_add,show K - t + t = K from by omega]
      exact Nat.eq_of_mul_eq_mul_right (Nat.two_pow_pos t) h1
    by_cases c0:P = 0
    · have h0:mag = 0:=by rw [e,c0,Nat.zero_mul]
      have h1:=near_w neg 0 (-1074) 0 (by omega)
      rw [Nat.zero_mul] at h1
      rw [c0,← h1,h0]
      unfold Ieee.Format.nearest
      rw [if_pos rfl,if_pos rfl]
    · rw [e,near_shift neg P (K - t) place c0,near_w neg P _ 0 (by omega),Nat.pow_zero,Nat.mul_one]
theorem mul_v (n n':Bool) (m m':Nat) (h:m < 9218868437227405312) (h':m' < 9218868437227405312) (K:Nat) (V:Int) (hK:K = 1074) (hV:V * ((2 ^ K:Nat):Int) = Iv n m * Iv n' m') :
    FloatKind.f64.format.mul (Fq.wD n m) (Fq.wD n' m') = some (Fq.wD (if V = 0 then n ^^ n' else decide (V < 0)) (finU 53 2098 9218868437227405311 9218868437227405312 0 (rU 0 53 V.natAbs 1))):=by
  have hab:V.natAbs * 2 ^ K = Fq.vV Ieee.double m * Fq.vV Ieee.double m':=by
    have h1:=congrArg Int.natAbs hV
    rw [Int.natAbs_mul,Int.natAbs_mul,Int.natAbs_natCast,iv_abs,iv_abs] at h1
    exact h1
  have hsg:V≠0→(n ^^ n') = decide (V < 0):=fun hv=>by
    have hp:(0:Int) < ((2 ^ K:Nat):Int):=by have:=Nat.two_pow_pos K;omega
    obtain ⟨q,hq⟩:∃ q:Int,q = ((2 ^ K:Nat):Int):=⟨_,rfl⟩
    rw [← hq] at hV hp
    have hz:V * q≠0:=fun h=>by rcases Int.mul_eq_zero.1 h with h | h <;> omega
    have hs:V < 0 ↔ V * q < 0:=by
      constructor
      · intro h;exact Int.mul_neg_of_neg_of_pos h hp
      · intro h
        rcases Int.lt_or_le V 0 with c | c
        · exact c
        · have:=Int.mul_nonneg c (Int.le_of_lt hp);omega
    obtain ⟨x,hx⟩:∃ x:Int,x = ((Fq.vV Ieee.double m:Nat):Int):=⟨_,rfl⟩
    obtain ⟨y,hy⟩:∃ y:Int,y = ((Fq.vV Ieee.double m':Nat):Int):=⟨_,rfl⟩
    have hxy:0≤x * y:=Int.mul_nonneg (by omega) (by omega)
    unfold Iv at hV
    rw [← hx,← hy] at hV
    cases n <;> cases n' <;> simp only [if_true,if_false,Bool.false_eq_true,Int.neg_mul,Int.mul_neg,Int.neg_neg] at hV <;> by_cases c:V < 0 <;> simp [c] <;> omega
  show Ieee.double.mul _ _ = _
  unfold Ieee.Format.mul
  rw [Fq.read_fin _ _ (by rw [Fq.rgD n m (by omega),Fq.infD];exact h),Fq.read_fin _ _ (by rw [Fq.rgD n' m' (by omega),Fq.infD];exact h'),Fq.rgD n m (by omega),Fq.rgD n' m' (by omega),Fq.ngD n m (by omega),Fq.ngD n' m' (by omega),lpD9]
  unfold Ieee.Datum.product
  unfold Fq.vV at hab
  obtain ⟨e,hee⟩:∃ e,e = Fq.eE Ieee.double m:=⟨_,rfl⟩
  obtain ⟨e',hee'⟩:∃ e',e' = Fq.eE Ieee.double m':=⟨_,rfl⟩
  obtain ⟨a,ha⟩:∃ a,a = Fq.mM Ieee.double m:=⟨_,rfl⟩
  obtain ⟨a',ha'⟩:∃ a',a' = Fq.mM Ieee.double m':=⟨_,rfl⟩
  rw [← hee,← hee',← ha,← ha'] at hab
  rw [← hee,← hee',← ha,← ha']
  simp only [Option.map_some]
  unfold Ieee.Format.write
  simp only
  rw [near_v (n ^^ n') (a * a') V.natAbs K (e + e') _ (by omega) (by rw [hab,Nat.pow_add];simp only [Nat.mul_assoc,Nat.mul_left_comm])]
  congr 2
  by_cases c:V = 0
  · rw [if_pos c]
  · rw [if_neg c];exact hsg c
end Go.Proofs.YtfhcmabejagknaaGreatDoor
