import Derived.Test.YtfhcmabejagknaaGreatDoorKQM
import Derived.Test.YtfhcmabejagknaaGreatDoorKXY
namespace Go.Proofs.YtfhcmabejagknaaGreatDoor
open Go.RowKit
theorem bitLen_blen (o:Nat) (h0:o≠0) (h:o < 18446744073709551616):Lib.bitLen o = blen o:=by
  obtain ⟨a1,a2,a3,a4⟩:=Fq.bitLen_bd o h0 h
  have:=blen_uniq o (Lib.bitLen o - 1) a3 (by rw [show Lib.bitLen o - 1 + 1 = Lib.bitLen o from by omega];exact a4)
  omega
def pW (s:Nat) (neg:Bool) (m:Nat):Nat:=if m = 0 then 0 else if neg then s + m else m
theorem cut61 (d:Int) (sig c:Nat) (hs:sig < 1152921504606846976) (kp:Nat) (hk:kp = sig / 2 ^ c + (upw d (sig / 2 ^ c) (sig % 2 ^ c) (2 ^ c)).toNat) :
    kp = sig / 2 ^ min c 61 + (upw d (sig / 2 ^ min c 61) (sig % 2 ^ min c 61) (2 ^ min c 61)).toNat:=by
  by_cases h:c≤61
  · rw [Nat.min_eq_left h];exact hk
  · rw [Nat.min_eq_right (by omega)]
    have h61:(2:Nat) ^ 61≤2 ^ c:=Nat.pow_le_pow_right (by omega) (by omega)
    have e61:(2:Nat) ^ 61 = 2305843009213693952:=by decide
    rw [hk,Nat.div_eq_of_lt (by omega:sig < 2 ^ c),Nat.mod_eq_of_lt (by omega:sig < 2 ^ c),Nat.div_eq_of_lt (by omega:sig < 2 ^ 61),Nat.mod_eq_of_lt (by omega:sig < 2 ^ 61),upw_small d 0 sig (2 ^ c) (2 ^ 61) (by omega) (by omega)]
theorem jrD_rg (o:Nat) (E:Int) (h0:o≠0) (h:o < 18446744073709551616) (hj:Fq.jokD o E = true):Fq.jrD o E = rgU 53 (o * 2 ^ (E + 1074).toNat):=by
  obtain ⟨a1,a2,a3⟩:=(Fq.jokD_iff o E).1 hj
  have hb:=bitLen_blen o h0 h
  have hr:=rgU_mul 53 o (E + 1074).toNat (Fq.jshD o E) h0 (by unfold Fq.jshD;rw [hb]) (by omega)
  rw [hr]
  unfold Fq.jrD
  rw [show (2:Nat) ^ (53 - 1) = 4503599627370496 from by decide]
theorem joinPD (kp Lx U:Nat) (last:Int) (hk0:kp≠0) (hk:kp≤9007199254740992) (hl:last = (Lx:Int) - 1074) (hU:U = kp * 2 ^ Lx) :
    ∃ o k:Nat,o % 2 = 1∧kp = o * 2 ^ k∧o * 2 ^ k < 18446744073709551616∧(Fq.jokD o (last + (k:Int)) = true ↔ blen U≤2098)∧(blen U≤2098→Fq.jrD o (last + (k:Int)) = rgU 53 U∧rgU 53 U≠0):=by
  obtain ⟨o,k,ho,e⟩:=odd_part kp hk0
  have hp:0 < 2 ^ k:=Nat.pow_pos (by omega)
  have hok:o≤kp:=by rw [e];exact Nat.le_mul_of_pos_right _ hp
  have hb:=bitLen_blen o (by omega) (by omega)
  have hbl:blen o≤53:=by
    by_cases c:kp = 9007199254740992
    · by_cases c1:o = 1
      · rw [c1,blen_uniq 1 0 (by decide) (by decide)];omega
      · have h1:k≠0:=by
          intro h
          rw [h,Nat.pow_zero,Nat.mul_one] at e
          omega
        have h2:2 * o≤kp:=by
          rw [e,Nat.mul_comm 2]
          refine Nat.mul_le_mul_left _ ?_
          have:(2:Nat) ^ 1≤2 ^ k:=Nat.pow_le_pow_right (by omega) (by omega)
          simpa using this
        exact blen_lt o 53 (by rw [show (2:Nat) ^ 53 = 9007199254740992 from by decide];omega)
    · exact blen_lt o 53 (by rw [show (2:Nat) ^ 53 = 9007199254740992 from by decide];omega)
  have hE:(last + (k:Int) + 1074).toNat = k + Lx:=by omega
  have hUo:U = o * 2 ^ (last + (k:Int) + 1074).toNat:=by rw [hU,e,hE,Nat.pow_add,Nat.mul_assoc]
  have hbU:blen U = blen o + (k + Lx):=by rw [hUo,hE,blen_mul _ _ (by omega)]
  have hiff:Fq.jokD o (last + (k:Int)) = true ↔ blen U≤2098:=by
    rw [Fq.jokD_iff,hb,hbU]
    omega
  refine ⟨o,k,ho,e,by rw [← e];omega,hiff,fun h=>⟨?_, ?_⟩⟩
  · rw [jrD_rg o _ (by omega) (by omega) (hiff.2 h),← hUo]
  · intro h9
    unfold rgU at h9
    have hU0:U≠0:=by rw [hUo];exact Nat.ne_of_gt (Nat.mul_pos (by omega) (Nat.pow_pos (by omega)))
    have h1:=(blen_spec U hU0).1
    have h2:U / 2 ^ (blen U - 53) = 0:=(Nat.add_eq_zero_iff.1 h9).2
    have h3:U < 2 ^ (blen U - 53):=by
      by_cases c:U < 2 ^ (blen U - 53)
      · exact c
      · exact absurd h2 (Nat.ne_of_gt (Nat.div_pos (by omega) (Nat.pow_pos (by omega))))
    have h4:(2:Nat) ^ (blen U - 53)≤2 ^ (blen U - 1):=Nat.pow_le_pow_right (by omega) (by omega)
    omega
def FL (v:Int):Prop:=∃ k:Nat,(2 ^ k:Int) ∣ v∧v.natAbs≤9007199254740992 * 2 ^ k
structure Nr (v s:Int) (T:Nat):Prop where
  pos:0 < T
  dvd:(T:Int) ∣ s
  near:2 * (v - s).natAbs≤T
  lt:v.natAbs < 9007199254740992 * T
  low:T = 1∨4503599627370496 * T≤v.natAbs
  two:∃ E:Nat,T = 2 ^ E
theorem dvd_small {T x:Int} (_hT:0 < T) (h:T ∣ x) (hx:x.natAbs < T.natAbs):x = 0:=by
  obtain ⟨q,rfl⟩:=h
  by_cases c:q = 0
  · rw [c,Int.mul_zero]
  · exfalso
    rw [Int.natAbs_mul] at hx
    have:1≤q.natAbs:=by omega
    have:=Nat.mul_le_mul_left T.natAbs this
    omega
theorem pow_dvd_int {j k:Nat} (h:j≤k):(2 ^ j:Int) ∣ 2 ^ k:=⟨2 ^ (k - j),by rw [← Int.pow_add];congr 1;omega⟩
theorem castpow (k:Nat):((2 ^ k:Nat):Int) = (2:Int) ^ k:=by rw [Int.natCast_pow];rfl
theorem Nr.nearest {v s:Int} {T:Nat} (h:Nr v s T) {B:Int} (hB:FL B):(v - s).natAbs≤(v - B).natAbs:=by
  obtain ⟨k,hk,hb⟩:=hB
  obtain ⟨E,hE⟩:=h.two
  -- a multiple of the unit is no nearer
  have hmul:∀ C:Int,(T:Int) ∣ C→(v - s).natAbs≤(v - C).natAbs:=fun C hC=>by
    by_cases c:s = C
    · rw [c];exact Nat.le_refl _
    · have hd:(T:Int) ∣ (C - s):=Int.dvd_sub hC h.dvd
      have h1:¬ (C - s).natAbs < (T:Int).natAbs:=fun hx=>by
        have:=dvd_small (by have:=h.pos;omega) hd hx
        omega
      have h2:(T:Int).natAbs = T:=by simp
      rw [h2] at h1
      have:=h.near
      omega
  by_cases c:E≤k
  · exact hmul B (by rw [hE,castpow];exact Int.dvd_trans (pow_dvd_int c) hk)
  · have hp:2 ^ k * 2≤T:=by
      rw [hE,← Nat.pow_succ]
      exact Nat.pow_le_pow_right (by omega) (by omega)
    have hT1:¬ T = 1:=by have:=Nat.two_pow_pos k;omega
    have hlow:=h.low.resolve_left hT1
    rcases Int.lt_or_le v 0 with hv | hv
    · have:=hmul (-(4503599627370496 * (T:Int))) (Int.dvd_neg.2 (Int.dvd_mul_left _ _))
      omega
    · have:=hmul (4503599627370496 * (T:Int)) (Int.dvd_mul_left _ _)
      omega
theorem Nr.mul {v s:Int} {T:Nat} (h:Nr v s T) (j:Nat) (hj:(2 ^ j:Int) ∣ v):(2 ^ j:Int) ∣ s:=by
  obtain ⟨E,hE⟩:=h.two
  by_cases c:j≤E
  · have:=h.dvd
    rw [hE,castpow] at this
    exact Int.dvd_trans (pow_dvd_int c) this
  · have hT:(T:Int) ∣ v:=by rw [hE,castpow];exact Int.dvd_trans (pow_dvd_int (by omega)) hj
    have hd:(T:Int) ∣ (v - s):=Int.dvd_sub hT h.dvd
    have:=dvd_small (by have:=h.pos;omega) hd (by have:=h.near;have:=h.pos;simp;omega)
    rw [show s = v from by omega];exact hj
theorem FL.neg {v:Int} (h:FL v):FL (-v):=by
  obtain ⟨k,h1,h2⟩:=h
  exact ⟨k,Int.dvd_neg.2 h1,by rw [Int.natAbs_neg];exact h2⟩
theorem FL.zero:FL 0:=⟨0,Int.dvd_zero _,by simp⟩
theorem Nr.neg {v s:Int} {T:Nat} (h:Nr v s T):Nr (-v) (-s) T:=by
  obtain ⟨h1,h2,h3,h4,h5,h6⟩:=h
  exact ⟨h1,Int.dvd_neg.2 h2,by omega,by omega,by omega,h6⟩
theorem FL.both {x y:Int} (hx:FL x) (hy:FL y):∃ j:Nat,(2 ^ j:Int) ∣ x∧(2 ^ j:Int) ∣ y∧(x.natAbs≤9007199254740992 * 2 ^ j∨y.natAbs≤9007199254740992 * 2 ^ j):=by
  obtain ⟨k,h1,h2⟩:=hx
  obtain ⟨l,h3,h4⟩:=hy
  by_cases c:k≤l
  · exact ⟨k,h1,Int.dvd_trans (pow_dvd_int c) h3,Or.inl h2⟩
  · exact ⟨l,Int.dvd_trans (pow_dvd_int (by omega)) h1,h3,Or.inr h4⟩
theorem FL.unit {x:Int} (hx:FL x) (E:Nat) (h:9007199254740992 * 2 ^ E < x.natAbs):(2 ^ (E + 1):Int) ∣ x:=by
  obtain ⟨k,h1,h2⟩:=hx
  by_cases c:E + 1≤k
  · exact Int.dvd_trans (pow_dvd_int c) h1
  · exfalso
    have:2 ^ k≤2 ^ E:=Nat.pow_le_pow_right (by omega) (by omega)
    omega
open Ieee in
theorem cut_even (neg:Bool) (n drop:Nat):Toward.even.cut neg n drop = n / 2 ^ drop + (upw 0 (n / 2 ^ drop) (n % 2 ^ drop) (2 ^ drop)).toNat:=by
  unfold Toward.cut
  simp only [Nat.shiftLeft_eq,Nat.one_mul]
  have hup:∀ S r w:Nat,upw 0 S r w = (decide (w < 2 * r) || (w == 2 * r && S % 2 == 1)):=fun S r w=>by
    unfold upw
    simp
    rfl
  rcases Nat.lt_or_ge (n.log2 + 2) drop with c | c
  · rw [Nat.min_eq_right (by omega)]
    have h1:n < 2 ^ (n.log2 + 1):=Nat.lt_log2_self
    have h2:2 ^ (n.log2 + 2) = 2 * 2 ^ (n.log2 + 1):=by rw [Nat.pow_succ];omega
    have h3:2 ^ (n.log2 + 2)≤2 ^ drop:=Nat.pow_le_pow_right (by omega) (by omega)
    rw [Nat.div_eq_of_lt (show n < 2 ^ (n.log2 + 2) by omega),Nat.mod_eq_of_lt (show n < 2 ^ (n.log2 + 2) by omega),Nat.div_eq_of_lt (show n < 2 ^ drop by omega),Nat.mod_eq_of_lt (show n < 2 ^ drop by omega),hup]
    have e1:¬ 2 ^ (n.log2 + 2) < 2 * n:=by omega
    have e2:¬ 2 ^ drop < 2 * n:=by omega
    have e3:¬ 2 ^ (n.log2 + 2) = 2 * n:=by omega
    have e4:¬ 2 ^ drop = 2 * n:=by omega
    simp [e1,e2]
  · rw [Nat.min_eq_left c,hup]
theorem rung_of (A:Nat) (d:Int) (E K:Nat) (hE:E = rE 53 A 1) (hK:K = rS 53 A 1 + (upw d (rS 53 A 1) (rR 53 A 1) (1 * 2 ^ rE 53 A 1)).toNat):rU d 53 A 1 = K * 2 ^ E∧K≤9007199254740992∧(E = 0→K < 9007199254740992)∧(E = 0∨4503599627370496≤K)∧rgU 53 (rU d 53 A 1) = E * 4503599627370496 + K∧(blen (rU d 53 A 1)≤2098 ↔ E * 4503599627370496 + K < 9218868437227405312):=by
  obtain ⟨h1,h2⟩:=rE_spec 53 A 1 (by omega) (by omega)
  have hU:rU d 53 A 1 = K * 2 ^ E:=by unfold rU;rw [← hK,← hE]
  rw [← hE] at h1 h2
  rw [Nat.one_mul,Nat.pow_add,show (2:Nat) ^ 53 = 9007199254740992 from by decide] at h1
  have hTp:0 < 2 ^ E:=Nat.two_pow_pos E
  have hSq:rS 53 A 1 = A / 2 ^ E:=by unfold rS;rw [← hE,Nat.one_mul]
  have hRq:rR 53 A 1 = A % 2 ^ E:=by unfold rR;rw [← hE,Nat.one_mul]
  have hS1:rS 53 A 1 < 9007199254740992:=by rw [hSq,Nat.div_lt_iff_lt_mul hTp,Nat.mul_comm];exact h1
  have hS2:E = 0∨4503599627370496≤rS 53 A 1:=by
    rcases h2 with h | h
    · exact Or.inl h
    · right
      rw [Nat.one_mul,show E + 53 - 1 = 52 + E from by omega,Nat.pow_add,show (2:Nat) ^ 52 = 4503599627370496 from by decide] at h
      rw [hSq,Nat.le_div_iff_mul_le hTp]
      exact h
  have hb:(upw d (rS 53 A 1) (rR 53 A 1) (1 * 2 ^ rE 53 A 1)).toNat≤1:=Bool.toNat_le _
  have hK1:K≤9007199254740992:=by omega
  have hK0:E = 0→K < 9007199254740992:=fun h=>by
    have h0:rR 53 A 1 = 0:=by rw [hRq,h,Nat.pow_zero,Nat.mod_one]
    rw [h0,upw_none _ _ _ (by rw [Nat.one_mul];exact Nat.two_pow_pos _)] at hK
    simp at hK
    omega
  have hK2:E = 0∨4503599627370496≤K:=by omega
  refine ⟨hU,hK1,hK0,hK2, ?_⟩
  rw [hU]
  by_cases c0:K = 0
  · have hE0:E = 0:=by omega
    rw [c0,hE0,Nat.zero_mul,rgU_zero,blen_zero]
    omega
  · by_cases c1:K = 9007199254740992
    · have hp:0 < E:=by
        rcases Nat.eq_zero_or_pos E with h | h
        · exact absurd (hK0 h) (by omega)
        · exact h
      have e1:K * 2 ^ E = 4503599627370496 * 2 ^ (E + 1):=by rw [c1,Nat.pow_succ];omega
      have b1:blen 4503599627370496 = 53:=by
        have:=blen_uniq 4503599627370496 52 (by decide) (by decide)
        exact this
      rw [e1,rgU_mul 53 4503599627370496 (E + 1) 0 (by decide) (by rw [b1];omega) (by rw [b1];omega),blen_mul _ _ (by decide),b1,show (2:Nat) ^ (53 - 1) = 4503599627370496 from by decide,Nat.pow_zero,Nat.mul_one,c1]
      constructor
      · omega
      · omega
    · have hlt:K < 9007199254740992:=by omega
      by_cases c2:E = 0
      · rw [c2,Nat.pow_zero,Nat.mul_one]
        have hb2:blen K≤53:=by rw [blen_le_iff,show (2:Nat) ^ 53 = 9007199254740992 from by decide];exact hlt
        have:rgU 53 K = K:=by
          unfold rgU
          rw [show blen K - 53 = 0 from by omega,Nat.zero_mul,Nat.pow_zero,Nat.div_one,Nat.zero_add]
        rw [this]
        omega
      · have hge:4503599627370496≤K:=by omega
        have b1:blen K = 53:=by
          have hb2:blen K≤53:=by rw [blen_le_iff,show (2:Nat) ^ 53 = 9007199254740992 from by decide];exact hlt
          have hb3:¬ blen K≤52:=by rw [blen_le_iff,show (2:Nat) ^ 52 = 4503599627370496 from by decide];omega
          omega
        rw [rgU_mul 53 K E 0 c0 (by rw [b1];omega) (by omega),blen_mul _ _ c0,b1,show (2:Nat) ^ (53 - 1) = 4503599627370496 from by decide,Nat.pow_zero,Nat.mul_one]
        constructor
        · omega
        · omega
def Iv (n:Bool) (m:Nat):Int:=if n then -((Fq.vV Ieee.double m:Nat):Int) else ((Fq.vV Ieee.double m:Nat):Int)
theorem lpD9:Ieee.double.leastPlace = -1074:=by decide +kernel
theorem fbD9:Ieee.double.fractionBits = 52:=rfl
theorem wdD9 (n:Bool) (r:Nat):Ieee.double.word n r = Fq.wD n r:=by unfold Ieee.Format.word Fq.wD;rw [Fq.signD]
theorem log2_blen (m:Nat) (h:m≠0):blen m = m.log2 + 1:=by unfold blen;rw [if_neg h]
open Ieee in
theorem nearest_def (f:Format) (neg:Bool) (mag:Nat) (place:Int) (h:mag≠0):f.nearest neg mag place = f.word neg (min ((max (place + (mag.log2:Nat) - (f.fractionBits:Nat)) f.leastPlace - f.leastPlace).toNat * f.binade + Toward.even.cut neg (mag <<< (place - max (place + (mag.log2:Nat) - (f.fractionBits:Nat)) f.leastPlace).toNat) (max (place + (mag.log2:Nat) - (f.fractionBits:Nat)) f.leastPlace - place).toNat) f.infRung):=by
  unfold Format.nearest
  rw [if_neg h]
theorem near_w (neg:Bool) (mag:Nat) (place:Int) (t:Nat) (ht:(t:Int) = place + 1074):Ieee.double.nearest neg mag place = Fq.wD neg (finU 53 2098 9218868437227405311 9218868437227405312 0 (rU 0 53 (mag * 2 ^ t) 1)):=by
  by_cases c:mag = 0
  · unfold Ieee.Format.nearest
    rw [if_pos c,wdD9,c,Nat.zero_mul]
    have h0:rU 0 53 0 1 = 0:=by
      unfold rU rS rR
      rw [Nat.zero_div,Nat.zero_mod,upw_none _ _ _ (by rw [Nat.one_mul];exact Nat.two_pow_pos _)]
      simp
    rw [h0]
    unfold finU
    rw [blen_zero,if_pos (by omega),rgU_zero]
  · rw [nearest_def _ _ _ _ c,wdD9,lpD9,fbD9,Fq.binD,Fq.infD]
    obtain ⟨A,hA⟩:∃ A,A = mag * 2 ^ t:=⟨_,rfl⟩
    have hbA:blen A = mag.log2 + 1 + t:=by rw [hA,blen_mul _ _ c,log2_blen mag c]
    obtain ⟨E,hE⟩:∃ E,E = rE 53 A 1:=⟨_,rfl⟩
    have hE2:E = mag.log2 + t - 52:=by rw [hE];unfold rE;rw [Nat.div_one,hbA];omega
    obtain ⟨last,hl⟩:∃ last:Int,last = max (place + (mag.log2:Nat) - ((52:Nat):Int)) (-1074):=⟨_,rfl⟩
    have hlE:(E:Int) = last + 1074:=by rw [hl];omega
    obtain ⟨K,hK⟩:∃ K,K = rS 53 A 1 + (upw 0 (rS 53 A 1) (rR 53 A 1) (1 * 2 ^ rE 53 A 1)).toNat:=⟨_,rfl⟩
    have hkept:Ieee.Toward.even.cut neg (mag <<< (place - last).toNat) (last - place).toNat = K:=by
      rw [cut_even,hK]
      unfold rS rR
      rw [← hE,Nat.one_mul,Nat.shiftLeft_eq]
      by_cases c1:E≤t
      · rw [show (place - last).toNat = t - E from by omega,show (last - place).toNat = 0 from by omega,Nat.pow_zero,Nat.div_one,Nat.mod_one,upw_none _ _ _ (by omega)]
        have e1:A = mag * 2 ^ (t - E) * 2 ^ E:=by rw [hA,Nat.mul_assoc,← Nat.pow_add];congr 2;omega
        rw [e1,Nat.mul_div_cancel _ (Nat.two_pow_pos E),Nat.mul_mod_left,upw_none _ _ _ (Nat.two_pow_pos E)]
      · rw [show (place - last).toNat = 0 from by omega,show (last - place).toNat = E - t from by omega,Nat.pow_zero,Nat.mul_one]
        have e1:2 ^ E = 2 ^ (E - t) * 2 ^ t:=by rw [← Nat.pow_add];congr 1;omega
        rw [hA,e1,Nat.mul_div_mul_right _ _ (Nat.two_pow_pos t),Nat.mul_mod_mul_right,upw_scale _ _ _ _ _ (Nat.two_pow_pos t)]
    rw [← hl]
    rw [hkept,show (last - (-1074)).toNat = E from by omega,← hA]
    obtain ⟨_,_,_,_,h5,h6⟩:=rung_of A 0 E K hE hK
    unfold finU
    congr 1
    by_cases c2:blen (rU 0 53 A 1)≤2098
    · rw [if_pos c2,h5];exact Nat.min_eq_left (Nat.le_of_lt (h6.1 c2))
    · rw [if_neg c2,if_neg (by decide)]
      exact Nat.min_eq_right (Nat.le_of_not_lt (fun h=>c2 (h6.2 h)))
end Go.Proofs.YtfhcmabejagknaaGreatDoor
