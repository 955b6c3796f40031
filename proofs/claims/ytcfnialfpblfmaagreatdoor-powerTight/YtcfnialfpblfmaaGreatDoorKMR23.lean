import Derived.Test.YtcfnialfpblfmaaGreatDoorKMR17
import Derived.Test.YtcfnialfpblfmaaGreatDoorKXO3
namespace Go.Proofs.YtcfnialfpblfmaaGreatDoor
open Go.RowKit
def mulW (d:Int) (ng:Bool) (P:Nat):Nat:=if P = 0 then 0 else mdW ng (finU 53 2098 9218868437227405311 9218868437227405312 (dirN ng d) (rV (dirN ng d) 53 P 1 (-1074)))
theorem of_mul (d:Int) (ng:Bool) (c:Nat) (low:Int) (P:Nat) (h1:-2148≤low) (h2:low≤8192) (hb:blen c≤524288) (hP:P = c * 2 ^ (low + 2148).toNat):ofW d ng c low = mulW d ng P:=by
  have hl:¬ 16384 < len32 c:=mt (long_iff c).2 (by omega)
  rw [of_rat]
  unfold ratW mulW
  rw [if_neg (by rw [len32_one];omega),if_neg (by decide)]
  obtain ⟨k,hk⟩:∃ k,k = (low + 2148).toNat:=⟨_,rfl⟩
  rw [← hk] at hP
  by_cases c0:c = 0
  · rw [if_pos c0,if_pos (by rw [hP,c0,Nat.zero_mul])]
  · have hp:P≠0:=by rw [hP];exact Nat.mul_ne_zero c0 (Nat.ne_of_gt (Nat.two_pow_pos k))
    rw [if_neg c0,if_neg hp,hP,rV_up _ _ _ _ _ _ (by decide),show (-1074:Int) + (k:Int) = low + 1074 from by omega]
theorem sum_mul (d V:Int) (ng:Bool) (P K:Nat) (hK:K = 1074) (hP:V.natAbs * 2 ^ K = P) (hng:V≠0→ng = decide (V < 0)):sumW d V = mulW d ng P:=by
  unfold sumW mulW
  by_cases c:V = 0
  · rw [if_pos c,if_pos (by rw [← hP,c];simp)]
  · have hp:P≠0:=by rw [← hP];exact Nat.mul_ne_zero (by omega) (Nat.ne_of_gt (Nat.two_pow_pos K))
    rw [if_neg c,if_neg hp,← hng c,← hP,rV_up _ _ _ _ _ _ (by decide),show (-1074:Int) + (K:Int) = 0 from by omega]
    unfold rV
    rw [show ((0:Int)).toNat = 0 from rfl,show (-(0:Int)).toNat = 0 from rfl,Nat.pow_zero,Nat.mul_one,Nat.mul_one]
theorem sgn_v (n n':Bool) (m m' K:Nat) (V:Int) (hV:V * ((2 ^ K:Nat):Int) = Iv n m * Iv n' m') (hv:V≠0):(n ^^ n') = decide (V < 0):=by
  have hp:(0:Int) < ((2 ^ K:Nat):Int):=by have:=Nat.two_pow_pos K;omega
  obtain ⟨q,hq⟩:∃ q:Int,q = ((2 ^ K:Nat):Int):=⟨_,rfl⟩
  rw [← hq] at hV hp
  have hz:V * q≠0:=fun h=>by rcases Int.mul_eq_zero.1 h with h | h <;> omega
  have hs:V < 0 ↔ V * q < 0:=by
    constructor
    · intro h;exact Int.mul_neg_of_neg_of_pos h hp
    · intro h
      rcases Int.lt_or_le V 0 with c | c
      · exact c
      · have:=Int.mul_nonneg c (Int.le_of_lt hp);omega
  obtain ⟨x,hx⟩:∃ x:Int,x = ((Fq.vV Ieee.double m:Nat):Int):=⟨_,rfl⟩
  obtain ⟨y,hy⟩:∃ y:Int,y = ((Fq.vV Ieee.double m':Nat):Int):=⟨_,rfl⟩
  have hxy:0≤x * y:=Int.mul_nonneg (by omega) (by omega)
  unfold Iv at hV
  rw [← hx,← hy] at hV
  cases n <;> cases n' <;> simp only [if_true,if_false,Bool.false_eq_true,Int.neg_mul,Int.mul_neg,Int.neg_neg] at hV <;> by_cases c:V < 0 <;> simp [c] <;> omega
theorem abs_v (n n':Bool) (m m' K:Nat) (V:Int) (hV:V * ((2 ^ K:Nat):Int) = Iv n m * Iv n' m'):V.natAbs * 2 ^ K = Fq.vV Ieee.double m * Fq.vV Ieee.double m':=by
  have h1:=congrArg Int.natAbs hV
  rw [Int.natAbs_mul,Int.natAbs_mul,Int.natAbs_natCast,iv_abs,iv_abs] at h1
  exact h1
theorem vV_zero (m:Nat):Fq.vV Ieee.double m = 0 ↔ m = 0:=by
  unfold Fq.vV Fq.mM Fq.eE
  rw [Fq.binD]
  have:=Nat.two_pow_pos (if m < 4503599627370496 then 0 else m / 4503599627370496 - 1)
  constructor
  · intro h
    rcases Nat.mul_eq_zero.1 h with h | h
    · split at h <;> omega
    · omega
  · intro h;subst h;simp
theorem rU_floor (p A B:Nat) (h:blen (A / B)≤p):rU (-1) p A B = A / B:=by
  have hE:rE p A B = 0:=by unfold rE;omega
  unfold rU rS rR
  rw [hE,Nat.pow_zero,Nat.mul_one,Nat.mul_one]
  have e:upw (-1) (A / B) (A % B) B = false:=by unfold upw;simp
  rw [e];simp
theorem frac_exact (sg:Nat) (ep:Int) (a b K e:Nat) (hF:FracOf sg 1 ep a b) (h0:sg≠0) (he:(e:Int) = ep + (K:Int)):a * 2 ^ K = sg * 2 ^ e * b:=by
  obtain ⟨hb,-,hrv,-,-⟩:=hF
  have hbp:0 < b:=by omega
  have hfl:∀ j:Nat,a * 2 ^ K * 2 ^ j / b = sg * 2 ^ e * 2 ^ j:=fun j=>by
    obtain ⟨p,hp⟩:∃ p,p = blen (a * 2 ^ (K + j) / b) + blen (sg * 2 ^ (e + j)):=⟨_,rfl⟩
    have h:=hrv (-1) p ((K + j:Nat):Int) h0
    unfold rV at h
    rw [show (((K + j:Nat):Int)).toNat = K + j from by omega,show (-((K + j:Nat):Int)).toNat = 0 from by omega,show (((K + j:Nat):Int) + ep).toNat = e + j from by omega,show (-(((K + j:Nat):Int) + ep)).toNat = 0 from by omega,Nat.pow_zero,Nat.mul_one,Nat.mul_one,rU_floor p _ b (by rw [hp];omega),rU_floor p _ 1 (by rw [Nat.div_one,hp];omega),Nat.div_one,Nat.pow_add,Nat.pow_add] at h
    rw [Nat.mul_assoc,h,Nat.mul_assoc]
  obtain ⟨A,hA⟩:∃ A,A = a * 2 ^ K:=⟨_,rfl⟩
  obtain ⟨S,hS⟩:∃ S,S = sg * 2 ^ e:=⟨_,rfl⟩
  rw [← hA,← hS] at hfl ⊢
  have h1:=hfl 0
  rw [Nat.pow_zero,Nat.mul_one,Nat.mul_one] at h1
  have h2:S * b≤A:=by rw [← h1];exact Nat.div_mul_le_self A b
  obtain ⟨D,hD⟩:∃ D,D = A - S * b:=⟨_,rfl⟩
  by_cases c:D = 0
  · omega
  · exfalso
    have h3:=hfl (blen b)
    have h4:b < 2 ^ blen b:=(blen_spec b hb).2.1
    have e1:A = S * b + D:=by omega
    rw [e1,Nat.add_mul,Nat.mul_right_comm,Nat.add_comm,Nat.add_mul_div_right _ _ hbp] at h3
    have h5:D * 2 ^ blen b / b = 0:=by omega
    have h6:b≤D * 2 ^ blen b:=Nat.le_trans (Nat.le_of_lt h4) (Nat.le_mul_of_pos_left _ (by omega))
    have h7:=(Nat.le_div_iff_mul_le hbp (x:=1)).2 (by rw [Nat.one_mul];exact h6)
    omega
theorem rV_sticky9 (d:Int) (p N D h r H:Nat) (t:Int) (hD:0 < D) (hp:0 < p) (hp53:p≤53) (hN:N = h * D + r) (hr:r < D) (hH:H = 2 * h + (if r = 0 then 0 else 1)) (hbig:r = 0∨9007199254740992≤h):rV d p (2 * N) D t = rV d p H 1 t:=by
  by_cases c:r = 0
  · rw [if_pos c,Nat.add_zero] at hH
    refine rV_ratio d p _ _ _ _ t hD (by omega) ?_
    rw [hN,hH,c,Nat.add_zero,Nat.mul_one,Nat.mul_assoc]
  · rw [if_neg c] at hH
    have hh:9007199254740992≤h:=by rcases hbig with h9 | h9;exact absurd h9 c;exact h9
    have e0:rV d p H 1 t = rV d p (H * D) D t:=rV_ratio d p _ _ _ _ t (by omega) hD (by rw [Nat.mul_one])
    rw [e0]
    unfold rV
    obtain ⟨x,hx⟩:∃ x,x = t.toNat:=⟨_,rfl⟩
    obtain ⟨y,hy⟩:∃ y,y = (-t).toNat:=⟨_,rfl⟩
    rw [← hx,← hy]
    obtain ⟨X,hX⟩:∃ X,X = 2 ^ x:=⟨_,rfl⟩
    have hXp:0 < X:=by rw [hX];exact Nat.pow_pos (by omega)
    have hB:0 < D * 2 ^ y:=Nat.mul_pos hD (Nat.pow_pos (by omega))
    obtain ⟨E,hE⟩:∃ E,E = rE p (2 * N * 2 ^ x) (D * 2 ^ y):=⟨_,rfl⟩
    have hs:=(rE_spec p (2 * N * 2 ^ x) (D * 2 ^ y) hB hp).1
    rw [← hE] at hs
    have hbound:x + 2≤y + E:=by
      by_cases c2:x + 2≤y + E
      · exact c2
      · exfalso
        have h1:D * 2 ^ y * 2 ^ (E + p)≤D * 2 ^ (x + 54):=by
          rw [Nat.mul_assoc,← Nat.pow_add]
          exact Nat.mul_le_mul_left _ (Nat.pow_le_pow_right (by omega) (by omega))
        have h2:D * 2 ^ (x + 54)≤2 * N * 2 ^ x:=by
          rw [Nat.pow_add,Nat.mul_left_comm,Nat.mul_comm (2 * N)]
          refine Nat.mul_le_mul_left _ ?_
          rw [show (2:Nat) ^ 54 = 18014398509481984 from by decide,hN]
          have h9:9007199254740992 * D≤h * D:=Nat.mul_le_mul_right _ hh
          generalize h * D = g at h9 ⊢
          clear hN hH hE hs c2 h1
          omega
        omega
    refine rU_sticky d p (2 * N * 2 ^ x) (H * D * 2 ^ x) (D * 2 ^ y) (2 * D * X) h (2 * r * X) (D * X) (2 ^ (y + E - x - 2)) hB hp ?_ ?_ ?_ ?_ ?_ ?_
    · rw [hN,← hX]
      rw [Nat.mul_add,Nat.add_mul,← Nat.mul_assoc h,Nat.mul_left_comm 2 h D]
    · exact Nat.mul_lt_mul_of_pos_right (by omega) hXp
    · rw [hH,← hX,Nat.add_mul,Nat.add_mul,Nat.one_mul,Nat.mul_assoc 2 h D,Nat.mul_left_comm 2 h D,Nat.mul_assoc h]
    · exact Nat.mul_lt_mul_of_pos_right (by omega) hXp
    · have a1:0 < 2 * r * X:=Nat.mul_pos (by omega) hXp
      have a2:0 < D * X:=Nat.mul_pos hD hXp
      constructor <;> intro h9 <;> omega
    · rw [← hE,hX]
      have e1:(2:Nat) ^ y * 2 ^ E = 4 * 2 ^ x * 2 ^ (y + E - x - 2):=by
        rw [← Nat.pow_add,show (4:Nat) = 2 ^ 2 from rfl,← Nat.pow_add,← Nat.pow_add]
        exact congrArg _ (by omega)
      rw [Nat.mul_assoc D,e1]
      generalize (2:Nat) ^ x = a
      generalize (2:Nat) ^ (y + E - x - 2) = b
      rw [show (4:Nat) = 2 * 2 from rfl]
      ac_rfl
theorem step_g (d V:Int) (s o sz:Bool) (r ro K:Nat) (hK:53≤K) (hK2:K≤2096) (hv:V.natAbs < 2 ^ K) (hr:r = rgU 53 (rU 0 53 V.natAbs 1)) (hs:s = (if V = 0 then sz else decide (V < 0))) (ho1:Fq.plz o ro < 0 ↔ V - Iv s r < 0) (ho2:0 < Fq.plz o ro ↔ 0 < V - Iv s r) :
    (d = -1→Fq.plz o ro < 0→Fq.plz s r≠-9218868437227405312∧Fq.fD (Fq.plz s r - 1) = sumW d V)∧(d = 1→0 < Fq.plz o ro→Fq.plz s r≠9218868437227405312∧Fq.fD (Fq.plz s r + 1) = sumW d V)∧(¬ (d = -1∧Fq.plz o ro < 0)→¬ (d = 1∧0 < Fq.plz o ro)→Fq.wD (s && !(r == 0)) r = sumW d V):=by
  rw [ho1,ho2]
  obtain ⟨D1,D2,D3,D4⟩:=dirs V.natAbs
  have hfin:∀ dd d2:Int,finU 53 2098 9218868437227405311 9218868437227405312 d2 (rU dd 53 V.natAbs 1) = rgU 53 (rU dd 53 V.natAbs 1)∧rgU 53 (rU dd 53 V.natAbs 1) < 9218868437227405312:=fun dd d2=>fin_small V.natAbs dd d2 K hK (by omega) hv
  have hU:=vV_rung V.natAbs 0
  rw [← hr] at hU D1 D2 D3 D4
  have hrl:r < 9218868437227405312:=by rw [hr];exact (hfin 0 0).2
  have hfs:∀ dd,rgU 53 (rU dd 53 V.natAbs 1) < 9218868437227405312:=fun dd=>(hfin dd 0).2
  by_cases c0:V = 0
  · have h0:rU 0 53 V.natAbs 1 = 0:=by
      rw [c0]
      unfold rU rS rR
      rw [Int.natAbs_zero,Nat.zero_div,Nat.zero_mod,upw_none _ _ _ (by rw [Nat.one_mul];exact Nat.two_pow_pos _)]
      simp
    have hr0:r = 0:=by rw [hr,h0,rgU_zero]
    have hi:Iv s r = 0:=by
      rw [hr0];unfold Iv
      have:Fq.vV Ieee.double 0 = 0:=(vV_pos 0).2 rfl
      rw [this];cases s <;> simp
    rw [hi,c0]
    refine ⟨fun _ h=>absurd h (by decide),fun _ h=>absurd h (by decide),fun _ _=>?_⟩
    unfold sumW
    rw [if_pos rfl,hr0];unfold Fq.wD;simp
  · have hsn:s = decide (V < 0):=by rw [hs,if_neg c0]
    have hmd:∀ x:Nat,x≠0→mdW s x = Fq.wD s x:=fun x hx=>by unfold mdW Fq.wD;rw [if_neg hx]
    have hsum:∀ dm:Int,dm = dirN s d→sumW d V = mdW s (rgU 53 (rU dm 53 V.natAbs 1)):=fun dm hdm=>by
      unfold sumW;rw [if_neg c0,← hsn,← hdm,(hfin dm dm).1]
    have hr1:r≠0:=by
      intro h
      rw [h,(vV_pos 0).2 rfl] at hU
      have hn:=(rn_nr V.natAbs).near
      rw [← hU] at hn
      have hl:=(rn_nr V.natAbs).low
      omega
    have hiv:Iv s r = if V < 0 then -((rU 0 53 V.natAbs 1:Nat):Int) else ((rU 0 53 V.natAbs 1:Nat):Int):=by
      unfold Iv;rw [hU,hsn]
      by_cases c:V < 0
      · rw [decide_eq_true c,if_pos rfl,if_pos c]
      · rw [decide_eq_false c,if_neg (by simp),if_neg c]
    have hfd:∀ x:Nat,x≠0→∀ P:Int,P = Fq.plz s x→Fq.fD P = mdW s x:=fun x hx P hP=>by
      rw [hmd x hx,hP];unfold Fq.fD Fq.plz Fq.wD
      cases s
      · simp
      · simp;omega
    have hother:∀ dm:Int,dm = dirN s d→rgU 53 (rU dm 53 V.natAbs 1) = r→Fq.wD (s && !(r == 0)) r = sumW d V:=fun dm h1 h2=>by
      rw [hsum dm h1,h2,hmd r hr1]
      congr 1
      simp [hr1]
    by_cases c:V < 0
    · rw [decide_eq_true c] at hsn
      rw [hiv,if_pos c]
      subst hsn
      have dN:dirN true d = -d:=rfl
      refine ⟨fun hd h=>?_,fun hd h=>?_,fun h1 h2=>?_⟩
      · have e:=D3 (by omega)
        have hl:=hfs 1
        refine ⟨by unfold Fq.plz;first | (simp;done) | (simp;omega), ?_⟩
        rw [hsum 1 (by rw [dN,hd];rfl),e]
        exact hfd (r + 1) (by omega) _ (by unfold Fq.plz;first | (simp;done) | (simp;omega))
      · have e:=D1 (by omega)
        refine ⟨by unfold Fq.plz;first | (simp;done) | (simp;omega), ?_⟩
        rw [hsum (-1) (by rw [dN,hd])]
        by_cases cz:rgU 53 (rU (-1) 53 V.natAbs 1) = 0
        · rw [cz]
          have:r = 1:=by omega
          rw [this];rfl
        · exact hfd _ cz _ (by unfold Fq.plz;first | (simp;done) | (simp;omega))
      · by_cases d1:d = -1
        · exact hother 1 (by rw [dN,d1];rfl) (D4 (by have:=mt (fun h=>h1 ⟨d1,h⟩);omega))
        · by_cases d2:d = 1
          · exact hother (-1) (by rw [dN,d2]) (D2 (by have:=mt (fun h=>h2 ⟨d2,h⟩);omega))
          · exact hother (-d) dN.symm (by rw [dir_oth _ _ (by omega) (by omega),hr])
    · rw [decide_eq_false c] at hsn
      rw [hiv,if_neg c]
      subst hsn
      have dN:dirN false d = d:=rfl
      refine ⟨fun hd h=>?_,fun hd h=>?_,fun h1 h2=>?_⟩
      · have e:=D1 (by omega)
        refine ⟨by unfold Fq.plz;first | (simp;done) | (simp;omega), ?_⟩
        rw [hsum (-1) (by rw [dN,hd])]
        by_cases cz:rgU 53 (rU (-1) 53 V.natAbs 1) = 0
        · rw [cz]
          have:r = 1:=by omega
          rw [this];rfl
        · exact hfd _ cz _ (by unfold Fq.plz;first | (simp;done) | (simp;omega))
      · have e:=D3 (by omega)
        have hl:=hfs 1
        refine ⟨by unfold Fq.plz;first | (simp;done) | (simp;omega), ?_⟩
        rw [hsum 1 (by rw [dN,hd]),e]
        exact hfd (r + 1) (by omega) _ (by unfold Fq.plz;simp)
      · by_cases d1:d = -1
        · exact hother (-1) (by rw [dN,d1]) (D2 (by have:=mt (fun h=>h1 ⟨d1,h⟩);omega))
        · by_cases d2:d = 1
          · exact hother 1 (by rw [dN,d2]) (D4 (by have:=mt (fun h=>h2 ⟨d2,h⟩);omega))
          · exact hother d dN.symm (by rw [dir_oth _ _ d2 d1,hr])
theorem two_dvd {T U:Nat} (hT:∃ E,T = 2 ^ E) (hU:∃ e,U = 2 ^ e) (h:U≤T):U ∣ T:=by
  obtain ⟨E,rfl⟩:=hT
  obtain ⟨e,rfl⟩:=hU
  exact Nat.pow_dvd_pow 2 ((Nat.pow_le_pow_iff_right (by decide)).1 h)
theorem two_half {T U:Nat} (hT:∃ E,T = 2 ^ E) (hU:∃ e,U = 2 ^ e) (h:T < 2 * U):T≤U:=by
  obtain ⟨E,rfl⟩:=hT
  obtain ⟨e,rfl⟩:=hU
  rw [Nat.mul_comm,← Nat.pow_succ] at h
  have:=(Nat.pow_lt_pow_iff_right (by decide)).1 h
  exact Nat.pow_le_pow_right (by decide) (by omega)
theorem lack_exact {x V np op t1 off:Int} {W Tn T5 T6:Nat} (hW:∃ e,W = 2 ^ e) (dx:(W:Int) ∣ x) (dV:(W:Int) ∣ V) (hu:(x - V).natAbs≤4503599627370496 * W) (v1:20282409603651670423947251286016 * W≤V.natAbs) (v2:V.natAbs < 81129638414606681695789005144064 * W)
    (k0:Nr V np Tn) (hop:op = V - np) (k1:Nr (x - np) t1 T5) (k2:Nr (t1 - op) off T6):off = x - V:=by
  have hWp:0 < W:=by obtain ⟨e,rfl⟩:=hW;exact Nat.two_pow_pos e
  have h53:∃ e,9007199254740992 * W = 2 ^ e:=by
    have:=two_times hW 53
    rwa [show (2:Nat) ^ 53 = 9007199254740992 from by decide] at this
  have hTn:Tn≤9007199254740992 * W:=two_half k0.two h53 (by rcases k0.low with h | h <;> omega)
  have hWT:W ∣ Tn:=two_dvd k0.two hW (by have:=k0.lt;omega)
  have dn:(W:Int) ∣ np:=Int.dvd_trans (Int.natCast_dvd_natCast.2 hWT) k0.dvd
  have f1:FL (x - np):=fl_of hW (Int.dvd_sub dx dn) (by have:=k0.near;omega)
  have e1:=k1.fix f1
  have f2:FL (x - V):=fl_of hW (Int.dvd_sub dx dV) (by omega)
  have e2:t1 - op = x - V:=by omega
  rw [e2] at k2
  exact k2.fix f2
theorem sgn_HR (h q B R u:Int) (hB:0 < B) (h0:0≤q) (h1:q < B) (hu:(q = 0∧u = 0)∨(0 < q∧u = 1)):(0 < 2 * (h * B + q) - 2 * (R * B) ↔ 0 < 2 * h + u - 2 * R)∧(2 * (h * B + q) - 2 * (R * B) < 0 ↔ 2 * h + u - 2 * R < 0):=by
  obtain ⟨k,hk⟩:∃ k,k = h - R:=⟨_,rfl⟩
  have e:h * B - R * B = k * B:=by rw [hk,Int.sub_mul]
  rcases Int.lt_trichotomy k 0 with c | c | c
  · have h5:=Int.mul_le_mul_of_nonneg_right (show k≤-1 by omega) (Int.le_of_lt hB)
    omega
  · rw [c,Int.zero_mul] at e
    omega
  · have h5:=Int.mul_le_mul_of_nonneg_right (show 1≤k by omega) (Int.le_of_lt hB)
    omega
theorem quo_H (A B h r H K:Nat) (hB:0 < B) (hK:K + 1 = 1074) (hN:A * 2 ^ K = h * B + r) (hr:r < B) (hH:H = 2 * h + (if r = 0 then 0 else 1)) (hbig:9007199254740992≤h) (d:Int):rU d 53 H 1 = rV d 53 A B 1074:=by
  have e1:=rV_sticky9 d 53 (A * 2 ^ K) B h r H 0 hB (by decide) (by decide) hN hr hH (Or.inr hbig)
  have e2:rV d 53 (2 * (A * 2 ^ K)) B 0 = rV d 53 A B 1074:=by
    rw [show 2 * (A * 2 ^ K) = A * 2 ^ (K + 1) from by rw [Nat.pow_succ];simp only [Nat.mul_comm,Nat.mul_left_comm],rV_up _ _ _ _ _ _ hB]
    congr 1
    omega
  have e3:rV d 53 H 1 0 = rU d 53 H 1:=by
    unfold rV
    rw [show ((0:Int)).toNat = 0 from rfl,show (-(0:Int)).toNat = 0 from rfl,Nat.pow_zero,Nat.mul_one,Nat.mul_one]
  rw [← e3,← e1,e2]
theorem div_w (n n':Bool) (m m':Nat) (h1:2580562586483294208≤m) (h2:m≤6633802251116740608) (h3:2580562586483294208≤m') (h4:m'≤6633802251116740608) (H:Nat) (hH:∀ d,rU d 53 H 1 = rV d 53 (Fq.vV Ieee.double m) (Fq.vV Ieee.double m') 1074) :
    FloatKind.f64.format.div (Fq.wD n m) (Fq.wD n' m') = some (Fq.wD (n ^^ n') (finU 53 2098 9218868437227405311 9218868437227405312 0 (rU 0 53 H 1))):=by
  show Ieee.double.div _ _ = _
  unfold Ieee.Format.div
  rw [hH]
  have b1:¬ m < 4503599627370496:=by omega
  have b2:¬ m' < 4503599627370496:=by omega
  rw [Fq.read_fin _ _ (by rw [Fq.rgD n m (by omega),Fq.infD];omega),Fq.read_fin _ _ (by rw [Fq.rgD n' m' (by omega),Fq.infD];omega),Fq.rgD n m (by omega),Fq.rgD n' m' (by omega),Fq.ngD n m (by omega),Fq.ngD n' m' (by omega),lpD9,fbD9]
  unfold Fq.vV
  have hea:Fq.eE Ieee.double m = m / 4503599627370496 - 1:=by unfold Fq.eE;rw [Fq.binD,if_neg b1]
  have heb:Fq.eE Ieee.double m' = m' / 4503599627370496 - 1:=by unfold Fq.eE;rw [Fq.binD,if_neg b2]
  have hma:Fq.mM Ieee.double m = 4503599627370496 + m % 4503599627370496:=by unfold Fq.mM;rw [Fq.binD,if_neg b1]
  have hmb:Fq.mM Ieee.double m' = 4503599627370496 + m' % 4503599627370496:=by unfold Fq.mM;rw [Fq.binD,if_neg b2]
  obtain ⟨e,hee⟩:∃ e,e = Fq.eE Ieee.double m:=⟨_,rfl⟩
  obtain ⟨e',hee'⟩:∃ e',e' = Fq.eE Ieee.double m':=⟨_,rfl⟩
  obtain ⟨a,ha⟩:∃ a,a = Fq.mM Ieee.double m:=⟨_,rfl⟩
  obtain ⟨a',ha'⟩:∃ a',a' = Fq.mM Ieee.double m':=⟨_,rfl⟩
  rw [← hee] at hea
  rw [← hee'] at heb
  rw [← ha] at hma
  rw [← ha'] at hmb
  rw [← hee,← hee',← ha,← ha']
  have a1:4503599627370496≤a:=by omega
  have a2:a < 9007199254740992:=by omega
  have a3:4503599627370496≤a':=by omega
  have a4:a' < 9007199254740992:=by omega
  have e1:572≤e:=by omega
  have e2:e'≤1472:=by omega
  have lg:∀ x:Nat,4503599627370496≤x→x < 9007199254740992→x.log2 = 52:=fun x q1 q2=>by
    have hb:=blen_uniq x 52 (by rw [show (2:Nat) ^ 52 = 4503599627370496 from by decide];exact q1) (by rw [show (2:Nat) ^ (52 + 1) = 9007199254740992 from by decide];exact q2)
    have:=log2_blen x (by omega)
    omega
  have l1:=lg a a1 a2
  have l2:=lg a' a3 a4
  clear hee hee' ha ha' hea heb hma hmb lg hH h1 h2 h3 h4 b1 b2
  unfold Ieee.Datum.quotient
  simp only
  rw [if_neg (by omega),l1,l2]
  simp only [Option.map_some]
  unfold Ieee.Format.write
  simp only
  rw [show 52 + 2 + 52 - 52 = 54 from rfl,Nat.shiftLeft_eq]
  obtain ⟨N,hN⟩:∃ N,N = a * 2 ^ 54:=⟨_,rfl⟩
  rw [← hN]
  have hNe:N = a * 18014398509481984:=hN
  obtain ⟨q,hq⟩:∃ q,q = N / a':=⟨_,rfl⟩
  obtain ⟨r,hr⟩:∃ r,r = N % a':=⟨_,rfl⟩
  have hqr:N = q * a' + r:=by rw [hq,hr,Nat.mul_comm];exact (Nat.div_add_mod _ _).symm
  have hra:r < a':=by rw [hr];exact Nat.mod_lt _ (by omega)
  have hqb:9007199254740992≤q:=by
    rw [hq,Nat.le_div_iff_mul_le (by omega)];omega
  rw [← hq,← hr]
  obtain ⟨mag,hmag⟩:∃ mag,mag = 2 * q + (r != 0).toNat:=⟨_,rfl⟩
  have hmag2:mag = 2 * q + (if r = 0 then 0 else 1):=by
    rw [hmag]
    by_cases c:r = 0
    · rw [if_pos c,c];rfl
    · rw [if_neg c];simp [c]
  rw [← hmag]
  obtain ⟨t,ht⟩:∃ t:Nat,(t:Int) = (e:Int) - e' - 54 - 1 + 1074:=⟨((e:Int) - e' - 54 - 1 + 1074).toNat,by omega⟩
  rw [near_w _ _ _ t (by omega)]
  have hst:=rV_sticky9 0 53 N a' q r mag (t:Int) (by omega) (by decide) (by decide) hqr hra hmag2 (Or.inr hqb)
  have s1:rV 0 53 mag 1 (t:Int) = rU 0 53 (mag * 2 ^ t) 1:=by
    unfold rV
    rw [show ((t:Int)).toNat = t from by omega,show (-(t:Int)).toNat = 0 from by omega,Nat.pow_zero,Nat.mul_one]
  have s2:rV 0 53 (2 * N) a' (t:Int) = rV 0 53 a a' ((t:Int) + 55):=by
    rw [show 2 * N = a * 2 ^ 55 from by rw [hN];omega,rV_up _ _ _ _ _ _ (by omega)];rfl
  have s3:rV 0 53 (a * 2 ^ e) (a' * 2 ^ e') 1074 = rV 0 53 a a' ((t:Int) + 55):=by
    rw [rV_up _ _ _ _ _ _ (Nat.mul_pos (by omega) (Nat.two_pow_pos _)),rV_down _ _ _ _ _ _ (by omega)]
    congr 1
    omega
  rw [s3,← s2,hst,s1]
end Go.Proofs.YtcfnialfpblfmaaGreatDoor
