import Derived.Test.YtnileplkkmhdgaaGreatDoorKMR14
import Derived.Test.YtnileplkkmhdgaaGreatDoorKXG4
namespace Go.Proofs.YtnileplkkmhdgaaGreatDoor
open Go.RowKit
theorem rU_floor (p A B:Nat) (h:blen (A / B)≤p):rU (-1) p A B = A / B:=by
  have hE:rE p A B = 0:=by unfold rE;omega
  unfold rU rS rR
  rw [hE,Nat.pow_zero,Nat.mul_one,Nat.mul_one]
  have e:upw (-1) (A / B) (A % B) B = false:=by unfold upw;simp
  rw [e];simp
theorem frac_exact (sg:Nat) (ep:Int) (a b K e:Nat) (hF:FracOf sg 1 ep a b) (h0:sg≠0) (he:(e:Int) = ep + (K:Int)):a * 2 ^ K = sg * 2 ^ e * b:=by
  obtain ⟨hb,-,hrv,-,-⟩:=hF
  have hbp:0 < b:=by omega
  have hfl:∀ j:Nat,a * 2 ^ K * 2 ^ j / b = sg * 2 ^ e * 2 ^ j:=fun j=>by
    obtain ⟨p,hp⟩:∃ p,p = blen (a * 2 ^ (K + j) / b) + blen (sg * 2 ^ (e + j)):=⟨_,rfl⟩
    have h:=hrv (-1) p ((K + j:Nat):Int) h0
    unfold rV at h
    rw [show (((K + j:Nat):Int)).toNat = K + j from by omega,show (-((K + j:Nat):Int)).toNat = 0 from by omega,show (((K + j:Nat):Int) + ep).toNat = e + j from by omega,show (-(((K + j:Nat):Int) + ep)).toNat = 0 from by omega,Nat.pow_zero,Nat.mul_one,Nat.mul_one,rU_floor p _ b (by rw [hp];omega),rU_floor p _ 1 (by rw [Nat.div_one,hp];omega),Nat.div_one,Nat.pow_add,Nat.pow_add] at h
    rw [Nat.mul_assoc,h,Nat.mul_assoc]
  obtain ⟨A,hA⟩:∃ A,A = a * 2 ^ K:=⟨_,rfl⟩
  obtain ⟨S,hS⟩:∃ S,S = sg * 2 ^ e:=⟨_,rfl⟩
  rw [← hA,← hS] at hfl ⊢
  have h1:=hfl 0
  rw [Nat.pow_zero,Nat.mul_one,Nat.mul_one] at h1
  have h2:S * b≤A:=by rw [← h1];exact Nat.div_mul_le_self A b
  obtain ⟨D,hD⟩:∃ D,D = A - S * b:=⟨_,rfl⟩
  by_cases c:D = 0
  · omega
  · exfalso
    have h3:=hfl (blen b)
    have h4:b < 2 ^ blen b:=(blen_spec b hb).2.1
    have e1:A = S * b + D:=by omega
    rw [e1,Nat.add_mul,Nat.mul_right_comm,Nat.add_comm,Nat.add_mul_div_right _ _ hbp] at h3
    have h5:D * 2 ^ blen b / b = 0:=by omega
    have h6:b≤D * 2 ^ blen b:=Nat.le_trans (Nat.le_of_lt h4) (Nat.le_mul_of_pos_left _ (by omega))
    have h7:=(Nat.le_div_iff_mul_le hbp (x:=1)).2 (by rw [Nat.one_mul];exact h6)
    omega
theorem iv_fl (n:Bool) (m:Nat):FL (Iv n m):=by
  have h:FL ((Fq.vV Ieee.double m:Nat):Int):=by
    unfold Fq.vV
    refine ⟨Fq.eE Ieee.double m,by rw [Int.natCast_mul,castpow];exact Int.dvd_mul_left _ _, ?_⟩
    rw [Int.natAbs_natCast]
    refine Nat.mul_le_mul_right _ ?_
    unfold Fq.mM
    rw [Fq.binD]
    split <;> omega
  unfold Iv
  cases n
  · exact h
  · exact h.neg
theorem iv_not (n:Bool) (m:Nat):Iv (!n) m = -Iv n m:=by unfold Iv;cases n <;> simp
theorem sub_w (n n':Bool) (m m':Nat) (h:m < 9218868437227405312) (h':m' < 9218868437227405312) (V:Int) (hV:V = Iv n m - Iv n' m') :
    FloatKind.f64.format.sub (Fq.wD n m) (Fq.wD n' m') = some (Fq.wD (if V = 0 then n && !n' else decide (V < 0)) (finU 53 2098 9218868437227405311 9218868437227405312 0 (rU 0 53 V.natAbs 1))):=by
  have h1:=add_w n (!n') m m' h h' V (by rw [iv_not,hV];omega)
  rw [← h1]
  show Ieee.double.sub _ _ = Ieee.double.add _ _
  unfold Ieee.Format.sub Ieee.Format.add
  rw [Fq.read_fin _ (Fq.wD n' m') (by rw [Fq.rgD n' m' (by omega),Fq.infD];exact h'),Fq.read_fin _ (Fq.wD (!n') m') (by rw [Fq.rgD (!n') m' (by omega),Fq.infD];exact h'),Fq.rgD n' m' (by omega),Fq.rgD (!n') m' (by omega),Fq.ngD n' m' (by omega),Fq.ngD (!n') m' (by omega)]
  rfl
theorem lt_add9 {a b:Int} {K L:Nat} (ha:a.natAbs < 2 ^ K) (hb:b.natAbs < 2 ^ L) (h:L≤K):(a + b).natAbs < 2 ^ (K + 1)∧(a - b).natAbs < 2 ^ (K + 1):=by
  have h1:2 ^ L≤2 ^ K:=Nat.pow_le_pow_right (by omega) h
  have h2:2 ^ (K + 1) = 2 * 2 ^ K:=by rw [Nat.pow_succ];omega
  omega
theorem lt_sub9 {a b:Int} {K L:Nat} (ha:a.natAbs < 2 ^ K) (hb:b.natAbs < 2 ^ L) (h:K≤L):(a + b).natAbs < 2 ^ (L + 1)∧(a - b).natAbs < 2 ^ (L + 1):=by
  have h1:2 ^ K≤2 ^ L:=Nat.pow_le_pow_right (by omega) h
  have h2:2 ^ (L + 1) = 2 * 2 ^ L:=by rw [Nat.pow_succ];omega
  omega
theorem two_words (n n':Bool) (m m' K:Nat) (hK:53≤K) (hK2:K + 12≤2097) (hm:m < 9218868437227405312) (hm':m' < 9218868437227405312) (hx:(Iv n m).natAbs < 2 ^ K) (hy:(Iv n' m').natAbs < 2 ^ K) (V:Int) (hV:V = Iv n m + Iv n' m') :
    ∃ (s p a b c o:Bool) (r pr ar br cr ro:Nat),FloatKind.f64.format.add (Fq.wD n m) (Fq.wD n' m') = some (Fq.wD s r)∧FloatKind.f64.format.sub (Fq.wD s r) (Fq.wD n m) = some (Fq.wD p pr)∧FloatKind.f64.format.sub (Fq.wD s r) (Fq.wD p pr) = some (Fq.wD a ar)∧FloatKind.f64.format.sub (Fq.wD n m) (Fq.wD a ar) = some (Fq.wD b br)∧FloatKind.f64.format.sub (Fq.wD n' m') (Fq.wD p pr) = some (Fq.wD c cr)∧FloatKind.f64.format.add (Fq.wD b br) (Fq.wD c cr) = some (Fq.wD o ro)∧r < 9218868437227405312∧ro < 9218868437227405312∧r = rgU 53 (rU 0 53 V.natAbs 1)∧s = (if V = 0 then n && n' else decide (V < 0))∧Iv o ro = V - Iv s r:=by
  have hv:V.natAbs < 2 ^ (K + 1):=by rw [hV];exact (lt_add9 hx hy (Nat.le_refl _)).1
  obtain ⟨s,r,T0,w0,r0,n0,e0,e0',l0⟩:=op_nr V (n && n') (K + 1) (by omega) (by omega) hv
  obtain ⟨p,pr,T1,w1,r1,n1,_,_,l1⟩:=op_nr (Iv s r - Iv n m) (s && !n) (K + 3) (by omega) (by omega) (lt_add9 l0 hx (by omega)).2
  obtain ⟨a,ar,T2,w2,r2,n2,_,_,l2⟩:=op_nr (Iv s r - Iv p pr) (s && !p) (K + 5) (by omega) (by omega) (lt_sub9 l0 l1 (by omega)).2
  obtain ⟨b,br,T3,w3,r3,n3,_,_,l3⟩:=op_nr (Iv n m - Iv a ar) (n && !a) (K + 7) (by omega) (by omega) (lt_sub9 hx l2 (by omega)).2
  obtain ⟨c,cr,T4,w4,r4,n4,_,_,l4⟩:=op_nr (Iv n' m' - Iv p pr) (n' && !p) (K + 5) (by omega) (by omega) (lt_sub9 hy l1 (by omega)).2
  obtain ⟨o,ro,T5,w5,r5,n5,_,_,l5⟩:=op_nr (Iv b br + Iv c cr) (b && c) (K + 9) (by omega) (by omega) (lt_add9 l3 l4 (by omega)).1
  have hex:=twoSum_exact (iv_fl n m) (iv_fl n' m') (by rw [← hV];exact n0) n1 n2 n3 n4 n5
  refine ⟨s,p,a,b,c,o,r,pr,ar,br,cr,ro, ?_, ?_, ?_, ?_, ?_, ?_,r0,r5,e0,e0',by rw [hV];exact hex⟩
  · rw [add_w n n' m m' hm hm' V hV,w0]
  · rw [sub_w s n r m r0 hm _ rfl,w1]
  · rw [sub_w s p r pr r0 r1 _ rfl,w2]
  · rw [sub_w n a m ar hm r2 _ rfl,w3]
  · rw [sub_w n' p m' pr hm' r1 _ rfl,w4]
  · rw [add_w b c br cr r3 r4 _ rfl,w5]
theorem vV_pos (m:Nat):Fq.vV Ieee.double m = 0 ↔ m = 0:=by
  unfold Fq.vV Fq.mM Fq.eE
  rw [Fq.binD]
  by_cases c:m < 4503599627370496
  · rw [if_pos c,if_pos c];simp
  · rw [if_neg c,if_neg c]
    have hp:=Nat.two_pow_pos (m / 4503599627370496 - 1)
    constructor
    · intro h
      rcases Nat.mul_eq_zero.1 h with h | h <;> omega
    · intro h;omega
theorem iv_plz (n:Bool) (m:Nat):(Iv n m < 0 ↔ Fq.plz n m < 0)∧(0 < Iv n m ↔ 0 < Fq.plz n m):=by
  have h:=vV_pos m
  unfold Iv Fq.plz
  cases n <;> simp <;> omega
theorem step_w (d V:Int) (s o sz:Bool) (r ro K:Nat) (hK:53≤K) (hK2:K≤2096) (hv:V.natAbs < 2 ^ K) (hr:r = rgU 53 (rU 0 53 V.natAbs 1)) (hs:s = (if V = 0 then sz else decide (V < 0))) (ho:Iv o ro = V - Iv s r) :
    (d = -1→Fq.plz o ro < 0→Fq.plz s r≠-9218868437227405312∧Fq.fD (Fq.plz s r - 1) = sumW d V)∧(d = 1→0 < Fq.plz o ro→Fq.plz s r≠9218868437227405312∧Fq.fD (Fq.plz s r + 1) = sumW d V)∧(¬ (d = -1∧Fq.plz o ro < 0)→¬ (d = 1∧0 < Fq.plz o ro)→Fq.wD (s && !(r == 0)) r = sumW d V):=by
  obtain ⟨hp1,hp2⟩:=iv_plz o ro
  rw [← hp1,← hp2,ho]
  obtain ⟨D1,D2,D3,D4⟩:=dirs V.natAbs
  have hfin:∀ dd d2:Int,finU 53 2098 9218868437227405311 9218868437227405312 d2 (rU dd 53 V.natAbs 1) = rgU 53 (rU dd 53 V.natAbs 1)∧rgU 53 (rU dd 53 V.natAbs 1) < 9218868437227405312:=fun dd d2=>fin_small V.natAbs dd d2 K hK (by omega) hv
  have hU:=vV_rung V.natAbs 0
  rw [← hr] at hU D1 D2 D3 D4
  have hrl:r < 9218868437227405312:=by rw [hr];exact (hfin 0 0).2
  have hfs:∀ dd,rgU 53 (rU dd 53 V.natAbs 1) < 9218868437227405312:=fun dd=>(hfin dd 0).2
  by_cases c0:V = 0
  · have h0:rU 0 53 V.natAbs 1 = 0:=by
      rw [c0]
      unfold rU rS rR
      rw [Int.natAbs_zero,Nat.zero_div,Nat.zero_mod,upw_none _ _ _ (by rw [Nat.one_mul];exact Nat.two_pow_pos _)]
      simp
    have hr0:r = 0:=by rw [hr,h0,rgU_zero]
    have hi:Iv s r = 0:=by
      rw [hr0];unfold Iv
      have:Fq.vV Ieee.double 0 = 0:=(vV_pos 0).2 rfl
      rw [this];cases s <;> simp
    rw [hi,c0]
    refine ⟨fun _ h=>absurd h (by decide),fun _ h=>absurd h (by decide),fun _ _=>?_⟩
    unfold sumW
    rw [if_pos rfl,hr0];unfold Fq.wD;simp
  · have hsn:s = decide (V < 0):=by rw [hs,if_neg c0]
    have hmd:∀ x:Nat,x≠0→mdW s x = Fq.wD s x:=fun x hx=>by unfold mdW Fq.wD;rw [if_neg hx]
    have hsum:∀ dm:Int,dm = dirN s d→sumW d V = mdW s (rgU 53 (rU dm 53 V.natAbs 1)):=fun dm hdm=>by
      unfold sumW;rw [if_neg c0,← hsn,← hdm,(hfin dm dm).1]
    have hr1:r≠0:=by
      intro h
      rw [h,(vV_pos 0).2 rfl] at hU
      have hn:=(rn_nr V.natAbs).near
      rw [← hU] at hn
      have hl:=(rn_nr V.natAbs).low
      omega
    have hiv:Iv s r = if V < 0 then -((rU 0 53 V.natAbs 1:Nat):Int) else ((rU 0 53 V.natAbs 1:Nat):Int):=by
      unfold Iv;rw [hU,hsn]
      by_cases c:V < 0
      · rw [decide_eq_true c,if_pos rfl,if_pos c]
      · rw [decide_eq_false c,if_neg (by simp),if_neg c]
    have hfd:∀ x:Nat,x≠0→∀ P:Int,P = Fq.plz s x→Fq.fD P = mdW s x:=fun x hx P hP=>by
      rw [hmd x hx,hP];unfold Fq.fD Fq.plz Fq.wD
      cases s
      · simp
      · simp;omega
    have hother:∀ dm:Int,dm = dirN s d→rgU 53 (rU dm 53 V.natAbs 1) = r→Fq.wD (s && !(r == 0)) r = sumW d V:=fun dm h1 h2=>by
      rw [hsum dm h1,h2,hmd r hr1]
      congr 1
      simp [hr1]
    by_cases c:V < 0
    · rw [decide_eq_true c] at hsn
      rw [hiv,if_pos c]
      subst hsn
      have dN:dirN true d = -d:=rfl
      refine ⟨fun hd h=>?_,fun hd h=>?_,fun h1 h2=>?_⟩
      · have e:=D3 (by omega)
        have hl:=hfs 1
        refine ⟨by unfold Fq.plz;first | (simp;done) | (simp;omega), ?_⟩
        rw [hsum 1 (by rw [dN,hd];rfl),e]
        exact hfd (r + 1) (by omega) _ (by unfold Fq.plz;first | (simp;done) | (simp;omega))
      · have e:=D1 (by omega)
        refine ⟨by unfold Fq.plz;first | (simp;done) | (simp;omega), ?_⟩
        rw [hsum (-1) (by rw [dN,hd])]
        by_cases cz:rgU 53 (rU (-1) 53 V.natAbs 1) = 0
        · rw [cz]
          have:r = 1:=by omega
          rw [this];rfl
        · exact hfd _ cz _ (by unfold Fq.plz;first | (simp;done) | (simp;omega))
      · by_cases d1:d = -1
        · exact hother 1 (by rw [dN,d1];rfl) (D4 (by have:=mt (fun h=>h1 ⟨d1,h⟩);omega))
        · by_cases d2:d = 1
          · exact hother (-1) (by rw [dN,d2]) (D2 (by have:=mt (fun h=>h2 ⟨d2,h⟩);omega))
          · exact hother (-d) dN.symm (by rw [dir_oth _ _ (by omega) (by omega),hr])
    · rw [decide_eq_false c] at hsn
      rw [hiv,if_neg c]
      subst hsn
      have dN:dirN false d = d:=rfl
      refine ⟨fun hd h=>?_,fun hd h=>?_,fun h1 h2=>?_⟩
      · have e:=D1 (by omega)
        refine ⟨by unfold Fq.plz;first | (simp;done) | (simp;omega), ?_⟩
        rw [hsum (-1) (by rw [dN,hd])]
        by_cases cz:rgU 53 (rU (-1) 53 V.natAbs 1) = 0
        · rw [cz]
          have:r = 1:=by omega
          rw [this];rfl
        · exact hfd _ cz _ (by unfold Fq.plz;first | (simp;done) | (simp;omega))
      · have e:=D3 (by omega)
        have hl:=hfs 1
        refine ⟨by unfold Fq.plz;first | (simp;done) | (simp;omega), ?_⟩
        rw [hsum 1 (by rw [dN,hd]),e]
        exact hfd (r + 1) (by omega) _ (by unfold Fq.plz;simp)
      · by_cases d1:d = -1
        · exact hother (-1) (by rw [dN,d1]) (D2 (by have:=mt (fun h=>h1 ⟨d1,h⟩);omega))
        · by_cases d2:d = 1
          · exact hother 1 (by rw [dN,d2]) (D4 (by have:=mt (fun h=>h2 ⟨d2,h⟩);omega))
          · exact hother d dN.symm (by rw [dir_oth _ _ d2 d1,hr])
end Go.Proofs.YtnileplkkmhdgaaGreatDoor
