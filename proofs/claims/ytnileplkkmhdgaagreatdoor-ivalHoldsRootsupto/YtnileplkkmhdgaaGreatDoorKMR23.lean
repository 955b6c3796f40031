import Derived.Test.YtnileplkkmhdgaaGreatDoorKMR17
import Derived.Test.YtnileplkkmhdgaaGreatDoorKO6
namespace Go.Proofs.YtnileplkkmhdgaaGreatDoor
open Go.RowKit
theorem vV_zero (m:Nat):Fq.vV Ieee.double m = 0 ↔ m = 0:=by
  unfold Fq.vV Fq.mM Fq.eE
  rw [Fq.binD]
  have:=Nat.two_pow_pos (if m < 4503599627370496 then 0 else m / 4503599627370496 - 1)
  constructor
  · intro h
    rcases Nat.mul_eq_zero.1 h with h | h
    · split at h <;> omega
    · omega
  · intro h;subst h;simp
theorem step_g (d V:Int) (s o sz:Bool) (r ro K:Nat) (hK:53≤K) (hK2:K≤2096) (hv:V.natAbs < 2 ^ K) (hr:r = rgU 53 (rU 0 53 V.natAbs 1)) (hs:s = (if V = 0 then sz else decide (V < 0))) (ho1:Fq.plz o ro < 0 ↔ V - Iv s r < 0) (ho2:0 < Fq.plz o ro ↔ 0 < V - Iv s r) :
    (d = -1→Fq.plz o ro < 0→Fq.plz s r≠-9218868437227405312∧Fq.fD (Fq.plz s r - 1) = sumW d V)∧(d = 1→0 < Fq.plz o ro→Fq.plz s r≠9218868437227405312∧Fq.fD (Fq.plz s r + 1) = sumW d V)∧(¬ (d = -1∧Fq.plz o ro < 0)→¬ (d = 1∧0 < Fq.plz o ro)→Fq.wD (s && !(r == 0)) r = sumW d V):=by
  rw [ho1,ho2]
  obtain ⟨D1,D2,D3,D4⟩:=dirs V.natAbs
  have hfin:∀ dd d2:Int,finU 53 2098 9218868437227405311 9218868437227405312 d2 (rU dd 53 V.natAbs 1) = rgU 53 (rU dd 53 V.natAbs 1)∧rgU 53 (rU dd 53 V.natAbs 1) < 9218868437227405312:=fun dd d2=>fin_small V.natAbs dd d2 K hK (by omega) hv
  have hU:=vV_rung V.natAbs 0
  rw [← hr] at hU D1 D2 D3 D4
  have hrl:r < 9218868437227405312:=by rw [hr];exact (hfin 0 0).2
  have hfs:∀ dd,rgU 53 (rU dd 53 V.natAbs 1) < 9218868437227405312:=fun dd=>(hfin dd 0).2
  by_cases c0:V = 0
  · have h0:rU 0 53 V.natAbs 1 = 0:=by
      rw [c0]
      unfold rU rS rR
      rw [Int.natAbs_zero,Nat.zero_div,Nat.zero_mod,upw_none _ _ _ (by rw [Nat.one_mul];exact Nat.two_pow_pos _)]
      simp
    have hr0:r = 0:=by rw [hr,h0,rgU_zero]
    have hi:Iv s r = 0:=by
      rw [hr0];unfold Iv
      have:Fq.vV Ieee.double 0 = 0:=(vV_pos 0).2 rfl
      rw [this];cases s <;> simp
    rw [hi,c0]
    refine ⟨fun _ h=>absurd h (by decide),fun _ h=>absurd h (by decide),fun _ _=>?_⟩
    unfold sumW
    rw [if_pos rfl,hr0];unfold Fq.wD;simp
  · have hsn:s = decide (V < 0):=by rw [hs,if_neg c0]
    have hmd:∀ x:Nat,x≠0→mdW s x = Fq.wD s x:=fun x hx=>by unfold mdW Fq.wD;rw [if_neg hx]
    have hsum:∀ dm:Int,dm = dirN s d→sumW d V = mdW s (rgU 53 (rU dm 53 V.natAbs 1)):=fun dm hdm=>by
      unfold sumW;rw [if_neg c0,← hsn,← hdm,(hfin dm dm).1]
    have hr1:r≠0:=by
      intro h
      rw [h,(vV_pos 0).2 rfl] at hU
      have hn:=(rn_nr V.natAbs).near
      rw [← hU] at hn
      have hl:=(rn_nr V.natAbs).low
      omega
    have hiv:Iv s r = if V < 0 then -((rU 0 53 V.natAbs 1:Nat):Int) else ((rU 0 53 V.natAbs 1:Nat):Int):=by
      unfold Iv;rw [hU,hsn]
      by_cases c:V < 0
      · rw [decide_eq_true c,if_pos rfl,if_pos c]
      · rw [decide_eq_false c,if_neg (by simp),if_neg c]
    have hfd:∀ x:Nat,x≠0→∀ P:Int,P = Fq.plz s x→Fq.fD P = mdW s x:=fun x hx P hP=>by
      rw [hmd x hx,hP];unfold Fq.fD Fq.plz Fq.wD
      cases s
      · simp
      · simp;omega
    have hother:∀ dm:Int,dm = dirN s d→rgU 53 (rU dm 53 V.natAbs 1) = r→Fq.wD (s && !(r == 0)) r = sumW d V:=fun dm h1 h2=>by
      rw [hsum dm h1,h2,hmd r hr1]
      congr 1
      simp [hr1]
    by_cases c:V < 0
    · rw [decide_eq_true c] at hsn
      rw [hiv,if_pos c]
      subst hsn
      have dN:dirN true d = -d:=rfl
      refine ⟨fun hd h=>?_,fun hd h=>?_,fun h1 h2=>?_⟩
      · have e:=D3 (by omega)
        have hl:=hfs 1
        refine ⟨by unfold Fq.plz;first | (simp;done) | (simp;omega), ?_⟩
        rw [hsum 1 (by rw [dN,hd];rfl),e]
        exact hfd (r + 1) (by omega) _ (by unfold Fq.plz;first | (simp;done) | (simp;omega))
      · have e:=D1 (by omega)
        refine ⟨by unfold Fq.plz;first | (simp;done) | (simp;omega), ?_⟩
        rw [hsum (-1) (by rw [dN,hd])]
        by_cases cz:rgU 53 (rU (-1) 53 V.natAbs 1) = 0
        · rw [cz]
          have:r = 1:=by omega
          rw [this];rfl
        · exact hfd _ cz _ (by unfold Fq.plz;first | (simp;done) | (simp;omega))
      · by_cases d1:d = -1
        · exact hother 1 (by rw [dN,d1];rfl) (D4 (by have:=mt (fun h=>h1 ⟨d1,h⟩);omega))
        · by_cases d2:d = 1
          · exact hother (-1) (by rw [dN,d2]) (D2 (by have:=mt (fun h=>h2 ⟨d2,h⟩);omega))
          · exact hother (-d) dN.symm (by rw [dir_oth _ _ (by omega) (by omega),hr])
    · rw [decide_eq_false c] at hsn
      rw [hiv,if_neg c]
      subst hsn
      have dN:dirN false d = d:=rfl
      refine ⟨fun hd h=>?_,fun hd h=>?_,fun h1 h2=>?_⟩
      · have e:=D1 (by omega)
        refine ⟨by unfold Fq.plz;first | (simp;done) | (simp;omega), ?_⟩
        rw [hsum (-1) (by rw [dN,hd])]
        by_cases cz:rgU 53 (rU (-1) 53 V.natAbs 1) = 0
        · rw [cz]
          have:r = 1:=by omega
          rw [this];rfl
        · exact hfd _ cz _ (by unfold Fq.plz;first | (simp;done) | (simp;omega))
      · have e:=D3 (by omega)
        have hl:=hfs 1
        refine ⟨by unfold Fq.plz;first | (simp;done) | (simp;omega), ?_⟩
        rw [hsum 1 (by rw [dN,hd]),e]
        exact hfd (r + 1) (by omega) _ (by unfold Fq.plz;simp)
      · by_cases d1:d = -1
        · exact hother (-1) (by rw [dN,d1]) (D2 (by have:=mt (fun h=>h1 ⟨d1,h⟩);omega))
        · by_cases d2:d = 1
          · exact hother 1 (by rw [dN,d2]) (D4 (by have:=mt (fun h=>h2 ⟨d2,h⟩);omega))
          · exact hother d dN.symm (by rw [dir_oth _ _ d2 d1,hr])
theorem two_dvd {T U:Nat} (hT:∃ E,T = 2 ^ E) (hU:∃ e,U = 2 ^ e) (h:U≤T):U ∣ T:=by
  obtain ⟨E,rfl⟩:=hT
  obtain ⟨e,rfl⟩:=hU
  exact Nat.pow_dvd_pow 2 ((Nat.pow_le_pow_iff_right (by decide)).1 h)
theorem two_half {T U:Nat} (hT:∃ E,T = 2 ^ E) (hU:∃ e,U = 2 ^ e) (h:T < 2 * U):T≤U:=by
  obtain ⟨E,rfl⟩:=hT
  obtain ⟨e,rfl⟩:=hU
  rw [Nat.mul_comm,← Nat.pow_succ] at h
  have:=(Nat.pow_lt_pow_iff_right (by decide)).1 h
  exact Nat.pow_le_pow_right (by decide) (by omega)
theorem norm_unit (n:Bool) (m:Nat) (h1:4503599627370496≤m):∃ e:Nat,((2 ^ e:Nat):Int) ∣ Iv n m∧4503599627370496 * 2 ^ e≤(Iv n m).natAbs∧(Iv n m).natAbs < 9007199254740992 * 2 ^ e:=by
  have hb:¬ m < 4503599627370496:=by omega
  refine ⟨m / 4503599627370496 - 1, ?_⟩
  have hv:(Iv n m).natAbs = (4503599627370496 + m % 4503599627370496) * 2 ^ (m / 4503599627370496 - 1):=by
    rw [iv_abs];unfold Fq.vV Fq.mM Fq.eE;rw [Fq.binD,if_neg hb,if_neg hb]
  refine ⟨Int.dvd_natAbs.1 (by rw [hv];exact Int.natCast_dvd_natCast.2 (Nat.dvd_mul_left _ _)), ?_, ?_⟩
  · rw [hv];exact Nat.mul_le_mul_right _ (by omega)
  · rw [hv];exact Nat.mul_lt_mul_of_pos_right (by omega) (Nat.two_pow_pos _)
theorem norm_of (n:Bool) (m:Nat) (h:4503599627370496≤(Iv n m).natAbs):4503599627370496≤m:=by
  by_cases c:4503599627370496≤m
  · exact c
  · exfalso
    rw [iv_abs] at h
    unfold Fq.vV Fq.mM Fq.eE at h
    rw [Fq.binD,if_pos (by omega),if_pos (by omega),Nat.pow_zero,Nat.mul_one] at h
    omega
theorem pw52:(2:Nat) ^ 52 = 4503599627370496:=by decide
theorem pw53:(2:Nat) ^ 53 = 9007199254740992:=by decide
theorem Nr.mag {v s:Int} {T:Nat} (h:Nr v s T) (h1:T≠1):4503599627370496 * T≤s.natAbs:=by
  have hl:=h.low.resolve_left h1
  have hn:=h.near
  have hp:=h.pos
  obtain ⟨k,hk⟩:=h.dvd
  have e:s.natAbs = T * k.natAbs:=by rw [hk,Int.natAbs_mul,Int.natAbs_natCast]
  rw [e]
  rcases Nat.lt_or_ge k.natAbs 4503599627370496 with c | c
  · exfalso
    have h5:T * k.natAbs≤T * 4503599627370495:=Nat.mul_le_mul_left T (by omega)
    omega
  · have h5:=Nat.mul_le_mul_left T c
    omega
theorem upw_mono (d:Int) (S r w r' w':Nat) (hw:0 < w) (hw':0 < w') (h:r * w'≤r' * w) (u:upw d S r w = true):upw d S r' w' = true:=by
  unfold upw at u ⊢
  by_cases c1:d = 1
  · rw [if_pos c1] at u ⊢
    have h0:0 < r:=of_decide_eq_true u
    apply decide_eq_true
    have h1:0 < r * w':=Nat.mul_pos h0 hw'
    rcases Nat.eq_zero_or_pos r' with e | e
    · rw [e,Nat.zero_mul] at h;omega
    · exact e
  · rw [if_neg c1] at u ⊢
    by_cases c2:d = -1
    · rw [if_pos c2] at u;cases u
    · rw [if_neg c2] at u ⊢
      have key:∀ a b:Nat,a * w'≤b * w→w < 2 * a→w' < 2 * b:=by
        intro a b h1 h2
        rcases Nat.lt_or_ge w' (2 * b) with g | g
        · exact g
        · exfalso
          have e1:2 * b * w≤w' * w:=Nat.mul_le_mul_right _ g
          have e2:w * w' < 2 * a * w':=Nat.mul_lt_mul_of_pos_right h2 hw'
          have e3:2 * a * w'≤2 * b * w:=by rw [Nat.mul_assoc,Nat.mul_assoc];exact Nat.mul_le_mul_left _ h1
          rw [Nat.mul_comm w' w] at e1
          omega
      have key2:∀ a b:Nat,a * w'≤b * w→w = 2 * a→w'≤2 * b:=by
        intro a b h1 h2
        rcases Nat.lt_or_ge (2 * b) w' with g | g
        · exfalso
          have e1:2 * b * w < w' * w:=Nat.mul_lt_mul_of_pos_right g hw
          have e3:2 * a * w'≤2 * b * w:=by rw [Nat.mul_assoc,Nat.mul_assoc];exact Nat.mul_le_mul_left _ h1
          rw [← h2,Nat.mul_comm w w'] at e3
          omega
        · exact g
      rw [Bool.or_eq_true,Bool.and_eq_true] at u ⊢
      rcases u with u | ⟨u1,u2⟩
      · left
        exact decide_eq_true (key r r' h (of_decide_eq_true u))
      · have e:=key2 r r' h (of_decide_eq_true u1)
        rcases Nat.lt_or_ge w' (2 * r') with g | g
        · left;exact decide_eq_true g
        · right
          exact ⟨decide_eq_true (by omega),u2⟩
theorem rS_lt (p A B:Nat) (hB:0 < B) (hp:0 < p):rS p A B < 2 ^ p∧(rE p A B = 0∨2 ^ (p - 1)≤rS p A B):=by
  obtain ⟨h1,h2⟩:=rE_spec p A B hB hp
  have hq:0 < B * 2 ^ rE p A B:=Nat.mul_pos hB (Nat.two_pow_pos _)
  unfold rS
  refine ⟨?_, ?_⟩
  · rw [Nat.div_lt_iff_lt_mul hq,Nat.mul_comm (2 ^ p),Nat.mul_assoc,← Nat.pow_add]
    exact h1
  · rcases h2 with h2 | h2
    · exact Or.inl h2
    · by_cases c:rE p A B = 0
      · exact Or.inl c
      · right
        rw [Nat.le_div_iff_mul_le hq,Nat.mul_comm (2 ^ (p - 1)),Nat.mul_assoc,← Nat.pow_add,show rE p A B + (p - 1) = rE p A B + p - 1 from by omega]
        exact h2
theorem rE_mono (p A B A' B':Nat) (hB:0 < B) (hB':0 < B') (h:A * B'≤A' * B):rE p A B≤rE p A' B':=by
  unfold rE
  have:A / B≤A' / B':=by
    rw [Nat.le_div_iff_mul_le hB']
    have e:A / B * B≤A:=Nat.div_mul_le_self A B
    have e2:A / B * B * B'≤A' * B:=Nat.le_trans (Nat.mul_le_mul_right _ e) h
    rw [Nat.mul_right_comm] at e2
    exact Nat.le_of_mul_le_mul_right e2 hB
  have:=blen_mono this
  omega
theorem rU_mono (d:Int) (p A B A' B':Nat) (hB:0 < B) (hB':0 < B') (hp:0 < p) (h:A * B'≤A' * B):rU d p A B≤rU d p A' B':=by
  obtain ⟨s1,s2⟩:=rS_lt p A B hB hp
  obtain ⟨t1,t2⟩:=rS_lt p A' B' hB' hp
  have hE:=rE_mono p A B A' B' hB hB' h
  have hw:0 < B * 2 ^ rE p A B:=Nat.mul_pos hB (Nat.two_pow_pos _)
  have hw':0 < B' * 2 ^ rE p A' B':=Nat.mul_pos hB' (Nat.two_pow_pos _)
  have le1:∀ b:Bool,b.toNat≤1:=fun b=>by cases b <;> decide
  unfold rU
  by_cases c:rE p A B = rE p A' B'
  · have hS:rS p A B≤rS p A' B':=by
      unfold rS
      rw [Nat.le_div_iff_mul_le hw']
      have e:A / (B * 2 ^ rE p A B) * (B * 2 ^ rE p A B)≤A:=Nat.div_mul_le_self _ _
      have e2:A / (B * 2 ^ rE p A B) * (B * 2 ^ rE p A B) * B'≤A' * B:=Nat.le_trans (Nat.mul_le_mul_right _ e) h
      rw [← c]
      generalize A / (B * 2 ^ rE p A B) = q at *
      generalize 2 ^ rE p A B = P at *
      have e3:q * (B * P) * B' = q * (B' * P) * B:=by ac_rfl
      rw [e3] at e2
      exact Nat.le_of_mul_le_mul_right e2 hB
    rw [← c]
    apply Nat.mul_le_mul_right
    rcases Nat.lt_or_ge (rS p A B) (rS p A' B') with g | g
    · have:=le1 (upw d (rS p A B) (rR p A B) (B * 2 ^ rE p A B))
      omega
    · have e:rS p A B = rS p A' B':=by omega
      rw [← e]
      have hu:upw d (rS p A B) (rR p A B) (B * 2 ^ rE p A B) = true→upw d (rS p A B) (rR p A' B') (B' * 2 ^ rE p A B) = true:=by
        apply upw_mono d _ _ _ _ _ hw (by rw [c];exact hw')
        have d1:=Nat.div_add_mod A (B * 2 ^ rE p A B)
        have d2:=Nat.div_add_mod A' (B' * 2 ^ rE p A' B')
        have q1:A / (B * 2 ^ rE p A B) = rS p A B:=rfl
        have q2:A' / (B' * 2 ^ rE p A' B') = rS p A B:=e.symm
        have q3:A % (B * 2 ^ rE p A B) = rR p A B:=rfl
        have q4:A' % (B' * 2 ^ rE p A' B') = rR p A' B':=rfl
        rw [q1,q3] at d1
        rw [q2,q4,← c] at d2
        generalize rR p A B = r at *
        generalize rR p A' B' = r' at *
        generalize rS p A B = q at *
        generalize 2 ^ rE p A B = P at *
        have f1:A * (B' * P) = (B * P) * q * (B' * P) + r * (B' * P):=by rw [← d1,Nat.add_mul]
        have f2:A' * (B * P) = (B' * P) * q * (B * P) + r' * (B * P):=by rw [← d2,Nat.add_mul]
        have f3:A * (B' * P)≤A' * (B * P):=by rw [← Nat.mul_assoc,← Nat.mul_assoc];exact Nat.mul_le_mul_right _ h
        have f4:(B * P) * q * (B' * P) = (B' * P) * q * (B * P):=by ac_rfl
        omega
      cases hx:upw d (rS p A B) (rR p A B) (B * 2 ^ rE p A B)
      · simp
      · rw [hu hx];exact Nat.le_refl _
  · have hlt:rE p A B < rE p A' B':=by omega
    have t3:2 ^ (p - 1)≤rS p A' B':=t2.resolve_left (by omega)
    have g1:(rS p A B + (upw d (rS p A B) (rR p A B) (B * 2 ^ rE p A B)).toNat) * 2 ^ rE p A B≤2 ^ p * 2 ^ rE p A B:=by
      apply Nat.mul_le_mul_right
      have:=le1 (upw d (rS p A B) (rR p A B) (B * 2 ^ rE p A B))
      omega
    have g2:2 ^ p * 2 ^ rE p A B≤2 ^ (p - 1) * 2 ^ rE p A' B':=by
      rw [← Nat.pow_add,← Nat.pow_add]
      exact Nat.pow_le_pow_right (by decide) (by omega)
    have g3:2 ^ (p - 1) * 2 ^ rE p A' B'≤(rS p A' B' + (upw d (rS p A' B') (rR p A' B') (B' * 2 ^ rE p A' B')).toNat) * 2 ^ rE p A' B':=by
      apply Nat.mul_le_mul_right
      omega
    omega
theorem rgU_mono (p U U':Nat) (hp:0 < p) (h:U≤U'):rgU p U≤rgU p U':=by
  have hb:=blen_mono h
  unfold rgU
  by_cases c:blen U - p = blen U' - p
  · rw [c]
    exact Nat.add_le_add_left (Nat.div_le_div_right h) _
  · have hlt:blen U - p < blen U' - p:=by omega
    have u1:U / 2 ^ (blen U - p) < 2 ^ p:=by
      rw [Nat.div_lt_iff_lt_mul (Nat.two_pow_pos _),← Nat.pow_add]
      exact Nat.lt_of_lt_of_le ((blen_le_iff U (blen U)).1 (Nat.le_refl _)) (Nat.pow_le_pow_right (by decide) (by omega))
    have u2:2 ^ (p - 1)≤U' / 2 ^ (blen U' - p):=by
      rw [Nat.le_div_iff_mul_le (Nat.two_pow_pos _),← Nat.pow_add]
      rcases Nat.lt_or_ge U' (2 ^ (p - 1 + (blen U' - p))) with g | g
      · have:=(blen_le_iff U' _).2 g
        omega
      · exact g
    have e:(2:Nat) ^ p = 2 * 2 ^ (p - 1):=by rw [show p = p - 1 + 1 from by omega,Nat.pow_succ,Nat.add_sub_cancel];omega
    have m1:(blen U - p + 1) * 2 ^ (p - 1)≤(blen U' - p) * 2 ^ (p - 1):=Nat.mul_le_mul_right _ (by omega)
    rw [Nat.add_mul,Nat.one_mul] at m1
    omega
theorem rgU_top (p T U:Nat) (hp:0 < p) (hT:p≤T) (h:blen U≤T):rgU p U < (T - p + 2) * 2 ^ (p - 1):=by
  have u1:U / 2 ^ (blen U - p) < 2 ^ p:=by
    rw [Nat.div_lt_iff_lt_mul (Nat.two_pow_pos _),← Nat.pow_add]
    exact Nat.lt_of_lt_of_le ((blen_le_iff U (blen U)).1 (Nat.le_refl _)) (Nat.pow_le_pow_right (by decide) (by omega))
  have e:(2:Nat) ^ p = 2 * 2 ^ (p - 1):=by rw [show p = p - 1 + 1 from by omega,Nat.pow_succ,Nat.add_sub_cancel];omega
  unfold rgU
  have m1:(blen U - p) * 2 ^ (p - 1)≤(T - p) * 2 ^ (p - 1):=Nat.mul_le_mul_right _ (by omega)
  rw [Nat.add_mul]
  omega
theorem finG_mono (p T G I:Nat) (d:Int) (U U':Nat) (hp:0 < p) (hT:p≤T) (hG:(T - p + 2) * 2 ^ (p - 1) = G + 1) (hI:G + 1 = I) (h:U≤U'):finU p T G I d U≤finU p T G I d U'∧finU p T G I d U'≤I:=by
  have hb:=blen_mono h
  have k:∀ X,blen X≤T→rgU p X≤G:=fun X hX=>by have:=rgU_top p T X hp hT hX;omega
  unfold finU
  by_cases c2:blen U'≤T
  · rw [if_pos c2,if_pos (by omega)]
    have:=k U' c2
    exact ⟨rgU_mono p U U' hp h,by omega⟩
  · rw [if_neg c2]
    by_cases c1:blen U≤T
    · rw [if_pos c1]
      have:=k U c1
      split <;> omega
    · rw [if_neg c1]
      split <;> omega
def gpl (p T G I:Nat) (d:Int) (c1 c2:Nat) (V:Int):Int:=if V = 0 then 0 else (if V < 0 then -((finU p T G I (dirN true d) (rU (dirN true d) p (V.natAbs * c1) c2):Nat):Int) else ((finU p T G I (dirN false d) (rU (dirN false d) p (V.natAbs * c1) c2):Nat):Int))
theorem gpl_mono (p T G I:Nat) (d:Int) (c1 c2:Nat) (hc:0 < c2) (hp:0 < p) (hT:p≤T) (hG:(T - p + 2) * 2 ^ (p - 1) = G + 1) (hI:G + 1 = I) (V V':Int) (h:V≤V'):gpl p T G I d c1 c2 V≤gpl p T G I d c1 c2 V':=by
  have mn:∀ (s:Bool) (a b:Nat),a≤b→finU p T G I (dirN s d) (rU (dirN s d) p (a * c1) c2)≤finU p T G I (dirN s d) (rU (dirN s d) p (b * c1) c2):=fun s a b hab =>
    (finG_mono p T G I (dirN s d) _ _ hp hT hG hI (rU_mono (dirN s d) p (a * c1) c2 (b * c1) c2 hc hc hp (Nat.mul_le_mul_right _ (Nat.mul_le_mul_right _ hab)))).1
  unfold gpl
  by_cases z:V = 0
  · rw [if_pos z]
    by_cases z':V' = 0
    · rw [if_pos z'];exact Int.le_refl _
    · rw [if_neg z',if_neg (by omega)];omega
  · rw [if_neg z]
    by_cases n:V < 0
    · rw [if_pos n]
      by_cases z':V' = 0
      · rw [if_pos z'];omega
      · rw [if_neg z']
        by_cases n':V' < 0
        · rw [if_pos n']
          have:=mn true V'.natAbs V.natAbs (by omega)
          omega
        · rw [if_neg n'];omega
    · rw [if_neg n,if_neg (show ¬ V' = 0 by omega),if_neg (show ¬ V' < 0 by omega)]
      have:=mn false V.natAbs V'.natAbs (by omega)
      omega
theorem gpl_le (p T G I:Nat) (d:Int) (c1 c2:Nat) (hp:0 < p) (hT:p≤T) (hG:(T - p + 2) * 2 ^ (p - 1) = G + 1) (hI:G + 1 = I) (V:Int):-(I:Int)≤gpl p T G I d c1 c2 V∧gpl p T G I d c1 c2 V≤I:=by
  have k:=fun d U=>(finG_mono p T G I d U U hp hT hG hI (Nat.le_refl _)).2
  unfold gpl
  split
  · omega
  · split
    · have:=k (dirN true d) (rU (dirN true d) p (V.natAbs * c1) c2)
      omega
    · have:=k (dirN false d) (rU (dirN false d) p (V.natAbs * c1) c2)
      omega
end Go.Proofs.YtnileplkkmhdgaaGreatDoor
