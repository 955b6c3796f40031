import Derived.Test.YtnileplkkmhdgaaGreatDoorKMR23
set_option maxHeartbeats 1000000
namespace Go.Proofs.YtnileplkkmhdgaaGreatDoor
open Go.RowKit
theorem rgU_place (p S E:Nat) (hp:0 < p) (hS:S≤2 ^ p) (hE:E = 0∨2 ^ (p - 1)≤S):rgU p (S * 2 ^ E) = E * 2 ^ (p - 1) + S:=by
  have ep:(2:Nat) ^ p = 2 * 2 ^ (p - 1):=by rw [show p = p - 1 + 1 from by omega,Nat.pow_succ,Nat.add_sub_cancel];omega
  have pp:=Nat.two_pow_pos (p - 1)
  have full:∀ X x:Nat,2 ^ (p - 1)≤X→X < 2 ^ p→rgU p (X * 2 ^ x) = x * 2 ^ (p - 1) + X:=by
    intro X x h1 h2
    have b1:blen X≤p:=(blen_le_iff X p).2 h2
    have b2:¬ blen X≤p - 1:=fun h=>by have:=(blen_le_iff X (p - 1)).1 h;omega
    have b3:p - blen X = 0:=by omega
    rw [rgU_mul p X x 0 (by omega) (by rw [b3,Nat.zero_min]) b1,Nat.sub_zero,Nat.pow_zero,Nat.mul_one]
  by_cases c:S = 2 ^ p
  · have e:S * 2 ^ E = 2 ^ (p - 1) * 2 ^ (E + 1):=by
      rw [c,ep,Nat.pow_succ];ac_rfl
    rw [e,full _ _ (Nat.le_refl _) (by omega),c,ep,Nat.add_mul,Nat.one_mul,Nat.two_mul]
    omega
  · have hlt:S < 2 ^ p:=by omega
    rcases hE with h | h
    · rw [h,Nat.pow_zero,Nat.mul_one,Nat.zero_mul,Nat.zero_add]
      by_cases z:S = 0
      · rw [z,rgU_zero]
      · have h1:=rgU_mul p S 0 0 z (by omega) ((blen_le_iff S p).2 hlt)
        rw [Nat.pow_zero,Nat.mul_one,Nat.sub_zero,Nat.zero_mul,Nat.zero_add] at h1
        exact h1
    · exact full S E h hlt
def TU (I:Nat) (v:Nat→Nat) (A B lo hi ne:Nat):Prop:=(lo = hi∧ne = lo∧lo < I∧v lo * B = A)∨(hi = lo + 1∧lo < I∧v lo * B < A∧(hi < I→A < v hi * B)∧((2 * A < (v lo + v hi) * B∧ne = lo)∨((v lo + v hi) * B < 2 * A∧ne = hi)∨(2 * A = (v lo + v hi) * B∧(ne = lo∨ne = hi)∧ne % 2 = 0)))
theorem tightU (p T G I:Nat) (v:Nat→Nat) (hv:∀ E S:Nat,S≤2 ^ p→(E = 0∨2 ^ (p - 1)≤S)→v (E * 2 ^ (p - 1) + S) = S * 2 ^ E) (A B:Nat) (hB:0 < B) (hp:2≤p) (hT:p≤T) (hG:(T - p + 2) * 2 ^ (p - 1) = G + 1) (hI:G + 1 = I) :
    TU I v A B (finU p T G I (-1) (rU (-1) p A B)) (finU p T G I 1 (rU 1 p A B)) (finU p T G I 0 (rU 0 p A B)):=by
  obtain ⟨s1,s2⟩:=rS_lt p A B hB (by omega)
  have ep:(2:Nat) ^ p = 2 * 2 ^ (p - 1):=by rw [show p = p - 1 + 1 from by omega,Nat.pow_succ,Nat.add_sub_cancel];omega
  have pp:=Nat.two_pow_pos (p - 1)
  have hw:0 < B * 2 ^ rE p A B:=Nat.mul_pos hB (Nat.two_pow_pos _)
  have d1:=Nat.div_add_mod A (B * 2 ^ rE p A B)
  have dr:=Nat.mod_lt A hw
  have q1:A / (B * 2 ^ rE p A B) = rS p A B:=rfl
  have q3:A % (B * 2 ^ rE p A B) = rR p A B:=rfl
  rw [q1,q3] at d1
  rw [q3] at dr
  have hGp:(T - p) * 2 ^ (p - 1) + (2 ^ p - 1) = G:=by
    rw [Nat.add_mul] at hG;omega
  unfold rU
  generalize rS p A B = S at *
  generalize rR p A B = R at *
  generalize rE p A B = E at *
  clear q1 q3
  by_cases ct:E + p≤T
  · have fin:∀ (d:Int) (u:Bool),(d = -1→u = false)→finU p T G I d ((S + u.toNat) * 2 ^ E) = E * 2 ^ (p - 1) + (S + u.toNat):=by
      intro d u hd
      have hS1:S + u.toNat≤2 ^ p:=by cases u <;> simp <;> omega
      have hE1:E = 0∨2 ^ (p - 1)≤S + u.toNat:=by rcases s2 with h | h;exact Or.inl h;exact Or.inr (by omega)
      unfold finU
      by_cases cb:blen ((S + u.toNat) * 2 ^ E)≤T
      · rw [if_pos cb]
        exact rgU_place p _ E (by omega) hS1 hE1
      · rw [if_neg cb]
        have hge:2 ^ T≤(S + u.toNat) * 2 ^ E:=by
          rcases Nat.lt_or_ge ((S + u.toNat) * 2 ^ E) (2 ^ T) with h | h
          · exact absurd ((blen_le_iff _ T).2 h) cb
          · exact h
        have hle:(2:Nat) ^ p * 2 ^ E≤2 ^ T:=by rw [← Nat.pow_add];exact Nat.pow_le_pow_right (by decide) (by omega)
        have hPE:=Nat.two_pow_pos E
        have hSe:S + u.toNat = 2 ^ p:=by
          rcases Nat.lt_or_ge (S + u.toNat) (2 ^ p) with h | h
          · have:=Nat.mul_lt_mul_of_pos_right h hPE
            omega
          · omega
        have hu:u = true:=by cases u <;> simp at hSe ⊢;omega
        have hdn:d≠-1:=fun h=>by rw [hd h] at hu;cases hu
        rw [if_neg hdn,hSe]
        have hET:E = T - p:=by
          rcases Nat.lt_or_ge (E + p) T with h | h
          · have:(2:Nat) ^ (p + E) < 2 ^ T:=Nat.pow_lt_pow_right (by decide) (by omega)
            rw [hSe,← Nat.pow_add] at hge
            omega
          · omega
        rw [hET];omega
    have up1:upw (-1) S R (B * 2 ^ E) = false:=rfl
    have up2:upw 1 S R (B * 2 ^ E) = decide (0 < R):=rfl
    have up3:upw 0 S R (B * 2 ^ E) = (decide (B * 2 ^ E < 2 * R) || (decide (B * 2 ^ E = 2 * R) && decide (S % 2 = 1))):=rfl
    rw [fin (-1) _ (fun _=>up1),fin 1 _ (fun h=>absurd h (by decide)),fin 0 _ (fun h=>absurd h (by decide)),up1,up2,up3]
    have hlo:E * 2 ^ (p - 1) + S < I:=by
      have:E * 2 ^ (p - 1)≤(T - p) * 2 ^ (p - 1):=Nat.mul_le_mul_right _ (by omega)
      omega
    have v1:=hv E S (by omega) s2
    have v2:=hv E (S + 1) (by omega) (by rcases s2 with h | h;exact Or.inl h;exact Or.inr (by omega))
    have w1:v (E * 2 ^ (p - 1) + S) * B = B * 2 ^ E * S:=by rw [v1];ac_rfl
    have w2:v (E * 2 ^ (p - 1) + (S + 1)) * B = B * 2 ^ E * S + B * 2 ^ E:=by rw [v2,← Nat.mul_succ];ac_rfl
    have ev:E * 2 ^ (p - 1) % 2 = 0:=by
      rw [show p - 1 = p - 2 + 1 from by omega,Nat.pow_succ,← Nat.mul_assoc];exact Nat.mul_mod_left _ _
    generalize E * 2 ^ (p - 1) = Z at *
    generalize B * 2 ^ E = W at *
    generalize W * S = WS at *
    have t0:false.toNat = 0:=rfl
    have t1:true.toNat = 1:=rfl
    by_cases cR:R = 0
    · left
      rw [decide_eq_false (show ¬ 0 < R by omega),decide_eq_false (show ¬ W < 2 * R by omega),decide_eq_false (show ¬ W = 2 * R by omega),Bool.false_and,Bool.or_false,t0,Nat.add_zero]
      exact ⟨rfl,rfl,hlo,by omega⟩
    · right
      rw [decide_eq_true (show 0 < R by omega),t0,t1,show S + 0 = S from rfl]
      refine ⟨by omega,hlo,by omega,fun _=>by omega, ?_⟩
      rw [Nat.add_mul,w1,w2]
      by_cases c1:W < 2 * R
      · rw [decide_eq_true c1,Bool.true_or,t1]
        exact Or.inr (Or.inl ⟨by omega,rfl⟩)
      · rw [decide_eq_false c1,Bool.false_or]
        by_cases c2:W = 2 * R
        · rw [decide_eq_true c2,Bool.true_and]
          refine Or.inr (Or.inr ⟨by omega, ?_⟩)
          by_cases c3:S % 2 = 1
          · rw [decide_eq_true c3,t1];exact ⟨Or.inr rfl,by omega⟩
          · rw [decide_eq_false c3,t0];exact ⟨Or.inl rfl,by omega⟩
        · rw [decide_eq_false c2,Bool.false_and,t0]
          exact Or.inl ⟨by omega,rfl⟩
  · have hS0:2 ^ (p - 1)≤S:=s2.resolve_left (by omega)
    have big:(2:Nat) ^ T≤S * 2 ^ E:=by
      have h1:(2:Nat) ^ (p - 1) * 2 ^ E≤S * 2 ^ E:=Nat.mul_le_mul_right _ hS0
      rw [← Nat.pow_add] at h1
      exact Nat.le_trans (Nat.pow_le_pow_right (by decide) (by omega)) h1
    have nb:∀ u:Bool,¬ blen ((S + u.toNat) * 2 ^ E)≤T:=fun u h=>by
      have h2:=(blen_le_iff _ T).1 h
      have h3:S * 2 ^ E≤(S + u.toNat) * 2 ^ E:=Nat.mul_le_mul_right _ (by omega)
      omega
    have f1:∀ u:Bool,finU p T G I (-1) ((S + u.toNat) * 2 ^ E) = G:=fun u=>by unfold finU;rw [if_neg (nb u),if_pos rfl]
    have f2:∀ u:Bool,finU p T G I 1 ((S + u.toNat) * 2 ^ E) = I:=fun u=>by unfold finU;rw [if_neg (nb u),if_neg (by decide)]
    have f3:∀ u:Bool,finU p T G I 0 ((S + u.toNat) * 2 ^ E) = I:=fun u=>by unfold finU;rw [if_neg (nb u),if_neg (by decide)]
    rw [f1,f2,f3]
    right
    have v1:=hv (T - p) (2 ^ p - 1) (by omega) (Or.inr (by omega))
    have v2:=hv (T - p) (2 ^ p) (Nat.le_refl _) (Or.inr (by omega))
    rw [hGp] at v1
    rw [show (T - p) * 2 ^ (p - 1) + 2 ^ p = I from by omega,← Nat.pow_add,show p + (T - p) = T from by omega] at v2
    have vl:v G < 2 ^ T:=by
      rw [v1,show (2:Nat) ^ T = 2 ^ p * 2 ^ (T - p) from by rw [← Nat.pow_add];exact congrArg _ (by omega)]
      exact Nat.mul_lt_mul_of_pos_right (by omega) (Nat.two_pow_pos _)
    have hA:B * 2 ^ T≤A:=by
      have h1:B * 2 ^ T≤B * (S * 2 ^ E):=Nat.mul_le_mul_left _ big
      have h2:B * (S * 2 ^ E) = B * 2 ^ E * S:=by ac_rfl
      omega
    have h4:v G * B < 2 ^ T * B:=Nat.mul_lt_mul_of_pos_right vl hB
    rw [Nat.mul_comm B] at hA
    refine ⟨by omega,by omega,by omega,fun h=>by omega,Or.inr (Or.inl ⟨?_,rfl⟩)⟩
    rw [Nat.add_mul,v2]
    omega
def TS (I:Nat) (v:Nat→Nat) (A B:Int) (lo hi ne:Int):Prop:=∀ vs:Int→Int,(∀ z:Int,0≤z→vs z = (v z.natAbs:Int))→(∀ z:Int,vs (-z) = - vs z)→(lo = hi∧ne = lo∧-(I:Int) < lo∧lo < I∧vs lo * B = A)∨(hi = lo + 1∧-(I:Int)≤lo∧hi≤I∧(-(I:Int) < lo→vs lo * B < A)∧(hi < I→A < vs hi * B)∧((2 * A < (vs lo + vs hi) * B∧ne = lo)∨((vs lo + vs hi) * B < 2 * A∧ne = hi)∨(2 * A = (vs lo + vs hi) * B∧(ne = lo∨ne = hi)∧ne % 2 = 0)))
theorem TU.pos {I:Nat} {v:Nat→Nat} {A B lo hi ne:Nat} (h:TU I v A B lo hi ne):TS I v (A:Int) (B:Int) (lo:Int) (hi:Int) (ne:Int):=by
  intro vs h1 h2
  have e1:vs (lo:Int) = (v lo:Int):=by rw [h1 _ (by omega)];rfl
  have e2:vs (hi:Int) = (v hi:Int):=by rw [h1 _ (by omega)];rfl
  rw [e1,e2]
  rcases h with ⟨a1,a2,a3,a4⟩ | ⟨a1,a2,a3,a4,a5⟩
  · left
    refine ⟨by omega,by omega,by omega,by omega, ?_⟩
    rw [← a4,Int.natCast_mul]
  · right
    have m1:((v lo * B:Nat):Int) = (v lo:Int) * (B:Int):=Int.natCast_mul _ _
    have m2:((v hi * B:Nat):Int) = (v hi:Int) * (B:Int):=Int.natCast_mul _ _
    rw [Nat.add_mul] at a5
    rw [Int.add_mul,← m1,← m2]
    generalize v lo * B = X at *
    generalize v hi * B = Y at *
    refine ⟨by omega,by omega,by omega,fun _=>by omega,fun h=>?_, ?_⟩
    · have:=a4 (by omega);omega
    · omega
theorem TU.neg {I:Nat} {v:Nat→Nat} {A B lo hi ne:Nat} (h:TU I v A B lo hi ne):TS I v (-(A:Int)) (B:Int) (-(hi:Int)) (-(lo:Int)) (-(ne:Int)):=by
  intro vs h1 h2
  have e1:vs (-(lo:Int)) = -(v lo:Int):=by rw [h2,h1 _ (by omega)];rfl
  have e2:vs (-(hi:Int)) = -(v hi:Int):=by rw [h2,h1 _ (by omega)];rfl
  rw [e1,e2]
  have m1:((v lo * B:Nat):Int) = (v lo:Int) * (B:Int):=Int.natCast_mul _ _
  have m2:((v hi * B:Nat):Int) = (v hi:Int) * (B:Int):=Int.natCast_mul _ _
  rcases h with ⟨a1,a2,a3,a4⟩ | ⟨a1,a2,a3,a4,a5⟩
  · left
    refine ⟨by omega,by omega,by omega,by omega, ?_⟩
    rw [Int.neg_mul,← m2,← a1,a4]
  · right
    rw [Nat.add_mul] at a5
    rw [Int.add_mul,Int.neg_mul,Int.neg_mul,← m1,← m2]
    generalize v lo * B = X at *
    generalize v hi * B = Y at *
    refine ⟨by omega,by omega,by omega,fun h=>?_,fun _=>by omega, ?_⟩
    · have:=a4 (by omega);omega
    · omega
theorem gpl_tight (p T G I:Nat) (v:Nat→Nat) (hv:∀ E S:Nat,S≤2 ^ p→(E = 0∨2 ^ (p - 1)≤S)→v (E * 2 ^ (p - 1) + S) = S * 2 ^ E) (c1 c2:Nat) (hB:0 < c2) (hp:2≤p) (hT:p≤T) (hG:(T - p + 2) * 2 ^ (p - 1) = G + 1) (hI:G + 1 = I) (V:Int) :
    TS I v (V * c1) (c2:Int) (gpl p T G I (-1) c1 c2 V) (gpl p T G I 1 c1 c2 V) (gpl p T G I 0 c1 c2 V):=by
  have k:=tightU p T G I v hv (V.natAbs * c1) c2 hB hp hT hG hI
  unfold gpl
  by_cases z:V = 0
  · rw [if_pos z,if_pos z,if_pos z]
    intro vs h1 h2
    have v0:=hv 0 0 (Nat.zero_le _) (Or.inl rfl)
    rw [Nat.zero_mul,Nat.zero_mul] at v0
    left
    refine ⟨rfl,rfl,by omega,by omega, ?_⟩
    rw [h1 0 (by omega),show (0:Int).natAbs = 0 + 0 from rfl,v0,z]
    simp
  · rw [if_neg z,if_neg z,if_neg z]
    by_cases n:V < 0
    · rw [if_pos n,if_pos n,if_pos n]
      have e:V * (c1:Int) = -((V.natAbs * c1:Nat):Int):=by
        rw [Int.natCast_mul,show (V.natAbs:Int) = -V from by omega,Int.neg_mul,Int.neg_neg]
      rw [e]
      exact k.neg
    · rw [if_neg n,if_neg n,if_neg n]
      have e:V * (c1:Int) = ((V.natAbs * c1:Nat):Int):=by
        rw [Int.natCast_mul,show (V.natAbs:Int) = V from by omega]
      rw [e]
      exact k.pos
theorem lack_exact2 {x V np op t1 off:Int} {W Tn T5 T6:Nat} (hW:∃ e,W = 2 ^ e) (dx:((1125899906842624 * W:Nat):Int) ∣ x) (dV:(W:Int) ∣ V) (hu:(x - V).natAbs≤9007199254740992 * W) (v1:20282409603651670423947251286016 * W≤V.natAbs) (v2:V.natAbs < 81129638414606681695789005144064 * W)
    (k0:Nr V np Tn) (hop:op = V - np) (k1:Nr (x - np) t1 T5) (k2:Nr (t1 - op) off T6):off = x - V:=by
  have hWp:0 < W:=by obtain ⟨e,rfl⟩:=hW;exact Nat.two_pow_pos e
  have h53:∃ e,9007199254740992 * W = 2 ^ e:=by
    have:=two_times hW 53
    rwa [show (2:Nat) ^ 53 = 9007199254740992 from by decide] at this
  have h50:∃ e,1125899906842624 * W = 2 ^ e:=by
    have:=two_times hW 50
    rwa [show (2:Nat) ^ 50 = 1125899906842624 from by decide] at this
  have hTn:Tn≤9007199254740992 * W:=two_half k0.two h53 (by rcases k0.low with h | h <;> omega)
  have hWT:1125899906842624 * W ∣ Tn:=two_dvd k0.two h50 (by have:=k0.lt;omega)
  have dn:((1125899906842624 * W:Nat):Int) ∣ np:=Int.dvd_trans (Int.natCast_dvd_natCast.2 hWT) k0.dvd
  have f1:FL (x - np):=fl_of h50 (Int.dvd_sub dx dn) (by have:=k0.near;omega)
  have e1:=k1.fix f1
  have hWx:(W:Int) ∣ x:=Int.dvd_trans (Int.natCast_dvd_natCast.2 (Nat.dvd_mul_left _ _)) dx
  have f2:FL (x - V):=fl_of hW (Int.dvd_sub hWx dV) (by omega)
  have e2:t1 - op = x - V:=by omega
  rw [e2] at k2
  exact k2.fix f2
theorem sq_lt_sq {a b:Nat} (h:a * a < b * b):a < b:=by
  rcases Nat.lt_or_ge a b with c | c
  · exact c
  · exact absurd (Nat.mul_le_mul c c) (by omega)
theorem pow4 (t:Nat):4 ^ t = 2 ^ t * 2 ^ t:=by rw [show (4:Nat) = 2 * 2 from rfl,Nat.mul_pow]
theorem isrt_scale {n w t h:Nat} (hw:IsRt n w) (hh:IsRt (n * 4 ^ t) h):w * 2 ^ t≤h∧h < (w + 1) * 2 ^ t∧(h * h = n * 4 ^ t ↔ w * w = n)∧(w * w = n→h = w * 2 ^ t):=by
  have hp:=Nat.two_pow_pos t
  have e1:w * 2 ^ t * (w * 2 ^ t) = w * w * 4 ^ t:=by rw [pow4];ac_rfl
  have e2:(w + 1) * 2 ^ t * ((w + 1) * 2 ^ t) = (w + 1) * (w + 1) * 4 ^ t:=by rw [pow4];ac_rfl
  have h4:0 < 4 ^ t:=by rw [pow4];exact Nat.mul_pos hp hp
  have g1:=Nat.mul_le_mul_right (4 ^ t) hw.1
  have g2:=Nat.mul_lt_mul_of_pos_right hw.2 h4
  have a1:w * 2 ^ t≤h:=by
    have:w * 2 ^ t < h + 1:=sq_lt_sq (by have:=hh.2;omega)
    omega
  have a2:h < (w + 1) * 2 ^ t:=sq_lt_sq (by have:=hh.1;omega)
  have a3:w * w = n→h = w * 2 ^ t:=fun e=>by
    rw [e] at e1
    have:h < w * 2 ^ t + 1:=sq_lt_sq (by
      have e5:(w * 2 ^ t + 1) * (w * 2 ^ t + 1) = w * 2 ^ t * (w * 2 ^ t) + (2 * (w * 2 ^ t) + 1):=by rw [Nat.add_mul,Nat.mul_add];omega
      have:=hh.1
      omega)
    omega
  refine ⟨a1,a2,⟨fun e=>?_,fun e=>by rw [a3 e,e1,e]⟩,a3⟩
  -- h * h = n * 4^t: then h is a multiple of 2^t
  have hd:2 ^ t ∣ h:=by
    have:2 ^ t * 2 ^ t ∣ h * h:=by rw [e,pow4];exact Nat.dvd_mul_left _ _
    have h5:(2 ^ t) ^ 2 ∣ h ^ 2:=by rw [Nat.pow_two,Nat.pow_two];exact this
    exact (Nat.pow_dvd_pow_iff (by decide)).1 h5
  obtain ⟨q,hq⟩:=hd
  rw [Nat.mul_comm] at hq
  have hqw:q = w:=by
    have b1:w * 2 ^ t < (q + 1) * 2 ^ t:=by rw [Nat.add_mul];omega
    have b2:q * 2 ^ t < (w + 1) * 2 ^ t:=by omega
    have:=Nat.lt_of_mul_lt_mul_right b1
    have:=Nat.lt_of_mul_lt_mul_right b2
    omega
  rw [hq,hqw,e1] at e
  exact Nat.eq_of_mul_eq_mul_right h4 e
theorem root_sticky (n w t h:Nat) (hw:IsRt n w) (hh:IsRt (n * 4 ^ t) h) (big:9007199254740992≤w) (d:Int):rU d 53 (2 * h + (if h * h = n * 4 ^ t then 0 else 1)) 1 = rU d 53 ((2 * w + (if w * w = n then 0 else 1)) * 2 ^ t) 1:=by
  obtain ⟨a1,a2,a3,a4⟩:=isrt_scale hw hh
  have hp:=Nat.two_pow_pos t
  obtain ⟨T,hT⟩:∃ T,T = 2 ^ t:=⟨_,rfl⟩
  obtain ⟨M,hM⟩:∃ M,M = w * T:=⟨_,rfl⟩
  have e1:(w + 1) * T = M + T:=by rw [Nat.add_mul,Nat.one_mul,hM]
  rw [← hT] at a1 a2 a4 hp ⊢
  rw [e1] at a2
  rw [← hM] at a1 a4
  have e2:(2 * w + (if w * w = n then 0 else 1)) * T = 2 * M + (if w * w = n then 0 else T):=by
    rw [Nat.add_mul,Nat.mul_assoc,← hM]
    split <;> simp
  rw [e2]
  obtain ⟨E,hE⟩:∃ E,E = rE 53 (2 * h + (if h * h = n * 4 ^ t then 0 else 1)) 1:=⟨_,rfl⟩
  have hs:=(rE_spec 53 (2 * h + (if h * h = n * 4 ^ t then 0 else 1)) 1 (by decide) (by decide)).1
  rw [← hE,Nat.one_mul,Nat.pow_add,pw53] at hs
  have hMb:9007199254740992 * T≤M:=by rw [hM];exact Nat.mul_le_mul_right _ big
  have hEt:t + 2≤E:=by
    refine Decidable.byContradiction fun h9=>?_
    have:2 ^ E≤2 ^ (t + 1):=Nat.pow_le_pow_right (by decide) (by omega)
    rw [Nat.pow_succ,← hT] at this
    omega
  refine rU_sticky d 53 _ (2 * M + (if w * w = n then 0 else T)) 1 (2 * T) w (2 * (h - M) + (if h * h = n * 4 ^ t then 0 else 1)) (if w * w = n then 0 else T) (2 ^ (E - t - 2)) (by decide) (by decide) ?_ ?_ ?_ ?_ ?_ ?_
  · have:w * (2 * T) = 2 * M:=by rw [hM];ac_rfl
    omega
  · split <;> omega
  · have:w * (2 * T) = 2 * M:=by rw [hM];ac_rfl
    omega
  · split <;> omega
  · by_cases c:w * w = n
    · rw [if_pos c,if_pos (a3.2 c),a4 c];simp
    · rw [if_neg c,if_neg (fun e=>c (a3.1 e))]
      constructor <;> intro h9 <;> omega
  · rw [← hE,hT,Nat.one_mul,show 2 * (2 * 2 ^ t * 2 ^ (E - t - 2)) = 2 ^ 2 * 2 ^ t * 2 ^ (E - t - 2) from by rw [show (2:Nat) ^ 2 = 2 * 2 from rfl];ac_rfl,← Nat.pow_add,← Nat.pow_add]
    congr 1
    omega
theorem rootFrom_is (n:Nat):∀ (todo root:Nat),root * root≤n→n < (root + 2 ^ todo) * (root + 2 ^ todo)→IsRt n (Ieee.Datum.rootFrom n todo root)
  | 0,root,h1,h2=>by
    unfold Ieee.Datum.rootFrom
    exact ⟨h1,by rw [Nat.pow_zero] at h2;exact h2⟩
  | todo + 1,root,h1,h2=>by
    unfold Ieee.Datum.rootFrom
    simp only [Nat.shiftLeft_eq,Nat.one_mul]
    refine rootFrom_is n todo _ ?_ ?_
    · split
      · assumption
      · exact h1
    · split
      · rw [Nat.add_assoc,show 2 ^ todo + 2 ^ todo = 2 ^ (todo + 1) from by rw [Nat.pow_succ];omega];exact h2
      · omega
def rtH (A:Nat):Nat:=2 * rtN (A * 4 ^ 536) + (if rtN (A * 4 ^ 536) * rtN (A * 4 ^ 536) = A * 4 ^ 536 then 0 else 1)
theorem rt_H (A n w t:Nat) (hA:A * 4 ^ 536 = n * 4 ^ t) (hw:IsRt n w) (big:9007199254740992≤w) (d:Int):rU d 53 (rtH A) 1 = rU d 53 ((2 * w + (if w * w = n then 0 else 1)) * 2 ^ t) 1:=by
  have hh:IsRt (n * 4 ^ t) (rtN (A * 4 ^ 536)):=by rw [← hA];exact rtN_is _
  have h:=root_sticky n w t _ hw hh big d
  unfold rtH
  rw [hA] at h ⊢
  exact h
theorem lt_two_log (n:Nat):n < 2 ^ (n.log2 + 1):=Nat.lt_log2_self
theorem root_w (m:Nat) (h1:2580562586483294208≤m) (h2:m≤6633802251116740608):FloatKind.f64.format.sqrt (Fq.wD false m) = some (Fq.wD false (finU 53 2098 9218868437227405311 9218868437227405312 0 (rU 0 53 (rtH (Fq.vV Ieee.double m)) 1))):=by
  show Ieee.double.sqrt _ = _
  unfold Ieee.Format.sqrt
  have b1:¬ m < 4503599627370496:=by omega
  rw [Fq.read_fin _ _ (by rw [Fq.rgD false m (by omega),Fq.infD];omega),Fq.rgD false m (by omega),Fq.ngD false m (by omega),lpD9,fbD9]
  obtain ⟨A,hA⟩:∃ A,A = Fq.vV Ieee.double m:=⟨_,rfl⟩
  have hAe:=hA
  unfold Fq.vV at hAe
  have hea:Fq.eE Ieee.double m = m / 4503599627370496 - 1:=by unfold Fq.eE;rw [Fq.binD,if_neg b1]
  have hma:Fq.mM Ieee.double m = 4503599627370496 + m % 4503599627370496:=by unfold Fq.mM;rw [Fq.binD,if_neg b1]
  obtain ⟨e,hee⟩:∃ e,e = Fq.eE Ieee.double m:=⟨_,rfl⟩
  obtain ⟨a,ha⟩:∃ a,a = Fq.mM Ieee.double m:=⟨_,rfl⟩
  rw [← hee] at hea
  rw [← ha] at hma
  rw [← hee,← ha] at hAe
  rw [← hee,← ha,← hA]
  have a1:4503599627370496≤a:=by omega
  have a2:a < 9007199254740992:=by omega
  have e1:572≤e:=by omega
  have e2:e≤1472:=by omega
  have l1:a.log2 = 52:=by
    have hb:=blen_uniq a 52 (by rw [show (2:Nat) ^ 52 = 4503599627370496 from by decide];exact a1) (by rw [show (2:Nat) ^ (52 + 1) = 9007199254740992 from by decide];exact a2)
    have:=log2_blen a (by omega)
    omega
  clear hee ha hea hma hA h1 h2 b1
  unfold Ieee.Datum.root
  simp only
  rw [if_neg (by omega),if_neg (by simp),l1]
  simp only [Option.map_some]
  unfold Ieee.Format.write
  simp only
  rw [show 2 * (52 + 2) - 52 = 56 from rfl]
  obtain ⟨j,hj⟩:∃ j:Nat,j = ((-1074 + (e:Int) - ((56:Nat):Int)) % 2).toNat:=⟨_,rfl⟩
  have hj2:(j:Int) = (-1074 + (e:Int) - 56) % 2:=by omega
  rw [← hj,Nat.shiftLeft_eq]
  obtain ⟨n,hn⟩:∃ n,n = a * 2 ^ (56 + j):=⟨_,rfl⟩
  rw [← hn]
  have hnb:324518553658426726783156020576256≤n:=by
    rw [hn,Nat.pow_add]
    have hp:=Nat.two_pow_pos j
    have h5:4503599627370496 * (2 ^ 56 * 1)≤a * (2 ^ 56 * 2 ^ j):=Nat.mul_le_mul a1 (Nat.mul_le_mul_left _ hp)
    rw [show (2:Nat) ^ 56 = 72057594037927936 from by decide] at h5 ⊢
    omega
  have hrt:IsRt n (Ieee.Datum.rootFrom n (n.log2 / 2 + 1) 0):=by
    refine rootFrom_is n _ 0 (by omega) ?_
    have h5:=lt_two_log n
    have h6:2 ^ (n.log2 + 1)≤2 ^ (n.log2 / 2 + 1) * 2 ^ (n.log2 / 2 + 1):=by
      rw [← Nat.pow_add];exact Nat.pow_le_pow_right (by decide) (by omega)
    rw [Nat.zero_add]
    omega
  obtain ⟨w,hw⟩:∃ w,w = Ieee.Datum.rootFrom n (n.log2 / 2 + 1) 0:=⟨_,rfl⟩
  rw [← hw] at hrt ⊢
  have hwb:9007199254740992≤w:=by
    refine Decidable.byContradiction fun h9=>?_
    have h5:=hrt.2
    have h6:=Nat.mul_le_mul (show w + 1≤9007199254740992 by omega) (show w + 1≤9007199254740992 by omega)
    omega
  obtain ⟨t,ht⟩:∃ t:Nat,(t:Int) = (-1074 + (e:Int) - ((56 + j:Nat):Int)) / 2 - 1 + 1074:=⟨((-1074 + (e:Int) - ((56 + j:Nat):Int)) / 2 - 1 + 1074).toNat,by omega⟩
  have hmag:2 * w + (w * w != n).toNat = 2 * w + (if w * w = n then 0 else 1):=by
    by_cases c:w * w = n
    · rw [if_pos c,c];simp
    · rw [if_neg c];simp [c]
  rw [hmag,near_w _ _ _ t (by omega)]
  have hAn:A * 4 ^ 536 = n * 4 ^ t:=by
    obtain ⟨x,hx⟩:∃ x,x = 536:=⟨_,rfl⟩
    rw [hAe,hn,← hx,pow4,pow4,Nat.mul_assoc,Nat.mul_assoc,← Nat.pow_add,← Nat.pow_add,← Nat.pow_add,← Nat.pow_add]
    congr 2
    omega
  rw [rt_H A n w t hAn hrt hwb]
theorem root_nat (A h N H u R T ex e L:Nat) (hL:L = 1074) (hA1:4503599627370496 * 2 ^ ex≤A) (hA2:A < 9007199254740992 * 2 ^ ex) (x1:572≤ex) (x2:ex≤1472)
    (hN:A * 2 ^ L = 4 * N) (hr:IsRt N h) (hH:H = 2 * h + u) (hu:(h * h = N∧u = 0)∨(h * h≠N∧u = 1)) (hT:∃ E,T = 2 ^ E) (dR:T ∣ R) (n1:2 * H≤2 * R + T) (n2:2 * R≤2 * H + T) (hlt:H < 9007199254740992 * T)
    (hR1:4503599627370496 * 2 ^ e≤R) (hR2:R < 9007199254740992 * 2 ^ e) (hlow:T = 1∨4503599627370496 * T≤H) (Hbig:1298074214633706907132624082305024≤H) :
    L≤e + e∧50 + (e + e - L)≤ex∧e≤1960∧e + e≤2944∧2 ∣ R∧A * 2 ^ L≤R * R + 9007199254740992 * 2 ^ (e + e)∧R * R≤A * 2 ^ L + 9007199254740992 * 2 ^ (e + e):=by
  have hT0:144115188075855872 < T:=by omega
  have hTlow:=hlow.resolve_left (by omega)
  have hRT:4503599627370496 * T≤R:=by
    obtain ⟨k,hk⟩:=dR
    rcases Nat.lt_or_ge k 4503599627370496 with c | c
    · exfalso
      have h5:T * k≤T * 4503599627370495:=Nat.mul_le_mul_left T (by omega)
      omega
    · have h5:=Nat.mul_le_mul_left T c
      omega
  have hTe:T≤2 ^ e:=two_half hT ⟨e,rfl⟩ (by omega)
  obtain ⟨q,hq⟩:∃ q,T = 4 * q:=by
    obtain ⟨E,rfl⟩:=hT
    have:2≤E:=by
      refine Decidable.byContradiction fun h9=>?_
      have:2 ^ E≤2 ^ 1:=Nat.pow_le_pow_right (by decide) (by omega)
      omega
    exact ⟨2 ^ (E - 2),by rw [show (4:Nat) = 2 ^ 2 from rfl,← Nat.pow_add];congr 1;omega⟩
  have h2R:2 ∣ R:=Nat.dvd_trans ⟨2 * q,by omega⟩ dR
  obtain ⟨S,hS⟩:=h2R
  -- R and the next multiple
  have hRle:R + T≤9007199254740992 * 2 ^ e:=by
    obtain ⟨k,hk⟩:=dR
    have hTd:T ∣ 9007199254740992 * 2 ^ e:=Nat.dvd_trans (two_dvd ⟨e,rfl⟩ hT hTe) (Nat.dvd_mul_left _ _)
    obtain ⟨k2,hk2⟩:=hTd
    rw [hk2,hk] at hR2
    have h5:k < k2:=Nat.lt_of_mul_lt_mul_left hR2
    have h6:=Nat.mul_le_mul_left T (show k + 1≤k2 from h5)
    rw [Nat.mul_add,Nat.mul_one] at h6
    omega
  have up:N≤(S + q) * (S + q):=by
    rcases hu with ⟨c,d⟩ | ⟨c,d⟩
    · rw [← c];exact Nat.mul_le_mul (by omega) (by omega)
    · have h5:=Nat.mul_le_mul (show h + 1≤S + q by omega) (show h + 1≤S + q by omega)
      have:=hr.2
      omega
  have dn:(S - q) * (S - q)≤N:=by
    have h5:=Nat.mul_le_mul (show S - q≤h by omega) (show S - q≤h by omega)
    have:=hr.1
    omega
  have hsq:q≤S:=by omega
  obtain ⟨z,hz⟩:∃ z,S = q + z:=⟨S - q,by omega⟩
  have hTR:4 * q * R + 4 * (q * q)≤9007199254740992 * 2 ^ (e + e):=by
    have g1:T * (R + T)≤2 ^ e * (9007199254740992 * 2 ^ e):=Nat.mul_le_mul hTe hRle
    rw [Nat.mul_left_comm,← Nat.pow_add,Nat.mul_add,hq] at g1
    have g2:4 * q * (4 * q) = 16 * (q * q):=by
      rw [Nat.mul_mul_mul_comm]
    omega
  have eS:R * R = 4 * (S * S):=by rw [hS,Nat.mul_mul_mul_comm]
  have eu:4 * ((S + q) * (S + q)) = R * R + (4 * q * R + 4 * (q * q)):=by
    have g1:(S + q) * (S + q) = S * S + 2 * (q * S) + q * q:=by rw [Nat.add_mul,Nat.mul_add,Nat.mul_add,Nat.mul_comm S q];omega
    have g2:4 * q * R = 8 * (q * S):=by rw [hS,show 4 * q * (2 * S) = 8 * (q * S) from by rw [Nat.mul_mul_mul_comm]]
    rw [eS,g1,g2];omega
  have ed:R * R≤4 * ((S - q) * (S - q)) + 4 * q * R:=by
    have g2:4 * q * R = 8 * (q * S):=by rw [hS,show 4 * q * (2 * S) = 8 * (q * S) from by rw [Nat.mul_mul_mul_comm]]
    rw [eS,g2,hz,Nat.add_sub_cancel_left]
    have g3:(q + z) * (q + z) = q * q + 2 * (q * z) + z * z:=by rw [Nat.add_mul,Nat.mul_add,Nat.mul_add,Nat.mul_comm z q];omega
    have g4:q * (q + z) = q * q + q * z:=Nat.mul_add _ _ _
    rw [g3,g4];omega
  have c1:A * 2 ^ L≤R * R + 9007199254740992 * 2 ^ (e + e):=by rw [hN];omega
  have c2:R * R≤A * 2 ^ L + 9007199254740992 * 2 ^ (e + e):=by rw [hN];omega
  have hPe:2 ^ (e + e) = 2 ^ e * 2 ^ e:=Nat.pow_add _ _ _
  have r1:2 ^ (104 + (e + e))≤R * R:=by
    have g:=Nat.mul_le_mul hR1 hR1
    rw [sq_rearr,← hPe,← pw52,← Nat.pow_add,← Nat.pow_add] at g
    exact g
  have r2:R * R < 2 ^ (106 + (e + e)):=by
    have g:=Nat.mul_lt_mul'' hR2 hR2
    rw [sq_rearr,← hPe,← pw53,← Nat.pow_add,← Nat.pow_add] at g
    exact g
  have a1:2 ^ (52 + ex + L)≤A * 2 ^ L:=by
    have g:=Nat.mul_le_mul_right (2 ^ L) hA1
    rw [← pw52,← Nat.pow_add,← Nat.pow_add] at g
    exact g
  have a2:A * 2 ^ L < 2 ^ (53 + ex + L):=by
    have g:=Nat.mul_lt_mul_of_pos_right hA2 (Nat.two_pow_pos L)
    rw [← pw53,← Nat.pow_add,← Nat.pow_add] at g
    exact g
  have hsm:9007199254740992 * 2 ^ (e + e)≤R * R:=by
    refine Nat.le_trans ?_ r1
    rw [← pw53,← Nat.pow_add];exact Nat.pow_le_pow_right (by decide) (by omega)
  have hsm2:2 * (9007199254740992 * 2 ^ (e + e))≤R * R:=by
    refine Nat.le_trans ?_ r1
    rw [← pw53,← Nat.pow_add,Nat.mul_comm,← Nat.pow_succ];exact Nat.pow_le_pow_right (by decide) (by omega)
  have p1:104 + (e + e) < 54 + ex + L:=by
    refine (Nat.pow_lt_pow_iff_right (a:=2) (by decide)).1 ?_
    have:2 ^ (54 + ex + L) = 2 * 2 ^ (53 + ex + L):=by rw [Nat.mul_comm,← Nat.pow_succ];congr 1;omega
    omega
  have p2:52 + ex + L < 107 + (e + e):=by
    refine (Nat.pow_lt_pow_iff_right (a:=2) (by decide)).1 ?_
    have:2 ^ (107 + (e + e)) = 2 * 2 ^ (106 + (e + e)):=by rw [Nat.mul_comm,← Nat.pow_succ];congr 1;omega
    omega
  exact ⟨by omega,by omega,by omega,by omega,⟨S,hS⟩,c1,c2⟩
theorem sgn_rt (h N S u:Nat) (hr:IsRt N h) (hu:(h * h = N∧u = 0)∨(h * h≠N∧u = 1)):(4 * N < 2 * S * (2 * S) ↔ 2 * h + u < 2 * S)∧(2 * S * (2 * S) < 4 * N ↔ 2 * S < 2 * h + u):=by
  have e:2 * S * (2 * S) = 4 * (S * S):=Nat.mul_mul_mul_comm _ _ _ _
  rw [e]
  have h1:=hr.1
  have h2:=hr.2
  rcases Nat.lt_trichotomy h S with c | c | c
  · have h5:=Nat.mul_le_mul (show h + 1≤S from c) (show h + 1≤S from c)
    omega
  · rw [← c];omega
  · have h5:=Nat.mul_le_mul (show S + 1≤h from c) (show S + 1≤h from c)
    rw [Nat.add_mul,Nat.mul_add] at h5
    omega
def rootW (d:Int) (A:Nat):Nat:=sumW d ((rtH A:Nat):Int)
theorem root_all (m:Nat) (h1:2580562586483294208≤m) (h2:m≤6633802251116740608) (L:Nat) (hL:L = 1074) :
    ∃ (V:Int) (r K e ex:Nat),V = ((rtH (Fq.vV Ieee.double m):Nat):Int)∧FloatKind.f64.format.sqrt (Fq.wD false m) = some (Fq.wD false r)∧r < 9218868437227405312∧r = rgU 53 (rU 0 53 V.natAbs 1)∧false = (if V = 0 then false else decide (V < 0))∧53≤K∧K≤2096∧V.natAbs < 2 ^ K
      ∧ (e≤1960∧1074≤e + e∧e + e≤2944∧e + e - L≤ex∧ex≤1472)∧(((2 ^ e:Nat):Int) ∣ Iv false r∧4503599627370496 * 2 ^ e≤(Iv false r).natAbs∧(Iv false r).natAbs < 9007199254740992 * 2 ^ e)∧(Iv false m).natAbs < 9007199254740992 * 2 ^ ex
      ∧ ∀ V2:Int,V2 * ((2 ^ L:Nat):Int) = Iv false r * Iv false r→(((1125899906842624 * 2 ^ (e + e - L):Nat):Int) ∣ Iv false m∧((2 ^ (e + e - L):Nat):Int) ∣ V2∧(Iv false m - V2).natAbs≤9007199254740992 * 2 ^ (e + e - L)∧20282409603651670423947251286016 * 2 ^ (e + e - L)≤V2.natAbs∧V2.natAbs < 81129638414606681695789005144064 * 2 ^ (e + e - L))
        ∧ (Iv false m - V2 < 0 ↔ V - Iv false r < 0)∧(0 < Iv false m - V2 ↔ 0 < V - Iv false r):=by
  obtain ⟨ex,x1,x2,dx,hA1,hA2⟩:=mild_unit false m h1 h2
  obtain ⟨A,hA⟩:∃ A,A = Fq.vV Ieee.double m:=⟨_,rfl⟩
  have hxa:Iv false m = (A:Int):=by unfold Iv;rw [← hA];rfl
  have hxn:(Iv false m).natAbs = A:=by rw [hxa];rfl
  rw [hxn] at hA1 hA2
  rw [← hA]
  obtain ⟨J,hJ⟩:∃ J:Nat,J = 536:=⟨_,rfl⟩
  obtain ⟨N,hN0⟩:∃ N,N = A * 4 ^ J:=⟨_,rfl⟩
  obtain ⟨h,hh⟩:∃ h,h = rtN N:=⟨_,rfl⟩
  have hr:IsRt N h:=by rw [hh];exact rtN_is N
  obtain ⟨u,hu⟩:∃ u,u = if h * h = N then 0 else 1:=⟨_,rfl⟩
  obtain ⟨H,hH⟩:∃ H,H = 2 * h + u:=⟨_,rfl⟩
  have hHr:rtH A = H:=by unfold rtH;rw [hH,hu,hh,hN0,hJ]
  have hN:A * 2 ^ L = 4 * N:=by
    rw [hN0,pow4,show (4:Nat) = 2 ^ 2 from rfl,Nat.mul_left_comm (2 ^ 2),← Nat.pow_add,← Nat.pow_add]
    congr 2
    omega
  have huq:(h * h = N∧u = 0)∨(h * h≠N∧u = 1):=by
    by_cases c:h * h = N
    · left;exact ⟨c,by rw [hu,if_pos c]⟩
    · right;exact ⟨c,by rw [hu,if_neg c]⟩
  have hbig:1298074214633706907132624082305024≤H:=by
    have g1:2 ^ (52 + ex + L)≤A * 2 ^ L:=by
      have g:=Nat.mul_le_mul_right (2 ^ L) hA1
      rw [← pw52,← Nat.pow_add,← Nat.pow_add] at g
      exact g
    have g2:2 ^ 224≤2 ^ (52 + ex + L):=Nat.pow_le_pow_right (by decide) (by omega)
    have g3:2 ^ 224 = 4 * (2 ^ 111 * 2 ^ 111):=by decide
    have g4:2 ^ 111 * 2 ^ 111 < (h + 1) * (h + 1):=by have:=hr.2;omega
    have g5:=sq_lt_sq g4
    rw [show (2:Nat) ^ 111 = 2596148429267413814265248164610048 from by decide] at g5
    omega
  obtain ⟨K,hK⟩:∃ K:Nat,K = 1980:=⟨_,rfl⟩
  have hHK:H < 2 ^ K:=by
    have g0:A * 2 ^ L < 2 ^ (53 + ex + L):=by
      have g:=Nat.mul_lt_mul_of_pos_right hA2 (Nat.two_pow_pos L)
      rw [← pw53,← Nat.pow_add,← Nat.pow_add] at g
      exact g
    have g1:2 ^ (53 + ex + L)≤2 ^ (K - 2) * 2 ^ (K - 2):=by rw [← Nat.pow_add];exact Nat.pow_le_pow_right (by decide) (by omega)
    have g2:h < 2 ^ (K - 2):=sq_lt_sq (by have:=hr.1;omega)
    have g3:2 ^ K = 4 * 2 ^ (K - 2):=by rw [show (4:Nat) = 2 ^ 2 from rfl,← Nat.pow_add];congr 1;omega
    have hu1:u≤1:=by omega
    omega
  obtain ⟨V,hV⟩:∃ V:Int,V = (H:Int):=⟨_,rfl⟩
  have hVa:V.natAbs = H:=by rw [hV];rfl
  have hV0:V≠0:=by omega
  have hVs:decide (V < 0) = false:=decide_eq_false (by omega)
  obtain ⟨s,r,T,w0,r0,n0,e0,e0',l0⟩:=op_nr V false K (by omega) (by omega) (by rw [hVa];exact hHK)
  have hs:s = false:=by rw [e0',if_neg hV0,hVs]
  subst hs
  have hsq:=root_w m h1 h2
  rw [← hA,hHr] at hsq
  rw [if_neg hV0,hVs,hVa] at w0
  rw [w0] at hsq
  obtain ⟨R,hR⟩:∃ R,R = Fq.vV Ieee.double r:=⟨_,rfl⟩
  have hIr:Iv false r = (R:Int):=by unfold Iv;rw [← hR];rfl
  have hra:(Iv false r).natAbs = R:=by rw [hIr];rfl
  have hnr:2 * H≤2 * R + T∧2 * R≤2 * H + T:=by
    have:=n0.near
    rw [hV,hIr] at this
    omega
  have hlt:=n0.lt
  rw [hVa] at hlt
  have hlow:=n0.low
  rw [hVa] at hlow
  have dR:T ∣ R:=by
    have:=n0.dvd
    rw [← hra]
    exact Int.natCast_dvd_natCast.1 (Int.dvd_natAbs.2 this)
  have hnm:4503599627370496≤r:=norm_of false r (by rw [hra];omega)
  obtain ⟨e,de,hR1,hR2⟩:=norm_unit false r hnm
  have hR1':=hR1
  have hR2':=hR2
  rw [hra] at hR1' hR2'
  obtain ⟨p1,p2,p3,p4,p5,p6,p7⟩:=root_nat A h N H u R T ex e L hL hA1 hA2 x1 x2 hN hr hH huq n0.two dR hnr.1 hnr.2 hlt hR1' hR2' hlow hbig
  refine ⟨V,r,K,e,ex,by rw [hV,hHr],hsq,r0,e0,by rw [if_neg hV0,hVs],by omega,by omega,by rw [hVa];exact hHK,⟨p3,by omega,p4,by omega,x2⟩,⟨de,hR1,hR2⟩,by rw [hxn];exact hA2, ?_⟩
  intro V2 hV2
  obtain ⟨W,hW⟩:∃ W,W = 2 ^ (e + e - L):=⟨_,rfl⟩
  obtain ⟨Z,hZ⟩:∃ Z:Nat,Z = 2 ^ L:=⟨_,rfl⟩
  have hZp:0 < Z:=by rw [hZ];exact Nat.two_pow_pos L
  have hWp:0 < W:=by rw [hW];exact Nat.two_pow_pos _
  have hWZ:2 ^ e * 2 ^ e = W * Z:=by rw [hW,hZ,← Nat.pow_add,← Nat.pow_add];congr 1;omega
  have hWZ2:2 ^ (e + e) = W * Z:=by rw [Nat.pow_add,hWZ]
  rw [← hW]
  rw [← hZ] at hV2 p6 p7 hN
  rw [hWZ2] at p6 p7
  have hWx:((1125899906842624 * W:Nat):Int) ∣ Iv false m:=by
    refine Int.dvd_trans (Int.natCast_dvd_natCast.2 ?_) dx
    rw [hW,show (1125899906842624:Nat) = 2 ^ 50 from by decide,← Nat.pow_add]
    exact Nat.pow_dvd_pow 2 p2
  rw [hIr] at hV2
  have hVn:∃ v:Nat,V2 = (v:Int):=by
    refine ⟨V2.natAbs, ?_⟩
    rcases Int.lt_or_le V2 0 with c | c
    · exfalso
      have:=Int.mul_neg_of_neg_of_pos c (show (0:Int) < (Z:Int) by omega)
      have h9:(0:Int)≤(R:Int) * (R:Int):=Int.mul_nonneg (by omega) (by omega)
      omega
    · omega
  obtain ⟨v,rfl⟩:=hVn
  have hab:v * Z = R * R:=by
    have:=hV2
    rw [← Int.natCast_mul,← Int.natCast_mul] at this
    exact Int.ofNat.inj this
  have hWV:(W:Int) ∣ (v:Int):=by
    obtain ⟨k,hk⟩:=de
    refine ⟨k * k, ?_⟩
    have g:(v:Int) * (Z:Int) = (W:Int) * (k * k) * (Z:Int):=by
      rw [hV2,← hIr,hk]
      have g2:((2 ^ e:Nat):Int) * ((2 ^ e:Nat):Int) = (W:Int) * (Z:Int):=by rw [← Int.natCast_mul,← Int.natCast_mul,hWZ]
      rw [show ((2 ^ e:Nat):Int) * k * (((2 ^ e:Nat):Int) * k) = ((2 ^ e:Nat):Int) * ((2 ^ e:Nat):Int) * (k * k) from by ac_rfl,g2]
      ac_rfl
    exact Int.eq_of_mul_eq_mul_right (by omega) g
  rw [Int.natAbs_natCast]
  have v1:20282409603651670423947251286016 * W≤v:=by
    have g:=Nat.mul_le_mul hR1' hR1'
    rw [← hab,sq_rearr,show (4503599627370496:Nat) * 4503599627370496 = 20282409603651670423947251286016 from by decide,hWZ,← Nat.mul_assoc] at g
    exact Nat.le_of_mul_le_mul_right g hZp
  have v2:v < 81129638414606681695789005144064 * W:=by
    have g:=Nat.mul_lt_mul'' hR2' hR2'
    rw [← hab,sq_rearr,show (9007199254740992:Nat) * 9007199254740992 = 81129638414606681695789005144064 from by decide,hWZ,← Nat.mul_assoc] at g
    exact Nat.lt_of_mul_lt_mul_right g
  rw [← hab] at p6 p7
  have s1:A≤v + 9007199254740992 * W:=by
    refine Nat.le_of_mul_le_mul_right ?_ hZp
    rw [Nat.add_mul,Nat.mul_assoc];exact p6
  have s2:v≤A + 9007199254740992 * W:=by
    refine Nat.le_of_mul_le_mul_right ?_ hZp
    rw [Nat.add_mul,Nat.mul_assoc];exact p7
  rw [hxa] at hWx ⊢
  refine ⟨⟨hWx,hWV,by omega,v1,v2⟩, ?_⟩
  obtain ⟨S,hS⟩:=p5
  obtain ⟨t1,t2⟩:=sgn_rt h N S u hr huq
  rw [← hS,← hN,← hab] at t1 t2
  have q1:A * Z < v * Z ↔ A < v:=⟨fun h=>Nat.lt_of_mul_lt_mul_right h,fun h=>Nat.mul_lt_mul_of_pos_right h hZp⟩
  have q2:v * Z < A * Z ↔ v < A:=⟨fun h=>Nat.lt_of_mul_lt_mul_right h,fun h=>Nat.mul_lt_mul_of_pos_right h hZp⟩
  rw [q1] at t1
  rw [q2] at t2
  rw [hIr,hV,hH,hS]
  omega
end Go.Proofs.YtnileplkkmhdgaaGreatDoor
