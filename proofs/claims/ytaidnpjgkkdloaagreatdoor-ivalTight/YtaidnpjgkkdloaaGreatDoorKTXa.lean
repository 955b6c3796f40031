import Derived.Test.YtaidnpjgkkdloaaGreatDoorKEU
set_option maxHeartbeats 1000000
set_option maxRecDepth 20000
namespace Go.Proofs.YtaidnpjgkkdloaaGreatDoor
open Go.RowKit
theorem cmI_scale (x y k:Int) (hk:0 < k):cmI (x * k) (y * k) = cmI x y:=by
  unfold cmI
  have e1:x * k < y * k ↔ x < y:=⟨fun h=>Int.lt_of_mul_lt_mul_right h (Int.le_of_lt hk),fun h=>Int.mul_lt_mul_of_pos_right h hk⟩
  have e2:y * k < x * k ↔ y < x:=⟨fun h=>Int.lt_of_mul_lt_mul_right h (Int.le_of_lt hk),fun h=>Int.mul_lt_mul_of_pos_right h hk⟩
  simp only [e1,e2]
theorem frac_ratio (x D a b:Nat) (hD:D≠0) (hF:FracOf x D 0 a b):a * D = x * b:=by
  have hb:=hF.1
  by_cases c0:x = 0
  · rw [hF.2.1.2 c0,c0,Nat.zero_mul,Nat.zero_mul]
  · have hfl:∀ t:Nat,a * 2 ^ t / b = x * 2 ^ t / D:=fun t=>by
      have h:=hF.2.2.1 (-1) (blen (a * 2 ^ t / b) + blen (x * 2 ^ t / D)) (t:Int) c0
      unfold rV at h
      rw [show ((t:Int)).toNat = t from by omega,show (-(t:Int)).toNat = 0 from by omega,show ((t:Int) + 0).toNat = t from by omega,show (-((t:Int) + 0)).toNat = 0 from by omega,Nat.pow_zero,Nat.mul_one,Nat.mul_one,rU_floor _ _ _ (by omega),rU_floor _ _ _ (by omega)] at h
      exact h
    obtain ⟨t,ht⟩:∃ t,b * D < 2 ^ t:=⟨b * D,Nat.lt_two_pow_self⟩
    have h:=hfl t
    obtain ⟨f,hf⟩:∃ f,f = a * 2 ^ t / b:=⟨_,rfl⟩
    have f1:f * b≤a * 2 ^ t:=by rw [hf];exact Nat.div_mul_le_self _ _
    have f2:a * 2 ^ t < (f + 1) * b:=by rw [hf];exact Nat.lt_mul_of_div_lt (Nat.lt_succ_self _) (by omega)
    have f3:f * D≤x * 2 ^ t:=by rw [hf,h];exact Nat.div_mul_le_self _ _
    have f4:x * 2 ^ t < (f + 1) * D:=by rw [hf,h];exact Nat.lt_mul_of_div_lt (Nat.lt_succ_self _) (by omega)
    have g1:=Nat.mul_le_mul_right D f1
    have g2:=Nat.mul_lt_mul_of_pos_right f2 (show 0 < D by omega)
    have g3:=Nat.mul_le_mul_right b f3
    have g4:=Nat.mul_lt_mul_of_pos_right f4 (show 0 < b by omega)
    rw [show f * b * D = f * (b * D) from Nat.mul_assoc _ _ _,show a * 2 ^ t * D = a * D * 2 ^ t from Nat.mul_right_comm _ _ _] at g1
    rw [show (f + 1) * b * D = f * (b * D) + b * D from by rw [Nat.mul_assoc,Nat.add_mul,Nat.one_mul],show a * 2 ^ t * D = a * D * 2 ^ t from Nat.mul_right_comm _ _ _] at g2
    rw [show f * D * b = f * (b * D) from by rw [Nat.mul_assoc,Nat.mul_comm D b],show x * 2 ^ t * b = x * b * 2 ^ t from Nat.mul_right_comm _ _ _] at g3
    rw [show (f + 1) * D * b = f * (b * D) + b * D from by rw [Nat.mul_assoc,Nat.mul_comm D b,Nat.add_mul,Nat.one_mul],show x * 2 ^ t * b = x * b * 2 ^ t from Nat.mul_right_comm _ _ _] at g4
    rcases Nat.lt_trichotomy (a * D) (x * b) with c | c | c
    · exfalso
      have h5:=Nat.mul_le_mul_right (2 ^ t) (show a * D + 1≤x * b from c)
      rw [Nat.add_mul,Nat.one_mul] at h5
      omega
    · exact c
    · exfalso
      have h5:=Nat.mul_le_mul_right (2 ^ t) (show x * b + 1≤a * D from c)
      rw [Nat.add_mul,Nat.one_mul] at h5
      omega

set_option linter.unusedVariables false
def XF (s:Bool) (a b:Nat) (V:Int) (C N:Nat):Prop:=b≠0∧C≠0∧rvI s a * (C:Int) = V * (b:Int)∧blen a≤N∧blen b≤N
def XP (base:Nat) (w:World) (s:Bool) (p:Option Addr) (l c:Nat) (q:Option Addr) (k d:Nat) (V:Int) (C N:Nat):Prop:=∃ a b,Own w base (.slice p l c) (dig a)∧Own w base (.slice q k d) (dig b)∧XF s a b V C N
theorem XP.kp {base:Nat} {w:World} {s:Bool} {p:Option Addr} {l c:Nat} {q:Option Addr} {k d:Nat} {V:Int} {C N:Nat} {w':World} (h:XP base w s p l c q k d V C N) (g:Kp w w'):XP base w' s p l c q k d V C N:=by
  obtain ⟨a,b,h1,h2,h3⟩:=h
  exact ⟨a,b,h1.kp g,h2.kp g,h3⟩
theorem XP.mono {base:Nat} {w:World} {s:Bool} {p:Option Addr} {l c:Nat} {q:Option Addr} {k d:Nat} {V:Int} {C N:Nat} {base':Nat} (h:XP base w s p l c q k d V C N) (g:base'≤base):XP base' w s p l c q k d V C N:=by
  obtain ⟨a,b,h1,h2,h3⟩:=h
  exact ⟨a,b,h1.mono g,h2.mono g,h3⟩
theorem XP.set {base:Nat} {w:World} {s:Bool} {p:Option Addr} {l c:Nat} {q:Option Addr} {k d:Nat} {V:Int} {C N:Nat} (h:XP base w s p l c q k d V C N) {x:Addr} (hx:x.block < base) (u:Value):XP base (w.setCell x u) s p l c q k d V C N:=by
  obtain ⟨a,b,h1,h2,h3⟩:=h
  exact ⟨a,b,h1.setOther hx u,h2.setOther hx u,h3⟩
theorem XP.as {base:Nat} {w:World} {s:Bool} {p:Option Addr} {l c:Nat} {q:Option Addr} {k d:Nat} {V:Int} {C N:Nat} (h:XP base w s p l c q k d V C N) (V2:Int) (C2 N2:Nat) (hc:C2≠0) (e:V * (C2:Int) = V2 * (C:Int)) (hN:N≤N2):XP base w s p l c q k d V2 C2 N2:=by
  obtain ⟨a,b,h1,h2,f1,f2,f3,f4,f5⟩:=h
  refine ⟨a,b,h1,h2,f1,hc, ?_,by omega,by omega⟩
  refine Int.eq_of_mul_eq_mul_right (show (C:Int)≠0 by omega) ?_
  have e1:rvI s a * (C2:Int) * (C:Int) = rvI s a * (C:Int) * (C2:Int):=by ac_rfl
  have e2:V2 * (b:Int) * (C:Int) = V2 * (C:Int) * (b:Int):=by ac_rfl
  rw [e1,f3,e2,← e];ac_rfl
theorem RP.xp {base:Nat} {w:World} {s:Bool} {p:Option Addr} {l c:Nat} {q:Option Addr} {k d:Nat} {n:Bool} {m:Nat} (h:RP base w s p l c q k d n m) (K:Nat) (hK:K = 1074):XP base w s p l c q k d (Iv n m) (2 ^ K) 1500:=by
  obtain ⟨a,b,h1,h2,h3⟩:=h
  obtain ⟨f1,f2,f3,f4,f5⟩:=h3 K hK
  refine ⟨a,b,h1,h2,f1,by have:=Nat.two_pow_pos K;omega, ?_,f4,f5⟩
  have e:(a:Int) * ((2 ^ K:Nat):Int) = ((Fq.vV Ieee.double m:Nat):Int) * (b:Int):=by rw [← Int.natCast_mul,f2,Int.natCast_mul]
  rw [f3];unfold rvI
  cases s
  · rw [if_neg (by decide),if_neg (by decide)];exact e
  · rw [if_pos rfl,if_pos rfl,Int.neg_mul,e,Int.neg_mul]
theorem rvI_mul (s:Bool) (a b:Nat):rvI s (a * b) = rvI s a * (b:Int):=by
  unfold rvI;cases s
  · rw [if_neg (by decide),if_neg (by decide),Int.natCast_mul]
  · rw [if_pos rfl,if_pos rfl,Int.natCast_mul,Int.neg_mul]
theorem rvI_mul2 (s s':Bool) (a b:Nat):rvI (s ^^ s') (a * b) = rvI s a * rvI s' b:=by
  unfold rvI;cases s <;> cases s' <;> simp [Int.neg_mul,Int.mul_neg]
theorem frac_x (x D a' b':Nat) (ng neg:Bool) (hD:D≠0) (hF:FracOf x D 0 a' b') (hn:x≠0→ng = neg):rvI ng a' * (D:Int) = rvI neg x * (b':Int):=by
  have h:=frac_ratio x D a' b' hD hF
  by_cases z:x = 0
  · have z':=hF.2.1.2 z
    rw [z,z'];unfold rvI;simp
  · rw [hn z,← rvI_mul,← rvI_mul,h]
theorem blen_mulX (u v N1 N2:Nat) (h1:blen u≤N1) (h2:blen v≤N2):blen (u * v)≤N1 + N2:=by
  rw [blen_le_iff,Nat.pow_add]
  exact Nat.mul_lt_mul'' ((blen_le_iff u N1).1 h1) ((blen_le_iff v N2).1 h2)
theorem xcmp_ (B1 B2:Nat) (V V':Int) (C C' N N':Nat) (hN:N≤200000) (hN':N'≤200000) s p l c q k d s2 p2 l2 c2 q2 k2 d2 (w:World) (h1:XP B1 w s p l c q k d V C N) (h2:XP B2 w s2 p2 l2 c2 q2 k2 d2 V' C' N'):Calls Tryz.prog 84 #[.agg #[.bool s,.slice p l c,.slice q k d],.agg #[.bool s2,.slice p2 l2 c2,.slice q2 k2 d2]] w fun e w'=>e = .returned (.int .i64 (cmI (V * (C':Int)) (V' * (C:Int))))∧Kp w w':=by
  obtain ⟨a,b,o1,o2,zb,zc,i1,j1,j2⟩:=h1
  obtain ⟨x,y,o3,o4,zy,zc',i2,j3,j4⟩:=h2
  have h:=rcmp6_ s p l c q k d s2 p2 l2 c2 q2 k2 d2 a b x y B1 B2 w o1 o2 o3 o4 zb zy (by omega) (by omega) (by omega) (by omega)
  have e:cmI (rvI s a * (y:Int)) (rvI s2 x * (b:Int)) = cmI (V * (C':Int)) (V' * (C:Int)):=by
    have pk:(0:Int) < (C:Int) * (C':Int):=Int.mul_pos (by omega) (by omega)
    have pb:(0:Int) < (b:Int) * (y:Int):=Int.mul_pos (by omega) (by omega)
    rw [← cmI_scale _ _ _ pk,← cmI_scale (V * (C':Int)) (V' * (C:Int)) _ pb]
    have e1:rvI s a * (y:Int) * ((C:Int) * (C':Int)) = rvI s a * (C:Int) * ((y:Int) * (C':Int)):=by ac_rfl
    have e2:rvI s2 x * (b:Int) * ((C:Int) * (C':Int)) = rvI s2 x * (C':Int) * ((b:Int) * (C:Int)):=by ac_rfl
    rw [e1,e2,i1,i2]
    have e3:V * (b:Int) * ((y:Int) * (C':Int)) = V * (C':Int) * ((b:Int) * (y:Int)):=by ac_rfl
    have e4:V' * (y:Int) * ((b:Int) * (C:Int)) = V' * (C:Int) * ((b:Int) * (y:Int)):=by ac_rfl
    rw [e3,e4]
  rw [e] at h
  exact h
theorem XF.add (s s' ng:Bool) (a1 a2 b1 b2 a' b':Nat) (V V':Int) (C C' N N' M:Nat) (h1:XF s a1 a2 V C N) (h2:XF s' b1 b2 V' C' N') (hb:b'≠0) (h:rvI ng a' * ((a2:Int) * (b2:Int)) = (rvI s a1 * (b2:Int) + rvI s' b1 * (a2:Int)) * (b':Int)) (m1:blen a'≤M) (m2:blen b'≤M):XF ng a' b' (V * (C':Int) + V' * (C:Int)) (C * C') M:=by
  obtain ⟨za,zc,i1,-,-⟩:=h1
  obtain ⟨zb,zc',i2,-,-⟩:=h2
  refine ⟨hb,Nat.mul_ne_zero zc zc', ?_,m1,m2⟩
  have pn:(a2:Int) * (b2:Int)≠0:=by have:(0:Int) < (a2:Int) * (b2:Int):=Int.mul_pos (by omega) (by omega);omega
  refine Int.eq_of_mul_eq_mul_right pn ?_
  rw [Int.natCast_mul]
  have e1:rvI ng a' * ((C:Int) * (C':Int)) * ((a2:Int) * (b2:Int)) = rvI ng a' * ((a2:Int) * (b2:Int)) * ((C:Int) * (C':Int)):=by ac_rfl
  rw [e1,h]
  simp only [Int.add_mul]
  have e2:rvI s a1 * (b2:Int) * (b':Int) * ((C:Int) * (C':Int)) = rvI s a1 * (C:Int) * ((b2:Int) * (b':Int) * (C':Int)):=by ac_rfl
  have e3:rvI s' b1 * (a2:Int) * (b':Int) * ((C:Int) * (C':Int)) = rvI s' b1 * (C':Int) * ((a2:Int) * (b':Int) * (C:Int)):=by ac_rfl
  rw [e2,e3,i1,i2]
  have e4:V * (a2:Int) * ((b2:Int) * (b':Int) * (C':Int)) = V * (C':Int) * (b':Int) * ((a2:Int) * (b2:Int)):=by ac_rfl
  have e5:V' * (b2:Int) * ((a2:Int) * (b':Int) * (C:Int)) = V' * (C:Int) * (b':Int) * ((a2:Int) * (b2:Int)):=by ac_rfl
  rw [e4,e5]
theorem XF.mul (s s' ng:Bool) (a1 a2 b1 b2 a' b':Nat) (V V':Int) (C C' N N' M:Nat) (h1:XF s a1 a2 V C N) (h2:XF s' b1 b2 V' C' N') (hb:b'≠0) (h:rvI ng a' * ((a2:Int) * (b2:Int)) = rvI s a1 * rvI s' b1 * (b':Int)) (m1:blen a'≤M) (m2:blen b'≤M):XF ng a' b' (V * V') (C * C') M:=by
  obtain ⟨za,zc,i1,-,-⟩:=h1
  obtain ⟨zb,zc',i2,-,-⟩:=h2
  refine ⟨hb,Nat.mul_ne_zero zc zc', ?_,m1,m2⟩
  have pn:(a2:Int) * (b2:Int)≠0:=by have:(0:Int) < (a2:Int) * (b2:Int):=Int.mul_pos (by omega) (by omega);omega
  refine Int.eq_of_mul_eq_mul_right pn ?_
  rw [Int.natCast_mul]
  have e1:rvI ng a' * ((C:Int) * (C':Int)) * ((a2:Int) * (b2:Int)) = rvI ng a' * ((a2:Int) * (b2:Int)) * ((C:Int) * (C':Int)):=by ac_rfl
  have e2:rvI s a1 * rvI s' b1 * (b':Int) * ((C:Int) * (C':Int)) = rvI s a1 * (C:Int) * (rvI s' b1 * (C':Int)) * (b':Int):=by ac_rfl
  rw [e1,h,e2,i1,i2];ac_rfl
theorem XF.quo (s s' ng:Bool) (a1 a2 b1 b2 a' b':Nat) (V:Int) (U:Nat) (t:Bool) (C C' N N' M:Nat) (h1:XF s a1 a2 V C N) (h2:XF s' b1 b2 (rvI t U) C' N') (hU:U≠0) (hb:b'≠0) (h:rvI ng a' * ((a2:Int) * (b1:Int)) = rvI (s ^^ s') (a1 * b2) * (b':Int)) (m1:blen a'≤M) (m2:blen b'≤M):XF ng a' b' (rvI t 1 * V * (C':Int)) (C * U) M:=by
  obtain ⟨za,zc,i1,-,-⟩:=h1
  obtain ⟨zb,zc',i2,-,-⟩:=h2
  have hU':(0:Int) < (U:Int):=by omega
  have hC':(0:Int) < (C':Int):=by omega
  have hb2:(0:Int) < (b2:Int):=by omega
  have q1:(0:Int) < (U:Int) * (b2:Int):=Int.mul_pos hU' hb2
  have key:s' = t∧(b1:Int) * (C':Int) = (U:Int) * (b2:Int):=by
    have q2:(0:Int)≤(b1:Int) * (C':Int):=Int.mul_nonneg (by omega) (by omega)
    unfold rvI at i2
    cases s' <;> cases t <;> simp [Int.neg_mul] at i2 ⊢ <;> omega
  obtain ⟨rfl,i3⟩:=key
  have zb1:(0:Int) < (b1:Int):=by
    rcases Nat.eq_zero_or_pos b1 with z | z
    · rw [z] at i3;simp at i3;omega
    · omega
  refine ⟨hb,Nat.mul_ne_zero zc hU, ?_,m1,m2⟩
  have pn:(a2:Int) * (b1:Int)≠0:=by have:(0:Int) < (a2:Int) * (b1:Int):=Int.mul_pos (by omega) (by omega);omega
  refine Int.eq_of_mul_eq_mul_right pn ?_
  refine Int.eq_of_mul_eq_mul_right (show (b2:Int)≠0 by omega) ?_
  rw [Int.natCast_mul]
  have e0:rvI (s ^^ s') (a1 * b2) = rvI s' 1 * (rvI s a1 * (b2:Int)):=by unfold rvI;cases s <;> cases s' <;> simp [Int.neg_mul]
  have e1:rvI ng a' * ((C:Int) * (U:Int)) * ((a2:Int) * (b1:Int)) * (b2:Int) = rvI ng a' * ((a2:Int) * (b1:Int)) * ((C:Int) * ((U:Int) * (b2:Int))):=by ac_rfl
  rw [e1,h,← i3,e0]
  have e2:rvI s' 1 * (rvI s a1 * (b2:Int)) * (b':Int) * ((C:Int) * ((b1:Int) * (C':Int))) = (rvI s a1 * (C:Int)) * (rvI s' 1 * (b2:Int) * (b':Int) * (b1:Int) * (C':Int)):=by ac_rfl
  rw [e2,i1];ac_rfl
theorem raddX_ (sa sb:Bool) (a1 a2 b1 b2:Nat) (P1 P2 Q1 Q2:Option Addr) (C1 C2 D1 D2:Nat) (w:World) (h1:Arr w P1 (dig a1)) (l1:(dig a1).length≤C1) (h2:Arr w P2 (dig a2)) (l2:(dig a2).length≤C2) (h3:Arr w Q1 (dig b1)) (l3:(dig b1).length≤D1) (h4:Arr w Q2 (dig b2)) (l4:(dig b2).length≤D2) (N1 N2:Nat) (hN:N1 + N2≤100000) (ba1:blen a1≤N1) (ba2:blen a2≤N1) (bb1:blen b1≤N2) (bb2:blen b2≤N2) (za:a2≠0) (zb:b2≠0):Calls Tryz.prog 10 #[.agg #[.bool sa,.slice P1 (dig a1).length C1,.slice P2 (dig a2).length C2],.agg #[.bool sb,.slice Q1 (dig b1).length D1,.slice Q2 (dig b2).length D2]] w fun e w'=>∃ (vn vd:Value) (a' b':Nat) (ng:Bool),e = .returned (.agg #[.bool ng,vn,vd])∧Own w' w.heap.size vn (dig a')∧Own w' w.heap.size vd (dig b')∧(rvI ng a' * ((a2:Int) * (b2:Int)) = (rvI sa a1 * (b2:Int) + rvI sb b1 * (a2:Int)) * (b':Int)∧b'≠0∧blen a'≤2 * (N1 + N2) + 3∧blen b'≤2 * (N1 + N2) + 3)∧Kp w w':=by
  obtain ⟨X,hX⟩:∃ X,X = a1 * b2:=⟨_,rfl⟩
  obtain ⟨Y,hY⟩:∃ Y,Y = b1 * a2:=⟨_,rfl⟩
  obtain ⟨D,hD⟩:∃ D,D = a2 * b2:=⟨_,rfl⟩
  have hzD:D≠0:=by rw [hD];exact Nat.mul_ne_zero za zb
  have bX:blen X≤N1 + N2:=by rw [hX];exact blen_mulX _ _ _ _ ba1 bb2
  have bY:blen Y≤N1 + N2:=by rw [hY,Nat.add_comm];exact blen_mulX _ _ _ _ bb1 ba2
  have bD:blen D≤N1 + N2:=by rw [hD];exact blen_mulX _ _ _ _ ba2 bb2
  obtain ⟨T9,hT9⟩:∃ T9:Nat,T9 = N1 + N2:=⟨_,rfl⟩
  have bS:∀ c,c≤X + Y→blen c≤T9 + 1:=fun c hc=>by
    have g1:=(blen_le_iff X T9).1 (by omega)
    have g2:=(blen_le_iff Y T9).1 (by omega)
    rw [blen_le_iff,Nat.pow_succ];omega
  have lX:len32 X≤16000:=dlen X 16000 (by omega)
  have lY:len32 Y≤16000:=dlen Y 16000 (by omega)
  have lD:len32 D≤16000:=dlen D 16000 (by omega)
  have lS:len32 (X + Y)≤16000:=dlen (X + Y) 16000 (by have:=bS (X + Y) (Nat.le_refl _);omega)
  have k1:len32 a1≤4000:=dlen a1 4000 (by omega)
  have k2:len32 a2≤4000:=dlen a2 4000 (by omega)
  have k3:len32 b1≤4000:=dlen b1 4000 (by omega)
  have k4:len32 b2≤4000:=dlen b2 4000 (by omega)
  have eX:rvI sa a1 * (b2:Int) = rvI sa X:=by rw [hX,rvI_mul]
  have eY:rvI sb b1 * (a2:Int) = rvI sb Y:=by rw [hY,rvI_mul]
  have eD:(a2:Int) * (b2:Int) = (D:Int):=by rw [hD,Int.natCast_mul]
  rw [eX,eY,eD]
  have fin:∀ (x:Nat) (neg:Bool) (a' b':Nat) (ng:Bool),x≤X + Y→rvI neg x = rvI sa X + rvI sb Y→(FracOf x D 0 a' b'∧(x≠0→ng = neg))→(rvI ng a' * (D:Int) = (rvI sa X + rvI sb Y) * (b':Int)∧b'≠0∧blen a'≤2 * (N1 + N2) + 3∧blen b'≤2 * (N1 + N2) + 3):=fun x neg a' b' ng hx hv hF=>by
    refine ⟨by rw [← hv];exact frac_x x D a' b' ng neg hzD hF.1 hF.2,hF.1.1, ?_, ?_⟩
    · have g1:=hF.1.2.2.2.1;have g2:=bS x hx;simp at g1;omega
    · have g1:=hF.1.2.2.2.2;simp at g1;omega
  by_cases c1:sa = sb
  · refine (raddEqO_ sa sb a1 a2 b1 b2 P1 P2 Q1 Q2 C1 C2 D1 D2 w h1 l1 h2 l2 h3 l3 h4 l4 k1 k2 k3 k4 za zb X Y D hX hY hD lX lY lD lS c1).mono ?_
    rintro e w' ⟨vn,vd,a',b',ng,he,q1,q2,q3,q4⟩
    refine ⟨vn,vd,a',b',ng,he,q1,q2,fin (X + Y) sa a' b' ng (Nat.le_refl _) ?_ q3,q4⟩
    rw [← c1];unfold rvI;cases sa <;> simp <;> omega
  · by_cases c2:Y≤X
    · refine (raddGeO_ sa sb a1 a2 b1 b2 P1 P2 Q1 Q2 C1 C2 D1 D2 w h1 l1 h2 l2 h3 l3 h4 l4 k1 k2 k3 k4 za zb X Y D hX hY hD lX lY lD lS c1 c2).mono ?_
      rintro e w' ⟨vn,vd,a',b',ng,he,q1,q2,q3,q4⟩
      refine ⟨vn,vd,a',b',ng,he,q1,q2,fin (X - Y) sa a' b' ng (by omega) ?_ q3,q4⟩
      unfold rvI;cases sa <;> cases sb <;> simp at c1 ⊢ <;> omega
    · refine (raddLtO_ sa sb a1 a2 b1 b2 P1 P2 Q1 Q2 C1 C2 D1 D2 w h1 l1 h2 l2 h3 l3 h4 l4 k1 k2 k3 k4 za zb X Y D hX hY hD lX lY lD lS c1 (by omega)).mono ?_
      rintro e w' ⟨vn,vd,a',b',ng,he,q1,q2,q3,q4⟩
      refine ⟨vn,vd,a',b',ng,he,q1,q2,fin (Y - X) sb a' b' ng (by omega) ?_ q3,q4⟩
      unfold rvI;cases sa <;> cases sb <;> simp at c1 ⊢ <;> omega
theorem xadd_ (V:Int) (V':Int) (C C' N N':Nat) (hN:N + N'≤100000) s p l c q k d s2 p2 l2 c2 q2 k2 d2 (B1 B2:Nat) (w:World) (h1:XP B1 w s p l c q k d V C N) (h2:XP B2 w s2 p2 l2 c2 q2 k2 d2 (V') C' N'):Calls Tryz.prog 10 #[.agg #[.bool s,.slice p l c,.slice q k d],.agg #[.bool s2,.slice p2 l2 c2,.slice q2 k2 d2]] w fun e w'=>∃ s3 p3 l3 c3 q3 k3 d3,e = .returned (.agg #[.bool s3,.slice p3 l3 c3,.slice q3 k3 d3])∧XP w.heap.size w' s3 p3 l3 c3 q3 k3 d3 (V * (C':Int) + V' * (C:Int)) (C * C') (2 * (N + N') + 3)∧Kp w w':=by
  obtain ⟨a1,a2,u1,u2,u3⟩:=h1
  obtain ⟨b1,b2,v1,v2,v3⟩:=h2
  obtain ⟨P1,C1,e1,x1,y1⟩:=u1.arr
  obtain ⟨P2,C2,e2,x2,y2⟩:=u2.arr
  obtain ⟨Q1,D1,e3,x3,y3⟩:=v1.arr
  obtain ⟨Q2,D2,e4,x4,y4⟩:=v2.arr
  rw [e1,e2,e3,e4]
  refine (raddX_ s s2 a1 a2 b1 b2 P1 P2 Q1 Q2 C1 C2 D1 D2 w x1 y1 x2 y2 x3 y3 x4 y4 N N' hN u3.2.2.2.1 u3.2.2.2.2 v3.2.2.2.1 v3.2.2.2.2 u3.1 v3.1).mono ?_
  rintro e w' ⟨vn,vd,a',b',ng,rfl,o1,o2,⟨f1,f2,f3,f4⟩,g⟩
  obtain ⟨p3,c3,rfl,-,-⟩:=o1.arr
  obtain ⟨q3,d3,rfl,-,-⟩:=o2.arr
  exact ⟨ng,p3,_,c3,q3,_,d3,rfl,⟨a',b',o1,o2,XF.add s s2 ng a1 a2 b1 b2 a' b' V V' C C' N N' _ u3 v3 f2 f1 f3 f4⟩,g⟩
theorem xmul_ (V:Int) (V':Int) (C C' N N':Nat) (hN:N + N'≤100000) s p l c q k d s2 p2 l2 c2 q2 k2 d2 (B1 B2:Nat) (w:World) (h1:XP B1 w s p l c q k d V C N) (h2:XP B2 w s2 p2 l2 c2 q2 k2 d2 (V') C' N'):Calls Tryz.prog 14 #[.agg #[.bool s,.slice p l c,.slice q k d],.agg #[.bool s2,.slice p2 l2 c2,.slice q2 k2 d2]] w fun e w'=>∃ s3 p3 l3 c3 q3 k3 d3,e = .returned (.agg #[.bool s3,.slice p3 l3 c3,.slice q3 k3 d3])∧XP w.heap.size w' s3 p3 l3 c3 q3 k3 d3 (V * V') (C * C') (2 * (N + N') + 3)∧Kp w w':=by
  obtain ⟨a1,a2,u1,u2,u3⟩:=h1
  obtain ⟨b1,b2,v1,v2,v3⟩:=h2
  obtain ⟨P1,C1,e1,x1,y1⟩:=u1.arr
  obtain ⟨P2,C2,e2,x2,y2⟩:=u2.arr
  obtain ⟨Q1,D1,e3,x3,y3⟩:=v1.arr
  obtain ⟨Q2,D2,e4,x4,y4⟩:=v2.arr
  rw [e1,e2,e3,e4]
  obtain ⟨X,hX⟩:∃ X,X = a1 * b1:=⟨_,rfl⟩
  obtain ⟨D,hD⟩:∃ D,D = a2 * b2:=⟨_,rfl⟩
  have ba1:=u3.2.2.2.1
  have ba2:=u3.2.2.2.2
  have bb1:=v3.2.2.2.1
  have bb2:=v3.2.2.2.2
  have bX:blen X≤N + N':=by rw [hX];exact blen_mulX _ _ _ _ ba1 bb1
  have bD:blen D≤N + N':=by rw [hD];exact blen_mulX _ _ _ _ ba2 bb2
  have zb:=v3.1
  have hzD:D≠0:=by rw [hD];exact Nat.mul_ne_zero u3.1 zb
  refine (rmulO_ s s2 a1 a2 b1 b2 P1 P2 Q1 Q2 C1 C2 D1 D2 w x1 y1 x2 y2 x3 y3 x4 y4 (dlen a1 4000 (by omega)) (dlen a2 4000 (by omega)) (dlen b1 4000 (by omega)) (dlen b2 4000 (by omega)) u3.1 zb X D hX hD (dlen X 16000 (by omega)) (dlen D 16000 (by omega))).mono ?_
  rintro e w' ⟨vn,vd,a',b',ng,rfl,o1,o2,⟨hF,hn⟩,g⟩
  obtain ⟨p3,c3,rfl,-,-⟩:=o1.arr
  obtain ⟨q3,d3,rfl,-,-⟩:=o2.arr
  exact ⟨ng,p3,_,c3,q3,_,d3,rfl,⟨a',b',o1,o2,XF.mul s s2 ng a1 a2 b1 b2 a' b' V V' C C' N N' _ u3 v3 hF.1 (by have h:=frac_x X D a' b' ng _ hzD hF hn;rw [hD,hX,Int.natCast_mul,rvI_mul2] at h;exact h) (by have g1:=hF.2.2.2.1;simp at g1;omega) (by have g1:=hF.2.2.2.2;simp at g1;omega)⟩,g⟩
theorem xquo_ (V:Int) (U:Nat) (t:Bool) (hU:U≠0) (C C' N N':Nat) (hN:N + N'≤100000) s p l c q k d s2 p2 l2 c2 q2 k2 d2 (B1 B2:Nat) (w:World) (h1:XP B1 w s p l c q k d V C N) (h2:XP B2 w s2 p2 l2 c2 q2 k2 d2 (rvI t U) C' N'):Calls Tryz.prog 18 #[.agg #[.bool s,.slice p l c,.slice q k d],.agg #[.bool s2,.slice p2 l2 c2,.slice q2 k2 d2]] w fun e w'=>∃ s3 p3 l3 c3 q3 k3 d3,e = .returned (.agg #[.bool s3,.slice p3 l3 c3,.slice q3 k3 d3])∧XP w.heap.size w' s3 p3 l3 c3 q3 k3 d3 (rvI t 1 * V * (C':Int)) (C * U) (2 * (N + N') + 3)∧Kp w w':=by
  obtain ⟨a1,a2,u1,u2,u3⟩:=h1
  obtain ⟨b1,b2,v1,v2,v3⟩:=h2
  obtain ⟨P1,C1,e1,x1,y1⟩:=u1.arr
  obtain ⟨P2,C2,e2,x2,y2⟩:=u2.arr
  obtain ⟨Q1,D1,e3,x3,y3⟩:=v1.arr
  obtain ⟨Q2,D2,e4,x4,y4⟩:=v2.arr
  rw [e1,e2,e3,e4]
  obtain ⟨X,hX⟩:∃ X,X = a1 * b2:=⟨_,rfl⟩
  obtain ⟨D,hD⟩:∃ D,D = a2 * b1:=⟨_,rfl⟩
  have ba1:=u3.2.2.2.1
  have ba2:=u3.2.2.2.2
  have bb1:=v3.2.2.2.1
  have bb2:=v3.2.2.2.2
  have bX:blen X≤N + N':=by rw [hX];exact blen_mulX _ _ _ _ ba1 bb2
  have bD:blen D≤N + N':=by rw [hD];exact blen_mulX _ _ _ _ ba2 bb1
  have zb:b1≠0:=by
    intro z
    obtain ⟨g1,g2,g3,-,-⟩:=v3
    rw [z] at g3
    have q1:(U:Int) * (b2:Int)≠0:=by have:(0:Int) < (U:Int) * (b2:Int):=Int.mul_pos (by omega) (by omega);omega
    unfold rvI at g3
    cases s2 <;> cases t <;> simp [Int.neg_mul] at g3 <;> omega
  have hzD:D≠0:=by rw [hD];exact Nat.mul_ne_zero u3.1 zb
  refine (rquoO_ s s2 a1 a2 b1 b2 P1 P2 Q1 Q2 C1 C2 D1 D2 w x1 y1 x2 y2 x3 y3 x4 y4 (dlen a1 4000 (by omega)) (dlen a2 4000 (by omega)) (dlen b1 4000 (by omega)) (dlen b2 4000 (by omega)) u3.1 zb X D hX hD (dlen X 16000 (by omega)) (dlen D 16000 (by omega))).mono ?_
  rintro e w' ⟨vn,vd,a',b',ng,rfl,o1,o2,⟨hF,hn⟩,g⟩
  obtain ⟨p3,c3,rfl,-,-⟩:=o1.arr
  obtain ⟨q3,d3,rfl,-,-⟩:=o2.arr
  exact ⟨ng,p3,_,c3,q3,_,d3,rfl,⟨a',b',o1,o2,XF.quo s s2 ng a1 a2 b1 b2 a' b' V U t C C' N N' _ u3 v3 hU hF.1 (by have h:=frac_x X D a' b' ng _ hzD hF hn;rw [hX] at h;rw [hD,Int.natCast_mul] at h;exact h) (by have g1:=hF.2.2.2.1;simp at g1;omega) (by have g1:=hF.2.2.2.2;simp at g1;omega)⟩,g⟩

def H3c (w:World) (b:Nat) (v0 v1 v2:Value):Prop:=w.cell? ⟨b,0,none⟩ = some v0∧w.cell? ⟨b,1,none⟩ = some v1∧w.cell? ⟨b,2,none⟩ = some v2∧w.frozen? ⟨b,0,none⟩ = false∧w.frozen? ⟨b,1,none⟩ = false∧w.frozen? ⟨b,2,none⟩ = false
theorem H3c.keep {W w:World} {b:Nat} {v0 v1 v2:Value} (h:H3c W b v0 v1 v2) (g:Kp W w):H3c w b v0 v1 v2:=by
  obtain ⟨h0,h1,h2,h3,h4,h5⟩:=h
  exact ⟨kkeep g h0,kkeep g h1,kkeep g h2,(kfro g (cell_lt h0)).trans h3,(kfro g (cell_lt h0)).trans h4,(kfro g (cell_lt h0)).trans h5⟩
theorem H3c.new (w:World) (v0 v1 v2:Value) (t:TypeId):H3c (w.alloc (.cells #[v0,v1,v2] t)) w.heap.size v0 v1 v2:=by
  unfold H3c;simp [go_sem]
theorem H3c.lt {w:World} {b:Nat} {v0 v1 v2:Value} (h:H3c w b v0 v1 v2):b < w.heap.size:=cell_lt h.1
theorem H3c.put {w:World} {b:Nat} {v0 v1 v2:Value} (h:H3c w b v0 v1 v2) (u0 u1 u2:Value):H3c ((((w.setCell ⟨b,0,none⟩ u0).setCell ⟨b,1,none⟩ u1).setCell ⟨b,2,none⟩ u2)) b u0 u1 u2:=by
  obtain ⟨h0,h1,h2,h3,h4,h5⟩:=h
  unfold H3c;simp [go_sem,h0,h1,h2,h3,h4,h5]
def H4c (w:World) (b:Nat) (v0 v1 v2 v3:Value):Prop:=w.cell? ⟨b,0,none⟩ = some v0∧w.cell? ⟨b,1,none⟩ = some v1∧w.cell? ⟨b,2,none⟩ = some v2∧w.cell? ⟨b,3,none⟩ = some v3∧w.frozen? ⟨b,0,none⟩ = false∧w.frozen? ⟨b,1,none⟩ = false∧w.frozen? ⟨b,2,none⟩ = false∧w.frozen? ⟨b,3,none⟩ = false
theorem H4c.keep {W w:World} {b:Nat} {v0 v1 v2 v3:Value} (h:H4c W b v0 v1 v2 v3) (g:Kp W w):H4c w b v0 v1 v2 v3:=by
  obtain ⟨h0,h1,h2,h3,h4,h5,h6,h7⟩:=h
  exact ⟨kkeep g h0,kkeep g h1,kkeep g h2,kkeep g h3,(kfro g (cell_lt h0)).trans h4,(kfro g (cell_lt h0)).trans h5,(kfro g (cell_lt h0)).trans h6,(kfro g (cell_lt h0)).trans h7⟩
theorem H4c.new (w:World) (v0 v1 v2 v3:Value) (t:TypeId):H4c (w.alloc (.cells #[v0,v1,v2,v3] t)) w.heap.size v0 v1 v2 v3:=by
  unfold H4c;simp [go_sem]
theorem H4c.lt {w:World} {b:Nat} {v0 v1 v2 v3:Value} (h:H4c w b v0 v1 v2 v3):b < w.heap.size:=cell_lt h.1
theorem H4c.put {w:World} {b:Nat} {v0 v1 v2 v3:Value} (h:H4c w b v0 v1 v2 v3) (u0 u1 u2 u3:Value):H4c (((((w.setCell ⟨b,0,none⟩ u0).setCell ⟨b,1,none⟩ u1).setCell ⟨b,2,none⟩ u2).setCell ⟨b,3,none⟩ u3)) b u0 u1 u2 u3:=by
  obtain ⟨h0,h1,h2,h3,h4,h5,h6,h7⟩:=h
  unfold H4c;simp [go_sem,h0,h1,h2,h3,h4,h5,h6,h7]
end Go.Proofs.YtaidnpjgkkdloaaGreatDoor
