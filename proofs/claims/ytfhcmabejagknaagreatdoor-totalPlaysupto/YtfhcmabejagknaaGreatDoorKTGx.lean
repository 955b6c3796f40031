import Derived.Test.YtfhcmabejagknaaGreatDoorKTQc
import Derived.Test.YtfhcmabejagknaaGreatDoorKU4x
namespace Go.Proofs.YtfhcmabejagknaaGreatDoor
open Go.RowKit
set_option linter.unusedVariables false
theorem frac_ratio (x D a b:Nat) (hD:D≠0) (hF:FracOf x D 0 a b):a * D = x * b:=by
  have hb:=hF.1
  by_cases c0:x = 0
  · rw [hF.2.1.2 c0,c0,Nat.zero_mul,Nat.zero_mul]
  · have hfl:∀ t:Nat,a * 2 ^ t / b = x * 2 ^ t / D:=fun t=>by
      have h:=hF.2.2.1 (-1) (blen (a * 2 ^ t / b) + blen (x * 2 ^ t / D)) (t:Int) c0
      unfold rV at h
      rw [show ((t:Int)).toNat = t from by omega,show (-(t:Int)).toNat = 0 from by omega,show ((t:Int) + 0).toNat = t from by omega,show (-((t:Int) + 0)).toNat = 0 from by omega,Nat.pow_zero,Nat.mul_one,Nat.mul_one,rU_floor _ _ _ (by omega),rU_floor _ _ _ (by omega)] at h
      exact h
    obtain ⟨t,ht⟩:∃ t,b * D < 2 ^ t:=⟨b * D,Nat.lt_two_pow_self⟩
    have h:=hfl t
    obtain ⟨f,hf⟩:∃ f,f = a * 2 ^ t / b:=⟨_,rfl⟩
    have f1:f * b≤a * 2 ^ t:=by rw [hf];exact Nat.div_mul_le_self _ _
    have f2:a * 2 ^ t < (f + 1) * b:=by rw [hf];exact Nat.lt_mul_of_div_lt (Nat.lt_succ_self _) (by omega)
    have f3:f * D≤x * 2 ^ t:=by rw [hf,h];exact Nat.div_mul_le_self _ _
    have f4:x * 2 ^ t < (f + 1) * D:=by rw [hf,h];exact Nat.lt_mul_of_div_lt (Nat.lt_succ_self _) (by omega)
    have g1:=Nat.mul_le_mul_right D f1
    have g2:=Nat.mul_lt_mul_of_pos_right f2 (show 0 < D by omega)
    have g3:=Nat.mul_le_mul_right b f3
    have g4:=Nat.mul_lt_mul_of_pos_right f4 (show 0 < b by omega)
    rw [show f * b * D = f * (b * D) from Nat.mul_assoc _ _ _,show a * 2 ^ t * D = a * D * 2 ^ t from Nat.mul_right_comm _ _ _] at g1
    rw [show (f + 1) * b * D = f * (b * D) + b * D from by rw [Nat.mul_assoc,Nat.add_mul,Nat.one_mul],show a * 2 ^ t * D = a * D * 2 ^ t from Nat.mul_right_comm _ _ _] at g2
    rw [show f * D * b = f * (b * D) from by rw [Nat.mul_assoc,Nat.mul_comm D b],show x * 2 ^ t * b = x * b * 2 ^ t from Nat.mul_right_comm _ _ _] at g3
    rw [show (f + 1) * D * b = f * (b * D) + b * D from by rw [Nat.mul_assoc,Nat.mul_comm D b,Nat.add_mul,Nat.one_mul],show x * 2 ^ t * b = x * b * 2 ^ t from Nat.mul_right_comm _ _ _] at g4
    rcases Nat.lt_trichotomy (a * D) (x * b) with c | c | c
    · exfalso
      have h5:=Nat.mul_le_mul_right (2 ^ t) (show a * D + 1≤x * b from c)
      rw [Nat.add_mul,Nat.one_mul] at h5
      omega
    · exact c
    · exfalso
      have h5:=Nat.mul_le_mul_right (2 ^ t) (show x * b + 1≤a * D from c)
      rw [Nat.add_mul,Nat.one_mul] at h5
      omega

set_option linter.unusedVariables false
def XF (s:Bool) (a b:Nat) (V:Int) (C N:Nat):Prop:=b≠0∧C≠0∧rvI s a * (C:Int) = V * (b:Int)∧blen a≤N∧blen b≤N
def XP (base:Nat) (w:World) (s:Bool) (p:Option Addr) (l c:Nat) (q:Option Addr) (k d:Nat) (V:Int) (C N:Nat):Prop:=∃ a b,Own w base (.slice p l c) (dig a)∧Own w base (.slice q k d) (dig b)∧XF s a b V C N
theorem XP.kp {base:Nat} {w:World} {s:Bool} {p:Option Addr} {l c:Nat} {q:Option Addr} {k d:Nat} {V:Int} {C N:Nat} {w':World} (h:XP base w s p l c q k d V C N) (g:Kp w w'):XP base w' s p l c q k d V C N:=by
  obtain ⟨a,b,h1,h2,h3⟩:=h
  exact ⟨a,b,h1.kp g,h2.kp g,h3⟩
theorem XP.mono {base:Nat} {w:World} {s:Bool} {p:Option Addr} {l c:Nat} {q:Option Addr} {k d:Nat} {V:Int} {C N:Nat} {base':Nat} (h:XP base w s p l c q k d V C N) (g:base'≤base):XP base' w s p l c q k d V C N:=by
  obtain ⟨a,b,h1,h2,h3⟩:=h
  exact ⟨a,b,h1.mono g,h2.mono g,h3⟩
theorem XP.set {base:Nat} {w:World} {s:Bool} {p:Option Addr} {l c:Nat} {q:Option Addr} {k d:Nat} {V:Int} {C N:Nat} (h:XP base w s p l c q k d V C N) {x:Addr} (hx:x.block < base) (u:Value):XP base (w.setCell x u) s p l c q k d V C N:=by
  obtain ⟨a,b,h1,h2,h3⟩:=h
  exact ⟨a,b,h1.setOther hx u,h2.setOther hx u,h3⟩
theorem rvI_mul (s:Bool) (a b:Nat):rvI s (a * b) = rvI s a * (b:Int):=by
  unfold rvI;cases s
  · rw [if_neg (by decide),if_neg (by decide),Int.natCast_mul]
  · rw [if_pos rfl,if_pos rfl,Int.natCast_mul,Int.neg_mul]
theorem frac_x (x D a' b':Nat) (ng neg:Bool) (hD:D≠0) (hF:FracOf x D 0 a' b') (hn:x≠0→ng = neg):rvI ng a' * (D:Int) = rvI neg x * (b':Int):=by
  have h:=frac_ratio x D a' b' hD hF
  by_cases z:x = 0
  · have z':=hF.2.1.2 z
    rw [z,z'];unfold rvI;simp
  · rw [hn z,← rvI_mul,← rvI_mul,h]
theorem blen_mulX (u v N1 N2:Nat) (h1:blen u≤N1) (h2:blen v≤N2):blen (u * v)≤N1 + N2:=by
  rw [blen_le_iff,Nat.pow_add]
  exact Nat.mul_lt_mul'' ((blen_le_iff u N1).1 h1) ((blen_le_iff v N2).1 h2)
theorem XF.quo (s s' ng:Bool) (a1 a2 b1 b2 a' b':Nat) (V:Int) (U:Nat) (t:Bool) (C C' N N' M:Nat) (h1:XF s a1 a2 V C N) (h2:XF s' b1 b2 (rvI t U) C' N') (hU:U≠0) (hb:b'≠0) (h:rvI ng a' * ((a2:Int) * (b1:Int)) = rvI (s ^^ s') (a1 * b2) * (b':Int)) (m1:blen a'≤M) (m2:blen b'≤M):XF ng a' b' (rvI t 1 * V * (C':Int)) (C * U) M:=by
  obtain ⟨za,zc,i1,-,-⟩:=h1
  obtain ⟨zb,zc',i2,-,-⟩:=h2
  have hU':(0:Int) < (U:Int):=by omega
  have hC':(0:Int) < (C':Int):=by omega
  have hb2:(0:Int) < (b2:Int):=by omega
  have q1:(0:Int) < (U:Int) * (b2:Int):=Int.mul_pos hU' hb2
  have key:s' = t∧(b1:Int) * (C':Int) = (U:Int) * (b2:Int):=by
    have q2:(0:Int)≤(b1:Int) * (C':Int):=Int.mul_nonneg (by omega) (by omega)
    unfold rvI at i2
    cases s' <;> cases t <;> simp [Int.neg_mul] at i2 ⊢ <;> omega
  obtain ⟨rfl,i3⟩:=key
  have zb1:(0:Int) < (b1:Int):=by
    rcases Nat.eq_zero_or_pos b1 with z | z
    · rw [z] at i3;simp at i3;omega
    · omega
  refine ⟨hb,Nat.mul_ne_zero zc hU, ?_,m1,m2⟩
  have pn:(a2:Int) * (b1:Int)≠0:=by have:(0:Int) < (a2:Int) * (b1:Int):=Int.mul_pos (by omega) (by omega);omega
  refine Int.eq_of_mul_eq_mul_right pn ?_
  refine Int.eq_of_mul_eq_mul_right (show (b2:Int)≠0 by omega) ?_
  rw [Int.natCast_mul]
  have e0:rvI (s ^^ s') (a1 * b2) = rvI s' 1 * (rvI s a1 * (b2:Int)):=by unfold rvI;cases s <;> cases s' <;> simp [Int.neg_mul]
  have e1:rvI ng a' * ((C:Int) * (U:Int)) * ((a2:Int) * (b1:Int)) * (b2:Int) = rvI ng a' * ((a2:Int) * (b1:Int)) * ((C:Int) * ((U:Int) * (b2:Int))):=by ac_rfl
  rw [e1,h,← i3,e0]
  have e2:rvI s' 1 * (rvI s a1 * (b2:Int)) * (b':Int) * ((C:Int) * ((b1:Int) * (C':Int))) = (rvI s a1 * (C:Int)) * (rvI s' 1 * (b2:Int) * (b':Int) * (b1:Int) * (C':Int)):=by ac_rfl
  rw [e2,i1];ac_rfl
theorem xquo_ (V:Int) (U:Nat) (t:Bool) (hU:U≠0) (C C' N N':Nat) (hN:N + N'≤100000) s p l c q k d s2 p2 l2 c2 q2 k2 d2 (B1 B2:Nat) (w:World) (h1:XP B1 w s p l c q k d V C N) (h2:XP B2 w s2 p2 l2 c2 q2 k2 d2 (rvI t U) C' N'):Calls Tryz.prog 56 #[.agg #[.bool s,.slice p l c,.slice q k d],.agg #[.bool s2,.slice p2 l2 c2,.slice q2 k2 d2]] w fun e w'=>∃ s3 p3 l3 c3 q3 k3 d3,e = .returned (.agg #[.bool s3,.slice p3 l3 c3,.slice q3 k3 d3])∧XP w.heap.size w' s3 p3 l3 c3 q3 k3 d3 (rvI t 1 * V * (C':Int)) (C * U) (2 * (N + N') + 3)∧Kp w w':=by
  obtain ⟨a1,a2,u1,u2,u3⟩:=h1
  obtain ⟨b1,b2,v1,v2,v3⟩:=h2
  obtain ⟨P1,C1,e1,x1,y1⟩:=u1.arr
  obtain ⟨P2,C2,e2,x2,y2⟩:=u2.arr
  obtain ⟨Q1,D1,e3,x3,y3⟩:=v1.arr
  obtain ⟨Q2,D2,e4,x4,y4⟩:=v2.arr
  rw [e1,e2,e3,e4]
  obtain ⟨X,hX⟩:∃ X,X = a1 * b2:=⟨_,rfl⟩
  obtain ⟨D,hD⟩:∃ D,D = a2 * b1:=⟨_,rfl⟩
  have ba1:=u3.2.2.2.1
  have ba2:=u3.2.2.2.2
  have bb1:=v3.2.2.2.1
  have bb2:=v3.2.2.2.2
  have bX:blen X≤N + N':=by rw [hX];exact blen_mulX _ _ _ _ ba1 bb2
  have bD:blen D≤N + N':=by rw [hD];exact blen_mulX _ _ _ _ ba2 bb1
  have zb:b1≠0:=by
    intro z
    obtain ⟨g1,g2,g3,-,-⟩:=v3
    rw [z] at g3
    have q1:(U:Int) * (b2:Int)≠0:=by have:(0:Int) < (U:Int) * (b2:Int):=Int.mul_pos (by omega) (by omega);omega
    unfold rvI at g3
    cases s2 <;> cases t <;> simp [Int.neg_mul] at g3 <;> omega
  have hzD:D≠0:=by rw [hD];exact Nat.mul_ne_zero u3.1 zb
  refine (rquoO_ s s2 a1 a2 b1 b2 P1 P2 Q1 Q2 C1 C2 D1 D2 w x1 y1 x2 y2 x3 y3 x4 y4 (dlen a1 4000 (by omega)) (dlen a2 4000 (by omega)) (dlen b1 4000 (by omega)) (dlen b2 4000 (by omega)) u3.1 zb X D hX hD (dlen X 16000 (by omega)) (dlen D 16000 (by omega))).mono ?_
  rintro e w' ⟨vn,vd,a',b',ng,rfl,o1,o2,⟨hF,hn⟩,g⟩
  obtain ⟨p3,c3,rfl,-,-⟩:=o1.arr
  obtain ⟨q3,d3,rfl,-,-⟩:=o2.arr
  exact ⟨ng,p3,_,c3,q3,_,d3,rfl,⟨a',b',o1,o2,XF.quo s s2 ng a1 a2 b1 b2 a' b' V U t C C' N N' _ u3 v3 hU hF.1 (by have h:=frac_x X D a' b' ng _ hzD hF hn;rw [hX] at h;rw [hD,Int.natCast_mul] at h;exact h) (by have g1:=hF.2.2.2.1;simp at g1;omega) (by have g1:=hF.2.2.2.2;simp at g1;omega)⟩,g⟩
end Go.Proofs.YtfhcmabejagknaaGreatDoor
