import Derived.Test.YtaldmbeomdfafaaGreatDoorKET2
import Derived.Test.YtaldmbeomdfafaaGreatDoorKEX
set_option maxHeartbeats 1000000
set_option maxRecDepth 20000
namespace Go.Proofs.YtaldmbeomdfafaaGreatDoor
open Go.RowKit
theorem rneg6_ (n:Bool) (m:Nat) s p l c q k d (B1:Nat) (w:World) (h:RP B1 w s p l c q k d n m):Calls Tryz.prog 34 #[.agg #[.bool s,.slice p l c,.slice q k d]] w fun e w'=>∃ s2 p2 l2 c2 q2 k2 d2,e = .returned (.agg #[.bool s2,.slice p2 l2 c2,.slice q2 k2 d2])∧RP w.heap.size w' s2 p2 l2 c2 q2 k2 d2 (!n) m∧Kp w w':=by
 obtain ⟨a,b,u1,u2,u3⟩:=h
 have hl:l = (dig a).length:=by
  obtain ⟨P1,C1,e1,-,-⟩:=u1.arr
  injection e1
 have key:∀ (s2:Bool),(a≠0→s2 = !s)→RF s2 a b (!n) m:=by
  intro s2 hs K hK
  obtain ⟨f1,f2,f3,f4,f5⟩:=u3 K hK
  refine ⟨f1,f2, ?_,f4,f5⟩
  have hv:Iv (!n) m = - Iv n m:=by unfold Iv;cases n <;> simp
  rw [hv,f3]
  by_cases c0:a = 0
  ·have hz:Fq.vV Ieee.double m = 0:=by
    rw [c0,Nat.zero_mul] at f2
    rcases Nat.mul_eq_zero.1 f2.symm with h | h
    ·exact h
    ·exact absurd h f1
   rw [hz];cases s <;> cases s2 <;> rfl
  ·rw [hs c0];cases s <;> simp
 have hf:=u3 1074 rfl
 have hl0:a≠0→0 < l:=fun h0=>by
  rw [hl]
  rcases Nat.eq_zero_or_pos (dig a).length with z | z
  ·have:=List.eq_nil_of_length_eq_zero z
   have e:=val_dig a
   rw [this] at e
   exact absurd e.symm h0
  ·exact z
 have u1:=u1.mono (Nat.zero_le B1)
 have u2:=u2.mono (Nat.zero_le B1)
 cases s
 ·by_cases t1:0 < l
  ·refine (rnegP_ p l c q k d a b w u1 u2 hf.2.2.2.1 hf.2.2.2.2 t1).mono ?_
   rintro e w' ⟨p2,l2,c2,q2,k2,d2,rfl,o1,o2,g⟩
   exact ⟨true,p2,l2,c2,q2,k2,d2,rfl,⟨a,b,o1,o2,key true (fun _=>rfl)⟩,g⟩
  ·refine (rnegZ_ p l c q k d a b w u1 u2 hf.2.2.2.1 hf.2.2.2.2 t1).mono ?_
   rintro e w' ⟨p2,l2,c2,q2,k2,d2,rfl,o1,o2,g⟩
   exact ⟨false,p2,l2,c2,q2,k2,d2,rfl,⟨a,b,o1,o2,key false (fun h0=>absurd (hl0 h0) t1)⟩,g⟩
 ·refine (rnegT_ p l c q k d a b w u1 u2 hf.2.2.2.1 hf.2.2.2.2).mono ?_
  rintro e w' ⟨p2,l2,c2,q2,k2,d2,rfl,o1,o2,g⟩
  exact ⟨false,p2,l2,c2,q2,k2,d2,rfl,⟨a,b,o1,o2,key false (fun _=>rfl)⟩,g⟩
theorem minusE_ (i j:Int) s p l c q k d s2 p2 l2 c2 q2 k2 d2 (w:World):Calls Tryz.prog 134 #[.agg #[.bool true,.int .i64 i,.bool s,.slice p l c,.slice q k d,.int .i64 j,.bool s2,.slice p2 l2 c2,.slice q2 k2 d2]] w fun e w'=>e = .returned (.agg #[.bool true,.int .i64 i,.bool s,.slice p l c,.slice q k d,.int .i64 j,.bool s2,.slice p2 l2 c2,.slice q2 k2 d2])∧Kp w w':=by
 go_enter Tryz.func134,Tryz.ntmps134
 go_wp2
 exact bodyPost_ret (v:=.agg #[.bool true,.int .i64 i,.bool s,.slice p l c,.slice q k d,.int .i64 j,.bool s2,.slice p2 l2 c2,.slice q2 k2 d2]) (by simp [results,Tryz.results134,go_sem]) rfl ⟨rfl,(by repeat (with_reducible (first | assumption | exact Kp.refl _ | apply Kp.drew | apply Kp.alloc | apply Kp.drewN | (refine Kp.setCell ?_ (by first | omega | (simp <;> omega)) _) | (refine Kp.trans ?_ (by assumption)))))⟩

def H6 (w:World) (B:Nat) (a b c d e f:Value):Prop:=Fq.H2 w B a b∧Fq.H2 w (B + 1) c d∧Fq.H2 w (B + 2) e f

def SV0 (N:Bool) (v:Value):Prop:=∃ (i j:Int) (s:Bool) (p:Option Addr) (l c:Nat) (q:Option Addr) (k d:Nat) (s2:Bool) (p2:Option Addr) (l2 c2:Nat) (q2:Option Addr) (k2 d2:Nat),v = .agg #[.bool N,.int .i64 i,.bool s,.slice p l c,.slice q k d,.int .i64 j,.bool s2,.slice p2 l2 c2,.slice q2 k2 d2]
def SV1 (n:Bool) (m:Nat) (n':Bool) (m':Nat) (W:World) (v:Value):Prop:=∃ (s:Bool) (p:Option Addr) (l c:Nat) (q:Option Addr) (k d:Nat) (s2:Bool) (p2:Option Addr) (l2 c2:Nat) (q2:Option Addr) (k2 d2:Nat),v = .agg #[.bool false,.int .i64 (infS n m),.bool s,.slice p l c,.slice q k d,.int .i64 (infS n' m'),.bool s2,.slice p2 l2 c2,.slice q2 k2 d2]∧RP 0 W s p l c q k d (fN n m) (fM m)∧RP 0 W s2 p2 l2 c2 q2 k2 d2 (fN n' m') (fM m')
theorem SV1.kp {n:Bool} {m:Nat} {n':Bool} {m':Nat} {W W':World} {v:Value} (g:Kp W W') (h:SV1 n m n' m' W v):SV1 n m n' m' W' v:=by
 obtain ⟨s,p,l,c,q,k,d,s2,p2,l2,c2,q2,k2,d2,e,h1,h2⟩:=h
 exact ⟨s,p,l,c,q,k,d,s2,p2,l2,c2,q2,k2,d2,e,h1.kp g,h2.kp g⟩
theorem pla_ne (x:Nat):Fq.pla x≠9223372036854775808:=by unfold Fq.pla;split <;> omega
theorem rlo_ne (a b:Nat):Fq.rlo a b≠9223372036854775808:=by
 unfold Fq.rlo
 split
 ·exact pla_ne a
 ·decide
theorem rhi_ne (a b:Nat):Fq.rhi a b≠9223372036854775808:=by
 unfold Fq.rhi
 split
 ·exact pla_ne b
 ·decide
theorem ofEmpty_ (a b:Nat) (ha:a < 18446744073709551616) (hb:b < 18446744073709551616) (hs:Fq.snd a b = false) (w:World):Calls Tryz.prog 60 #[.agg #[.int .u64 ((a:Nat):Int),.int .u64 ((b:Nat):Int)]] w fun e w'=>∃ v,e = .returned v∧SV0 true v∧Kp w w':=by
 have hr:∀ w:World,Calls Tryz.prog 22 #[.agg #[.int .u64 ((a:Nat):Int),.int .u64 ((b:Nat):Int)]] w fun e w'=>e = .returned (.agg #[.int .u64 9218868437227405312,.int .u64 18442240474082181120])∧Kp w w':=by
  obtain ⟨n,m,hm,rfl⟩:=Fq.exD a ha
  obtain ⟨n',m',hm',rfl⟩:=Fq.exD b hb
  intro w
  have h:=Fq.rread_ n n' m m' hm hm' w
  rw [show Fq.rlo (Fq.wD n m) (Fq.wD n' m') = 9218868437227405312 from by simp [Fq.rlo,hs],show Fq.rhi (Fq.wD n m) (Fq.wD n' m') = 18442240474082181120 from by simp [Fq.rhi,hs]] at h
  exact h
 refine (ofE_ _ _ hr w).mono ?_
 rintro e w' ⟨s,p,l,c,q,k,d,s2,p2,l2,c2,q2,k2,d2,rfl,-,-,g⟩
 exact ⟨_,rfl,⟨0,0,s,p,l,c,q,k,d,s2,p2,l2,c2,q2,k2,d2,rfl⟩,g⟩
theorem ofSound_ (a b:Nat) (ha:a < 18446744073709551616) (hb:b < 18446744073709551616) (hs:Fq.snd a b = true) (n n':Bool) (m m':Nat) (hm:m≤9218868437227405312) (hm':m'≤9218868437227405312) (e1:Fq.rlo a b = Fq.wD n m) (e2:Fq.rhi a b = Fq.wD n' m') (w:World):Calls Tryz.prog 60 #[.agg #[.int .u64 ((a:Nat):Int),.int .u64 ((b:Nat):Int)]] w fun e w'=>∃ v,e = .returned v∧SV1 n m n' m' w' v∧Kp w w':=by
 have hr:∀ w:World,Calls Tryz.prog 22 #[.agg #[.int .u64 ((a:Nat):Int),.int .u64 ((b:Nat):Int)]] w fun e w'=>e = .returned (.agg #[.int .u64 ((Fq.wD n m:Nat):Int),.int .u64 ((Fq.wD n' m':Nat):Int)])∧Kp w w':=by
  rw [← e1,← e2]
  obtain ⟨n,m,hm,rfl⟩:=Fq.exD a ha
  obtain ⟨n',m',hm',rfl⟩:=Fq.exD b hb
  exact fun w=>Fq.rread_ n n' m m' hm hm' w
 have t1:(((Fq.wD n m:Nat):Int) == 9218868437227405312) = false:=by
  have h1:Fq.rlo a b≠9218868437227405312:=by
   have h2:a≠9218868437227405312:=by intro h;rw [h] at hs;simp [Fq.snd] at hs
   simp only [Fq.rlo,hs,if_true,Fq.pla];split <;> omega
  rw [e1] at h1
  simp;omega
 refine (ofS_ _ _ _ _ _ _ _ _ _ _ hr (bound_ n m hm (e1 ▸ rlo_ne a b)) (bound_ n' m' hm' (e2 ▸ rhi_ne a b)) t1 w).mono ?_
 rintro e w' ⟨s,p,l,c,q,k,d,s2,p2,l2,c2,q2,k2,d2,rfl,h1,h2,g⟩
 exact ⟨_,rfl,⟨s,p,l,c,q,k,d,s2,p2,l2,c2,q2,k2,d2,rfl,h1.mono (Nat.zero_le _),h2.mono (Nat.zero_le _)⟩,g⟩

theorem leastP_ (i j:Int) (ZA ZB:Int→Nat) s p l c q k d s2 p2 l2 c2 q2 k2 d2 (B1 B2:Nat) (w:World) (h1:i = 0→QP B1 w s p l c q k d ZA) (h2:j = 0→QP B2 w s2 p2 l2 c2 q2 k2 d2 ZB):Calls Tryz.prog 62 #[.agg #[.bool false,.int .i64 i,.bool s,.slice p l c,.slice q k d,.int .i64 j,.bool s2,.slice p2 l2 c2,.slice q2 k2 d2]] w fun e w'=>e = .returned (.agg #[.int .u64 ((if i = 0 then ZA (-1) else 18442240474082181120:Nat):Int),.int .u64 ((if j = 0 then ZB 1 else 9218868437227405312:Nat):Int)])∧Kp w w':=by
 by_cases e1:i = 0
 ·have g1:=h1 e1
  rw [if_pos e1]
  by_cases e2:j = 0
  ·have g2:=h2 e2
   rw [if_pos e2]
   subst e1 e2
   exact leastFF_ _ _ s p l c q k d s2 p2 l2 c2 q2 k2 d2 w (fun W g=>qbits_ s p l c q k d ZA (-1) B1 W (g1.kp g)) (fun W g=>qbits_ s2 p2 l2 c2 q2 k2 d2 ZB 1 B2 W (g2.kp g))
  ·rw [if_neg e2]
   subst e1
   exact leastFN_ _ j (by simpa using e2) s p l c q k d s2 p2 l2 c2 q2 k2 d2 w (fun W g=>qbits_ s p l c q k d ZA (-1) B1 W (g1.kp g))
 ·rw [if_neg e1]
  by_cases e2:j = 0
  ·have g2:=h2 e2
   rw [if_pos e2]
   subst e2
   exact leastNF_ i (by simpa using e1) _ s p l c q k d s2 p2 l2 c2 q2 k2 d2 w (fun W g=>qbits_ s2 p2 l2 c2 q2 k2 d2 ZB 1 B2 W (g2.kp g))
  ·rw [if_neg e2]
   exact leastNN_ i (by simpa using e1) j (by simpa using e2) s p l c q k d s2 p2 l2 c2 q2 k2 d2 w
theorem infS_zero (n:Bool) (m:Nat):infS n m = 0 ↔ m≠9218868437227405312:=by
 unfold infS
 by_cases c:m = 9218868437227405312
 ·rw [if_pos c];cases n <;> simp [c]
 ·rw [if_neg c];simp [c]
theorem leastN_ (W:World) (v:Value) (h:SV0 true v):Calls Tryz.prog 62 #[v] W fun e w'=>e = .returned (.agg #[.int .u64 9218868437227405312,.int .u64 18442240474082181120])∧Kp W w':=by
 obtain ⟨i,j,s,p,l,c,q,k,d,s2,p2,l2,c2,q2,k2,d2,rfl⟩:=h
 exact leastE_ i j s p l c q k d s2 p2 l2 c2 q2 k2 d2 W
theorem rlo_inf (a b:Nat) (hs:Fq.snd a b = true) (n:Bool) (m:Nat) (e1:Fq.rlo a b = Fq.wD n m) (c:m = 9218868437227405312):n = true:=by
 have h2:a≠9218868437227405312:=by intro h;rw [h] at hs;simp [Fq.snd] at hs
 have h1:Fq.rlo a b≠9218868437227405312:=by simp only [Fq.rlo,hs,if_true,Fq.pla];split <;> omega
 rw [e1,c] at h1
 cases n
 ·exact absurd rfl h1
 ·rfl
theorem minusX_ (W:World) (v:Value) (h:SV0 true v):Calls Tryz.prog 134 #[v] W fun e w'=>∃ v',e = .returned v'∧SV0 true v'∧Kp W w':=by
 obtain ⟨i,j,s,p,l,c,q,k,d,s2,p2,l2,c2,q2,k2,d2,rfl⟩:=h
 refine (minusE_ i j s p l c q k d s2 p2 l2 c2 q2 k2 d2 W).mono ?_
 rintro e w' ⟨rfl,y⟩
 exact ⟨_,rfl,⟨i,j,s,p,l,c,q,k,d,s2,p2,l2,c2,q2,k2,d2,rfl⟩,y⟩
theorem signI_ (i:Int) s p l c q k d (t1:(i != 0) = true) (w:World):Calls Tryz.prog 130 #[.agg #[.int .i64 i,.bool s,.slice p l c,.slice q k d]] w fun e w'=>e = .returned (.int .i64 i)∧Kp w w':=by
 go_enter Tryz.func130,Tryz.ntmps130
 go_wp2
 exact bodyPost_ret (v:=.int .i64 i) (by simp [results,Tryz.results130,go_sem]) rfl ⟨rfl,(by repeat (with_reducible (first | assumption | exact Kp.refl _ | apply Kp.drew | apply Kp.alloc | apply Kp.drewN | (refine Kp.setCell ?_ (by first | omega | (simp <;> omega)) _) | (refine Kp.trans ?_ (by assumption)))))⟩
theorem signZ_ (X:Int) s p l c q k d (w:World) (hs:∀ W:World,Kp w W→Calls Tryz.prog 30 #[.agg #[.bool s,.slice p l c,.slice q k d]] W fun e w'=>e = .returned (.int .i64 X)∧Kp W w'):Calls Tryz.prog 130 #[.agg #[.int .i64 0,.bool s,.slice p l c,.slice q k d]] w fun e w'=>e = .returned (.int .i64 X)∧Kp w w':=by
 go_enter Tryz.func130,Tryz.ntmps130
 go_wp2_with (first | (go_at_call 30;refine (hs _ ?q0).mono ?_;(case q0=>exact (Kp.refl w).alloc _);rintro e w1 ⟨rfl,g1⟩;have k1:Kp w w1:=Kp.trans ((Kp.refl w).alloc _) g1))
 exact bodyPost_ret (v:=.int .i64 X) (by simp [results,Tryz.results130,go_sem]) rfl ⟨rfl,k1⟩
theorem endL_ (i j:Int) s p l c q k d s2 p2 l2 c2 q2 k2 d2 (t1:(i != j) = true) (t2:i < j) (w:World):Calls Tryz.prog 129 #[.agg #[.int .i64 i,.bool s,.slice p l c,.slice q k d],.agg #[.int .i64 j,.bool s2,.slice p2 l2 c2,.slice q2 k2 d2]] w fun e w'=>e = .returned (.int .i64 (-1))∧Kp w w':=by
 go_enter Tryz.func129,Tryz.ntmps129
 go_wp2
 exact bodyPost_ret (v:=.int .i64 (-1)) (by simp [results,Tryz.results129,go_sem]) rfl ⟨rfl,(by repeat (with_reducible (first | assumption | exact Kp.refl _ | apply Kp.drew | apply Kp.alloc | apply Kp.drewN | (refine Kp.setCell ?_ (by first | omega | (simp <;> omega)) _) | (refine Kp.trans ?_ (by assumption)))))⟩
theorem endG_ (i j:Int) s p l c q k d s2 p2 l2 c2 q2 k2 d2 (t1:(i != j) = true) (t2:¬ (i < j)) (w:World):Calls Tryz.prog 129 #[.agg #[.int .i64 i,.bool s,.slice p l c,.slice q k d],.agg #[.int .i64 j,.bool s2,.slice p2 l2 c2,.slice q2 k2 d2]] w fun e w'=>e = .returned (.int .i64 1)∧Kp w w':=by
 go_enter Tryz.func129,Tryz.ntmps129
 go_wp2
 exact bodyPost_ret (v:=.int .i64 1) (by simp [results,Tryz.results129,go_sem]) rfl ⟨rfl,(by repeat (with_reducible (first | assumption | exact Kp.refl _ | apply Kp.drew | apply Kp.alloc | apply Kp.drewN | (refine Kp.setCell ?_ (by first | omega | (simp <;> omega)) _) | (refine Kp.trans ?_ (by assumption)))))⟩
theorem endE_ (i:Int) s p l c q k d s2 p2 l2 c2 q2 k2 d2 (t1:(i != 0) = true) (w:World):Calls Tryz.prog 129 #[.agg #[.int .i64 i,.bool s,.slice p l c,.slice q k d],.agg #[.int .i64 i,.bool s2,.slice p2 l2 c2,.slice q2 k2 d2]] w fun e w'=>e = .returned (.int .i64 0)∧Kp w w':=by
 go_enter Tryz.func129,Tryz.ntmps129
 go_wp2
 exact bodyPost_ret (v:=.int .i64 0) (by simp [results,Tryz.results129,go_sem]) rfl ⟨rfl,(by repeat (with_reducible (first | assumption | exact Kp.refl _ | apply Kp.drew | apply Kp.alloc | apply Kp.drewN | (refine Kp.setCell ?_ (by first | omega | (simp <;> omega)) _) | (refine Kp.trans ?_ (by assumption)))))⟩
theorem endZ_ (X:Int) s p l c q k d s2 p2 l2 c2 q2 k2 d2 (w:World) (hs:∀ W:World,Kp w W→Calls Tryz.prog 33 #[.agg #[.bool s,.slice p l c,.slice q k d],.agg #[.bool s2,.slice p2 l2 c2,.slice q2 k2 d2]] W fun e w'=>e = .returned (.int .i64 X)∧Kp W w'):Calls Tryz.prog 129 #[.agg #[.int .i64 0,.bool s,.slice p l c,.slice q k d],.agg #[.int .i64 0,.bool s2,.slice p2 l2 c2,.slice q2 k2 d2]] w fun e w'=>e = .returned (.int .i64 X)∧Kp w w':=by
 go_enter Tryz.func129,Tryz.ntmps129
 go_wp2_with (first | (go_at_call 33;refine (hs _ ?q0).mono ?_;(case q0=>exact ((Kp.refl w).alloc _).alloc _);rintro e w1 ⟨rfl,g1⟩;have k1:Kp w w1:=Kp.trans (((Kp.refl w).alloc _).alloc _) g1))
 exact bodyPost_ret (v:=.int .i64 X) (by simp [results,Tryz.results129,go_sem]) rfl ⟨rfl,k1⟩
theorem lesserB_ (i j X:Int) s p l c q k d s2 p2 l2 c2 q2 k2 d2 (t1:X < 0) (w:World) (hs:∀ W:World,Kp w W→Calls Tryz.prog 129 #[.agg #[.int .i64 j,.bool s2,.slice p2 l2 c2,.slice q2 k2 d2],.agg #[.int .i64 i,.bool s,.slice p l c,.slice q k d]] W fun e w'=>e = .returned (.int .i64 X)∧Kp W w'):Calls Tryz.prog 156 #[.agg #[.int .i64 i,.bool s,.slice p l c,.slice q k d],.agg #[.int .i64 j,.bool s2,.slice p2 l2 c2,.slice q2 k2 d2]] w fun e w'=>e = .returned (.agg #[.int .i64 j,.bool s2,.slice p2 l2 c2,.slice q2 k2 d2])∧Kp w w':=by
 go_enter Tryz.func156,Tryz.ntmps156
 go_wp2_with (first | (go_at_call 129;refine (hs _ ?q0).mono ?_;(case q0=>exact (((Kp.refl w).alloc _).alloc _).alloc _);rintro e w1 ⟨rfl,g1⟩;have k1:Kp w w1:=Kp.trans ((((Kp.refl w).alloc _).alloc _).alloc _) g1;obtain ⟨x0,xz0,x1,xz1,x2,xz2,x3,xz3⟩:=FK4 g1 (w.heap.size) (.int .i64 i) (.bool s) (.slice p l c) (.slice q k d) (by simp [go_sem]);obtain ⟨y0,yz0,y1,yz1,y2,yz2,y3,yz3⟩:=FK4 g1 (w.heap.size + 1) (.int .i64 j) (.bool s2) (.slice p2 l2 c2) (.slice q2 k2 d2) (by simp [go_sem]);obtain ⟨r0,rz0,r1,rz1,r2,rz2,r3,rz3⟩:=FK4 g1 (w.heap.size + 2) (.int .i64 0) (.bool false) (.slice none 0 0) (.slice none 0 0) (by simp [go_sem])))
 exact bodyPost_ret (v:=.agg #[.int .i64 j,.bool s2,.slice p2 l2 c2,.slice q2 k2 d2]) (by simp [results,Tryz.results156,go_sem,r0,r1,r2,r3]) rfl ⟨rfl,KS4 (k1) (by first | omega | (simp <;> omega))⟩
theorem greaterB_ (i j X:Int) s p l c q k d s2 p2 l2 c2 q2 k2 d2 (t1:0 < X) (w:World) (hs:∀ W:World,Kp w W→Calls Tryz.prog 129 #[.agg #[.int .i64 j,.bool s2,.slice p2 l2 c2,.slice q2 k2 d2],.agg #[.int .i64 i,.bool s,.slice p l c,.slice q k d]] W fun e w'=>e = .returned (.int .i64 X)∧Kp W w'):Calls Tryz.prog 157 #[.agg #[.int .i64 i,.bool s,.slice p l c,.slice q k d],.agg #[.int .i64 j,.bool s2,.slice p2 l2 c2,.slice q2 k2 d2]] w fun e w'=>e = .returned (.agg #[.int .i64 j,.bool s2,.slice p2 l2 c2,.slice q2 k2 d2])∧Kp w w':=by
 go_enter Tryz.func157,Tryz.ntmps157
 go_wp2_with (first | (go_at_call 129;refine (hs _ ?q0).mono ?_;(case q0=>exact (((Kp.refl w).alloc _).alloc _).alloc _);rintro e w1 ⟨rfl,g1⟩;have k1:Kp w w1:=Kp.trans ((((Kp.refl w).alloc _).alloc _).alloc _) g1;obtain ⟨x0,xz0,x1,xz1,x2,xz2,x3,xz3⟩:=FK4 g1 (w.heap.size) (.int .i64 i) (.bool s) (.slice p l c) (.slice q k d) (by simp [go_sem]);obtain ⟨y0,yz0,y1,yz1,y2,yz2,y3,yz3⟩:=FK4 g1 (w.heap.size + 1) (.int .i64 j) (.bool s2) (.slice p2 l2 c2) (.slice q2 k2 d2) (by simp [go_sem]);obtain ⟨r0,rz0,r1,rz1,r2,rz2,r3,rz3⟩:=FK4 g1 (w.heap.size + 2) (.int .i64 0) (.bool false) (.slice none 0 0) (.slice none 0 0) (by simp [go_sem])))
 exact bodyPost_ret (v:=.agg #[.int .i64 j,.bool s2,.slice p2 l2 c2,.slice q2 k2 d2]) (by simp [results,Tryz.results157,go_sem,r0,r1,r2,r3]) rfl ⟨rfl,KS4 (k1) (by first | omega | (simp <;> omega))⟩
theorem greaterA_ (i j X:Int) s p l c q k d s2 p2 l2 c2 q2 k2 d2 (t1:¬ (0 < X)) (w:World) (hs:∀ W:World,Kp w W→Calls Tryz.prog 129 #[.agg #[.int .i64 j,.bool s2,.slice p2 l2 c2,.slice q2 k2 d2],.agg #[.int .i64 i,.bool s,.slice p l c,.slice q k d]] W fun e w'=>e = .returned (.int .i64 X)∧Kp W w'):Calls Tryz.prog 157 #[.agg #[.int .i64 i,.bool s,.slice p l c,.slice q k d],.agg #[.int .i64 j,.bool s2,.slice p2 l2 c2,.slice q2 k2 d2]] w fun e w'=>e = .returned (.agg #[.int .i64 i,.bool s,.slice p l c,.slice q k d])∧Kp w w':=by
 go_enter Tryz.func157,Tryz.ntmps157
 go_wp2_with (first | (go_at_call 129;refine (hs _ ?q0).mono ?_;(case q0=>exact (((Kp.refl w).alloc _).alloc _).alloc _);rintro e w1 ⟨rfl,g1⟩;have k1:Kp w w1:=Kp.trans ((((Kp.refl w).alloc _).alloc _).alloc _) g1;obtain ⟨x0,xz0,x1,xz1,x2,xz2,x3,xz3⟩:=FK4 g1 (w.heap.size) (.int .i64 i) (.bool s) (.slice p l c) (.slice q k d) (by simp [go_sem]);obtain ⟨y0,yz0,y1,yz1,y2,yz2,y3,yz3⟩:=FK4 g1 (w.heap.size + 1) (.int .i64 j) (.bool s2) (.slice p2 l2 c2) (.slice q2 k2 d2) (by simp [go_sem]);obtain ⟨r0,rz0,r1,rz1,r2,rz2,r3,rz3⟩:=FK4 g1 (w.heap.size + 2) (.int .i64 0) (.bool false) (.slice none 0 0) (.slice none 0 0) (by simp [go_sem])))
 exact bodyPost_ret (v:=.agg #[.int .i64 i,.bool s,.slice p l c,.slice q k d]) (by simp [results,Tryz.results157,go_sem,r0,r1,r2,r3]) rfl ⟨rfl,KS4 (k1) (by first | omega | (simp <;> omega))⟩

def pw (z:Int):Nat:=Fq.wD (decide (z < 0)) z.natAbs
def BdZ (z:Int):Prop:=-9218868437227405312≤z∧z≤9218868437227405312
theorem plz_pw (z:Int):Fq.plz (decide (z < 0)) z.natAbs = z:=by
 unfold Fq.plz
 by_cases c:z < 0 <;> simp [c] <;> omega
theorem abs_pw (z:Int) (h:BdZ z):z.natAbs≤9218868437227405312:=by unfold BdZ at h;omega
theorem pw_lt (z:Int) (h:BdZ z):pw z < 18446744073709551616:=by
 have:=abs_pw z h
 unfold pw Fq.wD;split <;> omega
theorem pw_ne (z:Int) (h:BdZ z):pw z≠9223372036854775808:=by
 have h2:=abs_pw z h
 unfold pw Fq.wD
 by_cases c:z < 0 <;> simp [c] <;> omega
theorem pla_pw (z:Int) (h:BdZ z):Fq.pla (pw z) = pw z:=by unfold Fq.pla;rw [if_neg (pw_ne z h)]
theorem pw_I:pw 9218868437227405312 = 9218868437227405312:=by decide
theorem pw_MI:pw (-9218868437227405312) = 18442240474082181120:=by decide
theorem ord_pw (x y:Int) (hx:BdZ x) (hy:BdZ y):FloatKind.f64.format.order (pw x) (pw y) = some (compare x y):=by
 have h:=Fq.ordD (decide (x < 0)) (decide (y < 0)) x.natAbs y.natAbs (abs_pw x hx) (abs_pw y hy)
 rw [plz_pw,plz_pw] at h
 exact h
theorem plt9 (x y:Int) (hx:BdZ x) (hy:BdZ y):(FloatKind.f64.format.order (pw x) (pw y) == some Ordering.lt) = decide (x < y):=by
 rw [ord_pw x y hx hy]
 rcases Int.lt_trichotomy x y with g | g | g
 ·rw [Fq.cmp_lt g,decide_eq_true g];rfl
 ·rw [Fq.cmp_eq g,decide_eq_false (by omega)];rfl
 ·rw [Fq.cmp_gt g,decide_eq_false (by omega)];rfl
theorem pgt9 (x y:Int) (hx:BdZ x) (hy:BdZ y):(FloatKind.f64.format.order (pw x) (pw y) == some Ordering.gt) = decide (y < x):=by
 rw [ord_pw x y hx hy]
 rcases Int.lt_trichotomy x y with g | g | g
 ·rw [Fq.cmp_lt g,decide_eq_false (by omega)];rfl
 ·rw [Fq.cmp_eq g,decide_eq_false (by omega)];rfl
 ·rw [Fq.cmp_gt g,decide_eq_true g];rfl
theorem peq9 (x y:Int) (hx:BdZ x) (hy:BdZ y):(FloatKind.f64.format.order (pw x) (pw y) == some Ordering.eq) = decide (x = y):=by
 rw [ord_pw x y hx hy]
 rcases Int.lt_trichotomy x y with g | g | g
 ·rw [Fq.cmp_lt g,decide_eq_false (by omega)];rfl
 ·rw [Fq.cmp_eq g,decide_eq_true g];rfl
 ·rw [Fq.cmp_gt g,decide_eq_false (by omega)];rfl
theorem ple9 (x y:Int) (hx:BdZ x) (hy:BdZ y):(FloatKind.f64.format.order (pw x) (pw y) == some Ordering.lt || FloatKind.f64.format.order (pw x) (pw y) == some Ordering.eq) = decide (x≤y):=by
 rw [plt9 x y hx hy,peq9 x y hx hy]
 by_cases c:x < y <;> by_cases c2:x = y <;> simp [c,c2] <;> omega
theorem pw_inj (x y:Int) (hx:BdZ x) (hy:BdZ y):pw x = pw y ↔ x = y:=by
 constructor
 ·intro h
  have e:=peq9 x y hx hy
  have e2:=peq9 y y hy hy
  rw [h,e2] at e
  by_cases c:x = y
  ·exact c
  ·simp [c] at e
 ·intro h;rw [h]
def VdZ (L H:Int):Prop:=(L = 9218868437227405312∧H = -9218868437227405312)∨(-9218868437227405312≤L∧L < 9218868437227405312∧-9218868437227405312 < H∧H≤9218868437227405312∧L≤H)
theorem VdZ.lo {L H:Int} (h:VdZ L H):BdZ L:=by unfold VdZ at h;unfold BdZ;omega
theorem VdZ.hi {L H:Int} (h:VdZ L H):BdZ H:=by unfold VdZ at h;unfold BdZ;omega
theorem pw_plz (n:Bool) (m:Nat) (h:Fq.wD n m≠9223372036854775808) (hm:m≤9218868437227405312):pw (Fq.plz n m) = Fq.wD n m∧BdZ (Fq.plz n m):=by
 cases n
 ·have e:Fq.plz false m = (m:Int):=by simp [Fq.plz]
  rw [e]
  refine ⟨?_,by unfold BdZ;omega⟩
  unfold pw
  rw [show decide ((m:Int) < 0) = false from decide_eq_false (by omega),show ((m:Int)).natAbs = m from by omega]
 ·have e:Fq.plz true m = -(m:Int):=by simp [Fq.plz]
  have z:m≠0:=by intro z;apply h;rw [z];rfl
  rw [e]
  refine ⟨?_,by unfold BdZ;omega⟩
  unfold pw
  rw [show decide (-(m:Int) < 0) = true from decide_eq_true (by omega),show (-(m:Int)).natAbs = m from by omega]
theorem snd_pw (L H:Int) (hL:BdZ L) (hH:BdZ H):Fq.snd (pw L) (pw H) = decide (L≤H∧L≠9218868437227405312∧H≠-9218868437227405312):=by
 unfold Fq.snd
 rw [ple9 L H hL hH]
 have e1:(pw L = 9218868437227405312) ↔ L = 9218868437227405312:=by
  have h:=pw_inj L 9218868437227405312 hL (by unfold BdZ;omega)
  rw [pw_I] at h;exact h
 have e2:(pw H = 18442240474082181120) ↔ H = -9218868437227405312:=by
  have h:=pw_inj H (-9218868437227405312) hH (by unfold BdZ;omega)
  rw [pw_MI] at h;exact h
 simp only [e1,e2]
 by_cases c1:L≤H <;> by_cases c2:L = 9218868437227405312 <;> by_cases c3:H = -9218868437227405312 <;> simp [c1,c2,c3]
theorem rlo_pw (L H:Int) (hL:BdZ L) (hH:BdZ H):Fq.rlo (pw L) (pw H) = pw (if L≤H∧L≠9218868437227405312∧H≠-9218868437227405312 then L else 9218868437227405312):=by
 unfold Fq.rlo
 rw [snd_pw L H hL hH,pla_pw L hL]
 by_cases c:L≤H∧L≠9218868437227405312∧H≠-9218868437227405312
 ·rw [if_pos c,if_pos (decide_eq_true c)]
 ·rw [if_neg c,if_neg (by simpa using c),pw_I]
theorem rhi_pw (L H:Int) (hL:BdZ L) (hH:BdZ H):Fq.rhi (pw L) (pw H) = pw (if L≤H∧L≠9218868437227405312∧H≠-9218868437227405312 then H else -9218868437227405312):=by
 unfold Fq.rhi
 rw [snd_pw L H hL hH,pla_pw H hH]
 by_cases c:L≤H∧L≠9218868437227405312∧H≠-9218868437227405312
 ·rw [if_pos c,if_pos (decide_eq_true c)]
 ·rw [if_neg c,if_neg (by simpa using c),pw_MI]
theorem read_pw (a b:Nat) (ha:a < 18446744073709551616) (hb:b < 18446744073709551616):∃ L H,VdZ L H∧Fq.rlo a b = pw L∧Fq.rhi a b = pw H:=by
 by_cases c:Fq.snd a b = true
 ·obtain ⟨n,m,hm,rfl⟩:=Fq.exD a ha
  obtain ⟨n',m',hm',rfl⟩:=Fq.exD b hb
  have es:=Fq.snd_w n n' m m' hm hm'
  rw [c] at es
  have es:=of_decide_eq_true es.symm
  have key:∀ (g:Bool) (r:Nat),r≤9218868437227405312→pw (Fq.plz g r) = Fq.pla (Fq.wD g r)∧BdZ (Fq.plz g r):=by
   intro g r hr
   by_cases c2:Fq.wD g r = 9223372036854775808
   ·have hg:g = true∧r = 0:=by
     unfold Fq.wD at c2
     cases g
     ·simp at c2;omega
     ·simp at c2;exact ⟨rfl,c2⟩
    rw [c2,hg.1,hg.2]
    exact ⟨by decide,by unfold BdZ Fq.plz;simp⟩
   ·have h:=pw_plz g r c2 hr
    rw [show Fq.pla (Fq.wD g r) = Fq.wD g r from by simp [Fq.pla,c2]]
    exact h
  have k1:=key n m es.1
  have k2:=key n' m' es.2.1
  refine ⟨Fq.plz n m,Fq.plz n' m',Or.inr ?_, ?_, ?_⟩
  ·have b1:=k1.2
   have b2:=k2.2
   unfold BdZ at b1 b2
   have e1:Fq.plz n m≠9218868437227405312:=by
    intro h
    apply es.2.2.2.1
    unfold Fq.plz at h
    cases n
    ·simp at h;exact ⟨rfl,by omega⟩
    ·simp at h;omega
   have e2:Fq.plz n' m'≠-9218868437227405312:=by
    intro h
    apply es.2.2.2.2
    unfold Fq.plz at h
    cases n'
    ·simp at h <;> omega
    ·simp at h;exact ⟨rfl,by omega⟩
   have:=es.2.2.1
   omega
  ·rw [k1.1];simp [Fq.rlo,c]
  ·rw [k2.1];simp [Fq.rhi,c]
 ·refine ⟨9218868437227405312,-9218868437227405312,Or.inl ⟨rfl,rfl⟩, ?_, ?_⟩
  ·rw [pw_I];unfold Fq.rlo;rw [if_neg c]
  ·rw [pw_MI];unfold Fq.rhi;rw [if_neg c]
theorem reread9 (L H:Int) (h:VdZ L H):Fq.rlo (pw L) (pw H) = pw L∧Fq.rhi (pw L) (pw H) = pw H:=by
 rw [rlo_pw L H h.lo h.hi,rhi_pw L H h.lo h.hi]
 rcases h with ⟨rfl,rfl⟩ | h
 ·exact ⟨by rw [if_neg (by omega)],by rw [if_neg (by omega)]⟩
 ·exact ⟨by rw [if_pos (by omega)],by rw [if_pos (by omega)]⟩
theorem bd_max (x y:Int) (hx:BdZ x) (hy:BdZ y):BdZ (max x y):=by unfold BdZ at *;omega
theorem max7_ (n n':Bool) (m m':Nat) (hm:m≤9218868437227405312) (hm':m'≤9218868437227405312) (h1:Fq.wD n m≠9223372036854775808) (h2:Fq.wD n' m'≠9223372036854775808) (ts:Array TypeId) (t:TypeId) (w:World):(Builtin.max_ ts t #[.float .f64 (Fq.wD n m),.float .f64 (Fq.wD n' m')]).run Tryz.prog w = .ok (.float .f64 (if Fq.plz n' m' > Fq.plz n m then Fq.wD n' m' else Fq.wD n m)) w:=by
 have ho:=Fq.ordD n n' m m' hm hm'
 rcases Int.lt_trichotomy (Fq.plz n m) (Fq.plz n' m') with g | g | g
 ·rw [Fq.cmp_lt g] at ho
  rw [if_pos (by omega)]
  generalize Fq.wD n m = X at ho ⊢
  generalize Fq.wD n' m' = Y at ho ⊢
  simp [Builtin.max_,Builtin.max2,ho]
 ·rw [Fq.cmp_eq g] at ho
  have e:Fq.wD n m = Fq.wD n' m':=by
   have z1:n = true→m≠0:=fun h z=>h1 (by rw [h,z];rfl)
   have z2:n' = true→m'≠0:=fun h z=>h2 (by rw [h,z];rfl)
   unfold Fq.wD
   unfold Fq.plz at g
   cases n <;> cases n' <;> simp at z1 z2 g ⊢ <;> omega
  rw [if_neg (by omega)]
  rw [← e] at ho ⊢
  generalize Fq.wD n m = X at ho ⊢
  simp [Builtin.max_,Builtin.max2,ho]
 ·rw [Fq.cmp_gt g] at ho
  rw [if_neg (by omega)]
  generalize Fq.wD n m = X at ho ⊢
  generalize Fq.wD n' m' = Y at ho ⊢
  simp [Builtin.max_,Builtin.max2,ho]

def Rd (a b:Nat) (L H:Int):Prop:=a < 18446744073709551616∧b < 18446744073709551616∧VdZ L H∧Fq.rlo a b = pw L∧Fq.rhi a b = pw H
theorem Rd.ex (a b:Nat) (ha:a < 18446744073709551616) (hb:b < 18446744073709551616):∃ L H,Rd a b L H:=by
 obtain ⟨L,H,h1,h2,h3⟩:=read_pw a b ha hb
 exact ⟨L,H,ha,hb,h1,h2,h3⟩
theorem Rd.of {L H:Int} (h:VdZ L H):Rd (pw L) (pw H) L H:=⟨pw_lt L h.lo,pw_lt H h.hi,h,(reread9 L H h).1,(reread9 L H h).2⟩
theorem Rd.vd {a b:Nat} {L H:Int} (h:Rd a b L H):VdZ L H:=h.2.2.1
theorem Rd.call {a b:Nat} {L H:Int} (h:Rd a b L H) (w:World):Calls Tryz.prog 46 #[.agg #[.float .f64 a,.float .f64 b]] w fun e w'=>e = .returned (.agg #[.float .f64 (pw L),.float .f64 (pw H)])∧Kp w w':=by
 have g:=Fq.read_ a b h.1 h.2.1 w
 rw [h.2.2.2.1,h.2.2.2.2] at g
 exact g
theorem emp9 (L H:Int) (h:VdZ L H):decide (pw L = 9218868437227405312∧pw H = 18442240474082181120) = decide (L = 9218868437227405312):=by
 congr 1;apply propext
 have e1:=pw_inj L 9218868437227405312 h.lo (by unfold BdZ;omega)
 have e2:=pw_inj H (-9218868437227405312) h.hi (by unfold BdZ;omega)
 rw [pw_I] at e1
 rw [pw_MI] at e2
 rw [e1,e2]
 unfold VdZ at h
 omega
theorem max9_ (x y:Int) (hx:BdZ x) (hy:BdZ y) (ts:Array TypeId) (t:TypeId) (w:World):(Builtin.max_ ts t #[.float .f64 (pw x),.float .f64 (pw y)]).run Tryz.prog w = .ok (.float .f64 (pw (max x y))) w:=by
 have h:=max7_ (decide (x < 0)) (decide (y < 0)) x.natAbs y.natAbs (abs_pw x hx) (abs_pw y hy) (pw_ne x hx) (pw_ne y hy) ts t w
 rw [plz_pw,plz_pw] at h
 have e:(if y > x then pw y else pw x) = pw (max x y):=by
  by_cases c:y > x
  ·rw [if_pos c,show max x y = y from by omega]
  ·rw [if_neg c,show max x y = x from by omega]
 exact e ▸ h

set_option linter.unusedVariables false
def pz (z:Int):Nat:=Fq.wD (decide (z < 0)) z.natAbs
def g53 (d:Int) (c1 c2:Nat) (V:Int):Int:=gpl 53 2098 9218868437227405311 9218868437227405312 d c1 c2 V
theorem mdW_pz (s:Bool) (M:Nat):mdW s M = pz (if s then -(M:Int) else M):=by
 unfold mdW pz Fq.wD
 by_cases z:M = 0
 ·rw [if_pos z,z];cases s <;> simp
 ·rw [if_neg z]
  cases s
  ·simp <;> omega
  ·simp <;> omega
theorem rV_neg (d:Int) (A K:Nat):rV d 53 A 1 (-(K:Int)) = rU d 53 (A * 1) (2 ^ K):=by
 unfold rV
 rw [show (-(K:Int)).toNat = 0 from by omega,show (- -(K:Int)).toNat = K from by omega,Nat.pow_zero,Nat.one_mul]
theorem rV_pos (d:Int) (A B K:Nat):rV d 53 A B (K:Int) = rU d 53 (A * 2 ^ K) B:=by
 unfold rV
 rw [show ((K:Int)).toNat = K from by omega,show (-(K:Int)).toNat = 0 from by omega,Nat.pow_zero,Nat.mul_one]

set_option linter.unusedVariables false
def zc (o:Option Int):Nat:=match o with | none=>9221120237041090561 | some z=>pz z
def ng (o:Option Int):Option Int:=o.map (fun z=>-z)

set_option linter.unusedVariables false
def vZ (z:Int):Int:=Iv (decide (z < 0)) z.natAbs
theorem vZ_pos (z:Int) (h:0≤z):vZ z = ((Fq.vV Ieee.double z.natAbs:Nat):Int):=by
 unfold vZ Iv
 rw [decide_eq_false (show ¬ z < 0 by omega)];rfl
theorem vV0X:Fq.vV Ieee.double 0 = 0:=by decide
theorem vZ_neg (z:Int):vZ (-z) = -vZ z:=by
 unfold vZ Iv
 rw [Int.natAbs_neg]
 by_cases z0:z = 0
 ·rw [z0];simp [vV0X]
 ·by_cases c:z < 0
  ·rw [decide_eq_true c,decide_eq_false (show ¬ -z < 0 by omega)];simp
  ·rw [decide_eq_false c,decide_eq_true (show -z < 0 by omega)];simp
set_option linter.unusedVariables false
theorem vZ_lt7 (x y:Int) (h:x < y):vZ x < vZ y:=by
 have p:∀ z:Int,0≤z→vZ z = ((Fq.vV Ieee.double z.natAbs:Nat):Int):=vZ_pos
 have q:∀ a b:Nat,a < b→Fq.vV Ieee.double a < Fq.vV Ieee.double b:=fun a b g=>Fq.vV_lt _ g
 rcases Int.lt_or_le x 0 with c | c
 ·have e:=vZ_neg (-x)
  rw [Int.neg_neg] at e
  rw [e,p (-x) (by omega)]
  rcases Int.lt_or_le y 0 with c2 | c2
  ·have e2:=vZ_neg (-y)
   rw [Int.neg_neg] at e2
   rw [e2,p (-y) (by omega)]
   have:=q (-y).natAbs (-x).natAbs (by omega)
   omega
  ·rw [p y c2]
   have:=q 0 (-x).natAbs (by omega)
   omega
 ·rw [p x c,p y (by omega)]
  have:=q x.natAbs y.natAbs (by omega)
  omega
theorem vZ_0:vZ 0 = 0:=by rw [vZ_pos 0 (by omega)];exact congrArg _ vV0X
theorem rpower1_ (p:Option Addr) (c m:Nat) (xs:List Int) (w:World) (hx:Arr w p xs) (hwx:Wd xs) (lx:xs.length≤16777216) (ha:1≤val xs) (hK:len32 (val xs ^ m)≤16777216) (hm9:m≤1048576) :
  Calls Tryz.prog 68 #[.slice p xs.length c,.int .i64 (m:Int)] w fun e w'=>∃ v,e = .returned v∧Own w' w.heap.size v (dig (val xs ^ m))∧Kp w w':=by
 have hno:=fun w' (k:Kp w w')=>rnorm_ p c xs w' (hx.grown k) (by omega)
 have htm:∀ (x y:Nat) (p1 p2:Option Addr) (c1 c2:Nat) (w':World),len32 x≤16777216→len32 y≤16777216→Arr w' p1 (dig x)→Arr w' p2 (dig y) →
   Calls Tryz.prog 70 #[.slice p1 (dig x).length c1,.slice p2 (dig y).length c2] w' fun e w''=>∃ v,e = .returned v∧Own w'' w'.heap.size v (dig (x * y))∧Kp w' w'':=fun x y p1 p2 c1 c2 w' hx hy h1 h2=>by
  have:=rtimes_ p1 p2 c1 c2 (dig x) (dig y) w' h1 h2 (Wd_dig _) (Wd_dig _) hx hy
  rw [val_dig,val_dig] at this
  exact this
 have HT:Hid (∀ (x y:Nat) (p1 p2:Option Addr) (c1 c2:Nat) (w':World),len32 x≤16777216→len32 y≤16777216→Arr w' p1 (dig x)→Arr w' p2 (dig y) →
   Calls Tryz.prog 70 #[.slice p1 (dig x).length c1,.slice p2 (dig y).length c2] w' fun e w''=>∃ v,e = .returned v∧Own w'' w'.heap.size v (dig (x * y))∧Kp w' w''):=htm
 rw [nz_dig xs hwx] at hno
 obtain ⟨a,hA⟩:∃ a,a = val xs:=⟨_,rfl⟩
 obtain ⟨N,hN⟩:∃ N,N = xs.length:=⟨_,rfl⟩
 rw [← hA] at hno ha hK ⊢
 rw [← hN] at hno ⊢
 obtain ⟨R,hR⟩:∃ R,R = a ^ m:=⟨_,rfl⟩
 rw [← hR] at hK ⊢
 have hO1:=own1 w
 have hk1:Kp w (w.alloc (.cells #[.int .u32 1] 81)):=(Kp.refl w).alloc _
 have h1:=hno _ hk1
 have HR:Hid (R = a ^ m∧len32 R≤16777216∧1≤a):=⟨hR,hK,ha⟩
 clear htm hno hx hwx lx hA hN hR hK ha
 go_enter Tryz.func68,Tryz.ntmps68
 go_wp2_with fail
 refine h1.mono ?_;rintro e w1 ⟨v1,rfl,hOx,hk2⟩
 have HO:Hid (Own w1 w.heap.size (.slice (some ⟨w.heap.size,0,none⟩) 1 1) (dig 1)∧Own w1 w.heap.size v1 (dig a)∧Kp w w1):=⟨by rw [dig_one];exact hO1.kp hk2,hOx.mono hk1.size,hk1.trans hk2⟩
 clear h1 hOx hk2 hO1 hk1
 go_wp2
 go_loopw [1,5,6] (fun nn pp xx wr=>∃ (k P X:Nat) (v u:Value),nn = .int .i64 (k:Int)∧v = pp∧u = xx∧Own wr w.heap.size v (dig P)∧Own wr w.heap.size u (dig X)∧P * X ^ k = R∧1≤P∧1≤X∧Kp w wr∧k≤m) (fun nn _ _ _=>(intOf nn).toNat)
 case atStart=>exact ⟨m,1,a,_,_,rfl,rfl,rfl,HO.out.1,HO.out.2.1,by rw [Nat.one_mul];exact HR.out.1.symm,Nat.le_refl _,HR.out.2.2,HO.out.2.2,Nat.le_refl _⟩
 case round =>
  clear HO
  obtain ⟨k,P,X,v,u,rfl,rfl,rfl,hOp,hOx,hPX,hP,hX,hkp,hkm⟩:=hrel
  by_cases ck:k = 0
  ·subst ck
   rw [Nat.pow_zero,Nat.mul_one] at hPX
   subst hPX
   clear HT HR hP hX hOx
   go_wp2
   exact bodyPost_ret (v:=v) (by simp [results,Tryz.results68,go_sem] <;> simp only [*]) rfl ⟨_,rfl,hOp,hkp⟩
  ·have t1:(0:Int) < (k:Int):=by omega
   have hlR:=HR.out.2.1
   have hXk:X≤X ^ k:=by
    have:=Nat.pow_le_pow_right (by omega:0 < X) (by omega:1≤k)
    rw [Nat.pow_one] at this;exact this
   have hXk1:1≤X ^ k:=Nat.pow_pos (by omega)
   have hPR:P≤R:=by rw [← hPX];exact Nat.le_mul_of_pos_right _ hXk1
   have hXR:X≤R:=by rw [← hPX];exact Nat.le_trans hXk (Nat.le_mul_of_pos_left _ hP)
   have lP:len32 P≤16777216:=Nat.le_trans (len32_mono hPR) hlR
   have lX:len32 X≤16777216:=Nat.le_trans (len32_mono hXR) hlR
   obtain ⟨h,hh⟩:∃ h,h = k / 2:=⟨_,rfl⟩
   have fh:(k:Int) / 2 = (h:Int):=by omega
   have hhb:h≤1048576:=by omega
   obtain ⟨p1,c1,rfl,hAp,_⟩:=hOp.arr
   obtain ⟨p2,c2,rfl,hAx,_⟩:=hOx.arr
   have hX2:X * X = X ^ 2:=by rw [Nat.pow_succ,Nat.pow_one]
   have hXX:1≤X * X:=Nat.le_trans hX (Nat.le_mul_of_pos_left _ (by omega))
   have hhk:h < k:=by omega
   have hsq:=fun w' (k':Kp wr w')=>HT.out X X p2 p2 c2 c2 w' lX lX (hAx.grown k') (hAx.grown k')
   obtain ⟨DX,hDX⟩:∃ DX,DX = (dig X).length:=⟨_,rfl⟩
   rcases (by omega:k % 2 = 0∨k % 2 = 1) with ce | ce
   ·have fm:(k:Int) % 2 = 0:=by omega
    have hPX2:P * (X * X) ^ h = R:=by rw [hX2,← Nat.pow_mul,show 2 * h = k from by omega];exact hPX
    rw [← hDX] at hsq
    obtain ⟨DP,hDP⟩:∃ DP,DP = (dig P).length:=⟨_,rfl⟩
    have hOp2:Own wr w.heap.size (.slice p1 DP c1) (dig P):=by rw [hDP];exact hOp
    have hOx2:Own wr w.heap.size (.slice p2 DX c2) (dig X):=by rw [hDX];exact hOx
    rw [← hDX,← hDP]
    clear hOp hOx hDX hDP HR hXk hXk1 hPR hXR lP lX hAp hAx hlR HT hPX
    have hne:h≠0:=by omega
    clear hh
    by_cases c0:h = 0
    ·exact absurd c0 hne
    ·have t2:(0:Int) < (h:Int):=by omega
     have h2:=hsq wr (Kp.refl _)
     clear hsq hX2
     go_wp2_with fail
     refine h2.mono ?_;rintro e w3 ⟨v3,rfl,hO3,hk3⟩
     have hO4:Own w3 w.heap.size v3 (dig (X * X)):=hO3.mono hkp.size
     have hO5:=hOp2.kp hk3
     have hk5:=hkp.trans hk3
     clear hO3 hk3 hkp hOp2 hOx2 h2
     go_wp2
     exact ⟨⟨h,P,X * X,_,_,by go_num,rfl,rfl,hO5,hO4,hPX2,hP,hXX,hk5,by omega⟩,by simp [intOf];omega⟩
   ·have fm:(k:Int) % 2 = 1:=by omega
    have hPX2:(P * X) * (X * X) ^ h = R:=by
     rw [hX2,← Nat.pow_mul,Nat.mul_assoc,Nat.mul_comm X,← Nat.pow_succ,show (2 * h).succ = k from by omega];exact hPX
    have h2:=HT.out P X p1 p2 c1 c2 wr lP lX hAp hAx
    rw [← hDX] at hsq h2
    obtain ⟨DP,hDP⟩:∃ DP,DP = (dig P).length:=⟨_,rfl⟩
    rw [← hDP] at h2
    have hOx2:Own wr w.heap.size (.slice p2 DX c2) (dig X):=by rw [hDX];exact hOx
    rw [← hDX,← hDP]
    have hPX1:1≤P * X:=Nat.mul_pos hP (by omega)
    clear hh
    clear hOp hOx hDX hDP HR hXk hXk1 hPR hXR lP lX hAp hAx hlR HT hPX
    go_wp2_with fail
    refine h2.mono ?_;rintro e w3 ⟨v3,rfl,hO3,hk3⟩
    have h4:=hsq w3 hk3
    have hO4:Own w3 w.heap.size v3 (dig (P * X)):=hO3.mono hkp.size
    have hO5:=hOx2.kp hk3
    have hk5:=hkp.trans hk3
    clear hO3 hk3 hkp hOx2 h2 hsq hX2
    by_cases c0:h = 0
    ·have t2:¬ ((0:Int) < (h:Int)):=by omega
     clear h4
     go_wp2
     exact ⟨⟨h,P * X,X,_,_,by go_num,rfl,rfl,hO4,hO5,by rw [← hPX2,c0,Nat.pow_zero,Nat.pow_zero],hPX1,hX,hk5,by omega⟩,by simp [intOf];omega⟩
    ·have t2:(0:Int) < (h:Int):=by omega
     go_wp2_with fail
     refine h4.mono ?_;rintro e w4 ⟨v4,rfl,hO6,hk6⟩
     have hO7:Own w4 w.heap.size v4 (dig (X * X)):=hO6.mono hk5.size
     have hO8:=hO4.kp hk6
     have hk7:=hk5.trans hk6
     clear hO6 hk6 hk5 hO4 hO5 h4
     go_wp2
     exact ⟨⟨h,P * X,X * X,_,_,by go_num,rfl,rfl,hO8,hO7,hPX2,hPX1,hXX,hk7,by omega⟩,by simp [intOf];omega⟩
end Go.Proofs.YtaldmbeomdfafaaGreatDoor
