import Derived.Test.YtcepchaakfiojaaKRVz
set_option maxHeartbeats 4000000
set_option maxRecDepth 20000
namespace Go.Proofs.Ytcepchaakfiojaa
open Go.RowKit
set_option linter.unusedVariables false
set_option linter.unusedSimpArgs false
theorem cmI_nlt (x y:Int) (h:¬ x < y):¬ (cmI x y < 0):=by unfold cmI;rw [if_neg h];split <;> omega
theorem cmI_ngt (x y:Int) (h:¬ y < x):¬ (0 < cmI x y):=by unfold cmI;rw [if_neg h];split <;> omega
theorem hullX1_ (W:World) (u v:Value) (h1:SV0 true u) (N2:Bool) (h2:SV0 N2 v):Calls Try.prog 35 #[u,v] W fun e w'=>e = .returned v∧Kp W w':=by
  obtain ⟨i,j,s,p,l,c,q,k,d,s2,p2,l2,c2,q2,k2,d2,rfl⟩:=h1
  obtain ⟨i2,j2,s5,p5,l5,c5,q5,k5,d5,s6,p6,l6,c6,q6,k6,d6,rfl⟩:=h2
  exact hullE1_ i j i2 j2 s p l c q k d s2 p2 l2 c2 q2 k2 d2 s5 p5 l5 c5 q5 k5 d5 s6 p6 l6 c6 q6 k6 d6 N2 W
theorem hullX2_ (W:World) (u v:Value) (h1:SV0 false u) (h2:SV0 true v):Calls Try.prog 35 #[u,v] W fun e w'=>e = .returned u∧Kp W w':=by
  obtain ⟨i,j,s,p,l,c,q,k,d,s2,p2,l2,c2,q2,k2,d2,rfl⟩:=h1
  obtain ⟨i2,j2,s5,p5,l5,c5,q5,k5,d5,s6,p6,l6,c6,q6,k6,d6,rfl⟩:=h2
  exact hullE2_ i j i2 j2 s p l c q k d s2 p2 l2 c2 q2 k2 d2 s5 p5 l5 c5 q5 k5 d5 s6 p6 l6 c6 q6 k6 d6 W
theorem hullSTT_ (n1 g1 n2 g2:Bool) (m1 r1 m2 r2:Nat) (l1:m1≤9218868437227405312) (l2:r1≤9218868437227405312) (l3:m2≤9218868437227405312) (l4:r2≤9218868437227405312) (c1:Fq.plz n2 m2 < Fq.plz n1 m1) (c2:Fq.plz g1 r1 < Fq.plz g2 r2) (W:World) (u v:Value) (h1:SV1 n1 m1 g1 r1 W u) (h2:SV1 n2 m2 g2 r2 W v):Calls Try.prog 35 #[u,v] W fun e w'=>∃ v',e = .returned v'∧SV1 n2 m2 g2 r2 w' v'∧Kp W w':=by
  obtain ⟨s,p,l,c,q,k,d,s2,p2,l2',c2',q2,k2,d2,rfl,u1,u2⟩:=h1
  obtain ⟨s5,p5,l5,c5,q5,k5,d5,s6,p6,l6,c6,q6,k6,d6,rfl,u3,u4⟩:=h2
  refine (hullTT_ _ _ _ _ s p l c q k d s2 p2 l2' c2' q2 k2 d2 s5 p5 l5 c5 q5 k5 d5 s6 p6 l6 c6 q6 k6 d6 W (fun W' g=>lesserB_ (infS n1 m1) (infS n2 m2) _ s p l c q k d s5 p5 l5 c5 q5 k5 d5 (by rw [cmI_lt _ _ c1];decide) W' (fun W2 y=>cmpE_ 0 0 n2 n1 m2 m1 l3 l1 s5 p5 l5 c5 q5 k5 d5 s p l c q k d W2 ((u3.kp g).kp y) ((u1.kp g).kp y))) (fun W' g=>greaterB_ (infS g1 r1) (infS g2 r2) _ s2 p2 l2' c2' q2 k2 d2 s6 p6 l6 c6 q6 k6 d6 (by rw [cmI_gt _ _ c2];decide) W' (fun W2 y=>cmpE_ 0 0 g2 g1 r2 r1 l4 l2 s6 p6 l6 c6 q6 k6 d6 s2 p2 l2' c2' q2 k2 d2 W2 ((u4.kp g).kp y) ((u2.kp g).kp y)))).mono ?_
  rintro e w' ⟨rfl,g⟩
  exact ⟨_,rfl,⟨s5,p5,l5,c5,q5,k5,d5,s6,p6,l6,c6,q6,k6,d6,rfl,u3.kp g,u4.kp g⟩,g⟩
theorem hullSTS_ (n1 g1 n2 g2:Bool) (m1 r1 m2 r2:Nat) (l1:m1≤9218868437227405312) (l2:r1≤9218868437227405312) (l3:m2≤9218868437227405312) (l4:r2≤9218868437227405312) (c1:Fq.plz n2 m2 < Fq.plz n1 m1) (c2:¬ Fq.plz g1 r1 < Fq.plz g2 r2) (W:World) (u v:Value) (h1:SV1 n1 m1 g1 r1 W u) (h2:SV1 n2 m2 g2 r2 W v):Calls Try.prog 35 #[u,v] W fun e w'=>∃ v',e = .returned v'∧SV1 n2 m2 g1 r1 w' v'∧Kp W w':=by
  obtain ⟨s,p,l,c,q,k,d,s2,p2,l2',c2',q2,k2,d2,rfl,u1,u2⟩:=h1
  obtain ⟨s5,p5,l5,c5,q5,k5,d5,s6,p6,l6,c6,q6,k6,d6,rfl,u3,u4⟩:=h2
  refine (hullTS_ _ _ _ _ s p l c q k d s2 p2 l2' c2' q2 k2 d2 s5 p5 l5 c5 q5 k5 d5 s6 p6 l6 c6 q6 k6 d6 W (fun W' g=>lesserB_ (infS n1 m1) (infS n2 m2) _ s p l c q k d s5 p5 l5 c5 q5 k5 d5 (by rw [cmI_lt _ _ c1];decide) W' (fun W2 y=>cmpE_ 0 0 n2 n1 m2 m1 l3 l1 s5 p5 l5 c5 q5 k5 d5 s p l c q k d W2 ((u3.kp g).kp y) ((u1.kp g).kp y))) (fun W' g=>greaterA_ (infS g1 r1) (infS g2 r2) _ s2 p2 l2' c2' q2 k2 d2 s6 p6 l6 c6 q6 k6 d6 (cmI_ngt _ _ c2) W' (fun W2 y=>cmpE_ 0 0 g2 g1 r2 r1 l4 l2 s6 p6 l6 c6 q6 k6 d6 s2 p2 l2' c2' q2 k2 d2 W2 ((u4.kp g).kp y) ((u2.kp g).kp y)))).mono ?_
  rintro e w' ⟨rfl,g⟩
  exact ⟨_,rfl,⟨s5,p5,l5,c5,q5,k5,d5,s2,p2,l2',c2',q2,k2,d2,rfl,u3.kp g,u2.kp g⟩,g⟩
theorem hullSST_ (n1 g1 n2 g2:Bool) (m1 r1 m2 r2:Nat) (l1:m1≤9218868437227405312) (l2:r1≤9218868437227405312) (l3:m2≤9218868437227405312) (l4:r2≤9218868437227405312) (c1:¬ Fq.plz n2 m2 < Fq.plz n1 m1) (c2:Fq.plz g1 r1 < Fq.plz g2 r2) (W:World) (u v:Value) (h1:SV1 n1 m1 g1 r1 W u) (h2:SV1 n2 m2 g2 r2 W v):Calls Try.prog 35 #[u,v] W fun e w'=>∃ v',e = .returned v'∧SV1 n1 m1 g2 r2 w' v'∧Kp W w':=by
  obtain ⟨s,p,l,c,q,k,d,s2,p2,l2',c2',q2,k2,d2,rfl,u1,u2⟩:=h1
  obtain ⟨s5,p5,l5,c5,q5,k5,d5,s6,p6,l6,c6,q6,k6,d6,rfl,u3,u4⟩:=h2
  refine (hullST_ _ _ _ _ s p l c q k d s2 p2 l2' c2' q2 k2 d2 s5 p5 l5 c5 q5 k5 d5 s6 p6 l6 c6 q6 k6 d6 W (fun W' g=>lesserA_ (infS n1 m1) (infS n2 m2) _ s p l c q k d s5 p5 l5 c5 q5 k5 d5 (cmI_nlt _ _ c1) W' (fun W2 y=>cmpE_ 0 0 n2 n1 m2 m1 l3 l1 s5 p5 l5 c5 q5 k5 d5 s p l c q k d W2 ((u3.kp g).kp y) ((u1.kp g).kp y))) (fun W' g=>greaterB_ (infS g1 r1) (infS g2 r2) _ s2 p2 l2' c2' q2 k2 d2 s6 p6 l6 c6 q6 k6 d6 (by rw [cmI_gt _ _ c2];decide) W' (fun W2 y=>cmpE_ 0 0 g2 g1 r2 r1 l4 l2 s6 p6 l6 c6 q6 k6 d6 s2 p2 l2' c2' q2 k2 d2 W2 ((u4.kp g).kp y) ((u2.kp g).kp y)))).mono ?_
  rintro e w' ⟨rfl,g⟩
  exact ⟨_,rfl,⟨s,p,l,c,q,k,d,s6,p6,l6,c6,q6,k6,d6,rfl,u1.kp g,u4.kp g⟩,g⟩
theorem hullSSS_ (n1 g1 n2 g2:Bool) (m1 r1 m2 r2:Nat) (l1:m1≤9218868437227405312) (l2:r1≤9218868437227405312) (l3:m2≤9218868437227405312) (l4:r2≤9218868437227405312) (c1:¬ Fq.plz n2 m2 < Fq.plz n1 m1) (c2:¬ Fq.plz g1 r1 < Fq.plz g2 r2) (W:World) (u v:Value) (h1:SV1 n1 m1 g1 r1 W u) (h2:SV1 n2 m2 g2 r2 W v):Calls Try.prog 35 #[u,v] W fun e w'=>∃ v',e = .returned v'∧SV1 n1 m1 g1 r1 w' v'∧Kp W w':=by
  obtain ⟨s,p,l,c,q,k,d,s2,p2,l2',c2',q2,k2,d2,rfl,u1,u2⟩:=h1
  obtain ⟨s5,p5,l5,c5,q5,k5,d5,s6,p6,l6,c6,q6,k6,d6,rfl,u3,u4⟩:=h2
  refine (hullSS_ _ _ _ _ s p l c q k d s2 p2 l2' c2' q2 k2 d2 s5 p5 l5 c5 q5 k5 d5 s6 p6 l6 c6 q6 k6 d6 W (fun W' g=>lesserA_ (infS n1 m1) (infS n2 m2) _ s p l c q k d s5 p5 l5 c5 q5 k5 d5 (cmI_nlt _ _ c1) W' (fun W2 y=>cmpE_ 0 0 n2 n1 m2 m1 l3 l1 s5 p5 l5 c5 q5 k5 d5 s p l c q k d W2 ((u3.kp g).kp y) ((u1.kp g).kp y))) (fun W' g=>greaterA_ (infS g1 r1) (infS g2 r2) _ s2 p2 l2' c2' q2 k2 d2 s6 p6 l6 c6 q6 k6 d6 (cmI_ngt _ _ c2) W' (fun W2 y=>cmpE_ 0 0 g2 g1 r2 r1 l4 l2 s6 p6 l6 c6 q6 k6 d6 s2 p2 l2' c2' q2 k2 d2 W2 ((u4.kp g).kp y) ((u2.kp g).kp y)))).mono ?_
  rintro e w' ⟨rfl,g⟩
  exact ⟨_,rfl,⟨s,p,l,c,q,k,d,s2,p2,l2',c2',q2,k2,d2,rfl,u1.kp g,u2.kp g⟩,g⟩

theorem lv9_ (L H:Int) (d:VdZ L H) (hL:L≠9218868437227405312) (W:World) (v:Value) (h:SV1 (decide (L < 0)) L.natAbs (decide (H < 0)) H.natAbs W v):Calls Try.prog 34 #[v] W fun e w'=>e = .returned (.agg #[.int .u64 (pI L),.int .u64 (pI H)])∧Kp W w':=by
  have dd:=d
  unfold VdZ at dd
  have g:=(leastV_ (decide (L < 0)) (decide (H < 0)) L.natAbs H.natAbs (abs_pw L d.lo) (abs_pw H d.hi) (fun h=>decide_eq_true (by omega)) (fun h=>decide_eq_false (by omega)) W v h)
  have e1:=pla_pw L d.lo
  have e2:=pla_pw H d.hi
  rw [show Fq.pla (Fq.wD (decide (L < 0)) L.natAbs) = pw L from e1,show Fq.pla (Fq.wD (decide (H < 0)) H.natAbs) = pw H from e2] at g
  exact g
theorem of9s_ (a b:Nat) (L H:Int) (r:Rd a b L H) (hL:L≠9218868437227405312) (W:World):Calls Try.prog 17 #[.agg #[.int .u64 ((a:Nat):Int),.int .u64 ((b:Nat):Int)]] W fun e w'=>∃ v,e = .returned v∧SV1 (decide (L < 0)) L.natAbs (decide (H < 0)) H.natAbs w' v∧Kp W w':=by
  have hs:Fq.snd a b = true:=by
    rcases hs:Fq.snd a b with _ | _
    · exfalso
      have e:=r.2.2.2.1
      have:Fq.rlo a b = 9218868437227405312:=by simp [Fq.rlo,hs]
      rw [this] at e
      have i:=pw_inj L 9218868437227405312 r.vd.lo (by unfold BdZ;omega)
      rw [pw_I] at i
      exact hL (i.1 e.symm)
    · rfl
  exact ofSound_ a b r.1 r.2.1 hs _ _ _ _ (abs_pw L r.vd.lo) (abs_pw H r.vd.hi) r.2.2.2.1 r.2.2.2.2 W
theorem of9e_ (a b:Nat) (L H:Int) (r:Rd a b L H) (hL:L = 9218868437227405312) (W:World):Calls Try.prog 17 #[.agg #[.int .u64 ((a:Nat):Int),.int .u64 ((b:Nat):Int)]] W fun e w'=>∃ v,e = .returned v∧SV0 true v∧Kp W w':=by
  have hs:Fq.snd a b = false:=by
    rcases hs:Fq.snd a b with _ | _
    · rfl
    · exfalso
      have e:=r.2.2.2.1
      have h2:a≠9218868437227405312:=by intro h;rw [h] at hs;simp [Fq.snd] at hs
      have:Fq.rlo a b≠9218868437227405312:=by simp only [Fq.rlo,hs,if_true,Fq.pla];split <;> omega
      rw [e,hL,pw_I] at this
      exact this rfl
  exact ofEmpty_ a b r.1 r.2.1 hs W
theorem hullS_ (L1 H1 L2 H2:Int) (d1:VdZ L1 H1) (d2:VdZ L2 H2):HullS L1 H1 L2 H2:=by
  have D1:=d1
  have D2:=d2
  unfold VdZ at D1 D2
  have r1:=Rd.of d1
  have r2:=Rd.of d2
  unfold HullS
  by_cases c1:L1 = 9218868437227405312
  · by_cases c2:L2 = 9218868437227405312
    · rw [show min L1 L2 = 9218868437227405312 from by omega,show max H1 H2 = -9218868437227405312 from by omega,pI_I9,pI_M9]
      exact ⟨(fun _ v=>SV0 true v),(fun _ v=>SV0 true v),(fun _ v=>SV0 true v),fun W W' v g h=>h,fun W=>of9e_ _ _ L1 H1 r1 c1 W,fun W=>of9e_ _ _ L2 H2 r2 c2 W,fun W u v h1 h2=>(hullX1_ W u v h1 true h2).mono (fun e w' h=>⟨v,h.1,h2,h.2⟩),fun W v h=>leastN_ W v h⟩
    · rw [show min L1 L2 = L2 from by omega,show max H1 H2 = H2 from by omega]
      exact ⟨(fun _ v=>SV0 true v),SV1 (decide (L2 < 0)) L2.natAbs (decide (H2 < 0)) H2.natAbs,SV1 (decide (L2 < 0)) L2.natAbs (decide (H2 < 0)) H2.natAbs,fun W W' v g h=>h,fun W=>of9e_ _ _ L1 H1 r1 c1 W,fun W=>of9s_ _ _ L2 H2 r2 c2 W,fun W u v h1 h2=>(hullX1_ W u v h1 false h2.sv0).mono (fun e w' h=>⟨v,h.1,h2.kp h.2,h.2⟩),fun W v h=>lv9_ L2 H2 d2 c2 W v h⟩
  · by_cases c2:L2 = 9218868437227405312
    · rw [show min L1 L2 = L1 from by omega,show max H1 H2 = H1 from by omega]
      exact ⟨SV1 (decide (L1 < 0)) L1.natAbs (decide (H1 < 0)) H1.natAbs,(fun _ v=>SV0 true v),SV1 (decide (L1 < 0)) L1.natAbs (decide (H1 < 0)) H1.natAbs,fun W W' v g h=>h.kp g,fun W=>of9s_ _ _ L1 H1 r1 c1 W,fun W=>of9e_ _ _ L2 H2 r2 c2 W,fun W u v h1 h2=>(hullX2_ W u v h1.sv0 h2).mono (fun e w' h=>⟨u,h.1,h1.kp h.2,h.2⟩),fun W v h=>lv9_ L1 H1 d1 c1 W v h⟩
    · have dh:=vd_hull L1 H1 L2 H2 d1 d2
      by_cases k00:(L2 < L1)∧(H1 < H2)
      · rw [show min L1 L2 = L2 from by omega,show max H1 H2 = H2 from by omega] at dh ⊢
        exact ⟨SV1 (decide (L1 < 0)) L1.natAbs (decide (H1 < 0)) H1.natAbs,SV1 (decide (L2 < 0)) L2.natAbs (decide (H2 < 0)) H2.natAbs,SV1 (decide (L2 < 0)) L2.natAbs (decide (H2 < 0)) H2.natAbs,fun W W' v g h=>h.kp g,fun W=>of9s_ _ _ L1 H1 r1 c1 W,fun W=>of9s_ _ _ L2 H2 r2 c2 W,fun W u v h1 h2=>hullSTT_ _ _ _ _ _ _ _ _ (abs_pw _ d1.lo) (abs_pw _ d1.hi) (abs_pw _ d2.lo) (abs_pw _ d2.hi) (by rw [plz_pw,plz_pw];exact k00.1) (by rw [plz_pw,plz_pw];exact k00.2) W u v h1 h2,fun W v h=>lv9_ L2 H2 dh (by omega) W v h⟩
      by_cases k01:(L2 < L1)∧(¬ H1 < H2)
      · rw [show min L1 L2 = L2 from by omega,show max H1 H2 = H1 from by omega] at dh ⊢
        exact ⟨SV1 (decide (L1 < 0)) L1.natAbs (decide (H1 < 0)) H1.natAbs,SV1 (decide (L2 < 0)) L2.natAbs (decide (H2 < 0)) H2.natAbs,SV1 (decide (L2 < 0)) L2.natAbs (decide (H1 < 0)) H1.natAbs,fun W W' v g h=>h.kp g,fun W=>of9s_ _ _ L1 H1 r1 c1 W,fun W=>of9s_ _ _ L2 H2 r2 c2 W,fun W u v h1 h2=>hullSTS_ _ _ _ _ _ _ _ _ (abs_pw _ d1.lo) (abs_pw _ d1.hi) (abs_pw _ d2.lo) (abs_pw _ d2.hi) (by rw [plz_pw,plz_pw];exact k01.1) (by rw [plz_pw,plz_pw];exact k01.2) W u v h1 h2,fun W v h=>lv9_ L2 H1 dh (by omega) W v h⟩
      by_cases k10:(¬ L2 < L1)∧(H1 < H2)
      · rw [show min L1 L2 = L1 from by omega,show max H1 H2 = H2 from by omega] at dh ⊢
        exact ⟨SV1 (decide (L1 < 0)) L1.natAbs (decide (H1 < 0)) H1.natAbs,SV1 (decide (L2 < 0)) L2.natAbs (decide (H2 < 0)) H2.natAbs,SV1 (decide (L1 < 0)) L1.natAbs (decide (H2 < 0)) H2.natAbs,fun W W' v g h=>h.kp g,fun W=>of9s_ _ _ L1 H1 r1 c1 W,fun W=>of9s_ _ _ L2 H2 r2 c2 W,fun W u v h1 h2=>hullSST_ _ _ _ _ _ _ _ _ (abs_pw _ d1.lo) (abs_pw _ d1.hi) (abs_pw _ d2.lo) (abs_pw _ d2.hi) (by rw [plz_pw,plz_pw];exact k10.1) (by rw [plz_pw,plz_pw];exact k10.2) W u v h1 h2,fun W v h=>lv9_ L1 H2 dh (by omega) W v h⟩
      by_cases k11:(¬ L2 < L1)∧(¬ H1 < H2)
      · rw [show min L1 L2 = L1 from by omega,show max H1 H2 = H1 from by omega] at dh ⊢
        exact ⟨SV1 (decide (L1 < 0)) L1.natAbs (decide (H1 < 0)) H1.natAbs,SV1 (decide (L2 < 0)) L2.natAbs (decide (H2 < 0)) H2.natAbs,SV1 (decide (L1 < 0)) L1.natAbs (decide (H1 < 0)) H1.natAbs,fun W W' v g h=>h.kp g,fun W=>of9s_ _ _ L1 H1 r1 c1 W,fun W=>of9s_ _ _ L2 H2 r2 c2 W,fun W u v h1 h2=>hullSSS_ _ _ _ _ _ _ _ _ (abs_pw _ d1.lo) (abs_pw _ d1.hi) (abs_pw _ d2.lo) (abs_pw _ d2.hi) (by rw [plz_pw,plz_pw];exact k11.1) (by rw [plz_pw,plz_pw];exact k11.2) W u v h1 h2,fun W v h=>lv9_ L1 H1 dh (by omega) W v h⟩
      exfalso;omega
set_option linter.unusedVariables false
set_option linter.unusedSimpArgs false
theorem allY1_ (e f:Nat) (Lx Hx L H:Int) (rx:Rd e f Lx Hx) (dp:VdZ L H) (hp:L≠9218868437227405312) (W:World) (v:Value) (y0 y1 y2 y3 y4 y5 y6 y7 y8 y9 y10 y11 y12:Value) (ho:W.ownsRow 0 56 13 v 1 [y0,y1,y2,y3,y4,y5,y6,y7,y8,y9,y10,y11,y12]) (hz:PZ L H W (.agg #[y0,y1,y2,y3,y4,y5,y6,y7,y8,y9,y10,y11,y12])):Calls Try.prog 23 #[.agg #[.int .u64 ((e:Nat):Int),.int .u64 ((f:Nat):Int)],v] W fun e w'=>e = .returned (.agg #[.int .u64 (pI (min 9218868437227405312 (iL Lx Hx L H))),.int .u64 (pI (max (-9218868437227405312) (iH Lx Hx L H)))])∧Kp W w':=by
  obtain ⟨g,cap,rfl,-,hg,-,hc⟩:=prow_ ho (by decide)
  have dm:=vd_meet Lx Hx L H rx.vd dp
  exact all9_ (some ⟨g,0,none⟩) 1 cap (by decide) (fun _=>y0) (fun _=>y1) (fun _=>y2) (fun _=>y3) (fun _=>y4) (fun _=>y5) (fun _=>y6) (fun _=>y7) (fun _=>y8) (fun _=>y9) (fun _=>y10) (fun _=>y11) (fun _=>y12) _ _ Lx Hx (fun _=>iL Lx Hx L H) (fun _=>iH Lx Hx L H) W (rread9_ e f Lx Hx rx) (Or.inr ⟨g,0,rfl,hg,fun j hj=>by
    obtain rfl:j = 0:=by omega
    exact ⟨hc 0 _ rfl,hc 1 _ rfl,hc 2 _ rfl,hc 3 _ rfl,hc 4 _ rfl,hc 5 _ rfl,hc 6 _ rfl,hc 7 _ rfl,hc 8 _ rfl,hc 9 _ rfl,hc 10 _ rfl,hc 11 _ rfl,hc 12 _ rfl⟩⟩) (fun j _=>⟨dm,fun W' y=>withZ_ Lx Hx L H rx.vd dp hp W' _ (PCv.kp hz y)⟩) hullS_
theorem allY2_ (e f:Nat) (Lx Hx L H L' H':Int) (rx:Rd e f Lx Hx) (dp:VdZ L H) (hp:L≠9218868437227405312) (dq:VdZ L' H') (hq:L'≠9218868437227405312) (W:World) (v:Value) (y0 y1 y2 y3 y4 y5 y6 y7 y8 y9 y10 y11 y12 z0 z1 z2 z3 z4 z5 z6 z7 z8 z9 z10 z11 z12:Value) (ho:W.ownsRow 0 56 13 v 2 [y0,y1,y2,y3,y4,y5,y6,y7,y8,y9,y10,y11,y12,z0,z1,z2,z3,z4,z5,z6,z7,z8,z9,z10,z11,z12]) (hz:PZ L H W (.agg #[y0,y1,y2,y3,y4,y5,y6,y7,y8,y9,y10,y11,y12])) (hz2:PZ L' H' W (.agg #[z0,z1,z2,z3,z4,z5,z6,z7,z8,z9,z10,z11,z12])):Calls Try.prog 23 #[.agg #[.int .u64 ((e:Nat):Int),.int .u64 ((f:Nat):Int)],v] W fun e w'=>e = .returned (.agg #[.int .u64 (pI (min (min 9218868437227405312 (iL Lx Hx L H)) (iL Lx Hx L' H'))),.int .u64 (pI (max (max (-9218868437227405312) (iH Lx Hx L H)) (iH Lx Hx L' H')))])∧Kp W w':=by
  obtain ⟨g,cap,rfl,-,hg,-,hc⟩:=prow_ ho (by decide)
  have dm:=vd_meet Lx Hx L H rx.vd dp
  have dn:=vd_meet Lx Hx L' H' rx.vd dq
  exact all9_ (some ⟨g,0,none⟩) 2 cap (by decide) (fun j=>match j with | 0=>y0 | _=>z0) (fun j=>match j with | 0=>y1 | _=>z1) (fun j=>match j with | 0=>y2 | _=>z2) (fun j=>match j with | 0=>y3 | _=>z3) (fun j=>match j with | 0=>y4 | _=>z4) (fun j=>match j with | 0=>y5 | _=>z5) (fun j=>match j with | 0=>y6 | _=>z6) (fun j=>match j with | 0=>y7 | _=>z7) (fun j=>match j with | 0=>y8 | _=>z8) (fun j=>match j with | 0=>y9 | _=>z9) (fun j=>match j with | 0=>y10 | _=>z10) (fun j=>match j with | 0=>y11 | _=>z11) (fun j=>match j with | 0=>y12 | _=>z12) _ _ Lx Hx (fun j=>match j with | 0=>iL Lx Hx L H | _=>iL Lx Hx L' H') (fun j=>match j with | 0=>iH Lx Hx L H | _=>iH Lx Hx L' H') W (rread9_ e f Lx Hx rx) (Or.inr ⟨g,0,rfl,hg,fun j hj=>by
    rcases (by omega:j = 0∨j = 1) with rfl | rfl
    · exact ⟨hc 0 _ rfl,hc 1 _ rfl,hc 2 _ rfl,hc 3 _ rfl,hc 4 _ rfl,hc 5 _ rfl,hc 6 _ rfl,hc 7 _ rfl,hc 8 _ rfl,hc 9 _ rfl,hc 10 _ rfl,hc 11 _ rfl,hc 12 _ rfl⟩
    · exact ⟨hc 13 _ rfl,hc 14 _ rfl,hc 15 _ rfl,hc 16 _ rfl,hc 17 _ rfl,hc 18 _ rfl,hc 19 _ rfl,hc 20 _ rfl,hc 21 _ rfl,hc 22 _ rfl,hc 23 _ rfl,hc 24 _ rfl,hc 25 _ rfl⟩⟩) (fun j hj=>by
    rcases (by omega:j = 0∨j = 1) with rfl | rfl
    · exact ⟨dm,fun W' y=>withZ_ Lx Hx L H rx.vd dp hp W' _ (PCv.kp hz y)⟩
    · exact ⟨dn,fun W' y=>withZ_ Lx Hx L' H' rx.vd dq hq W' _ (PCv.kp hz2 y)⟩) hullS_
theorem allY0_ (e f:Nat) (Lx Hx:Int) (rx:Rd e f Lx Hx) (W:World):Calls Try.prog 23 #[.agg #[.int .u64 ((e:Nat):Int),.int .u64 ((f:Nat):Int)],.slice none 0 0] W fun e w'=>e = .returned (.agg #[.int .u64 (pI 9218868437227405312),.int .u64 (pI (-9218868437227405312))])∧Kp W w' :=
  all9_ none 0 0 (by decide) (fun _=>undef) (fun _=>undef) (fun _=>undef) (fun _=>undef) (fun _=>undef) (fun _=>undef) (fun _=>undef) (fun _=>undef) (fun _=>undef) (fun _=>undef) (fun _=>undef) (fun _=>undef) (fun _=>undef) _ _ Lx Hx (fun _=>0) (fun _=>0) W (rread9_ e f Lx Hx rx) (Or.inl rfl) (fun j hj=>absurd hj (Nat.not_lt_zero _)) hullS_
set_option linter.unusedVariables false
set_option linter.unusedSimpArgs false
theorem mrefE1_ (b0 b1 e0 e1 x0 x1:Value) (N2:Bool) (hOc:∀ W:World,Calls Try.prog 17 #[.agg #[e0,e1]] W fun e w'=>∃ v,e = .returned v∧SV0 true v∧Kp W w') (hOb:∀ W:World,Calls Try.prog 17 #[.agg #[b0,b1]] W fun e w'=>∃ v,e = .returned v∧SV0 N2 v∧Kp W w') (w:World):Calls Try.prog 7 #[.agg #[b0,b1],.agg #[e0,e1],.agg #[x0,x1]] w fun e w'=>e = .returned (.agg #[.int .u64 9218868437227405312,.int .u64 18442240474082181120])∧Kp w w':=by
  go_enter Try.func7,Try.ntmps7
  go_upto_region 1 with fail
  have kw:Kp w ((((w.alloc (.cells #[b0,b1] 24)).alloc (.cells #[e0,e1] 24)).alloc (.cells #[x0,x1] 24)).alloc (.cells #[.int .u64 0,.int .u64 0] 24)):=((((Kp.refl w).alloc _).alloc _).alloc _).alloc _
  have hB:BK ((((w.alloc (.cells #[b0,b1] 24)).alloc (.cells #[e0,e1] 24)).alloc (.cells #[x0,x1] 24)).alloc (.cells #[.int .u64 0,.int .u64 0] 24)) w.heap.size #[b0,b1] 24:=(((BK.new w #[b0,b1] 24).kp ((Kp.refl _).alloc _)).kp ((Kp.refl _).alloc _)).kp ((Kp.refl _).alloc _)
  have hC:BK ((((w.alloc (.cells #[b0,b1] 24)).alloc (.cells #[e0,e1] 24)).alloc (.cells #[x0,x1] 24)).alloc (.cells #[.int .u64 0,.int .u64 0] 24)) (w.heap.size + 1) #[e0,e1] 24:=((BK.newAt (by simp) _ _).kp ((Kp.refl _).alloc _)).kp ((Kp.refl _).alloc _)
  have hR:BK ((((w.alloc (.cells #[b0,b1] 24)).alloc (.cells #[e0,e1] 24)).alloc (.cells #[x0,x1] 24)).alloc (.cells #[.int .u64 0,.int .u64 0] 24)) (w.heap.size + 3) #[.int .u64 0,.int .u64 0] 24:=BK.newAt (by simp) _ _
  generalize ((((w.alloc (.cells #[b0,b1] 24)).alloc (.cells #[e0,e1] 24)).alloc (.cells #[x0,x1] 24)).alloc (.cells #[.int .u64 0,.int .u64 0] 24)) = W at kw hB hC hR ⊢
  have cc0:W.cell? ⟨w.heap.size + 1,0,none⟩ = some (e0):=(hC.cell 0).trans rfl;have ccz0:=hC.frozen 0;have cc1:W.cell? ⟨w.heap.size + 1,1,none⟩ = some (e1):=(hC.cell 1).trans rfl;have ccz1:=hC.frozen 1;skip
  go_upto_region 2 with (first | (go_at_call 17;refine (hOc _).mono ?_;rintro e w1 ⟨v1,rfl,⟨i1,i2,s,p,l,c,q,k,d,s2,p2,l2,c2,q2,k2,d2,rfl⟩,g1⟩))
  have gs:Kp w1 (w1.alloc (.cells #[.bool true,.int .i64 i1,.bool s,.slice p l c,.slice q k d,.int .i64 i2,.bool s2,.slice p2 l2 c2,.slice q2 k2 d2] 48)):=(Kp.refl _).alloc _
  have hS:BK (w1.alloc (.cells #[.bool true,.int .i64 i1,.bool s,.slice p l c,.slice q k d,.int .i64 i2,.bool s2,.slice p2 l2 c2,.slice q2 k2 d2] 48)) w1.heap.size #[.bool true,.int .i64 i1,.bool s,.slice p l c,.slice q k d,.int .i64 i2,.bool s2,.slice p2 l2 c2,.slice q2 k2 d2] 48:=BK.new _ _ _
  replace hB:=(hB.kp g1).kp gs;replace hR:=(hR.kp g1).kp gs;replace kw:=Kp.trans (Kp.trans kw g1) gs
  generalize (w1.alloc (.cells #[.bool true,.int .i64 i1,.bool s,.slice p l c,.slice q k d,.int .i64 i2,.bool s2,.slice p2 l2 c2,.slice q2 k2 d2] 48)) = W1 at hB hR hS kw ⊢
  generalize w1.heap.size = sb at hS ⊢
  clear gs g1 hC cc0 cc1 ccz0 ccz1
  have cc0:W1.cell? ⟨w.heap.size,0,none⟩ = some (b0):=(hB.cell 0).trans rfl;have ccz0:=hB.frozen 0;have cc1:W1.cell? ⟨w.heap.size,1,none⟩ = some (b1):=(hB.cell 1).trans rfl;have ccz1:=hB.frozen 1;skip
  go_upto_region 3 with (first | (go_at_call 17;refine (hOb _).mono ?_;rintro e w2 ⟨v2,rfl,⟨i5,i6,s5,p5,l5,c5,q5,k5,d5,s6,p6,l6,c6,q6,k6,d6,rfl⟩,g2⟩))
  have gt:Kp w2 (w2.alloc (.cells #[.bool N2,.int .i64 i5,.bool s5,.slice p5 l5 c5,.slice q5 k5 d5,.int .i64 i6,.bool s6,.slice p6 l6 c6,.slice q6 k6 d6] 48)):=(Kp.refl _).alloc _
  have hT:BK (w2.alloc (.cells #[.bool N2,.int .i64 i5,.bool s5,.slice p5 l5 c5,.slice q5 k5 d5,.int .i64 i6,.bool s6,.slice p6 l6 c6,.slice q6 k6 d6] 48)) w2.heap.size #[.bool N2,.int .i64 i5,.bool s5,.slice p5 l5 c5,.slice q5 k5 d5,.int .i64 i6,.bool s6,.slice p6 l6 c6,.slice q6 k6 d6] 48:=BK.new _ _ _
  replace hS:=(hS.kp g2).kp gt;replace hR:=(hR.kp g2).kp gt;replace kw:=Kp.trans (Kp.trans kw g2) gt
  generalize (w2.alloc (.cells #[.bool N2,.int .i64 i5,.bool s5,.slice p5 l5 c5,.slice q5 k5 d5,.int .i64 i6,.bool s6,.slice p6 l6 c6,.slice q6 k6 d6] 48)) = W2 at hR hS hT kw ⊢
  generalize w2.heap.size = tb at hT ⊢
  clear gt g2 hB cc0 cc1 ccz0 ccz1
  have ss0:W2.cell? ⟨sb,0,none⟩ = some (.bool true):=(hS.cell 0).trans rfl;have ssz0:=hS.frozen 0;have tt0:W2.cell? ⟨tb,0,none⟩ = some (.bool N2):=(hT.cell 0).trans rfl;have ttz0:=hT.frozen 0;have rr0:W2.cell? ⟨w.heap.size + 3,0,none⟩ = some (.int .u64 0):=(hR.cell 0).trans rfl;have rrz0:=hR.frozen 0;have rr1:W2.cell? ⟨w.heap.size + 3,1,none⟩ = some (.int .u64 0):=(hR.cell 1).trans rfl;have rrz1:=hR.frozen 1;skip
  go_wp2_with (first | (go_at_call 18;refine (rempty9_ _).mono ?_;rintro e w3 ⟨rfl,g3⟩;replace hR:=hR.kp g3;have r0:w3.cell? ⟨w.heap.size + 3,0,none⟩ = some (.int .u64 0):=(hR.cell 0).trans rfl;have rz0:=hR.frozen 0;have r1:w3.cell? ⟨w.heap.size + 3,1,none⟩ = some (.int .u64 0):=(hR.cell 1).trans rfl;have rz1:=hR.frozen 1;skip))
  exact bodyPost_ret (v:=.agg #[.int .u64 9218868437227405312,.int .u64 18442240474082181120]) (by simp [results,Try.results7,go_sem,r0,r1]) rfl ⟨rfl,(((Kp.trans kw g3).setCell (by first | omega | (simp <;> omega)) _).setCell (by first | omega | (simp <;> omega)) _)⟩
theorem mrefE2_ (b0 b1 e0 e1 x0 x1:Value) (hOc:∀ W:World,Calls Try.prog 17 #[.agg #[e0,e1]] W fun e w'=>∃ v,e = .returned v∧SV0 false v∧Kp W w') (hOb:∀ W:World,Calls Try.prog 17 #[.agg #[b0,b1]] W fun e w'=>∃ v,e = .returned v∧SV0 true v∧Kp W w') (w:World):Calls Try.prog 7 #[.agg #[b0,b1],.agg #[e0,e1],.agg #[x0,x1]] w fun e w'=>e = .returned (.agg #[.int .u64 9218868437227405312,.int .u64 18442240474082181120])∧Kp w w':=by
  go_enter Try.func7,Try.ntmps7
  go_upto_region 1 with fail
  have kw:Kp w ((((w.alloc (.cells #[b0,b1] 24)).alloc (.cells #[e0,e1] 24)).alloc (.cells #[x0,x1] 24)).alloc (.cells #[.int .u64 0,.int .u64 0] 24)):=((((Kp.refl w).alloc _).alloc _).alloc _).alloc _
  have hB:BK ((((w.alloc (.cells #[b0,b1] 24)).alloc (.cells #[e0,e1] 24)).alloc (.cells #[x0,x1] 24)).alloc (.cells #[.int .u64 0,.int .u64 0] 24)) w.heap.size #[b0,b1] 24:=(((BK.new w #[b0,b1] 24).kp ((Kp.refl _).alloc _)).kp ((Kp.refl _).alloc _)).kp ((Kp.refl _).alloc _)
  have hC:BK ((((w.alloc (.cells #[b0,b1] 24)).alloc (.cells #[e0,e1] 24)).alloc (.cells #[x0,x1] 24)).alloc (.cells #[.int .u64 0,.int .u64 0] 24)) (w.heap.size + 1) #[e0,e1] 24:=((BK.newAt (by simp) _ _).kp ((Kp.refl _).alloc _)).kp ((Kp.refl _).alloc _)
  have hR:BK ((((w.alloc (.cells #[b0,b1] 24)).alloc (.cells #[e0,e1] 24)).alloc (.cells #[x0,x1] 24)).alloc (.cells #[.int .u64 0,.int .u64 0] 24)) (w.heap.size + 3) #[.int .u64 0,.int .u64 0] 24:=BK.newAt (by simp) _ _
  generalize ((((w.alloc (.cells #[b0,b1] 24)).alloc (.cells #[e0,e1] 24)).alloc (.cells #[x0,x1] 24)).alloc (.cells #[.int .u64 0,.int .u64 0] 24)) = W at kw hB hC hR ⊢
  have cc0:W.cell? ⟨w.heap.size + 1,0,none⟩ = some (e0):=(hC.cell 0).trans rfl;have ccz0:=hC.frozen 0;have cc1:W.cell? ⟨w.heap.size + 1,1,none⟩ = some (e1):=(hC.cell 1).trans rfl;have ccz1:=hC.frozen 1;skip
  go_upto_region 2 with (first | (go_at_call 17;refine (hOc _).mono ?_;rintro e w1 ⟨v1,rfl,⟨i1,i2,s,p,l,c,q,k,d,s2,p2,l2,c2,q2,k2,d2,rfl⟩,g1⟩))
  have gs:Kp w1 (w1.alloc (.cells #[.bool false,.int .i64 i1,.bool s,.slice p l c,.slice q k d,.int .i64 i2,.bool s2,.slice p2 l2 c2,.slice q2 k2 d2] 48)):=(Kp.refl _).alloc _
  have hS:BK (w1.alloc (.cells #[.bool false,.int .i64 i1,.bool s,.slice p l c,.slice q k d,.int .i64 i2,.bool s2,.slice p2 l2 c2,.slice q2 k2 d2] 48)) w1.heap.size #[.bool false,.int .i64 i1,.bool s,.slice p l c,.slice q k d,.int .i64 i2,.bool s2,.slice p2 l2 c2,.slice q2 k2 d2] 48:=BK.new _ _ _
  replace hB:=(hB.kp g1).kp gs;replace hR:=(hR.kp g1).kp gs;replace kw:=Kp.trans (Kp.trans kw g1) gs
  generalize (w1.alloc (.cells #[.bool false,.int .i64 i1,.bool s,.slice p l c,.slice q k d,.int .i64 i2,.bool s2,.slice p2 l2 c2,.slice q2 k2 d2] 48)) = W1 at hB hR hS kw ⊢
  generalize w1.heap.size = sb at hS ⊢
  clear gs g1 hC cc0 cc1 ccz0 ccz1
  have cc0:W1.cell? ⟨w.heap.size,0,none⟩ = some (b0):=(hB.cell 0).trans rfl;have ccz0:=hB.frozen 0;have cc1:W1.cell? ⟨w.heap.size,1,none⟩ = some (b1):=(hB.cell 1).trans rfl;have ccz1:=hB.frozen 1;skip
  go_upto_region 3 with (first | (go_at_call 17;refine (hOb _).mono ?_;rintro e w2 ⟨v2,rfl,⟨i5,i6,s5,p5,l5,c5,q5,k5,d5,s6,p6,l6,c6,q6,k6,d6,rfl⟩,g2⟩))
  have gt:Kp w2 (w2.alloc (.cells #[.bool true,.int .i64 i5,.bool s5,.slice p5 l5 c5,.slice q5 k5 d5,.int .i64 i6,.bool s6,.slice p6 l6 c6,.slice q6 k6 d6] 48)):=(Kp.refl _).alloc _
  have hT:BK (w2.alloc (.cells #[.bool true,.int .i64 i5,.bool s5,.slice p5 l5 c5,.slice q5 k5 d5,.int .i64 i6,.bool s6,.slice p6 l6 c6,.slice q6 k6 d6] 48)) w2.heap.size #[.bool true,.int .i64 i5,.bool s5,.slice p5 l5 c5,.slice q5 k5 d5,.int .i64 i6,.bool s6,.slice p6 l6 c6,.slice q6 k6 d6] 48:=BK.new _ _ _
  replace hS:=(hS.kp g2).kp gt;replace hR:=(hR.kp g2).kp gt;replace kw:=Kp.trans (Kp.trans kw g2) gt
  generalize (w2.alloc (.cells #[.bool true,.int .i64 i5,.bool s5,.slice p5 l5 c5,.slice q5 k5 d5,.int .i64 i6,.bool s6,.slice p6 l6 c6,.slice q6 k6 d6] 48)) = W2 at hR hS hT kw ⊢
  generalize w2.heap.size = tb at hT ⊢
  clear gt g2 hB cc0 cc1 ccz0 ccz1
  have ss0:W2.cell? ⟨sb,0,none⟩ = some (.bool false):=(hS.cell 0).trans rfl;have ssz0:=hS.frozen 0;have tt0:W2.cell? ⟨tb,0,none⟩ = some (.bool true):=(hT.cell 0).trans rfl;have ttz0:=hT.frozen 0;have rr0:W2.cell? ⟨w.heap.size + 3,0,none⟩ = some (.int .u64 0):=(hR.cell 0).trans rfl;have rrz0:=hR.frozen 0;have rr1:W2.cell? ⟨w.heap.size + 3,1,none⟩ = some (.int .u64 0):=(hR.cell 1).trans rfl;have rrz1:=hR.frozen 1;skip
  go_wp2_with (first | (go_at_call 18;refine (rempty9_ _).mono ?_;rintro e w3 ⟨rfl,g3⟩;replace hR:=hR.kp g3;have r0:w3.cell? ⟨w.heap.size + 3,0,none⟩ = some (.int .u64 0):=(hR.cell 0).trans rfl;have rz0:=hR.frozen 0;have r1:w3.cell? ⟨w.heap.size + 3,1,none⟩ = some (.int .u64 0):=(hR.cell 1).trans rfl;have rz1:=hR.frozen 1;skip))
  exact bodyPost_ret (v:=.agg #[.int .u64 9218868437227405312,.int .u64 18442240474082181120]) (by simp [results,Try.results7,go_sem,r0,r1]) rfl ⟨rfl,(((Kp.trans kw g3).setCell (by first | omega | (simp <;> omega)) _).setCell (by first | omega | (simp <;> omega)) _)⟩
end Go.Proofs.Ytcepchaakfiojaa
