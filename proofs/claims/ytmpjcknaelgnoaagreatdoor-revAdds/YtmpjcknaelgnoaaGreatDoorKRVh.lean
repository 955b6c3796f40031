import Derived.Test.YtmpjcknaelgnoaaGreatDoorKRVy
import Derived.Test.YtmpjcknaelgnoaaGreatDoorKRWe
set_option maxHeartbeats 8000000
set_option maxRecDepth 20000
namespace Go.Proofs.YtmpjcknaelgnoaaGreatDoor
open Go.RowKit
set_option linter.unusedVariables false
set_option linter.unusedSimpArgs false
theorem cmI_nlt (x y:Int) (h:¬ x<y):¬ (cmI x y<0):=by unfold cmI;rw [if_neg h];split <;> omega
theorem cmI_ngt (x y:Int) (h:¬ y<x):¬ (0<cmI x y):=by unfold cmI;rw [if_neg h];split <;> omega
theorem hullX1_ (W:World) (u v:Value) (h1:SV0 true u) (N2:Bool) (h2:SV0 N2 v):Calls Tryz.prog 100 #[u,v] W fun e w'=>e=.returned v∧Kp W w':=by
 obtain ⟨i,j,s,p,l,c,q,k,d,s2,p2,l2,c2,q2,k2,d2,rfl⟩:=h1
 obtain ⟨i2,j2,s5,p5,l5,c5,q5,k5,d5,s6,p6,l6,c6,q6,k6,d6,rfl⟩:=h2
 exact hullE1_ i j i2 j2 s p l c q k d s2 p2 l2 c2 q2 k2 d2 s5 p5 l5 c5 q5 k5 d5 s6 p6 l6 c6 q6 k6 d6 N2 W
theorem hullX2_ (W:World) (u v:Value) (h1:SV0 false u) (h2:SV0 true v):Calls Tryz.prog 100 #[u,v] W fun e w'=>e=.returned u∧Kp W w':=by
 obtain ⟨i,j,s,p,l,c,q,k,d,s2,p2,l2,c2,q2,k2,d2,rfl⟩:=h1
 obtain ⟨i2,j2,s5,p5,l5,c5,q5,k5,d5,s6,p6,l6,c6,q6,k6,d6,rfl⟩:=h2
 exact hullE2_ i j i2 j2 s p l c q k d s2 p2 l2 c2 q2 k2 d2 s5 p5 l5 c5 q5 k5 d5 s6 p6 l6 c6 q6 k6 d6 W
theorem hullSTT_ (n1 g1 n2 g2:Bool) (m1 r1 m2 r2:Nat) (l1:m1≤9218868437227405312) (l2:r1≤9218868437227405312) (l3:m2≤9218868437227405312) (l4:r2≤9218868437227405312) (c1:Fq.plz n2 m2<Fq.plz n1 m1) (c2:Fq.plz g1 r1<Fq.plz g2 r2) (W:World) (u v:Value) (h1:SV1 n1 m1 g1 r1 W u) (h2:SV1 n2 m2 g2 r2 W v):Calls Tryz.prog 100 #[u,v] W fun e w'=>∃ v',e=.returned v'∧SV1 n2 m2 g2 r2 w' v'∧Kp W w':=by
 obtain ⟨s,p,l,c,q,k,d,s2,p2,l2',c2',q2,k2,d2,rfl,u1,u2⟩:=h1
 obtain ⟨s5,p5,l5,c5,q5,k5,d5,s6,p6,l6,c6,q6,k6,d6,rfl,u3,u4⟩:=h2
 refine (hullTT_ _ _ _ _ s p l c q k d s2 p2 l2' c2' q2 k2 d2 s5 p5 l5 c5 q5 k5 d5 s6 p6 l6 c6 q6 k6 d6 W (fun W' g=>lesserB_ (infS n1 m1) (infS n2 m2) _ s p l c q k d s5 p5 l5 c5 q5 k5 d5 (by rw [cmI_lt _ _ c1];decide) W' (fun W2 y=>cmpE_ 0 0 n2 n1 m2 m1 l3 l1 s5 p5 l5 c5 q5 k5 d5 s p l c q k d W2 ((u3.kp g).kp y) ((u1.kp g).kp y))) (fun W' g=>greaterB_ (infS g1 r1) (infS g2 r2) _ s2 p2 l2' c2' q2 k2 d2 s6 p6 l6 c6 q6 k6 d6 (by rw [cmI_gt _ _ c2];decide) W' (fun W2 y=>cmpE_ 0 0 g2 g1 r2 r1 l4 l2 s6 p6 l6 c6 q6 k6 d6 s2 p2 l2' c2' q2 k2 d2 W2 ((u4.kp g).kp y) ((u2.kp g).kp y)))).mono ?_
 rintro e w' ⟨rfl,g⟩
 exact ⟨_,rfl,⟨s5,p5,l5,c5,q5,k5,d5,s6,p6,l6,c6,q6,k6,d6,rfl,u3.kp g,u4.kp g⟩,g⟩
theorem hullSTS_ (n1 g1 n2 g2:Bool) (m1 r1 m2 r2:Nat) (l1:m1≤9218868437227405312) (l2:r1≤9218868437227405312) (l3:m2≤9218868437227405312) (l4:r2≤9218868437227405312) (c1:Fq.plz n2 m2<Fq.plz n1 m1) (c2:¬ Fq.plz g1 r1<Fq.plz g2 r2) (W:World) (u v:Value) (h1:SV1 n1 m1 g1 r1 W u) (h2:SV1 n2 m2 g2 r2 W v):Calls Tryz.prog 100 #[u,v] W fun e w'=>∃ v',e=.returned v'∧SV1 n2 m2 g1 r1 w' v'∧Kp W w':=by
 obtain ⟨s,p,l,c,q,k,d,s2,p2,l2',c2',q2,k2,d2,rfl,u1,u2⟩:=h1
 obtain ⟨s5,p5,l5,c5,q5,k5,d5,s6,p6,l6,c6,q6,k6,d6,rfl,u3,u4⟩:=h2
 refine (hullTS_ _ _ _ _ s p l c q k d s2 p2 l2' c2' q2 k2 d2 s5 p5 l5 c5 q5 k5 d5 s6 p6 l6 c6 q6 k6 d6 W (fun W' g=>lesserB_ (infS n1 m1) (infS n2 m2) _ s p l c q k d s5 p5 l5 c5 q5 k5 d5 (by rw [cmI_lt _ _ c1];decide) W' (fun W2 y=>cmpE_ 0 0 n2 n1 m2 m1 l3 l1 s5 p5 l5 c5 q5 k5 d5 s p l c q k d W2 ((u3.kp g).kp y) ((u1.kp g).kp y))) (fun W' g=>greaterA_ (infS g1 r1) (infS g2 r2) _ s2 p2 l2' c2' q2 k2 d2 s6 p6 l6 c6 q6 k6 d6 (cmI_ngt _ _ c2) W' (fun W2 y=>cmpE_ 0 0 g2 g1 r2 r1 l4 l2 s6 p6 l6 c6 q6 k6 d6 s2 p2 l2' c2' q2 k2 d2 W2 ((u4.kp g).kp y) ((u2.kp g).kp y)))).mono ?_
 rintro e w' ⟨rfl,g⟩
 exact ⟨_,rfl,⟨s5,p5,l5,c5,q5,k5,d5,s2,p2,l2',c2',q2,k2,d2,rfl,u3.kp g,u2.kp g⟩,g⟩
theorem hullSST_ (n1 g1 n2 g2:Bool) (m1 r1 m2 r2:Nat) (l1:m1≤9218868437227405312) (l2:r1≤9218868437227405312) (l3:m2≤9218868437227405312) (l4:r2≤9218868437227405312) (c1:¬ Fq.plz n2 m2<Fq.plz n1 m1) (c2:Fq.plz g1 r1<Fq.plz g2 r2) (W:World) (u v:Value) (h1:SV1 n1 m1 g1 r1 W u) (h2:SV1 n2 m2 g2 r2 W v):Calls Tryz.prog 100 #[u,v] W fun e w'=>∃ v',e=.returned v'∧SV1 n1 m1 g2 r2 w' v'∧Kp W w':=by
 obtain ⟨s,p,l,c,q,k,d,s2,p2,l2',c2',q2,k2,d2,rfl,u1,u2⟩:=h1
 obtain ⟨s5,p5,l5,c5,q5,k5,d5,s6,p6,l6,c6,q6,k6,d6,rfl,u3,u4⟩:=h2
 refine (hullST_ _ _ _ _ s p l c q k d s2 p2 l2' c2' q2 k2 d2 s5 p5 l5 c5 q5 k5 d5 s6 p6 l6 c6 q6 k6 d6 W (fun W' g=>lesserA_ (infS n1 m1) (infS n2 m2) _ s p l c q k d s5 p5 l5 c5 q5 k5 d5 (cmI_nlt _ _ c1) W' (fun W2 y=>cmpE_ 0 0 n2 n1 m2 m1 l3 l1 s5 p5 l5 c5 q5 k5 d5 s p l c q k d W2 ((u3.kp g).kp y) ((u1.kp g).kp y))) (fun W' g=>greaterB_ (infS g1 r1) (infS g2 r2) _ s2 p2 l2' c2' q2 k2 d2 s6 p6 l6 c6 q6 k6 d6 (by rw [cmI_gt _ _ c2];decide) W' (fun W2 y=>cmpE_ 0 0 g2 g1 r2 r1 l4 l2 s6 p6 l6 c6 q6 k6 d6 s2 p2 l2' c2' q2 k2 d2 W2 ((u4.kp g).kp y) ((u2.kp g).kp y)))).mono ?_
 rintro e w' ⟨rfl,g⟩
 exact ⟨_,rfl,⟨s,p,l,c,q,k,d,s6,p6,l6,c6,q6,k6,d6,rfl,u1.kp g,u4.kp g⟩,g⟩
theorem hullSSS_ (n1 g1 n2 g2:Bool) (m1 r1 m2 r2:Nat) (l1:m1≤9218868437227405312) (l2:r1≤9218868437227405312) (l3:m2≤9218868437227405312) (l4:r2≤9218868437227405312) (c1:¬ Fq.plz n2 m2<Fq.plz n1 m1) (c2:¬ Fq.plz g1 r1<Fq.plz g2 r2) (W:World) (u v:Value) (h1:SV1 n1 m1 g1 r1 W u) (h2:SV1 n2 m2 g2 r2 W v):Calls Tryz.prog 100 #[u,v] W fun e w'=>∃ v',e=.returned v'∧SV1 n1 m1 g1 r1 w' v'∧Kp W w':=by
 obtain ⟨s,p,l,c,q,k,d,s2,p2,l2',c2',q2,k2,d2,rfl,u1,u2⟩:=h1
 obtain ⟨s5,p5,l5,c5,q5,k5,d5,s6,p6,l6,c6,q6,k6,d6,rfl,u3,u4⟩:=h2
 refine (hullSS_ _ _ _ _ s p l c q k d s2 p2 l2' c2' q2 k2 d2 s5 p5 l5 c5 q5 k5 d5 s6 p6 l6 c6 q6 k6 d6 W (fun W' g=>lesserA_ (infS n1 m1) (infS n2 m2) _ s p l c q k d s5 p5 l5 c5 q5 k5 d5 (cmI_nlt _ _ c1) W' (fun W2 y=>cmpE_ 0 0 n2 n1 m2 m1 l3 l1 s5 p5 l5 c5 q5 k5 d5 s p l c q k d W2 ((u3.kp g).kp y) ((u1.kp g).kp y))) (fun W' g=>greaterA_ (infS g1 r1) (infS g2 r2) _ s2 p2 l2' c2' q2 k2 d2 s6 p6 l6 c6 q6 k6 d6 (cmI_ngt _ _ c2) W' (fun W2 y=>cmpE_ 0 0 g2 g1 r2 r1 l4 l2 s6 p6 l6 c6 q6 k6 d6 s2 p2 l2' c2' q2 k2 d2 W2 ((u4.kp g).kp y) ((u2.kp g).kp y)))).mono ?_
 rintro e w' ⟨rfl,g⟩
 exact ⟨_,rfl,⟨s,p,l,c,q,k,d,s2,p2,l2',c2',q2,k2,d2,rfl,u1.kp g,u2.kp g⟩,g⟩

theorem lv9_ (L H:Int) (d:VdZ L H) (hL:L≠9218868437227405312) (W:World) (v:Value) (h:SV1 (decide (L<0)) L.natAbs (decide (H<0)) H.natAbs W v):Calls Tryz.prog 99 #[v] W fun e w'=>e=.returned (.agg #[.int .u64 (pI L),.int .u64 (pI H)])∧Kp W w':=by
 have dd:=d
 unfold VdZ at dd
 have g:=(leastV_ (decide (L<0)) (decide (H<0)) L.natAbs H.natAbs (abs_pw L d.lo) (abs_pw H d.hi) (fun h=>decide_eq_true (by omega)) (fun h=>decide_eq_false (by omega)) W v h)
 have e1:=pla_pw L d.lo
 have e2:=pla_pw H d.hi
 rw [show Fq.pla (Fq.wD (decide (L<0)) L.natAbs)=pw L from e1,show Fq.pla (Fq.wD (decide (H<0)) H.natAbs)=pw H from e2] at g
 exact g
theorem of9s_ (a b:Nat) (L H:Int) (r:Rd a b L H) (hL:L≠9218868437227405312) (W:World):Calls Tryz.prog 47 #[.agg #[.int .u64 ((a:Nat):Int),.int .u64 ((b:Nat):Int)]] W fun e w'=>∃ v,e=.returned v∧SV1 (decide (L<0)) L.natAbs (decide (H<0)) H.natAbs w' v∧Kp W w':=by
 have hs:Fq.snd a b=true:=by
  rcases hs:Fq.snd a b with _ | _
  ·exfalso
   have e:=r.2.2.2.1
   have:Fq.rlo a b=9218868437227405312:=by simp [Fq.rlo,hs]
   rw [this] at e
   have i:=pw_inj L 9218868437227405312 r.vd.lo (by unfold BdZ;omega)
   rw [pw_I] at i
   exact hL (i.1 e.symm)
  ·rfl
 exact ofSound_ a b r.1 r.2.1 hs _ _ _ _ (abs_pw L r.vd.lo) (abs_pw H r.vd.hi) r.2.2.2.1 r.2.2.2.2 W
theorem of9e_ (a b:Nat) (L H:Int) (r:Rd a b L H) (hL:L=9218868437227405312) (W:World):Calls Tryz.prog 47 #[.agg #[.int .u64 ((a:Nat):Int),.int .u64 ((b:Nat):Int)]] W fun e w'=>∃ v,e=.returned v∧SV0 true v∧Kp W w':=by
 have hs:Fq.snd a b=false:=by
  rcases hs:Fq.snd a b with _ | _
  ·rfl
  ·exfalso
   have e:=r.2.2.2.1
   have h2:a≠9218868437227405312:=by intro h;rw [h] at hs;simp [Fq.snd] at hs
   have:Fq.rlo a b≠9218868437227405312:=by simp only [Fq.rlo,hs,if_true,Fq.pla];split <;> omega
   rw [e,hL,pw_I] at this
   exact this rfl
 exact ofEmpty_ a b r.1 r.2.1 hs W
theorem hullS_ (L1 H1 L2 H2:Int) (d1:VdZ L1 H1) (d2:VdZ L2 H2):HullS L1 H1 L2 H2:=by
 have D1:=d1
 have D2:=d2
 unfold VdZ at D1 D2
 have r1:=Rd.of d1
 have r2:=Rd.of d2
 unfold HullS
 by_cases c1:L1=9218868437227405312
 ·by_cases c2:L2=9218868437227405312
  ·rw [show min L1 L2=9218868437227405312 from by omega,show max H1 H2 = -9218868437227405312 from by omega,pI_I9,pI_M9]
   exact ⟨(fun _ v=>SV0 true v),(fun _ v=>SV0 true v),(fun _ v=>SV0 true v),fun W W' v g h=>h,fun W=>of9e_ _ _ L1 H1 r1 c1 W,fun W=>of9e_ _ _ L2 H2 r2 c2 W,fun W u v h1 h2=>(hullX1_ W u v h1 true h2).mono (fun e w' h=>⟨v,h.1,h2,h.2⟩),fun W v h=>leastN_ W v h⟩
  ·rw [show min L1 L2=L2 from by omega,show max H1 H2=H2 from by omega]
   exact ⟨(fun _ v=>SV0 true v),SV1 (decide (L2<0)) L2.natAbs (decide (H2<0)) H2.natAbs,SV1 (decide (L2<0)) L2.natAbs (decide (H2<0)) H2.natAbs,fun W W' v g h=>h,fun W=>of9e_ _ _ L1 H1 r1 c1 W,fun W=>of9s_ _ _ L2 H2 r2 c2 W,fun W u v h1 h2=>(hullX1_ W u v h1 false h2.sv0).mono (fun e w' h=>⟨v,h.1,h2.kp h.2,h.2⟩),fun W v h=>lv9_ L2 H2 d2 c2 W v h⟩
 ·by_cases c2:L2=9218868437227405312
  ·rw [show min L1 L2=L1 from by omega,show max H1 H2=H1 from by omega]
   exact ⟨SV1 (decide (L1<0)) L1.natAbs (decide (H1<0)) H1.natAbs,(fun _ v=>SV0 true v),SV1 (decide (L1<0)) L1.natAbs (decide (H1<0)) H1.natAbs,fun W W' v g h=>h.kp g,fun W=>of9s_ _ _ L1 H1 r1 c1 W,fun W=>of9e_ _ _ L2 H2 r2 c2 W,fun W u v h1 h2=>(hullX2_ W u v h1.sv0 h2).mono (fun e w' h=>⟨u,h.1,h1.kp h.2,h.2⟩),fun W v h=>lv9_ L1 H1 d1 c1 W v h⟩
  ·have dh:=vd_hull L1 H1 L2 H2 d1 d2
   by_cases k00:(L2<L1)∧(H1<H2)
   ·rw [show min L1 L2=L2 from by omega,show max H1 H2=H2 from by omega] at dh ⊢
    exact ⟨SV1 (decide (L1<0)) L1.natAbs (decide (H1<0)) H1.natAbs,SV1 (decide (L2<0)) L2.natAbs (decide (H2<0)) H2.natAbs,SV1 (decide (L2<0)) L2.natAbs (decide (H2<0)) H2.natAbs,fun W W' v g h=>h.kp g,fun W=>of9s_ _ _ L1 H1 r1 c1 W,fun W=>of9s_ _ _ L2 H2 r2 c2 W,fun W u v h1 h2=>hullSTT_ _ _ _ _ _ _ _ _ (abs_pw _ d1.lo) (abs_pw _ d1.hi) (abs_pw _ d2.lo) (abs_pw _ d2.hi) (by rw [plz_pw,plz_pw];exact k00.1) (by rw [plz_pw,plz_pw];exact k00.2) W u v h1 h2,fun W v h=>lv9_ L2 H2 dh (by omega) W v h⟩
   by_cases k01:(L2<L1)∧(¬ H1<H2)
   ·rw [show min L1 L2=L2 from by omega,show max H1 H2=H1 from by omega] at dh ⊢
    exact ⟨SV1 (decide (L1<0)) L1.natAbs (decide (H1<0)) H1.natAbs,SV1 (decide (L2<0)) L2.natAbs (decide (H2<0)) H2.natAbs,SV1 (decide (L2<0)) L2.natAbs (decide (H1<0)) H1.natAbs,fun W W' v g h=>h.kp g,fun W=>of9s_ _ _ L1 H1 r1 c1 W,fun W=>of9s_ _ _ L2 H2 r2 c2 W,fun W u v h1 h2=>hullSTS_ _ _ _ _ _ _ _ _ (abs_pw _ d1.lo) (abs_pw _ d1.hi) (abs_pw _ d2.lo) (abs_pw _ d2.hi) (by rw [plz_pw,plz_pw];exact k01.1) (by rw [plz_pw,plz_pw];exact k01.2) W u v h1 h2,fun W v h=>lv9_ L2 H1 dh (by omega) W v h⟩
   by_cases k10:(¬ L2<L1)∧(H1<H2)
   ·rw [show min L1 L2=L1 from by omega,show max H1 H2=H2 from by omega] at dh ⊢
    exact ⟨SV1 (decide (L1<0)) L1.natAbs (decide (H1<0)) H1.natAbs,SV1 (decide (L2<0)) L2.natAbs (decide (H2<0)) H2.natAbs,SV1 (decide (L1<0)) L1.natAbs (decide (H2<0)) H2.natAbs,fun W W' v g h=>h.kp g,fun W=>of9s_ _ _ L1 H1 r1 c1 W,fun W=>of9s_ _ _ L2 H2 r2 c2 W,fun W u v h1 h2=>hullSST_ _ _ _ _ _ _ _ _ (abs_pw _ d1.lo) (abs_pw _ d1.hi) (abs_pw _ d2.lo) (abs_pw _ d2.hi) (by rw [plz_pw,plz_pw];exact k10.1) (by rw [plz_pw,plz_pw];exact k10.2) W u v h1 h2,fun W v h=>lv9_ L1 H2 dh (by omega) W v h⟩
   by_cases k11:(¬ L2<L1)∧(¬ H1<H2)
   ·rw [show min L1 L2=L1 from by omega,show max H1 H2=H1 from by omega] at dh ⊢
    exact ⟨SV1 (decide (L1<0)) L1.natAbs (decide (H1<0)) H1.natAbs,SV1 (decide (L2<0)) L2.natAbs (decide (H2<0)) H2.natAbs,SV1 (decide (L1<0)) L1.natAbs (decide (H1<0)) H1.natAbs,fun W W' v g h=>h.kp g,fun W=>of9s_ _ _ L1 H1 r1 c1 W,fun W=>of9s_ _ _ L2 H2 r2 c2 W,fun W u v h1 h2=>hullSSS_ _ _ _ _ _ _ _ _ (abs_pw _ d1.lo) (abs_pw _ d1.hi) (abs_pw _ d2.lo) (abs_pw _ d2.hi) (by rw [plz_pw,plz_pw];exact k11.1) (by rw [plz_pw,plz_pw];exact k11.2) W u v h1 h2,fun W v h=>lv9_ L1 H1 dh (by omega) W v h⟩
   exfalso;omega
set_option linter.unusedVariables false
set_option linter.unusedSimpArgs false

theorem SV1.sg {n n' a b:Bool} {m m':Nat} {W:World} {v:Value} (h:SV1 n m n' m' W v) (h1:n=a∨m=0) (h2:n'=b∨m'=0):SV1 a m b m' W v:=by
 have key:∀ (x y:Bool) (k:Nat),(x=y∨k=0)→infS x k=infS y k∧∀ (W:World) s7 p7 l7 c7 q7 k7 d7,RP 0 W s7 p7 l7 c7 q7 k7 d7 (fN x k) (fM k)→RP 0 W s7 p7 l7 c7 q7 k7 d7 (fN y k) (fM k):=by
  intro x y k hk
  rcases hk with rfl | rfl
  ·exact ⟨rfl,fun _ _ _ _ _ _ _ _ h=>h⟩
  ·refine ⟨rfl,fun W s7 p7 l7 c7 q7 k7 d7 h=>?_⟩
   have e:fM 0=0:=rfl
   rw [e] at h ⊢
   exact h.zero _
 obtain ⟨s,p,l,c,q,k,d,s2,p2,l2,c2,q2,k2,d2,rfl,x1,x2⟩:=h
 have ky1:=key n a m h1
 have ky2:=key n' b m' h2
 refine ⟨s,p,l,c,q,k,d,s2,p2,l2,c2,q2,k2,d2,by rw [ky1.1,ky2.1],ky1.2 W _ _ _ _ _ _ _ x1,ky2.2 W _ _ _ _ _ _ _ x2⟩
def ST9 (L H:Int) (W:World) (v:Value):Prop:=(L=9218868437227405312∧SV0 true v)∨(L≠9218868437227405312∧SV1 (decide (L<0)) (L).natAbs (decide (H<0)) (H).natAbs W v)
theorem ST9.kp {L H:Int} {W W':World} {v:Value} (g:Kp W W') (h:ST9 L H W v):ST9 L H W' v:=by
 rcases h with h | h
 ·exact Or.inl h
 ·exact Or.inr ⟨h.1,h.2.kp g⟩
theorem st_of (a b:Nat) (L H:Int) (r:Rd a b L H) (W:World):Calls Tryz.prog 47 #[.agg #[.int .u64 ((a:Nat):Int),.int .u64 ((b:Nat):Int)]] W fun e w'=>∃ v,e=.returned v∧ST9 L H w' v∧Kp W w':=by
 by_cases c:L=9218868437227405312
 ·exact (of9e_ a b L H r c W).mono (fun e w' ⟨v,h1,h2,h3⟩=>⟨v,h1,Or.inl ⟨c,h2⟩,h3⟩)
 ·exact (of9s_ a b L H r c W).mono (fun e w' ⟨v,h1,h2,h3⟩=>⟨v,h1,Or.inr ⟨c,h2⟩,h3⟩)
theorem st_minus (L H:Int) (d:VdZ L H) (W:World) (v:Value) (h:ST9 L H W v):Calls Tryz.prog 48 #[v] W fun e w'=>∃ v',e=.returned v'∧ST9 (-H) (-L) w' v'∧Kp W w':=by
 unfold VdZ at d
 rcases h with ⟨c,h⟩ | ⟨c,h⟩
 ·exact (minusX_ W v h).mono (fun e w' ⟨v',h1,h2,h3⟩=>⟨v',h1,Or.inl ⟨by omega,h2⟩,h3⟩)
 ·refine (minusS_ _ _ _ _ W v h).mono ?_
  rintro e w' ⟨v',rfl,h2,h3⟩
  have sg:∀ z:Int,(!(decide (z<0)))=decide (-z<0)∨z.natAbs=0:=by
   intro z
   rcases Int.lt_trichotomy z 0 with q | q | q
   ·left;rw [decide_eq_true q,decide_eq_false (by omega)];rfl
   ·right;omega
   ·left;rw [decide_eq_false (show ¬ z<0 by omega),decide_eq_true (by omega)];rfl
  have h4:=h2.sg (sg H) (sg L)
  refine ⟨v',rfl,Or.inr ⟨by omega, ?_⟩,h3⟩
  rw [Int.natAbs_neg,Int.natAbs_neg]
  exact h4
def SS9 (L1 H1 L2 H2:Int) (W:World) (v:Value):Prop:=((L1=9218868437227405312∨L2=9218868437227405312)∧SV0 true v)∨(¬ (L1=9218868437227405312∨L2=9218868437227405312)∧∃ (s7:Bool) (p7:Option Addr) (l7 c7:Nat) (q7:Option Addr) (k7 d7:Nat) (s8:Bool) (p8:Option Addr) (l8 c8:Nat) (q8:Option Addr) (k8 d8:Nat),v=.agg #[.bool false,.int .i64 (bI L1 L2),.bool s7,.slice p7 l7 c7,.slice q7 k7 d7,.int .i64 (bI H1 H2),.bool s8,.slice p8 l8 c8,.slice q8 k8 d8]∧VP 0 W s7 p7 l7 c7 q7 k7 d7 (bV L1 L2)∧VP 0 W s8 p8 l8 c8 q8 k8 d8 (bV H1 H2))
theorem ss_plus (L1 H1 L2 H2:Int) (W:World) (x y:Value) (h1:ST9 L1 H1 W x) (h2:ST9 L2 H2 W y):Calls Tryz.prog 46 #[x,y] W fun e w'=>∃ v',e=.returned v'∧SS9 L1 H1 L2 H2 w' v'∧Kp W w':=by
 rcases h1 with ⟨cz1,h1⟩ | ⟨cz1,h1⟩
 ·have hy:∃ N2,SV0 N2 y:=by
   rcases h2 with ⟨_,h2⟩ | ⟨_,h2⟩
   ·exact ⟨_,h2⟩
   ·exact ⟨_,h2.sv0⟩
  obtain ⟨N2,i2,j2,s3,p3,l3,c3,q3,k3,d3,s4,p4,l4,c4,q4,k4,d4,rfl⟩:=hy
  obtain ⟨i,j,s,p,l,c,q,k,d,s2,p2,l2,c2,q2,k2,d2,rfl⟩:=h1
  refine (plusE1_ i j i2 j2 N2 s p l c q k d s2 p2 l2 c2 q2 k2 d2 s3 p3 l3 c3 q3 k3 d3 s4 p4 l4 c4 q4 k4 d4 W).mono ?_
  rintro e w' ⟨s5,p5,l5,c5,q5,k5,d5,s6,p6,l6,c6,q6,k6,d6,rfl,g⟩
  exact ⟨_,rfl,Or.inl ⟨Or.inl cz1,_,_,s5,p5,l5,c5,q5,k5,d5,s6,p6,l6,c6,q6,k6,d6,rfl⟩,g⟩
 ·rcases h2 with ⟨cz2,h2⟩ | ⟨cz2,h2⟩
  ·obtain ⟨i,j,s,p,l,c,q,k,d,s2,p2,l2,c2,q2,k2,d2,rfl⟩:=h1.sv0
   obtain ⟨i2,j2,s3,p3,l3,c3,q3,k3,d3,s4,p4,l4,c4,q4,k4,d4,rfl⟩:=h2
   refine (plusE2_ i j i2 j2 s p l c q k d s2 p2 l2 c2 q2 k2 d2 s3 p3 l3 c3 q3 k3 d3 s4 p4 l4 c4 q4 k4 d4 W).mono ?_
   rintro e w' ⟨s5,p5,l5,c5,q5,k5,d5,s6,p6,l6,c6,q6,k6,d6,rfl,g⟩
   exact ⟨_,rfl,Or.inl ⟨Or.inr cz2,_,_,s5,p5,l5,c5,q5,k5,d5,s6,p6,l6,c6,q6,k6,d6,rfl⟩,g⟩
  ·obtain ⟨s,p,l,c,q,k,d,s2,p2,l2,c2,q2,k2,d2,rfl,x1,x2⟩:=h1
   obtain ⟨s5,p5,l5,c5,q5,k5,d5,s6,p6,l6,c6,q6,k6,d6,rfl,x5,x6⟩:=h2
   refine (plusV9_ _ _ _ _ _ _ _ _ _ _ _ _ s p l c q k d s2 p2 l2 c2 q2 k2 d2 s5 p5 l5 c5 q5 k5 d5 s6 p6 l6 c6 q6 k6 d6 W x1 x2 x5 x6).mono ?_
   rintro e w' ⟨s7,p7,l7,c7,q7,k7,d7,s8,p8,l8,c8,q8,k8,d8,rfl,y1,y2,g⟩
   exact ⟨_,rfl,Or.inr ⟨by omega,s7,p7,l7,c7,q7,k7,d7,s8,p8,l8,c8,q8,k8,d8,rfl,y1,y2⟩,g⟩
def PG9 (em:Prop) (iA VA iB VB:Int) (W:World) (v:Value):Prop:=(em∧∃ (n9 oa ob:Bool) (ia ib:Int) (s7:Bool) (p7:Option Addr) (l7 c7:Nat) (q7:Option Addr) (k7 d7:Nat) (s8:Bool) (p8:Option Addr) (l8 c8:Nat) (q8:Option Addr) (k8 d8:Nat),v=.agg #[.bool true,.int .i64 ia,.bool s7,.slice p7 l7 c7,.slice q7 k7 d7,.int .i64 1,.bool oa,.int .i64 ib,.bool s8,.slice p8 l8 c8,.slice q8 k8 d8,.int .i64 1,.bool ob])∨(¬ em∧PCv iA VA (decide (iA≠0)) iB VB (decide (iB≠0)) W v)
theorem PG9.kp {em:Prop} {iA VA iB VB:Int} {W W':World} {v:Value} (g:Kp W W') (h:PG9 em iA VA iB VB W v):PG9 em iA VA iB VB W' v:=by
 rcases h with h | h
 ·exact Or.inl h
 ·exact Or.inr ⟨h.1,h.2.kp g⟩
theorem pg_ss (L1 H1 L2 H2:Int) (d1:VdZ L1 H1) (d2:VdZ L2 H2) (W:World) (v:Value) (h:SS9 L1 H1 L2 H2 W v):Calls Tryz.prog 45 #[v] W fun e w'=>∃ (n9 oa ob:Bool) (ia ib:Int) (s7:Bool) (p7:Option Addr) (l7 c7:Nat) (q7:Option Addr) (k7 d7:Nat) (s8:Bool) (p8:Option Addr) (l8 c8:Nat) (q8:Option Addr) (k8 d8:Nat),e=.returned (.agg #[.bool n9,.int .i64 ia,.bool s7,.slice p7 l7 c7,.slice q7 k7 d7,.int .i64 1,.bool oa,.int .i64 ib,.bool s8,.slice p8 l8 c8,.slice q8 k8 d8,.int .i64 1,.bool ob])∧PG9 (L1=9218868437227405312∨L2=9218868437227405312) (bI L1 L2) (bV L1 L2) (bI H1 H2) (bV H1 H2) w' (.agg #[.bool n9,.int .i64 ia,.bool s7,.slice p7 l7 c7,.slice q7 k7 d7,.int .i64 1,.bool oa,.int .i64 ib,.bool s8,.slice p8 l8 c8,.slice q8 k8 d8,.int .i64 1,.bool ob])∧Kp W w':=by
 rcases h with ⟨cz,i,j,s,p,l,c,q,k,d,s2,p2,l2,c2,q2,k2,d2,rfl⟩ | ⟨cz,s7,p7,l7,c7,q7,k7,d7,s8,p8,l8,c8,q8,k8,d8,rfl,h1,h2⟩
 ·refine (pieceN9_ _ _ _ _ _ _ _ _ W).mono ?_
  rintro e w' ⟨s5,p5,l5,c5,q5,k5,d5,s6,p6,l6,c6,q6,k6,d6,rfl,g⟩
  exact ⟨true,false,false,0,0,s5,p5,l5,c5,q5,k5,d5,s6,p6,l6,c6,q6,k6,d6,rfl,Or.inl ⟨cz,true,false,false,0,0,s5,p5,l5,c5,q5,k5,d5,s6,p6,l6,c6,q6,k6,d6,rfl⟩,g⟩
 ·unfold VdZ at d1 d2
  have ky1:=b_lo L1 L2 (by omega) (by omega)
  have ky2:=b_hi H1 H2 (by omega) (by omega)
  refine (piece9_ (bI L1 L2) (bV L1 L2) (bI H1 H2) (bV H1 H2) ky1.2.2 ky2.2.2 s7 p7 l7 c7 q7 k7 d7 s8 p8 l8 c8 q8 k8 d8 W h1 h2).mono ?_
  rintro e w' ⟨v,rfl,hp,g⟩
  have hq:=hp
  obtain ⟨s5,p5,l5,c5,q5,k5,d5,s6,p6,l6,c6,q6,k6,d6,rfl,y1,y2⟩:=hp
  exact ⟨false,_,_,_,_,s5,p5,l5,c5,q5,k5,d5,s6,p6,l6,c6,q6,k6,d6,rfl,Or.inr ⟨cz,hq⟩,g⟩
theorem rwi9_ (L H iA VA iB VB:Int) (hx:VdZ L H) (nx:L≠9218868437227405312) (hB:BOk iA VA iB VB) (za:iA=0∨VA=0) (zb:iB=0∨VB=0) (w:World) (v:Value) (h:PCv iA VA (decide (iA≠0)) iB VB (decide (iB≠0)) w v):Calls Tryz.prog 92 #[.agg #[.int .u64 (pI L),.int .u64 (pI H)],v] w fun e w'=>e=.returned (.agg #[.int .u64 (pI (wiL L H iA VA iB VB)),.int .u64 (pI (wiH L H iA VA iB VB))])∧Kp w w':=by
 obtain ⟨s,p,l,c,q,k,d,s2,p2,l2,c2,q2,k2,d2,rfl,h1,h2⟩:=h
 have hXL:=hx.lo
 have hXH:=hx.hi
 have DX:=hx
 unfold VdZ at DX
 have t0:(pI L == 9218868437227405312)=false:=by
  have:=pI_inj L 9218868437227405312 hXL (by unfold BdZ;omega)
  rw [pI_I9] at this
  simpa using fun g=>nx (this.1 g)
 have oA:iA=0∨((iA=1∨iA = -1)∧VA=0):=by rcases hB.1 with q | q <;> omega
 have oB:iB=0∨((iB=1∨iB = -1)∧VB=0):=by rcases hB.2.1 with q | q <;> omega
 have kk1:=fun (W:World) (g:Kp w W)=>against9_ L iB VB hXL oB (decide (iB≠0)) s2 p2 l2 c2 q2 k2 d2 W (h2.kp g)
 have kk2:=fun (W:World) (g:Kp w W)=>against9_ H iA VA hXH oA (decide (iA≠0)) s p l c q k d W (h1.kp g)
 have kk3:=fun (W:World) (g:Kp w W)=>against9_ L iA VA hXL oA (decide (iA≠0)) s p l c q k d W (h1.kp g)
 have kk4:=fun (W:World) (g:Kp w W)=>against9_ H iB VB hXH oB (decide (iB≠0)) s2 p2 l2 c2 q2 k2 d2 W (h2.kp g)
 by_cases c0:wiB L H iA VA iB VB
 ·unfold wiL wiH
  rw [if_pos c0,if_pos c0,pI_I9,pI_M9]
  refine withX_ (pI L) (pI H) _ _ iA iB _ _ s p l c q k d s2 p2 l2 c2 q2 k2 d2 rempty9_ w t0 kk1 kk2 ?_
  unfold wiB at c0
  by_cases q1:0<cB L iB VB
  ·exact Or.inl q1
  ·by_cases q2:iB=0
   ·exact Or.inr (Or.inr ⟨by rcases (by omega:cB L iB VB<0∨cB L iB VB=0) with q | q;exact Or.inl q;exact Or.inr ⟨q,decide_eq_false (by omega)⟩,Or.inl (by omega)⟩)
   ·by_cases q3:cB L iB VB=0
    ·exact Or.inr (Or.inl ⟨q3,decide_eq_true q2⟩)
    ·exact Or.inr (Or.inr ⟨Or.inl (by omega),Or.inl (by omega)⟩)
 ·have hxx:-9218868437227405312≤L∧L<9218868437227405312∧-9218868437227405312<H∧H≤9218868437227405312∧L≤H:=by omega
  unfold wiL wiH
  rw [if_neg c0,if_neg c0]
  unfold wiB at c0
  refine withK_ (pI L) (pI H) _ _ _ _ ((sumW (-1) VA:Nat):Int) ((sumW 1 VB:Nat):Int) _ _ iA iB _ _ s p l c q k d s2 p2 l2 c2 q2 k2 d2 rempty9_ w t0 kk1 kk2 kk3 kk4 (fun g W y=>?_) (fun g W y=>?_) ?_ ?_ ?_ ?_
  ·have e:iA=0:=by
    rcases hB.1 with q | q
    ·exact q
    ·exfalso;rw [q] at g;unfold cB at g;rw [if_neg (by decide)] at g
     have:=(cm_ge L (-1*9218868437227405312)).2 (by omega);omega
   rw [e]
   exact rnd9_ VA (-1) _ s p l c q k d W (h1.kp y)
  ·have e:iB=0:=by
    rcases hB.2.1 with q | q
    ·exact q
    ·exfalso;rw [q] at g;unfold cB at g;rw [if_neg (by decide)] at g
     have:=(cm_le H (1*9218868437227405312)).2 (by omega);omega
   rw [e]
   exact rnd9_ VB 1 _ s2 p2 l2 c2 q2 k2 d2 W (h2.kp y)
  ·rcases (by omega:cB L iB VB<0∨cB L iB VB=0) with q | q
   ·exact Or.inl q
   ·refine Or.inr ⟨q,decide_eq_false (fun ne=>?_)⟩
    rcases hB.2.1 with r | r
    ·exact ne r
    ·rw [r] at q;unfold cB at q;rw [if_neg (by decide),cmI_lt _ _ (by omega)] at q;omega
  ·rcases (by omega:0<cB H iA VA∨cB H iA VA=0) with q | q
   ·exact Or.inl q
   ·refine Or.inr ⟨q,decide_eq_false (fun ne=>?_)⟩
    rcases hB.1 with r | r
    ·exact ne r
    ·rw [r] at q;unfold cB at q;rw [if_neg (by decide),cmI_gt _ _ (by omega)] at q;omega
  ·by_cases q:cB L iA VA<0
   ·refine Or.inl ⟨q, ?_⟩
    have e:iA=0:=by
     rcases hB.1 with r | r
     ·exact r
     ·exfalso;rw [r] at q;unfold cB at q;rw [if_neg (by decide)] at q
      have:=(cm_ge L (-1*9218868437227405312)).2 (by omega);omega
    have hle:=(lw_iff iA VA L hB.1 (by omega)).2 (by omega)
    rw [show max L (lwB iA VA)=lwB iA VA by omega,e,sumW_g]
    unfold lwB
    rw [if_pos rfl];rfl
   ·have hle:=lw_at iA VA L hB.1 (by omega) (by omega)
    exact Or.inr ⟨by omega,by rw [show max L (lwB iA VA)=L by omega]⟩
  ·by_cases q:0<cB H iB VB
   ·refine Or.inl ⟨q, ?_⟩
    have e:iB=0:=by
     rcases hB.2.1 with r | r
     ·exact r
     ·exfalso;rw [r] at q;unfold cB at q;rw [if_neg (by decide)] at q
      have:=(cm_le H (1*9218868437227405312)).2 (by omega);omega
    have hle:=(up_iff iB VB H hB.2.1 (by omega)).2 (by omega)
    rw [show min H (upB iB VB)=upB iB VB by omega,e,sumW_g]
    unfold upB
    rw [if_pos rfl];rfl
   ·have hle:=up_at iB VB H hB.2.1 (by omega) (by omega)
    exact Or.inr ⟨by omega,by rw [show min H (upB iB VB)=H by omega]⟩
theorem rpg9_ (em:Prop) (L H iA VA iB VB:Int) (hx:VdZ L H) (hB:¬ em→BOk iA VA iB VB∧(iA=0∨VA=0)∧(iB=0∨VB=0)) (R1 R2:Int) (e1:(em∨L=9218868437227405312)→R1=9218868437227405312∧R2 = -9218868437227405312) (e2:¬ (em∨L=9218868437227405312)→R1=wiL L H iA VA iB VB∧R2=wiH L H iA VA iB VB) (w:World) (v:Value) (h:PG9 em iA VA iB VB w v):Calls Tryz.prog 92 #[.agg #[.int .u64 (pI L),.int .u64 (pI H)],v] w fun e w'=>e=.returned (.agg #[.int .u64 (pI R1),.int .u64 (pI R2)])∧Kp w w':=by
 rcases h with ⟨c,n9,oa,ob,ia,ib,s7,p7,l7,c7,q7,k7,d7,s8,p8,l8,c8,q8,k8,d8,rfl⟩ | ⟨c,h⟩
 ·have e:=e1 (Or.inl c)
  rw [e.1,e.2,pI_I9,pI_M9]
  exact withN_ _ _ _ _ _ _ _ _ _ _ _ _ _ _ w
 ·by_cases c2:L=9218868437227405312
  ·have e:=e1 (Or.inr c2)
   have hH:H = -9218868437227405312:=by unfold VdZ at hx;omega
   rw [e.1,e.2,c2,hH,pI_I9,pI_M9]
   obtain ⟨s,p,l,c,q,k,d,s2,p2,l2,c2,q2,k2,d2,rfl,h1,h2⟩:=h
   exact withE_ _ _ _ _ s p l c q k d s2 p2 l2 c2 q2 k2 d2 rempty9_ w
  ·have e:=e2 (by rintro (q | q);exact c q;exact c2 q)
   rw [e.1,e.2]
   obtain ⟨b1,b2,b3⟩:=hB c
   exact rwi9_ L H iA VA iB VB hx c2 b1 b2 b3 w v h
theorem rall9_ (em:Prop) (a b:Nat) (L H iA VA iB VB:Int) (r:Rd a b L H) (hB:¬ em→BOk iA VA iB VB∧(iA=0∨VA=0)∧(iB=0∨VB=0)) (R1 R2:Int) (e1:(em∨L=9218868437227405312)→R1=9218868437227405312∧R2 = -9218868437227405312) (e2:¬ (em∨L=9218868437227405312)→R1=wiL L H iA VA iB VB∧R2=wiH L H iA VA iB VB) (hR:VdZ R1 R2) (w:World) (g:Nat) (n9 oa ob:Bool) (ia ib:Int) s7 p7 l7 c7 q7 k7 d7 s8 p8 l8 c8 q8 k8 d8 (hb:BK w g #[.bool n9,.int .i64 ia,.bool s7,.slice p7 l7 c7,.slice q7 k7 d7,.int .i64 1,.bool oa,.int .i64 ib,.bool s8,.slice p8 l8 c8,.slice q8 k8 d8,.int .i64 1,.bool ob] 61) (h:PG9 em iA VA iB VB w (.agg #[.bool n9,.int .i64 ia,.bool s7,.slice p7 l7 c7,.slice q7 k7 d7,.int .i64 1,.bool oa,.int .i64 ib,.bool s8,.slice p8 l8 c8,.slice q8 k8 d8,.int .i64 1,.bool ob])):Calls Tryz.prog 44 #[.agg #[.int .u64 ((a:Nat):Int),.int .u64 ((b:Nat):Int)],.slice (some ⟨g,0,none⟩) 1 1] w fun e w'=>e=.returned (.agg #[.int .u64 (pI R1),.int .u64 (pI R2)])∧Kp w w':=by
 have q:=all9_ (some ⟨g,0,none⟩) 1 1 (by decide) (fun _=>.bool n9) (fun _=>.int .i64 ia) (fun _=>.bool s7) (fun _=>.slice p7 l7 c7) (fun _=>.slice q7 k7 d7) (fun _=>.int .i64 1) (fun _=>.bool oa) (fun _=>.int .i64 ib) (fun _=>.bool s8) (fun _=>.slice p8 l8 c8) (fun _=>.slice q8 k8 d8) (fun _=>.int .i64 1) (fun _=>.bool ob) (.int .u64 ((a:Nat):Int)) (.int .u64 ((b:Nat):Int)) L H (fun _=>R1) (fun _=>R2) w (rread9_ a b L H r)
  (Or.inr ⟨g,0,rfl,hb.lt,fun j hj=>by obtain rfl:j=0:=(by omega);exact ⟨(hb.cell 0).trans rfl,(hb.cell 1).trans rfl,(hb.cell 2).trans rfl,(hb.cell 3).trans rfl,(hb.cell 4).trans rfl,(hb.cell 5).trans rfl,(hb.cell 6).trans rfl,(hb.cell 7).trans rfl,(hb.cell 8).trans rfl,(hb.cell 9).trans rfl,(hb.cell 10).trans rfl,(hb.cell 11).trans rfl,(hb.cell 12).trans rfl⟩⟩)
  (fun j hj=>⟨hR,fun W k=>rpg9_ em L H iA VA iB VB r.vd hB R1 R2 e1 e2 W _ (h.kp k)⟩) hullS_
 have z1:zLn (fun _=>R1) 1=R1:=by show min 9218868437227405312 R1=R1;unfold VdZ at hR;omega
 have z2:zHn (fun _=>R2) 1=R2:=by show max (-9218868437227405312) R2=R2;unfold VdZ at hR;omega
 rw [z1,z2] at q
 exact q
set_option linter.unusedVariables false
set_option linter.unusedSimpArgs false

theorem an_of (L H L1 H1 L2 H2:Int) (d1:VdZ L1 H1) (d2:VdZ L2 H2):(¬ (L1=9218868437227405312∨L2=9218868437227405312)→BOk (bI L1 L2) (bV L1 L2) (bI H1 H2) (bV H1 H2)∧(bI L1 L2=0∨bV L1 L2=0)∧(bI H1 H2=0∨bV H1 H2=0))∧(((L1=9218868437227405312∨L2=9218868437227405312)∨L=9218868437227405312)→anL L H L1 H1 L2 H2=9218868437227405312∧anH L H L1 H1 L2 H2 = -9218868437227405312)∧(¬ ((L1=9218868437227405312∨L2=9218868437227405312)∨L=9218868437227405312)→anL L H L1 H1 L2 H2=wiL L H (bI L1 L2) (bV L1 L2) (bI H1 H2) (bV H1 H2)∧anH L H L1 H1 L2 H2=wiH L H (bI L1 L2) (bV L1 L2) (bI H1 H2) (bV H1 H2)):=by
 refine ⟨fun c=>?_,fun c=>?_,fun c=>?_⟩
 ·have D1:=d1
  have D2:=d2
  unfold VdZ at D1 D2
  exact ⟨b_ok L1 H1 L2 H2 d1 d2 (by omega) (by omega),(b_lo L1 L2 (by omega) (by omega)).2.2,(b_hi H1 H2 (by omega) (by omega)).2.2⟩
 ·have c2:anN L L1 L2:=by unfold anN;omega
  unfold anL anH
  rw [if_pos c2,if_pos c2];exact ⟨rfl,rfl⟩
 ·have c2:¬ anN L L1 L2:=by unfold anN;omega
  unfold anL anH
  rw [if_neg c2,if_neg c2];exact ⟨rfl,rfl⟩
theorem radd21_ (a b c d e f:Nat) (Lb Hb Lc Hc L H:Int) (rb:Rd a b Lb Hb) (rc:Rd c d Lc Hc) (rx:Rd e f L H) (w:World):Calls Tryz.prog 12 #[.agg #[.int .u64 ((a:Nat):Int),.int .u64 ((b:Nat):Int)],.agg #[.int .u64 ((c:Nat):Int),.int .u64 ((d:Nat):Int)],.agg #[.int .u64 ((e:Nat):Int),.int .u64 ((f:Nat):Int)]] w fun r w'=>r=.returned (.agg #[.int .u64 (pI (anL L H Lc Hc (-Hb) (-Lb))),.int .u64 (pI (anH L H Lc Hc (-Hb) (-Lb)))])∧Kp w w':=by
 have d1:=rc.vd
 have d2:=(vd_neg _ _ rb.vd)
 obtain ⟨k1,k2,k3⟩:=an_of L H Lc Hc (-Hb) (-Lb) d1 d2
 exact raddrev9_ _ _ _ _ _ _ _ _ (ST9 Lc Hc) (ST9 Lb Hb) (ST9 (-Hb) (-Lb)) (SS9 Lc Hc (-Hb) (-Lb)) (PG9 (Lc=9218868437227405312∨(-Hb)=9218868437227405312) (bI Lc (-Hb)) (bV Lc (-Hb)) (bI Hc (-Lb)) (bV Hc (-Lb))) w
  (fun W W' v g h=>h.kp g) (fun W W' v g h=>h.kp g) (fun W _=>st_of _ _ _ _ rc W) (fun W _=>st_of _ _ _ _ rb W) (fun W v _ h=>st_minus _ _ rb.vd W v h) (fun W x y _ h1 h2=>ss_plus Lc Hc (-Hb) (-Lb) W x y h1 h2) (fun W v _ h=>pg_ss Lc Hc (-Hb) (-Lb) d1 d2 W v h)
  (fun W g n9 oa ob ia ib s7 p7 l7 c7 q7 k7 d7 s8 p8 l8 c8 q8 k8 d8 _ hb hp=>rall9_ _ e f L H _ _ _ _ rx k1 _ _ k2 k3 (an_vd L H Lc Hc (-Hb) (-Lb) rx.vd d1 d2) W g n9 oa ob ia ib s7 p7 l7 c7 q7 k7 d7 s8 p8 l8 c8 q8 k8 d8 hb hp)
theorem rsub21_ (a b c d e f:Nat) (Lb Hb Lc Hc L H:Int) (rb:Rd a b Lb Hb) (rc:Rd c d Lc Hc) (rx:Rd e f L H) (w:World):Calls Tryz.prog 14 #[.agg #[.int .u64 ((a:Nat):Int),.int .u64 ((b:Nat):Int)],.agg #[.int .u64 ((c:Nat):Int),.int .u64 ((d:Nat):Int)],.agg #[.int .u64 ((e:Nat):Int),.int .u64 ((f:Nat):Int)]] w fun r w'=>r=.returned (.agg #[.int .u64 (pI (anL L H Lc Hc Lb Hb)),.int .u64 (pI (anH L H Lc Hc Lb Hb))])∧Kp w w':=by
 have d1:=rc.vd
 have d2:=rb.vd
 obtain ⟨k1,k2,k3⟩:=an_of L H Lc Hc Lb Hb d1 d2
 exact rsubrev9_ _ _ _ _ _ _ _ _ (ST9 Lc Hc) (ST9 Lb Hb) (ST9 0 0) (SS9 Lc Hc Lb Hb) (PG9 (Lc=9218868437227405312∨Lb=9218868437227405312) (bI Lc Lb) (bV Lc Lb) (bI Hc Hb) (bV Hc Hb)) w
  (fun W W' v g h=>h.kp g) (fun W W' v g h=>h.kp g) (fun W _=>st_of _ _ _ _ rc W) (fun W _=>st_of _ _ _ _ rb W) (fun W x y _ h1 h2=>ss_plus Lc Hc Lb Hb W x y h1 h2) (fun W v _ h=>pg_ss Lc Hc Lb Hb d1 d2 W v h)
  (fun W g n9 oa ob ia ib s7 p7 l7 c7 q7 k7 d7 s8 p8 l8 c8 q8 k8 d8 _ hb hp=>rall9_ _ e f L H _ _ _ _ rx k1 _ _ k2 k3 (an_vd L H Lc Hc Lb Hb rx.vd d1 d2) W g n9 oa ob ia ib s7 p7 l7 c7 q7 k7 d7 s8 p8 l8 c8 q8 k8 d8 hb hp)
theorem rsub22_ (a b c d e f:Nat) (Lb Hb Lc Hc L H:Int) (rb:Rd a b Lb Hb) (rc:Rd c d Lc Hc) (rx:Rd e f L H) (w:World):Calls Tryz.prog 16 #[.agg #[.int .u64 ((a:Nat):Int),.int .u64 ((b:Nat):Int)],.agg #[.int .u64 ((c:Nat):Int),.int .u64 ((d:Nat):Int)],.agg #[.int .u64 ((e:Nat):Int),.int .u64 ((f:Nat):Int)]] w fun r w'=>r=.returned (.agg #[.int .u64 (pI (anL L H Lb Hb (-Hc) (-Lc))),.int .u64 (pI (anH L H Lb Hb (-Hc) (-Lc)))])∧Kp w w':=by
 have d1:=rb.vd
 have d2:=(vd_neg _ _ rc.vd)
 obtain ⟨k1,k2,k3⟩:=an_of L H Lb Hb (-Hc) (-Lc) d1 d2
 exact rsubrev29_ _ _ _ _ _ _ _ _ (ST9 Lb Hb) (ST9 Lc Hc) (ST9 (-Hc) (-Lc)) (SS9 Lb Hb (-Hc) (-Lc)) (PG9 (Lb=9218868437227405312∨(-Hc)=9218868437227405312) (bI Lb (-Hc)) (bV Lb (-Hc)) (bI Hb (-Lc)) (bV Hb (-Lc))) w
  (fun W W' v g h=>h.kp g) (fun W W' v g h=>h.kp g) (fun W _=>st_of _ _ _ _ rb W) (fun W _=>st_of _ _ _ _ rc W) (fun W v _ h=>st_minus _ _ rc.vd W v h) (fun W x y _ h1 h2=>ss_plus Lb Hb (-Hc) (-Lc) W x y h1 h2) (fun W v _ h=>pg_ss Lb Hb (-Hc) (-Lc) d1 d2 W v h)
  (fun W g n9 oa ob ia ib s7 p7 l7 c7 q7 k7 d7 s8 p8 l8 c8 q8 k8 d8 _ hb hp=>rall9_ _ e f L H _ _ _ _ rx k1 _ _ k2 k3 (an_vd L H Lb Hb (-Hc) (-Lc) rx.vd d1 d2) W g n9 oa ob ia ib s7 p7 l7 c7 q7 k7 d7 s8 p8 l8 c8 q8 k8 d8 hb hp)
set_option linter.unusedVariables false
set_option linter.unusedSimpArgs false
theorem psubw1_ (a1 a2 b1 b2 x1 x2 p1 p2 q1 q2 s1 s2:Nat) (w:World) (hn1:∀ W:World,Calls Tryz.prog 49 #[.agg #[.float .f64 a1,.float .f64 a2]] W fun e w'=>e=.returned (.agg #[.float .f64 p1,.float .f64 p2])∧Kp W w') (hm:∀ W:World,Kp w W→Calls Tryz.prog 11 #[.agg #[.float .f64 p1,.float .f64 p2],.agg #[.float .f64 b1,.float .f64 b2],.agg #[.float .f64 x1,.float .f64 x2]] W fun e w'=>e=.returned (.agg #[.float .f64 s1,.float .f64 s2])∧Kp W w'):Calls Tryz.prog 13 #[.agg #[.float .f64 a1,.float .f64 a2],.agg #[.float .f64 b1,.float .f64 b2],.agg #[.float .f64 x1,.float .f64 x2]] w fun e w'=>e=.returned (.agg #[.float .f64 s1,.float .f64 s2])∧Kp w w':=by
 go_enter Tryz.func13,Tryz.ntmps13
 go_upto_region 1 with fail
 have kw:Kp w ((((w.alloc (.cells #[.float .f64 a1,.float .f64 a2] 29)).alloc (.cells #[.float .f64 b1,.float .f64 b2] 29)).alloc (.cells #[.float .f64 x1,.float .f64 x2] 29)).alloc (.cells #[.float .f64 0,.float .f64 0] 29)):=((((Kp.refl w).alloc _).alloc _).alloc _).alloc _
 have hA:BK ((((w.alloc (.cells #[.float .f64 a1,.float .f64 a2] 29)).alloc (.cells #[.float .f64 b1,.float .f64 b2] 29)).alloc (.cells #[.float .f64 x1,.float .f64 x2] 29)).alloc (.cells #[.float .f64 0,.float .f64 0] 29)) (w.heap.size) #[.float .f64 a1,.float .f64 a2] 29:=((((BK.new w _ _).kp ((Kp.refl _).alloc _)).kp ((Kp.refl _).alloc _)).kp ((Kp.refl _).alloc _))
 have hB:BK ((((w.alloc (.cells #[.float .f64 a1,.float .f64 a2] 29)).alloc (.cells #[.float .f64 b1,.float .f64 b2] 29)).alloc (.cells #[.float .f64 x1,.float .f64 x2] 29)).alloc (.cells #[.float .f64 0,.float .f64 0] 29)) (w.heap.size+1) #[.float .f64 b1,.float .f64 b2] 29:=(((BK.newAt (by simp) _ _).kp ((Kp.refl _).alloc _)).kp ((Kp.refl _).alloc _))
 have hX:BK ((((w.alloc (.cells #[.float .f64 a1,.float .f64 a2] 29)).alloc (.cells #[.float .f64 b1,.float .f64 b2] 29)).alloc (.cells #[.float .f64 x1,.float .f64 x2] 29)).alloc (.cells #[.float .f64 0,.float .f64 0] 29)) (w.heap.size+2) #[.float .f64 x1,.float .f64 x2] 29:=((BK.newAt (by simp) _ _).kp ((Kp.refl _).alloc _))
 have hR:BK ((((w.alloc (.cells #[.float .f64 a1,.float .f64 a2] 29)).alloc (.cells #[.float .f64 b1,.float .f64 b2] 29)).alloc (.cells #[.float .f64 x1,.float .f64 x2] 29)).alloc (.cells #[.float .f64 0,.float .f64 0] 29)) (w.heap.size+3) #[.float .f64 0,.float .f64 0] 29:=(BK.newAt (by simp) _ _)
 generalize ((((w.alloc (.cells #[.float .f64 a1,.float .f64 a2] 29)).alloc (.cells #[.float .f64 b1,.float .f64 b2] 29)).alloc (.cells #[.float .f64 x1,.float .f64 x2] 29)).alloc (.cells #[.float .f64 0,.float .f64 0] 29))=W at kw hA hB hX hR ⊢
 have xw0:W.cell? ⟨w.heap.size,0,none⟩=some (.float .f64 a1):=(hA.cell 0).trans rfl
 have dw0:W.drew.cell? ⟨w.heap.size,0,none⟩=some (.float .f64 a1):=xw0
 have xw1:W.cell? ⟨w.heap.size,1,none⟩=some (.float .f64 a2):=(hA.cell 1).trans rfl
 have dw1:W.drew.cell? ⟨w.heap.size,1,none⟩=some (.float .f64 a2):=xw1
 have xw2:W.cell? ⟨w.heap.size+1,0,none⟩=some (.float .f64 b1):=(hB.cell 0).trans rfl
 have dw2:W.drew.cell? ⟨w.heap.size+1,0,none⟩=some (.float .f64 b1):=xw2
 have xw3:W.cell? ⟨w.heap.size+1,1,none⟩=some (.float .f64 b2):=(hB.cell 1).trans rfl
 have dw3:W.drew.cell? ⟨w.heap.size+1,1,none⟩=some (.float .f64 b2):=xw3
 have xw4:W.cell? ⟨w.heap.size+2,0,none⟩=some (.float .f64 x1):=(hX.cell 0).trans rfl
 have dw4:W.drew.cell? ⟨w.heap.size+2,0,none⟩=some (.float .f64 x1):=xw4
 have xw5:W.cell? ⟨w.heap.size+2,1,none⟩=some (.float .f64 x2):=(hX.cell 1).trans rfl
 have dw5:W.drew.cell? ⟨w.heap.size+2,1,none⟩=some (.float .f64 x2):=xw5
 go_region_held3 (fun w'=>w'.cell? ⟨w.heap.size,0,none⟩=some (.float .f64 a1)∧w'.cell? ⟨w.heap.size,1,none⟩=some (.float .f64 a2)∧w'.cell? ⟨w.heap.size+1,0,none⟩=some (.float .f64 b1)∧w'.cell? ⟨w.heap.size+1,1,none⟩=some (.float .f64 b2)∧w'.cell? ⟨w.heap.size+2,0,none⟩=some (.float .f64 x1)∧w'.cell? ⟨w.heap.size+2,1,none⟩=some (.float .f64 x2)) (first | (with_reducible exact ⟨xw0,xw1,xw2,xw3,xw4,xw5⟩) | (with_reducible exact ⟨dw0,dw1,dw2,dw3,dw4,dw5⟩) | (with_reducible exact ⟨ca0,ca1,ca2,ca3,ca4,ca5⟩) | (with_reducible exact ⟨cd0,cd1,cd2,cd3,cd4,cd5⟩) | (exact ⟨((CF _ _ _ _ (by simp <;> omega)).trans ((CF _ _ _ _ (by simp <;> omega)).trans cd0)),((CF _ _ _ _ (by simp <;> omega)).trans ((CF _ _ _ _ (by simp <;> omega)).trans cd1)),((CF _ _ _ _ (by simp <;> omega)).trans ((CF _ _ _ _ (by simp <;> omega)).trans cd2)),((CF _ _ _ _ (by simp <;> omega)).trans ((CF _ _ _ _ (by simp <;> omega)).trans cd3)),((CF _ _ _ _ (by simp <;> omega)).trans ((CF _ _ _ _ (by simp <;> omega)).trans cd4)),((CF _ _ _ _ (by simp <;> omega)).trans ((CF _ _ _ _ (by simp <;> omega)).trans cd5))⟩)) (first | (have z9:=ka;clear z9;go_at_call 11;refine (hm _ (Kp.trans kw ka)).mono ?_;rintro e w2 ⟨rfl,g2⟩;have kd:Kp W w2:=Kp.trans ka g2;have hRe:=hR.kp kd;obtain ⟨r0,rz0,r1,rz1⟩:=(show BK w2 (w.heap.size+3) #[.float .f64 0,.float .f64 0] _ from hRe).c2;skip;have cd0:=kkeep kd xw0;have cd1:=kkeep kd xw1;have cd2:=kkeep kd xw2;have cd3:=kkeep kd xw3;have cd4:=kkeep kd xw4;have cd5:=kkeep kd xw5) | (go_at_call_of 49 (Value.agg #[.float .f64 a1,.float .f64 a2]);refine (hn1 _).mono ?_;rintro e w0 ⟨rfl,g0⟩;have ka:Kp W w0:=Kp.trans (Kp.drew (Kp.refl _)) g0;have ca0:=kkeep ka xw0;have ca1:=kkeep ka xw1;have ca2:=kkeep ka xw2;have ca3:=kkeep ka xw3;have ca4:=kkeep ka xw4;have ca5:=kkeep ka xw5))
 go_wp2
 exact BR (v:=.agg #[.float .f64 s1,.float .f64 s2]) (by simp [results,Tryz.results13,go_sem,r0,r1]) rfl ⟨rfl,(((Kp.trans kw kd).setCell (by first | omega | (simp <;> omega)) _).setCell (by first | omega | (simp <;> omega)) _)⟩
theorem psubw2_ (a1 a2 b1 b2 x1 x2 p1 p2 q1 q2 s1 s2:Nat) (w:World) (hn1:∀ W:World,Calls Tryz.prog 49 #[.agg #[.float .f64 a1,.float .f64 a2]] W fun e w'=>e=.returned (.agg #[.float .f64 p1,.float .f64 p2])∧Kp W w') (hn2:∀ W:World,Calls Tryz.prog 49 #[.agg #[.float .f64 b1,.float .f64 b2]] W fun e w'=>e=.returned (.agg #[.float .f64 q1,.float .f64 q2])∧Kp W w') (hm:∀ W:World,Kp w W→Calls Tryz.prog 11 #[.agg #[.float .f64 p1,.float .f64 p2],.agg #[.float .f64 q1,.float .f64 q2],.agg #[.float .f64 x1,.float .f64 x2]] W fun e w'=>e=.returned (.agg #[.float .f64 s1,.float .f64 s2])∧Kp W w'):Calls Tryz.prog 15 #[.agg #[.float .f64 a1,.float .f64 a2],.agg #[.float .f64 b1,.float .f64 b2],.agg #[.float .f64 x1,.float .f64 x2]] w fun e w'=>e=.returned (.agg #[.float .f64 s1,.float .f64 s2])∧Kp w w':=by
 go_enter Tryz.func15,Tryz.ntmps15
 go_upto_region 1 with fail
 have kw:Kp w ((((w.alloc (.cells #[.float .f64 a1,.float .f64 a2] 29)).alloc (.cells #[.float .f64 b1,.float .f64 b2] 29)).alloc (.cells #[.float .f64 x1,.float .f64 x2] 29)).alloc (.cells #[.float .f64 0,.float .f64 0] 29)):=((((Kp.refl w).alloc _).alloc _).alloc _).alloc _
 have hA:BK ((((w.alloc (.cells #[.float .f64 a1,.float .f64 a2] 29)).alloc (.cells #[.float .f64 b1,.float .f64 b2] 29)).alloc (.cells #[.float .f64 x1,.float .f64 x2] 29)).alloc (.cells #[.float .f64 0,.float .f64 0] 29)) (w.heap.size) #[.float .f64 a1,.float .f64 a2] 29:=((((BK.new w _ _).kp ((Kp.refl _).alloc _)).kp ((Kp.refl _).alloc _)).kp ((Kp.refl _).alloc _))
 have hB:BK ((((w.alloc (.cells #[.float .f64 a1,.float .f64 a2] 29)).alloc (.cells #[.float .f64 b1,.float .f64 b2] 29)).alloc (.cells #[.float .f64 x1,.float .f64 x2] 29)).alloc (.cells #[.float .f64 0,.float .f64 0] 29)) (w.heap.size+1) #[.float .f64 b1,.float .f64 b2] 29:=(((BK.newAt (by simp) _ _).kp ((Kp.refl _).alloc _)).kp ((Kp.refl _).alloc _))
 have hX:BK ((((w.alloc (.cells #[.float .f64 a1,.float .f64 a2] 29)).alloc (.cells #[.float .f64 b1,.float .f64 b2] 29)).alloc (.cells #[.float .f64 x1,.float .f64 x2] 29)).alloc (.cells #[.float .f64 0,.float .f64 0] 29)) (w.heap.size+2) #[.float .f64 x1,.float .f64 x2] 29:=((BK.newAt (by simp) _ _).kp ((Kp.refl _).alloc _))
 have hR:BK ((((w.alloc (.cells #[.float .f64 a1,.float .f64 a2] 29)).alloc (.cells #[.float .f64 b1,.float .f64 b2] 29)).alloc (.cells #[.float .f64 x1,.float .f64 x2] 29)).alloc (.cells #[.float .f64 0,.float .f64 0] 29)) (w.heap.size+3) #[.float .f64 0,.float .f64 0] 29:=(BK.newAt (by simp) _ _)
 generalize ((((w.alloc (.cells #[.float .f64 a1,.float .f64 a2] 29)).alloc (.cells #[.float .f64 b1,.float .f64 b2] 29)).alloc (.cells #[.float .f64 x1,.float .f64 x2] 29)).alloc (.cells #[.float .f64 0,.float .f64 0] 29))=W at kw hA hB hX hR ⊢
 have xw0:W.cell? ⟨w.heap.size,0,none⟩=some (.float .f64 a1):=(hA.cell 0).trans rfl
 have dw0:W.drew.cell? ⟨w.heap.size,0,none⟩=some (.float .f64 a1):=xw0
 have xw1:W.cell? ⟨w.heap.size,1,none⟩=some (.float .f64 a2):=(hA.cell 1).trans rfl
 have dw1:W.drew.cell? ⟨w.heap.size,1,none⟩=some (.float .f64 a2):=xw1
 have xw2:W.cell? ⟨w.heap.size+1,0,none⟩=some (.float .f64 b1):=(hB.cell 0).trans rfl
 have dw2:W.drew.cell? ⟨w.heap.size+1,0,none⟩=some (.float .f64 b1):=xw2
 have xw3:W.cell? ⟨w.heap.size+1,1,none⟩=some (.float .f64 b2):=(hB.cell 1).trans rfl
 have dw3:W.drew.cell? ⟨w.heap.size+1,1,none⟩=some (.float .f64 b2):=xw3
 have xw4:W.cell? ⟨w.heap.size+2,0,none⟩=some (.float .f64 x1):=(hX.cell 0).trans rfl
 have dw4:W.drew.cell? ⟨w.heap.size+2,0,none⟩=some (.float .f64 x1):=xw4
 have xw5:W.cell? ⟨w.heap.size+2,1,none⟩=some (.float .f64 x2):=(hX.cell 1).trans rfl
 have dw5:W.drew.cell? ⟨w.heap.size+2,1,none⟩=some (.float .f64 x2):=xw5
 go_region_held3 (fun w'=>w'.cell? ⟨w.heap.size,0,none⟩=some (.float .f64 a1)∧w'.cell? ⟨w.heap.size,1,none⟩=some (.float .f64 a2)∧w'.cell? ⟨w.heap.size+1,0,none⟩=some (.float .f64 b1)∧w'.cell? ⟨w.heap.size+1,1,none⟩=some (.float .f64 b2)∧w'.cell? ⟨w.heap.size+2,0,none⟩=some (.float .f64 x1)∧w'.cell? ⟨w.heap.size+2,1,none⟩=some (.float .f64 x2)) (first | (with_reducible exact ⟨xw0,xw1,xw2,xw3,xw4,xw5⟩) | (with_reducible exact ⟨dw0,dw1,dw2,dw3,dw4,dw5⟩) | (with_reducible exact ⟨ca0,ca1,ca2,ca3,ca4,ca5⟩) | (with_reducible exact ⟨cb0,cb1,cb2,cb3,cb4,cb5⟩) | (with_reducible exact ⟨cd0,cd1,cd2,cd3,cd4,cd5⟩) | (exact ⟨((CF _ _ _ _ (by simp <;> omega)).trans ((CF _ _ _ _ (by simp <;> omega)).trans cd0)),((CF _ _ _ _ (by simp <;> omega)).trans ((CF _ _ _ _ (by simp <;> omega)).trans cd1)),((CF _ _ _ _ (by simp <;> omega)).trans ((CF _ _ _ _ (by simp <;> omega)).trans cd2)),((CF _ _ _ _ (by simp <;> omega)).trans ((CF _ _ _ _ (by simp <;> omega)).trans cd3)),((CF _ _ _ _ (by simp <;> omega)).trans ((CF _ _ _ _ (by simp <;> omega)).trans cd4)),((CF _ _ _ _ (by simp <;> omega)).trans ((CF _ _ _ _ (by simp <;> omega)).trans cd5))⟩)) (first | (have z9:=kb;clear z9;go_at_call 11;refine (hm _ (Kp.trans kw kb)).mono ?_;rintro e w2 ⟨rfl,g2⟩;have kd:Kp W w2:=Kp.trans kb g2;have hRe:=hR.kp kd;obtain ⟨r0,rz0,r1,rz1⟩:=(show BK w2 (w.heap.size+3) #[.float .f64 0,.float .f64 0] _ from hRe).c2;skip;have cd0:=kkeep kd xw0;have cd1:=kkeep kd xw1;have cd2:=kkeep kd xw2;have cd3:=kkeep kd xw3;have cd4:=kkeep kd xw4;have cd5:=kkeep kd xw5) | (have z9:=ka;clear z9;go_at_call_of 49 (Value.agg #[.float .f64 b1,.float .f64 b2]);refine (hn2 _).mono ?_;rintro e w1 ⟨rfl,g1⟩;have kb:Kp W w1:=Kp.trans ka g1;have cb0:=kkeep kb xw0;have cb1:=kkeep kb xw1;have cb2:=kkeep kb xw2;have cb3:=kkeep kb xw3;have cb4:=kkeep kb xw4;have cb5:=kkeep kb xw5) | (go_at_call_of 49 (Value.agg #[.float .f64 a1,.float .f64 a2]);refine (hn1 _).mono ?_;rintro e w0 ⟨rfl,g0⟩;have ka:Kp W w0:=Kp.trans (Kp.drew (Kp.refl _)) g0;have ca0:=kkeep ka xw0;have ca1:=kkeep ka xw1;have ca2:=kkeep ka xw2;have ca3:=kkeep ka xw3;have ca4:=kkeep ka xw4;have ca5:=kkeep ka xw5))
 go_wp2
 exact BR (v:=.agg #[.float .f64 s1,.float .f64 s2]) (by simp [results,Tryz.results15,go_sem,r0,r1]) rfl ⟨rfl,(((Kp.trans kw kd).setCell (by first | omega | (simp <;> omega)) _).setCell (by first | omega | (simp <;> omega)) _)⟩
set_option linter.unusedVariables false
set_option linter.unusedSimpArgs false
theorem in9_ (a b:Nat) (w:World):Calls Tryz.prog 9 #[.agg #[.int .u64 ((a:Nat):Int),.int .u64 ((b:Nat):Int)]] w fun e w'=>e=.returned (.agg #[.float .f64 a,.float .f64 b])∧Kp w w':=by
 have h1:=Fq.ff64 a
 have h2:=Fq.ff64 b
 generalize (a:Int)=X at h1 ⊢
 generalize (b:Int)=Y at h2 ⊢
 go_enter Tryz.func9,Tryz.ntmps9
 go_wp2
 go_region_held3 (fun w'=>w'.cell? ⟨w.heap.size,0,none⟩=some (.int .u64 X)∧w'.cell? ⟨w.heap.size,1,none⟩=some (.int .u64 Y)) (simp [go_sem]) (fail)
 go_wp2
 exact BR (v:=.agg #[.float .f64 a,.float .f64 b]) (by simp [results,Tryz.results9,go_sem]) rfl ⟨rfl,(by repeat (with_reducible (first | assumption | exact Kp.refl _ | apply Kp.drew | apply Kp.alloc | apply Kp.drewN | (refine Kp.setCell ?_ (by first | omega | (simp <;> omega)) _) | (refine Kp.trans ?_ (by assumption)))))⟩
theorem out9_ (a b:Nat) (w:World):Calls Tryz.prog 10 #[.agg #[.float .f64 a,.float .f64 b]] w fun e w'=>e=.returned (.agg #[.int .u64 ((a:Nat):Int),.int .u64 ((b:Nat):Int)])∧Kp w w':=by
 have h1:=Fq.fb64 a
 have h2:=Fq.fb64 b
 generalize (a:Int)=X at h1 ⊢
 generalize (b:Int)=Y at h2 ⊢
 go_enter Tryz.func10,Tryz.ntmps10
 go_wp2
 go_region_held3 (fun w'=>w'.cell? ⟨w.heap.size,0,none⟩=some (.float .f64 a)∧w'.cell? ⟨w.heap.size,1,none⟩=some (.float .f64 b)) (simp [go_sem,World.cell?_alloc_past]) (fail)
 go_wp2
 exact BR (v:=.agg #[.int .u64 X,.int .u64 Y]) (by simp [results,Tryz.results10,go_sem]) rfl ⟨rfl,(by repeat (with_reducible (first | assumption | exact Kp.refl _ | apply Kp.drew | apply Kp.alloc | apply Kp.drewN | (refine Kp.setCell ?_ (by first | omega | (simp <;> omega)) _) | (refine Kp.trans ?_ (by assumption)))))⟩
theorem addlawA_ (X1 X2 Y1 Y2 Z1 Z2 S0a S0b S1a S1b S2a S2b:Int) (A1 A2 B1 B2 C1 C2 P0a P0b P1a P1b P2a P2b:Nat) (w:World) (hin1:KC 9 #[.agg #[.int .u64 X1,.int .u64 X2]] (.agg #[.float .f64 A1,.float .f64 A2])) (hin2:KC 9 #[.agg #[.int .u64 Y1,.int .u64 Y2]] (.agg #[.float .f64 B1,.float .f64 B2])) (hin3:KC 9 #[.agg #[.int .u64 Z1,.int .u64 Z2]] (.agg #[.float .f64 C1,.float .f64 C2])) (hp0:∀ W:World,Kp w W→Calls Tryz.prog 11 #[.agg #[.float .f64 A1,.float .f64 A2],.agg #[.float .f64 B1,.float .f64 B2],.agg #[.float .f64 C1,.float .f64 C2]] W fun e w'=>e=.returned (.agg #[.float .f64 P0a,.float .f64 P0b])∧Kp W w') (ho0:∀ W:World,Calls Tryz.prog 10 #[.agg #[.float .f64 P0a,.float .f64 P0b]] W fun e w'=>e=.returned (.agg #[.int .u64 S0a,.int .u64 S0b])∧Kp W w') (hr0:∀ W:World,Calls Tryz.prog 12 #[.agg #[.int .u64 X1,.int .u64 X2],.agg #[.int .u64 Y1,.int .u64 Y2],.agg #[.int .u64 Z1,.int .u64 Z2]] W fun e w'=>e=.returned (.agg #[.int .u64 S0a,.int .u64 S0b])∧Kp W w') (hp1:∀ W:World,Kp w W→Calls Tryz.prog 13 #[.agg #[.float .f64 A1,.float .f64 A2],.agg #[.float .f64 B1,.float .f64 B2],.agg #[.float .f64 C1,.float .f64 C2]] W fun e w'=>e=.returned (.agg #[.float .f64 P1a,.float .f64 P1b])∧Kp W w') (ho1:∀ W:World,Calls Tryz.prog 10 #[.agg #[.float .f64 P1a,.float .f64 P1b]] W fun e w'=>e=.returned (.agg #[.int .u64 S1a,.int .u64 S1b])∧Kp W w') (hr1:∀ W:World,Calls Tryz.prog 14 #[.agg #[.int .u64 X1,.int .u64 X2],.agg #[.int .u64 Y1,.int .u64 Y2],.agg #[.int .u64 Z1,.int .u64 Z2]] W fun e w'=>e=.returned (.agg #[.int .u64 S1a,.int .u64 S1b])∧Kp W w') (hp2:∀ W:World,Kp w W→Calls Tryz.prog 15 #[.agg #[.float .f64 A1,.float .f64 A2],.agg #[.float .f64 B1,.float .f64 B2],.agg #[.float .f64 C1,.float .f64 C2]] W fun e w'=>e=.returned (.agg #[.float .f64 P2a,.float .f64 P2b])∧Kp W w') (ho2:∀ W:World,Calls Tryz.prog 10 #[.agg #[.float .f64 P2a,.float .f64 P2b]] W fun e w'=>e=.returned (.agg #[.int .u64 S2a,.int .u64 S2b])∧Kp W w') (hr2:∀ W:World,Calls Tryz.prog 16 #[.agg #[.int .u64 X1,.int .u64 X2],.agg #[.int .u64 Y1,.int .u64 Y2],.agg #[.int .u64 Z1,.int .u64 Z2]] W fun e w'=>e=.returned (.agg #[.int .u64 S2a,.int .u64 S2b])∧Kp W w'):Calls Tryz.prog 3 #[.agg #[.int .u64 X1,.int .u64 X2,.int .u64 Y1,.int .u64 Y2,.int .u64 Z1,.int .u64 Z2]] w fun e w'=>e=.returned (.bool true)∧Kp w w':=by
 go_enter Tryz.func3,Tryz.ntmps3
 go_upto_region 1 with fail
 have kw:Kp w (w.alloc (.cells #[.int .u64 X1,.int .u64 X2,.int .u64 Y1,.int .u64 Y2,.int .u64 Z1,.int .u64 Z2] 26)):=(Kp.refl w).alloc _
 have hT:BK (w.alloc (.cells #[.int .u64 X1,.int .u64 X2,.int .u64 Y1,.int .u64 Y2,.int .u64 Z1,.int .u64 Z2] 26)) w.heap.size #[.int .u64 X1,.int .u64 X2,.int .u64 Y1,.int .u64 Y2,.int .u64 Z1,.int .u64 Z2] 26:=BK.new _ _ _
 generalize w.alloc (.cells #[.int .u64 X1,.int .u64 X2,.int .u64 Y1,.int .u64 Y2,.int .u64 Z1,.int .u64 Z2] 26)=W0 at hT kw ⊢
 obtain ⟨t0,tz0,t1,tz1,t2,tz2,t3,tz3,t4,tz4,t5,tz5⟩:=(show BK W0 (w.heap.size) #[.int .u64 X1,.int .u64 X2,.int .u64 Y1,.int .u64 Y2,.int .u64 Z1,.int .u64 Z2] _ from hT).c6;skip
 go_upto_region 2 with (first | (go_at_call 9;refine (hin1 _).mono ?_;rintro e v0 ⟨rfl,g0⟩))
 have gs0:Kp v0 (v0.alloc (.cells #[.float .f64 A1,.float .f64 A2] 29)):=(Kp.refl _).alloc _
 have hA:BK (v0.alloc (.cells #[.float .f64 A1,.float .f64 A2] 29)) v0.heap.size #[.float .f64 A1,.float .f64 A2] 29:=BK.new _ _ _
 replace hT:=(hT.kp g0).kp gs0;replace kw:=Kp.trans (Kp.trans kw g0) gs0
 generalize v0.alloc (.cells #[.float .f64 A1,.float .f64 A2] 29)=W1 at hT hA  kw ⊢
 generalize v0.heap.size=ba at hA ⊢
 clear gs0 g0 t0 tz0 t1 tz1 t2 tz2 t3 tz3 t4 tz4 t5 tz5
 obtain ⟨t0,tz0,t1,tz1,t2,tz2,t3,tz3,t4,tz4,t5,tz5⟩:=(show BK W1 (w.heap.size) #[.int .u64 X1,.int .u64 X2,.int .u64 Y1,.int .u64 Y2,.int .u64 Z1,.int .u64 Z2] _ from hT).c6;skip
 go_upto_region 3 with (first | (go_at_call 9;refine (hin2 _).mono ?_;rintro e v1 ⟨rfl,g1⟩))
 have gs1:Kp v1 (v1.alloc (.cells #[.float .f64 B1,.float .f64 B2] 29)):=(Kp.refl _).alloc _
 have hB:BK (v1.alloc (.cells #[.float .f64 B1,.float .f64 B2] 29)) v1.heap.size #[.float .f64 B1,.float .f64 B2] 29:=BK.new _ _ _
 replace hT:=(hT.kp g1).kp gs1;replace hA:=(hA.kp g1).kp gs1;replace kw:=Kp.trans (Kp.trans kw g1) gs1
 generalize v1.alloc (.cells #[.float .f64 B1,.float .f64 B2] 29)=W2 at hT hB hA kw ⊢
 generalize v1.heap.size=bb at hB ⊢
 clear gs1 g1 t0 tz0 t1 tz1 t2 tz2 t3 tz3 t4 tz4 t5 tz5
 obtain ⟨t0,tz0,t1,tz1,t2,tz2,t3,tz3,t4,tz4,t5,tz5⟩:=(show BK W2 (w.heap.size) #[.int .u64 X1,.int .u64 X2,.int .u64 Y1,.int .u64 Y2,.int .u64 Z1,.int .u64 Z2] _ from hT).c6;skip
 go_upto_region 4 with (first | (go_at_call 9;refine (hin3 _).mono ?_;rintro e v2 ⟨rfl,g2⟩))
 have gs2:Kp v2 (v2.alloc (.cells #[.float .f64 C1,.float .f64 C2] 29)):=(Kp.refl _).alloc _
 have hC:BK (v2.alloc (.cells #[.float .f64 C1,.float .f64 C2] 29)) v2.heap.size #[.float .f64 C1,.float .f64 C2] 29:=BK.new _ _ _
 replace hT:=(hT.kp g2).kp gs2;replace hA:=(hA.kp g2).kp gs2;replace hB:=(hB.kp g2).kp gs2;replace kw:=Kp.trans (Kp.trans kw g2) gs2
 generalize v2.alloc (.cells #[.float .f64 C1,.float .f64 C2] 29)=W3 at hT hC hA hB kw ⊢
 generalize v2.heap.size=bc at hC ⊢
 clear gs2 g2 t0 tz0 t1 tz1 t2 tz2 t3 tz3 t4 tz4 t5 tz5
 refine Fq.wp_region_grow (by kernel_rfl) (by kernel_rfl) (fun ι _ G hG hall=>?_)
 have cc0:∀ n,(G n).cell? ⟨w.heap.size,0,none⟩=some (.int .u64 X1):=fun n=>Fq.gkeep (hG n) ((hT.cell 0).trans rfl)
 have cc1:∀ n,(G n).cell? ⟨w.heap.size,1,none⟩=some (.int .u64 X2):=fun n=>Fq.gkeep (hG n) ((hT.cell 1).trans rfl)
 have cc2:∀ n,(G n).cell? ⟨w.heap.size,2,none⟩=some (.int .u64 Y1):=fun n=>Fq.gkeep (hG n) ((hT.cell 2).trans rfl)
 have cc3:∀ n,(G n).cell? ⟨w.heap.size,3,none⟩=some (.int .u64 Y2):=fun n=>Fq.gkeep (hG n) ((hT.cell 3).trans rfl)
 have cc4:∀ n,(G n).cell? ⟨w.heap.size,4,none⟩=some (.int .u64 Z1):=fun n=>Fq.gkeep (hG n) ((hT.cell 4).trans rfl)
 have cc5:∀ n,(G n).cell? ⟨w.heap.size,5,none⟩=some (.int .u64 Z2):=fun n=>Fq.gkeep (hG n) ((hT.cell 5).trans rfl)
 have cc6:∀ n,(G n).cell? ⟨ba,0,none⟩=some (.float .f64 A1):=fun n=>Fq.gkeep (hG n) ((hA.cell 0).trans rfl)
 have cc7:∀ n,(G n).cell? ⟨ba,1,none⟩=some (.float .f64 A2):=fun n=>Fq.gkeep (hG n) ((hA.cell 1).trans rfl)
 have cc8:∀ n,(G n).cell? ⟨bb,0,none⟩=some (.float .f64 B1):=fun n=>Fq.gkeep (hG n) ((hB.cell 0).trans rfl)
 have cc9:∀ n,(G n).cell? ⟨bb,1,none⟩=some (.float .f64 B2):=fun n=>Fq.gkeep (hG n) ((hB.cell 1).trans rfl)
 have cc10:∀ n,(G n).cell? ⟨bc,0,none⟩=some (.float .f64 C1):=fun n=>Fq.gkeep (hG n) ((hC.cell 0).trans rfl)
 have cc11:∀ n,(G n).cell? ⟨bc,1,none⟩=some (.float .f64 C2):=fun n=>Fq.gkeep (hG n) ((hC.cell 1).trans rfl)
 repeat (go_big_quiet_step (first | (go_at_call 11;exact (hp0 _ (Kp.trans kw (hG _))).mono (fun e w' h=>⟨h.1,hall _ (Fq.gtrans (hG _) h.2)⟩)) | (go_at_call_of 10 (Value.agg #[.float .f64 P0a,.float .f64 P0b]);exact (ho0 _).mono (fun e w' h=>⟨h.1,hall _ (Fq.gtrans (hG _) h.2)⟩)) | (go_at_call 12;exact (hr0 _).mono (fun e w' h=>⟨h.1,hall _ (Fq.gtrans (hG _) h.2)⟩)) | (go_at_call 13;exact (hp1 _ (Kp.trans kw (hG _))).mono (fun e w' h=>⟨h.1,hall _ (Fq.gtrans (hG _) h.2)⟩)) | (go_at_call_of 10 (Value.agg #[.float .f64 P1a,.float .f64 P1b]);exact (ho1 _).mono (fun e w' h=>⟨h.1,hall _ (Fq.gtrans (hG _) h.2)⟩)) | (go_at_call 14;exact (hr1 _).mono (fun e w' h=>⟨h.1,hall _ (Fq.gtrans (hG _) h.2)⟩)) | (go_at_call 15;exact (hp2 _ (Kp.trans kw (hG _))).mono (fun e w' h=>⟨h.1,hall _ (Fq.gtrans (hG _) h.2)⟩)) | (go_at_call_of 10 (Value.agg #[.float .f64 P2a,.float .f64 P2b]);exact (ho2 _).mono (fun e w' h=>⟨h.1,hall _ (Fq.gtrans (hG _) h.2)⟩)) | (go_at_call 16;exact (hr2 _).mono (fun e w' h=>⟨h.1,hall _ (Fq.gtrans (hG _) h.2)⟩))))
 refine wpQuiet_nil ?_
 rintro _ ⟨nq,rfl⟩
 have gq:Kp W3 (G nq):=hG nq
 clear cc0 cc1 cc2 cc3 cc4 cc5 cc6 cc7 cc8 cc9 cc10 cc11 hall hG
 have gq2:=Kp.trans kw gq
 go_wp2
 exact BR (v:=.bool true) (by simp [results,Tryz.results3,go_sem]) rfl ⟨rfl,gq2⟩

theorem raddslaw_ (a b c d e f:Nat) (ha:a<18446744073709551616) (hb:b<18446744073709551616) (hc:c<18446744073709551616) (hd:d<18446744073709551616) (he:e<18446744073709551616) (hf:f<18446744073709551616) (w:World) (hT0:Tab w) (hQ0:Fq.Tab w):Calls Tryz.prog 3 #[.agg #[.int .u64 ((a:Nat):Int),.int .u64 ((b:Nat):Int),.int .u64 ((c:Nat):Int),.int .u64 ((d:Nat):Int),.int .u64 ((e:Nat):Int),.int .u64 ((f:Nat):Int)]] w fun e w'=>e=.returned (.bool true)∧Kp w w':=by
 obtain ⟨K,hK⟩:∃ K:Nat,K=1074:=⟨_,rfl⟩
 have hT:TT w:=⟨hT0,hQ0⟩
 obtain ⟨Lb,Hb,rb⟩:=Rd.ex a b ha hb
 obtain ⟨Lc,Hc,rc⟩:=Rd.ex c d hc hd
 obtain ⟨L,H,rx⟩:=Rd.ex e f he hf
 have nb:=vd_neg Lb Hb rb.vd
 have nc:=vd_neg Lc Hc rc.vd
 have p1:=fun (W:World) (k:Kp w W)=>paddrev9_ K hK a b c d e f Lb Hb Lc Hc L H rb rc rx W (hT.kp k)
 have q2:=fun (W:World) (k:Kp w W)=>paddrev9_ K hK _ _ c d e f (-Hb) (-Lb) Lc Hc L H (Rd.of nb) rc rx W (hT.kp k)
 have q3:=fun (W:World) (k:Kp w W)=>paddrev9_ K hK _ _ _ _ e f (-Hb) (-Lb) (-Hc) (-Lc) L H (Rd.of nb) (Rd.of nc) rx W (hT.kp k)
 rw [Int.neg_neg,Int.neg_neg] at q2 q3
 have sy:=an_sym L H Lb Hb (-Hc) (-Lc) rb.vd nc
 have p2:=fun (W:World) (k:Kp w W)=>psubw1_ a b c d e f _ _ 0 0 _ _ W (neg9_ a b Lb Hb rb) (fun W2 k2=>q2 W2 (Kp.trans k k2))
 have p3:=fun (W:World) (k:Kp w W)=>psubw2_ a b c d e f _ _ _ _ _ _ W (neg9_ a b Lb Hb rb) (neg9_ c d Lc Hc rc) (fun W2 k2=>q3 W2 (Kp.trans k k2))
 rw [← sy.1,← sy.2] at p3
 exact addlawA_ _ _ _ _ _ _ _ _ _ _ _ _ a b c d e f _ _ _ _ _ _ w (in9_ a b) (in9_ c d) (in9_ e f) p1 (out9_ _ _) (radd21_ a b c d e f Lb Hb Lc Hc L H rb rc rx) p2 (out9_ _ _) (rsub21_ a b c d e f Lb Hb Lc Hc L H rb rc rx) p3 (out9_ _ _) (rsub22_ a b c d e f Lb Hb Lc Hc L H rb rc rx)
end Go.Proofs.YtmpjcknaelgnoaaGreatDoor
