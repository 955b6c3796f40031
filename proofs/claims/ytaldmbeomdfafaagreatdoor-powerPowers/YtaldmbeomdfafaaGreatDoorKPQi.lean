import Derived.Test.YtaldmbeomdfafaaGreatDoorKFIb
import Derived.Test.YtaldmbeomdfafaaGreatDoorKFId
import Derived.Test.YtaldmbeomdfafaaGreatDoorKFIe
set_option maxHeartbeats 1000000
set_option maxRecDepth 20000
namespace Go.Proofs.YtaldmbeomdfafaaGreatDoor
open Go.RowKit
set_option linter.unusedVariables false

theorem rsignX9_ (V:Int) (C N:Nat) (hN:N≤3100000) s p l c q k d (B1:Nat) (w:World) (h:XP B1 w s p l c q k d V C N):Calls Tryz.prog 30 #[.agg #[.bool s,.slice p l c,.slice q k d]] w fun e w'=>e = .returned (.int .i64 (cmI V 0))∧Kp w w':=by
 obtain ⟨a,b,o1,o2,f1,f2,f3,f4,f5⟩:=h
 have h:=rsign_ s (.slice p l c) (.slice q k d) a w o1.ls (by omega)
 have hb:(0:Int) < (b:Int):=by omega
 have hc:(0:Int) < (C:Int):=by omega
 have e:(if a = 0 then (0:Int) else if s then -1 else 1) = cmI V 0:=by
  by_cases z:a = 0
  ·rw [if_pos z]
   have e:V * (b:Int) = 0:=by rw [← f3,z];unfold rvI;simp
   rcases Int.mul_eq_zero.1 e with c | c
   ·rw [c,cmI_eq]
   ·omega
  ·rw [if_neg z]
   have ha:(0:Int) < (a:Int) * (C:Int):=Int.mul_pos (by omega) hc
   cases s
   ·have e:(a:Int) * (C:Int) = V * (b:Int):=by rw [← f3];unfold rvI;simp
    have hv:0 < V:=by
     rcases Int.lt_or_le 0 V with g | g
     ·exact g
     ·have:=Int.mul_le_mul_of_nonneg_right g (show (0:Int)≤(b:Int) by omega)
      rw [← e,Int.zero_mul] at this;omega
    rw [if_neg (by decide),cmI_gt _ _ hv]
   ·have e:(a:Int) * (C:Int) = (-V) * (b:Int):=by rw [Int.neg_mul,← f3];unfold rvI;simp [Int.neg_mul]
    have hv:0 < -V:=by
     rcases Int.lt_or_le 0 (-V) with g | g
     ·exact g
     ·have:=Int.mul_le_mul_of_nonneg_right g (show (0:Int)≤(b:Int) by omega)
      rw [← e,Int.zero_mul] at this;omega
    rw [if_pos rfl,cmI_lt _ _ (by omega)]
 rw [e] at h
 exact h
def sE (i V:Int):Int:=if i = 0 then cmI V 0 else i
theorem signX9_ (i V:Int) (C N:Nat) (hN:N≤3100000) s p l c q k d (B1:Nat) (w:World) (h:XP B1 w s p l c q k d V C N):Calls Tryz.prog 130 #[.agg #[.int .i64 i,.bool s,.slice p l c,.slice q k d]] w fun e w'=>e = .returned (.int .i64 (sE i V))∧Kp w w':=by
 unfold sE
 by_cases z:i = 0
 ·subst z
  rw [if_pos rfl]
  exact signZ_ _ s p l c q k d w (fun W g=>rsignX9_ V C N hN s p l c q k d B1 W (h.kp g))
 ·rw [if_neg z]
  exact signI_ i s p l c q k d (by simpa [bne] using z) w
def TX (b N:Nat) (i1 V1:Int) (C1:Nat) (i2 V2:Int) (C2:Nat) (W:World) (v:Value):Prop:=∃ (s:Bool) (p:Option Addr) (l c:Nat) (q:Option Addr) (k d:Nat) (s2:Bool) (p2:Option Addr) (l2 c2:Nat) (q2:Option Addr) (k2 d2:Nat),v = .agg #[.bool false,.int .i64 i1,.bool s,.slice p l c,.slice q k d,.int .i64 i2,.bool s2,.slice p2 l2 c2,.slice q2 k2 d2]∧XP b W s p l c q k d V1 C1 N∧XP b W s2 p2 l2 c2 q2 k2 d2 V2 C2 N
theorem TX.kp {b N:Nat} {i1 V1:Int} {C1:Nat} {i2 V2:Int} {C2:Nat} {W W':World} {v:Value} (h:TX b N i1 V1 C1 i2 V2 C2 W v) (g:Kp W W'):TX b N i1 V1 C1 i2 V2 C2 W' v:=by
 obtain ⟨s,p,l,c,q,k,d,s2,p2,l2,c2,q2,k2,d2,rfl,a1,a2⟩:=h
 exact ⟨s,p,l,c,q,k,d,s2,p2,l2,c2,q2,k2,d2,rfl,a1.kp g,a2.kp g⟩
theorem cmI_p (V:Int) (h:0 < V):cmI V 0 = 1:=cmI_gt V 0 h
theorem upT_ (i1 V1:Int) (C1:Nat) (i2 V2:Int) (C2:Nat) (o1:i1 = 0∨i1 = -1) (o2:i2 = 0∨i2 = 1) (hH:i2 = 0→0 < V2) (W:World) (v:Value) (h:TX 0 1540000 i1 V1 C1 i2 V2 C2 W v):Calls Tryz.prog 133 #[v] W fun e w'=>∃ v',e = .returned v'∧TX 0 1540000 0 (if i1 = -1∨V1 < 0 then 0 else V1) (if i1 = -1∨V1 < 0 then 1 else C1) i2 V2 C2 w' v'∧Kp W w':=by
 obtain ⟨s,p,l,c,q,k,d,s2,p2,l2,c2,q2,k2,d2,rfl,a1,a2⟩:=h
 have hS:=fun (W':World) (y:Kp W W')=>signX9_ i2 V2 C2 1540000 (by decide) s2 p2 l2 c2 q2 k2 d2 0 W' (a2.kp y)
 have tS:¬ (sE i2 V2≤0):=by
  unfold sE
  rcases o2 with z | z
  ·rw [if_pos z,cmI_p V2 (hH z)];decide
  ·rw [z,if_neg (by decide)];decide
 have hc2:C2≠0:=by obtain ⟨a,b,-,-,hx⟩:=a2;exact hx.2.1
 by_cases cz:i1 = -1∨V1 < 0
 ·rw [if_pos cz,if_pos cz]
  refine (upB_ i1 i2 (sE i2 V2) s p l c q k d s2 p2 l2 c2 q2 k2 d2 tS W hS (fun W' s3 p3 l3 c3 q3 k3 d3 y hz=>?_)).mono ?_
  ·obtain ⟨B3,hz⟩:=hz
   refine greaterB_ i1 0 1 s p l c q k d s3 p3 l3 c3 q3 k3 d3 (by decide) W' (fun W2 y2=>?_)
   by_cases ci:i1 = -1
   ·rw [ci]
    exact endG_ 0 (-1) s3 p3 l3 c3 q3 k3 d3 s p l c q k d (by decide) (by decide) W2
   ·have i0:i1 = 0:=by omega
    have hv:V1 < 0:=by omega
    rw [i0]
    refine endZ_ 1 s3 p3 l3 c3 q3 k3 d3 s p l c q k d W2 (fun W3 y3=>?_)
    have hc:=xcmp_ B3 0 0 V1 1 C1 1500 1540000 (by decide) (by decide) s3 p3 l3 c3 q3 k3 d3 s p l c q k d W3 ((hz.kp (y2.trans y3)).x0) (a1.kp (y.trans (y2.trans y3)))
    rw [Int.zero_mul,show (V1 * ((1:Nat):Int)) = V1 from by omega,cmI_gt 0 V1 hv] at hc
    exact hc
  ·rintro e w' ⟨s3,p3,l3,c3,q3,k3,d3,rfl,hp,g⟩
   exact ⟨_,rfl,⟨s3,p3,l3,c3,q3,k3,d3,s2,p2,l2,c2,q2,k2,d2,rfl,(hp.x0.as 0 1 1540000 (by decide) rfl (by decide)).mono (Nat.zero_le _),a2.kp g⟩,g⟩
 ·rw [if_neg cz,if_neg cz]
  have i0:i1 = 0:=by omega
  have hv:0≤V1:=by omega
  subst i0
  refine (upA_ 0 i2 (sE i2 V2) s p l c q k d s2 p2 l2 c2 q2 k2 d2 tS W hS (fun W' s3 p3 l3 c3 q3 k3 d3 y hz=>?_)).mono ?_
  ·obtain ⟨B3,hz⟩:=hz
   refine greaterA_ 0 0 (cmI 0 V1) s p l c q k d s3 p3 l3 c3 q3 k3 d3 (by have:=(cmI_le0 0 V1).2 hv;omega) W' (fun W2 y2=>?_)
   refine endZ_ _ s3 p3 l3 c3 q3 k3 d3 s p l c q k d W2 (fun W3 y3=>?_)
   have hc:=xcmp_ B3 0 0 V1 1 C1 1500 1540000 (by decide) (by decide) s3 p3 l3 c3 q3 k3 d3 s p l c q k d W3 ((hz.kp (y2.trans y3)).x0) (a1.kp (y.trans (y2.trans y3)))
   rw [Int.zero_mul,show (V1 * ((1:Nat):Int)) = V1 from by omega] at hc
   exact hc
  ·rintro e w' ⟨rfl,g⟩
   exact ⟨_,rfl,⟨s,p,l,c,q,k,d,s2,p2,l2,c2,q2,k2,d2,rfl,a1.kp g,a2.kp g⟩,g⟩
theorem upTZ_ (i1 V1:Int) (C1:Nat) (i2 V2:Int) (C2:Nat) (hH:sE i2 V2≤0) (W:World) (v:Value) (h:TX 0 1540000 i1 V1 C1 i2 V2 C2 W v):Calls Tryz.prog 133 #[v] W fun e w'=>∃ v',e = .returned v'∧SV0 true v'∧Kp W w':=by
 obtain ⟨s,p,l,c,q,k,d,s2,p2,l2,c2,q2,k2,d2,rfl,a1,a2⟩:=h
 exact upN_ i1 i2 (sE i2 V2) s p l c q k d s2 p2 l2 c2 q2 k2 d2 hH W (fun (W':World) (y:Kp W W')=>signX9_ i2 V2 C2 1540000 (by decide) s2 p2 l2 c2 q2 k2 d2 0 W' (a2.kp y))
theorem ovX_ (W:World) (v:Value) (h:SV0 true v):Calls Tryz.prog 132 #[v] W fun e w'=>∃ v',e = .returned v'∧SV0 true v'∧Kp W w':=by
 obtain ⟨i,j,s,p,l,c,q,k,d,s2,p2,l2,c2,q2,k2,d2,rfl⟩:=h
 refine (ovE_ i j s p l c q k d s2 p2 l2 c2 q2 k2 d2 W).mono ?_
 rintro e w' ⟨rfl,g⟩
 exact ⟨_,rfl,⟨i,j,s,p,l,c,q,k,d,s2,p2,l2,c2,q2,k2,d2,rfl⟩,g⟩
theorem turnX9_ (i V:Int) (C N:Nat) (hi:i = 0∨i = 1∨i = -1) (hN:N≤3100000) s p l c q k d (B1:Nat) (w:World) (h:XP B1 w s p l c q k d V C N):Calls Tryz.prog 160 #[.agg #[.int .i64 i,.bool s,.slice p l c,.slice q k d]] w fun e w'=>∃ s2 p2 l2 c2 q2 k2 d2,e = .returned (.agg #[.int .i64 (-i),.bool s2,.slice p2 l2 c2,.slice q2 k2 d2])∧XP w.heap.size w' s2 p2 l2 c2 q2 k2 d2 (-V) C N∧Kp w w':=by
 have hs:=fun (W:World) (g:Kp w W)=>xneg_ V C N hN s p l c q k d B1 W (h.kp g)
 rcases hi with rfl | rfl | rfl
 ·exact turnXZ_ (-V) C N s p l c q k d w hs
 ·exact turnXP_ (-V) C N s p l c q k d w hs
 ·exact turnXM_ (-V) C N s p l c q k d w hs
theorem minusT_ (i1 V1:Int) (C1:Nat) (i2 V2:Int) (C2:Nat) (b b' N:Nat) (o1:i1 = 0∨i1 = 1∨i1 = -1) (o2:i2 = 0∨i2 = 1∨i2 = -1) (hN:N≤3100000) (W:World) (v:Value) (hb:b'≤W.heap.size) (h:TX b N i1 V1 C1 i2 V2 C2 W v):Calls Tryz.prog 134 #[v] W fun e w'=>∃ v',e = .returned v'∧TX b' N (-i2) (-V2) C2 (-i1) (-V1) C1 w' v'∧Kp W w':=by
 obtain ⟨s,p,l,c,q,k,d,s2,p2,l2,c2,q2,k2,d2,rfl,a1,a2⟩:=h
 have h1:=fun (W':World) (y:Kp W W')=>turnX9_ i1 V1 C1 N o1 hN s p l c q k d b W' (a1.kp y)
 have h2:=fun (W':World) (y:Kp W W')=>turnX9_ i2 V2 C2 N o2 hN s2 p2 l2 c2 q2 k2 d2 b W' (a2.kp y)
 refine (minusNX_ i1 i2 (-i1) (-i2) _ _ _ _ _ _ s p l c q k d s2 p2 l2 c2 q2 k2 d2 W h1 h2).mono ?_
 rintro e w' ⟨s5,p5,l5,c5,q5,k5,d5,s6,p6,l6,c6,q6,k6,d6,rfl,x1,x2,g⟩
 exact ⟨_,rfl,⟨s5,p5,l5,c5,q5,k5,d5,s6,p6,l6,c6,q6,k6,d6,rfl,x1.mono hb,x2.mono hb⟩,g⟩
theorem invX9_ (i V:Int) (C:Nat) (hi:i = 0∨i = 1) (hV:i = 0→0 < V) s p l c q k d (B1:Nat) (w:World) (h:XP B1 w s p l c q k d V C 1540000):Calls Tryz.prog 158 #[.agg #[.int .i64 i,.bool s,.slice p l c,.slice q k d]] w fun e w'=>∃ s3 p3 l3 c3 q3 k3 d3,e = .returned (.agg #[.int .i64 0,.bool s3,.slice p3 l3 c3,.slice q3 k3 d3])∧XP w.heap.size w' s3 p3 l3 c3 q3 k3 d3 (if i = 0 then (C:Int) else 0) (if i = 0 then V.natAbs else 1) 3083003∧Kp w w':=by
 by_cases z:i = 0
 ·subst z
  rw [if_pos rfl,if_pos rfl]
  have hv:=hV rfl
  have hU:V.natAbs≠0:=by omega
  have e0:rvI false V.natAbs = V:=by unfold rvI;rw [if_neg (by decide)];omega
  refine (invF_ (C:Int) V.natAbs 3083003 s p l c q k d w (fun W s4 p4 l4 c4 q4 k4 d4 g h4=>?_))
  refine (xquoW_ 1 V.natAbs false hU 1 C 1500 1540000 (by decide) s4 p4 l4 c4 q4 k4 d4 s p l c q k d 0 B1 W h4 (by rw [e0];exact h.kp g)).mono ?_
  rintro e w' ⟨s3,p3,l3,c3,q3,k3,d3,rfl,hp,g2⟩
  refine ⟨s3,p3,l3,c3,q3,k3,d3,rfl,hp.as _ _ 3083003 hU ?_ (by decide),g2⟩
  rw [show rvI false 1 = 1 from rfl,Nat.one_mul,Int.one_mul,Int.one_mul]
 ·rw [if_neg z,if_neg z]
  refine (invI_ i s p l c q k d (by simpa [bne] using z) w).mono ?_
  rintro e w' ⟨s3,p3,l3,c3,q3,k3,d3,rfl,hp,g⟩
  exact ⟨s3,p3,l3,c3,q3,k3,d3,rfl,hp.as 0 1 3083003 (by decide) rfl (by decide),g⟩
theorem overT_ (V1:Int) (C1:Nat) (i2 V2:Int) (C2:Nat) (b:Nat) (h1:0≤V1) (o2:i2 = 0∨i2 = 1) (hH:i2 = 0→0 < V2) (W:World) (v:Value) (hb:b≤W.heap.size) (h:TX 0 1540000 0 V1 C1 i2 V2 C2 W v):Calls Tryz.prog 132 #[v] W fun e w'=>∃ v',e = .returned v'∧TX b 3083003 0 (if i2 = 0 then (C2:Int) else 0) (if i2 = 0 then V2.natAbs else 1) (if V1 = 0 then 1 else 0) (if V1 = 0 then 0 else (C1:Int)) (if V1 = 0 then 1 else V1.natAbs) w' v'∧Kp W w':=by
 obtain ⟨s,p,l,c,q,k,d,s2,p2,l2,c2,q2,k2,d2,rfl,a1,a2⟩:=h
 have hS:=fun (W':World) (y:Kp W W')=>signX9_ 0 V1 C1 1540000 (by decide) s p l c q k d 0 W' (a1.kp y)
 have hB:=fun (W':World) (y:Kp W W')=>invX9_ i2 V2 C2 o2 hH s2 p2 l2 c2 q2 k2 d2 0 W' (a2.kp y)
 by_cases cz:0 < V1
 ·have hA:=fun (W':World) (y:Kp W W')=>invX9_ 0 V1 C1 (Or.inl rfl) (fun _=>cz) s p l c q k d 0 W' (a1.kp y)
  rw [if_pos rfl,if_pos rfl] at hA
  refine (ovT_ 0 i2 (sE 0 V1) _ _ _ _ _ _ s p l c q k d s2 p2 l2 c2 q2 k2 d2 (by unfold sE;rw [if_pos rfl,cmI_p V1 cz];decide) W hS hB hA).mono ?_
  rintro e w' ⟨s3,p3,l3,c3,q3,k3,d3,s4,p4,l4,c4,q4,k4,d4,rfl,x1,x2,g⟩
  refine ⟨_,rfl,⟨s3,p3,l3,c3,q3,k3,d3,s4,p4,l4,c4,q4,k4,d4, ?_,x1.mono hb, ?_⟩,g⟩
  ·rw [if_neg (show ¬ V1 = 0 by omega)]
  ·rw [if_neg (show ¬ V1 = 0 by omega),if_neg (show ¬ V1 = 0 by omega)];exact x2.mono hb
 ·have hm0:V1 = 0:=by omega
  refine (ovF_ 0 i2 (sE 0 V1) _ _ _ s p l c q k d s2 p2 l2 c2 q2 k2 d2 (by unfold sE;rw [if_pos rfl,hm0,cmI_eq];decide) W hS hB).mono ?_
  rintro e w' ⟨s3,p3,l3,c3,q3,k3,d3,s4,p4,l4,c4,q4,k4,d4,rfl,x1,x2,g⟩
  refine ⟨_,rfl,⟨s3,p3,l3,c3,q3,k3,d3,s4,p4,l4,c4,q4,k4,d4, ?_,x1.mono hb, ?_⟩,g⟩
  ·rw [if_pos hm0]
  ·rw [if_pos hm0,if_pos hm0];exact (x2.mono hb).as 0 1 3083003 (by decide) rfl (by decide)
set_option linter.unusedVariables false
theorem ref_div (d:Int) (ng neg:Bool) (x D a b A B:Nat) (hD:D≠0) (hB:B≠0) (hF:FracOf x D 0 a b) (hg:x≠0→ng = neg) (hx:x * B = A * D):refW 53 1074 2098 9218868437227405311 0 d ng a b = divW d neg A B:=by
 have h:=refW_fin d ng neg x D a b 0 hF hg 1074 rfl
 rw [h]
 unfold divW
 by_cases c:x = 0
 ·have h0:A = 0:=by
   rw [c,Nat.zero_mul] at hx
   rcases Nat.mul_eq_zero.1 hx.symm with h1 | h1
   ·exact h1
   ·exact absurd h1 hD
  rw [if_pos c,if_pos h0]
 ·have h0:A≠0:=fun h1=>by
   rw [h1,Nat.zero_mul] at hx
   rcases Nat.mul_eq_zero.1 hx with h2 | h2
   ·exact c h2
   ·exact hB h2
  rw [if_neg c,if_neg h0,rV_ratio _ _ x D A B _ (by omega) (by omega) hx]
  rfl
set_option linter.unusedVariables false

theorem divW_g3 (K:Nat) (hK:K = 1074) (d:Int) (n:Bool) (P B:Nat):divW d n P B = pz (g53 d (2 ^ K) B (if n then -((P:Nat):Int) else ((P:Nat):Int))):=by
 unfold divW g53 gpl
 rw [show (1074:Int) = (K:Int) from by omega]
 by_cases z:P = 0
 ·rw [if_pos z,z,if_pos (by cases n <;> rfl)];rfl
 ·rw [if_neg z,if_neg (by cases n <;> simp <;> omega),mdW_pz,rV_pos]
  cases n
  ·simp only [Bool.false_eq_true,if_false]
   rw [if_neg (show ¬ ((P:Nat):Int) < 0 by omega),show ((P:Nat):Int).natAbs = P from by omega]
  ·simp only [if_true]
   rw [if_pos (show -((P:Nat):Int) < 0 by omega),show (-((P:Nat):Int)).natAbs = P from by omega]
theorem XP.qv {base:Nat} {w:World} {s:Bool} {p:Option Addr} {l c:Nat} {q:Option Addr} {k d:Nat} {V:Int} {C N:Nat} {K:Nat} (hK:K = 1074) (hN:N≤4194304) (h:XP base w s p l c q k d V C N):QP base w s p l c q k d (fun dd=>pz (g53 dd (2 ^ K) C V)):=by
 obtain ⟨a,b,h1,h2,f1,f0,f3,f4,f5⟩:=h
 refine ⟨a,b,h1,h2,f1,by omega,by omega,fun dd=>?_⟩
 show _ = pz (g53 dd (2 ^ K) C V)
 have pc:(0:Int) < (C:Int):=by omega
 have pb:(0:Int) < (b:Int):=by omega
 have e:=divW_g3 K hK dd (decide (V < 0)) V.natAbs C
 rw [show (if decide (V < 0) = true then -((V.natAbs:Nat):Int) else ((V.natAbs:Nat):Int)) = V from by
  by_cases v:V < 0
  ·rw [if_pos (decide_eq_true v)];omega
  ·rw [if_neg (by simpa using v)];omega] at e
 rw [← e]
 refine ref_div dd s (decide (V < 0)) a b a b V.natAbs C f1 f0 ⟨f1,Iff.rfl,fun d' p' t' _=>by rw [Int.add_zero],by omega,by omega⟩ (fun hx=>?_) ?_
 ·have pa:(0:Int) < (a:Int):=by omega
  have k1:=Int.mul_pos pa pc
  unfold rvI at f3
  cases s
  ·rw [if_neg (by decide)] at f3
   refine (decide_eq_false (fun hv=>?_)).symm
   have k2:=Int.mul_neg_of_neg_of_pos hv pb
   omega
  ·rw [if_pos rfl,Int.neg_mul] at f3
   refine (decide_eq_true ?_).symm
   by_cases hv:V < 0
   ·exact hv
   ·have k2:=Int.mul_nonneg (show 0≤V by omega) (Int.le_of_lt pb)
    omega
 ·have k:=congrArg Int.natAbs f3
  rw [Int.natAbs_mul,Int.natAbs_mul,Int.natAbs_natCast,Int.natAbs_natCast,show (rvI s a).natAbs = a from by unfold rvI;cases s <;> simp] at k
  exact k
theorem g53_scale (d:Int) (c1 c2 k:Nat) (hc:0 < c2) (hk:0 < k) (V:Int):g53 d c1 (c2 * k) (V * (k:Int)) = g53 d c1 c2 V:=by
 unfold g53 gpl
 by_cases z:V = 0
 ·rw [z,Int.zero_mul,if_pos rfl,if_pos rfl]
 have e:∀ s:Int,rU s 53 ((V * (k:Int)).natAbs * c1) (c2 * k) = rU s 53 (V.natAbs * c1) c2:=fun s=>by
  have hm:(V * (k:Int)).natAbs = V.natAbs * k:=by rw [Int.natAbs_mul,Int.natAbs_natCast]
  rw [hm]
  have q:V.natAbs * k * c1 * c2 = V.natAbs * c1 * (c2 * k):=by
   rw [Nat.mul_assoc,Nat.mul_assoc,Nat.mul_assoc,Nat.mul_comm c2 k,Nat.mul_left_comm k c1 c2]
  exact Nat.le_antisymm (rU_mono s 53 _ _ _ _ (Nat.mul_pos hc hk) hc (by decide) (Nat.le_of_eq q)) (rU_mono s 53 _ _ _ _ hc (Nat.mul_pos hc hk) (by decide) (Nat.le_of_eq q.symm))
 have pk:(0:Int) < (k:Int):=by omega
 have nz:V * (k:Int)≠0:=Int.mul_ne_zero z (by omega)
 have sg:V * (k:Int) < 0 ↔ V < 0:=by
  constructor
  ·intro h
   rcases Int.lt_or_le V 0 with x | x
   ·exact x
   ·have:=Int.mul_nonneg x (Int.le_of_lt pk);omega
  ·exact fun h=>Int.mul_neg_of_neg_of_pos h pk
 rw [if_neg z,if_neg nz,e,e]
 by_cases c:V < 0
 ·rw [if_pos c,if_pos (sg.2 c)]
 ·rw [if_neg c,if_neg (fun h=>c (sg.1 h))]
set_option linter.unusedVariables false

def QS (b:Nat) (i j:Int) (ZA ZB:Int→Nat) (W:World) (v:Value):Prop:=∃ (s:Bool) (p:Option Addr) (l c:Nat) (q:Option Addr) (k d:Nat) (s2:Bool) (p2:Option Addr) (l2 c2:Nat) (q2:Option Addr) (k2 d2:Nat),v = .agg #[.bool false,.int .i64 i,.bool s,.slice p l c,.slice q k d,.int .i64 j,.bool s2,.slice p2 l2 c2,.slice q2 k2 d2]∧(i = 0→QP b W s p l c q k d ZA)∧(j = 0→QP b W s2 p2 l2 c2 q2 k2 d2 ZB)
theorem QS.set {b:Nat} {i j:Int} {ZA ZB:Int→Nat} {W:World} {v:Value} (h:QS b i j ZA ZB W v) {x:Addr} (hx:x.block < b) (u:Value):QS b i j ZA ZB (W.setCell x u) v:=by
 obtain ⟨s,p,l,c,q,k,d,s2,p2,l2,c2,q2,k2,d2,rfl,a1,a2⟩:=h
 exact ⟨s,p,l,c,q,k,d,s2,p2,l2,c2,q2,k2,d2,rfl,fun y=>(a1 y).set hx u,fun y=>(a2 y).set hx u⟩
theorem QS.mono {b b':Nat} {i j:Int} {ZA ZB:Int→Nat} {W:World} {v:Value} (h:QS b i j ZA ZB W v) (g:b'≤b):QS b' i j ZA ZB W v:=by
 obtain ⟨s,p,l,c,q,k,d,s2,p2,l2,c2,q2,k2,d2,rfl,a1,a2⟩:=h
 exact ⟨s,p,l,c,q,k,d,s2,p2,l2,c2,q2,k2,d2,rfl,fun y=>(a1 y).mono g,fun y=>(a2 y).mono g⟩
theorem TX.qs (K:Nat) (hK:K = 1074) {b N:Nat} (hN:N≤4194304) {i1 V1:Int} {C1:Nat} {i2 V2:Int} {C2:Nat} {W:World} {v:Value} (h:TX b N i1 V1 C1 i2 V2 C2 W v):QS b i1 i2 (fun dd=>pz (g53 dd (2 ^ K) C1 V1)) (fun dd=>pz (g53 dd (2 ^ K) C2 V2)) W v:=by
 obtain ⟨s,p,l,c,q,k,d,s2,p2,l2,c2,q2,k2,d2,rfl,a1,a2⟩:=h
 exact ⟨s,p,l,c,q,k,d,s2,p2,l2,c2,q2,k2,d2,rfl,fun _=>a1.qv hK hN,fun _=>a2.qv hK hN⟩
theorem invTO_ (i1 V1:Int) (C1:Nat) (i2 V2:Int) (C2:Nat) (h1:i1 = 0) (h2:i2 = 0) (v1:V1 = 0) (v2:V2 = 0) (W:World) (v:Value) (h:TX 0 1540000 i1 V1 C1 i2 V2 C2 W v):Calls Tryz.prog 98 #[v] W fun e w'=>∃ v',e = .returned v'∧SV0 true v'∧Kp W w':=by
 subst h1 h2 v1 v2
 have h9:=h
 have s0:sE 0 0≤0:=by unfold sE;rw [if_pos rfl,cmI_eq];decide
 obtain ⟨s,p,l,c,q,k,d,s2,p2,l2,c2,q2,k2,d2,rfl,a1,a2⟩:=h
 refine inv6c_ false _ _ s p l c q k d s2 p2 l2 c2 q2 k2 d2 (fun _ v=>SV0 true v) (fun _ v=>SV0 true v) (TX 0 1540000 (-0) (-0) C2 (-0) (-0) C1) (fun _ v=>SV0 true v) (fun _ v=>SV0 true v) (fun _ v=>SV0 true v) (fun _ v=>SV0 true v) W (fun _ _ _ _ _ h=>h) (fun _ _ _ _ h=>h) (fun W' y _=>upTZ_ 0 0 C1 0 0 C2 s0 W' _ (h9.kp y)) (fun W' v _ _ h=>ovX_ W' v h) (fun W' y _=>minusT_ 0 0 C1 0 0 C2 0 0 1540000 (Or.inl rfl) (Or.inl rfl) (by decide) W' _ (Nat.zero_le _) (h9.kp y)) (fun W' v _ _ h=>upTZ_ (-0) (-0) C2 (-0) (-0) C1 (by rw [Int.neg_zero];exact s0) W' v h) (fun W' v _ _ h=>ovX_ W' v h) (fun W' v _ _ h=>minusX_ W' v h) ?_
 rintro W' u v _ _ ⟨i1,j1,s3,p3,l3,c3,q3,k3,d3,s4,p4,l4,c4,q4,k4,d4,rfl⟩ ⟨i2,j2,s5,p5,l5,c5,q5,k5,d5,s6,p6,l6,c6,q6,k6,d6,rfl⟩
 refine (hullE1_ i1 j1 i2 j2 s3 p3 l3 c3 q3 k3 d3 s4 p4 l4 c4 q4 k4 d4 s5 p5 l5 c5 q5 k5 d5 s6 p6 l6 c6 q6 k6 d6 true W').mono ?_
 rintro e w' ⟨rfl,g⟩
 exact ⟨true,i2,j2,s5,p5,l5,c5,q5,k5,d5,s6,p6,l6,c6,q6,k6,d6,rfl,⟨i2,j2,s5,p5,l5,c5,q5,k5,d5,s6,p6,l6,c6,q6,k6,d6,rfl⟩,g⟩
theorem invTA_ (K:Nat) (hK:K = 1074) (V1:Int) (C1:Nat) (i2 V2:Int) (C2:Nat) (h1:0≤V1) (o2:i2 = 0∨i2 = 1) (hH:i2 = 0→0 < V2) (W:World) (v:Value) (h:TX 0 1540000 0 V1 C1 i2 V2 C2 W v):Calls Tryz.prog 98 #[v] W fun e w'=>∃ v',e = .returned v'∧QS (W.heap.size + 2) 0 (if V1 = 0 then 1 else 0) (fun dd=>pz (g53 dd (2 ^ K) (if i2 = 0 then (V2).natAbs else 1) (if i2 = 0 then (C2:Int) else 0))) (fun dd=>pz (g53 dd (2 ^ K) (if V1 = 0 then 1 else V1.natAbs) (if V1 = 0 then 0 else (C1:Int)))) w' v'∧Kp W w':=by
 have h9:=h
 have s1:sE (-0) (-V1)≤0:=by
  unfold sE;rw [Int.neg_zero,if_pos rfl]
  exact (cmI_le0 _ _).2 (by omega)
 have o2':i2 = 0∨i2 = 1∨i2 = -1:=by omega
 obtain ⟨s,p,l,c,q,k,d,s2,p2,l2,c2,q2,k2,d2,rfl,a1,a2⟩:=h
 refine inv6c_ false _ _ s p l c q k d s2 p2 l2 c2 q2 k2 d2 (TX 0 1540000 0 V1 C1 i2 V2 C2) (TX (W.heap.size + 2) 3083003 0 _ _ _ _ _) (TX 0 1540000 (-i2) (-V2) C2 (-0) (-V1) C1) (fun _ v=>SV0 true v) (fun _ v=>SV0 true v) (fun _ v=>SV0 true v) _ W (fun _ _ _ _ hx h=>h.set hx _) (fun _ _ _ y h=>h.kp y) (fun W' y _=>?_) (fun W' v _ hb h=>overT_ V1 C1 i2 V2 C2 _ h1 o2 hH W' v hb h) (fun W' y _=>minusT_ 0 V1 C1 i2 V2 C2 0 0 1540000 (Or.inl rfl) o2' (by decide) W' _ (Nat.zero_le _) (h9.kp y)) (fun W' v _ _ h=>upTZ_ _ _ C2 (-0) (-V1) C1 s1 W' v h) (fun W' v _ _ h=>ovX_ W' v h) (fun W' v _ _ h=>minusX_ W' v h) ?_
 ·have q:=upT_ 0 V1 C1 i2 V2 C2 (Or.inl rfl) o2 hH W' _ (h9.kp y)
  rw [if_neg (show ¬ ((0:Int) = -1∨V1 < 0) by omega),if_neg (show ¬ ((0:Int) = -1∨V1 < 0) by omega)] at q
  exact q
 rintro W' u v _ _ hu ⟨i9,j9,s5,p5,l5,c5,q5,k5,d5,s6,p6,l6,c6,q6,k6,d6,rfl⟩
 have q:=hu.qs K hK (by decide)
 obtain ⟨s3,p3,l3,c3,q3,k3,d3,s4,p4,l4,c4,q4,k4,d4,rfl,x1,x2⟩:=q
 refine (hullE2_ _ _ i9 j9 s3 p3 l3 c3 q3 k3 d3 s4 p4 l4 c4 q4 k4 d4 s5 p5 l5 c5 q5 k5 d5 s6 p6 l6 c6 q6 k6 d6 W').mono ?_
 rintro e w' ⟨rfl,g⟩
 exact ⟨false,_,_,s3,p3,l3,c3,q3,k3,d3,s4,p4,l4,c4,q4,k4,d4,rfl,⟨s3,p3,l3,c3,q3,k3,d3,s4,p4,l4,c4,q4,k4,d4,rfl,fun y=>(x1 y).kp g,fun y=>(x2 y).kp g⟩,g⟩
theorem invTB_ (K:Nat) (hK:K = 1074) (i1 V1:Int) (C1:Nat) (V2:Int) (C2:Nat) (h2:V2≤0) (o1:i1 = 0∨i1 = -1) (hL:i1 = 0→V1 < 0) (W:World) (v:Value) (h:TX 0 1540000 i1 V1 C1 0 V2 C2 W v):Calls Tryz.prog 98 #[v] W fun e w'=>∃ v',e = .returned v'∧QS (W.heap.size + 2) (if V2 = 0 then -1 else 0) 0 (fun dd=>pz (g53 dd (2 ^ K) (if V2 = 0 then 1 else V2.natAbs) (if V2 = 0 then 0 else -(C2:Int)))) (fun dd=>pz (g53 dd (2 ^ K) (if i1 = 0 then V1.natAbs else 1) (if i1 = 0 then -(C1:Int) else 0))) w' v'∧Kp W w':=by
 have h9:=h
 have s1:sE 0 V2≤0:=by
  unfold sE;rw [if_pos rfl]
  exact (cmI_le0 _ _).2 h2
 have o1':i1 = 0∨i1 = 1∨i1 = -1:=by omega
 obtain ⟨s,p,l,c,q,k,d,s2,p2,l2,c2,q2,k2,d2,rfl,a1,a2⟩:=h
 refine inv6c_ false _ _ s p l c q k d s2 p2 l2 c2 q2 k2 d2 (fun _ v=>SV0 true v) (fun _ v=>SV0 true v) (TX 0 1540000 (-0) (-V2) C2 (-i1) (-V1) C1) (TX 0 1540000 0 (-V2) C2 (-i1) (-V1) C1) (TX (W.heap.size + 2) 3083003 0 _ _ _ _ _) (TX (W.heap.size + 2) 3083003 _ _ _ _ _ _) _ W (fun _ _ _ _ hx h=>h.set hx _) (fun _ _ _ y h=>h) (fun W' y _=>upTZ_ i1 V1 C1 0 V2 C2 s1 W' _ (h9.kp y)) (fun W' v _ _ h=>ovX_ W' v h) (fun W' y _=>minusT_ i1 V1 C1 0 V2 C2 0 0 1540000 o1' (Or.inl rfl) (by decide) W' _ (Nat.zero_le _) (h9.kp y)) (fun W' v _ _ h=>?_) (fun W' v _ hb h=>overT_ (-V2) C2 (-i1) (-V1) C1 _ (by omega) (by omega) (by omega) W' v hb h) (fun W' v _ hb h=>minusT_ 0 _ _ _ _ _ _ (W.heap.size + 2) 3083003 (Or.inl rfl) (by split <;> omega) (by decide) W' v hb h) ?_
 ·have q:=upT_ (-0) (-V2) C2 (-i1) (-V1) C1 (Or.inl rfl) (by omega) (by omega) W' v h
  rw [if_neg (show ¬ ((-0:Int) = -1∨-V2 < 0) by omega),if_neg (show ¬ ((-0:Int) = -1∨-V2 < 0) by omega)] at q
  exact q
 rintro W' u v _ _ ⟨i9,j9,s5,p5,l5,c5,q5,k5,d5,s6,p6,l6,c6,q6,k6,d6,rfl⟩ hu
 have q:=hu.qs K hK (by decide)
 have e1:-(if -V2 = 0 then (1:Int) else 0) = (if V2 = 0 then -1 else 0):=by
  by_cases z:V2 = 0
  ·rw [if_pos (by omega),if_pos z]
  ·rw [if_neg (by omega),if_neg z];rfl
 have e2:-(if -V2 = 0 then (0:Int) else (C2:Int)) = (if V2 = 0 then 0 else -(C2:Int)):=by
  by_cases z:V2 = 0
  ·rw [if_pos (by omega),if_pos z];rfl
  ·rw [if_neg (by omega),if_neg z]
 have e3:(if -V2 = 0 then 1 else (-V2).natAbs) = (if V2 = 0 then 1 else V2.natAbs):=by
  by_cases z:V2 = 0
  ·rw [if_pos (by omega),if_pos z]
  ·rw [if_neg (by omega),if_neg z,Int.natAbs_neg]
 have e4:-(if -i1 = 0 then (C1:Int) else 0) = (if i1 = 0 then -(C1:Int) else 0):=by
  by_cases z:i1 = 0
  ·rw [if_pos (by omega),if_pos z]
  ·rw [if_neg (by omega),if_neg z];rfl
 have e5:(if -i1 = 0 then (-V1).natAbs else 1) = (if i1 = 0 then V1.natAbs else 1):=by
  by_cases z:i1 = 0
  ·rw [if_pos (by omega),if_pos z,Int.natAbs_neg]
  ·rw [if_neg (by omega),if_neg z]
 rw [e1,e2,e3,e4,e5] at q
 obtain ⟨s3,p3,l3,c3,q3,k3,d3,s4,p4,l4,c4,q4,k4,d4,rfl,x1,x2⟩:=q
 refine (hullE1_ i9 j9 _ _ s5 p5 l5 c5 q5 k5 d5 s6 p6 l6 c6 q6 k6 d6 s3 p3 l3 c3 q3 k3 d3 s4 p4 l4 c4 q4 k4 d4 false W').mono ?_
 rintro e w' ⟨rfl,g⟩
 exact ⟨false,_,_,s3,p3,l3,c3,q3,k3,d3,s4,p4,l4,c4,q4,k4,d4,rfl,⟨s3,p3,l3,c3,q3,k3,d3,s4,p4,l4,c4,q4,k4,d4,rfl,fun y=>(x1 y).kp g,fun y=>(x2 y).kp g⟩,g⟩
theorem invTC_ (i1 V1:Int) (C1:Nat) (i2 V2:Int) (C2:Nat) (o1:i1 = 0∨i1 = -1) (hL:i1 = 0→V1 < 0) (o2:i2 = 0∨i2 = 1) (hH:i2 = 0→0 < V2) (W:World) (v:Value) (h:TX 0 1540000 i1 V1 C1 i2 V2 C2 W v):Calls Tryz.prog 98 #[v] W fun e w'=>∃ v',e = .returned v'∧QS (W.heap.size + 2) (-1) 1 (fun _=>0) (fun _=>0) w' v'∧Kp W w':=by
 have h9:=h
 have o1':i1 = 0∨i1 = 1∨i1 = -1:=by omega
 have o2':i2 = 0∨i2 = 1∨i2 = -1:=by omega
 obtain ⟨s,p,l,c,q,k,d,s2,p2,l2,c2,q2,k2,d2,rfl,a1,a2⟩:=h
 refine inv6c_ false _ _ s p l c q k d s2 p2 l2 c2 q2 k2 d2 (TX 0 1540000 0 0 1 i2 V2 C2) (TX (W.heap.size + 2) 3083003 0 _ _ 1 _ _) (TX 0 1540000 (-i2) (-V2) C2 (-i1) (-V1) C1) (TX 0 1540000 0 0 1 (-i1) (-V1) C1) (TX (W.heap.size + 2) 3083003 0 _ _ 1 _ _) (TX (W.heap.size + 2) 3083003 (-1) _ _ (-0) _ _) _ W (fun _ _ _ _ hx h=>h.set hx _) (fun _ _ _ y h=>h.kp y) (fun W' y _=>?_) (fun W' v _ hb h=>overT_ 0 1 i2 V2 C2 _ (by omega) o2 hH W' v hb h) (fun W' y _=>minusT_ i1 V1 C1 i2 V2 C2 0 0 1540000 o1' o2' (by decide) W' _ (Nat.zero_le _) (h9.kp y)) (fun W' v _ _ h=>?_) (fun W' v _ hb h=>overT_ 0 1 (-i1) (-V1) C1 _ (by omega) (by omega) (by omega) W' v hb h) (fun W' v _ hb h=>minusT_ 0 _ _ 1 _ _ _ (W.heap.size + 2) 3083003 (Or.inl rfl) (Or.inr (Or.inl rfl)) (by decide) W' v hb h) ?_
 ·have q:=upT_ i1 V1 C1 i2 V2 C2 o1 o2 hH W' _ (h9.kp y)
  rw [if_pos (show i1 = -1∨V1 < 0 by omega),if_pos (show i1 = -1∨V1 < 0 by omega)] at q
  exact q
 ·have q:=upT_ (-i2) (-V2) C2 (-i1) (-V1) C1 (by omega) (by omega) (by omega) W' v h
  rw [if_pos (show -i2 = -1∨-V2 < 0 by omega),if_pos (show -i2 = -1∨-V2 < 0 by omega)] at q
  exact q
 rintro W' u v _ _ ⟨s3,p3,l3,c3,q3,k3,d3,s4,p4,l4,c4,q4,k4,d4,rfl,x1,x2⟩ ⟨s5,p5,l5,c5,q5,k5,d5,s6,p6,l6,c6,q6,k6,d6,rfl,y1,y2⟩
 refine (hullTS_ 0 1 (-1) (-0) s3 p3 l3 c3 q3 k3 d3 s4 p4 l4 c4 q4 k4 d4 s5 p5 l5 c5 q5 k5 d5 s6 p6 l6 c6 q6 k6 d6 W' (fun W2 y=>lesserB_ 0 (-1) (-1) _ _ _ _ _ _ _ _ _ _ _ _ _ _ (by decide) W2 (fun W3 y3=>endL_ (-1) 0 _ _ _ _ _ _ _ _ _ _ _ _ _ _ (by decide) (by decide) W3)) (fun W2 y=>greaterA_ 1 (-0) (-1) _ _ _ _ _ _ _ _ _ _ _ _ _ _ (by decide) W2 (fun W3 y3=>endL_ (-0) 1 _ _ _ _ _ _ _ _ _ _ _ _ _ _ (by decide) (by decide) W3))).mono ?_
 rintro e w' ⟨rfl,g⟩
 exact ⟨false,_,_,s5,p5,l5,c5,q5,k5,d5,s4,p4,l4,c4,q4,k4,d4,rfl,⟨s5,p5,l5,c5,q5,k5,d5,s4,p4,l4,c4,q4,k4,d4,rfl,fun y=>absurd y (by decide),fun y=>absurd y (by decide)⟩,g⟩
theorem leastQ_ (b:Nat) (i j:Int) (ZA ZB:Int→Nat) (W:World) (v:Value) (h:QS b i j ZA ZB W v):Calls Tryz.prog 62 #[v] W fun e w'=>e = .returned (.agg #[.int .u64 ((if i = 0 then ZA (-1) else 18442240474082181120:Nat):Int),.int .u64 ((if j = 0 then ZB 1 else 9218868437227405312:Nat):Int)])∧Kp W w':=by
 obtain ⟨s,p,l,c,q,k,d,s2,p2,l2,c2,q2,k2,d2,rfl,a1,a2⟩:=h
 exact leastP_ i j ZA ZB s p l c q k d s2 p2 l2 c2 q2 k2 d2 b b W a1 a2
namespace Fq
theorem eqInP (a c:Nat) (w:World):(Op.equalIn 9999 22 (.float .f64 a) (.float .f64 c)).run Tryz.prog w = .ok (FloatKind.f64.format.order a c == some Ordering.eq) w:=by kernel_rfl
theorem voidP_ (a b:Nat) (ha:a < 18446744073709551616) (hb:b < 18446744073709551616) (w:World):Calls Tryz.prog 47 #[.agg #[.float .f64 a,.float .f64 b]] w fun e w'=>e = .returned (.bool (decide (a = 9218868437227405312∧b = 18442240474082181120)))∧Grown w w':=by
 have t2:=feqI a ha
 have t3:=feqM b hb
 have e1:(decide (a = 9218868437227405312∧b = 18442240474082181120)) = ((FloatKind.f64.format.order a 9218868437227405312 == some Ordering.eq) && (FloatKind.f64.format.order b 18442240474082181120 == some Ordering.eq)):=by
  rw [t2,t3];by_cases c1:a = 9218868437227405312 <;> by_cases c2:b = 18442240474082181120 <;> simp [c1,c2]
 rw [e1]
 clear e1 t2 t3 ha hb
 have h0:=eqInP a 9218868437227405312
 have h1:=eqInP b 18442240474082181120
 generalize g1:(FloatKind.f64.format.order a 9218868437227405312 == some Ordering.eq) = B1 at h0 ⊢
 generalize g2:(FloatKind.f64.format.order b 18442240474082181120 == some Ordering.eq) = B2 at h1 ⊢
 cases B1 <;> cases B2
 ·go_enter Tryz.func47,Tryz.ntmps47
  go_wp2
  go_region_held3 (fun w'=>w'.cell? ⟨w.heap.size,0,none⟩ = some (.float .f64 a)∧w'.cell? ⟨w.heap.size,1,none⟩ = some (.float .f64 b)) (simp [go_sem,World.cell?_alloc_past]) (first | (go_at_call 56;refine (empty6_ _).mono ?_;rintro e w' ⟨rfl,rfl⟩))
  go_wp2
  exact bodyPost_ret (v:=.bool false) (by simp [results,Tryz.results47,go_sem] <;> simp only [*]) rfl ⟨rfl,(by repeat (with_reducible (first | assumption | exact Grown.refl _ | apply Grown.drew | apply Grown.alloc | apply gdrewN | (refine Grown.setCell ?_ (by simp <;> omega) _) | (refine gtrans ?_ (by assumption)))))⟩
 ·go_enter Tryz.func47,Tryz.ntmps47
  go_wp2
  go_region_held3 (fun w'=>w'.cell? ⟨w.heap.size,0,none⟩ = some (.float .f64 a)∧w'.cell? ⟨w.heap.size,1,none⟩ = some (.float .f64 b)) (simp [go_sem,World.cell?_alloc_past]) (first | (go_at_call 56;refine (empty6_ _).mono ?_;rintro e w' ⟨rfl,rfl⟩))
  go_wp2
  exact bodyPost_ret (v:=.bool false) (by simp [results,Tryz.results47,go_sem] <;> simp only [*]) rfl ⟨rfl,(by repeat (with_reducible (first | assumption | exact Grown.refl _ | apply Grown.drew | apply Grown.alloc | apply gdrewN | (refine Grown.setCell ?_ (by simp <;> omega) _) | (refine gtrans ?_ (by assumption)))))⟩
 ·go_enter Tryz.func47,Tryz.ntmps47
  go_wp2
  go_region_held3 (fun w'=>w'.cell? ⟨w.heap.size,0,none⟩ = some (.float .f64 a)∧w'.cell? ⟨w.heap.size,1,none⟩ = some (.float .f64 b)) (simp [go_sem,World.cell?_alloc_past]) (first | (go_at_call 56;refine (empty6_ _).mono ?_;rintro e w' ⟨rfl,rfl⟩))
  go_wp2
  exact bodyPost_ret (v:=.bool false) (by simp [results,Tryz.results47,go_sem] <;> simp only [*]) rfl ⟨rfl,(by repeat (with_reducible (first | assumption | exact Grown.refl _ | apply Grown.drew | apply Grown.alloc | apply gdrewN | (refine Grown.setCell ?_ (by simp <;> omega) _) | (refine gtrans ?_ (by assumption)))))⟩
 ·go_enter Tryz.func47,Tryz.ntmps47
  go_wp2
  go_region_held3 (fun w'=>w'.cell? ⟨w.heap.size,0,none⟩ = some (.float .f64 a)∧w'.cell? ⟨w.heap.size,1,none⟩ = some (.float .f64 b)) (simp [go_sem,World.cell?_alloc_past]) (first | (go_at_call 56;refine (empty6_ _).mono ?_;rintro e w' ⟨rfl,rfl⟩))
  go_wp2
  exact bodyPost_ret (v:=.bool true) (by simp [results,Tryz.results47,go_sem] <;> simp only [*]) rfl ⟨rfl,(by repeat (with_reducible (first | assumption | exact Grown.refl _ | apply Grown.drew | apply Grown.alloc | apply gdrewN | (refine Grown.setCell ?_ (by simp <;> omega) _) | (refine gtrans ?_ (by assumption)))))⟩
end Fq
set_option linter.unusedVariables false

def H1c (w:World) (b:Nat) (v0:Value):Prop:=w.cell? ⟨b,0,none⟩ = some v0∧w.frozen? ⟨b,0,none⟩ = false
end Go.Proofs.YtaldmbeomdfafaaGreatDoor
