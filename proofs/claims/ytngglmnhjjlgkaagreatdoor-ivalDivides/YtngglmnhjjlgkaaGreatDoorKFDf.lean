import Derived.Test.YtngglmnhjjlgkaaGreatDoorKFDb
import Derived.Test.YtngglmnhjjlgkaaGreatDoorKIMq
namespace Go.Proofs.YtngglmnhjjlgkaaGreatDoor
open Go.RowKit
set_option linter.unusedVariables false

theorem prodB_ (K:Nat) (hK:K = 1074) (n:Bool) (m r:Nat) (hm:m≤9218868437227405312) (hr:r≠0) (hr2:r≤9218868437227405312) (cr CC base:Nat) (hcr:0 < cr) (hC:CC = jC r * cr) s p l c q k d s2 p2 l2 c2 q2 k2 d2 (B1 B2:Nat) (w:World) (hb:base≤w.heap.size) (h1:RP B1 w s p l c q k d (fN n m) (fM m)) (h2:XP B2 w s2 p2 l2 c2 q2 k2 d2 (Iv false (jM r)) (jC r) 8000):Calls Tryz.prog 53 #[.agg #[.int .i64 (infS n m),.bool s,.slice p l c,.slice q k d],.agg #[.int .i64 0,.bool s2,.slice p2 l2 c2,.slice q2 k2 d2]] w fun e w'=>∃ pi pn pp pl pc pq pk pd,e = .returned (.agg #[.int .i64 pi,.bool pn,.slice pp pl pc,.slice pq pk pd])∧EQ CC base (qB (Fq.plz n m) ((r:Nat):Int) cr) w' pi pn pp pl pc pq pk pd∧Kp w w':=by
 have jp:=jC_ne r hr
 have hCC:CC≠0:=by rw [hC];exact Nat.mul_ne_zero jp (by omega)
 have PX:Fq.plz n m = if n then -(m:Int) else m:=by unfold Fq.plz;cases n <;> rfl
 have hV:0≤Iv false (jM r):=by unfold Iv;simp
 refine (prodQ_ K hK n m hm _ _ hV s p l c q k d s2 p2 l2 c2 q2 k2 d2 B1 B2 w h1 h2).mono ?_
 rintro e w' ⟨s3,p3,l3,c3,q3,k3,d3,rfl,x1,⟨V9,C9,x2⟩,g⟩
 refine ⟨_,s3,p3,l3,c3,q3,k3,d3,rfl,⟨?_,fun z=>?_,⟨V9,C9,x2.mono hb⟩⟩,g⟩
 ·unfold qi qB jM
  by_cases ri:r = 9218868437227405312
  ·rw [if_pos ri,if_pos (Or.inr (Or.inl iv_ff)),if_pos (by omega)]
  ·rw [if_neg ri]
   have v1:Iv false 4607182418800017408≠0:=by decide +kernel
   show (if Fq.plz n m = 0∨Iv false 4607182418800017408 = 0∨m≠9218868437227405312 then (0:Int) else if n = true then -1 else 1) = if (r:Int) = 9218868437227405312 then 0 else if Fq.plz n m = 9218868437227405312 then 1 else if Fq.plz n m = -9218868437227405312 then -1 else 0
   rw [if_neg (show ¬ (r:Int) = 9218868437227405312 by omega),PX]
   by_cases mi:m = 9218868437227405312
   ·rw [if_neg (by rintro (x | x | x);(cases n <;> simp at x <;> omega);exact v1 x;exact x mi)]
    cases n <;> simp <;> omega
   ·rw [if_pos (Or.inr (Or.inr mi))]
    cases n <;> simp <;> omega
 ·have z2:qi n m (Iv false (jM r)) = 0:=by
   unfold qi
   by_cases y:(Fq.plz n m) = 0∨Iv false (jM r) = 0∨m≠9218868437227405312
   ·rw [if_pos y]
   ·exfalso
    have mi:m = 9218868437227405312:=by
     rcases Decidable.em (m = 9218868437227405312) with h | h
     ·exact h
     ·exact absurd (Or.inr (Or.inr h)) y
    have ri:r≠9218868437227405312:=fun h=>y (Or.inr (Or.inl (by unfold jM;rw [if_pos h];exact iv_ff)))
    revert z
    unfold qB
    show (if (r:Int) = 9218868437227405312 then 0 else if Fq.plz n m = 9218868437227405312 then 1 else if Fq.plz n m = -9218868437227405312 then -1 else (0:Int)) = 0→False
    rw [if_neg (show ¬ (r:Int) = 9218868437227405312 by omega),PX]
    cases n <;> simp <;> omega
  refine (XP.mono (x1 z2) hb).as _ CC 60000 hCC ?_ (by decide)
  unfold qB jM
  by_cases ri:r = 9218868437227405312
  ·rw [if_pos ri,iv_ff,Int.mul_zero,Int.zero_mul]
   show 0 = (if (r:Int) = 9218868437227405312∨_ then (0:Int) else _) * _
   rw [if_pos (Or.inl (by omega)),Int.zero_mul]
  ·rw [if_neg ri]
   have e1:Iv false 4607182418800017408 = ((2 ^ K:Nat):Int):=by rw [← vone K hK];rfl
   by_cases mi:m = 9218868437227405312
   ·exfalso
    have v1:Iv false 4607182418800017408≠0:=by decide +kernel
    revert z2
    unfold qi jM
    rw [if_neg ri,if_neg (by rintro (x | x | x);(rw [PX] at x;cases n <;> simp at x <;> omega);exact v1 x;exact x mi)]
    cases n <;> simp
   ·show Iv n m * Iv false 4607182418800017408 * (CC:Int) = (if (r:Int) = 9218868437227405312∨Fq.plz n m = 9218868437227405312∨Fq.plz n m = -9218868437227405312 then (0:Int) else vZ (Fq.plz n m) * (cr:Int)) * ((2 ^ K * jC r:Nat):Int)
    rw [if_neg (by rw [PX];cases n <;> simp <;> omega),vZ_plz,e1,hC]
    simp only [Int.natCast_mul]
    generalize ((2 ^ K:Nat):Int) = Q9
    generalize Iv n m = X9
    generalize ((jC r:Nat):Int) = J9
    grind
theorem prodU_ (K:Nat) (hK:K = 1074) (n:Bool) (m:Nat) (hm:m≤9218868437227405312) (CC base:Nat) (hC:CC≠0) s p l c q k d s2 p2 l2 c2 q2 k2 d2 (B1:Nat) (w:World) (hb:base≤w.heap.size) (h1:RP B1 w s p l c q k d (fN n m) (fM m)):Calls Tryz.prog 53 #[.agg #[.int .i64 (infS n m),.bool s,.slice p l c,.slice q k d],.agg #[.int .i64 1,.bool s2,.slice p2 l2 c2,.slice q2 k2 d2]] w fun e w'=>∃ pi pn pp pl pc pq pk pd,e = .returned (.agg #[.int .i64 pi,.bool pn,.slice pp pl pc,.slice pq pk pd])∧EQ CC base (cmI (Fq.plz n m) 0,0) w' pi pn pp pl pc pq pk pd∧Kp w w':=by
 refine (prodT_ K hK n m hm s p l c q k d s2 p2 l2 c2 q2 k2 d2 B1 w h1).mono ?_
 rintro e w' ⟨s3,p3,l3,c3,q3,k3,d3,rfl,x1,g⟩
 exact ⟨_,s3,p3,l3,c3,q3,k3,d3,rfl,⟨rfl,fun _=>(x1.mono hb).as 0 CC 60000 hC (by simp) (by decide),⟨0,1,(x1.mono hb).as 0 1 60000 (by decide) rfl (by decide)⟩⟩,g⟩
def TQ (CC b:Nat) (LO HI:Int × Int) (W:World) (v:Value):Prop:=∃ (Gi:Int) (Gn:Bool) (Gp:Option Addr) (Gl Gc:Nat) (Gq:Option Addr) (Gk Gd:Nat) (Oi:Int) (On:Bool) (Op:Option Addr) (Ol Oc:Nat) (Oq:Option Addr) (Ok Od:Nat),v = .agg #[.bool false,.int .i64 Gi,.bool Gn,.slice Gp Gl Gc,.slice Gq Gk Gd,.int .i64 Oi,.bool On,.slice Op Ol Oc,.slice Oq Ok Od]∧EQ CC b LO W Gi Gn Gp Gl Gc Gq Gk Gd∧EQ CC b HI W Oi On Op Ol Oc Oq Ok Od
theorem TQ.kp {CC b:Nat} {LO HI:Int × Int} {W W':World} {v:Value} (h:TQ CC b LO HI W v) (g:Kp W W'):TQ CC b LO HI W' v:=by
 obtain ⟨Gi,Gn,Gp,Gl,Gc,Gq,Gk,Gd,Oi,On,Op,Ol,Oc,Oq,Ok,Od,rfl,x1,x2⟩:=h
 exact ⟨Gi,Gn,Gp,Gl,Gc,Gq,Gk,Gd,Oi,On,Op,Ol,Oc,Oq,Ok,Od,rfl,x1.kp g,x2.kp g⟩
theorem EQ.mono {CC b b2:Nat} {B:Int × Int} {W:World} {ai:Int} {an:Bool} {ap:Option Addr} {al ac:Nat} {aq:Option Addr} {ak ad:Nat} (h:EQ CC b B W ai an ap al ac aq ak ad) (g:b2≤b):EQ CC b2 B W ai an ap al ac aq ak ad:=⟨h.1,fun z=>(h.2.1 z).mono g,h.2.2.elim fun V h=>h.elim fun C h=>⟨V,C,h.mono g⟩⟩
theorem timesO_ (K:Nat) (hK:K = 1074) (n1 g1:Bool) (m1 r1 m r:Nat) (hm1:m1≤9218868437227405312) (hr1:r1≤9218868437227405312) (hr:r≠0) (hr2:r≤9218868437227405312) (hm2:m≤9218868437227405312) (CC cr cm b b2:Nat) (hcr:0 < cr) (hcm:0 < cm) (hC:CC = jC r * cr) (hC2:m≠0→CC = jC m * cm) (W:World) (u v:Value) (hb:b2≤W.heap.size) (h1:SV1 n1 m1 g1 r1 W u) (h2:OV b m r W v):Calls Tryz.prog 31 #[u,v] W fun e w'=>∃ v',e = .returned v'∧TQ CC b2 (lB (lB (qB (Fq.plz n1 m1) ((r:Nat):Int) cr) (if m = 0 then (cmI (Fq.plz n1 m1) 0,0) else qB (Fq.plz n1 m1) ((m:Nat):Int) cm)) (lB (qB (Fq.plz g1 r1) ((r:Nat):Int) cr) (if m = 0 then (cmI (Fq.plz g1 r1) 0,0) else qB (Fq.plz g1 r1) ((m:Nat):Int) cm))) (gB (gB (qB (Fq.plz n1 m1) ((r:Nat):Int) cr) (if m = 0 then (cmI (Fq.plz n1 m1) 0,0) else qB (Fq.plz n1 m1) ((m:Nat):Int) cm)) (gB (qB (Fq.plz g1 r1) ((r:Nat):Int) cr) (if m = 0 then (cmI (Fq.plz g1 r1) 0,0) else qB (Fq.plz g1 r1) ((m:Nat):Int) cm))) w' v'∧Kp W w':=by
 have hCC:CC≠0:=by rw [hC];exact Nat.mul_ne_zero (jC_ne r hr) (by omega)
 obtain ⟨s,p,l,c,q,k,d,s2,p2,l2,c2,q2,k2,d2,rfl,a1,a2⟩:=h1
 obtain ⟨s3,p3,l3,c3,q3,k3,d3,s4,p4,l4,c4,q4,k4,d4,rfl,b1,b3⟩:=h2
 have second:∀ (W':World),Kp W W'→W.heap.size + 3≤W'.heap.size→∀ (n0:Bool) (m0:Nat) (h0:m0≤9218868437227405312) s5 p5 l5 c5 q5 k5 d5,RP 0 W s5 p5 l5 c5 q5 k5 d5 (fN n0 m0) (fM m0)→Calls Tryz.prog 53 #[.agg #[.int .i64 (infS n0 m0),.bool s5,.slice p5 l5 c5,.slice q5 k5 d5],.agg #[.int .i64 (if m = 0 then 1 else 0),.bool s4,.slice p4 l4 c4,.slice q4 k4 d4]] W' fun e w'=>∃ pi pn pp pl pc pq pk pd,e = .returned (.agg #[.int .i64 pi,.bool pn,.slice pp pl pc,.slice pq pk pd])∧EQ CC (W.heap.size + 3) (if m = 0 then (cmI (Fq.plz n0 m0) 0,0) else qB (Fq.plz n0 m0) ((m:Nat):Int) cm) w' pi pn pp pl pc pq pk pd∧Kp W' w':=by
  intro W' y hs n0 m0 h0 s5 p5 l5 c5 q5 k5 d5 hp
  by_cases z:m = 0
  ·rw [if_pos z,if_pos z]
   exact prodU_ K hK n0 m0 h0 CC _ hCC s5 p5 l5 c5 q5 k5 d5 s4 p4 l4 c4 q4 k4 d4 0 W' hs (hp.kp y)
  ·rw [if_neg z,if_neg z]
   rw [if_neg z,if_neg z] at b3
   exact prodB_ K hK n0 m0 m h0 z hm2 cm CC _ hcm (hC2 z) s5 p5 l5 c5 q5 k5 d5 s4 p4 l4 c4 q4 k4 d4 0 b W' hs (hp.kp y) (b3.kp y)
 refine (timesQ_ CC hCC _ _ _ _ _ s p l c q k d _ s2 p2 l2 c2 q2 k2 d2 _ s3 p3 l3 c3 q3 k3 d3 _ s4 p4 l4 c4 q4 k4 d4 W (fun W' y hs=>prodB_ K hK n1 m1 r hm1 hr hr2 cr CC _ hcr hC s p l c q k d s3 p3 l3 c3 q3 k3 d3 0 b W' hs (a1.kp y) (b1.kp y)) (fun W' y hs=>second W' y hs n1 m1 hm1 s p l c q k d a1) (fun W' y hs=>prodB_ K hK g1 r1 r hr1 hr hr2 cr CC _ hcr hC s2 p2 l2 c2 q2 k2 d2 s3 p3 l3 c3 q3 k3 d3 0 b W' hs (a2.kp y) (b1.kp y)) (fun W' y hs=>second W' y hs g1 r1 hr1 s2 p2 l2 c2 q2 k2 d2 a2)).mono ?_
 rintro e w' ⟨Gi,Gn,Gp,Gl,Gc,Gq,Gk,Gd,Oi,On,Op,Ol,Oc,Oq,Ok,Od,rfl,x1,x2,g⟩
 exact ⟨_,rfl,⟨Gi,Gn,Gp,Gl,Gc,Gq,Gk,Gd,Oi,On,Op,Ol,Oc,Oq,Ok,Od,rfl,x1.mono (by omega),x2.mono (by omega)⟩,g⟩
def nB (B:Int × Int):Int × Int:=(-B.1,-B.2)
set_option linter.unusedVariables false
theorem d_neg (K:Nat) (L1 H1 L2 H2:Int) (d1:VdZ L1 H1) (d2:VdZ L2 H2):dLo K (-H1) (-L1) L2 H2 = -(dHi K L1 H1 L2 H2)∧dHi K (-H1) (-L1) L2 H2 = -(dLo K L1 H1 L2 H2):=by
 unfold dLo dHi
 unfold VdZ at d1 d2
 by_cases c:L1 = 9218868437227405312∨L2 = 9218868437227405312
 ·rw [if_pos c,if_pos c,if_pos (show -H1 = 9218868437227405312∨L2 = 9218868437227405312 by omega),if_pos (show -H1 = 9218868437227405312∨L2 = 9218868437227405312 by omega)]
  exact ⟨by omega,rfl⟩
 rw [if_neg c,if_neg c,if_neg (show ¬ (-H1 = 9218868437227405312∨L2 = 9218868437227405312) by omega),if_neg (show ¬ (-H1 = 9218868437227405312∨L2 = 9218868437227405312) by omega)]
 by_cases c3:L2≤0∧0≤H2
 ·rw [if_pos c3,if_pos c3,if_pos c3,if_pos c3]
  have e1:=diZ_m1 K H1 H2
  have e2:=diZ_m1 K L1 L2
  have e3:=diZ_m K (-1) L1 H2
  have e4:=diZ_m K (-1) H1 L2
  rw [show (-(-1):Int) = 1 from rfl] at e3 e4
  unfold bLo bHi
  constructor
  ·rw [e1,e2]
   repeat' split
   all_goals first | omega | rfl
  ·rw [e3,e4]
   repeat' split
   all_goals first | omega | rfl
 ·rw [if_neg c3,if_neg c3,if_neg c3,if_neg c3,Int.neg_neg,Int.neg_neg,Int.neg_neg]
  exact ⟨rfl,rfl⟩

def tS (x:Int) (m cm:Nat):Int × Int:=if m = 0 then (cmI x 0,0) else qB x ((m:Nat):Int) cm
def tLo (L1 H1:Int) (m r cr cm:Nat):Int × Int:=lB (lB (qB L1 ((r:Nat):Int) cr) (tS L1 m cm)) (lB (qB H1 ((r:Nat):Int) cr) (tS H1 m cm))
def tHi (L1 H1:Int) (m r cr cm:Nat):Int × Int:=gB (gB (qB L1 ((r:Nat):Int) cr) (tS L1 m cm)) (gB (qB H1 ((r:Nat):Int) cr) (tS H1 m cm))
def sZ (K:Nat) (d x:Int) (m:Nat):Int:=if m = 0 then tZ x else dZ K d x ((m:Nat):Int)
theorem tS_rd (K CC:Nat) (d x:Int) (m cm:Nat) (hcm:0 < cm) (hx:BdZ x) (hm:m≤9218868437227405312) (hC:m≠0→CC = jC m * cm):rD K CC d (tS x m cm) = sZ K d x m∧okB (tS x m cm):=by
 unfold tS sZ
 by_cases z:m = 0
 ·rw [if_pos z,if_pos z]
  unfold tZ
  have z0:g53 d (2 ^ K) CC 0 = 0:=by unfold g53 gpl;rw [if_pos rfl]
  have sh:∀ i V:Int,rD K CC d (i,V) = if i = 1 then 9218868437227405312 else if i = -1 then -9218868437227405312 else g53 d (2 ^ K) CC V:=fun i V=>rfl
  rcases Int.lt_trichotomy x 0 with c | c | c
  ·rw [cmI_lt _ _ c,sh,if_neg (by decide),if_pos rfl,if_neg (by omega),if_pos c]
   exact ⟨rfl,Or.inr (Or.inr rfl)⟩
  ·rw [c,cmI_eq,sh,if_neg (by decide),if_neg (by decide),z0,if_neg (by decide),if_neg (by decide)]
   exact ⟨rfl,Or.inl rfl⟩
  ·rw [cmI_gt _ _ c,sh,if_pos rfl,if_pos c]
   exact ⟨rfl,Or.inr (Or.inl rfl)⟩
 ·rw [if_neg z,if_neg z]
  have h:=qB_rd K d x ((m:Nat):Int) cm CC hcm hx (by omega) (by rw [Int.natAbs_natCast];exact hC z)
  exact h
theorem lB_1 (a b:Int × Int):(lB a b).1≤a.1∧(lB a b).1≤b.1:=by
 unfold lB
 by_cases c:cB b.1 b.2 a.1 a.2 < 0
 ·have h:¬ a.1 < b.1:=fun h=>by unfold cB at c;rw [if_neg (by omega),if_pos h] at c;omega
  rw [if_pos c];omega
 ·have h:¬ b.1 < a.1:=fun h=>c (by unfold cB;rw [if_pos h];omega)
  rw [if_neg c];omega
theorem gB_1 (a b:Int × Int):a.1≤(gB a b).1∧b.1≤(gB a b).1:=by
 unfold gB
 by_cases c:0 < cB b.1 b.2 a.1 a.2
 ·have h:¬ b.1 < a.1:=fun h=>by unfold cB at c;rw [if_pos h] at c;omega
  rw [if_pos c];omega
 ·have h:¬ a.1 < b.1:=fun h=>c (by unfold cB;rw [if_neg (by omega),if_pos h];omega)
  rw [if_neg c];omega
theorem qB_1 (x y:Int) (k:Nat):(x≠9218868437227405312→(qB x y k).1≤0)∧(x≠-9218868437227405312→0≤(qB x y k).1):=by
 unfold qB
 refine ⟨fun h=>?_,fun h=>?_⟩
 ·show (if y = 9218868437227405312 then (0:Int) else if x = 9218868437227405312 then 1 else if x = -9218868437227405312 then -1 else 0)≤0
  rw [if_neg h]
  repeat' split
  all_goals omega
 ·show 0≤(if y = 9218868437227405312 then (0:Int) else if x = 9218868437227405312 then 1 else if x = -9218868437227405312 then -1 else 0)
  rw [if_neg h]
  repeat' split
  all_goals omega
theorem tLo_rd (K CC:Nat) (d L1 H1:Int) (m r cr cm:Nat) (hcr:0 < cr) (hcm:0 < cm) (hL:BdZ L1) (hH:BdZ H1) (hm:m≤9218868437227405312) (hr:r≠0) (hr2:r≤9218868437227405312) (hC:CC = jC r * cr) (hC2:m≠0→CC = jC m * cm):rD K CC d (tLo L1 H1 m r cr cm) = min (min (dZ K d L1 ((r:Nat):Int)) (sZ K d L1 m)) (min (dZ K d H1 ((r:Nat):Int)) (sZ K d H1 m))∧okB (tLo L1 H1 m r cr cm)∧(L1≠9218868437227405312→(tLo L1 H1 m r cr cm).1≠1):=by
 have pC:0 < CC:=by rw [hC];exact Nat.mul_pos (Nat.pos_of_ne_zero (jC_ne r hr)) hcr
 have q1:=qB_rd K d L1 ((r:Nat):Int) cr CC hcr hL (by omega) (by rw [Int.natAbs_natCast];exact hC)
 have q2:=qB_rd K d H1 ((r:Nat):Int) cr CC hcr hH (by omega) (by rw [Int.natAbs_natCast];exact hC)
 have q3:=tS_rd K CC d L1 m cm hcm hL hm hC2
 have q4:=tS_rd K CC d H1 m cm hcm hH hm hC2
 have a:=lBD K CC pC d _ _ q1.2 q3.2
 have b:=lBD K CC pC d _ _ q2.2 q4.2
 have e:=lBD K CC pC d _ _ a.2 b.2
 unfold tLo
 refine ⟨by rw [e.1,a.1,b.1,q1.1,q2.1,q3.1,q4.1],e.2,fun h=>?_⟩
 have i1:=(lB_1 (lB (qB L1 ((r:Nat):Int) cr) (tS L1 m cm)) (lB (qB H1 ((r:Nat):Int) cr) (tS H1 m cm))).1
 have i2:=(lB_1 (qB L1 ((r:Nat):Int) cr) (tS L1 m cm)).1
 have i3:=(qB_1 L1 ((r:Nat):Int) cr).1 h
 omega
theorem tHi_rd (K CC:Nat) (d L1 H1:Int) (m r cr cm:Nat) (hcr:0 < cr) (hcm:0 < cm) (hL:BdZ L1) (hH:BdZ H1) (hm:m≤9218868437227405312) (hr:r≠0) (hr2:r≤9218868437227405312) (hC:CC = jC r * cr) (hC2:m≠0→CC = jC m * cm):rD K CC d (tHi L1 H1 m r cr cm) = max (max (dZ K d L1 ((r:Nat):Int)) (sZ K d L1 m)) (max (dZ K d H1 ((r:Nat):Int)) (sZ K d H1 m))∧okB (tHi L1 H1 m r cr cm)∧(H1≠-9218868437227405312→(tHi L1 H1 m r cr cm).1≠-1):=by
 have pC:0 < CC:=by rw [hC];exact Nat.mul_pos (Nat.pos_of_ne_zero (jC_ne r hr)) hcr
 have q1:=qB_rd K d L1 ((r:Nat):Int) cr CC hcr hL (by omega) (by rw [Int.natAbs_natCast];exact hC)
 have q2:=qB_rd K d H1 ((r:Nat):Int) cr CC hcr hH (by omega) (by rw [Int.natAbs_natCast];exact hC)
 have q3:=tS_rd K CC d L1 m cm hcm hL hm hC2
 have q4:=tS_rd K CC d H1 m cm hcm hH hm hC2
 have a:=gBD K CC pC d _ _ q1.2 q3.2
 have b:=gBD K CC pC d _ _ q2.2 q4.2
 have e:=gBD K CC pC d _ _ a.2 b.2
 unfold tHi
 refine ⟨by rw [e.1,a.1,b.1,q1.1,q2.1,q3.1,q4.1],e.2,fun h=>?_⟩
 have i1:=(gB_1 (gB (qB L1 ((r:Nat):Int) cr) (tS L1 m cm)) (gB (qB H1 ((r:Nat):Int) cr) (tS H1 m cm))).2
 have i2:=(gB_1 (qB H1 ((r:Nat):Int) cr) (tS H1 m cm)).1
 have i3:=(qB_1 H1 ((r:Nat):Int) cr).2 h
 omega
theorem tZ_neg (x:Int):tZ x = -(tZ (-x)):=by
 unfold tZ
 repeat' split
 all_goals omega
theorem P_lo (K:Nat) (L1 H1 L2 H2:Int) (h1:-9218868437227405312≤L1∧L1≤H1∧H1≤9218868437227405312∧L1 < 9218868437227405312) (h2:0≤L2∧L2≤H2∧0 < H2∧H2≤9218868437227405312∧L2 < 9218868437227405312):min (min (dZ K (-1) L1 ((H2.natAbs:Nat):Int)) (sZ K (-1) L1 L2.natAbs)) (min (dZ K (-1) H1 ((H2.natAbs:Nat):Int)) (sZ K (-1) H1 L2.natAbs)) = dLo K L1 H1 L2 H2:=by
 rw [show ((H2.natAbs:Nat):Int) = H2 from by omega]
 unfold sZ
 by_cases c:L2 = 0
 ·rw [if_pos (by omega),if_pos (by omega),c]
  exact quo_zlo K L1 H1 H2 h1 (by omega)
 ·rw [if_neg (by omega),if_neg (by omega),show ((L2.natAbs:Nat):Int) = L2 from by omega]
  exact quo_lo K L1 H1 L2 H2 h1 (by omega)
theorem P_hi (K:Nat) (L1 H1 L2 H2:Int) (h1:-9218868437227405312≤L1∧L1≤H1∧H1≤9218868437227405312∧L1 < 9218868437227405312∧-9218868437227405312 < H1) (h2:0≤L2∧L2≤H2∧0 < H2∧H2≤9218868437227405312∧L2 < 9218868437227405312):max (max (dZ K 1 L1 ((H2.natAbs:Nat):Int)) (sZ K 1 L1 L2.natAbs)) (max (dZ K 1 H1 ((H2.natAbs:Nat):Int)) (sZ K 1 H1 L2.natAbs)) = dHi K L1 H1 L2 H2:=by
 have p:=P_lo K (-H1) (-L1) L2 H2 (by omega) h2
 rw [(d_neg K L1 H1 L2 H2 (Or.inr (by omega)) (Or.inr (by omega))).1] at p
 have s9:∀ x,sZ K 1 x L2.natAbs = -(sZ K (-1) (-x) L2.natAbs):=fun x=>by
  unfold sZ
  split
  ·exact tZ_neg x
  ·exact dZ_neg K x _
 rw [s9,s9,dZ_neg,dZ_neg]
 omega
theorem N_lo (K:Nat) (L1 H1 L2 H2:Int) (h1:L1≤H1∧L1 < 9218868437227405312∧-9218868437227405312 < H1) (h2:L2 < 0∧L2≤H2∧H2≤0∧-9218868437227405312≤L2∧-9218868437227405312 < H2):dLo K L1 H1 L2 H2 = -(dHi K L1 H1 (-H2) (-L2))∧dHi K L1 H1 L2 H2 = -(dLo K L1 H1 (-H2) (-L2)):=by
 unfold dLo dHi
 have hA:¬ (L1 = 9218868437227405312∨L2 = 9218868437227405312):=by omega
 have hB:¬ (L1 = 9218868437227405312∨-H2 = 9218868437227405312):=by omega
 simp only [if_neg hA,if_neg hB]
 by_cases c:H2 = 0
 ·subst c
  rw [show (-0:Int) = 0 from rfl]
  have hz1:L2≤0∧(0:Int)≤0:=by omega
  have hz2:(0:Int)≤0∧0≤-L2:=by omega
  simp only [if_pos hz1,if_pos hz2]
  unfold bLo bHi
  have e1:diZ K (-1) H1 L2 = -(diZ K 1 H1 (-L2)):=by rw [← diZ_m1,diZ_neg K (-1) H1 (-L2) (by omega),Int.neg_neg]
  have e2:diZ K 1 L1 L2 = -(diZ K (-1) L1 (-L2)):=by
   have h:=diZ_m K (-1) L1 (-L2)
   rw [← h,diZ_neg K _ L1 (-L2) (by omega),Int.neg_neg,Int.neg_neg]
  refine ⟨?_, ?_⟩
  ·repeat' split
   all_goals first | (exfalso;omega) | rfl | exact e1
  ·repeat' split
   all_goals first | (exfalso;omega) | rfl | exact e2
 ·have hn1:¬ (L2≤0∧0≤H2):=by omega
  have hn2:¬ (-H2≤0∧0≤-L2):=by omega
  simp only [if_neg hn1,if_neg hn2]
  rw [lst_P K (-H1) (-L1) (-H2) (-L2) (by omega),lst_P K L1 H1 (-H2) (-L2) (by omega),Int.neg_neg]
  refine ⟨?_, ?_⟩
  ·unfold lst
   rw [if_neg (by omega),if_neg (by omega)]
   by_cases c1:0 < H1
   ·rw [if_pos (by omega),if_pos (by omega),diZ_neg K (-1) H1 (-H2) (by omega),Int.neg_neg]
   ·rw [if_neg (by omega),if_pos (by omega),if_neg (by omega),diZ_neg K (-1) H1 (-L2) (by omega),Int.neg_neg]
  ·unfold lst
   rw [if_neg (by omega),if_neg (by omega)]
   by_cases c1:L1 < 0
   ·rw [if_pos (by omega),if_pos c1,diZ_neg K (-1) L1 H2 (by omega)]
   ·rw [if_neg (by omega),if_pos (by omega),if_neg c1,diZ_neg K (-1) L1 L2 (by omega)]
theorem B_lo (K:Nat) (L1 H1 L2 H2:Int) (h1:L1≤H1∧L1 < 9218868437227405312∧-9218868437227405312 < H1) (h2:L2 < 0∧0 < H2∧-9218868437227405312≤L2∧H2≤9218868437227405312):min (dLo K L1 H1 0 H2) (-(dHi K L1 H1 0 (-L2))) = dLo K L1 H1 L2 H2∧max (dHi K L1 H1 0 H2) (-(dLo K L1 H1 0 (-L2))) = dHi K L1 H1 L2 H2:=by
 have q:∀ d x y,BdZ (diZ K d x y):=diZ_bd K
 have a1:=q (-1) L1 H2
 have a2:=q 1 H1 H2
 have a3:=q 1 H1 (-L2)
 have a4:=q (-1) L1 (-L2)
 unfold BdZ at a1 a2 a3 a4
 unfold dLo dHi bLo bHi
 have hA1:¬ (L1 = 9218868437227405312∨(0:Int) = 9218868437227405312):=by omega
 have hA2:¬ (L1 = 9218868437227405312∨L2 = 9218868437227405312):=by omega
 have hz1:(0:Int)≤0∧0≤H2:=by omega
 have hz2:(0:Int)≤0∧0≤-L2:=by omega
 have hz3:L2≤0∧0≤H2:=by omega
 have hq1:¬ ((0:Int) = 0∧H2 = 0):=by omega
 have hq2:¬ ((0:Int) = 0∧-L2 = 0):=by omega
 have hq3:¬ (L2 = 0∧H2 = 0):=by omega
 have h91:¬ ((0:Int) < 0∧0 < H2):=by omega
 have h92:¬ ((0:Int) < 0∧0 < -L2):=by omega
 have h93:L2 < 0∧0 < H2:=by omega
 rw [if_neg hA1,if_neg hA1,if_neg hA1,if_neg hA1,if_neg hA2,if_neg hA2,if_pos hz1,if_pos hz2,if_pos hz1,if_pos hz2,if_pos hz3,if_pos hz3,if_neg hq1,if_neg hq2,if_neg hq1,if_neg hq2,if_neg hq3,if_neg hq3]
 by_cases e0:L1 = 0∧H1 = 0
 ·simp only [if_pos e0];omega
 rw [if_neg e0,if_neg e0,if_neg e0,if_neg e0,if_neg e0,if_neg e0,if_neg h91,if_neg h92,if_neg h91,if_neg h92,if_pos h93,if_pos h93]
 by_cases e1:L1 < 0∧0 < H1
 ·rw [if_pos e1,if_pos e1,if_pos e1,if_pos e1];omega
 rw [if_neg e1,if_neg e1,if_neg e1,if_neg e1]
 by_cases e2:0≤L1
 ·have e3:(0:Int) = 0∧0≤L1:=by omega
  rw [if_pos e3,if_pos e3,if_pos e3,if_pos e3];omega
 ·have e3:¬ ((0:Int) = 0∧0≤L1):=by omega
  rw [if_neg e3,if_neg e3,if_neg e3,if_neg e3]
  repeat rw [if_pos rfl]
  omega
theorem nB_rd (K CC:Nat) (d:Int) (B:Int × Int) (ok:okB B):rD K CC (-d) (nB B) = -(rD K CC d B)∧okB (nB B):=by
 obtain ⟨i,V⟩:=B
 unfold okB at ok
 have sh:∀ d i V,rD K CC d (i,V) = if i = 1 then 9218868437227405312 else if i = -1 then -9218868437227405312 else g53 d (2 ^ K) CC V:=fun d i V=>rfl
 have e:nB (i,V) = (-i,-V):=rfl
 rw [e,sh,sh]
 rcases ok with h | h | h
 ·have h:i = 0:=h
  subst h
  refine ⟨?_,Or.inl rfl⟩
  rw [if_neg (by decide),if_neg (by decide),if_neg (by decide),if_neg (by decide),g53_neg]
 ·have h:i = 1:=h
  subst h
  exact ⟨rfl,Or.inr (Or.inr rfl)⟩
 ·have h:i = -1:=h
  subst h
  exact ⟨rfl,Or.inr (Or.inl rfl)⟩
set_option linter.unusedVariables false

theorem TQ.set {CC b:Nat} {LO HI:Int × Int} {W:World} {v:Value} (h:TQ CC b LO HI W v) {x:Addr} (hx:x.block < b) (u:Value):TQ CC b LO HI (W.setCell x u) v:=by
 obtain ⟨Gi,Gn,Gp,Gl,Gc,Gq,Gk,Gd,Oi,On,Op,Ol,Oc,Oq,Ok,Od,rfl,x1,x2⟩:=h
 exact ⟨Gi,Gn,Gp,Gl,Gc,Gq,Gk,Gd,Oi,On,Op,Ol,Oc,Oq,Ok,Od,rfl,⟨x1.1,fun z=>(x1.2.1 z).set hx u,x1.2.2.elim fun V h=>h.elim fun C h=>⟨V,C,h.set hx u⟩⟩,⟨x2.1,fun z=>(x2.2.1 z).set hx u,x2.2.2.elim fun V h=>h.elim fun C h=>⟨V,C,h.set hx u⟩⟩⟩
theorem turnC_ (CC b:Nat) (hC:CC≠0) (B:Int × Int) (ok:okB B) (ai:Int) (an:Bool) (ap:Option Addr) (al ac:Nat) (aq:Option Addr) (ak ad:Nat) (W:World) (h:EQ CC b B W ai an ap al ac aq ak ad):∃ (V':Int) (C':Nat),(B.1 = 0→V' = -B.2∧C' = CC)∧∀ W':World,Kp W W'→Calls Tryz.prog 68 #[.agg #[.int .i64 ai,.bool an,.slice ap al ac,.slice aq ak ad]] W' fun e w'=>∃ s5 p5 l5 c5 q5 k5 d5,e = .returned (.agg #[.int .i64 (-B.1),.bool s5,.slice p5 l5 c5,.slice q5 k5 d5])∧XP W'.heap.size w' s5 p5 l5 c5 q5 k5 d5 V' C' 60000∧Kp W' w':=by
 obtain ⟨rfl,x1,V9,C9,x2⟩:=h
 unfold okB at ok
 rcases ok with e | e | e
 ·refine ⟨-B.2,CC,fun _=>⟨rfl,rfl⟩,fun W' y=>?_⟩
  rw [e]
  exact turnXZ_ (-B.2) CC 60000 an ap al ac aq ak ad W' (fun W2 y2=>xneg_ _ _ _ (by decide) an ap al ac aq ak ad b W2 ((x1 e).kp (y.trans y2)))
 ·refine ⟨-V9,C9,fun h=>by omega,fun W' y=>?_⟩
  rw [e]
  exact turnXP_ (-V9) C9 60000 an ap al ac aq ak ad W' (fun W2 y2=>xneg_ _ _ _ (by decide) an ap al ac aq ak ad b W2 (x2.kp (y.trans y2)))
 ·refine ⟨-V9,C9,fun h=>by omega,fun W' y=>?_⟩
  rw [e]
  exact turnXM_ (-V9) C9 60000 an ap al ac aq ak ad W' (fun W2 y2=>xneg_ _ _ _ (by decide) an ap al ac aq ak ad b W2 (x2.kp (y.trans y2)))
theorem minusQ_ (CC b b2:Nat) (hC:CC≠0) (LO HI:Int × Int) (o1:okB LO) (o2:okB HI) (W:World) (v:Value) (hb:b2≤W.heap.size) (h:TQ CC b LO HI W v):Calls Tryz.prog 45 #[v] W fun e w'=>∃ v',e = .returned v'∧TQ CC b2 (nB HI) (nB LO) w' v'∧Kp W w':=by
 obtain ⟨Gi,Gn,Gp,Gl,Gc,Gq,Gk,Gd,Oi,On,Op,Ol,Oc,Oq,Ok,Od,rfl,x1,x2⟩:=h
 obtain ⟨V1,C1,f1,t1⟩:=turnC_ CC b hC LO o1 Gi Gn Gp Gl Gc Gq Gk Gd W x1
 obtain ⟨V2,C2,f2,t2⟩:=turnC_ CC b hC HI o2 Oi On Op Ol Oc Oq Ok Od W x2
 refine (minusNX_ Gi Oi (-LO.1) (-HI.1) V1 V2 C1 C2 60000 60000 Gn Gp Gl Gc Gq Gk Gd On Op Ol Oc Oq Ok Od W t1 t2).mono ?_
 rintro e w' ⟨s5,p5,l5,c5,q5,k5,d5,s6,p6,l6,c6,q6,k6,d6,rfl,y1,y2,g⟩
 refine ⟨_,rfl,⟨_,s5,p5,l5,c5,q5,k5,d5,_,s6,p6,l6,c6,q6,k6,d6,rfl,⟨rfl,fun z=>?_,⟨_,_,y1.mono hb⟩⟩,⟨rfl,fun z=>?_,⟨_,_,y2.mono hb⟩⟩⟩,g⟩
 ·have q0:=f2 (by have:-HI.1 = 0:=z;omega)
  rw [q0.1,q0.2] at y1
  exact y1.mono hb
 ·have q0:=f1 (by have:-LO.1 = 0:=z;omega)
  rw [q0.1,q0.2] at y2
  exact y2.mono hb
theorem hullQ_ (CC b:Nat) (hC:CC≠0) (La Ha Lb Hb:Int × Int) (W:World) (u v:Value) (h1:TQ CC b La Ha W u) (h2:TQ CC b Lb Hb W v):Calls Tryz.prog 42 #[u,v] W fun e w'=>∃ v',e = .returned v'∧TQ CC b (lB La Lb) (gB Ha Hb) w' v'∧Kp W w':=by
 obtain ⟨Gi,Gn,Gp,Gl,Gc,Gq,Gk,Gd,Oi,On,Op,Ol,Oc,Oq,Ok,Od,rfl,x1,x2⟩:=h1
 obtain ⟨Mi,Mn,Mp,Ml,Mc,Mq,Mk,Md,Pi,Pn,Pp,Pl,Pc,Pq,Pk,Pd,rfl,y1,y2⟩:=h2
 have hc:=fun (W':World) (g:Kp W W')=>cmpQ_ CC b hC Lb La W' Mi Mn Mp Ml Mc Mq Mk Md Gi Gn Gp Gl Gc Gq Gk Gd (y1.kp g) (x1.kp g)
 have hd:=fun (W':World) (g:Kp W W')=>cmpQ_ CC b hC Hb Ha W' Pi Pn Pp Pl Pc Pq Pk Pd Oi On Op Ol Oc Oq Ok Od (y2.kp g) (x2.kp g)
 unfold lB gB
 by_cases e1:cB Lb.1 Lb.2 La.1 La.2 < 0
 ·rw [if_pos e1]
  have hl:=fun (W':World) (g:Kp W W')=>lesserB_ Gi Mi _ Gn Gp Gl Gc Gq Gk Gd Mn Mp Ml Mc Mq Mk Md e1 W' (fun W2 g2=>hc W2 (g.trans g2))
  by_cases e2:0 < cB Hb.1 Hb.2 Ha.1 Ha.2
  ·rw [if_pos e2]
   have hg:=fun (W':World) (g:Kp W W')=>greaterB_ Oi Pi _ On Op Ol Oc Oq Ok Od Pn Pp Pl Pc Pq Pk Pd e2 W' (fun W2 g2=>hd W2 (g.trans g2))
   refine (hullTT_ Gi Oi Mi Pi Gn Gp Gl Gc Gq Gk Gd On Op Ol Oc Oq Ok Od Mn Mp Ml Mc Mq Mk Md Pn Pp Pl Pc Pq Pk Pd W hl hg).mono ?_
   rintro e w' ⟨rfl,g⟩
   exact ⟨_,rfl,⟨Mi,Mn,Mp,Ml,Mc,Mq,Mk,Md,Pi,Pn,Pp,Pl,Pc,Pq,Pk,Pd,rfl,y1.kp g,y2.kp g⟩,g⟩
  ·rw [if_neg e2]
   have hg:=fun (W':World) (g:Kp W W')=>greaterA_ Oi Pi _ On Op Ol Oc Oq Ok Od Pn Pp Pl Pc Pq Pk Pd e2 W' (fun W2 g2=>hd W2 (g.trans g2))
   refine (hullTS_ Gi Oi Mi Pi Gn Gp Gl Gc Gq Gk Gd On Op Ol Oc Oq Ok Od Mn Mp Ml Mc Mq Mk Md Pn Pp Pl Pc Pq Pk Pd W hl hg).mono ?_
   rintro e w' ⟨rfl,g⟩
   exact ⟨_,rfl,⟨Mi,Mn,Mp,Ml,Mc,Mq,Mk,Md,Oi,On,Op,Ol,Oc,Oq,Ok,Od,rfl,y1.kp g,x2.kp g⟩,g⟩
 ·rw [if_neg e1]
  have hl:=fun (W':World) (g:Kp W W')=>lesserA_ Gi Mi _ Gn Gp Gl Gc Gq Gk Gd Mn Mp Ml Mc Mq Mk Md e1 W' (fun W2 g2=>hc W2 (g.trans g2))
  by_cases e2:0 < cB Hb.1 Hb.2 Ha.1 Ha.2
  ·rw [if_pos e2]
   have hg:=fun (W':World) (g:Kp W W')=>greaterB_ Oi Pi _ On Op Ol Oc Oq Ok Od Pn Pp Pl Pc Pq Pk Pd e2 W' (fun W2 g2=>hd W2 (g.trans g2))
   refine (hullST_ Gi Oi Mi Pi Gn Gp Gl Gc Gq Gk Gd On Op Ol Oc Oq Ok Od Mn Mp Ml Mc Mq Mk Md Pn Pp Pl Pc Pq Pk Pd W hl hg).mono ?_
   rintro e w' ⟨rfl,g⟩
   exact ⟨_,rfl,⟨Gi,Gn,Gp,Gl,Gc,Gq,Gk,Gd,Pi,Pn,Pp,Pl,Pc,Pq,Pk,Pd,rfl,x1.kp g,y2.kp g⟩,g⟩
  ·rw [if_neg e2]
   have hg:=fun (W':World) (g:Kp W W')=>greaterA_ Oi Pi _ On Op Ol Oc Oq Ok Od Pn Pp Pl Pc Pq Pk Pd e2 W' (fun W2 g2=>hd W2 (g.trans g2))
   refine (hullSS_ Gi Oi Mi Pi Gn Gp Gl Gc Gq Gk Gd On Op Ol Oc Oq Ok Od Mn Mp Ml Mc Mq Mk Md Pn Pp Pl Pc Pq Pk Pd W hl hg).mono ?_
   rintro e w' ⟨rfl,g⟩
   exact ⟨_,rfl,⟨Gi,Gn,Gp,Gl,Gc,Gq,Gk,Gd,Oi,On,Op,Ol,Oc,Oq,Ok,Od,rfl,x1.kp g,x2.kp g⟩,g⟩
theorem leastD_ (K CC b:Nat) (hK:K = 1074) (LO HI:Int × Int) (o1:okB LO) (o2:okB HI) (n1:LO.1≠1) (n2:HI.1≠-1) (W:World) (v:Value) (h:TQ CC b LO HI W v):Calls Tryz.prog 23 #[v] W fun e w'=>e = .returned (.agg #[.int .u64 ((pw (rD K CC (-1) LO):Nat):Int),.int .u64 ((pw (rD K CC 1 HI):Nat):Int)])∧Kp W w':=by
 obtain ⟨Gi,Gn,Gp,Gl,Gc,Gq,Gk,Gd,Oi,On,Op,Ol,Oc,Oq,Ok,Od,rfl,⟨rfl,x1,u1⟩,⟨rfl,x2,u2⟩⟩:=h
 unfold okB at o1 o2
 have h:=leastP_ LO.1 HI.1 (fun dd=>pz (g53 dd (2 ^ K) CC LO.2)) (fun dd=>pz (g53 dd (2 ^ K) CC HI.2)) Gn Gp Gl Gc Gq Gk Gd On Op Ol Oc Oq Ok Od b b W (fun y=>(x1 y).qv hK (by decide)) (fun y=>(x2 y).qv hK (by decide))
 have f1:(if LO.1 = 0 then (fun dd=>pz (g53 dd (2 ^ K) CC LO.2)) (-1) else 18442240474082181120) = pw (rD K CC (-1) LO):=by
  unfold rD
  by_cases z:LO.1 = 0
  ·rw [if_pos z,if_neg (by omega),if_neg (by omega)];rfl
  ·rw [if_neg z,if_neg n1,if_pos (by omega),pw_MI]
 have f2:(if HI.1 = 0 then (fun dd=>pz (g53 dd (2 ^ K) CC HI.2)) 1 else 9218868437227405312) = pw (rD K CC 1 HI):=by
  unfold rD
  by_cases z:HI.1 = 0
  ·rw [if_pos z,if_neg (by omega),if_neg (by omega)];rfl
  ·rw [if_neg z,if_pos (by omega),pw_I]
 rw [f1,f2] at h
 exact h
set_option linter.unusedVariables false

def H8 (w:World) (B:Nat) (a b c d e f g h:Value):Prop:=H6 w B a b c d e f∧Fq.H2 w (B + 3) g h
theorem H8.keep {W w:World} {B:Nat} {a b c d e f g h:Value} (x:H8 W B a b c d e f g h) (y:Kp W w):H8 w B a b c d e f g h:=⟨H6.keep x.1 y,Fq.H2.keep x.2 y⟩
theorem H8.new (w:World) (a b c d e f g h:Value) (s t u v:TypeId):H8 ((((w.alloc (.cells #[a,b] s)).alloc (.cells #[c,d] t)).alloc (.cells #[e,f] u)).alloc (.cells #[g,h] v)) w.heap.size a b c d e f g h:=by
 refine ⟨⟨?_, ?_, ?_⟩, ?_⟩ <;> (unfold Fq.H2;simp [go_sem])
theorem H8.put {w:World} {B:Nat} {a b c d e f g h:Value} (x:H8 w B a b c d e f g h) (a' b' c' d' e' f':Value):H8 ((((((w.setCell ⟨B,0,none⟩ a').setCell ⟨B,1,none⟩ b').setCell ⟨B + 1,0,none⟩ c').setCell ⟨B + 1,1,none⟩ d').setCell ⟨B + 2,0,none⟩ e').setCell ⟨B + 2,1,none⟩ f') B a' b' c' d' e' f' g h:=by
 refine ⟨⟨?_, ?_, ?_⟩, ?_⟩
 ·exact Fq.H2.far (Fq.H2.far (Fq.H2.put x.1.1 a' b') (by omega) c' d') (by omega) e' f'
 ·exact Fq.H2.far (Fq.H2.put (Fq.H2.far x.1.2.1 (by omega) a' b') c' d') (by omega) e' f'
 ·exact Fq.H2.put (Fq.H2.far (Fq.H2.far x.1.2.2 (by omega) a' b') (by omega) c' d') e' f'
 ·exact Fq.H2.far (Fq.H2.far (Fq.H2.far x.2 (by omega) a' b') (by omega) c' d') (by omega) e' f'
set_option linter.unusedVariables false
def SVt (K:Nat) (L H:Int × Int) (W:World) (v:Value):Prop:=∃ (i j:Int) (s:Bool) (p:Option Addr) (l c:Nat) (q:Option Addr) (k d:Nat) (s2:Bool) (p2:Option Addr) (l2 c2:Nat) (q2:Option Addr) (k2 d2:Nat),v = .agg #[.bool false,.int .i64 i,.bool s,.slice p l c,.slice q k d,.int .i64 j,.bool s2,.slice p2 l2 c2,.slice q2 k2 d2]∧EB K 0 L W i s p l c q k d∧EB K 0 H W j s2 p2 l2 c2 q2 k2 d2
theorem rd_snd (a b:Nat) (L H:Int) (h:Rd a b L H) (hs:Fq.snd a b = true):L≠9218868437227405312:=by
 intro e
 have h2:a≠9218868437227405312:=by intro h;rw [h] at hs;simp [Fq.snd] at hs
 have h1:Fq.rlo a b≠9218868437227405312:=by simp only [Fq.rlo,hs,if_true,Fq.pla];split <;> omega
 exact h1 (by rw [h.2.2.2.1,e,pw_I])
theorem rd_void (a b:Nat) (ha:a < 18446744073709551616) (hb:b < 18446744073709551616) (hs:Fq.snd a b = false):Rd a b 9218868437227405312 (-9218868437227405312) :=
 ⟨ha,hb,Or.inl ⟨rfl,rfl⟩,by rw [pw_I];simp [Fq.rlo,hs],by rw [pw_MI];simp [Fq.rhi,hs]⟩
theorem natAbs_bd (z:Int) (h:BdZ z):z.natAbs≤9218868437227405312:=by unfold BdZ at h;omega

theorem SVt.kp {K:Nat} {L H:Int × Int} {W W':World} {v:Value} (h:SVt K L H W v) (g:Kp W W'):SVt K L H W' v:=by
 obtain ⟨i,j,s,p,l,c,q,k,d,s2,p2,l2,c2,q2,k2,d2,rfl,a1,a2⟩:=h
 exact ⟨i,j,s,p,l,c,q,k,d,s2,p2,l2,c2,q2,k2,d2,rfl,a1.kp g,a2.kp g⟩
theorem SVt.sv0 {K:Nat} {L H:Int × Int} {W:World} {v:Value} (h:SVt K L H W v):SV0 false v:=by
 obtain ⟨i,j,s,p,l,c,q,k,d,s2,p2,l2,c2,q2,k2,d2,rfl,a1,a2⟩:=h
 exact ⟨i,j,s,p,l,c,q,k,d,s2,p2,l2,c2,q2,k2,d2,rfl⟩
set_option linter.unusedVariables false
theorem QS.mono {b b':Nat} {i j:Int} {ZA ZB:Int→Nat} {W:World} {v:Value} (h:QS b i j ZA ZB W v) (g:b'≤b):QS b' i j ZA ZB W v:=by
 obtain ⟨s,p,l,c,q,k,d,s2,p2,l2,c2,q2,k2,d2,rfl,a1,a2⟩:=h
 exact ⟨s,p,l,c,q,k,d,s2,p2,l2,c2,q2,k2,d2,rfl,fun y=>(a1 y).mono g,fun y=>(a2 y).mono g⟩
theorem plz_not (n:Bool) (m:Nat):Fq.plz (!n) m = -(Fq.plz n m):=by unfold Fq.plz;cases n <;> simp
theorem OV.qs (K:Nat) (hK:K = 1074) {b m r:Nat} {W:World} {v:Value} (h:OV b m r W v):QS b 0 (if m = 0 then 1 else 0) (fun dd=>pz (g53 dd (2 ^ K) (jC r) (Iv false (jM r)))) (fun dd=>pz (g53 dd (2 ^ K) (jC m) (Iv false (jM m)))) W v:=by
 obtain ⟨s,p,l,c,q,k,d,s2,p2,l2,c2,q2,k2,d2,rfl,a1,a2⟩:=h
 refine ⟨s,p,l,c,q,k,d,s2,p2,l2,c2,q2,k2,d2,rfl,fun _=>a1.qg hK (by decide),fun y=>?_⟩
 have hm:m≠0:=fun e=>by rw [if_pos e] at y;cases y
 rw [if_neg hm,if_neg hm] at a2
 exact a2.qg hK (by decide)
theorem NV.qs (K:Nat) (hK:K = 1074) {b m r:Nat} {W:World} {v:Value} (h:NV b m r W v):QS b (if m = 0 then -1 else 0) 0 (fun dd=>pz (g53 dd (2 ^ K) (jC m) (Iv true (jM m)))) (fun dd=>pz (g53 dd (2 ^ K) (jC r) (Iv true (jM r)))) W v:=by
 obtain ⟨s,p,l,c,q,k,d,s2,p2,l2,c2,q2,k2,d2,rfl,a1,a2⟩:=h
 refine ⟨s,p,l,c,q,k,d,s2,p2,l2,c2,q2,k2,d2,rfl,fun y=>?_,fun _=>a2.qg hK (by decide)⟩
 have hm:m≠0:=fun e=>by rw [if_pos e] at y;cases y
 rw [if_neg hm,if_neg hm] at a1
 exact a1.qg hK (by decide)
end Go.Proofs.YtngglmnhjjlgkaaGreatDoor
