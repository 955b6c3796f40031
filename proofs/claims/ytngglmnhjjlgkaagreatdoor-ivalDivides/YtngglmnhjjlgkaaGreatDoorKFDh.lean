import Derived.Test.YtngglmnhjjlgkaaGreatDoorKFDf
set_option maxHeartbeats 2000000
set_option maxRecDepth 20000
namespace Go.Proofs.YtngglmnhjjlgkaaGreatDoor
open Go.RowKit
set_option linter.unusedVariables false

theorem one_pos9 (m:Nat):0 < (if m = 0 then 1 else jC m):=by
 split
 ·decide
 ·rename_i h;exact Nat.pos_of_ne_zero (jC_ne m h)
theorem plz_ne (n:Bool) (m:Nat) (h:(Fq.plz n m)≠0):m≠0:=fun e=>h (by rw [e];unfold Fq.plz;cases n <;> rfl)
theorem byP_ (K:Nat) (hK:K = 1074) (n1 g1 n2 g2:Bool) (m1 r1 m2 r2:Nat) (hm1:m1≤9218868437227405312) (hr1:r1≤9218868437227405312) (hm2:m2≤9218868437227405312) (hr2:r2≤9218868437227405312) (hp1:0≤(Fq.plz n2 m2)) (hp2:(Fq.plz n2 m2) < 9218868437227405312) (hp3:0 < (Fq.plz g2 r2)) (W:World) (u v:Value) (h1:SV1 n1 m1 g1 r1 W u) (h2:SV1 n2 m2 g2 r2 W v):Calls Tryz.prog 24 #[u,v] W fun e w'=>∃ v',e = .returned v'∧TQ (jC r2 * (if m2 = 0 then 1 else jC m2)) (W.heap.size + 3) (tLo (Fq.plz n1 m1) (Fq.plz g1 r1) m2 r2 (if m2 = 0 then 1 else jC m2) (jC r2)) (tHi (Fq.plz n1 m1) (Fq.plz g1 r1) m2 r2 (if m2 = 0 then 1 else jC m2) (jC r2)) w' v'∧Kp W w':=by
 have h9:=h1
 have h8:=h2
 obtain ⟨s,p,l,c,q,k,d,s2,p2,l2,c2,q2,k2,d2,rfl,a1,a2⟩:=h1
 obtain ⟨s3,p3,l3,c3,q3,k3,d3,s4,p4,l4,c4,q4,k4,d4,rfl,b1,b2⟩:=h2
 have r0:=(plz_pos g2 r2 hp3).2
 have mi:m2≠9218868437227405312:=fun e=>by
  unfold Fq.plz at hp1 hp2
  cases n2 <;> simp at hp1 hp2 <;> omega
 refine by6c_ false false _ _ _ _ s p l c q k d s2 p2 l2 c2 q2 k2 d2 s3 p3 l3 c3 q3 k3 d3 s4 p4 l4 c4 q4 k4 d4 (SV1 n2 m2 g2 r2) (OV (W.heap.size + 3) m2 r2) (TQ (jC r2 * (if m2 = 0 then 1 else jC m2)) (W.heap.size + 3) (tLo (Fq.plz n1 m1) (Fq.plz g1 r1) m2 r2 (if m2 = 0 then 1 else jC m2) (jC r2)) (tHi (Fq.plz n1 m1) (Fq.plz g1 r1) m2 r2 (if m2 = 0 then 1 else jC m2) (jC r2))) (SV1 (!g2) r2 (!n2) m2) (fun _ v=>SV0 true v) (fun _ v=>SV0 true v) (fun _ v=>SV0 true v) (fun _ v=>SV0 true v) (TQ (jC r2 * (if m2 = 0 then 1 else jC m2)) (W.heap.size + 3) (tLo (Fq.plz n1 m1) (Fq.plz g1 r1) m2 r2 (if m2 = 0 then 1 else jC m2) (jC r2)) (tHi (Fq.plz n1 m1) (Fq.plz g1 r1) m2 r2 (if m2 = 0 then 1 else jC m2) (jC r2))) W (fun _ _ _ _ hx h=>h.set hx _) (fun _ _ _ y h=>h.kp y) (fun W' y _=>?_) (fun W' v _ hb h=>ovS_ K hK n2 g2 m2 r2 _ hp3 hp1 mi W' v hb h) (fun W' v y hb h=>timesO_ K hK n1 g1 m1 r1 m2 r2 hm1 hr1 r0 hr2 hm2 _ _ _ _ _ (one_pos9 m2) (Nat.pos_of_ne_zero (jC_ne r2 r0)) rfl (fun z=>by rw [if_neg z,Nat.mul_comm]) W' _ v hb (h9.kp y) h) (fun W' y _=>minusS_ n2 g2 m2 r2 W' _ (h8.kp y)) (fun W' v _ _ h=>upZ_ (!g2) (!n2) r2 m2 (by rw [plz_not];omega) W' v h) (fun W' v _ _ h=>ovX_ W' v h) (fun W' v y _ h=>timesX_ false true (Or.inr rfl) W' _ v (h9.kp y).sv0 h) (fun W' v _ _ h=>minusX_ W' v h) ?_
 ·have q9:=upS_ n2 g2 m2 r2 hp3 hp2 hm2 W' _ (h8.kp y)
  rw [if_neg (show ¬ (Fq.plz n2 m2) < 0 by omega),if_neg (show ¬ (Fq.plz n2 m2) < 0 by omega)] at q9
  exact q9
 rintro W' u v _ _ ⟨Gi,Gn,Gp,Gl,Gc,Gq,Gk,Gd,Oi,On,Op,Ol,Oc,Oq,Ok,Od,rfl,x1,x2⟩ ⟨i2,j2,s5,p5,l5,c5,q5,k5,d5,s6,p6,l6,c6,q6,k6,d6,rfl⟩
 refine (hullE2_ Gi Oi i2 j2 Gn Gp Gl Gc Gq Gk Gd On Op Ol Oc Oq Ok Od s5 p5 l5 c5 q5 k5 d5 s6 p6 l6 c6 q6 k6 d6 W').mono ?_
 rintro e w' ⟨rfl,g⟩
 exact ⟨false,Gi,Oi,Gn,Gp,Gl,Gc,Gq,Gk,Gd,On,Op,Ol,Oc,Oq,Ok,Od,rfl,⟨Gi,Gn,Gp,Gl,Gc,Gq,Gk,Gd,Oi,On,Op,Ol,Oc,Oq,Ok,Od,rfl,x1.kp g,x2.kp g⟩,g⟩
theorem byN_ (K:Nat) (hK:K = 1074) (n1 g1 n2 g2:Bool) (m1 r1 m2 r2:Nat) (hm1:m1≤9218868437227405312) (hr1:r1≤9218868437227405312) (hm2:m2≤9218868437227405312) (hr2:r2≤9218868437227405312) (hp1:(Fq.plz g2 r2)≤0) (hp2:-9218868437227405312 < (Fq.plz g2 r2)) (hp3:(Fq.plz n2 m2) < 0) (o1:okB (tLo (Fq.plz n1 m1) (Fq.plz g1 r1) r2 m2 (if r2 = 0 then 1 else jC r2) (jC m2))) (o2:okB (tHi (Fq.plz n1 m1) (Fq.plz g1 r1) r2 m2 (if r2 = 0 then 1 else jC r2) (jC m2))) (W:World) (u v:Value) (h1:SV1 n1 m1 g1 r1 W u) (h2:SV1 n2 m2 g2 r2 W v):Calls Tryz.prog 24 #[u,v] W fun e w'=>∃ v',e = .returned v'∧TQ (jC m2 * (if r2 = 0 then 1 else jC r2)) (W.heap.size + 3) (nB (tHi (Fq.plz n1 m1) (Fq.plz g1 r1) r2 m2 (if r2 = 0 then 1 else jC r2) (jC m2))) (nB (tLo (Fq.plz n1 m1) (Fq.plz g1 r1) r2 m2 (if r2 = 0 then 1 else jC r2) (jC m2))) w' v'∧Kp W w':=by
 have h9:=h1
 have h8:=h2
 obtain ⟨s,p,l,c,q,k,d,s2,p2,l2,c2,q2,k2,d2,rfl,a1,a2⟩:=h1
 obtain ⟨s3,p3,l3,c3,q3,k3,d3,s4,p4,l4,c4,q4,k4,d4,rfl,b1,b2⟩:=h2
 have e1:=plz_not n2 m2
 have e2:=plz_not g2 r2
 have m0:=plz_ne n2 m2 (by omega)
 have hCN:(jC m2 * (if r2 = 0 then 1 else jC r2))≠0:=Nat.mul_ne_zero (jC_ne m2 m0) (by have:=one_pos9 r2;omega)
 have mi:r2≠9218868437227405312:=fun e=>by
  unfold Fq.plz at hp1 hp2
  cases g2 <;> simp at hp1 hp2 <;> omega
 refine by6c_ false false _ _ _ _ s p l c q k d s2 p2 l2 c2 q2 k2 d2 s3 p3 l3 c3 q3 k3 d3 s4 p4 l4 c4 q4 k4 d4 (fun _ v=>SV0 true v) (fun _ v=>SV0 true v) (fun _ v=>SV0 true v) (SV1 (!g2) r2 (!n2) m2) (SV1 (!g2) r2 (!n2) m2) (OV (W.heap.size + 3) r2 m2) (TQ (jC m2 * (if r2 = 0 then 1 else jC r2)) (W.heap.size + 3) (tLo (Fq.plz n1 m1) (Fq.plz g1 r1) r2 m2 (if r2 = 0 then 1 else jC r2) (jC m2)) (tHi (Fq.plz n1 m1) (Fq.plz g1 r1) r2 m2 (if r2 = 0 then 1 else jC r2) (jC m2))) (TQ (jC m2 * (if r2 = 0 then 1 else jC r2)) (W.heap.size + 3) (nB (tHi (Fq.plz n1 m1) (Fq.plz g1 r1) r2 m2 (if r2 = 0 then 1 else jC r2) (jC m2))) (nB (tLo (Fq.plz n1 m1) (Fq.plz g1 r1) r2 m2 (if r2 = 0 then 1 else jC r2) (jC m2)))) (TQ (jC m2 * (if r2 = 0 then 1 else jC r2)) (W.heap.size + 3) (nB (tHi (Fq.plz n1 m1) (Fq.plz g1 r1) r2 m2 (if r2 = 0 then 1 else jC r2) (jC m2))) (nB (tLo (Fq.plz n1 m1) (Fq.plz g1 r1) r2 m2 (if r2 = 0 then 1 else jC r2) (jC m2)))) W (fun _ _ _ _ hx h=>h.set hx _) (fun _ _ _ y h=>h) (fun W' y _=>upZ_ n2 g2 m2 r2 hp1 W' _ (h8.kp y)) (fun W' v _ _ h=>ovX_ W' v h) (fun W' v y _ h=>timesX_ false true (Or.inr rfl) W' _ v (h9.kp y).sv0 h) (fun W' y _=>minusS_ n2 g2 m2 r2 W' _ (h8.kp y)) (fun W' v _ _ h=>?_) (fun W' v _ hb h=>ovS_ K hK (!g2) (!n2) r2 m2 _ (by omega) (by omega) mi W' v hb h) (fun W' v y hb h=>timesO_ K hK n1 g1 m1 r1 r2 m2 hm1 hr1 m0 hm2 hr2 _ _ _ _ _ (one_pos9 r2) (Nat.pos_of_ne_zero (jC_ne m2 m0)) rfl (fun z=>by rw [if_neg z,Nat.mul_comm]) W' _ v hb (h9.kp y) h) (fun W' v _ hb h=>minusQ_ _ _ _ hCN _ _ o1 o2 W' v hb h) ?_
 ·have q9:=upS_ (!g2) (!n2) r2 m2 (by omega) (by omega) hr2 W' v h
  rw [if_neg (show ¬ (Fq.plz (!g2) r2) < 0 by omega),if_neg (show ¬ (Fq.plz (!g2) r2) < 0 by omega)] at q9
  exact q9
 rintro W' u v _ _ ⟨i2,j2,s5,p5,l5,c5,q5,k5,d5,s6,p6,l6,c6,q6,k6,d6,rfl⟩ ⟨Gi,Gn,Gp,Gl,Gc,Gq,Gk,Gd,Oi,On,Op,Ol,Oc,Oq,Ok,Od,rfl,x1,x2⟩
 refine (hullE1_ i2 j2 Gi Oi s5 p5 l5 c5 q5 k5 d5 s6 p6 l6 c6 q6 k6 d6 Gn Gp Gl Gc Gq Gk Gd On Op Ol Oc Oq Ok Od false W').mono ?_
 rintro e w' ⟨rfl,g⟩
 exact ⟨false,Gi,Oi,Gn,Gp,Gl,Gc,Gq,Gk,Gd,On,Op,Ol,Oc,Oq,Ok,Od,rfl,⟨Gi,Gn,Gp,Gl,Gc,Gq,Gk,Gd,Oi,On,Op,Ol,Oc,Oq,Ok,Od,rfl,x1.kp g,x2.kp g⟩,g⟩
theorem byB_ (K:Nat) (hK:K = 1074) (n1 g1 n2 g2:Bool) (m1 r1 m2 r2:Nat) (hm1:m1≤9218868437227405312) (hr1:r1≤9218868437227405312) (hm2:m2≤9218868437227405312) (hr2:r2≤9218868437227405312) (hp1:(Fq.plz n2 m2) < 0) (hp3:0 < (Fq.plz g2 r2)) (o1:okB (tLo (Fq.plz n1 m1) (Fq.plz g1 r1) 0 m2 (jC r2) 1)) (o2:okB (tHi (Fq.plz n1 m1) (Fq.plz g1 r1) 0 m2 (jC r2) 1)) (W:World) (u v:Value) (h1:SV1 n1 m1 g1 r1 W u) (h2:SV1 n2 m2 g2 r2 W v):Calls Tryz.prog 24 #[u,v] W fun e w'=>∃ v',e = .returned v'∧TQ (jC r2 * jC m2) (W.heap.size + 3) (lB (tLo (Fq.plz n1 m1) (Fq.plz g1 r1) 0 r2 (jC m2) 1) (nB (tHi (Fq.plz n1 m1) (Fq.plz g1 r1) 0 m2 (jC r2) 1))) (gB (tHi (Fq.plz n1 m1) (Fq.plz g1 r1) 0 r2 (jC m2) 1) (nB (tLo (Fq.plz n1 m1) (Fq.plz g1 r1) 0 m2 (jC r2) 1))) w' v'∧Kp W w':=by
 have h9:=h1
 have h8:=h2
 obtain ⟨s,p,l,c,q,k,d,s2,p2,l2,c2,q2,k2,d2,rfl,a1,a2⟩:=h1
 obtain ⟨s3,p3,l3,c3,q3,k3,d3,s4,p4,l4,c4,q4,k4,d4,rfl,b1,b2⟩:=h2
 have e1:=plz_not n2 m2
 have e2:=plz_not g2 r2
 have z0:Fq.plz false 0 = 0:=rfl
 have r0:=(plz_pos g2 r2 hp3).2
 have m0:=plz_ne n2 m2 (by omega)
 have pr2:=Nat.pos_of_ne_zero (jC_ne r2 r0)
 have pm2:=Nat.pos_of_ne_zero (jC_ne m2 m0)
 have hCB:(jC r2 * jC m2)≠0:=Nat.mul_ne_zero (jC_ne r2 r0) (jC_ne m2 m0)
 refine by6c_ false false _ _ _ _ s p l c q k d s2 p2 l2 c2 q2 k2 d2 s3 p3 l3 c3 q3 k3 d3 s4 p4 l4 c4 q4 k4 d4 (SV1 false 0 g2 r2) (OV (W.heap.size + 3) 0 r2) (TQ (jC r2 * jC m2) (W.heap.size + 3) (tLo (Fq.plz n1 m1) (Fq.plz g1 r1) 0 r2 (jC m2) 1) (tHi (Fq.plz n1 m1) (Fq.plz g1 r1) 0 r2 (jC m2) 1)) (SV1 (!g2) r2 (!n2) m2) (SV1 false 0 (!n2) m2) (OV (W.heap.size + 3) 0 m2) (TQ (jC r2 * jC m2) (W.heap.size + 3) (tLo (Fq.plz n1 m1) (Fq.plz g1 r1) 0 m2 (jC r2) 1) (tHi (Fq.plz n1 m1) (Fq.plz g1 r1) 0 m2 (jC r2) 1)) (TQ (jC r2 * jC m2) (W.heap.size + 3) (nB (tHi (Fq.plz n1 m1) (Fq.plz g1 r1) 0 m2 (jC r2) 1)) (nB (tLo (Fq.plz n1 m1) (Fq.plz g1 r1) 0 m2 (jC r2) 1))) (TQ (jC r2 * jC m2) (W.heap.size + 3) (lB (tLo (Fq.plz n1 m1) (Fq.plz g1 r1) 0 r2 (jC m2) 1) (nB (tHi (Fq.plz n1 m1) (Fq.plz g1 r1) 0 m2 (jC r2) 1))) (gB (tHi (Fq.plz n1 m1) (Fq.plz g1 r1) 0 r2 (jC m2) 1) (nB (tLo (Fq.plz n1 m1) (Fq.plz g1 r1) 0 m2 (jC r2) 1)))) W (fun _ _ _ _ hx h=>h.set hx _) (fun _ _ _ y h=>h.kp y) (fun W' y _=>?_) (fun W' v _ hb h=>ovS_ K hK false g2 0 r2 _ hp3 (by rw [z0];omega) (by decide) W' v hb h) (fun W' v y hb h=>timesO_ K hK n1 g1 m1 r1 0 r2 hm1 hr1 r0 hr2 (by decide) _ _ _ _ _ pm2 (by decide) rfl (fun z=>absurd rfl z) W' _ v hb (h9.kp y) h) (fun W' y _=>minusS_ n2 g2 m2 r2 W' _ (h8.kp y)) (fun W' v _ _ h=>?_) (fun W' v _ hb h=>ovS_ K hK false (!n2) 0 m2 _ (by omega) (by rw [z0];omega) (by decide) W' v hb h) (fun W' v y hb h=>timesO_ K hK n1 g1 m1 r1 0 m2 hm1 hr1 m0 hm2 (by decide) _ _ _ _ _ pr2 (by decide) (Nat.mul_comm _ _) (fun z=>absurd rfl z) W' _ v hb (h9.kp y) h) (fun W' v _ hb h=>minusQ_ _ _ _ hCB _ _ o1 o2 W' v hb h) ?_
 ·have q9:=upS_ n2 g2 m2 r2 hp3 (by omega) hm2 W' _ (h8.kp y)
  rw [if_pos hp1,if_pos hp1] at q9
  exact q9
 ·have q9:=upS_ (!g2) (!n2) r2 m2 (by omega) (by omega) hr2 W' v h
  rw [if_pos (show (Fq.plz (!g2) r2) < 0 by omega),if_pos (show (Fq.plz (!g2) r2) < 0 by omega)] at q9
  exact q9
 ·intro W' u v _ _ hu hv
  refine (hullQ_ _ _ hCB _ _ _ _ W' u v hu hv).mono ?_
  rintro e w' ⟨v',rfl,⟨Gi,Gn,Gp,Gl,Gc,Gq,Gk,Gd,Oi,On,Op,Ol,Oc,Oq,Ok,Od,rfl,x1,x2⟩,g⟩
  exact ⟨false,Gi,Oi,Gn,Gp,Gl,Gc,Gq,Gk,Gd,On,Op,Ol,Oc,Oq,Ok,Od,rfl,⟨Gi,Gn,Gp,Gl,Gc,Gq,Gk,Gd,Oi,On,Op,Ol,Oc,Oq,Ok,Od,rfl,x1,x2⟩,g⟩
theorem byO_ (Ns:Bool) (n2 g2:Bool) (m2 r2:Nat) (hp1:(Fq.plz n2 m2) = 0) (hp3:(Fq.plz g2 r2) = 0) (W:World) (u v:Value) (h1:SV0 Ns u) (h2:SV1 n2 m2 g2 r2 W v):Calls Tryz.prog 24 #[u,v] W fun e w'=>∃ v',e = .returned v'∧SV0 true v'∧Kp W w':=by
 have h8:=h2
 have h9:=h1
 obtain ⟨i1,j1,s,p,l,c,q,k,d,s2,p2,l2,c2,q2,k2,d2,rfl⟩:=h1
 obtain ⟨s3,p3,l3,c3,q3,k3,d3,s4,p4,l4,c4,q4,k4,d4,rfl,b1,b2⟩:=h2
 refine by6c_ Ns false _ _ _ _ s p l c q k d s2 p2 l2 c2 q2 k2 d2 s3 p3 l3 c3 q3 k3 d3 s4 p4 l4 c4 q4 k4 d4 (fun _ v=>SV0 true v) (fun _ v=>SV0 true v) (fun _ v=>SV0 true v) (SV1 (!g2) r2 (!n2) m2) (fun _ v=>SV0 true v) (fun _ v=>SV0 true v) (fun _ v=>SV0 true v) (fun _ v=>SV0 true v) (fun _ v=>SV0 true v) W (fun _ _ _ _ _ h=>h) (fun _ _ _ _ h=>h) (fun W' y _=>upZ_ n2 g2 m2 r2 (by omega) W' _ (h8.kp y)) (fun W' v _ _ h=>ovX_ W' v h) (fun W' v _ _ h=>timesX_ Ns true (Or.inr rfl) W' _ v h9 h) (fun W' y _=>minusS_ n2 g2 m2 r2 W' _ (h8.kp y)) (fun W' v _ _ h=>upZ_ (!g2) (!n2) r2 m2 (by rw [plz_not];omega) W' v h) (fun W' v _ _ h=>ovX_ W' v h) (fun W' v _ _ h=>timesX_ Ns true (Or.inr rfl) W' _ v h9 h) (fun W' v _ _ h=>minusX_ W' v h) ?_
 rintro W' u v _ _ ⟨i1,j1,Gn,Gp,Gl,Gc,Gq,Gk,Gd,On,Op,Ol,Oc,Oq,Ok,Od,rfl⟩ ⟨i2,j2,s5,p5,l5,c5,q5,k5,d5,s6,p6,l6,c6,q6,k6,d6,rfl⟩
 refine (hullE1_ i1 j1 i2 j2 Gn Gp Gl Gc Gq Gk Gd On Op Ol Oc Oq Ok Od s5 p5 l5 c5 q5 k5 d5 s6 p6 l6 c6 q6 k6 d6 true W').mono ?_
 rintro e w' ⟨rfl,g⟩
 exact ⟨true,i2,j2,s5,p5,l5,c5,q5,k5,d5,s6,p6,l6,c6,q6,k6,d6,rfl,⟨i2,j2,s5,p5,l5,c5,q5,k5,d5,s6,p6,l6,c6,q6,k6,d6,rfl⟩,g⟩
theorem byV_ (Ns:Bool) (W:World) (u v:Value) (h1:SV0 Ns u) (h2:SV0 true v):Calls Tryz.prog 24 #[u,v] W fun e w'=>∃ v',e = .returned v'∧SV0 true v'∧Kp W w':=by
 have h9:=h1
 have h8:=h2
 obtain ⟨i1,j1,s,p,l,c,q,k,d,s2,p2,l2,c2,q2,k2,d2,rfl⟩:=h1
 obtain ⟨i2,j2,s3,p3,l3,c3,q3,k3,d3,s4,p4,l4,c4,q4,k4,d4,rfl⟩:=h2
 refine by6c_ Ns true _ _ _ _ s p l c q k d s2 p2 l2 c2 q2 k2 d2 s3 p3 l3 c3 q3 k3 d3 s4 p4 l4 c4 q4 k4 d4 (fun _ v=>SV0 true v) (fun _ v=>SV0 true v) (fun _ v=>SV0 true v) (fun _ v=>SV0 true v) (fun _ v=>SV0 true v) (fun _ v=>SV0 true v) (fun _ v=>SV0 true v) (fun _ v=>SV0 true v) (fun _ v=>SV0 true v) W (fun _ _ _ _ _ h=>h) (fun _ _ _ _ h=>h) (fun W' y _=>upX_ W' _ h8) (fun W' v _ _ h=>ovX_ W' v h) (fun W' v _ _ h=>timesX_ Ns true (Or.inr rfl) W' _ v h9 h) (fun W' y _=>minusX_ W' _ h8) (fun W' v _ _ h=>upX_ W' v h) (fun W' v _ _ h=>ovX_ W' v h) (fun W' v _ _ h=>timesX_ Ns true (Or.inr rfl) W' _ v h9 h) (fun W' v _ _ h=>minusX_ W' v h) ?_
 rintro W' u v _ _ ⟨i1,j1,Gn,Gp,Gl,Gc,Gq,Gk,Gd,On,Op,Ol,Oc,Oq,Ok,Od,rfl⟩ ⟨i2,j2,s5,p5,l5,c5,q5,k5,d5,s6,p6,l6,c6,q6,k6,d6,rfl⟩
 refine (hullE1_ i1 j1 i2 j2 Gn Gp Gl Gc Gq Gk Gd On Op Ol Oc Oq Ok Od s5 p5 l5 c5 q5 k5 d5 s6 p6 l6 c6 q6 k6 d6 true W').mono ?_
 rintro e w' ⟨rfl,g⟩
 exact ⟨true,i2,j2,s5,p5,l5,c5,q5,k5,d5,s6,p6,l6,c6,q6,k6,d6,rfl,⟨i2,j2,s5,p5,l5,c5,q5,k5,d5,s6,p6,l6,c6,q6,k6,d6,rfl⟩,g⟩
set_option linter.unusedVariables false
theorem rdiv6c_ (X Y C D LO HI:Int) (P1 P2 P3:World→Value→Prop) (w:World) (hk1:∀ (W W':World) (v:Value),Kp W W'→P1 W v→P1 W' v) (hO1:∀ W:World,Kp w W→Calls Tryz.prog 25 #[.agg #[.int .u64 X,.int .u64 Y]] W fun e w'=>∃ v,e = .returned v∧P1 w' v∧Kp W w') (hO2:∀ W:World,Kp w W→Calls Tryz.prog 25 #[.agg #[.int .u64 C,.int .u64 D]] W fun e w'=>∃ v,e = .returned v∧P2 w' v∧Kp W w')  (hPl:∀ (W:World) (u v:Value),Kp w W→P1 W u→P2 W v→Calls Tryz.prog 24 #[u,v] W fun e w'=>∃ v',e = .returned v'∧P3 w' v'∧Kp W w') (hLe:∀ (W:World) (v:Value),Kp w W→P3 W v→Calls Tryz.prog 23 #[v] W fun e w'=>e = .returned (.agg #[.int .u64 LO,.int .u64 HI])∧Kp W w'):Calls Tryz.prog 9 #[.agg #[.int .u64 X,.int .u64 Y],.agg #[.int .u64 C,.int .u64 D]] w fun e w'=>e = .returned (.agg #[.int .u64 LO,.int .u64 HI])∧Kp w w':=by
 go_enter Tryz.func9,Tryz.ntmps9
 go_wp2
 generalize hW:(((w.alloc (.cells #[.int .u64 X,.int .u64 Y] 24)).alloc (.cells #[.int .u64 C,.int .u64 D] 24)).alloc (.cells #[.int .u64 0,.int .u64 0] 24)) = W
 have kw:Kp w W:=by rw [← hW];exact (((Kp.refl w).alloc _).alloc _).alloc _
 have xw0:W.cell? ⟨w.heap.size,0,none⟩ = some (.int .u64 X):=by rw [← hW];simp [go_sem]
 have dw0:W.drew.cell? ⟨w.heap.size,0,none⟩ = some (.int .u64 X):=xw0
 have xw1:W.cell? ⟨w.heap.size,1,none⟩ = some (.int .u64 Y):=by rw [← hW];simp [go_sem]
 have dw1:W.drew.cell? ⟨w.heap.size,1,none⟩ = some (.int .u64 Y):=xw1
 have xw2:W.cell? ⟨w.heap.size + 1,0,none⟩ = some (.int .u64 C):=by rw [← hW];simp [go_sem]
 have dw2:W.drew.cell? ⟨w.heap.size + 1,0,none⟩ = some (.int .u64 C):=xw2
 have xw3:W.cell? ⟨w.heap.size + 1,1,none⟩ = some (.int .u64 D):=by rw [← hW];simp [go_sem]
 have dw3:W.drew.cell? ⟨w.heap.size + 1,1,none⟩ = some (.int .u64 D):=xw3
 have r0:W.cell? ⟨w.heap.size + 2,0,none⟩ = some (.int .u64 0):=by rw [← hW];simp [go_sem]
 have rz0:W.frozen? ⟨w.heap.size + 2,0,none⟩ = false:=by rw [← hW];simp [go_sem]
 have r1:W.cell? ⟨w.heap.size + 2,1,none⟩ = some (.int .u64 0):=by rw [← hW];simp [go_sem]
 have rz1:W.frozen? ⟨w.heap.size + 2,1,none⟩ = false:=by rw [← hW];simp [go_sem]
 have hn1:w.heap.size + 2≠w.heap.size:=by omega
 have hn2:w.heap.size + 2≠w.heap.size + 1:=by omega
 clear hW
 go_region_held3 (fun w'=>w'.cell? ⟨w.heap.size,0,none⟩ = some (.int .u64 X)∧w'.cell? ⟨w.heap.size,1,none⟩ = some (.int .u64 Y)∧w'.cell? ⟨w.heap.size + 1,0,none⟩ = some (.int .u64 C)∧w'.cell? ⟨w.heap.size + 1,1,none⟩ = some (.int .u64 D)) (first | (with_reducible exact ⟨xw0,xw1,xw2,xw3⟩) | (with_reducible exact ⟨dw0,dw1,dw2,dw3⟩) | (with_reducible exact ⟨wA0,wA1,wA2,wA3⟩) | (with_reducible exact ⟨wB0,wB1,wB2,wB3⟩) | (with_reducible exact ⟨wC0,wC1,wC2,wC3⟩) | (with_reducible exact ⟨wD0,wD1,wD2,wD3⟩) | (exact ⟨((CF _ _ _ _ hn1).trans ((CF _ _ _ _ hn1).trans wD0)),((CF _ _ _ _ hn1).trans ((CF _ _ _ _ hn1).trans wD1)),((CF _ _ _ _ hn2).trans ((CF _ _ _ _ hn2).trans wD2)),((CF _ _ _ _ hn2).trans ((CF _ _ _ _ hn2).trans wD3))⟩)) (first | (go_at_call_of 25 (Value.int .u64 X);refine (hO1 _ ?q0).mono ?_;(case q0=>exact kw.drew);rintro e wA ⟨v1,rfl,hv1,gA⟩;have kA:Kp W wA:=Kp.trans (Kp.drew (Kp.refl _)) gA;have wA0:=kkeep kA xw0;have wA1:=kkeep kA xw1;have wA2:=kkeep kA xw2;have wA3:=kkeep kA xw3) | (go_at_call_of 25 (Value.int .u64 C);refine (hO2 _ ?q0).mono ?_;(case q0=>exact kw.trans kA);rintro e wB ⟨v2,rfl,hv2,gB⟩;have kB:Kp W wB:=Kp.trans kA gB;have hv3:=hk1 _ _ _ gB hv1;have wB0:=kkeep kB xw0;have wB1:=kkeep kB xw1;have wB2:=kkeep kB xw2;have wB3:=kkeep kB xw3) | (go_at_call 24;refine (hPl _ v1 v2 (kw.trans kB) hv3 hv2).mono ?_;rintro e wC ⟨v6,rfl,hv6,gC⟩;have kC:Kp W wC:=Kp.trans kB gC;have wC0:=kkeep kC xw0;have wC1:=kkeep kC xw1;have wC2:=kkeep kC xw2;have wC3:=kkeep kC xw3) | (go_at_call 23;refine (hLe _ v6 (kw.trans kC) hv6).mono ?_;rintro e wD ⟨rfl,gD⟩;have kD:Kp W wD:=Kp.trans kC gD;have wD0:=kkeep kD xw0;have wD1:=kkeep kD xw1;have wD2:=kkeep kD xw2;have wD3:=kkeep kD xw3;have R0:=kkeep kD r0;have Rz0:wD.frozen? ⟨w.heap.size + 2,0,none⟩ = false:=(kfro kD (cell_lt r0)).trans rz0;have R1:=kkeep kD r1;have Rz1:wD.frozen? ⟨w.heap.size + 2,1,none⟩ = false:=(kfro kD (cell_lt r1)).trans rz1))
 go_wp2
 exact bodyPost_ret (v:=.agg #[.int .u64 LO,.int .u64 HI]) (by simp [results,Tryz.results9,go_sem,R0,R1]) rfl ⟨rfl,(((Kp.trans kw kD)).setCell (by simp <;> omega) _).setCell (by simp <;> omega) _⟩

theorem upD_ (n g:Bool) (m r:Nat) (hm:m≤9218868437227405312) (hL:(Fq.plz n m) < 9218868437227405312) (W:World) (v:Value) (h:SV1 n m g r W v):Calls Tryz.prog 44 #[v] W fun e w'=>∃ v',e = .returned v'∧(fun W v=>SV0 true v∨∃ (n9:Bool) (m9:Nat),SV1 n9 m9 g r W v∧0 < Fq.plz g r∧0≤Fq.plz n9 m9∧m9≠9218868437227405312) w' v'∧Kp W w':=by
 by_cases cz:0 < (Fq.plz g r)
 ·refine (upS_ n g m r cz hL hm W v h).mono ?_
  rintro e w' ⟨v',rfl,q9,y⟩
  refine ⟨v',rfl,Or.inr ⟨_,_,q9,cz, ?_, ?_⟩,y⟩
  ·by_cases x:(Fq.plz n m) < 0
   ·rw [if_pos x,if_pos x];exact Int.le_refl 0
   ·rw [if_neg x,if_neg x];omega
  ·by_cases x:(Fq.plz n m) < 0
   ·rw [if_pos x];decide
   ·rw [if_neg x]
    intro e
    unfold Fq.plz at x hL
    cases n <;> simp at x hL <;> omega
 ·refine (upZ_ n g m r (by omega) W v h).mono ?_
  rintro e w' ⟨v',rfl,q9,y⟩
  exact ⟨v',rfl,Or.inl q9,y⟩
theorem ovD_ (K:Nat) (hK:K = 1074) (n g:Bool) (m r:Nat) (W:World) (v:Value) (h:(fun W v=>SV0 true v∨∃ (n9:Bool) (m9:Nat),SV1 n9 m9 g r W v∧0 < Fq.plz g r∧0≤Fq.plz n9 m9∧m9≠9218868437227405312) W v):Calls Tryz.prog 43 #[v] W fun e w'=>∃ v',e = .returned v'∧(∃ N9,SV0 N9 v')∧Kp W w':=by
 rcases h with h | ⟨n9,m9,h,x1,x2,x3⟩
 ·refine (ovX_ W v h).mono ?_
  rintro e w' ⟨v',rfl,q9,y⟩
  exact ⟨v',rfl,⟨true,q9⟩,y⟩
 ·refine (ovS_ K hK n9 g m9 r 0 x1 x2 x3 W v (Nat.zero_le _) h).mono ?_
  rintro e w' ⟨v',rfl,⟨s,p,l,c,q,k,d,s2,p2,l2,c2,q2,k2,d2,rfl,y1,y2⟩,y⟩
  exact ⟨_,rfl,⟨false,_,_,s,p,l,c,q,k,d,s2,p2,l2,c2,q2,k2,d2,rfl⟩,y⟩
theorem byS_ (K:Nat) (hK:K = 1074) (n2 g2:Bool) (m2 r2:Nat) (hm2:m2≤9218868437227405312) (hr2:r2≤9218868437227405312) (hL:(Fq.plz n2 m2) < 9218868437227405312) (hH:-9218868437227405312 < (Fq.plz g2 r2)) (W:World) (u v:Value) (h1:SV0 true u) (h2:SV1 n2 m2 g2 r2 W v):Calls Tryz.prog 24 #[u,v] W fun e w'=>∃ v',e = .returned v'∧SV0 true v'∧Kp W w':=by
 have h8:=h2
 have h9:=h1
 obtain ⟨i1,j1,s,p,l,c,q,k,d,s2,p2,l2,c2,q2,k2,d2,rfl⟩:=h1
 obtain ⟨s3,p3,l3,c3,q3,k3,d3,s4,p4,l4,c4,q4,k4,d4,rfl,b1,b2⟩:=h2
 have e2:=plz_not g2 r2
 refine by6c_ true false _ _ _ _ s p l c q k d s2 p2 l2 c2 q2 k2 d2 s3 p3 l3 c3 q3 k3 d3 s4 p4 l4 c4 q4 k4 d4 (fun W v=>SV0 true v∨∃ (n9:Bool) (m9:Nat),SV1 n9 m9 g2 r2 W v∧0 < Fq.plz g2 r2∧0≤Fq.plz n9 m9∧m9≠9218868437227405312) (fun _ v=>∃ N9,SV0 N9 v) (fun _ v=>SV0 true v) (SV1 (!g2) r2 (!n2) m2) (fun W v=>SV0 true v∨∃ (n9:Bool) (m9:Nat),SV1 n9 m9 (!n2) m2 W v∧0 < Fq.plz (!n2) m2∧0≤Fq.plz n9 m9∧m9≠9218868437227405312) (fun _ v=>∃ N9,SV0 N9 v) (fun _ v=>SV0 true v) (fun _ v=>SV0 true v) (fun _ v=>SV0 true v) W (fun _ _ _ _ _ h=>h) (fun _ _ _ _ h=>h) (fun W' y _=>upD_ n2 g2 m2 r2 hm2 hL W' _ (h8.kp y)) (fun W' v _ _ h=>ovD_ K hK n2 g2 m2 r2 W' v h) (fun W' v _ _ h=>h.elim fun N9 h=>timesX_ true N9 (Or.inl rfl) W' _ v h9 h) (fun W' y _=>minusS_ n2 g2 m2 r2 W' _ (h8.kp y)) (fun W' v _ _ h=>upD_ (!g2) (!n2) r2 m2 hr2 (by omega) W' v h) (fun W' v _ _ h=>ovD_ K hK (!g2) (!n2) r2 m2 W' v h) (fun W' v _ _ h=>h.elim fun N9 h=>timesX_ true N9 (Or.inl rfl) W' _ v h9 h) (fun W' v _ _ h=>minusX_ W' v h) ?_
 rintro W' u v _ _ ⟨i1,j1,Gn,Gp,Gl,Gc,Gq,Gk,Gd,On,Op,Ol,Oc,Oq,Ok,Od,rfl⟩ ⟨i2,j2,s5,p5,l5,c5,q5,k5,d5,s6,p6,l6,c6,q6,k6,d6,rfl⟩
 refine (hullE1_ i1 j1 i2 j2 Gn Gp Gl Gc Gq Gk Gd On Op Ol Oc Oq Ok Od s5 p5 l5 c5 q5 k5 d5 s6 p6 l6 c6 q6 k6 d6 true W').mono ?_
 rintro e w' ⟨rfl,g⟩
 exact ⟨true,i2,j2,s5,p5,l5,c5,q5,k5,d5,s6,p6,l6,c6,q6,k6,d6,rfl,⟨i2,j2,s5,p5,l5,c5,q5,k5,d5,s6,p6,l6,c6,q6,k6,d6,rfl⟩,g⟩
end Go.Proofs.YtngglmnhjjlgkaaGreatDoor
