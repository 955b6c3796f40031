import Derived.Test.YtngglmnhjjlgkaaGreatDoorKFIf
namespace Go.Proofs.YtngglmnhjjlgkaaGreatDoor
open Go.RowKit
set_option linter.unusedVariables false

theorem vZ_plz (n:Bool) (m:Nat):vZ (Fq.plz n m) = Iv n m:=by
 cases n
 ·have e:Fq.plz false m = (m:Int):=by simp [Fq.plz]
  rw [e,vZ_pos _ (by omega)]
  unfold Iv;simp
 ·have e:Fq.plz true m = -(m:Int):=by simp [Fq.plz]
  rw [e,vZ_neg,vZ_pos _ (by omega)]
  unfold Iv;simp
theorem cmI_ne (x:Int) (h:x≠0):(cmI x 0 == 0) = false:=by
 unfold cmI
 rcases Int.lt_trichotomy x 0 with c | c | c
 ·rw [if_pos c];rfl
 ·exact absurd c h
 ·rw [if_neg (by omega),if_pos c];rfl
theorem cmI_mul (x y:Int) (hx:x≠0) (hy:y≠0):IntKind.i64.wrap (cmI x 0 * cmI y 0) = if (x < 0 ↔ y < 0) then 1 else -1:=by
 unfold cmI
 rcases Int.lt_trichotomy x 0 with c | c | c
 ·rcases Int.lt_trichotomy y 0 with e | e | e
  ·rw [if_pos c,if_pos e,if_pos (show (x < 0 ↔ y < 0) by omega)];decide
  ·exact absurd e hy
  ·rw [if_pos c,if_neg (show ¬ y < 0 by omega),if_pos e,if_neg (show ¬ (x < 0 ↔ y < 0) by omega)];decide
 ·exact absurd c hx
 ·rcases Int.lt_trichotomy y 0 with e | e | e
  ·rw [if_neg (show ¬ x < 0 by omega),if_pos c,if_pos e,if_neg (show ¬ (x < 0 ↔ y < 0) by omega)];decide
  ·exact absurd e hy
  ·rw [if_neg (show ¬ x < 0 by omega),if_pos c,if_neg (show ¬ y < 0 by omega),if_pos e,if_pos (show (x < 0 ↔ y < 0) by omega)];decide
set_option linter.unusedVariables false

def EB (K base:Nat) (B:Int × Int) (W:World) (ai:Int) (an:Bool) (ap:Option Addr) (al ac:Nat) (aq:Option Addr) (ak ad:Nat):Prop:=ai = B.1∧(B.1 = 0→XP base W an ap al ac aq ak ad B.2 (2 ^ K * 2 ^ K) 7000)
theorem cmJ_I (V W:Int):cmI V W = cmJ V W:=by unfold cmI cmJ;rfl
theorem EB.kp {K base:Nat} {B:Int × Int} {W W':World} {ai:Int} {an:Bool} {ap:Option Addr} {al ac:Nat} {aq:Option Addr} {ak ad:Nat} (h:EB K base B W ai an ap al ac aq ak ad) (g:Kp W W'):EB K base B W' ai an ap al ac aq ak ad:=⟨h.1,fun z=>(h.2 z).kp g⟩
def tb (p0 p1 p2 p3:Int × Int):Nat→Int × Int
 | 0=>p0 | 1=>p1 | 2=>p2 | 3=>p3 | 4=>lB p0 p1 | 5=>lB p2 p3 | 6=>lB (lB p0 p1) (lB p2 p3) | 7=>gB p0 p1 | 8=>gB p2 p3 | _=>gB (gB p0 p1) (gB p2 p3)
set_option linter.unusedVariables false

theorem divW_g3 (K:Nat) (hK:K = 1074) (d:Int) (n:Bool) (P B:Nat):divW d n P B = pz (g53 d (2 ^ K) B (if n then -((P:Nat):Int) else ((P:Nat):Int))):=by
 unfold divW g53 gpl
 rw [show (1074:Int) = (K:Int) from by omega]
 by_cases z:P = 0
 ·rw [if_pos z,z,if_pos (by cases n <;> rfl)];rfl
 ·rw [if_neg z,if_neg (by cases n <;> simp <;> omega),mdW_pz,rV_pos]
  cases n
  ·simp only [Bool.false_eq_true,if_false]
   rw [if_neg (show ¬ ((P:Nat):Int) < 0 by omega),show ((P:Nat):Int).natAbs = P from by omega]
  ·simp only [if_true]
   rw [if_pos (show -((P:Nat):Int) < 0 by omega),show (-((P:Nat):Int)).natAbs = P from by omega]
theorem XP.qv {base:Nat} {w:World} {s:Bool} {p:Option Addr} {l c:Nat} {q:Option Addr} {k d:Nat} {V:Int} {C N:Nat} {K:Nat} (hK:K = 1074) (hN:N≤4194304) (h:XP base w s p l c q k d V C N):QP base w s p l c q k d (fun dd=>pz (g53 dd (2 ^ K) C V)):=by
 obtain ⟨a,b,h1,h2,f1,f0,f3,f4,f5⟩:=h
 refine ⟨a,b,h1,h2,f1,by omega,by omega,fun dd=>?_⟩
 show _ = pz (g53 dd (2 ^ K) C V)
 have pc:(0:Int) < (C:Int):=by omega
 have pb:(0:Int) < (b:Int):=by omega
 have e:=divW_g3 K hK dd (decide (V < 0)) V.natAbs C
 rw [show (if decide (V < 0) = true then -((V.natAbs:Nat):Int) else ((V.natAbs:Nat):Int)) = V from by
  by_cases v:V < 0
  ·rw [if_pos (decide_eq_true v)];omega
  ·rw [if_neg (by simpa using v)];omega] at e
 rw [← e]
 refine ref_div dd s (decide (V < 0)) a b a b V.natAbs C f1 f0 ⟨f1,Iff.rfl,fun d' p' t' _=>by rw [Int.add_zero],by omega,by omega⟩ (fun hx=>?_) ?_
 ·have pa:(0:Int) < (a:Int):=by omega
  have k1:=Int.mul_pos pa pc
  unfold rvI at f3
  cases s
  ·rw [if_neg (by decide)] at f3
   refine (decide_eq_false (fun hv=>?_)).symm
   have k2:=Int.mul_neg_of_neg_of_pos hv pb
   omega
  ·rw [if_pos rfl,Int.neg_mul] at f3
   refine (decide_eq_true ?_).symm
   by_cases hv:V < 0
   ·exact hv
   ·have k2:=Int.mul_nonneg (show 0≤V by omega) (Int.le_of_lt pb)
    omega
 ·have k:=congrArg Int.natAbs f3
  rw [Int.natAbs_mul,Int.natAbs_mul,Int.natAbs_natCast,Int.natAbs_natCast,show (rvI s a).natAbs = a from by unfold rvI;cases s <;> simp] at k
  exact k
set_option linter.unusedVariables false
def EQ (CC base:Nat) (B:Int × Int) (W:World) (ai:Int) (an:Bool) (ap:Option Addr) (al ac:Nat) (aq:Option Addr) (ak ad:Nat):Prop:=ai = B.1∧(B.1 = 0→XP base W an ap al ac aq ak ad B.2 CC 60000)∧(∃ (V9:Int) (C9:Nat),XP base W an ap al ac aq ak ad V9 C9 60000)
theorem cmpQ_ (CC base:Nat) (hC:CC≠0) (Ba Bb:Int × Int) (W:World) (ai:Int) (an:Bool) (ap:Option Addr) (al ac:Nat) (aq:Option Addr) (ak ad:Nat) (bi:Int) (bn:Bool) (bp:Option Addr) (bl bc:Nat) (bq:Option Addr) (bk bd:Nat) (h1:EQ CC base Ba W ai an ap al ac aq ak ad) (h2:EQ CC base Bb W bi bn bp bl bc bq bk bd):Calls Tryz.prog 80 #[.agg #[.int .i64 ai,.bool an,.slice ap al ac,.slice aq ak ad],.agg #[.int .i64 bi,.bool bn,.slice bp bl bc,.slice bq bk bd]] W fun e w'=>e = .returned (.int .i64 (cB Ba.1 Ba.2 Bb.1 Bb.2))∧Kp W w':=by
 obtain ⟨e1,x1,u1⟩:=h1
 obtain ⟨e2,x2,u2⟩:=h2
 subst e1
 subst e2
 unfold cB
 rcases Int.lt_trichotomy Ba.1 Bb.1 with c | c | c
 ·rw [if_pos c]
  exact endL_ _ _ an ap al ac aq ak ad bn bp bl bc bq bk bd (by simp;omega) c W
 ·rw [if_neg (by omega),if_neg (by omega)]
  by_cases z:Ba.1 = 0
  ·rw [if_neg (by omega)]
   have y1:=x1 z
   have y2:=x2 (by omega)
   have pk:(0:Int) < ((CC:Nat):Int):=by omega
   have h:=endZ_ (cmJ Ba.2 Bb.2) an ap al ac aq ak ad bn bp bl bc bq bk bd W (fun W' g=>by
    have h:=xcmp_ base base Ba.2 Bb.2 CC CC 60000 60000 (by omega) (by omega) an ap al ac aq ak ad bn bp bl bc bq bk bd W' (y1.kp g) (y2.kp g)
    rw [cmI_scale _ _ _ pk,cmJ_I] at h
    exact h)
   rw [show Bb.1 = 0 from by omega,z]
   exact h
  ·rw [if_pos z,← c]
   exact endE_ _ an ap al ac aq ak ad bn bp bl bc bq bk bd (by simp;omega) W
 ·rw [if_neg (by omega),if_pos c]
  exact endG_ _ _ an ap al ac aq ak ad bn bp bl bc bq bk bd (by simp;omega) (by omega) W
theorem EQ.kp {CC base:Nat} {B:Int × Int} {W W':World} {ai:Int} {an:Bool} {ap:Option Addr} {al ac:Nat} {aq:Option Addr} {ak ad:Nat} (h:EQ CC base B W ai an ap al ac aq ak ad) (g:Kp W W'):EQ CC base B W' ai an ap al ac aq ak ad:=⟨h.1,fun z=>(h.2.1 z).kp g,h.2.2.elim fun V h=>h.elim fun C h=>⟨V,C,h.kp g⟩⟩
theorem lesserQ_ (CC base:Nat) (hC:CC≠0) (Ba Bb:Int × Int) (W:World) (ai:Int) (an:Bool) (ap:Option Addr) (al ac:Nat) (aq:Option Addr) (ak ad:Nat) (bi:Int) (bn:Bool) (bp:Option Addr) (bl bc:Nat) (bq:Option Addr) (bk bd:Nat) (h1:EQ CC base Ba W ai an ap al ac aq ak ad) (h2:EQ CC base Bb W bi bn bp bl bc bq bk bd):Calls Tryz.prog 54 #[.agg #[.int .i64 ai,.bool an,.slice ap al ac,.slice aq ak ad],.agg #[.int .i64 bi,.bool bn,.slice bp bl bc,.slice bq bk bd]] W fun e w'=>∃ ci cn cp cl cc cq ck cd,e = .returned (.agg #[.int .i64 ci,.bool cn,.slice cp cl cc,.slice cq ck cd])∧EQ CC base (lB Ba Bb) w' ci cn cp cl cc cq ck cd∧Kp W w':=by
 have hc:=fun (W':World) (g:Kp W W')=>cmpQ_ CC base hC Bb Ba W' bi bn bp bl bc bq bk bd ai an ap al ac aq ak ad (h2.kp g) (h1.kp g)
 unfold lB
 by_cases c:cB Bb.1 Bb.2 Ba.1 Ba.2 < 0
 ·rw [if_pos c]
  refine (lesserB_ ai bi _ an ap al ac aq ak ad bn bp bl bc bq bk bd c W hc).mono ?_
  rintro e w' ⟨rfl,g⟩
  exact ⟨bi,bn,bp,bl,bc,bq,bk,bd,rfl,h2.kp g,g⟩
 ·rw [if_neg c]
  refine (lesserA_ ai bi _ an ap al ac aq ak ad bn bp bl bc bq bk bd c W hc).mono ?_
  rintro e w' ⟨rfl,g⟩
  exact ⟨ai,an,ap,al,ac,aq,ak,ad,rfl,h1.kp g,g⟩
theorem greaterQ_ (CC base:Nat) (hC:CC≠0) (Ba Bb:Int × Int) (W:World) (ai:Int) (an:Bool) (ap:Option Addr) (al ac:Nat) (aq:Option Addr) (ak ad:Nat) (bi:Int) (bn:Bool) (bp:Option Addr) (bl bc:Nat) (bq:Option Addr) (bk bd:Nat) (h1:EQ CC base Ba W ai an ap al ac aq ak ad) (h2:EQ CC base Bb W bi bn bp bl bc bq bk bd):Calls Tryz.prog 55 #[.agg #[.int .i64 ai,.bool an,.slice ap al ac,.slice aq ak ad],.agg #[.int .i64 bi,.bool bn,.slice bp bl bc,.slice bq bk bd]] W fun e w'=>∃ ci cn cp cl cc cq ck cd,e = .returned (.agg #[.int .i64 ci,.bool cn,.slice cp cl cc,.slice cq ck cd])∧EQ CC base (gB Ba Bb) w' ci cn cp cl cc cq ck cd∧Kp W w':=by
 have hc:=fun (W':World) (g:Kp W W')=>cmpQ_ CC base hC Bb Ba W' bi bn bp bl bc bq bk bd ai an ap al ac aq ak ad (h2.kp g) (h1.kp g)
 unfold gB
 by_cases c:0 < cB Bb.1 Bb.2 Ba.1 Ba.2
 ·rw [if_pos c]
  refine (greaterB_ ai bi _ an ap al ac aq ak ad bn bp bl bc bq bk bd c W hc).mono ?_
  rintro e w' ⟨rfl,g⟩
  exact ⟨bi,bn,bp,bl,bc,bq,bk,bd,rfl,h2.kp g,g⟩
 ·rw [if_neg c]
  refine (greaterA_ ai bi _ an ap al ac aq ak ad bn bp bl bc bq bk bd c W hc).mono ?_
  rintro e w' ⟨rfl,g⟩
  exact ⟨ai,an,ap,al,ac,aq,ak,ad,rfl,h1.kp g,g⟩

theorem timesQ_ (CC:Nat) (hC:CC≠0) (p0 p1 p2 p3:Int × Int) (Ai:Int) (An:Bool) (Ap:Option Addr) (Al Ac:Nat) (Aq:Option Addr) (Ak Ad:Nat) (Bi:Int) (Bn:Bool) (Bp:Option Addr) (Bl Bc:Nat) (Bq:Option Addr) (Bk Bd:Nat) (Ci:Int) (Cn:Bool) (Cp:Option Addr) (Cl Cc:Nat) (Cq:Option Addr) (Ck Cd:Nat) (Di:Int) (Dn:Bool) (Dp:Option Addr) (Dl Dc:Nat) (Dq:Option Addr) (Dk Dd:Nat) (w:World) (hP0:∀ W:World,Kp w W→w.heap.size + 3≤W.heap.size→Calls Tryz.prog 53 #[.agg #[.int .i64 Ai,.bool An,.slice Ap Al Ac,.slice Aq Ak Ad],.agg #[.int .i64 Ci,.bool Cn,.slice Cp Cl Cc,.slice Cq Ck Cd]] W fun e w'=>∃ pi pn pp pl pc pq pk pd,e = .returned (.agg #[.int .i64 pi,.bool pn,.slice pp pl pc,.slice pq pk pd])∧EQ CC (w.heap.size + 3) p0 w' pi pn pp pl pc pq pk pd∧Kp W w') (hP1:∀ W:World,Kp w W→w.heap.size + 3≤W.heap.size→Calls Tryz.prog 53 #[.agg #[.int .i64 Ai,.bool An,.slice Ap Al Ac,.slice Aq Ak Ad],.agg #[.int .i64 Di,.bool Dn,.slice Dp Dl Dc,.slice Dq Dk Dd]] W fun e w'=>∃ pi pn pp pl pc pq pk pd,e = .returned (.agg #[.int .i64 pi,.bool pn,.slice pp pl pc,.slice pq pk pd])∧EQ CC (w.heap.size + 3) p1 w' pi pn pp pl pc pq pk pd∧Kp W w') (hP2:∀ W:World,Kp w W→w.heap.size + 3≤W.heap.size→Calls Tryz.prog 53 #[.agg #[.int .i64 Bi,.bool Bn,.slice Bp Bl Bc,.slice Bq Bk Bd],.agg #[.int .i64 Ci,.bool Cn,.slice Cp Cl Cc,.slice Cq Ck Cd]] W fun e w'=>∃ pi pn pp pl pc pq pk pd,e = .returned (.agg #[.int .i64 pi,.bool pn,.slice pp pl pc,.slice pq pk pd])∧EQ CC (w.heap.size + 3) p2 w' pi pn pp pl pc pq pk pd∧Kp W w') (hP3:∀ W:World,Kp w W→w.heap.size + 3≤W.heap.size→Calls Tryz.prog 53 #[.agg #[.int .i64 Bi,.bool Bn,.slice Bp Bl Bc,.slice Bq Bk Bd],.agg #[.int .i64 Di,.bool Dn,.slice Dp Dl Dc,.slice Dq Dk Dd]] W fun e w'=>∃ pi pn pp pl pc pq pk pd,e = .returned (.agg #[.int .i64 pi,.bool pn,.slice pp pl pc,.slice pq pk pd])∧EQ CC (w.heap.size + 3) p3 w' pi pn pp pl pc pq pk pd∧Kp W w') :
  Calls Tryz.prog 31 #[.agg #[.bool false,.int .i64 Ai,.bool An,.slice Ap Al Ac,.slice Aq Ak Ad,.int .i64 Bi,.bool Bn,.slice Bp Bl Bc,.slice Bq Bk Bd],.agg #[.bool false,.int .i64 Ci,.bool Cn,.slice Cp Cl Cc,.slice Cq Ck Cd,.int .i64 Di,.bool Dn,.slice Dp Dl Dc,.slice Dq Dk Dd]] w fun e w'=>∃ Gi Gn Gp Gl Gc Gq Gk Gd Oi On Op Ol Oc Oq Ok Od,e = .returned (.agg #[.bool false,.int .i64 Gi,.bool Gn,.slice Gp Gl Gc,.slice Gq Gk Gd,.int .i64 Oi,.bool On,.slice Op Ol Oc,.slice Oq Ok Od])∧EQ CC (w.heap.size + 3) (lB (lB p0 p1) (lB p2 p3)) w' Gi Gn Gp Gl Gc Gq Gk Gd∧EQ CC (w.heap.size + 3) (gB (gB p0 p1) (gB p2 p3)) w' Oi On Op Ol Oc Oq Ok Od∧Kp w w' :=
 timesA_ (w.heap.size + 2) _ An Ap Al Ac Aq Ak Ad _ Bn Bp Bl Bc Bq Bk Bd _ Cn Cp Cl Cc Cq Ck Cd _ Dn Dp Dl Dc Dq Dk Dd (fun k W=>EQ CC (w.heap.size + 3) (tb p0 p1 p2 p3 k) W)
  (fun k W W' ai an ap al ac aq ak ad g h=>h.kp g)
  (fun k W ai an ap al ac aq ak ad i u h=>⟨h.1,fun z=>(h.2.1 z).set (by simp) u,h.2.2.elim fun V h=>h.elim fun C h=>⟨V,C,h.set (by simp) u⟩⟩)
  (fun f i j k=>(f = 54∧tb p0 p1 p2 p3 k = lB (tb p0 p1 p2 p3 i) (tb p0 p1 p2 p3 j))∨(f = 55∧tb p0 p1 p2 p3 k = gB (tb p0 p1 p2 p3 i) (tb p0 p1 p2 p3 j)))
  w rfl hP0 hP1 hP2 hP3
  (fun f i j k W ai an ap al ac aq ak ad bi bn bp bl bc bq bk bd hf h1 h2=>by
   rcases hf with ⟨rfl,e⟩ | ⟨rfl,e⟩
   ·have h:=lesserQ_ CC _ hC _ _ W ai an ap al ac aq ak ad bi bn bp bl bc bq bk bd h1 h2
    rw [← e] at h
    exact h
   ·have h:=greaterQ_ CC _ hC _ _ W ai an ap al ac aq ak ad bi bn bp bl bc bq bk bd h1 h2
    rw [← e] at h
    exact h)
  (Or.inl ⟨rfl,rfl⟩) (Or.inl ⟨rfl,rfl⟩) (Or.inl ⟨rfl,rfl⟩) (Or.inr ⟨rfl,rfl⟩) (Or.inr ⟨rfl,rfl⟩) (Or.inr ⟨rfl,rfl⟩)
set_option linter.unusedVariables false
theorem cmX_lt (x y:Int) (h:x < y):cmI x y = -1:=if_pos h
theorem cmX_gt (x y:Int) (h:y < x):cmI x y = 1:=by unfold cmI;rw [if_neg (by omega),if_pos h]
theorem xsign_ s p l c q k d (V:Int) (C N:Nat) (hN:N≤100000) (B1:Nat) (w:World) (h:XP B1 w s p l c q k d V C N):Calls Tryz.prog 92 #[.agg #[.bool s,.slice p l c,.slice q k d]] w fun e w'=>e = .returned (.int .i64 (cmI V 0))∧Kp w w':=by
 obtain ⟨a,b,u1,u2,f1,f2,f3,f4,f5⟩:=h
 have h:=rsign_ s (.slice p l c) (.slice q k d) a w u1.ls (by omega)
 have e:(if a = 0 then 0 else if s then (-1:Int) else 1) = cmI V 0:=by
  have hc:(0:Int) < (C:Int):=by omega
  have hb:(0:Int) < (b:Int):=by omega
  have k:cmI (rvI s a) 0 = cmI V 0:=by
   rw [← cmI_scale (rvI s a) 0 _ hc,f3,Int.zero_mul]
   have:=cmI_scale V 0 _ hb
   rw [Int.zero_mul] at this
   exact this
  rw [← k]
  unfold rvI
  by_cases z:a = 0
  ·rw [if_pos z,z];cases s <;> simp [cmI]
  ·rw [if_neg z]
   cases s
   ·rw [if_neg (by decide),if_neg (by decide)];exact (cmX_gt _ _ (by omega)).symm
   ·rw [if_pos rfl,if_pos rfl];exact (cmX_lt _ _ (by omega)).symm
 rw [e] at h
 exact h

def qi (n:Bool) (m:Nat) (V:Int):Int:=if (Fq.plz n m) = 0∨V = 0∨m≠9218868437227405312 then 0 else if n then -1 else 1
theorem prodQ_ (K:Nat) (hK:K = 1074) (n:Bool) (m:Nat) (hm:m≤9218868437227405312) (V:Int) (C:Nat) (hV:0≤V) s p l c q k d s2 p2 l2 c2 q2 k2 d2 (B1 B2:Nat) (w:World) (h1:RP B1 w s p l c q k d (fN n m) (fM m)) (h2:XP B2 w s2 p2 l2 c2 q2 k2 d2 V C 8000):Calls Tryz.prog 53 #[.agg #[.int .i64 (infS n m),.bool s,.slice p l c,.slice q k d],.agg #[.int .i64 0,.bool s2,.slice p2 l2 c2,.slice q2 k2 d2]] w fun e w'=>∃ s3 p3 l3 c3 q3 k3 d3,e = .returned (.agg #[.int .i64 (qi n m V),.bool s3,.slice p3 l3 c3,.slice q3 k3 d3])∧(qi n m V = 0→XP w.heap.size w' s3 p3 l3 c3 q3 k3 d3 (Iv n m * V) (2 ^ K * C) 20000)∧(∃ (V9:Int) (C9:Nat),XP w.heap.size w' s3 p3 l3 c3 q3 k3 d3 V9 C9 60000)∧Kp w w':=by
 have hC:C≠0:=by obtain ⟨a,b,_,_,_,f0,_⟩:=h2;exact f0
 have hCC:2 ^ K * C≠0:=Nat.mul_ne_zero (by have:=Nat.two_pow_pos K;omega) hC
 have hs1:=fun (W:World) (g:Kp w W)=>signE_ n m s p l c q k d B1 W (h1.kp g)
 have hs2:=fun (W:World) (g:Kp w W)=>signZ_ (cmI V 0) s2 p2 l2 c2 q2 k2 d2 W (fun W' g'=>xsign_ s2 p2 l2 c2 q2 k2 d2 V C 8000 (by decide) B2 W' (h2.kp (g.trans g')))
 have z0:∀ (W:World) s3 p3 l3 c3 q3 k3 d3,Iv n m * V = 0→RP w.heap.size W s3 p3 l3 c3 q3 k3 d3 false 0→XP w.heap.size W s3 p3 l3 c3 q3 k3 d3 (Iv n m * V) (2 ^ K * C) 20000:=fun W s3 p3 l3 c3 q3 k3 d3 e h=>by
  rw [e]
  exact h.x0.as 0 _ _ hCC (by simp) (by decide)
 unfold qi
 by_cases zx:(Fq.plz n m) = 0
 ·rw [if_pos (Or.inl zx)]
  have ev:Iv n m * V = 0:=by rw [← vZ_plz,zx,vZ_zero,Int.zero_mul]
  refine (prZ1_ _ _ _ s p l c q k d s2 p2 l2 c2 q2 k2 d2 (by rw [zx];decide) w hs1).mono ?_
  rintro e w' ⟨s3,p3,l3,c3,q3,k3,d3,rfl,q0,g⟩
  exact ⟨s3,p3,l3,c3,q3,k3,d3,rfl,fun _=>z0 _ _ _ _ _ _ _ _ ev q0,⟨0,1,q0.x0.as 0 1 60000 (by decide) rfl (by decide)⟩,g⟩
 by_cases zy:V = 0
 ·rw [if_pos (Or.inr (Or.inl zy))]
  have ev:Iv n m * V = 0:=by rw [zy,Int.mul_zero]
  refine (prZ2_ _ _ _ _ s p l c q k d s2 p2 l2 c2 q2 k2 d2 (cmI_ne _ zx) (by rw [zy];decide) w hs1 hs2).mono ?_
  rintro e w' ⟨s3,p3,l3,c3,q3,k3,d3,rfl,q0,g⟩
  exact ⟨s3,p3,l3,c3,q3,k3,d3,rfl,fun _=>z0 _ _ _ _ _ _ _ _ ev q0,⟨0,1,q0.x0.as 0 1 60000 (by decide) rfl (by decide)⟩,g⟩
 by_cases ci:m = 9218868437227405312
 ·rw [if_neg (by rintro (x | x | x);exact zx x;exact zy x;exact x ci)]
  have ti:((infS n m) != 0) = true∨(((infS n m) != 0) = false∧((0:Int) != 0) = true):=by
   left;unfold infS;rw [if_pos ci];cases n <;> rfl
  have em:(if ((Fq.plz n m) < 0 ↔ V < 0) then (1:Int) else -1) = if n then -1 else 1:=by
   have PX:(Fq.plz n m) = if n then -(m:Int) else m:=by unfold Fq.plz;cases n <;> rfl
   cases n
   ·have PX:Fq.plz false m = (m:Int):=PX
    rw [if_pos (show (Fq.plz false m < 0 ↔ V < 0) by omega)];rfl
   ·have PX:Fq.plz true m = -(m:Int):=PX
    rw [if_neg (show ¬ (Fq.plz true m < 0 ↔ V < 0) by omega)];rfl
  have hmul:=cmI_mul _ _ zx zy
  rw [em] at hmul
  refine (prI_ _ _ _ _ _ s p l c q k d s2 p2 l2 c2 q2 k2 d2 (cmI_ne _ zx) (cmI_ne _ zy) ti hmul w hs1 hs2).mono ?_
  rintro e w' ⟨s3,p3,l3,c3,q3,k3,d3,rfl,q0,g⟩
  refine ⟨s3,p3,l3,c3,q3,k3,d3,rfl,fun h=>?_,⟨0,1,q0.x0.as 0 1 60000 (by decide) rfl (by decide)⟩,g⟩
  cases n <;> simp at h
 ·rw [if_pos (Or.inr (Or.inr ci))]
  have i1:infS n m = 0:=by unfold infS;rw [if_neg ci]
  rw [show fN n m = n from by unfold fN;rw [if_neg ci],show fM m = m from by unfold fM;rw [if_neg ci]] at h1
  rw [i1] at hs1 ⊢
  refine (prF_ _ _ _ _ _ s p l c q k d s2 p2 l2 c2 q2 k2 d2 (cmI_ne _ zx) (cmI_ne _ zy) w hs1 hs2 (fun W g=>xmul_ (Iv n m) V (2 ^ K) C 1500 8000 (by decide) s p l c q k d s2 p2 l2 c2 q2 k2 d2 B1 B2 W ((h1.kp g).xp K hK) (h2.kp g))).mono ?_
  rintro e w' ⟨s3,p3,l3,c3,q3,k3,d3,rfl,q0,g⟩
  exact ⟨s3,p3,l3,c3,q3,k3,d3,rfl,fun _=>q0.as _ _ _ hCC rfl (by decide),⟨_,_,q0.as _ _ 60000 hCC rfl (by decide)⟩,g⟩
theorem prodT_ (K:Nat) (hK:K = 1074) (n:Bool) (m:Nat) (hm:m≤9218868437227405312) s p l c q k d s2 p2 l2 c2 q2 k2 d2 (B1:Nat) (w:World) (h1:RP B1 w s p l c q k d (fN n m) (fM m)):Calls Tryz.prog 53 #[.agg #[.int .i64 (infS n m),.bool s,.slice p l c,.slice q k d],.agg #[.int .i64 1,.bool s2,.slice p2 l2 c2,.slice q2 k2 d2]] w fun e w'=>∃ s3 p3 l3 c3 q3 k3 d3,e = .returned (.agg #[.int .i64 (cmI (Fq.plz n m) 0),.bool s3,.slice p3 l3 c3,.slice q3 k3 d3])∧XP w.heap.size w' s3 p3 l3 c3 q3 k3 d3 0 1 1500∧Kp w w':=by
 have hs1:=fun (W:World) (g:Kp w W)=>signE_ n m s p l c q k d B1 W (h1.kp g)
 have hs2:=fun (W:World) (g:Kp w W)=>signI_ 1 s2 p2 l2 c2 q2 k2 d2 (by decide) W
 by_cases zx:(Fq.plz n m) = 0
 ·have e9:cmI (Fq.plz n m) 0 = 0:=by rw [zx];rfl
  refine (prZ1_ _ _ _ s p l c q k d s2 p2 l2 c2 q2 k2 d2 (by rw [zx];decide) w hs1).mono ?_
  rintro e w' ⟨s3,p3,l3,c3,q3,k3,d3,rfl,q0,g⟩
  rw [e9]
  exact ⟨s3,p3,l3,c3,q3,k3,d3,rfl,q0.x0,g⟩
 ·have ti:((infS n m) != 0) = true∨(((infS n m) != 0) = false∧((1:Int) != 0) = true):=by
   cases h:((infS n m) != 0)
   ·exact Or.inr ⟨rfl,rfl⟩
   ·exact Or.inl rfl
  have hmul:IntKind.i64.wrap (cmI (Fq.plz n m) 0 * 1) = cmI (Fq.plz n m) 0:=by
   rcases Int.lt_trichotomy (Fq.plz n m) 0 with x | x | x
   ·rw [cmI_lt _ _ x];decide
   ·exact absurd x zx
   ·rw [cmI_gt _ _ x];decide
  refine (prI_ _ _ _ _ _ s p l c q k d s2 p2 l2 c2 q2 k2 d2 (cmI_ne _ zx) (by decide) ti hmul w hs1 hs2).mono ?_
  rintro e w' ⟨s3,p3,l3,c3,q3,k3,d3,rfl,q0,g⟩
  exact ⟨s3,p3,l3,c3,q3,k3,d3,rfl,q0.x0,g⟩
set_option linter.unusedVariables false

set_option linter.unusedVariables false
theorem g53_anti (d:Int) (c1 c2 c2':Nat) (hc:0 < c2) (h:c2≤c2') (V:Int) (hV:0≤V):g53 d c1 c2' V≤g53 d c1 c2 V:=by
 unfold g53 gpl
 by_cases z:V = 0
 ·rw [if_pos z,if_pos z];omega
 rw [if_neg z,if_neg z,if_neg (show ¬ V < 0 by omega),if_neg (show ¬ V < 0 by omega)]
 have h1:=rU_mono (dirN false d) 53 (V.natAbs * c1) c2' (V.natAbs * c1) c2 (by omega) hc (by decide) (Nat.mul_le_mul_left _ h)
 have h2:=(finG_mono 53 2098 9218868437227405311 9218868437227405312 (dirN false d) _ _ (by decide) (by decide) (by decide) (by decide) h1).1
 omega
theorem g53_nn (d:Int) (c1 c2:Nat) (V:Int) (hV:0≤V):0≤g53 d c1 c2 V:=by
 unfold g53 gpl
 by_cases z:V = 0
 ·rw [if_pos z];omega
 rw [if_neg z,if_neg (show ¬ V < 0 by omega)];omega
theorem diZ_hi (K:Nat) (d y:Int) (hy:0 < y∧y < 9218868437227405312):diZ K d 9218868437227405312 y = 9218868437227405312:=by
 unfold diZ oD
 rw [if_neg (by omega),if_neg (by omega),if_pos (by omega)]
 unfold sN
 rw [decide_eq_false (by omega),decide_eq_false (by omega)];rfl
theorem diZ_lo (K:Nat) (d y:Int) (hy:0 < y∧y < 9218868437227405312):diZ K d (-9218868437227405312) y = -9218868437227405312:=by
 unfold diZ oD
 rw [if_neg (by omega),if_neg (by omega),if_pos (by omega)]
 unfold sN
 rw [decide_eq_true (by omega),decide_eq_false (by omega)];rfl
theorem vV_pos9 (y:Int) (hy:0 < y):0 < Fq.vV Ieee.double y.natAbs:=by
 have:=(vV_zero y.natAbs)
 have h:y.natAbs≠0:=by omega
 rcases Nat.eq_zero_or_pos (Fq.vV Ieee.double y.natAbs) with e | e
 ·exact absurd (this.1 e) h
 ·exact e
theorem diZ_mono (K:Nat) (d x x' y:Int) (hx:BdZ x) (hx':BdZ x') (hy:0 < y∧y < 9218868437227405312) (h:x≤x'):diZ K d x y≤diZ K d x' y:=by
 unfold BdZ at hx hx'
 by_cases c2:x = -9218868437227405312
 ·rw [c2,diZ_lo K d y hy];exact (diZ_bd K d x' y).1
 by_cases c3:x' = 9218868437227405312
 ·rw [c3,diZ_hi K d y hy];exact (diZ_bd K d x y).2
 rw [diZ_fin K d x y (by omega) hy,diZ_fin K d x' y (by omega) hy]
 exact g53_mono _ _ _ (vV_pos9 y hy.1) _ _ (vZ_le x x' h)
theorem vV_le9 (y y':Int) (hy:0 < y) (h:y≤y'):Fq.vV Ieee.double y.natAbs≤Fq.vV Ieee.double y'.natAbs:=by
 have g:=vZ_le y y' h
 rw [vZ_pos y (by omega),vZ_pos y' (by omega)] at g
 omega
theorem diZ_anti (K:Nat) (d x y y':Int) (hx:0≤x∧x≤9218868437227405312) (hy:0 < y) (hy':y'≤9218868437227405312) (h:y≤y') (hb:¬ (x = 9218868437227405312∧y' = 9218868437227405312)):diZ K d x y'≤diZ K d x y:=by
 by_cases c1:y' = 9218868437227405312
 ·rw [c1,diZ_inf K d x (by omega)]
  by_cases c2:y = 9218868437227405312
  ·rw [c2,diZ_inf K d x (by omega)];omega
  ·rw [diZ_fin K d x y (by omega) (by omega)]
   exact g53_nn _ _ _ _ (vZ_nn x hx.1)
 by_cases c3:x = 9218868437227405312
 ·rw [c3,diZ_hi K d y (by omega),diZ_hi K d y' (by omega)];omega
 rw [diZ_fin K d x y (by omega) (by omega),diZ_fin K d x y' (by omega) (by omega)]
 exact g53_anti _ _ _ _ (vV_pos9 y hy) (vV_le9 y y' hy h) _ (vZ_nn x hx.1)
theorem diZ_anti2 (K:Nat) (x y y':Int) (hx:-9218868437227405312≤x∧x≤0) (hy:0 < y) (hy':y'≤9218868437227405312) (h:y≤y') (hb:¬ (x = -9218868437227405312∧y' = 9218868437227405312)):diZ K (-1) x y≤diZ K (-1) x y':=by
 have g:=diZ_anti K 1 (-x) y y' (by omega) hy hy' h (by omega)
 have e:=diZ_m1 K (-x)
 rw [Int.neg_neg] at e
 rw [e y,e y']
 omega
set_option linter.unusedVariables false
theorem diZ_le0 (K:Nat) (x y:Int) (hx:-9218868437227405312≤x∧x≤0) (hy:0 < y∧y < 9218868437227405312):diZ K (-1) x y≤0:=by
 have h:=diZ_mono K (-1) x 0 y (by unfold BdZ;omega) (by unfold BdZ;omega) hy hx.2
 rw [diZ_zero] at h;exact h
theorem g53_scale (d:Int) (c1 c2 k:Nat) (hc:0 < c2) (hk:0 < k) (V:Int):g53 d c1 (c2 * k) (V * (k:Int)) = g53 d c1 c2 V:=by
 unfold g53 gpl
 by_cases z:V = 0
 ·rw [z,Int.zero_mul,if_pos rfl,if_pos rfl]
 have e:∀ s:Int,rU s 53 ((V * (k:Int)).natAbs * c1) (c2 * k) = rU s 53 (V.natAbs * c1) c2:=fun s=>by
  have hm:(V * (k:Int)).natAbs = V.natAbs * k:=by rw [Int.natAbs_mul,Int.natAbs_natCast]
  rw [hm]
  have q:V.natAbs * k * c1 * c2 = V.natAbs * c1 * (c2 * k):=by
   rw [Nat.mul_assoc,Nat.mul_assoc,Nat.mul_assoc,Nat.mul_comm c2 k,Nat.mul_left_comm k c1 c2]
  exact Nat.le_antisymm (rU_mono s 53 _ _ _ _ (Nat.mul_pos hc hk) hc (by decide) (Nat.le_of_eq q)) (rU_mono s 53 _ _ _ _ hc (Nat.mul_pos hc hk) (by decide) (Nat.le_of_eq q.symm))
 have pk:(0:Int) < (k:Int):=by omega
 have nz:V * (k:Int)≠0:=Int.mul_ne_zero z (by omega)
 have sg:V * (k:Int) < 0 ↔ V < 0:=by
  constructor
  ·intro h
   rcases Int.lt_or_le V 0 with x | x
   ·exact x
   ·have:=Int.mul_nonneg x (Int.le_of_lt pk);omega
  ·exact fun h=>Int.mul_neg_of_neg_of_pos h pk
 rw [if_neg z,if_neg nz,e,e]
 by_cases c:V < 0
 ·rw [if_pos c,if_pos (sg.2 c)]
 ·rw [if_neg c,if_neg (fun h=>c (sg.1 h))]
def rD (K CC:Nat) (d:Int) (B:Int × Int):Int:=if B.1 = 1 then 9218868437227405312 else if B.1 = -1 then -9218868437227405312 else g53 d (2 ^ K) CC B.2
theorem rD_mono (K CC:Nat) (hC:0 < CC) (d:Int) (a b:Int × Int) (ha:okB a) (hb:okB b) (h:cB a.1 a.2 b.1 b.2≤0):rD K CC d a≤rD K CC d b:=by
 obtain ⟨i,V⟩:=a
 obtain ⟨j,W⟩:=b
 unfold okB at ha hb
 unfold rD
 have b1:=g53_le d (2 ^ K) CC V
 have b2:=g53_le d (2 ^ K) CC W
 unfold cB at h
 simp only at ha hb h ⊢
 rcases ha with rfl | rfl | rfl <;> rcases hb with rfl | rfl | rfl
 ·have q:V≤W:=by
   rw [if_neg (by decide),if_neg (by decide),if_neg (by decide)] at h
   unfold cmJ at h
   rcases Int.lt_or_le W V with c | c
   ·rw [if_neg (by omega),if_pos c] at h;omega
   ·exact c
  rw [if_neg (by decide),if_neg (by decide),if_neg (by decide),if_neg (by decide)]
  exact g53_mono _ _ _ hC _ _ q
 all_goals (revert b1 b2;generalize g53 d (2 ^ K) CC V = G1;generalize g53 d (2 ^ K) CC W = G2;intro b1 b2;first | (exfalso;revert h;decide) | (simp;done) | (simp;omega) | (simp <;> omega))
theorem lBD (K CC:Nat) (hC:0 < CC) (d:Int) (a b:Int × Int) (ha:okB a) (hb:okB b):rD K CC d (lB a b) = min (rD K CC d a) (rD K CC d b)∧okB (lB a b):=by
 unfold lB
 by_cases c:cB b.1 b.2 a.1 a.2 < 0
 ·rw [if_pos c]
  have:=rD_mono K CC hC d b a hb ha (by omega)
  exact ⟨by omega,hb⟩
 ·rw [if_neg c]
  have f:=cB_flip a.1 a.2 b.1 b.2
  have:=rD_mono K CC hC d a b ha hb (by omega)
  exact ⟨by omega,ha⟩
theorem gBD (K CC:Nat) (hC:0 < CC) (d:Int) (a b:Int × Int) (ha:okB a) (hb:okB b):rD K CC d (gB a b) = max (rD K CC d a) (rD K CC d b)∧okB (gB a b):=by
 unfold gB
 by_cases c:0 < cB b.1 b.2 a.1 a.2
 ·rw [if_pos c]
  have f:=cB_flip a.1 a.2 b.1 b.2
  have:=rD_mono K CC hC d a b ha hb (by omega)
  exact ⟨by omega,hb⟩
 ·rw [if_neg c]
  have:=rD_mono K CC hC d b a hb ha (by omega)
  exact ⟨by omega,ha⟩
def dZ (K:Nat) (d x y:Int):Int:=if y = 9218868437227405312 then 0 else diZ K d x y
def tZ (x:Int):Int:=if 0 < x then 9218868437227405312 else if x < 0 then -9218868437227405312 else 0
def qB (x y:Int) (k:Nat):Int × Int:=(if y = 9218868437227405312 then 0 else if x = 9218868437227405312 then 1 else if x = -9218868437227405312 then -1 else 0,if y = 9218868437227405312∨x = 9218868437227405312∨x = -9218868437227405312 then 0 else vZ x * (k:Int))
theorem qB_rd (K:Nat) (d x y:Int) (k CC:Nat) (hk:0 < k) (hx:BdZ x) (hy:0 < y∧y≤9218868437227405312) (hC:CC = jC y.natAbs * k):rD K CC d (qB x y k) = dZ K d x y∧okB (qB x y k):=by
 have jp:0 < jC y.natAbs:=Nat.pos_of_ne_zero (jC_ne y.natAbs (by omega))
 have z0:g53 d (2 ^ K) CC 0 = 0:=by unfold g53 gpl;rw [if_pos rfl]
 unfold BdZ at hx
 have sh:∀ i V:Int,rD K CC d (i,V) = if i = 1 then 9218868437227405312 else if i = -1 then -9218868437227405312 else g53 d (2 ^ K) CC V:=fun i V=>rfl
 unfold dZ
 by_cases c:y = 9218868437227405312
 ·have e:qB x y k = (0,0):=by unfold qB;rw [if_pos c,if_pos (Or.inl c)]
  rw [e,sh,if_pos c,if_neg (by decide),if_neg (by decide),z0]
  exact ⟨rfl,Or.inl rfl⟩
 rw [if_neg c]
 by_cases c1:x = 9218868437227405312
 ·have e:qB x y k = (1,0):=by unfold qB;rw [if_neg c,if_pos c1,if_pos (Or.inr (Or.inl c1))]
  rw [e,sh,if_pos rfl,c1,diZ_hi K d y (by omega)]
  exact ⟨rfl,Or.inr (Or.inl rfl)⟩
 by_cases c2:x = -9218868437227405312
 ·have e:qB x y k = (-1,0):=by unfold qB;rw [if_neg c,if_neg c1,if_pos c2,if_pos (Or.inr (Or.inr c2))]
  rw [e,sh,if_neg (by decide),if_pos rfl,c2,diZ_lo K d y (by omega)]
  exact ⟨rfl,Or.inr (Or.inr rfl)⟩
 have e:qB x y k = (0,vZ x * (k:Int)):=by unfold qB;rw [if_neg c,if_neg c1,if_neg c2,if_neg (by omega)]
 rw [e,sh,if_neg (by decide),if_neg (by decide),hC,g53_scale d (2 ^ K) (jC y.natAbs) k jp hk,diZ_fin K d x y (by omega) (by omega)]
 unfold jC
 rw [if_neg (by omega)]
 exact ⟨rfl,Or.inl rfl⟩
theorem dZ_bd (K:Nat) (d x y:Int):-9218868437227405312≤dZ K d x y∧dZ K d x y≤9218868437227405312:=by
 unfold dZ
 split
 ·omega
 ·exact diZ_bd K d x y
theorem dZ_neg (K:Nat) (x y:Int):dZ K 1 x y = -(dZ K (-1) (-x) y):=by
 unfold dZ
 split
 ·rfl
 ·rw [diZ_m1,Int.neg_neg]
theorem dZ_mono (K:Nat) (d x x' y:Int) (hx:BdZ x) (hx':BdZ x') (hy:0 < y∧y≤9218868437227405312) (h:x≤x'):dZ K d x y≤dZ K d x' y:=by
 unfold dZ
 by_cases c:y = 9218868437227405312
 ·rw [if_pos c,if_pos c];omega
 ·rw [if_neg c,if_neg c];exact diZ_mono K d x x' y hx hx' (by omega) h
theorem lst_P (K:Nat) (L1 H1 L2 H2:Int) (h2:0 < L2∧L2≤H2):lst (diZ K (-1)) L1 H1 H2 L2 = if L1 < 0 then diZ K (-1) L1 L2 else diZ K (-1) L1 H2:=by
 unfold lst
 rw [if_neg (by omega)]
 by_cases c:L1 < 0
 ·rw [if_pos (by omega),if_pos c]
 ·rw [if_neg (by omega),if_neg (by omega),if_neg (by omega),if_neg c]
theorem quo_lo (K:Nat) (L1 H1 L2 H2:Int) (h1:-9218868437227405312≤L1∧L1≤H1∧H1≤9218868437227405312∧L1 < 9218868437227405312) (h2:0 < L2∧L2≤H2∧H2≤9218868437227405312∧L2 < 9218868437227405312):min (min (dZ K (-1) L1 H2) (dZ K (-1) L1 L2)) (min (dZ K (-1) H1 H2) (dZ K (-1) H1 L2)) = dLo K L1 H1 L2 H2:=by
 have b1:BdZ L1:=by unfold BdZ;omega
 have b2:BdZ H1:=by unfold BdZ;omega
 unfold dLo
 rw [if_neg (by omega),if_neg (by omega),lst_P K L1 H1 L2 H2 (by omega)]
 have m1:=dZ_mono K (-1) L1 H1 L2 b1 b2 (by omega) (by omega)
 have m2:=dZ_mono K (-1) L1 H1 H2 b1 b2 (by omega) (by omega)
 have e2:∀ x,dZ K (-1) x L2 = diZ K (-1) x L2:=fun x=>by unfold dZ;rw [if_neg (by omega)]
 rw [e2,e2] at *
 by_cases c:L1 < 0
 ·rw [if_pos c]
  have f2:diZ K (-1) L1 L2≤dZ K (-1) L1 H2:=by
   unfold dZ
   by_cases ci:H2 = 9218868437227405312
   ·rw [if_pos ci];exact diZ_le0 K L1 L2 (by omega) (by omega)
   ·rw [if_neg ci];exact diZ_anti2 K L1 L2 H2 (by omega) (by omega) (by omega) (by omega) (by omega)
  omega
 ·rw [if_neg c]
  have f1:dZ K (-1) L1 H2 = diZ K (-1) L1 H2:=by
   unfold dZ
   by_cases ci:H2 = 9218868437227405312
   ·rw [if_pos ci,ci,diZ_inf K (-1) L1 (by omega)]
   ·rw [if_neg ci]
  have f2:diZ K (-1) L1 H2≤diZ K (-1) L1 L2:=diZ_anti K (-1) L1 L2 H2 (by omega) (by omega) (by omega) (by omega) (by omega)
  omega
theorem quo_zlo (K:Nat) (L1 H1 H2:Int) (h1:-9218868437227405312≤L1∧L1≤H1∧H1≤9218868437227405312∧L1 < 9218868437227405312) (h2:0 < H2∧H2≤9218868437227405312):min (min (dZ K (-1) L1 H2) (tZ L1)) (min (dZ K (-1) H1 H2) (tZ H1)) = dLo K L1 H1 0 H2:=by
 have b1:BdZ L1:=by unfold BdZ;omega
 have b2:BdZ H1:=by unfold BdZ;omega
 have m2:=dZ_mono K (-1) L1 H1 H2 b1 b2 (by omega) (by omega)
 have q1:=dZ_bd K (-1) L1 H2
 have q2:=dZ_bd K (-1) H1 H2
 have z1:∀ y,dZ K (-1) 0 y = 0:=fun y=>by unfold dZ;split;rfl;exact diZ_zero K (-1) y
 unfold dLo bLo tZ
 rw [if_neg (show ¬ (L1 = 9218868437227405312∨(0:Int) = 9218868437227405312) by omega),if_pos (show (0:Int)≤0∧0≤H2 by omega),if_neg (show ¬ ((0:Int) = 0∧H2 = 0) by omega)]
 by_cases c:L1 < 0
 ·rw [if_neg (show ¬ 0 < L1 by omega),if_pos c]
  rw [if_neg (show ¬ (L1 = 0∧H1 = 0) by omega),if_neg (show ¬ ((0:Int) < 0∧0 < H2) by omega)]
  by_cases c2:0 < H1
  ·rw [if_pos c2,if_pos (show L1 < 0∧0 < H1 by omega)];omega
  ·rw [if_neg c2,if_neg (show ¬ (L1 < 0∧0 < H1) by omega),if_neg (show ¬ ((0:Int) = 0∧0≤L1) by omega),if_pos rfl]
   split <;> omega
 ·by_cases c0:H1 = 0
  ·have e:L1 = 0:=by omega
   subst e
   rw [c0,z1,if_pos (show ((0:Int) = 0∧(0:Int) = 0) by omega),if_neg (by decide),if_neg (by decide)];rfl
  ·rw [if_neg (show ¬ (L1 = 0∧H1 = 0) by omega),if_neg (show ¬ ((0:Int) < 0∧0 < H2) by omega),if_neg (show ¬ (L1 < 0∧0 < H1) by omega),if_pos (show (0:Int) = 0∧0≤L1 by omega),if_pos (show 0 < H1 by omega)]
   have f1:dZ K (-1) L1 H2 = diZ K (-1) L1 H2:=by
    unfold dZ
    by_cases ci:H2 = 9218868437227405312
    ·rw [if_pos ci,ci,diZ_inf K (-1) L1 (by omega)]
    ·rw [if_neg ci]
   by_cases c3:0 < L1
   ·rw [if_pos c3];omega
   ·have e:L1 = 0:=by omega
    subst e
    rw [if_neg c3,if_neg (by decide)]
    rw [z1] at *
    omega
end Go.Proofs.YtngglmnhjjlgkaaGreatDoor
