import Derived.Test.YtngglmnhjjlgkaaGreatDoorKEGn
import Derived.Test.YtngglmnhjjlgkaaGreatDoorKFId
import Derived.Test.YtngglmnhjjlgkaaGreatDoorKFIm
import Derived.Test.YtngglmnhjjlgkaaGreatDoorKFIr
set_option maxHeartbeats 4000000
set_option maxRecDepth 20000
namespace Go.Proofs.YtngglmnhjjlgkaaGreatDoor
open Go.RowKit
set_option linter.unusedVariables false

theorem invZ_ (K:Nat) (hK:K = 1074) (m:Nat) (h0:m≠0) s p l c q k d (B1:Nat) (w:World) (h:RP B1 w s p l c q k d (fN false m) (fM m)):Calls Tryz.prog 67 #[.agg #[.int .i64 (infS false m),.bool s,.slice p l c,.slice q k d]] w fun e w'=>∃ s3 p3 l3 c3 q3 k3 d3,e = .returned (.agg #[.int .i64 0,.bool s3,.slice p3 l3 c3,.slice q3 k3 d3])∧XP w.heap.size w' s3 p3 l3 c3 q3 k3 d3 (Iv false (jM m)) (jC m) 8000∧Kp w w':=by
 unfold jM jC
 by_cases c0:m = 9218868437227405312
 ·subst c0
  rw [if_pos rfl,if_pos rfl]
  refine (invI_ 1 s p l c q k d (by decide) w).mono ?_
  rintro e w' ⟨s3,p3,l3,c3,q3,k3,d3,rfl,hp,g⟩
  exact ⟨s3,p3,l3,c3,q3,k3,d3,rfl,hp.as _ 1 8000 (by decide) (by rw [iv_z9]) (by decide),g⟩
 ·rw [if_neg c0,if_neg c0]
  have hi:infS false m = 0:=by unfold infS;rw [if_neg c0]
  have hx:=h.xp K hK
  unfold fN fM at hx
  rw [if_neg c0,if_neg c0] at hx
  rw [hi]
  have hU:Fq.vV Ieee.double m≠0:=fun e=>h0 ((vV_zero m).1 e)
  refine (invF_ (Iv false 4607182418800017408) (Fq.vV Ieee.double m) 8000 s p l c q k d w (fun W s4 p4 l4 c4 q4 k4 d4 g h4=>?_))
  refine (xquo_ 1 (Fq.vV Ieee.double m) false hU 1 (2 ^ K) 1500 1500 (by decide) s4 p4 l4 c4 q4 k4 d4 s p l c q k d 0 B1 W h4 (hx.kp g)).mono ?_
  rintro e w' ⟨s3,p3,l3,c3,q3,k3,d3,rfl,hp,g2⟩
  refine ⟨s3,p3,l3,c3,q3,k3,d3,rfl,hp.as _ _ 8000 hU ?_ (by decide),g2⟩
  have e1:Iv false 4607182418800017408 = ((2 ^ K:Nat):Int):=by rw [← vone K hK];rfl
  rw [e1,show rvI false 1 = 1 from rfl,Nat.one_mul,Int.one_mul,Int.one_mul]
theorem plz_pos (n:Bool) (m:Nat) (h:0 < Fq.plz n m):n = false∧m≠0:=by
 unfold Fq.plz at h
 cases n <;> simp at h ⊢ <;> omega
theorem upS_ (n g:Bool) (m r:Nat) (hH:0 < Fq.plz g r) (hL:Fq.plz n m < 9218868437227405312) (hm:m≤9218868437227405312) (W:World) (v:Value) (h:SV1 n m g r W v):Calls Tryz.prog 44 #[v] W fun e w'=>∃ v',e = .returned v'∧SV1 (if Fq.plz n m < 0 then false else n) (if Fq.plz n m < 0 then 0 else m) g r w' v'∧Kp W w':=by
 obtain ⟨s,p,l,c,q,k,d,s2,p2,l2,c2,q2,k2,d2,rfl,a1,a2⟩:=h
 have hS:=fun (W':World) (y:Kp W W')=>signE_ g r s2 p2 l2 c2 q2 k2 d2 0 W' (a2.kp y)
 have tS:¬ (cmI (Fq.plz g r) 0≤0):=by rw [cmI_le0];omega
 by_cases cz:Fq.plz n m < 0
 ·rw [if_pos cz,if_pos cz]
  refine (upB_ (infS n m) (infS g r) (cmI (Fq.plz g r) 0) s p l c q k d s2 p2 l2 c2 q2 k2 d2 tS W hS (fun W' s3 p3 l3 c3 q3 k3 d3 y hz=>?_)).mono ?_
  ·obtain ⟨B3,hz⟩:=hz
   refine greaterB_ (infS n m) 0 1 s p l c q k d s3 p3 l3 c3 q3 k3 d3 (by decide) W' (fun W2 y2=>?_)
   by_cases ci:m = 9218868437227405312
   ·have nt:n = true:=by
     unfold Fq.plz at cz
     cases n
     ·simp at cz;omega
     ·rfl
    rw [show infS n m = -1 from by unfold infS;rw [if_pos ci,nt];rfl]
    exact endG_ 0 (-1) s3 p3 l3 c3 q3 k3 d3 s p l c q k d (by decide) (by decide) W2
   ·rw [show infS n m = 0 from by unfold infS;rw [if_neg ci]]
    have a9:=a1
    unfold fN fM at a9
    rw [if_neg ci,if_neg ci] at a9
    have hc:=xcmp_ B3 0 0 (Iv n m) 1 (2 ^ 1074) 1500 1500 (by decide) (by decide) s3 p3 l3 c3 q3 k3 d3 s p l c q k d W2
    refine endZ_ 1 s3 p3 l3 c3 q3 k3 d3 s p l c q k d W2 (fun W3 y3=>?_)
    have hc:=xcmp_ B3 0 0 (Iv n m) 1 (2 ^ 1074) 1500 1500 (by decide) (by decide) s3 p3 l3 c3 q3 k3 d3 s p l c q k d W3 ((hz.kp (y2.trans y3)).x0) ((a9.kp (y.trans (y2.trans y3))).xp 1074 rfl)
    have hv:Iv n m < 0:=by
     have:=(iv_lt8 n false m 0).2 (by rw [show Fq.plz false 0 = 0 from rfl];exact cz)
     rw [iv_ff] at this
     exact this
    rw [Int.zero_mul,show (Iv n m * ((1:Nat):Int)) = Iv n m from by omega,cmI_gt 0 (Iv n m) hv] at hc
    exact hc
  ·rintro e w' ⟨s3,p3,l3,c3,q3,k3,d3,rfl,hp,g⟩
   exact ⟨_,rfl,⟨s3,p3,l3,c3,q3,k3,d3,s2,p2,l2,c2,q2,k2,d2,rfl,hp.mono (Nat.zero_le _),a2.kp g⟩,g⟩
 ·rw [if_neg cz,if_neg cz]
  have ci:m≠9218868437227405312:=fun e=>by
   unfold Fq.plz at cz hL
   cases n <;> simp at cz hL <;> omega
  refine (upA_ (infS n m) (infS g r) (cmI (Fq.plz g r) 0) s p l c q k d s2 p2 l2 c2 q2 k2 d2 tS W hS (fun W' s3 p3 l3 c3 q3 k3 d3 y hz=>?_)).mono ?_
  ·obtain ⟨B3,hz⟩:=hz
   have hv:0≤Iv n m:=by
    rcases Int.lt_or_le (Iv n m) 0 with x | x
    ·exfalso
     have q:=cmI_iv n false m 0
     rw [iv_ff,show Fq.plz false 0 = 0 from rfl,cmI_lt _ _ x] at q
     unfold cmI at q
     rw [if_neg cz] at q
     split at q <;> omega
    ·exact x
   refine greaterA_ (infS n m) 0 (cmI 0 (Iv n m)) s p l c q k d s3 p3 l3 c3 q3 k3 d3 (by have:=(cmI_le0 0 (Iv n m)).2 hv;omega) W' (fun W2 y2=>?_)
   rw [show infS n m = 0 from by unfold infS;rw [if_neg ci]]
   have a9:=a1
   unfold fN fM at a9
   rw [if_neg ci,if_neg ci] at a9
   refine endZ_ _ s3 p3 l3 c3 q3 k3 d3 s p l c q k d W2 (fun W3 y3=>?_)
   have hc:=xcmp_ B3 0 0 (Iv n m) 1 (2 ^ 1074) 1500 1500 (by decide) (by decide) s3 p3 l3 c3 q3 k3 d3 s p l c q k d W3 ((hz.kp (y2.trans y3)).x0) ((a9.kp (y.trans (y2.trans y3))).xp 1074 rfl)
   rw [Int.zero_mul,show (Iv n m * ((1:Nat):Int)) = Iv n m from by omega] at hc
   exact hc
  ·rintro e w' ⟨rfl,g⟩
   exact ⟨_,rfl,⟨s,p,l,c,q,k,d,s2,p2,l2,c2,q2,k2,d2,rfl,a1.kp g,a2.kp g⟩,g⟩
theorem upZ_ (n g:Bool) (m r:Nat) (hH:Fq.plz g r≤0) (W:World) (v:Value) (h:SV1 n m g r W v):Calls Tryz.prog 44 #[v] W fun e w'=>∃ v',e = .returned v'∧SV0 true v'∧Kp W w':=by
 obtain ⟨s,p,l,c,q,k,d,s2,p2,l2,c2,q2,k2,d2,rfl,a1,a2⟩:=h
 exact upN_ (infS n m) (infS g r) (cmI (Fq.plz g r) 0) s p l c q k d s2 p2 l2 c2 q2 k2 d2 ((cmI_le0 _ _).2 hH) W (fun (W':World) (y:Kp W W')=>signE_ g r s2 p2 l2 c2 q2 k2 d2 0 W' (a2.kp y))
theorem upX_ (W:World) (v:Value) (h:SV0 true v):Calls Tryz.prog 44 #[v] W fun e w'=>∃ v',e = .returned v'∧SV0 true v'∧Kp W w':=by
 obtain ⟨i,j,s,p,l,c,q,k,d,s2,p2,l2,c2,q2,k2,d2,rfl⟩:=h
 exact upE_ i j s p l c q k d s2 p2 l2 c2 q2 k2 d2 W
theorem ovX_ (W:World) (v:Value) (h:SV0 true v):Calls Tryz.prog 43 #[v] W fun e w'=>∃ v',e = .returned v'∧SV0 true v'∧Kp W w':=by
 obtain ⟨i,j,s,p,l,c,q,k,d,s2,p2,l2,c2,q2,k2,d2,rfl⟩:=h
 refine (ovE_ i j s p l c q k d s2 p2 l2 c2 q2 k2 d2 W).mono ?_
 rintro e w' ⟨rfl,g⟩
 exact ⟨_,rfl,⟨i,j,s,p,l,c,q,k,d,s2,p2,l2,c2,q2,k2,d2,rfl⟩,g⟩
def OV (b m r:Nat) (W:World) (v:Value):Prop:=∃ (s:Bool) (p:Option Addr) (l c:Nat) (q:Option Addr) (k d:Nat) (s2:Bool) (p2:Option Addr) (l2 c2:Nat) (q2:Option Addr) (k2 d2:Nat),v = .agg #[.bool false,.int .i64 0,.bool s,.slice p l c,.slice q k d,.int .i64 (if m = 0 then 1 else 0),.bool s2,.slice p2 l2 c2,.slice q2 k2 d2]∧XP b W s p l c q k d (Iv false (jM r)) (jC r) 8000∧XP b W s2 p2 l2 c2 q2 k2 d2 (if m = 0 then 0 else Iv false (jM m)) (if m = 0 then 1 else jC m) 8000
theorem OV.kp {b m r:Nat} {W W':World} {v:Value} (h:OV b m r W v) (g:Kp W W'):OV b m r W' v:=by
 obtain ⟨s,p,l,c,q,k,d,s2,p2,l2,c2,q2,k2,d2,rfl,a1,a2⟩:=h
 exact ⟨s,p,l,c,q,k,d,s2,p2,l2,c2,q2,k2,d2,rfl,a1.kp g,a2.kp g⟩
theorem ovS_ (K:Nat) (hK:K = 1074) (n g:Bool) (m r b:Nat) (hH:0 < Fq.plz g r) (hL:0≤Fq.plz n m) (hi:m≠9218868437227405312) (W:World) (v:Value) (hb:b≤W.heap.size) (h:SV1 n m g r W v):Calls Tryz.prog 43 #[v] W fun e w'=>∃ v',e = .returned v'∧OV b m r w' v'∧Kp W w':=by
 obtain ⟨s,p,l,c,q,k,d,s2,p2,l2,c2,q2,k2,d2,rfl,a1,a2⟩:=h
 obtain ⟨rfl,hr0⟩:=plz_pos g r hH
 have hS:=fun (W':World) (y:Kp W W')=>signE_ n m s p l c q k d 0 W' (a1.kp y)
 have hB:=fun (W':World) (y:Kp W W')=>invZ_ K hK r hr0 s2 p2 l2 c2 q2 k2 d2 0 W' (a2.kp y)
 by_cases cz:0 < Fq.plz n m
 ·obtain ⟨rfl,hm0⟩:=plz_pos n m cz
  have hA:=fun (W':World) (y:Kp W W')=>invZ_ K hK m hm0 s p l c q k d 0 W' (a1.kp y)
  refine (ovT_ (infS false m) (infS false r) (cmI (Fq.plz false m) 0) _ _ _ _ _ _ s p l c q k d s2 p2 l2 c2 q2 k2 d2 (by rw [cmI_gt _ _ cz];decide) W hS hB hA).mono ?_
  rintro e w' ⟨s3,p3,l3,c3,q3,k3,d3,s4,p4,l4,c4,q4,k4,d4,rfl,x1,x2,g⟩
  refine ⟨_,rfl,⟨s3,p3,l3,c3,q3,k3,d3,s4,p4,l4,c4,q4,k4,d4, ?_,x1.mono hb, ?_⟩,g⟩
  ·rw [if_neg hm0]
  ·rw [if_neg hm0,if_neg hm0];exact x2.mono hb
 ·have hm0:m = 0:=by
   unfold Fq.plz at cz hL
   cases n <;> simp at cz hL <;> omega
  refine (ovF_ (infS n m) (infS false r) (cmI (Fq.plz n m) 0) _ _ _ s p l c q k d s2 p2 l2 c2 q2 k2 d2 (by rw [show Fq.plz n m = 0 from by omega,cmI_eq];decide) W hS hB).mono ?_
  rintro e w' ⟨s3,p3,l3,c3,q3,k3,d3,s4,p4,l4,c4,q4,k4,d4,rfl,x1,x2,g⟩
  refine ⟨_,rfl,⟨s3,p3,l3,c3,q3,k3,d3,s4,p4,l4,c4,q4,k4,d4, ?_,x1.mono hb, ?_⟩,g⟩
  ·rw [if_pos hm0]
  ·rw [if_pos hm0,if_pos hm0];exact (x2.mono hb).as 0 1 8000 (by decide) rfl (by decide)
def NV (b m r:Nat) (W:World) (v:Value):Prop:=∃ (s:Bool) (p:Option Addr) (l c:Nat) (q:Option Addr) (k d:Nat) (s2:Bool) (p2:Option Addr) (l2 c2:Nat) (q2:Option Addr) (k2 d2:Nat),v = .agg #[.bool false,.int .i64 (if m = 0 then -1 else 0),.bool s,.slice p l c,.slice q k d,.int .i64 0,.bool s2,.slice p2 l2 c2,.slice q2 k2 d2]∧XP b W s p l c q k d (if m = 0 then 0 else Iv true (jM m)) (if m = 0 then 1 else jC m) 8000∧XP b W s2 p2 l2 c2 q2 k2 d2 (Iv true (jM r)) (jC r) 8000
def QS (b:Nat) (i j:Int) (ZA ZB:Int→Nat) (W:World) (v:Value):Prop:=∃ (s:Bool) (p:Option Addr) (l c:Nat) (q:Option Addr) (k d:Nat) (s2:Bool) (p2:Option Addr) (l2 c2:Nat) (q2:Option Addr) (k2 d2:Nat),v = .agg #[.bool false,.int .i64 i,.bool s,.slice p l c,.slice q k d,.int .i64 j,.bool s2,.slice p2 l2 c2,.slice q2 k2 d2]∧(i = 0→QP b W s p l c q k d ZA)∧(j = 0→QP b W s2 p2 l2 c2 q2 k2 d2 ZB)
theorem QS.set {b:Nat} {i j:Int} {ZA ZB:Int→Nat} {W:World} {v:Value} (h:QS b i j ZA ZB W v) {x:Addr} (hx:x.block < b) (u:Value):QS b i j ZA ZB (W.setCell x u) v:=by
 obtain ⟨s,p,l,c,q,k,d,s2,p2,l2,c2,q2,k2,d2,rfl,a1,a2⟩:=h
 exact ⟨s,p,l,c,q,k,d,s2,p2,l2,c2,q2,k2,d2,rfl,fun y=>(a1 y).set hx u,fun y=>(a2 y).set hx u⟩
theorem QS.kp {b:Nat} {i j:Int} {ZA ZB:Int→Nat} {W W':World} {v:Value} (h:QS b i j ZA ZB W v) (g:Kp W W'):QS b i j ZA ZB W' v:=by
 obtain ⟨s,p,l,c,q,k,d,s2,p2,l2,c2,q2,k2,d2,rfl,a1,a2⟩:=h
 exact ⟨s,p,l,c,q,k,d,s2,p2,l2,c2,q2,k2,d2,rfl,fun y=>(a1 y).kp g,fun y=>(a2 y).kp g⟩
set_option linter.unusedVariables false
theorem timesA_ (n0:Nat) (Ai:Int) (An:Bool) (Ap:Option Addr) (Al Ac:Nat) (Aq:Option Addr) (Ak Ad:Nat) (Bi:Int) (Bn:Bool) (Bp:Option Addr) (Bl Bc:Nat) (Bq:Option Addr) (Bk Bd:Nat) (Ci:Int) (Cn:Bool) (Cp:Option Addr) (Cl Cc:Nat) (Cq:Option Addr) (Ck Cd:Nat) (Di:Int) (Dn:Bool) (Dp:Option Addr) (Dl Dc:Nat) (Dq:Option Addr) (Dk Dd:Nat) (Q:Nat→World→Int→Bool→Option Addr→Nat→Nat→Option Addr→Nat→Nat→Prop) (hQ:∀ k W W' (ai:Int) (an:Bool) (ap:Option Addr) (al ac:Nat) (aq:Option Addr) (ak ad:Nat),Kp W W'→Q k W ai an ap al ac aq ak ad→Q k W' ai an ap al ac aq ak ad) (hS:∀ k W (ai:Int) (an:Bool) (ap:Option Addr) (al ac:Nat) (aq:Option Addr) (ak ad:Nat) i u,Q k W ai an ap al ac aq ak ad→Q k (W.setCell ⟨n0,i,none⟩ u) ai an ap al ac aq ak ad) (PL:Nat→Nat→Nat→Nat→Prop) (w:World) (e0:n0 = w.heap.size + 2) (hP0:∀ W:World,Kp w W→w.heap.size + 3≤W.heap.size→Calls Tryz.prog 53 #[.agg #[.int .i64 Ai,.bool An,.slice Ap Al Ac,.slice Aq Ak Ad],.agg #[.int .i64 Ci,.bool Cn,.slice Cp Cl Cc,.slice Cq Ck Cd]] W fun e w'=>∃ pi pn pp pl pc pq pk pd,e = .returned (.agg #[.int .i64 pi,.bool pn,.slice pp pl pc,.slice pq pk pd])∧Q 0 w' pi pn pp pl pc pq pk pd∧Kp W w') (hP1:∀ W:World,Kp w W→w.heap.size + 3≤W.heap.size→Calls Tryz.prog 53 #[.agg #[.int .i64 Ai,.bool An,.slice Ap Al Ac,.slice Aq Ak Ad],.agg #[.int .i64 Di,.bool Dn,.slice Dp Dl Dc,.slice Dq Dk Dd]] W fun e w'=>∃ pi pn pp pl pc pq pk pd,e = .returned (.agg #[.int .i64 pi,.bool pn,.slice pp pl pc,.slice pq pk pd])∧Q 1 w' pi pn pp pl pc pq pk pd∧Kp W w') (hP2:∀ W:World,Kp w W→w.heap.size + 3≤W.heap.size→Calls Tryz.prog 53 #[.agg #[.int .i64 Bi,.bool Bn,.slice Bp Bl Bc,.slice Bq Bk Bd],.agg #[.int .i64 Ci,.bool Cn,.slice Cp Cl Cc,.slice Cq Ck Cd]] W fun e w'=>∃ pi pn pp pl pc pq pk pd,e = .returned (.agg #[.int .i64 pi,.bool pn,.slice pp pl pc,.slice pq pk pd])∧Q 2 w' pi pn pp pl pc pq pk pd∧Kp W w') (hP3:∀ W:World,Kp w W→w.heap.size + 3≤W.heap.size→Calls Tryz.prog 53 #[.agg #[.int .i64 Bi,.bool Bn,.slice Bp Bl Bc,.slice Bq Bk Bd],.agg #[.int .i64 Di,.bool Dn,.slice Dp Dl Dc,.slice Dq Dk Dd]] W fun e w'=>∃ pi pn pp pl pc pq pk pd,e = .returned (.agg #[.int .i64 pi,.bool pn,.slice pp pl pc,.slice pq pk pd])∧Q 3 w' pi pn pp pl pc pq pk pd∧Kp W w') (hL:∀ f i j k W (ai:Int) (an:Bool) (ap:Option Addr) (al ac:Nat) (aq:Option Addr) (ak ad:Nat) (bi:Int) (bn:Bool) (bp:Option Addr) (bl bc:Nat) (bq:Option Addr) (bk bd:Nat),PL f i j k→Q i W ai an ap al ac aq ak ad→Q j W bi bn bp bl bc bq bk bd→Calls Tryz.prog f #[.agg #[.int .i64 ai,.bool an,.slice ap al ac,.slice aq ak ad],.agg #[.int .i64 bi,.bool bn,.slice bp bl bc,.slice bq bk bd]] W fun e w'=>∃ ci cn cp cl cc cq ck cd,e = .returned (.agg #[.int .i64 ci,.bool cn,.slice cp cl cc,.slice cq ck cd])∧Q k w' ci cn cp cl cc cq ck cd∧Kp W w') (f0:PL 54 0 1 4) (f1:PL 54 2 3 5) (f2:PL 54 4 5 6) (f3:PL 55 0 1 7) (f4:PL 55 2 3 8) (f5:PL 55 7 8 9):Calls Tryz.prog 31 #[.agg #[.bool false,.int .i64 Ai,.bool An,.slice Ap Al Ac,.slice Aq Ak Ad,.int .i64 Bi,.bool Bn,.slice Bp Bl Bc,.slice Bq Bk Bd],.agg #[.bool false,.int .i64 Ci,.bool Cn,.slice Cp Cl Cc,.slice Cq Ck Cd,.int .i64 Di,.bool Dn,.slice Dp Dl Dc,.slice Dq Dk Dd]] w fun e w'=>∃ Gi Gn Gp Gl Gc Gq Gk Gd Oi On Op Ol Oc Oq Ok Od,e = .returned (.agg #[.bool false,.int .i64 Gi,.bool Gn,.slice Gp Gl Gc,.slice Gq Gk Gd,.int .i64 Oi,.bool On,.slice Op Ol Oc,.slice Oq Ok Od])∧Q 6 w' Gi Gn Gp Gl Gc Gq Gk Gd∧Q 9 w' Oi On Op Ol Oc Oq Ok Od∧Kp w w':=by
 subst e0
 go_enter Tryz.func31,Tryz.ntmps31
 go_upto_region 1 with fail
 have SS:=H9c.keep (H9c.keep (H9c.new w (.bool false) (.int .i64 Ai) (.bool An) (.slice Ap Al Ac) (.slice Aq Ak Ad) (.int .i64 Bi) (.bool Bn) (.slice Bp Bl Bc) (.slice Bq Bk Bd) 52) ((Kp.refl _).alloc (.cells #[.bool false,.int .i64 Ci,.bool Cn,.slice Cp Cl Cc,.slice Cq Ck Cd,.int .i64 Di,.bool Dn,.slice Dp Dl Dc,.slice Dq Dk Dd] 52))) ((Kp.refl _).alloc (.cells #[.bool false,.int .i64 0,.bool false,.slice none 0 0,.slice none 0 0,.int .i64 0,.bool false,.slice none 0 0,.slice none 0 0] 52))
 have TT9:=H9c.keep (H9c.new (w.alloc (.cells #[.bool false,.int .i64 Ai,.bool An,.slice Ap Al Ac,.slice Aq Ak Ad,.int .i64 Bi,.bool Bn,.slice Bp Bl Bc,.slice Bq Bk Bd] 52)) (.bool false) (.int .i64 Ci) (.bool Cn) (.slice Cp Cl Cc) (.slice Cq Ck Cd) (.int .i64 Di) (.bool Dn) (.slice Dp Dl Dc) (.slice Dq Dk Dd) 52) ((Kp.refl _).alloc (.cells #[.bool false,.int .i64 0,.bool false,.slice none 0 0,.slice none 0 0,.int .i64 0,.bool false,.slice none 0 0,.slice none 0 0] 52))
 have RR:=H9c.new ((w.alloc (.cells #[.bool false,.int .i64 Ai,.bool An,.slice Ap Al Ac,.slice Aq Ak Ad,.int .i64 Bi,.bool Bn,.slice Bp Bl Bc,.slice Bq Bk Bd] 52)).alloc (.cells #[.bool false,.int .i64 Ci,.bool Cn,.slice Cp Cl Cc,.slice Cq Ck Cd,.int .i64 Di,.bool Dn,.slice Dp Dl Dc,.slice Dq Dk Dd] 52)) (.bool false) (.int .i64 0) (.bool false) (.slice none 0 0) (.slice none 0 0) (.int .i64 0) (.bool false) (.slice none 0 0) (.slice none 0 0) 52
 have kW:Kp w (((w.alloc (.cells #[.bool false,.int .i64 Ai,.bool An,.slice Ap Al Ac,.slice Aq Ak Ad,.int .i64 Bi,.bool Bn,.slice Bp Bl Bc,.slice Bq Bk Bd] 52)).alloc (.cells #[.bool false,.int .i64 Ci,.bool Cn,.slice Cp Cl Cc,.slice Cq Ck Cd,.int .i64 Di,.bool Dn,.slice Dp Dl Dc,.slice Dq Dk Dd] 52)).alloc (.cells #[.bool false,.int .i64 0,.bool false,.slice none 0 0,.slice none 0 0,.int .i64 0,.bool false,.slice none 0 0,.slice none 0 0] 52)):=(((Kp.refl w).alloc _).alloc _).alloc _
 rw [show (w.alloc (.cells #[.bool false,.int .i64 Ai,.bool An,.slice Ap Al Ac,.slice Aq Ak Ad,.int .i64 Bi,.bool Bn,.slice Bp Bl Bc,.slice Bq Bk Bd] 52)).heap.size = w.heap.size + 1 from by simp] at TT9
 rw [show ((w.alloc (.cells #[.bool false,.int .i64 Ai,.bool An,.slice Ap Al Ac,.slice Aq Ak Ad,.int .i64 Bi,.bool Bn,.slice Bp Bl Bc,.slice Bq Bk Bd] 52)).alloc (.cells #[.bool false,.int .i64 Ci,.bool Cn,.slice Cp Cl Cc,.slice Cq Ck Cd,.int .i64 Di,.bool Dn,.slice Dp Dl Dc,.slice Dq Dk Dd] 52)).heap.size = w.heap.size + 2 from by simp] at RR
 generalize (((w.alloc (.cells #[.bool false,.int .i64 Ai,.bool An,.slice Ap Al Ac,.slice Aq Ak Ad,.int .i64 Bi,.bool Bn,.slice Bp Bl Bc,.slice Bq Bk Bd] 52)).alloc (.cells #[.bool false,.int .i64 Ci,.bool Cn,.slice Cp Cl Cc,.slice Cq Ck Cd,.int .i64 Di,.bool Dn,.slice Dp Dl Dc,.slice Dq Dk Dd] 52)).alloc (.cells #[.bool false,.int .i64 0,.bool false,.slice none 0 0,.slice none 0 0,.int .i64 0,.bool false,.slice none 0 0,.slice none 0 0] 52)) = W at SS TT9 RR kW ⊢
 obtain ⟨s0,s1,s2,s3,s4,s5,s6,s7,s8,sz0,sz1,sz2,sz3,sz4,sz5,sz6,sz7,sz8⟩:=id SS
 obtain ⟨t0,t1,t2,t3,t4,t5,t6,t7,t8,tz0,tz1,tz2,tz3,tz4,tz5,tz6,tz7,tz8⟩:=id TT9
 go_upto_region 4 with (first | (go_at_call 53;refine (hP0 _ kW (by have q9:=RR.lt;omega)).mono ?_;rintro e wx ⟨Pi,Pn,Pp,Pl,Pc,Pq,Pk,Pd,rfl,qP,gx⟩))
 clear s0 s1 s2 s3 s4 s5 s6 s7 s8 sz0 sz1 sz2 sz3 sz4 sz5 sz6 sz7 sz8 t0 t1 t2 t3 t4 t5 t6 t7 t8 tz0 tz1 tz2 tz3 tz4 tz5 tz6 tz7 tz8
 have gz:=gx.alloc (.cells #[.int .i64 Pi,.bool Pn,.slice Pp Pl Pc,.slice Pq Pk Pd] 50)
 replace SS:=H9c.keep SS gz
 replace TT9:=H9c.keep TT9 gz
 have RRo:=RR
 replace RR:=H9c.keep RR gz
 replace kW:=Kp.trans kW gz
 replace qP:=hQ _ _ _ _ _ _ _ _ _ _ _ ((Kp.refl wx).alloc (.cells #[.int .i64 Pi,.bool Pn,.slice Pp Pl Pc,.slice Pq Pk Pd] 50)) qP
 have hP:=H4c.new wx (.int .i64 Pi) (.bool Pn) (.slice Pp Pl Pc) (.slice Pq Pk Pd) 50
 have nP:wx.heap.size≠w.heap.size + 2:=by have q9:=Below.size gx;have q8:=RRo.lt;omega
 clear gz gx RRo
 generalize hW:wx.alloc (.cells #[.int .i64 Pi,.bool Pn,.slice Pp Pl Pc,.slice Pq Pk Pd] 50) = W at SS TT9 RR kW hP qP ⊢
 generalize wx.heap.size = bP at hP nP ⊢
 clear hW
 obtain ⟨s0,s1,s2,s3,s4,s5,s6,s7,s8,sz0,sz1,sz2,sz3,sz4,sz5,sz6,sz7,sz8⟩:=id SS
 obtain ⟨t0,t1,t2,t3,t4,t5,t6,t7,t8,tz0,tz1,tz2,tz3,tz4,tz5,tz6,tz7,tz8⟩:=id TT9
 go_upto_region 5 with (first | (go_at_call 53;refine (hP1 _ kW (by have q9:=RR.lt;omega)).mono ?_;rintro e wx ⟨Yi,Yn,Yp,Yl,Yc,Yq,Yk,Yd,rfl,qY,gx⟩))
 clear s0 s1 s2 s3 s4 s5 s6 s7 s8 sz0 sz1 sz2 sz3 sz4 sz5 sz6 sz7 sz8 t0 t1 t2 t3 t4 t5 t6 t7 t8 tz0 tz1 tz2 tz3 tz4 tz5 tz6 tz7 tz8
 have gz:=gx.alloc (.cells #[.int .i64 Yi,.bool Yn,.slice Yp Yl Yc,.slice Yq Yk Yd] 50)
 replace SS:=H9c.keep SS gz
 replace TT9:=H9c.keep TT9 gz
 have RRo:=RR
 replace RR:=H9c.keep RR gz
 replace kW:=Kp.trans kW gz
 replace hP:=H4c.keep hP gz
 replace qP:=hQ _ _ _ _ _ _ _ _ _ _ _ gz qP
 replace qY:=hQ _ _ _ _ _ _ _ _ _ _ _ ((Kp.refl wx).alloc (.cells #[.int .i64 Yi,.bool Yn,.slice Yp Yl Yc,.slice Yq Yk Yd] 50)) qY
 have hY:=H4c.new wx (.int .i64 Yi) (.bool Yn) (.slice Yp Yl Yc) (.slice Yq Yk Yd) 50
 have nY:wx.heap.size≠w.heap.size + 2:=by have q9:=Below.size gx;have q8:=RRo.lt;omega
 clear gz gx RRo
 generalize hW:wx.alloc (.cells #[.int .i64 Yi,.bool Yn,.slice Yp Yl Yc,.slice Yq Yk Yd] 50) = W at SS TT9 RR kW hP qP hY qY ⊢
 generalize wx.heap.size = bY at hY nY ⊢
 clear hW
 obtain ⟨s0,s1,s2,s3,s4,s5,s6,s7,s8,sz0,sz1,sz2,sz3,sz4,sz5,sz6,sz7,sz8⟩:=id SS
 obtain ⟨t0,t1,t2,t3,t4,t5,t6,t7,t8,tz0,tz1,tz2,tz3,tz4,tz5,tz6,tz7,tz8⟩:=id TT9
 go_upto_region 6 with (first | (go_at_call 53;refine (hP2 _ kW (by have q9:=RR.lt;omega)).mono ?_;rintro e wx ⟨Zi,Zn,Zp,Zl,Zc,Zq,Zk,Zd,rfl,qZ,gx⟩))
 clear s0 s1 s2 s3 s4 s5 s6 s7 s8 sz0 sz1 sz2 sz3 sz4 sz5 sz6 sz7 sz8 t0 t1 t2 t3 t4 t5 t6 t7 t8 tz0 tz1 tz2 tz3 tz4 tz5 tz6 tz7 tz8
 have gz:=gx.alloc (.cells #[.int .i64 Zi,.bool Zn,.slice Zp Zl Zc,.slice Zq Zk Zd] 50)
 replace SS:=H9c.keep SS gz
 replace TT9:=H9c.keep TT9 gz
 have RRo:=RR
 replace RR:=H9c.keep RR gz
 replace kW:=Kp.trans kW gz
 replace hP:=H4c.keep hP gz
 replace qP:=hQ _ _ _ _ _ _ _ _ _ _ _ gz qP
 replace hY:=H4c.keep hY gz
 replace qY:=hQ _ _ _ _ _ _ _ _ _ _ _ gz qY
 replace qZ:=hQ _ _ _ _ _ _ _ _ _ _ _ ((Kp.refl wx).alloc (.cells #[.int .i64 Zi,.bool Zn,.slice Zp Zl Zc,.slice Zq Zk Zd] 50)) qZ
 have hZ:=H4c.new wx (.int .i64 Zi) (.bool Zn) (.slice Zp Zl Zc) (.slice Zq Zk Zd) 50
 have nZ:wx.heap.size≠w.heap.size + 2:=by have q9:=Below.size gx;have q8:=RRo.lt;omega
 clear gz gx RRo
 generalize hW:wx.alloc (.cells #[.int .i64 Zi,.bool Zn,.slice Zp Zl Zc,.slice Zq Zk Zd] 50) = W at SS TT9 RR kW hP qP hY qY hZ qZ ⊢
 generalize wx.heap.size = bZ at hZ nZ ⊢
 clear hW
 obtain ⟨s0,s1,s2,s3,s4,s5,s6,s7,s8,sz0,sz1,sz2,sz3,sz4,sz5,sz6,sz7,sz8⟩:=id SS
 obtain ⟨t0,t1,t2,t3,t4,t5,t6,t7,t8,tz0,tz1,tz2,tz3,tz4,tz5,tz6,tz7,tz8⟩:=id TT9
 go_upto_region 7 with (first | (go_at_call 53;refine (hP3 _ kW (by have q9:=RR.lt;omega)).mono ?_;rintro e wx ⟨Xi,Xn,Xp,Xl,Xc,Xq,Xk,Xd,rfl,qX,gx⟩))
 clear s0 s1 s2 s3 s4 s5 s6 s7 s8 sz0 sz1 sz2 sz3 sz4 sz5 sz6 sz7 sz8 t0 t1 t2 t3 t4 t5 t6 t7 t8 tz0 tz1 tz2 tz3 tz4 tz5 tz6 tz7 tz8
 have gz:=gx.alloc (.cells #[.int .i64 Xi,.bool Xn,.slice Xp Xl Xc,.slice Xq Xk Xd] 50)
 replace SS:=H9c.keep SS gz
 replace TT9:=H9c.keep TT9 gz
 have RRo:=RR
 replace RR:=H9c.keep RR gz
 replace kW:=Kp.trans kW gz
 replace hP:=H4c.keep hP gz
 replace qP:=hQ _ _ _ _ _ _ _ _ _ _ _ gz qP
 replace hY:=H4c.keep hY gz
 replace qY:=hQ _ _ _ _ _ _ _ _ _ _ _ gz qY
 replace hZ:=H4c.keep hZ gz
 replace qZ:=hQ _ _ _ _ _ _ _ _ _ _ _ gz qZ
 replace qX:=hQ _ _ _ _ _ _ _ _ _ _ _ ((Kp.refl wx).alloc (.cells #[.int .i64 Xi,.bool Xn,.slice Xp Xl Xc,.slice Xq Xk Xd] 50)) qX
 have hX:=H4c.new wx (.int .i64 Xi) (.bool Xn) (.slice Xp Xl Xc) (.slice Xq Xk Xd) 50
 have nX:wx.heap.size≠w.heap.size + 2:=by have q9:=Below.size gx;have q8:=RRo.lt;omega
 clear gz gx RRo
 generalize hW:wx.alloc (.cells #[.int .i64 Xi,.bool Xn,.slice Xp Xl Xc,.slice Xq Xk Xd] 50) = W at SS TT9 RR kW hP qP hY qY hZ qZ hX qX ⊢
 generalize wx.heap.size = bX at hX nX ⊢
 clear hW
 go_upto_region 7 with fail
 obtain ⟨kwP0,kwP1,kwP2,kwP3,-,-,-,-⟩:=id hP
 have kdP0:W.drew.cell? ⟨bP,0,none⟩ = some (.int .i64 Pi):=kwP0
 have kdP1:W.drew.cell? ⟨bP,1,none⟩ = some (.bool Pn):=kwP1
 have kdP2:W.drew.cell? ⟨bP,2,none⟩ = some (.slice Pp Pl Pc):=kwP2
 have kdP3:W.drew.cell? ⟨bP,3,none⟩ = some (.slice Pq Pk Pd):=kwP3
 have mP:w.heap.size + 2≠bP:=fun q9=>nP q9.symm
 obtain ⟨kwY0,kwY1,kwY2,kwY3,-,-,-,-⟩:=id hY
 have kdY0:W.drew.cell? ⟨bY,0,none⟩ = some (.int .i64 Yi):=kwY0
 have kdY1:W.drew.cell? ⟨bY,1,none⟩ = some (.bool Yn):=kwY1
 have kdY2:W.drew.cell? ⟨bY,2,none⟩ = some (.slice Yp Yl Yc):=kwY2
 have kdY3:W.drew.cell? ⟨bY,3,none⟩ = some (.slice Yq Yk Yd):=kwY3
 have mY:w.heap.size + 2≠bY:=fun q9=>nY q9.symm
 obtain ⟨kwZ0,kwZ1,kwZ2,kwZ3,-,-,-,-⟩:=id hZ
 have kdZ0:W.drew.cell? ⟨bZ,0,none⟩ = some (.int .i64 Zi):=kwZ0
 have kdZ1:W.drew.cell? ⟨bZ,1,none⟩ = some (.bool Zn):=kwZ1
 have kdZ2:W.drew.cell? ⟨bZ,2,none⟩ = some (.slice Zp Zl Zc):=kwZ2
 have kdZ3:W.drew.cell? ⟨bZ,3,none⟩ = some (.slice Zq Zk Zd):=kwZ3
 have mZ:w.heap.size + 2≠bZ:=fun q9=>nZ q9.symm
 obtain ⟨kwX0,kwX1,kwX2,kwX3,-,-,-,-⟩:=id hX
 have kdX0:W.drew.cell? ⟨bX,0,none⟩ = some (.int .i64 Xi):=kwX0
 have kdX1:W.drew.cell? ⟨bX,1,none⟩ = some (.bool Xn):=kwX1
 have kdX2:W.drew.cell? ⟨bX,2,none⟩ = some (.slice Xp Xl Xc):=kwX2
 have kdX3:W.drew.cell? ⟨bX,3,none⟩ = some (.slice Xq Xk Xd):=kwX3
 have mX:w.heap.size + 2≠bX:=fun q9=>nX q9.symm
 go_region_held3 (fun w'=>w'.cell? ⟨bP,0,none⟩ = some (.int .i64 Pi)∧w'.cell? ⟨bP,1,none⟩ = some (.bool Pn)∧w'.cell? ⟨bP,2,none⟩ = some (.slice Pp Pl Pc)∧w'.cell? ⟨bP,3,none⟩ = some (.slice Pq Pk Pd)∧w'.cell? ⟨bY,0,none⟩ = some (.int .i64 Yi)∧w'.cell? ⟨bY,1,none⟩ = some (.bool Yn)∧w'.cell? ⟨bY,2,none⟩ = some (.slice Yp Yl Yc)∧w'.cell? ⟨bY,3,none⟩ = some (.slice Yq Yk Yd)∧w'.cell? ⟨bZ,0,none⟩ = some (.int .i64 Zi)∧w'.cell? ⟨bZ,1,none⟩ = some (.bool Zn)∧w'.cell? ⟨bZ,2,none⟩ = some (.slice Zp Zl Zc)∧w'.cell? ⟨bZ,3,none⟩ = some (.slice Zq Zk Zd)∧w'.cell? ⟨bX,0,none⟩ = some (.int .i64 Xi)∧w'.cell? ⟨bX,1,none⟩ = some (.bool Xn)∧w'.cell? ⟨bX,2,none⟩ = some (.slice Xp Xl Xc)∧w'.cell? ⟨bX,3,none⟩ = some (.slice Xq Xk Xd)) (first | (with_reducible exact ⟨kwP0,kwP1,kwP2,kwP3,kwY0,kwY1,kwY2,kwY3,kwZ0,kwZ1,kwZ2,kwZ3,kwX0,kwX1,kwX2,kwX3⟩) | (with_reducible exact ⟨kdP0,kdP1,kdP2,kdP3,kdY0,kdY1,kdY2,kdY3,kdZ0,kdZ1,kdZ2,kdZ3,kdX0,kdX1,kdX2,kdX3⟩) | (with_reducible exact ⟨k1P0,k1P1,k1P2,k1P3,k1Y0,k1Y1,k1Y2,k1Y3,k1Z0,k1Z1,k1Z2,k1Z3,k1X0,k1X1,k1X2,k1X3⟩) | (with_reducible exact ⟨k2P0,k2P1,k2P2,k2P3,k2Y0,k2Y1,k2Y2,k2Y3,k2Z0,k2Z1,k2Z2,k2Z3,k2X0,k2X1,k2X2,k2X3⟩) | (with_reducible exact ⟨k3P0,k3P1,k3P2,k3P3,k3Y0,k3Y1,k3Y2,k3Y3,k3Z0,k3Z1,k3Z2,k3Z3,k3X0,k3X1,k3X2,k3X3⟩) | (with_reducible exact ⟨k4P0,k4P1,k4P2,k4P3,k4Y0,k4Y1,k4Y2,k4Y3,k4Z0,k4Z1,k4Z2,k4Z3,k4X0,k4X1,k4X2,k4X3⟩) | (with_reducible exact ⟨k5P0,k5P1,k5P2,k5P3,k5Y0,k5Y1,k5Y2,k5Y3,k5Z0,k5Z1,k5Z2,k5Z3,k5X0,k5X1,k5X2,k5X3⟩) | (with_reducible exact ⟨k6P0,k6P1,k6P2,k6P3,k6Y0,k6Y1,k6Y2,k6Y3,k6Z0,k6Z1,k6Z2,k6Z3,k6X0,k6X1,k6X2,k6X3⟩) | (exact ⟨((CF _ _ _ _ mP).trans ((CF _ _ _ _ mP).trans ((CF _ _ _ _ mP).trans ((CF _ _ _ _ mP).trans ((CF _ _ _ _ mP).trans ((CF _ _ _ _ mP).trans ((CF _ _ _ _ mP).trans ((CF _ _ _ _ mP).trans ((CF _ _ _ _ mP).trans k6P0))))))))),((CF _ _ _ _ mP).trans ((CF _ _ _ _ mP).trans ((CF _ _ _ _ mP).trans ((CF _ _ _ _ mP).trans ((CF _ _ _ _ mP).trans ((CF _ _ _ _ mP).trans ((CF _ _ _ _ mP).trans ((CF _ _ _ _ mP).trans ((CF _ _ _ _ mP).trans k6P1))))))))),((CF _ _ _ _ mP).trans ((CF _ _ _ _ mP).trans ((CF _ _ _ _ mP).trans ((CF _ _ _ _ mP).trans ((CF _ _ _ _ mP).trans ((CF _ _ _ _ mP).trans ((CF _ _ _ _ mP).trans ((CF _ _ _ _ mP).trans ((CF _ _ _ _ mP).trans k6P2))))))))),((CF _ _ _ _ mP).trans ((CF _ _ _ _ mP).trans ((CF _ _ _ _ mP).trans ((CF _ _ _ _ mP).trans ((CF _ _ _ _ mP).trans ((CF _ _ _ _ mP).trans ((CF _ _ _ _ mP).trans ((CF _ _ _ _ mP).trans ((CF _ _ _ _ mP).trans k6P3))))))))),((CF _ _ _ _ mY).trans ((CF _ _ _ _ mY).trans ((CF _ _ _ _ mY).trans ((CF _ _ _ _ mY).trans ((CF _ _ _ _ mY).trans ((CF _ _ _ _ mY).trans ((CF _ _ _ _ mY).trans ((CF _ _ _ _ mY).trans ((CF _ _ _ _ mY).trans k6Y0))))))))),((CF _ _ _ _ mY).trans ((CF _ _ _ _ mY).trans ((CF _ _ _ _ mY).trans ((CF _ _ _ _ mY).trans ((CF _ _ _ _ mY).trans ((CF _ _ _ _ mY).trans ((CF _ _ _ _ mY).trans ((CF _ _ _ _ mY).trans ((CF _ _ _ _ mY).trans k6Y1))))))))),((CF _ _ _ _ mY).trans ((CF _ _ _ _ mY).trans ((CF _ _ _ _ mY).trans ((CF _ _ _ _ mY).trans ((CF _ _ _ _ mY).trans ((CF _ _ _ _ mY).trans ((CF _ _ _ _ mY).trans ((CF _ _ _ _ mY).trans ((CF _ _ _ _ mY).trans k6Y2))))))))),((CF _ _ _ _ mY).trans ((CF _ _ _ _ mY).trans ((CF _ _ _ _ mY).trans ((CF _ _ _ _ mY).trans ((CF _ _ _ _ mY).trans ((CF _ _ _ _ mY).trans ((CF _ _ _ _ mY).trans ((CF _ _ _ _ mY).trans ((CF _ _ _ _ mY).trans k6Y3))))))))),((CF _ _ _ _ mZ).trans ((CF _ _ _ _ mZ).trans ((CF _ _ _ _ mZ).trans ((CF _ _ _ _ mZ).trans ((CF _ _ _ _ mZ).trans ((CF _ _ _ _ mZ).trans ((CF _ _ _ _ mZ).trans ((CF _ _ _ _ mZ).trans ((CF _ _ _ _ mZ).trans k6Z0))))))))),((CF _ _ _ _ mZ).trans ((CF _ _ _ _ mZ).trans ((CF _ _ _ _ mZ).trans ((CF _ _ _ _ mZ).trans ((CF _ _ _ _ mZ).trans ((CF _ _ _ _ mZ).trans ((CF _ _ _ _ mZ).trans ((CF _ _ _ _ mZ).trans ((CF _ _ _ _ mZ).trans k6Z1))))))))),((CF _ _ _ _ mZ).trans ((CF _ _ _ _ mZ).trans ((CF _ _ _ _ mZ).trans ((CF _ _ _ _ mZ).trans ((CF _ _ _ _ mZ).trans ((CF _ _ _ _ mZ).trans ((CF _ _ _ _ mZ).trans ((CF _ _ _ _ mZ).trans ((CF _ _ _ _ mZ).trans k6Z2))))))))),((CF _ _ _ _ mZ).trans ((CF _ _ _ _ mZ).trans ((CF _ _ _ _ mZ).trans ((CF _ _ _ _ mZ).trans ((CF _ _ _ _ mZ).trans ((CF _ _ _ _ mZ).trans ((CF _ _ _ _ mZ).trans ((CF _ _ _ _ mZ).trans ((CF _ _ _ _ mZ).trans k6Z3))))))))),((CF _ _ _ _ mX).trans ((CF _ _ _ _ mX).trans ((CF _ _ _ _ mX).trans ((CF _ _ _ _ mX).trans ((CF _ _ _ _ mX).trans ((CF _ _ _ _ mX).trans ((CF _ _ _ _ mX).trans ((CF _ _ _ _ mX).trans ((CF _ _ _ _ mX).trans k6X0))))))))),((CF _ _ _ _ mX).trans ((CF _ _ _ _ mX).trans ((CF _ _ _ _ mX).trans ((CF _ _ _ _ mX).trans ((CF _ _ _ _ mX).trans ((CF _ _ _ _ mX).trans ((CF _ _ _ _ mX).trans ((CF _ _ _ _ mX).trans ((CF _ _ _ _ mX).trans k6X1))))))))),((CF _ _ _ _ mX).trans ((CF _ _ _ _ mX).trans ((CF _ _ _ _ mX).trans ((CF _ _ _ _ mX).trans ((CF _ _ _ _ mX).trans ((CF _ _ _ _ mX).trans ((CF _ _ _ _ mX).trans ((CF _ _ _ _ mX).trans ((CF _ _ _ _ mX).trans k6X2))))))))),((CF _ _ _ _ mX).trans ((CF _ _ _ _ mX).trans ((CF _ _ _ _ mX).trans ((CF _ _ _ _ mX).trans ((CF _ _ _ _ mX).trans ((CF _ _ _ _ mX).trans ((CF _ _ _ _ mX).trans ((CF _ _ _ _ mX).trans ((CF _ _ _ _ mX).trans k6X3)))))))))⟩)) (first | (go_at_call_of 54 (Value.agg #[.int .i64 Pi,.bool Pn,.slice Pp Pl Pc,.slice Pq Pk Pd]);refine (hL 54 _ _ _ _ _ _ _ _ _ _ _ _ _ _ _ _ _ _ _ _ f0 (hQ _ _ _ _ _ _ _ _ _ _ _ (Kp.drew (Kp.refl W)) qP) (hQ _ _ _ _ _ _ _ _ _ _ _ (Kp.drew (Kp.refl W)) qY)).mono ?_;rintro e w1 ⟨ai,an,ap,al,ac,aq,ak,ad,rfl,qac,g1⟩;have K1:Kp W w1:=Kp.trans (Kp.drew (Kp.refl W)) g1;obtain ⟨k1P0,k1P1,k1P2,k1P3,-,-,-,-⟩:=H4c.keep hP K1;obtain ⟨k1Y0,k1Y1,k1Y2,k1Y3,-,-,-,-⟩:=H4c.keep hY K1;obtain ⟨k1Z0,k1Z1,k1Z2,k1Z3,-,-,-,-⟩:=H4c.keep hZ K1;obtain ⟨k1X0,k1X1,k1X2,k1X3,-,-,-,-⟩:=H4c.keep hX K1) | (go_at_call_of 54 (Value.agg #[.int .i64 Zi,.bool Zn,.slice Zp Zl Zc,.slice Zq Zk Zd]);refine (hL 54 _ _ _ _ _ _ _ _ _ _ _ _ _ _ _ _ _ _ _ _ f1 (hQ _ _ _ _ _ _ _ _ _ _ _ K1 qZ) (hQ _ _ _ _ _ _ _ _ _ _ _ K1 qX)).mono ?_;rintro e w2 ⟨bi,bn,bp,bl,bc,bq,bk,bd,rfl,qbc,g2⟩;have K2:Kp W w2:=Kp.trans K1 g2;replace qac:=hQ _ _ _ _ _ _ _ _ _ _ _ g2 qac;obtain ⟨k2P0,k2P1,k2P2,k2P3,-,-,-,-⟩:=H4c.keep hP K2;obtain ⟨k2Y0,k2Y1,k2Y2,k2Y3,-,-,-,-⟩:=H4c.keep hY K2;obtain ⟨k2Z0,k2Z1,k2Z2,k2Z3,-,-,-,-⟩:=H4c.keep hZ K2;obtain ⟨k2X0,k2X1,k2X2,k2X3,-,-,-,-⟩:=H4c.keep hX K2) | (go_at_call_of 54 (Value.agg #[.int .i64 ai,.bool an,.slice ap al ac,.slice aq ak ad]);refine (hL 54 _ _ _ _ _ _ _ _ _ _ _ _ _ _ _ _ _ _ _ _ f2 qac qbc).mono ?_;rintro e w3 ⟨Gi,Gn,Gp,Gl,Gc,Gq,Gk,Gd,rfl,qGc,g3⟩;have K3:Kp W w3:=Kp.trans K2 g3;replace qac:=hQ _ _ _ _ _ _ _ _ _ _ _ g3 qac;replace qbc:=hQ _ _ _ _ _ _ _ _ _ _ _ g3 qbc;obtain ⟨k3P0,k3P1,k3P2,k3P3,-,-,-,-⟩:=H4c.keep hP K3;obtain ⟨k3Y0,k3Y1,k3Y2,k3Y3,-,-,-,-⟩:=H4c.keep hY K3;obtain ⟨k3Z0,k3Z1,k3Z2,k3Z3,-,-,-,-⟩:=H4c.keep hZ K3;obtain ⟨k3X0,k3X1,k3X2,k3X3,-,-,-,-⟩:=H4c.keep hX K3) | (go_at_call_of 55 (Value.agg #[.int .i64 Pi,.bool Pn,.slice Pp Pl Pc,.slice Pq Pk Pd]);refine (hL 55 _ _ _ _ _ _ _ _ _ _ _ _ _ _ _ _ _ _ _ _ f3 (hQ _ _ _ _ _ _ _ _ _ _ _ K3 qP) (hQ _ _ _ _ _ _ _ _ _ _ _ K3 qY)).mono ?_;rintro e w4 ⟨di,dn,dp,dl,dc,dq,dk,dd,rfl,qdc,g4⟩;have K4:Kp W w4:=Kp.trans K3 g4;replace qac:=hQ _ _ _ _ _ _ _ _ _ _ _ g4 qac;replace qbc:=hQ _ _ _ _ _ _ _ _ _ _ _ g4 qbc;replace qGc:=hQ _ _ _ _ _ _ _ _ _ _ _ g4 qGc;obtain ⟨k4P0,k4P1,k4P2,k4P3,-,-,-,-⟩:=H4c.keep hP K4;obtain ⟨k4Y0,k4Y1,k4Y2,k4Y3,-,-,-,-⟩:=H4c.keep hY K4;obtain ⟨k4Z0,k4Z1,k4Z2,k4Z3,-,-,-,-⟩:=H4c.keep hZ K4;obtain ⟨k4X0,k4X1,k4X2,k4X3,-,-,-,-⟩:=H4c.keep hX K4) | (go_at_call_of 55 (Value.agg #[.int .i64 Zi,.bool Zn,.slice Zp Zl Zc,.slice Zq Zk Zd]);refine (hL 55 _ _ _ _ _ _ _ _ _ _ _ _ _ _ _ _ _ _ _ _ f4 (hQ _ _ _ _ _ _ _ _ _ _ _ K4 qZ) (hQ _ _ _ _ _ _ _ _ _ _ _ K4 qX)).mono ?_;rintro e w5 ⟨ei,en,ep,el,ec,eq,ek,ed,rfl,qec,g5⟩;have K5:Kp W w5:=Kp.trans K4 g5;replace qac:=hQ _ _ _ _ _ _ _ _ _ _ _ g5 qac;replace qbc:=hQ _ _ _ _ _ _ _ _ _ _ _ g5 qbc;replace qGc:=hQ _ _ _ _ _ _ _ _ _ _ _ g5 qGc;replace qdc:=hQ _ _ _ _ _ _ _ _ _ _ _ g5 qdc;obtain ⟨k5P0,k5P1,k5P2,k5P3,-,-,-,-⟩:=H4c.keep hP K5;obtain ⟨k5Y0,k5Y1,k5Y2,k5Y3,-,-,-,-⟩:=H4c.keep hY K5;obtain ⟨k5Z0,k5Z1,k5Z2,k5Z3,-,-,-,-⟩:=H4c.keep hZ K5;obtain ⟨k5X0,k5X1,k5X2,k5X3,-,-,-,-⟩:=H4c.keep hX K5) | (go_at_call_of 55 (Value.agg #[.int .i64 di,.bool dn,.slice dp dl dc,.slice dq dk dd]);refine (hL 55 _ _ _ _ _ _ _ _ _ _ _ _ _ _ _ _ _ _ _ _ f5 qdc qec).mono ?_;rintro e w6 ⟨Oi,On,Op,Ol,Oc,Oq,Ok,Od,rfl,qOc,g6⟩;have K6:Kp W w6:=Kp.trans K5 g6;replace qac:=hQ _ _ _ _ _ _ _ _ _ _ _ g6 qac;replace qbc:=hQ _ _ _ _ _ _ _ _ _ _ _ g6 qbc;replace qGc:=hQ _ _ _ _ _ _ _ _ _ _ _ g6 qGc;replace qdc:=hQ _ _ _ _ _ _ _ _ _ _ _ g6 qdc;replace qec:=hQ _ _ _ _ _ _ _ _ _ _ _ g6 qec;obtain ⟨k6P0,k6P1,k6P2,k6P3,-,-,-,-⟩:=H4c.keep hP K6;obtain ⟨k6Y0,k6Y1,k6Y2,k6Y3,-,-,-,-⟩:=H4c.keep hY K6;obtain ⟨k6Z0,k6Z1,k6Z2,k6Z3,-,-,-,-⟩:=H4c.keep hZ K6;obtain ⟨k6X0,k6X1,k6X2,k6X3,-,-,-,-⟩:=H4c.keep hX K6;have RE:=H9c.keep RR K6;obtain ⟨r0,r1,r2,r3,r4,r5,r6,r7,r8,rz0,rz1,rz2,rz3,rz4,rz5,rz6,rz7,rz8⟩:=id RE))
 go_wp2
 exact bodyPost_ret (v:=.agg #[.bool false,.int .i64 Gi,.bool Gn,.slice Gp Gl Gc,.slice Gq Gk Gd,.int .i64 Oi,.bool On,.slice Op Ol Oc,.slice Oq Ok Od]) (by simp [results,Tryz.results31,go_sem,r0,r1,r2,r3,r4,r5,r6,r7,r8]) rfl ⟨Gi,Gn,Gp,Gl,Gc,Gq,Gk,Gd,Oi,On,Op,Ol,Oc,Oq,Ok,Od,rfl,(hS _ _ _ _ _ _ _ _ _ _ _ _ (hS _ _ _ _ _ _ _ _ _ _ _ _ (hS _ _ _ _ _ _ _ _ _ _ _ _ (hS _ _ _ _ _ _ _ _ _ _ _ _ (hS _ _ _ _ _ _ _ _ _ _ _ _ (hS _ _ _ _ _ _ _ _ _ _ _ _ (hS _ _ _ _ _ _ _ _ _ _ _ _ (hS _ _ _ _ _ _ _ _ _ _ _ _ (hS _ _ _ _ _ _ _ _ _ _ _ _ qGc))))))))),(hS _ _ _ _ _ _ _ _ _ _ _ _ (hS _ _ _ _ _ _ _ _ _ _ _ _ (hS _ _ _ _ _ _ _ _ _ _ _ _ (hS _ _ _ _ _ _ _ _ _ _ _ _ (hS _ _ _ _ _ _ _ _ _ _ _ _ (hS _ _ _ _ _ _ _ _ _ _ _ _ (hS _ _ _ _ _ _ _ _ _ _ _ _ (hS _ _ _ _ _ _ _ _ _ _ _ _ (hS _ _ _ _ _ _ _ _ _ _ _ _ qOc))))))))),((((((((((Kp.trans kW K6).setCell (by simp <;> omega) _).setCell (by simp <;> omega) _).setCell (by simp <;> omega) _).setCell (by simp <;> omega) _).setCell (by simp <;> omega) _).setCell (by simp <;> omega) _).setCell (by simp <;> omega) _).setCell (by simp <;> omega) _).setCell (by simp <;> omega) _)⟩
end Go.Proofs.YtngglmnhjjlgkaaGreatDoor
