import Derived.Test.YtinohggonicjhaaGreatDoorKEGn
import Derived.Test.YtinohggonicjhaaGreatDoorKFIc
import Derived.Test.YtinohggonicjhaaGreatDoorKFId
import Derived.Test.YtinohggonicjhaaGreatDoorKFIe
import Derived.Test.YtinohggonicjhaaGreatDoorKFIh
import Derived.Test.YtinohggonicjhaaGreatDoorKFIr
set_option maxHeartbeats 4000000
set_option maxRecDepth 20000
namespace Go.Proofs.YtinohggonicjhaaGreatDoor
open Go.RowKit
set_option linter.unusedVariables false

theorem invZ_ (K:Nat) (hK:K = 1074) (m:Nat) (h0:m≠0) s p l c q k d (B1:Nat) (w:World) (h:RP B1 w s p l c q k d (fN false m) (fM m)):Calls Tryz.prog 67 #[.agg #[.int .i64 (infS false m),.bool s,.slice p l c,.slice q k d]] w fun e w'=>∃ s3 p3 l3 c3 q3 k3 d3,e = .returned (.agg #[.int .i64 0,.bool s3,.slice p3 l3 c3,.slice q3 k3 d3])∧XP w.heap.size w' s3 p3 l3 c3 q3 k3 d3 (Iv false (jM m)) (jC m) 8000∧Kp w w':=by
  unfold jM jC
  by_cases c0:m = 9218868437227405312
  · subst c0
    rw [if_pos rfl,if_pos rfl]
    refine (invI_ 1 s p l c q k d (by decide) w).mono ?_
    rintro e w' ⟨s3,p3,l3,c3,q3,k3,d3,rfl,hp,g⟩
    exact ⟨s3,p3,l3,c3,q3,k3,d3,rfl,hp.as _ 1 8000 (by decide) (by rw [iv_z9]) (by decide),g⟩
  · rw [if_neg c0,if_neg c0]
    have hi:infS false m = 0:=by unfold infS;rw [if_neg c0]
    have hx:=h.xp K hK
    unfold fN fM at hx
    rw [if_neg c0,if_neg c0] at hx
    rw [hi]
    have hU:Fq.vV Ieee.double m≠0:=fun e=>h0 ((vV_zero m).1 e)
    refine (invF_ (Iv false 4607182418800017408) (Fq.vV Ieee.double m) 8000 s p l c q k d w (fun W s4 p4 l4 c4 q4 k4 d4 g h4=>?_))
    refine (xquo_ 1 (Fq.vV Ieee.double m) false hU 1 (2 ^ K) 1500 1500 (by decide) s4 p4 l4 c4 q4 k4 d4 s p l c q k d 0 B1 W h4 (hx.kp g)).mono ?_
    rintro e w' ⟨s3,p3,l3,c3,q3,k3,d3,rfl,hp,g2⟩
    refine ⟨s3,p3,l3,c3,q3,k3,d3,rfl,hp.as _ _ 8000 hU ?_ (by decide),g2⟩
    have e1:Iv false 4607182418800017408 = ((2 ^ K:Nat):Int):=by rw [← vone K hK];rfl
    rw [e1,show rvI false 1 = 1 from rfl,Nat.one_mul,Int.one_mul,Int.one_mul]
theorem plz_pos (n:Bool) (m:Nat) (h:0 < Fq.plz n m):n = false∧m≠0:=by
  unfold Fq.plz at h
  cases n <;> simp at h ⊢ <;> omega
theorem upS_ (n g:Bool) (m r:Nat) (hH:0 < Fq.plz g r) (hL:Fq.plz n m < 9218868437227405312) (hm:m≤9218868437227405312) (W:World) (v:Value) (h:SV1 n m g r W v):Calls Tryz.prog 44 #[v] W fun e w'=>∃ v',e = .returned v'∧SV1 (if Fq.plz n m < 0 then false else n) (if Fq.plz n m < 0 then 0 else m) g r w' v'∧Kp W w':=by
  obtain ⟨s,p,l,c,q,k,d,s2,p2,l2,c2,q2,k2,d2,rfl,a1,a2⟩:=h
  have hS:=fun (W':World) (y:Kp W W')=>signE_ g r s2 p2 l2 c2 q2 k2 d2 0 W' (a2.kp y)
  have tS:¬ (cmI (Fq.plz g r) 0≤0):=by rw [cmI_le0];omega
  by_cases cz:Fq.plz n m < 0
  · rw [if_pos cz,if_pos cz]
    refine (upB_ (infS n m) (infS g r) (cmI (Fq.plz g r) 0) s p l c q k d s2 p2 l2 c2 q2 k2 d2 tS W hS (fun W' s3 p3 l3 c3 q3 k3 d3 y hz=>?_)).mono ?_
    · obtain ⟨B3,hz⟩:=hz
      refine greaterB_ (infS n m) 0 1 s p l c q k d s3 p3 l3 c3 q3 k3 d3 (by decide) W' (fun W2 y2=>?_)
      by_cases ci:m = 9218868437227405312
      · have nt:n = true:=by
          unfold Fq.plz at cz
          cases n
          · simp at cz;omega
          · rfl
        rw [show infS n m = -1 from by unfold infS;rw [if_pos ci,nt];rfl]
        exact endG_ 0 (-1) s3 p3 l3 c3 q3 k3 d3 s p l c q k d (by decide) (by decide) W2
      · rw [show infS n m = 0 from by unfold infS;rw [if_neg ci]]
        have a9:=a1
        unfold fN fM at a9
        rw [if_neg ci,if_neg ci] at a9
        have hc:=xcmp_ B3 0 0 (Iv n m) 1 (2 ^ 1074) 1500 1500 (by decide) (by decide) s3 p3 l3 c3 q3 k3 d3 s p l c q k d W2
        refine endZ_ 1 s3 p3 l3 c3 q3 k3 d3 s p l c q k d W2 (fun W3 y3=>?_)
        have hc:=xcmp_ B3 0 0 (Iv n m) 1 (2 ^ 1074) 1500 1500 (by decide) (by decide) s3 p3 l3 c3 q3 k3 d3 s p l c q k d W3 ((hz.kp (y2.trans y3)).x0) ((a9.kp (y.trans (y2.trans y3))).xp 1074 rfl)
        have hv:Iv n m < 0:=by
          have:=(iv_lt8 n false m 0).2 (by rw [show Fq.plz false 0 = 0 from rfl];exact cz)
          rw [iv_ff] at this
          exact this
        rw [Int.zero_mul,show (Iv n m * ((1:Nat):Int)) = Iv n m from by omega,cmI_gt 0 (Iv n m) hv] at hc
        exact hc
    · rintro e w' ⟨s3,p3,l3,c3,q3,k3,d3,rfl,hp,g⟩
      exact ⟨_,rfl,⟨s3,p3,l3,c3,q3,k3,d3,s2,p2,l2,c2,q2,k2,d2,rfl,hp.mono (Nat.zero_le _),a2.kp g⟩,g⟩
  · rw [if_neg cz,if_neg cz]
    have ci:m≠9218868437227405312:=fun e=>by
      unfold Fq.plz at cz hL
      cases n <;> simp at cz hL <;> omega
    refine (upA_ (infS n m) (infS g r) (cmI (Fq.plz g r) 0) s p l c q k d s2 p2 l2 c2 q2 k2 d2 tS W hS (fun W' s3 p3 l3 c3 q3 k3 d3 y hz=>?_)).mono ?_
    · obtain ⟨B3,hz⟩:=hz
      have hv:0≤Iv n m:=by
        rcases Int.lt_or_le (Iv n m) 0 with x | x
        · exfalso
          have q:=cmI_iv n false m 0
          rw [iv_ff,show Fq.plz false 0 = 0 from rfl,cmI_lt _ _ x] at q
          unfold cmI at q
          rw [if_neg cz] at q
          split at q <;> omega
        · exact x
      refine greaterA_ (infS n m) 0 (cmI 0 (Iv n m)) s p l c q k d s3 p3 l3 c3 q3 k3 d3 (by have:=(cmI_le0 0 (Iv n m)).2 hv;omega) W' (fun W2 y2=>?_)
      rw [show infS n m = 0 from by unfold infS;rw [if_neg ci]]
      have a9:=a1
      unfold fN fM at a9
      rw [if_neg ci,if_neg ci] at a9
      refine endZ_ _ s3 p3 l3 c3 q3 k3 d3 s p l c q k d W2 (fun W3 y3=>?_)
      have hc:=xcmp_ B3 0 0 (Iv n m) 1 (2 ^ 1074) 1500 1500 (by decide) (by decide) s3 p3 l3 c3 q3 k3 d3 s p l c q k d W3 ((hz.kp (y2.trans y3)).x0) ((a9.kp (y.trans (y2.trans y3))).xp 1074 rfl)
      rw [Int.zero_mul,show (Iv n m * ((1:Nat):Int)) = Iv n m from by omega] at hc
      exact hc
    · rintro e w' ⟨rfl,g⟩
      exact ⟨_,rfl,⟨s,p,l,c,q,k,d,s2,p2,l2,c2,q2,k2,d2,rfl,a1.kp g,a2.kp g⟩,g⟩
theorem upZ_ (n g:Bool) (m r:Nat) (hH:Fq.plz g r≤0) (W:World) (v:Value) (h:SV1 n m g r W v):Calls Tryz.prog 44 #[v] W fun e w'=>∃ v',e = .returned v'∧SV0 true v'∧Kp W w':=by
  obtain ⟨s,p,l,c,q,k,d,s2,p2,l2,c2,q2,k2,d2,rfl,a1,a2⟩:=h
  exact upN_ (infS n m) (infS g r) (cmI (Fq.plz g r) 0) s p l c q k d s2 p2 l2 c2 q2 k2 d2 ((cmI_le0 _ _).2 hH) W (fun (W':World) (y:Kp W W')=>signE_ g r s2 p2 l2 c2 q2 k2 d2 0 W' (a2.kp y))
theorem upX_ (W:World) (v:Value) (h:SV0 true v):Calls Tryz.prog 44 #[v] W fun e w'=>∃ v',e = .returned v'∧SV0 true v'∧Kp W w':=by
  obtain ⟨i,j,s,p,l,c,q,k,d,s2,p2,l2,c2,q2,k2,d2,rfl⟩:=h
  exact upE_ i j s p l c q k d s2 p2 l2 c2 q2 k2 d2 W
theorem ovX_ (W:World) (v:Value) (h:SV0 true v):Calls Tryz.prog 43 #[v] W fun e w'=>∃ v',e = .returned v'∧SV0 true v'∧Kp W w':=by
  obtain ⟨i,j,s,p,l,c,q,k,d,s2,p2,l2,c2,q2,k2,d2,rfl⟩:=h
  refine (ovE_ i j s p l c q k d s2 p2 l2 c2 q2 k2 d2 W).mono ?_
  rintro e w' ⟨rfl,g⟩
  exact ⟨_,rfl,⟨i,j,s,p,l,c,q,k,d,s2,p2,l2,c2,q2,k2,d2,rfl⟩,g⟩
def OV (b m r:Nat) (W:World) (v:Value):Prop:=∃ (s:Bool) (p:Option Addr) (l c:Nat) (q:Option Addr) (k d:Nat) (s2:Bool) (p2:Option Addr) (l2 c2:Nat) (q2:Option Addr) (k2 d2:Nat),v = .agg #[.bool false,.int .i64 0,.bool s,.slice p l c,.slice q k d,.int .i64 (if m = 0 then 1 else 0),.bool s2,.slice p2 l2 c2,.slice q2 k2 d2]∧XP b W s p l c q k d (Iv false (jM r)) (jC r) 8000∧XP b W s2 p2 l2 c2 q2 k2 d2 (if m = 0 then 0 else Iv false (jM m)) (if m = 0 then 1 else jC m) 8000
theorem OV.kp {b m r:Nat} {W W':World} {v:Value} (h:OV b m r W v) (g:Kp W W'):OV b m r W' v:=by
  obtain ⟨s,p,l,c,q,k,d,s2,p2,l2,c2,q2,k2,d2,rfl,a1,a2⟩:=h
  exact ⟨s,p,l,c,q,k,d,s2,p2,l2,c2,q2,k2,d2,rfl,a1.kp g,a2.kp g⟩
theorem ovS_ (K:Nat) (hK:K = 1074) (n g:Bool) (m r b:Nat) (hH:0 < Fq.plz g r) (hL:0≤Fq.plz n m) (hi:m≠9218868437227405312) (W:World) (v:Value) (hb:b≤W.heap.size) (h:SV1 n m g r W v):Calls Tryz.prog 43 #[v] W fun e w'=>∃ v',e = .returned v'∧OV b m r w' v'∧Kp W w':=by
  obtain ⟨s,p,l,c,q,k,d,s2,p2,l2,c2,q2,k2,d2,rfl,a1,a2⟩:=h
  obtain ⟨rfl,hr0⟩:=plz_pos g r hH
  have hS:=fun (W':World) (y:Kp W W')=>signE_ n m s p l c q k d 0 W' (a1.kp y)
  have hB:=fun (W':World) (y:Kp W W')=>invZ_ K hK r hr0 s2 p2 l2 c2 q2 k2 d2 0 W' (a2.kp y)
  by_cases cz:0 < Fq.plz n m
  · obtain ⟨rfl,hm0⟩:=plz_pos n m cz
    have hA:=fun (W':World) (y:Kp W W')=>invZ_ K hK m hm0 s p l c q k d 0 W' (a1.kp y)
    refine (ovT_ (infS false m) (infS false r) (cmI (Fq.plz false m) 0) _ _ _ _ _ _ s p l c q k d s2 p2 l2 c2 q2 k2 d2 (by rw [cmI_gt _ _ cz];decide) W hS hB hA).mono ?_
    rintro e w' ⟨s3,p3,l3,c3,q3,k3,d3,s4,p4,l4,c4,q4,k4,d4,rfl,x1,x2,g⟩
    refine ⟨_,rfl,⟨s3,p3,l3,c3,q3,k3,d3,s4,p4,l4,c4,q4,k4,d4, ?_,x1.mono hb, ?_⟩,g⟩
    · rw [if_neg hm0]
    · rw [if_neg hm0,if_neg hm0];exact x2.mono hb
  · have hm0:m = 0:=by
      unfold Fq.plz at cz hL
      cases n <;> simp at cz hL <;> omega
    refine (ovF_ (infS n m) (infS false r) (cmI (Fq.plz n m) 0) _ _ _ s p l c q k d s2 p2 l2 c2 q2 k2 d2 (by rw [show Fq.plz n m = 0 from by omega,cmI_eq];decide) W hS hB).mono ?_
    rintro e w' ⟨s3,p3,l3,c3,q3,k3,d3,s4,p4,l4,c4,q4,k4,d4,rfl,x1,x2,g⟩
    refine ⟨_,rfl,⟨s3,p3,l3,c3,q3,k3,d3,s4,p4,l4,c4,q4,k4,d4, ?_,x1.mono hb, ?_⟩,g⟩
    · rw [if_pos hm0]
    · rw [if_pos hm0,if_pos hm0];exact (x2.mono hb).as 0 1 8000 (by decide) rfl (by decide)
def NV (b m r:Nat) (W:World) (v:Value):Prop:=∃ (s:Bool) (p:Option Addr) (l c:Nat) (q:Option Addr) (k d:Nat) (s2:Bool) (p2:Option Addr) (l2 c2:Nat) (q2:Option Addr) (k2 d2:Nat),v = .agg #[.bool false,.int .i64 (if m = 0 then -1 else 0),.bool s,.slice p l c,.slice q k d,.int .i64 0,.bool s2,.slice p2 l2 c2,.slice q2 k2 d2]∧XP b W s p l c q k d (if m = 0 then 0 else Iv true (jM m)) (if m = 0 then 1 else jC m) 8000∧XP b W s2 p2 l2 c2 q2 k2 d2 (Iv true (jM r)) (jC r) 8000
theorem minusO_ (m r b:Nat) (W:World) (v:Value) (hb:b≤W.heap.size) (h:OV b m r W v):Calls Tryz.prog 45 #[v] W fun e w'=>∃ v',e = .returned v'∧NV b m r w' v'∧Kp W w':=by
  obtain ⟨s,p,l,c,q,k,d,s2,p2,l2,c2,q2,k2,d2,rfl,a1,a2⟩:=h
  have h1:=fun (W':World) (y:Kp W W')=>turnXZ_ (-(Iv false (jM r))) (jC r) 8000 s p l c q k d W' (fun W2 y2=>xneg_ _ _ _ (by decide) s p l c q k d b W2 (a1.kp (y.trans y2)))
  have e1:-(Iv false (jM r)) = Iv true (jM r):=(iv_nt false (jM r)).symm
  rw [e1] at h1
  by_cases cz:m = 0
  · rw [if_pos cz] at a2 ⊢
    rw [if_pos cz] at a2
    have h2:=fun (W':World) (y:Kp W W')=>turnXP_ (-0) 1 8000 s2 p2 l2 c2 q2 k2 d2 W' (fun W2 y2=>xneg_ _ _ _ (by decide) s2 p2 l2 c2 q2 k2 d2 b W2 (a2.kp (y.trans y2)))
    refine (minusNX_ 0 1 0 (-1) _ _ _ _ _ _ s p l c q k d s2 p2 l2 c2 q2 k2 d2 W h1 h2).mono ?_
    rintro e w' ⟨s5,p5,l5,c5,q5,k5,d5,s6,p6,l6,c6,q6,k6,d6,rfl,x1,x2,g⟩
    refine ⟨_,rfl,⟨s5,p5,l5,c5,q5,k5,d5,s6,p6,l6,c6,q6,k6,d6, ?_, ?_,x2.mono hb⟩,g⟩
    · rw [if_pos cz]
    · rw [if_pos cz,if_pos cz];exact x1.mono hb
  · rw [if_neg cz] at a2 ⊢
    rw [if_neg cz] at a2
    have h2:=fun (W':World) (y:Kp W W')=>turnXZ_ (-(Iv false (jM m))) (jC m) 8000 s2 p2 l2 c2 q2 k2 d2 W' (fun W2 y2=>xneg_ _ _ _ (by decide) s2 p2 l2 c2 q2 k2 d2 b W2 (a2.kp (y.trans y2)))
    rw [show -(Iv false (jM m)) = Iv true (jM m) from (iv_nt false (jM m)).symm] at h2
    refine (minusNX_ 0 0 0 0 _ _ _ _ _ _ s p l c q k d s2 p2 l2 c2 q2 k2 d2 W h1 h2).mono ?_
    rintro e w' ⟨s5,p5,l5,c5,q5,k5,d5,s6,p6,l6,c6,q6,k6,d6,rfl,x1,x2,g⟩
    refine ⟨_,rfl,⟨s5,p5,l5,c5,q5,k5,d5,s6,p6,l6,c6,q6,k6,d6, ?_, ?_,x2.mono hb⟩,g⟩
    · rw [if_neg cz]
    · rw [if_neg cz,if_neg cz];exact x1.mono hb
def QS (b:Nat) (i j:Int) (ZA ZB:Int→Nat) (W:World) (v:Value):Prop:=∃ (s:Bool) (p:Option Addr) (l c:Nat) (q:Option Addr) (k d:Nat) (s2:Bool) (p2:Option Addr) (l2 c2:Nat) (q2:Option Addr) (k2 d2:Nat),v = .agg #[.bool false,.int .i64 i,.bool s,.slice p l c,.slice q k d,.int .i64 j,.bool s2,.slice p2 l2 c2,.slice q2 k2 d2]∧(i = 0→QP b W s p l c q k d ZA)∧(j = 0→QP b W s2 p2 l2 c2 q2 k2 d2 ZB)
theorem QS.set {b:Nat} {i j:Int} {ZA ZB:Int→Nat} {W:World} {v:Value} (h:QS b i j ZA ZB W v) {x:Addr} (hx:x.block < b) (u:Value):QS b i j ZA ZB (W.setCell x u) v:=by
  obtain ⟨s,p,l,c,q,k,d,s2,p2,l2,c2,q2,k2,d2,rfl,a1,a2⟩:=h
  exact ⟨s,p,l,c,q,k,d,s2,p2,l2,c2,q2,k2,d2,rfl,fun y=>(a1 y).set hx u,fun y=>(a2 y).set hx u⟩
theorem QS.kp {b:Nat} {i j:Int} {ZA ZB:Int→Nat} {W W':World} {v:Value} (h:QS b i j ZA ZB W v) (g:Kp W W'):QS b i j ZA ZB W' v:=by
  obtain ⟨s,p,l,c,q,k,d,s2,p2,l2,c2,q2,k2,d2,rfl,a1,a2⟩:=h
  exact ⟨s,p,l,c,q,k,d,s2,p2,l2,c2,q2,k2,d2,rfl,fun y=>(a1 y).kp g,fun y=>(a2 y).kp g⟩
set_option linter.unusedVariables false

def EB (K base:Nat) (B:Int × Int) (W:World) (ai:Int) (an:Bool) (ap:Option Addr) (al ac:Nat) (aq:Option Addr) (ak ad:Nat):Prop:=ai = B.1∧(B.1 = 0→XP base W an ap al ac aq ak ad B.2 (2 ^ K * 2 ^ K) 7000)
theorem EB.kp {K base:Nat} {B:Int × Int} {W W':World} {ai:Int} {an:Bool} {ap:Option Addr} {al ac:Nat} {aq:Option Addr} {ak ad:Nat} (h:EB K base B W ai an ap al ac aq ak ad) (g:Kp W W'):EB K base B W' ai an ap al ac aq ak ad:=⟨h.1,fun z=>(h.2 z).kp g⟩
def tb (p0 p1 p2 p3:Int × Int):Nat→Int × Int
  | 0=>p0 | 1=>p1 | 2=>p2 | 3=>p3 | 4=>lB p0 p1 | 5=>lB p2 p3 | 6=>lB (lB p0 p1) (lB p2 p3) | 7=>gB p0 p1 | 8=>gB p2 p3 | _=>gB (gB p0 p1) (gB p2 p3)
set_option linter.unusedVariables false

def H8 (w:World) (B:Nat) (a b c d e f g h:Value):Prop:=H6 w B a b c d e f∧Fq.H2 w (B + 3) g h
theorem H8.keep {W w:World} {B:Nat} {a b c d e f g h:Value} (x:H8 W B a b c d e f g h) (y:Kp W w):H8 w B a b c d e f g h:=⟨H6.keep x.1 y,Fq.H2.keep x.2 y⟩
theorem H8.new (w:World) (a b c d e f g h:Value) (s t u v:TypeId):H8 ((((w.alloc (.cells #[a,b] s)).alloc (.cells #[c,d] t)).alloc (.cells #[e,f] u)).alloc (.cells #[g,h] v)) w.heap.size a b c d e f g h:=by
  refine ⟨⟨?_, ?_, ?_⟩, ?_⟩ <;> (unfold Fq.H2;simp [go_sem])
theorem H8.put {w:World} {B:Nat} {a b c d e f g h:Value} (x:H8 w B a b c d e f g h) (a' b' c' d' e' f':Value):H8 ((((((w.setCell ⟨B,0,none⟩ a').setCell ⟨B,1,none⟩ b').setCell ⟨B + 1,0,none⟩ c').setCell ⟨B + 1,1,none⟩ d').setCell ⟨B + 2,0,none⟩ e').setCell ⟨B + 2,1,none⟩ f') B a' b' c' d' e' f' g h:=by
  refine ⟨⟨?_, ?_, ?_⟩, ?_⟩
  · exact Fq.H2.far (Fq.H2.far (Fq.H2.put x.1.1 a' b') (by omega) c' d') (by omega) e' f'
  · exact Fq.H2.far (Fq.H2.put (Fq.H2.far x.1.2.1 (by omega) a' b') c' d') (by omega) e' f'
  · exact Fq.H2.put (Fq.H2.far (Fq.H2.far x.1.2.2 (by omega) a' b') (by omega) c' d') e' f'
  · exact Fq.H2.far (Fq.H2.far (Fq.H2.far x.2 (by omega) a' b') (by omega) c' d') (by omega) e' f'
set_option linter.unusedVariables false
def SVt (K:Nat) (L H:Int × Int) (W:World) (v:Value):Prop:=∃ (i j:Int) (s:Bool) (p:Option Addr) (l c:Nat) (q:Option Addr) (k d:Nat) (s2:Bool) (p2:Option Addr) (l2 c2:Nat) (q2:Option Addr) (k2 d2:Nat),v = .agg #[.bool false,.int .i64 i,.bool s,.slice p l c,.slice q k d,.int .i64 j,.bool s2,.slice p2 l2 c2,.slice q2 k2 d2]∧EB K 0 L W i s p l c q k d∧EB K 0 H W j s2 p2 l2 c2 q2 k2 d2
theorem rd_snd (a b:Nat) (L H:Int) (h:Rd a b L H) (hs:Fq.snd a b = true):L≠9218868437227405312:=by
  intro e
  have h2:a≠9218868437227405312:=by intro h;rw [h] at hs;simp [Fq.snd] at hs
  have h1:Fq.rlo a b≠9218868437227405312:=by simp only [Fq.rlo,hs,if_true,Fq.pla];split <;> omega
  exact h1 (by rw [h.2.2.2.1,e,pw_I])
theorem rd_void (a b:Nat) (ha:a < 18446744073709551616) (hb:b < 18446744073709551616) (hs:Fq.snd a b = false):Rd a b 9218868437227405312 (-9218868437227405312) :=
  ⟨ha,hb,Or.inl ⟨rfl,rfl⟩,by rw [pw_I];simp [Fq.rlo,hs],by rw [pw_MI];simp [Fq.rhi,hs]⟩
theorem natAbs_bd (z:Int) (h:BdZ z):z.natAbs≤9218868437227405312:=by unfold BdZ at h;omega

theorem SVt.kp {K:Nat} {L H:Int × Int} {W W':World} {v:Value} (h:SVt K L H W v) (g:Kp W W'):SVt K L H W' v:=by
  obtain ⟨i,j,s,p,l,c,q,k,d,s2,p2,l2,c2,q2,k2,d2,rfl,a1,a2⟩:=h
  exact ⟨i,j,s,p,l,c,q,k,d,s2,p2,l2,c2,q2,k2,d2,rfl,a1.kp g,a2.kp g⟩
set_option linter.unusedVariables false
theorem rrec7c_ (X Y LO HI:Int) (P1 P2:World→Value→Prop) (w:World) (hO:∀ W:World,Kp w W→Calls Tryz.prog 25 #[.agg #[.int .u64 X,.int .u64 Y]] W fun e w'=>∃ v,e = .returned v∧P1 w' v∧Kp W w') (hMi:∀ (W:World) (v:Value),Kp w W→P1 W v→Calls Tryz.prog 26 #[v] W fun e w'=>∃ v',e = .returned v'∧P2 w' v'∧Kp W w') (hLe:∀ (W:World) (v:Value),Kp w W→P2 W v→Calls Tryz.prog 23 #[v] W fun e w'=>e = .returned (.agg #[.int .u64 LO,.int .u64 HI])∧Kp W w'):Calls Tryz.prog 11 #[.agg #[.int .u64 X,.int .u64 Y]] w fun e w'=>e = .returned (.agg #[.int .u64 LO,.int .u64 HI])∧Kp w w':=by
  go_enter Tryz.func11,Tryz.ntmps11
  go_wp2_with (first | (go_at_call 25;refine (hO _ ?q0).mono ?_;(case q0=>exact ((Kp.refl w).alloc _).alloc _);rintro e w1 ⟨v1,rfl,hv1,g1⟩;have k1:Kp w w1:=Kp.trans (((Kp.refl w).alloc _).alloc _) g1;have r0:=kkeep g1 (b:=w.heap.size + 1) (o:=0) (v:=.int .u64 0) (by simp [go_sem]);have rz0:w1.frozen? ⟨w.heap.size + 1,0,none⟩ = false:=(kfro g1 (by simp <;> omega)).trans (by simp [go_sem]);have r1:=kkeep g1 (b:=w.heap.size + 1) (o:=1) (v:=.int .u64 0) (by simp [go_sem]);have rz1:w1.frozen? ⟨w.heap.size + 1,1,none⟩ = false:=(kfro g1 (by simp <;> omega)).trans (by simp [go_sem])) | (go_at_call 26;refine (hMi _ v1 k1 hv1).mono ?_;rintro e w2 ⟨v2,rfl,hv2,g2⟩;have k2:=Kp.trans k1 g2;have x0:=kkeep g2 r0;have xz0:w2.frozen? ⟨w.heap.size + 1,0,none⟩ = false:=(kfro g2 (cell_lt r0)).trans rz0;have x1:=kkeep g2 r1;have xz1:w2.frozen? ⟨w.heap.size + 1,1,none⟩ = false:=(kfro g2 (cell_lt r1)).trans rz1) | (go_at_call 23;refine (hLe _ v2 k2 hv2).mono ?_;rintro e w3 ⟨rfl,g3⟩;have k3:=Kp.trans k2 g3;have R0:=kkeep g3 x0;have Rz0:w3.frozen? ⟨w.heap.size + 1,0,none⟩ = false:=(kfro g3 (cell_lt x0)).trans xz0;have R1:=kkeep g3 x1;have Rz1:w3.frozen? ⟨w.heap.size + 1,1,none⟩ = false:=(kfro g3 (cell_lt x1)).trans xz1))
  exact bodyPost_ret (v:=.agg #[.int .u64 LO,.int .u64 HI]) (by simp [results,Tryz.results11,go_sem,R0,R1]) rfl ⟨rfl,((k3).setCell (by simp) _).setCell (by simp) _⟩

theorem QS.mono {b b':Nat} {i j:Int} {ZA ZB:Int→Nat} {W:World} {v:Value} (h:QS b i j ZA ZB W v) (g:b'≤b):QS b' i j ZA ZB W v:=by
  obtain ⟨s,p,l,c,q,k,d,s2,p2,l2,c2,q2,k2,d2,rfl,a1,a2⟩:=h
  exact ⟨s,p,l,c,q,k,d,s2,p2,l2,c2,q2,k2,d2,rfl,fun y=>(a1 y).mono g,fun y=>(a2 y).mono g⟩
theorem invX_ (W:World) (v:Value) (h:SV0 true v):Calls Tryz.prog 26 #[v] W fun e w'=>∃ v',e = .returned v'∧SV0 true v'∧Kp W w':=by
  obtain ⟨i,j,s,p,l,c,q,k,d,s2,p2,l2,c2,q2,k2,d2,rfl⟩:=h
  refine inv6c_ true i j s p l c q k d s2 p2 l2 c2 q2 k2 d2 (fun _ v=>SV0 true v) (fun _ v=>SV0 true v) (fun _ v=>SV0 true v) (fun _ v=>SV0 true v) (fun _ v=>SV0 true v) (fun _ v=>SV0 true v) (fun _ v=>SV0 true v) W (fun _ _ _ _ _ h=>h) (fun _ _ _ _ h=>h) (fun W' _ _=>upE_ i j s p l c q k d s2 p2 l2 c2 q2 k2 d2 W') (fun W' v _ _ h=>ovX_ W' v h) (fun W' _ _=>minusX_ W' _ ⟨i,j,s,p,l,c,q,k,d,s2,p2,l2,c2,q2,k2,d2,rfl⟩) (fun W' v _ _ h=>upX_ W' v h) (fun W' v _ _ h=>ovX_ W' v h) (fun W' v _ _ h=>minusX_ W' v h) ?_
  rintro W' u v _ _ ⟨i1,j1,s3,p3,l3,c3,q3,k3,d3,s4,p4,l4,c4,q4,k4,d4,rfl⟩ ⟨i2,j2,s5,p5,l5,c5,q5,k5,d5,s6,p6,l6,c6,q6,k6,d6,rfl⟩
  refine (hullE1_ i1 j1 i2 j2 s3 p3 l3 c3 q3 k3 d3 s4 p4 l4 c4 q4 k4 d4 s5 p5 l5 c5 q5 k5 d5 s6 p6 l6 c6 q6 k6 d6 true W').mono ?_
  rintro e w' ⟨rfl,g⟩
  exact ⟨true,i2,j2,s5,p5,l5,c5,q5,k5,d5,s6,p6,l6,c6,q6,k6,d6,rfl,⟨i2,j2,s5,p5,l5,c5,q5,k5,d5,s6,p6,l6,c6,q6,k6,d6,rfl⟩,g⟩
theorem plz_not (n:Bool) (m:Nat):Fq.plz (!n) m = -(Fq.plz n m):=by unfold Fq.plz;cases n <;> simp
theorem invO_ (n g:Bool) (m r:Nat) (h1:Fq.plz n m = 0) (h2:Fq.plz g r = 0) (W:World) (v:Value) (h:SV1 n m g r W v):Calls Tryz.prog 26 #[v] W fun e w'=>∃ v',e = .returned v'∧SV0 true v'∧Kp W w':=by
  have h9:=h
  obtain ⟨s,p,l,c,q,k,d,s2,p2,l2,c2,q2,k2,d2,rfl,a1,a2⟩:=h
  refine inv6c_ false _ _ s p l c q k d s2 p2 l2 c2 q2 k2 d2 (fun _ v=>SV0 true v) (fun _ v=>SV0 true v) (SV1 (!g) r (!n) m) (fun _ v=>SV0 true v) (fun _ v=>SV0 true v) (fun _ v=>SV0 true v) (fun _ v=>SV0 true v) W (fun _ _ _ _ _ h=>h) (fun _ _ _ _ h=>h) (fun W' y _=>upZ_ n g m r (by omega) W' _ (h9.kp y)) (fun W' v _ _ h=>ovX_ W' v h) (fun W' y _=>minusS_ n g m r W' _ (h9.kp y)) (fun W' v _ _ h=>upZ_ (!g) (!n) r m (by rw [plz_not];omega) W' v h) (fun W' v _ _ h=>ovX_ W' v h) (fun W' v _ _ h=>minusX_ W' v h) ?_
  rintro W' u v _ _ ⟨i1,j1,s3,p3,l3,c3,q3,k3,d3,s4,p4,l4,c4,q4,k4,d4,rfl⟩ ⟨i2,j2,s5,p5,l5,c5,q5,k5,d5,s6,p6,l6,c6,q6,k6,d6,rfl⟩
  refine (hullE1_ i1 j1 i2 j2 s3 p3 l3 c3 q3 k3 d3 s4 p4 l4 c4 q4 k4 d4 s5 p5 l5 c5 q5 k5 d5 s6 p6 l6 c6 q6 k6 d6 true W').mono ?_
  rintro e w' ⟨rfl,g⟩
  exact ⟨true,i2,j2,s5,p5,l5,c5,q5,k5,d5,s6,p6,l6,c6,q6,k6,d6,rfl,⟨i2,j2,s5,p5,l5,c5,q5,k5,d5,s6,p6,l6,c6,q6,k6,d6,rfl⟩,g⟩
theorem OV.qs (K:Nat) (hK:K = 1074) {b m r:Nat} {W:World} {v:Value} (h:OV b m r W v):QS b 0 (if m = 0 then 1 else 0) (fun dd=>pz (g53 dd (2 ^ K) (jC r) (Iv false (jM r)))) (fun dd=>pz (g53 dd (2 ^ K) (jC m) (Iv false (jM m)))) W v:=by
  obtain ⟨s,p,l,c,q,k,d,s2,p2,l2,c2,q2,k2,d2,rfl,a1,a2⟩:=h
  refine ⟨s,p,l,c,q,k,d,s2,p2,l2,c2,q2,k2,d2,rfl,fun _=>a1.qg hK (by decide),fun y=>?_⟩
  have hm:m≠0:=fun e=>by rw [if_pos e] at y;cases y
  rw [if_neg hm,if_neg hm] at a2
  exact a2.qg hK (by decide)
theorem NV.qs (K:Nat) (hK:K = 1074) {b m r:Nat} {W:World} {v:Value} (h:NV b m r W v):QS b (if m = 0 then -1 else 0) 0 (fun dd=>pz (g53 dd (2 ^ K) (jC m) (Iv true (jM m)))) (fun dd=>pz (g53 dd (2 ^ K) (jC r) (Iv true (jM r)))) W v:=by
  obtain ⟨s,p,l,c,q,k,d,s2,p2,l2,c2,q2,k2,d2,rfl,a1,a2⟩:=h
  refine ⟨s,p,l,c,q,k,d,s2,p2,l2,c2,q2,k2,d2,rfl,fun y=>?_,fun _=>a2.qg hK (by decide)⟩
  have hm:m≠0:=fun e=>by rw [if_pos e] at y;cases y
  rw [if_neg hm,if_neg hm] at a1
  exact a1.qg hK (by decide)
theorem invA_ (K:Nat) (hK:K = 1074) (n g:Bool) (m r:Nat) (h1:0≤Fq.plz n m) (hi:Fq.plz n m < 9218868437227405312) (hm:m≤9218868437227405312) (h2:0 < Fq.plz g r) (W:World) (v:Value) (h:SV1 n m g r W v):Calls Tryz.prog 26 #[v] W fun e w'=>∃ v',e = .returned v'∧QS (W.heap.size + 2) 0 (if m = 0 then 1 else 0) (fun dd=>pz (g53 dd (2 ^ K) (jC r) (Iv false (jM r)))) (fun dd=>pz (g53 dd (2 ^ K) (jC m) (Iv false (jM m)))) w' v'∧Kp W w':=by
  have h9:=h
  obtain ⟨s,p,l,c,q,k,d,s2,p2,l2,c2,q2,k2,d2,rfl,a1,a2⟩:=h
  have mi:m≠9218868437227405312:=fun e=>by
    unfold Fq.plz at h1 hi
    cases n <;> simp at h1 hi <;> omega
  refine inv6c_ false _ _ s p l c q k d s2 p2 l2 c2 q2 k2 d2 (SV1 n m g r) (OV (W.heap.size + 2) m r) (SV1 (!g) r (!n) m) (fun _ v=>SV0 true v) (fun _ v=>SV0 true v) (fun _ v=>SV0 true v) _ W (fun _ _ _ _ hx h=>h.set hx _) (fun _ _ _ y h=>h.kp y) (fun W' y _=>?_) (fun W' v _ hb h=>ovS_ K hK n g m r _ h2 h1 mi W' v hb h) (fun W' y _=>minusS_ n g m r W' _ (h9.kp y)) (fun W' v _ _ h=>upZ_ (!g) (!n) r m (by rw [plz_not];omega) W' v h) (fun W' v _ _ h=>ovX_ W' v h) (fun W' v _ _ h=>minusX_ W' v h) ?_
  · have q:=upS_ n g m r h2 hi hm W' _ (h9.kp y)
    rw [if_neg (show ¬ Fq.plz n m < 0 by omega),if_neg (show ¬ Fq.plz n m < 0 by omega)] at q
    exact q
  rintro W' u v _ _ hu ⟨i2,j2,s5,p5,l5,c5,q5,k5,d5,s6,p6,l6,c6,q6,k6,d6,rfl⟩
  have q:=hu.qs K hK
  obtain ⟨s3,p3,l3,c3,q3,k3,d3,s4,p4,l4,c4,q4,k4,d4,rfl,x1,x2⟩:=q
  refine (hullE2_ _ _ i2 j2 s3 p3 l3 c3 q3 k3 d3 s4 p4 l4 c4 q4 k4 d4 s5 p5 l5 c5 q5 k5 d5 s6 p6 l6 c6 q6 k6 d6 W').mono ?_
  rintro e w' ⟨rfl,g⟩
  exact ⟨false,_,_,s3,p3,l3,c3,q3,k3,d3,s4,p4,l4,c4,q4,k4,d4,rfl,⟨s3,p3,l3,c3,q3,k3,d3,s4,p4,l4,c4,q4,k4,d4,rfl,fun y=>(x1 y).kp g,fun y=>(x2 y).kp g⟩,g⟩
theorem invB_ (K:Nat) (hK:K = 1074) (n g:Bool) (m r:Nat) (h1:Fq.plz n m < 0) (hi:-9218868437227405312 < Fq.plz g r) (hr:r≤9218868437227405312) (h2:Fq.plz g r≤0) (W:World) (v:Value) (h:SV1 n m g r W v):Calls Tryz.prog 26 #[v] W fun e w'=>∃ v',e = .returned v'∧QS (W.heap.size + 2) (if r = 0 then -1 else 0) 0 (fun dd=>pz (g53 dd (2 ^ K) (jC r) (Iv true (jM r)))) (fun dd=>pz (g53 dd (2 ^ K) (jC m) (Iv true (jM m)))) w' v'∧Kp W w':=by
  have h9:=h
  obtain ⟨s,p,l,c,q,k,d,s2,p2,l2,c2,q2,k2,d2,rfl,a1,a2⟩:=h
  have e1:=plz_not n m
  have e2:=plz_not g r
  have mi:r≠9218868437227405312:=fun e=>by
    unfold Fq.plz at h2 hi
    cases g <;> simp at h2 hi <;> omega
  refine inv6c_ false _ _ s p l c q k d s2 p2 l2 c2 q2 k2 d2 (fun _ v=>SV0 true v) (fun _ v=>SV0 true v) (SV1 (!g) r (!n) m) (SV1 (!g) r (!n) m) (OV (W.heap.size + 2) r m) (NV (W.heap.size + 2) r m) _ W (fun _ _ _ _ hx h=>h.set hx _) (fun _ _ _ y h=>h) (fun W' y _=>upZ_ n g m r h2 W' _ (h9.kp y)) (fun W' v _ _ h=>ovX_ W' v h) (fun W' y _=>minusS_ n g m r W' _ (h9.kp y)) (fun W' v _ _ h=>?_) (fun W' v _ hb h=>ovS_ K hK (!g) (!n) r m _ (by omega) (by omega) mi W' v hb h) (fun W' v _ hb h=>minusO_ r m _ W' v hb h) ?_
  · have q:=upS_ (!g) (!n) r m (by omega) (by omega) hr W' v h
    rw [if_neg (show ¬ Fq.plz (!g) r < 0 by omega),if_neg (show ¬ Fq.plz (!g) r < 0 by omega)] at q
    exact q
  rintro W' u v _ _ ⟨i2,j2,s5,p5,l5,c5,q5,k5,d5,s6,p6,l6,c6,q6,k6,d6,rfl⟩ hu
  have q:=hu.qs K hK
  obtain ⟨s3,p3,l3,c3,q3,k3,d3,s4,p4,l4,c4,q4,k4,d4,rfl,x1,x2⟩:=q
  refine (hullE1_ i2 j2 _ _ s5 p5 l5 c5 q5 k5 d5 s6 p6 l6 c6 q6 k6 d6 s3 p3 l3 c3 q3 k3 d3 s4 p4 l4 c4 q4 k4 d4 false W').mono ?_
  rintro e w' ⟨rfl,g⟩
  exact ⟨false,_,_,s3,p3,l3,c3,q3,k3,d3,s4,p4,l4,c4,q4,k4,d4,rfl,⟨s3,p3,l3,c3,q3,k3,d3,s4,p4,l4,c4,q4,k4,d4,rfl,fun y=>(x1 y).kp g,fun y=>(x2 y).kp g⟩,g⟩
theorem invC_ (K:Nat) (hK:K = 1074) (n g:Bool) (m r:Nat) (h1:Fq.plz n m < 0) (hm:m≤9218868437227405312) (hr:r≤9218868437227405312) (h2:0 < Fq.plz g r) (W:World) (v:Value) (h:SV1 n m g r W v):Calls Tryz.prog 26 #[v] W fun e w'=>∃ v',e = .returned v'∧QS (W.heap.size + 2) (-1) 1 (fun _=>0) (fun _=>0) w' v'∧Kp W w':=by
  have h9:=h
  obtain ⟨s,p,l,c,q,k,d,s2,p2,l2,c2,q2,k2,d2,rfl,a1,a2⟩:=h
  have e1:=plz_not n m
  have e2:=plz_not g r
  have z0:Fq.plz false 0 = 0:=rfl
  refine inv6c_ false _ _ s p l c q k d s2 p2 l2 c2 q2 k2 d2 (SV1 false 0 g r) (OV (W.heap.size + 2) 0 r) (SV1 (!g) r (!n) m) (SV1 false 0 (!n) m) (OV (W.heap.size + 2) 0 m) (NV (W.heap.size + 2) 0 m) _ W (fun _ _ _ _ hx h=>h.set hx _) (fun _ _ _ y h=>h.kp y) (fun W' y _=>?_) (fun W' v _ hb h=>ovS_ K hK false g 0 r _ h2 (by rw [z0];omega) (by decide) W' v hb h) (fun W' y _=>minusS_ n g m r W' _ (h9.kp y)) (fun W' v _ _ h=>?_) (fun W' v _ hb h=>ovS_ K hK false (!n) 0 m _ (by omega) (by rw [z0];omega) (by decide) W' v hb h) (fun W' v _ hb h=>minusO_ 0 m _ W' v hb h) ?_
  · have q:=upS_ n g m r h2 (by omega) hm W' _ (h9.kp y)
    rw [if_pos h1,if_pos h1] at q
    exact q
  · have q:=upS_ (!g) (!n) r m (by omega) (by omega) hr W' v h
    rw [if_pos (show Fq.plz (!g) r < 0 by omega),if_pos (show Fq.plz (!g) r < 0 by omega)] at q
    exact q
  rintro W' u v _ _ ⟨s3,p3,l3,c3,q3,k3,d3,s4,p4,l4,c4,q4,k4,d4,rfl,x1,x2⟩ ⟨s5,p5,l5,c5,q5,k5,d5,s6,p6,l6,c6,q6,k6,d6,rfl,y1,y2⟩
  refine (hullTS_ 0 1 (-1) 0 s3 p3 l3 c3 q3 k3 d3 s4 p4 l4 c4 q4 k4 d4 s5 p5 l5 c5 q5 k5 d5 s6 p6 l6 c6 q6 k6 d6 W' (fun W2 y=>lesserB_ 0 (-1) (-1) _ _ _ _ _ _ _ _ _ _ _ _ _ _ (by decide) W2 (fun W3 y3=>endL_ (-1) 0 _ _ _ _ _ _ _ _ _ _ _ _ _ _ (by decide) (by decide) W3)) (fun W2 y=>greaterA_ 1 0 (-1) _ _ _ _ _ _ _ _ _ _ _ _ _ _ (by decide) W2 (fun W3 y3=>endL_ 0 1 _ _ _ _ _ _ _ _ _ _ _ _ _ _ (by decide) (by decide) W3))).mono ?_
  rintro e w' ⟨rfl,g⟩
  exact ⟨false,_,_,s5,p5,l5,c5,q5,k5,d5,s4,p4,l4,c4,q4,k4,d4,rfl,⟨s5,p5,l5,c5,q5,k5,d5,s4,p4,l4,c4,q4,k4,d4,rfl,fun y=>absurd y (by decide),fun y=>absurd y (by decide)⟩,g⟩
theorem leastQ_ (b:Nat) (i j:Int) (ZA ZB:Int→Nat) (W:World) (v:Value) (h:QS b i j ZA ZB W v):Calls Tryz.prog 23 #[v] W fun e w'=>e = .returned (.agg #[.int .u64 ((if i = 0 then ZA (-1) else 18442240474082181120:Nat):Int),.int .u64 ((if j = 0 then ZB 1 else 9218868437227405312:Nat):Int)])∧Kp W w':=by
  obtain ⟨s,p,l,c,q,k,d,s2,p2,l2,c2,q2,k2,d2,rfl,a1,a2⟩:=h
  exact leastP_ i j ZA ZB s p l c q k d s2 p2 l2 c2 q2 k2 d2 b b W a1 a2
theorem rec_both6 (a b:Nat) (ha:a < 18446744073709551616) (hb:b < 18446744073709551616):∃ LO HI:Nat,(∀ w:World,Fq.Tab w→Calls Tryz.prog 10 #[.agg #[.float .f64 a,.float .f64 b]] w fun e w'=>e = .returned (.agg #[.float .f64 LO,.float .f64 HI])∧Kp w w')∧(∀ w:World,Calls Tryz.prog 11 #[.agg #[.int .u64 ((a:Nat):Int),.int .u64 ((b:Nat):Int)]] w fun e w'=>e = .returned (.agg #[.int .u64 ((LO:Nat):Int),.int .u64 ((HI:Nat):Int)])∧Kp w w'):=by
  obtain ⟨K,hK⟩:∃ K:Nat,K = 1074:=⟨_,rfl⟩
  obtain ⟨L,H,r0⟩:=Rd.ex a b ha hb
  refine ⟨pw (dLo K 4607182418800017408 4607182418800017408 L H),pw (dHi K 4607182418800017408 4607182418800017408 L H),fun w hQ=>recip9Q_ K hK a b L H r0 w hQ,fun w=>?_⟩
  by_cases s1:Fq.snd a b = true
  case neg =>
    have s1:Fq.snd a b = false:=by simpa using s1
    have hL:L = 9218868437227405312:=by
      have r2:=rd_void a b ha hb s1
      have e:=r0.2.2.2.1
      rw [r2.2.2.2.1] at e
      exact ((pw_inj 9218868437227405312 L (by unfold BdZ;omega) r0.vd.lo).1 e).symm
    have d:=rec_D K L H (Or.inl hL)
    rw [d.1,d.2,pw_I,pw_MI]
    exact rrec7c_ _ _ _ _ (fun _ v=>SV0 true v) (fun _ v=>SV0 true v) w (fun W _=>ofEmpty_ a b ha hb s1 W) (fun W v _ h=>invX_ W v h) (fun W v _ h=>leastN_ W v h)
  have nL:=rd_snd a b L H r0 s1
  have l1:=natAbs_bd L r0.vd.lo
  have l2:=natAbs_bd H r0.vd.hi
  have v0:=r0.vd
  have b1:=v0.lo;have b2:=v0.hi
  unfold VdZ at v0
  have ho:=fun (W:World)=>ofSound_ a b ha hb s1 _ _ _ _ l1 l2 r0.2.2.2.1 r0.2.2.2.2 W
  have pL:Fq.plz (decide (L < 0)) L.natAbs = L:=plz_pw L
  have pH:Fq.plz (decide (H < 0)) H.natAbs = H:=plz_pw H
  by_cases c1:L < 0
  · by_cases c2:0 < H
    · have d:=rec_C K L H c1 c2 (by omega)
      rw [d.1,d.2,pw_I,pw_MI]
      exact rrec7c_ _ _ _ _ _ _ w (fun W _=>ho W) (fun W v _ h=>(invC_ K hK _ _ _ _ (by rw [pL];exact c1) l1 l2 (by rw [pH];exact c2) W v h).mono (fun e w' ⟨v',e1,h1,g1⟩=>⟨v',e1,h1.mono (Nat.zero_le _),g1⟩)) (fun W v _ h=>leastQ_ 0 (-1) 1 _ _ W v h)
    · have d:=rec_B K L H c1 (by omega) (by omega)
      have hl:=fun (W:World) (v:Value)=>leastQ_ 0 (if H.natAbs = 0 then -1 else 0) 0 (fun dd=>pz (g53 dd (2 ^ K) (jC H.natAbs) (Iv true (jM H.natAbs)))) (fun dd=>pz (g53 dd (2 ^ K) (jC L.natAbs) (Iv true (jM L.natAbs)))) W v
      rw [show (if (if H.natAbs = 0 then (-1:Int) else 0) = 0 then (fun dd=>pz (g53 dd (2 ^ K) (jC H.natAbs) (Iv true (jM H.natAbs)))) (-1) else 18442240474082181120) = pw (dLo K 4607182418800017408 4607182418800017408 L H) from by
        rw [d.1]
        by_cases c3:H = 0
        · rw [if_pos (show H.natAbs = 0 by omega),if_neg (by decide),if_neg (by omega),pw_MI]
        · rw [if_neg (show ¬ H.natAbs = 0 by omega),if_pos rfl,if_pos (by omega)];rfl,show (if (0:Int) = 0 then (fun dd=>pz (g53 dd (2 ^ K) (jC L.natAbs) (Iv true (jM L.natAbs)))) 1 else 9218868437227405312) = pw (dHi K 4607182418800017408 4607182418800017408 L H) from by rw [d.2,if_pos rfl];rfl] at hl
      exact rrec7c_ _ _ _ _ _ _ w (fun W _=>ho W) (fun W v _ h=>(invB_ K hK _ _ _ _ (by rw [pL];exact c1) (by rw [pH];omega) l2 (by rw [pH];omega) W v h).mono (fun e w' ⟨v',e1,h1,g1⟩=>⟨v',e1,h1.mono (Nat.zero_le _),g1⟩)) (fun W v _ h=>hl W v h)
  · by_cases c2:0 < H
    · have d:=rec_A K L H (by omega) c2 (by omega)
      have hl:=fun (W:World) (v:Value)=>leastQ_ 0 0 (if L.natAbs = 0 then 1 else 0) (fun dd=>pz (g53 dd (2 ^ K) (jC H.natAbs) (Iv false (jM H.natAbs)))) (fun dd=>pz (g53 dd (2 ^ K) (jC L.natAbs) (Iv false (jM L.natAbs)))) W v
      rw [show (if (if L.natAbs = 0 then (1:Int) else 0) = 0 then (fun dd=>pz (g53 dd (2 ^ K) (jC L.natAbs) (Iv false (jM L.natAbs)))) 1 else 9218868437227405312) = pw (dHi K 4607182418800017408 4607182418800017408 L H) from by
        rw [d.2]
        by_cases c3:L = 0
        · rw [if_pos (show L.natAbs = 0 by omega),if_neg (by decide),if_neg (by omega),pw_I]
        · rw [if_neg (show ¬ L.natAbs = 0 by omega),if_pos rfl,if_pos (by omega)];rfl,show (if (0:Int) = 0 then (fun dd=>pz (g53 dd (2 ^ K) (jC H.natAbs) (Iv false (jM H.natAbs)))) (-1) else 18442240474082181120) = pw (dLo K 4607182418800017408 4607182418800017408 L H) from by rw [d.1,if_pos rfl];rfl] at hl
      exact rrec7c_ _ _ _ _ _ _ w (fun W _=>ho W) (fun W v _ h=>(invA_ K hK _ _ _ _ (by rw [pL];omega) (by rw [pL];omega) l1 (by rw [pH];exact c2) W v h).mono (fun e w' ⟨v',e1,h1,g1⟩=>⟨v',e1,h1.mono (Nat.zero_le _),g1⟩)) (fun W v _ h=>hl W v h)
    · have d:=rec_D K L H (Or.inr (by omega))
      rw [d.1,d.2,pw_I,pw_MI]
      exact rrec7c_ _ _ _ _ _ (fun _ v=>SV0 true v) w (fun W _=>ho W) (fun W v _ h=>invO_ _ _ _ _ (by rw [pL];omega) (by rw [pH];omega) W v h) (fun W v _ h=>leastN_ W v h)
theorem ivinvs_ (a b:Nat) (ha:a < 18446744073709551616) (hb:b < 18446744073709551616) (w:World) (hQ:Fq.Tab w):Calls Tryz.prog 4 #[.agg #[.int .u64 ((a:Nat):Int),.int .u64 ((b:Nat):Int)]] w fun e w'=>e = .returned (.bool true)∧Kp w w':=by
  obtain ⟨LO,HI,hP0,hR⟩:=rec_both6 a b ha hb
  have hP:∀ W:World,Kp w W→Calls Tryz.prog 10 #[.agg #[.float .f64 a,.float .f64 b]] W fun e w'=>e = .returned (.agg #[.float .f64 LO,.float .f64 HI])∧Kp W w':=fun W y=>hP0 W (Fq.Tab.grown hQ y)
  clear hP0 hQ
  have h1:=Fq.in_ a b
  have hO:=Fq.out_ LO HI
  clear ha hb
  generalize (LO:Int) = LI at hR hO
  generalize (HI:Int) = HJ at hR hO
  generalize (a:Int) = X at h1 hR ⊢
  generalize (b:Int) = Y at h1 hR ⊢
  go_enter Tryz.func4,Tryz.ntmps4
  go_wp2
  refine Fq.wp_region_grow (by kernel_rfl) (by kernel_rfl) (fun ι _ G hG hall=>?_)
  have cc0:∀ n,(G n).cell? ⟨w.heap.size,0,none⟩ = some (.int .u64 X):=fun n=>Fq.gkeep (hG n) (by simp [go_sem])
  have cc1:∀ n,(G n).cell? ⟨w.heap.size,1,none⟩ = some (.int .u64 Y):=fun n=>Fq.gkeep (hG n) (by simp [go_sem])
  have kG:∀ n,Kp w (G n):=fun n=>Kp.trans ((Kp.refl w).alloc _) (hG n)
  repeat (go_big_quiet_step (first | (go_at_call 8;exact (h1 _).mono (fun e w' h=>⟨h.1,hall _ (Fq.gtrans (hG _) h.2)⟩)) | (go_at_call 10;exact (hP _ (kG _)).mono (fun e w' h=>⟨h.1,hall _ (Fq.gtrans (hG _) h.2)⟩)) | (go_at_call 6;exact (hO _).mono (fun e w' h=>⟨h.1,hall _ (Fq.gtrans (hG _) h.2)⟩)) | (go_at_call 11;exact (hR _).mono (fun e w' h=>⟨h.1,hall _ (Fq.gtrans (hG _) h.2)⟩))))
  refine wpQuiet_nil ?_
  rintro _ ⟨nq,rfl⟩
  have gq:Kp w (G nq):=Kp.trans ((Kp.refl w).alloc _) (hG nq)
  clear cc0 cc1 hall hG kG
  go_wp2
  exact bodyPost_ret (v:=.bool true) (by simp [results,Tryz.results4,go_sem]) rfl ⟨rfl,gq⟩
end Go.Proofs.YtinohggonicjhaaGreatDoor
