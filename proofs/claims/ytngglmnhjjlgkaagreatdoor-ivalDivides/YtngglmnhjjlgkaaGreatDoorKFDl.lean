import Derived.Test.YtngglmnhjjlgkaaGreatDoorKFDh
set_option maxHeartbeats 4000000
set_option maxRecDepth 20000
namespace Go.Proofs.YtngglmnhjjlgkaaGreatDoor
open Go.RowKit
set_option linter.unusedVariables false

theorem TQ.mono {CC b b2:Nat} {LO HI:Int × Int} {W:World} {v:Value} (h:TQ CC b LO HI W v) (g:b2≤b):TQ CC b2 LO HI W v:=by
 obtain ⟨Gi,Gn,Gp,Gl,Gc,Gq,Gk,Gd,Oi,On,Op,Ol,Oc,Oq,Ok,Od,rfl,x1,x2⟩:=h
 exact ⟨Gi,Gn,Gp,Gl,Gc,Gq,Gk,Gd,Oi,On,Op,Ol,Oc,Oq,Ok,Od,rfl,x1.mono g,x2.mono g⟩
theorem wB_a {a b c:Int} (h:a≤b) (h2:b≠1) (h3:b = 0∨b = 1∨b = -1):a≠1:=by omega
theorem wB_b {a b:Int} (h:b≤a) (h2:b≠-1) (h3:b = 0∨b = 1∨b = -1):a≠-1:=by omega
theorem wayB (K:Nat) (L1 H1 L2 H2:Int) (h1:-9218868437227405312≤L1∧L1≤H1∧H1≤9218868437227405312∧L1 < 9218868437227405312∧-9218868437227405312 < H1) (h2:L2 < 0∧0 < H2∧-9218868437227405312≤L2∧H2≤9218868437227405312):okB (tLo L1 H1 0 L2.natAbs (jC H2.natAbs) 1)∧okB (tHi L1 H1 0 L2.natAbs (jC H2.natAbs) 1)∧okB (lB (tLo L1 H1 0 H2.natAbs (jC L2.natAbs) 1) (nB (tHi L1 H1 0 L2.natAbs (jC H2.natAbs) 1)))∧okB (gB (tHi L1 H1 0 H2.natAbs (jC L2.natAbs) 1) (nB (tLo L1 H1 0 L2.natAbs (jC H2.natAbs) 1)))∧(lB (tLo L1 H1 0 H2.natAbs (jC L2.natAbs) 1) (nB (tHi L1 H1 0 L2.natAbs (jC H2.natAbs) 1))).1≠1∧(gB (tHi L1 H1 0 H2.natAbs (jC L2.natAbs) 1) (nB (tLo L1 H1 0 L2.natAbs (jC H2.natAbs) 1))).1≠-1∧rD K (jC H2.natAbs * jC L2.natAbs) (-1) (lB (tLo L1 H1 0 H2.natAbs (jC L2.natAbs) 1) (nB (tHi L1 H1 0 L2.natAbs (jC H2.natAbs) 1))) = dLo K L1 H1 L2 H2∧rD K (jC H2.natAbs * jC L2.natAbs) 1 (gB (tHi L1 H1 0 H2.natAbs (jC L2.natAbs) 1) (nB (tLo L1 H1 0 L2.natAbs (jC H2.natAbs) 1))) = dHi K L1 H1 L2 H2:=by
 have jr:=Nat.pos_of_ne_zero (jC_ne H2.natAbs (by omega))
 have jm:=Nat.pos_of_ne_zero (jC_ne L2.natAbs (by omega))
 have pC:0 < jC H2.natAbs * jC L2.natAbs:=Nat.mul_pos jr jm
 have b1:BdZ L1:=by unfold BdZ;omega
 have b2:BdZ H1:=by unfold BdZ;omega
 have f1:H2.natAbs≠0:=by omega
 have f2:L2.natAbs≠0:=by omega
 have f3:H2.natAbs≤9218868437227405312:=by omega
 have f4:L2.natAbs≤9218868437227405312:=by omega
 have z0:0≤9218868437227405312:=by omega
 have g1:L1≠9218868437227405312:=by omega
 have g2:H1≠-9218868437227405312:=by omega
 have q1:=P_lo K L1 H1 0 H2 (by omega) (by omega)
 have q2:=P_hi K L1 H1 0 H2 (by omega) (by omega)
 have q3:=P_lo K L1 H1 0 (-L2) (by omega) (by omega)
 have q4:=P_hi K L1 H1 0 (-L2) (by omega) (by omega)
 have BL:=B_lo K L1 H1 L2 H2 (by omega) (by omega)
 rw [Int.natAbs_neg] at q3 q4
 rw [show (0:Int).natAbs = 0 from rfl] at q1 q2 q3 q4
 have A1:=tLo_rd K (jC H2.natAbs * jC L2.natAbs) (-1) L1 H1 0 H2.natAbs (jC L2.natAbs) 1 jm (by decide) b1 b2 z0 f1 f3 rfl (fun z=>absurd rfl z)
 have A2:=tHi_rd K (jC H2.natAbs * jC L2.natAbs) 1 L1 H1 0 H2.natAbs (jC L2.natAbs) 1 jm (by decide) b1 b2 z0 f1 f3 rfl (fun z=>absurd rfl z)
 have B1:=tLo_rd K (jC H2.natAbs * jC L2.natAbs) (-1) L1 H1 0 L2.natAbs (jC H2.natAbs) 1 jr (by decide) b1 b2 z0 f2 f4 (Nat.mul_comm _ _) (fun z=>absurd rfl z)
 have B2:=tHi_rd K (jC H2.natAbs * jC L2.natAbs) 1 L1 H1 0 L2.natAbs (jC H2.natAbs) 1 jr (by decide) b1 b2 z0 f2 f4 (Nat.mul_comm _ _) (fun z=>absurd rfl z)
 have N1:=nB_rd K (jC H2.natAbs * jC L2.natAbs) 1 _ B2.2.1
 have N2:=nB_rd K (jC H2.natAbs * jC L2.natAbs) (-1) _ B1.2.1
 rw [Int.neg_neg] at N2
 have M1:=lBD K _ pC (-1) _ _ A1.2.1 N1.2
 have M2:=gBD K _ pC 1 _ _ A2.2.1 N2.2
 refine ⟨B1.2.1,B2.2.1,M1.2,M2.2,wB_a (c:=0) (lB_1 _ _).1 (A1.2.2 g1) A1.2.1,wB_b (gB_1 _ _).1 (A2.2.2 g2) A2.2.1, ?_, ?_⟩
 ·rw [M1.1,N1.1,A1.1,B2.1,q1,q4];exact BL.1
 ·rw [M2.1,N2.1,A2.1,B1.1,q2,q3];exact BL.2
theorem wN_a {a:Int} (h:a≠-1):-a≠1:=by omega
theorem wN_b {a:Int} (h:a≠1):-a≠-1:=by omega
theorem wayN (K:Nat) (L1 H1 L2 H2:Int) (h1:-9218868437227405312≤L1∧L1≤H1∧H1≤9218868437227405312∧L1 < 9218868437227405312∧-9218868437227405312 < H1) (h2:L2 < 0∧L2≤H2∧H2≤0∧-9218868437227405312≤L2∧-9218868437227405312 < H2):okB (tLo L1 H1 H2.natAbs L2.natAbs (if H2.natAbs = 0 then 1 else jC H2.natAbs) (jC L2.natAbs))∧okB (tHi L1 H1 H2.natAbs L2.natAbs (if H2.natAbs = 0 then 1 else jC H2.natAbs) (jC L2.natAbs))∧okB (nB (tHi L1 H1 H2.natAbs L2.natAbs (if H2.natAbs = 0 then 1 else jC H2.natAbs) (jC L2.natAbs)))∧okB (nB (tLo L1 H1 H2.natAbs L2.natAbs (if H2.natAbs = 0 then 1 else jC H2.natAbs) (jC L2.natAbs)))∧(nB (tHi L1 H1 H2.natAbs L2.natAbs (if H2.natAbs = 0 then 1 else jC H2.natAbs) (jC L2.natAbs))).1≠1∧(nB (tLo L1 H1 H2.natAbs L2.natAbs (if H2.natAbs = 0 then 1 else jC H2.natAbs) (jC L2.natAbs))).1≠-1∧rD K (jC L2.natAbs * (if H2.natAbs = 0 then 1 else jC H2.natAbs)) (-1) (nB (tHi L1 H1 H2.natAbs L2.natAbs (if H2.natAbs = 0 then 1 else jC H2.natAbs) (jC L2.natAbs))) = dLo K L1 H1 L2 H2∧rD K (jC L2.natAbs * (if H2.natAbs = 0 then 1 else jC H2.natAbs)) 1 (nB (tLo L1 H1 H2.natAbs L2.natAbs (if H2.natAbs = 0 then 1 else jC H2.natAbs) (jC L2.natAbs))) = dHi K L1 H1 L2 H2:=by
 have jm:=Nat.pos_of_ne_zero (jC_ne L2.natAbs (by omega))
 have b1:BdZ L1:=by unfold BdZ;omega
 have b2:BdZ H1:=by unfold BdZ;omega
 have f2:L2.natAbs≠0:=by omega
 have f3:H2.natAbs≤9218868437227405312:=by omega
 have f4:L2.natAbs≤9218868437227405312:=by omega
 have g1:L1≠9218868437227405312:=by omega
 have g2:H1≠-9218868437227405312:=by omega
 have q1:=P_lo K L1 H1 (-H2) (-L2) (by omega) (by omega)
 have q2:=P_hi K L1 H1 (-H2) (-L2) (by omega) (by omega)
 have NL:=N_lo K L1 H1 L2 H2 (by omega) (by omega)
 rw [Int.natAbs_neg,Int.natAbs_neg] at q1 q2
 have T1:=tLo_rd K (jC L2.natAbs * (if H2.natAbs = 0 then 1 else jC H2.natAbs)) (-1) L1 H1 H2.natAbs L2.natAbs (if H2.natAbs = 0 then 1 else jC H2.natAbs) (jC L2.natAbs) (one_pos9 _) jm b1 b2 f3 f2 f4 rfl (fun z=>by rw [if_neg z,Nat.mul_comm])
 have T2:=tHi_rd K (jC L2.natAbs * (if H2.natAbs = 0 then 1 else jC H2.natAbs)) 1 L1 H1 H2.natAbs L2.natAbs (if H2.natAbs = 0 then 1 else jC H2.natAbs) (jC L2.natAbs) (one_pos9 _) jm b1 b2 f3 f2 f4 rfl (fun z=>by rw [if_neg z,Nat.mul_comm])
 have N1:=nB_rd K (jC L2.natAbs * (if H2.natAbs = 0 then 1 else jC H2.natAbs)) 1 _ T2.2.1
 have N2:=nB_rd K (jC L2.natAbs * (if H2.natAbs = 0 then 1 else jC H2.natAbs)) (-1) _ T1.2.1
 rw [Int.neg_neg] at N2
 refine ⟨T1.2.1,T2.2.1,N1.2,N2.2,wN_a (T2.2.2 g2),wN_b (T1.2.2 g1), ?_, ?_⟩
 ·rw [N1.1,T2.1,q2];exact NL.1.symm
 ·rw [N2.1,T1.1,q1];exact NL.2.symm
theorem wayP (K:Nat) (L1 H1 L2 H2:Int) (h1:-9218868437227405312≤L1∧L1≤H1∧H1≤9218868437227405312∧L1 < 9218868437227405312∧-9218868437227405312 < H1) (h2:0≤L2∧L2≤H2∧0 < H2∧H2≤9218868437227405312∧L2 < 9218868437227405312):okB (tLo L1 H1 L2.natAbs H2.natAbs (if L2.natAbs = 0 then 1 else jC L2.natAbs) (jC H2.natAbs))∧okB (tHi L1 H1 L2.natAbs H2.natAbs (if L2.natAbs = 0 then 1 else jC L2.natAbs) (jC H2.natAbs))∧(tLo L1 H1 L2.natAbs H2.natAbs (if L2.natAbs = 0 then 1 else jC L2.natAbs) (jC H2.natAbs)).1≠1∧(tHi L1 H1 L2.natAbs H2.natAbs (if L2.natAbs = 0 then 1 else jC L2.natAbs) (jC H2.natAbs)).1≠-1∧rD K (jC H2.natAbs * (if L2.natAbs = 0 then 1 else jC L2.natAbs)) (-1) (tLo L1 H1 L2.natAbs H2.natAbs (if L2.natAbs = 0 then 1 else jC L2.natAbs) (jC H2.natAbs)) = dLo K L1 H1 L2 H2∧rD K (jC H2.natAbs * (if L2.natAbs = 0 then 1 else jC L2.natAbs)) 1 (tHi L1 H1 L2.natAbs H2.natAbs (if L2.natAbs = 0 then 1 else jC L2.natAbs) (jC H2.natAbs)) = dHi K L1 H1 L2 H2:=by
 have jr:=Nat.pos_of_ne_zero (jC_ne H2.natAbs (by omega))
 have b1:BdZ L1:=by unfold BdZ;omega
 have b2:BdZ H1:=by unfold BdZ;omega
 have f1:H2.natAbs≠0:=by omega
 have f3:H2.natAbs≤9218868437227405312:=by omega
 have f4:L2.natAbs≤9218868437227405312:=by omega
 have g1:L1≠9218868437227405312:=by omega
 have g2:H1≠-9218868437227405312:=by omega
 have q1:=P_lo K L1 H1 L2 H2 (by omega) (by omega)
 have q2:=P_hi K L1 H1 L2 H2 (by omega) (by omega)
 have T1:=tLo_rd K (jC H2.natAbs * (if L2.natAbs = 0 then 1 else jC L2.natAbs)) (-1) L1 H1 L2.natAbs H2.natAbs (if L2.natAbs = 0 then 1 else jC L2.natAbs) (jC H2.natAbs) (one_pos9 _) jr b1 b2 f4 f1 f3 rfl (fun z=>by rw [if_neg z,Nat.mul_comm])
 have T2:=tHi_rd K (jC H2.natAbs * (if L2.natAbs = 0 then 1 else jC L2.natAbs)) 1 L1 H1 L2.natAbs H2.natAbs (if L2.natAbs = 0 then 1 else jC L2.natAbs) (jC H2.natAbs) (one_pos9 _) jr b1 b2 f4 f1 f3 rfl (fun z=>by rw [if_neg z,Nat.mul_comm])
 exact ⟨T1.2.1,T2.2.1,T1.2.2 g1,T2.2.2 g2,by rw [T1.1];exact q1,by rw [T2.1];exact q2⟩
theorem divWB_ (K:Nat) (hK:K = 1074) (a b c d:Nat) (ha:a < 18446744073709551616) (hb:b < 18446744073709551616) (hc:c < 18446744073709551616) (hd:d < 18446744073709551616) (L1 H1 L2 H2:Int) (r1:Rd a b L1 H1) (r2:Rd c d L2 H2) (s1:Fq.snd a b = true) (s2:Fq.snd c d = true) (e1:L2 < 0) (e2:0 < H2) (w:World):Calls Tryz.prog 9 #[.agg #[.int .u64 ((a:Nat):Int),.int .u64 ((b:Nat):Int)],.agg #[.int .u64 ((c:Nat):Int),.int .u64 ((d:Nat):Int)]] w fun e w'=>e = .returned (.agg #[.int .u64 ((pw (dLo K L1 H1 L2 H2):Nat):Int),.int .u64 ((pw (dHi K L1 H1 L2 H2):Nat):Int)])∧Kp w w':=by
 have n1:=rd_snd a b L1 H1 r1 s1
 have n2:=rd_snd c d L2 H2 r2 s2
 have l1:=natAbs_bd L1 r1.vd.lo
 have l2:=natAbs_bd H1 r1.vd.hi
 have l3:=natAbs_bd L2 r2.vd.lo
 have l4:=natAbs_bd H2 r2.vd.hi
 have v1:=r1.vd
 have v2:=r2.vd
 unfold VdZ at v1 v2
 have pL1:Fq.plz (decide (L1 < 0)) L1.natAbs = L1:=plz_pw L1
 have pH1:Fq.plz (decide (H1 < 0)) H1.natAbs = H1:=plz_pw H1
 have pL2:Fq.plz (decide (L2 < 0)) L2.natAbs = L2:=plz_pw L2
 have pH2:Fq.plz (decide (H2 < 0)) H2.natAbs = H2:=plz_pw H2
 obtain ⟨y1,y2,y3,y4,y5,y6,y7,y8⟩:=wayB K L1 H1 L2 H2 (by omega) (by omega)
 have ho1:=fun (W:World)=>ofSound_ a b ha hb s1 _ _ _ _ l1 l2 r1.2.2.2.1 r1.2.2.2.2 W
 have ho2:=fun (W:World)=>ofSound_ c d hc hd s2 _ _ _ _ l3 l4 r2.2.2.2.1 r2.2.2.2.2 W
 have hl:=fun (W:World) (v:Value)=>leastD_ K (jC H2.natAbs * jC L2.natAbs) 0 hK _ _ y3 y4 y5 y6 W v
 rw [y7,y8] at hl
 have hB:=fun (W:World) (u v:Value)=>byB_ K hK (decide (L1 < 0)) (decide (H1 < 0)) (decide (L2 < 0)) (decide (H2 < 0)) L1.natAbs H1.natAbs L2.natAbs H2.natAbs l1 l2 l3 l4 (by rw [pL2];exact e1) (by rw [pH2];exact e2) (by rw [pL1,pH1];exact y1) (by rw [pL1,pH1];exact y2) W u v
 rw [pL1,pH1] at hB
 exact rdiv6c_ _ _ _ _ _ _ _ _ _ w (fun W W' v g h=>h.kp g) (fun W _=>ho1 W) (fun W _=>ho2 W) (fun W u v _ h1 h2=>(hB W u v h1 h2).mono (fun e w' ⟨v',e1,h1,g1⟩=>⟨v',e1,h1.mono (Nat.zero_le _),g1⟩)) (fun W v _ h=>hl W v h)
theorem divWN_ (K:Nat) (hK:K = 1074) (a b c d:Nat) (ha:a < 18446744073709551616) (hb:b < 18446744073709551616) (hc:c < 18446744073709551616) (hd:d < 18446744073709551616) (L1 H1 L2 H2:Int) (r1:Rd a b L1 H1) (r2:Rd c d L2 H2) (s1:Fq.snd a b = true) (s2:Fq.snd c d = true) (e1:L2 < 0) (e2:H2≤0) (w:World):Calls Tryz.prog 9 #[.agg #[.int .u64 ((a:Nat):Int),.int .u64 ((b:Nat):Int)],.agg #[.int .u64 ((c:Nat):Int),.int .u64 ((d:Nat):Int)]] w fun e w'=>e = .returned (.agg #[.int .u64 ((pw (dLo K L1 H1 L2 H2):Nat):Int),.int .u64 ((pw (dHi K L1 H1 L2 H2):Nat):Int)])∧Kp w w':=by
 have n1:=rd_snd a b L1 H1 r1 s1
 have n2:=rd_snd c d L2 H2 r2 s2
 have l1:=natAbs_bd L1 r1.vd.lo
 have l2:=natAbs_bd H1 r1.vd.hi
 have l3:=natAbs_bd L2 r2.vd.lo
 have l4:=natAbs_bd H2 r2.vd.hi
 have v1:=r1.vd
 have v2:=r2.vd
 unfold VdZ at v1 v2
 have pL1:Fq.plz (decide (L1 < 0)) L1.natAbs = L1:=plz_pw L1
 have pH1:Fq.plz (decide (H1 < 0)) H1.natAbs = H1:=plz_pw H1
 have pL2:Fq.plz (decide (L2 < 0)) L2.natAbs = L2:=plz_pw L2
 have pH2:Fq.plz (decide (H2 < 0)) H2.natAbs = H2:=plz_pw H2
 have e3:-9218868437227405312 < H2:=by omega
 obtain ⟨y1,y2,y3,y4,y5,y6,y7,y8⟩:=wayN K L1 H1 L2 H2 (by omega) (by omega)
 have ho1:=fun (W:World)=>ofSound_ a b ha hb s1 _ _ _ _ l1 l2 r1.2.2.2.1 r1.2.2.2.2 W
 have ho2:=fun (W:World)=>ofSound_ c d hc hd s2 _ _ _ _ l3 l4 r2.2.2.2.1 r2.2.2.2.2 W
 have hl:=fun (W:World) (v:Value)=>leastD_ K (jC L2.natAbs * (if H2.natAbs = 0 then 1 else jC H2.natAbs)) 0 hK _ _ y3 y4 y5 y6 W v
 rw [y7,y8] at hl
 have hB:=fun (W:World) (u v:Value)=>byN_ K hK (decide (L1 < 0)) (decide (H1 < 0)) (decide (L2 < 0)) (decide (H2 < 0)) L1.natAbs H1.natAbs L2.natAbs H2.natAbs l1 l2 l3 l4 (by rw [pH2];exact e2) (by rw [pH2];exact e3) (by rw [pL2];exact e1) (by rw [pL1,pH1];exact y1) (by rw [pL1,pH1];exact y2) W u v
 rw [pL1,pH1] at hB
 exact rdiv6c_ _ _ _ _ _ _ _ _ _ w (fun W W' v g h=>h.kp g) (fun W _=>ho1 W) (fun W _=>ho2 W) (fun W u v _ h1 h2=>(hB W u v h1 h2).mono (fun e w' ⟨v',e1,h1,g1⟩=>⟨v',e1,h1.mono (Nat.zero_le _),g1⟩)) (fun W v _ h=>hl W v h)
theorem divWP_ (K:Nat) (hK:K = 1074) (a b c d:Nat) (ha:a < 18446744073709551616) (hb:b < 18446744073709551616) (hc:c < 18446744073709551616) (hd:d < 18446744073709551616) (L1 H1 L2 H2:Int) (r1:Rd a b L1 H1) (r2:Rd c d L2 H2) (s1:Fq.snd a b = true) (s2:Fq.snd c d = true) (e1:0≤L2) (e2:0 < H2) (w:World):Calls Tryz.prog 9 #[.agg #[.int .u64 ((a:Nat):Int),.int .u64 ((b:Nat):Int)],.agg #[.int .u64 ((c:Nat):Int),.int .u64 ((d:Nat):Int)]] w fun e w'=>e = .returned (.agg #[.int .u64 ((pw (dLo K L1 H1 L2 H2):Nat):Int),.int .u64 ((pw (dHi K L1 H1 L2 H2):Nat):Int)])∧Kp w w':=by
 have n1:=rd_snd a b L1 H1 r1 s1
 have n2:=rd_snd c d L2 H2 r2 s2
 have l1:=natAbs_bd L1 r1.vd.lo
 have l2:=natAbs_bd H1 r1.vd.hi
 have l3:=natAbs_bd L2 r2.vd.lo
 have l4:=natAbs_bd H2 r2.vd.hi
 have v1:=r1.vd
 have v2:=r2.vd
 unfold VdZ at v1 v2
 have pL1:Fq.plz (decide (L1 < 0)) L1.natAbs = L1:=plz_pw L1
 have pH1:Fq.plz (decide (H1 < 0)) H1.natAbs = H1:=plz_pw H1
 have pL2:Fq.plz (decide (L2 < 0)) L2.natAbs = L2:=plz_pw L2
 have pH2:Fq.plz (decide (H2 < 0)) H2.natAbs = H2:=plz_pw H2
 have e3:L2 < 9218868437227405312:=by omega
 obtain ⟨y3,y4,y5,y6,y7,y8⟩:=wayP K L1 H1 L2 H2 (by omega) (by omega)
 have ho1:=fun (W:World)=>ofSound_ a b ha hb s1 _ _ _ _ l1 l2 r1.2.2.2.1 r1.2.2.2.2 W
 have ho2:=fun (W:World)=>ofSound_ c d hc hd s2 _ _ _ _ l3 l4 r2.2.2.2.1 r2.2.2.2.2 W
 have hl:=fun (W:World) (v:Value)=>leastD_ K (jC H2.natAbs * (if L2.natAbs = 0 then 1 else jC L2.natAbs)) 0 hK _ _ y3 y4 y5 y6 W v
 rw [y7,y8] at hl
 have hB:=fun (W:World) (u v:Value)=>byP_ K hK (decide (L1 < 0)) (decide (H1 < 0)) (decide (L2 < 0)) (decide (H2 < 0)) L1.natAbs H1.natAbs L2.natAbs H2.natAbs l1 l2 l3 l4 (by rw [pL2];exact e1) (by rw [pL2];exact e3) (by rw [pH2];exact e2) W u v
 rw [pL1,pH1] at hB
 exact rdiv6c_ _ _ _ _ _ _ _ _ _ w (fun W W' v g h=>h.kp g) (fun W _=>ho1 W) (fun W _=>ho2 W) (fun W u v _ h1 h2=>(hB W u v h1 h2).mono (fun e w' ⟨v',e1,h1,g1⟩=>⟨v',e1,h1.mono (Nat.zero_le _),g1⟩)) (fun W v _ h=>hl W v h)

theorem rdvoid (x y:Nat) (hx:x < 18446744073709551616) (hy:y < 18446744073709551616) (L H:Int) (r:Rd x y L H) (s:Fq.snd x y = false):L = 9218868437227405312:=by
 have r2:=rd_void x y hx hy s
 have e:=r.2.2.2.1
 rw [r2.2.2.2.1] at e
 exact ((pw_inj 9218868437227405312 L (by unfold BdZ;omega) r.vd.lo).1 e).symm
theorem div_both6 (a b c d:Nat) (ha:a < 18446744073709551616) (hb:b < 18446744073709551616) (hc:c < 18446744073709551616) (hd:d < 18446744073709551616):∃ LO HI:Nat,(∀ w:World,Fq.Tab w→Calls Tryz.prog 7 #[.agg #[.float .f64 a,.float .f64 b],.agg #[.float .f64 c,.float .f64 d]] w fun e w'=>e = .returned (.agg #[.float .f64 LO,.float .f64 HI])∧Kp w w')∧(∀ w:World,Calls Tryz.prog 9 #[.agg #[.int .u64 ((a:Nat):Int),.int .u64 ((b:Nat):Int)],.agg #[.int .u64 ((c:Nat):Int),.int .u64 ((d:Nat):Int)]] w fun e w'=>e = .returned (.agg #[.int .u64 ((LO:Nat):Int),.int .u64 ((HI:Nat):Int)])∧Kp w w'):=by
 obtain ⟨K,hK⟩:∃ K:Nat,K = 1074:=⟨_,rfl⟩
 obtain ⟨L1,H1,r1⟩:=Rd.ex a b ha hb
 obtain ⟨L2,H2,r2⟩:=Rd.ex c d hc hd
 refine ⟨pw (dLo K L1 H1 L2 H2),pw (dHi K L1 H1 L2 H2),fun w hQ=>div9Q_ K hK a b c d L1 H1 L2 H2 r1 r2 w hQ,fun w=>?_⟩
 have dv0:L1 = 9218868437227405312∨L2 = 9218868437227405312∨(L2 = 0∧H2 = 0)→pw (dLo K L1 H1 L2 H2) = 9218868437227405312∧pw (dHi K L1 H1 L2 H2) = 18442240474082181120:=by
  intro h
  rw [← pw_I,← pw_MI]
  unfold dLo dHi bLo bHi
  by_cases h0:L1 = 9218868437227405312∨L2 = 9218868437227405312
  ·rw [if_pos h0,if_pos h0];exact ⟨rfl,rfl⟩
  ·have h3:L2 = 0∧H2 = 0:=by omega
   rw [if_neg h0,if_neg h0,if_pos (by omega),if_pos h3,if_pos (by omega),if_pos h3];exact ⟨rfl,rfl⟩
 by_cases s2:Fq.snd c d = true
 case neg =>
  have s2:Fq.snd c d = false:=by simpa using s2
  have e:=dv0 (Or.inr (Or.inl (rdvoid c d hc hd L2 H2 r2 s2)))
  rw [e.1,e.2]
  exact rdiv6c_ _ _ _ _ _ _ (fun _ v=>SV0 (!(Fq.snd a b)) v) (fun _ v=>SV0 true v) (fun _ v=>SV0 true v) w (fun W W' v g h=>h) (fun W _=>of0_ a b ha hb W) (fun W _=>ofEmpty_ c d hc hd s2 W) (fun W u v _ h1 h2=>byV_ _ W u v h1 h2) (fun W v _ h=>leastN_ W v h)
 have l3:=natAbs_bd L2 r2.vd.lo
 have l4:=natAbs_bd H2 r2.vd.hi
 have n2:=rd_snd c d L2 H2 r2 s2
 have v2:=r2.vd
 unfold VdZ at v2
 have y1:L2 < 9218868437227405312:=by omega
 have y2:-9218868437227405312 < H2:=by omega
 by_cases s1:Fq.snd a b = true
 case neg =>
  have s1:Fq.snd a b = false:=by simpa using s1
  have ho2:=fun (W:World)=>ofSound_ c d hc hd s2 _ _ _ _ l3 l4 r2.2.2.2.1 r2.2.2.2.2 W
  have pL2:Fq.plz (decide (L2 < 0)) L2.natAbs = L2:=plz_pw L2
  have pH2:Fq.plz (decide (H2 < 0)) H2.natAbs = H2:=plz_pw H2
  have e:=dv0 (Or.inl (rdvoid a b ha hb L1 H1 r1 s1))
  rw [e.1,e.2]
  exact rdiv6c_ _ _ _ _ _ _ (fun _ v=>SV0 true v) _ (fun _ v=>SV0 true v) w (fun W W' v g h=>h) (fun W _=>ofEmpty_ a b ha hb s1 W) (fun W _=>ho2 W) (fun W u v _ h1 h2=>byS_ K hK _ _ _ _ l3 l4 (by rw [pL2];exact y1) (by rw [pH2];exact y2) W u v h1 h2) (fun W v _ h=>leastN_ W v h)
 by_cases e1:L2 < 0
 ·by_cases e2:0 < H2
  ·exact divWB_ K hK a b c d ha hb hc hd L1 H1 L2 H2 r1 r2 s1 s2 e1 e2 w
  ·exact divWN_ K hK a b c d ha hb hc hd L1 H1 L2 H2 r1 r2 s1 s2 e1 (by omega) w
 ·by_cases e2:0 < H2
  ·exact divWP_ K hK a b c d ha hb hc hd L1 H1 L2 H2 r1 r2 s1 s2 (by omega) e2 w
  ·have z1:L2 = 0:=by omega
   have z2:H2 = 0:=by omega
   have ho2:=fun (W:World)=>ofSound_ c d hc hd s2 _ _ _ _ l3 l4 r2.2.2.2.1 r2.2.2.2.2 W
   have pL2:Fq.plz (decide (L2 < 0)) L2.natAbs = L2:=plz_pw L2
   have pH2:Fq.plz (decide (H2 < 0)) H2.natAbs = H2:=plz_pw H2
   have e:=dv0 (Or.inr (Or.inr ⟨z1,z2⟩))
   rw [e.1,e.2]
   exact rdiv6c_ _ _ _ _ _ _ (fun _ v=>SV0 (!(Fq.snd a b)) v) _ (fun _ v=>SV0 true v) w (fun W W' v g h=>h) (fun W _=>of0_ a b ha hb W) (fun W _=>ho2 W) (fun W u v _ h1 h2=>byO_ _ _ _ _ _ (by rw [pL2];exact z1) (by rw [pH2];exact z2) W u v h1 h2) (fun W v _ h=>leastN_ W v h)
theorem ivdivs_ (a b c d:Nat) (ha:a < 18446744073709551616) (hb:b < 18446744073709551616) (hc:c < 18446744073709551616) (hd:d < 18446744073709551616) (w:World) (hQ:Fq.Tab w):Calls Tryz.prog 3 #[.agg #[.int .u64 ((a:Nat):Int),.int .u64 ((b:Nat):Int)],.agg #[.int .u64 ((c:Nat):Int),.int .u64 ((d:Nat):Int)]] w fun e w'=>e = .returned (.bool true)∧Kp w w':=by
 obtain ⟨LO,HI,hP0,hR⟩:=div_both6 a b c d ha hb hc hd
 have hP:∀ W:World,Kp w W→Calls Tryz.prog 7 #[.agg #[.float .f64 a,.float .f64 b],.agg #[.float .f64 c,.float .f64 d]] W fun e w'=>e = .returned (.agg #[.float .f64 LO,.float .f64 HI])∧Kp W w':=fun W g=>hP0 W (Fq.Tab.grown hQ g)
 have h1:=Fq.in_ a b
 have h2:=Fq.in_ c d
 have hO:=Fq.out_ LO HI
 clear hP0 hQ ha hb hc hd
 generalize (LO:Int) = LI at hR hO
 generalize (HI:Int) = HJ at hR hO
 generalize (a:Int) = X at h1 hR ⊢
 generalize (b:Int) = Y at h1 hR ⊢
 generalize (c:Int) = Z at h2 hR ⊢
 generalize (d:Int) = V at h2 hR ⊢
 go_enter Tryz.func3,Tryz.ntmps3
 go_wp2
 refine Fq.wp_region_grow (by kernel_rfl) (by kernel_rfl) (fun ι _ G hG hall=>?_)
 have cc0:∀ n,(G n).cell? ⟨w.heap.size,0,none⟩ = some (.int .u64 X):=fun n=>Fq.gkeep (hG n) (by simp [go_sem])
 have cc1:∀ n,(G n).cell? ⟨w.heap.size,1,none⟩ = some (.int .u64 Y):=fun n=>Fq.gkeep (hG n) (by simp [go_sem])
 have cc2:∀ n,(G n).cell? ⟨w.heap.size + 1,0,none⟩ = some (.int .u64 Z):=fun n=>Fq.gkeep (hG n) (by simp [go_sem])
 have cc3:∀ n,(G n).cell? ⟨w.heap.size + 1,1,none⟩ = some (.int .u64 V):=fun n=>Fq.gkeep (hG n) (by simp [go_sem])
 have kG:∀ n,Kp w (G n):=fun n=>Kp.trans (((Kp.refl w).alloc _).alloc _) (hG n)
 repeat (go_big_quiet_step (first | (go_at_call_of 8 (Value.int .u64 X);exact (h1 _).mono (fun e w' h=>⟨h.1,hall _ (Fq.gtrans (hG _) h.2)⟩)) | (go_at_call_of 8 (Value.int .u64 Z);exact (h2 _).mono (fun e w' h=>⟨h.1,hall _ (Fq.gtrans (hG _) h.2)⟩)) | (go_at_call 7;exact (hP _ (kG _)).mono (fun e w' h=>⟨h.1,hall _ (Fq.gtrans (hG _) h.2)⟩)) | (go_at_call 6;exact (hO _).mono (fun e w' h=>⟨h.1,hall _ (Fq.gtrans (hG _) h.2)⟩)) | (go_at_call 9;exact (hR _).mono (fun e w' h=>⟨h.1,hall _ (Fq.gtrans (hG _) h.2)⟩))))
 refine wpQuiet_nil ?_
 rintro _ ⟨nq,rfl⟩
 have gq:=kG nq
 clear cc0 cc1 cc2 cc3 hall hG kG
 go_wp2
 exact bodyPost_ret (v:=.bool true) (by simp [results,Tryz.results3,go_sem]) rfl ⟨rfl,gq⟩
end Go.Proofs.YtngglmnhjjlgkaaGreatDoor
