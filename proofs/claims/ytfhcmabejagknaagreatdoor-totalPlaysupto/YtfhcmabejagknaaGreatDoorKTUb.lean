import Derived.Test.YtfhcmabejagknaaGreatDoorKTOv
import Derived.Test.YtfhcmabejagknaaGreatDoorKTSa
set_option maxHeartbeats 3000000
set_option maxRecDepth 20000
namespace Go.Proofs.YtfhcmabejagknaaGreatDoor
open Go.RowKit
theorem staddG_ (X K:Nat) (hK:K = 1074) (hX:X < 18446744073709551616) (b:Nat) (V:Int) (k:Nat) (s:Int) (w:World) (h:St w b V k s):Calls Tryz.prog 8 #[.pointer (some ⟨b,0,none⟩),.float .f64 X] w fun e w'=>(∃ v,e = .returned v)∧St w' b (V + xV X K) ((k + 1) % 18446744073709551616) (grS ((k + 1) % 18446744073709551616) (jn s (xS X)))∧Kb b w w':=by
  obtain ⟨ws,h1,h2⟩:=h
  obtain ⟨n,m,hm,rfl⟩:=Fq.exD X hX
  obtain ⟨p1,p2⟩:=wD_parts n m hm
  unfold xV xS
  rw [p1,p2]
  by_cases c:m < 9218868437227405312
  · rw [if_pos c,fin0 n m c]
    refine (add_ n m K hK c b ws V h1 k s w h2).mono ?_
    rintro e w' ⟨us,hv,hS,hR,g⟩
    exact ⟨hv,⟨us,hR,hS⟩,g⟩
  · rw [if_neg c,Int.add_zero]
    refine (addX_ n m (by omega) hm b ws k s w h2).mono ?_
    rintro e w' ⟨hv,hS,g⟩
    exact ⟨hv,⟨ws,h1,hS⟩,g⟩
theorem stmulG_ (X Y:Nat) (hX:X < 18446744073709551616) (hY:Y < 18446744073709551616) (b:Nat) (V:Int) (k:Nat) (s:Int) (w:World) (h:St w b V k s):Calls Tryz.prog 11 #[.pointer (some ⟨b,0,none⟩),.float .f64 X,.float .f64 Y] w fun e w'=>(∃ v,e = .returned v)∧St w' b (V + yV X Y) ((k + 1) % 18446744073709551616) (grS ((k + 1) % 18446744073709551616) (jn s (yS X Y)))∧Kb b w w':=by
  obtain ⟨ws,h1,h2⟩:=h
  obtain ⟨n,m,hm,rfl⟩:=Fq.exD X hX
  obtain ⟨n',m',hm',rfl⟩:=Fq.exD Y hY
  obtain ⟨p1,p2⟩:=wD_parts n m hm
  obtain ⟨q1,q2⟩:=wD_parts n' m' hm'
  unfold yV yS
  rw [p1,p2,q1,q2]
  by_cases c:m < 9218868437227405312∧m' < 9218868437227405312
  · rw [if_pos c,if_pos c]
    refine (mul_ n n' m m' c.1 c.2 b ws V h1 k s w h2).mono ?_
    rintro e w' ⟨us,hv,hS,hR,g⟩
    exact ⟨hv,⟨us,hR,hS⟩,g⟩
  · rw [if_neg c,if_neg c,Int.add_zero]
    obtain ⟨a1,c1,d1,hs1⟩:=splitA_ n m hm
    obtain ⟨a2,c2,d2,hs2⟩:=splitA_ n' m' hm'
    have hok:decide (m < 9218868437227405312) = false∨(decide (m < 9218868437227405312) = true∧decide (m' < 9218868437227405312) = false):=by
      by_cases z:m < 9218868437227405312
      · exact Or.inr ⟨decide_eq_true z,decide_eq_false (fun h=>c ⟨z,h⟩)⟩
      · exact Or.inl (decide_eq_false z)
    by_cases cb:9218868437227405312 < m∨9218868437227405312 < m'∨(m = 9218868437227405312∧m' = 0)∨(m = 0∧m' = 9218868437227405312)
    · rw [if_pos cb]
      refine (mulN_ _ _ a1 a2 c1 d1 c2 d2 _ _ b ws k s hs1 hs2 hok (fun w=>run_nan_mul _ _ (mul_bad n n' m m' hm hm' cb) w) w h2).mono ?_
      rintro e w' ⟨hv,hS,g⟩
      exact ⟨hv,⟨ws,h1,hS⟩,g⟩
    · rw [if_neg cb]
      have hmi:=mul_inf n n' m m' cb c
      have hts:tS (n ^^ n') 9218868437227405312 = if (n ^^ n') then -1 else 1:=by unfold tS;rw [if_neg (by decide),if_pos rfl]
      refine (mulI_ _ _ a1 a2 c1 d1 c2 d2 _ _ b ws k s hs1 hs2 hok (Fq.wD (n ^^ n') 9218868437227405312) _ (fun w=>run_float_arith w .mul 43 .f64 _ _ _ hmi) (fun w h=>by have:=addX_ (n ^^ n') 9218868437227405312 (Nat.le_refl _) (by decide) b ws k s w h;rw [hts] at this;exact this) w h2).mono ?_
      rintro e w' ⟨hv,hS,g⟩
      exact ⟨hv,⟨ws,h1,hS⟩,g⟩
theorem H7c.put3 {w:World} {b:Nat} {v0 v1 v2 v3 v4 v5 v6:Value} (h:H7c w b v0 v1 v2 v3 v4 v5 v6) (u0 u1 u2:Value):H7c (((w.setCell ⟨b,0,none⟩ u0).setCell ⟨b,1,none⟩ u1).setCell ⟨b,2,none⟩ u2) b u0 u1 u2 v3 v4 v5 v6:=by
  obtain ⟨h0,h1,h2,h3,h4,h5,h6,f0,f1,f2,f3,f4,f5,f6⟩:=h
  unfold H7c;simp [go_sem,h0,h1,h2,h3,h4,h5,h6,f0,f1,f2,f3,f4,f5,f6]
theorem rmerge4_ s1 p1 l1 c1 q1 k1 d1 s2 p2 l2 c2 q2 k2 d2 (P M N N1 P2 M2 N2 P3 M3 N3:Bool) (hP3:P3 = (P || P2)) (hM3:M3 = (M || M2)) (hN3:N3 = (N1 || N2)) (T T2:Nat) (TT:Int) (V V2:Int) (E B:Nat) (hB:B≤60000) (hE:E≤60000) (hV:V.natAbs < 2 ^ B) (hV2:V2.natAbs < 2 ^ B) (b1 b2:Nat) (w:World) (h1:Dy b1 w s1 p1 l1 c1 q1 k1 d1 V E) (h2:Dy b2 w s2 p2 l2 c2 q2 k2 d2 V2 E) (hmo:∀ w:World,Calls Tryz.prog 34 #[.agg #[.bool s1,.slice p1 l1 c1,.slice q1 k1 d1,.bool P,.bool M,.bool N,.int .u64 (T:Int)],.int .u64 (T2:Int)] w fun e w'=>e = .returned (.agg #[.bool s1,.slice p1 l1 c1,.slice q1 k1 d1,.bool P,.bool M,.bool N1,.int .u64 TT])∧Kp w w'):Calls Tryz.prog 14 #[.agg #[.bool s1,.slice p1 l1 c1,.slice q1 k1 d1,.bool P,.bool M,.bool N,.int .u64 (T:Int)],.agg #[.bool s2,.slice p2 l2 c2,.slice q2 k2 d2,.bool P2,.bool M2,.bool N2,.int .u64 (T2:Int)]] w fun e w'=>∃ s3 p3 l3 c3 q3 k3 d3,e = .returned (.agg #[.bool s3,.slice p3 l3 c3,.slice q3 k3 d3,.bool P3,.bool M3,.bool N3,.int .u64 TT])∧Dy w.heap.size w' s3 p3 l3 c3 q3 k3 d3 (V + V2) E∧Kp w w':=by
  have hra:=fun (W:World) (g:Kp w W)=>dyadd_ s1 p1 l1 c1 q1 k1 d1 s2 p2 l2 c2 q2 k2 d2 V V2 E B hB hE hV hV2 b1 b2 W (h1.kp g) (h2.kp g)
  have h7:H7c (((w.alloc (.cells #[.bool s1,.slice p1 l1 c1,.slice q1 k1 d1,.bool P,.bool M,.bool N,.int .u64 (T:Int)] 30)).alloc (.cells #[.bool s2,.slice p2 l2 c2,.slice q2 k2 d2,.bool P2,.bool M2,.bool N2,.int .u64 (T2:Int)] 30)).alloc (.cells #[.bool false,.slice none 0 0,.slice none 0 0,.bool false,.bool false,.bool false,.int .u64 0] 30)) w.heap.size (.bool s1) (.slice p1 l1 c1) (.slice q1 k1 d1) (.bool P) (.bool M) (.bool N) (.int .u64 (T:Int)):=((H7c.new w (.bool s1) (.slice p1 l1 c1) (.slice q1 k1 d1) (.bool P) (.bool M) (.bool N) (.int .u64 (T:Int)) 30).keep ((Kp.refl _).alloc _)).keep ((Kp.refl _).alloc _)
  have h8:H7c (((w.alloc (.cells #[.bool s1,.slice p1 l1 c1,.slice q1 k1 d1,.bool P,.bool M,.bool N,.int .u64 (T:Int)] 30)).alloc (.cells #[.bool s2,.slice p2 l2 c2,.slice q2 k2 d2,.bool P2,.bool M2,.bool N2,.int .u64 (T2:Int)] 30)).alloc (.cells #[.bool false,.slice none 0 0,.slice none 0 0,.bool false,.bool false,.bool false,.int .u64 0] 30)) (w.heap.size + 1) (.bool s2) (.slice p2 l2 c2) (.slice q2 k2 d2) (.bool P2) (.bool M2) (.bool N2) (.int .u64 (T2:Int)):=by
    have:=H7c.new (w.alloc (.cells #[.bool s1,.slice p1 l1 c1,.slice q1 k1 d1,.bool P,.bool M,.bool N,.int .u64 (T:Int)] 30)) (.bool s2) (.slice p2 l2 c2) (.slice q2 k2 d2) (.bool P2) (.bool M2) (.bool N2) (.int .u64 (T2:Int)) 30
    exact H7c.keep (by simpa using this) ((Kp.refl _).alloc _)
  have h9:H7c (((w.alloc (.cells #[.bool s1,.slice p1 l1 c1,.slice q1 k1 d1,.bool P,.bool M,.bool N,.int .u64 (T:Int)] 30)).alloc (.cells #[.bool s2,.slice p2 l2 c2,.slice q2 k2 d2,.bool P2,.bool M2,.bool N2,.int .u64 (T2:Int)] 30)).alloc (.cells #[.bool false,.slice none 0 0,.slice none 0 0,.bool false,.bool false,.bool false,.int .u64 0] 30)) (w.heap.size + 2) (.bool false) (.slice none 0 0) (.slice none 0 0) (.bool false) (.bool false) (.bool false) (.int .u64 0):=by
    have:=H7c.new ((w.alloc (.cells #[.bool s1,.slice p1 l1 c1,.slice q1 k1 d1,.bool P,.bool M,.bool N,.int .u64 (T:Int)] 30)).alloc (.cells #[.bool s2,.slice p2 l2 c2,.slice q2 k2 d2,.bool P2,.bool M2,.bool N2,.int .u64 (T2:Int)] 30)) (.bool false) (.slice none 0 0) (.slice none 0 0) (.bool false) (.bool false) (.bool false) (.int .u64 0) 30
    simpa using this
  have kw:Kp w (((w.alloc (.cells #[.bool s1,.slice p1 l1 c1,.slice q1 k1 d1,.bool P,.bool M,.bool N,.int .u64 (T:Int)] 30)).alloc (.cells #[.bool s2,.slice p2 l2 c2,.slice q2 k2 d2,.bool P2,.bool M2,.bool N2,.int .u64 (T2:Int)] 30)).alloc (.cells #[.bool false,.slice none 0 0,.slice none 0 0,.bool false,.bool false,.bool false,.int .u64 0] 30)):=(((Kp.refl w).alloc _).alloc _).alloc _
  have hb1:w.heap.size≤w.heap.size:=Nat.le_refl _
  clear h1 h2 hB hE hV hV2
  go_enter Tryz.func14,Tryz.ntmps14
  go_upto_region 1 with fail
  generalize (((w.alloc (.cells #[.bool s1,.slice p1 l1 c1,.slice q1 k1 d1,.bool P,.bool M,.bool N,.int .u64 (T:Int)] 30)).alloc (.cells #[.bool s2,.slice p2 l2 c2,.slice q2 k2 d2,.bool P2,.bool M2,.bool N2,.int .u64 (T2:Int)] 30)).alloc (.cells #[.bool false,.slice none 0 0,.slice none 0 0,.bool false,.bool false,.bool false,.int .u64 0] 30)) = W0 at *
  generalize hb9:w.heap.size = b at h7 h8 h9 ⊢
  rw [hb9] at hb1
  have hbw:w.heap.size≤b:=by rw [hb9];exact hb1
  obtain ⟨r0,r1,r2,r3,r4,r5,r6,r7,r8,r9,r10,r11,r12,r13⟩:=id h7
  obtain ⟨t0,t1,t2,t3,t4,t5,t6,t7,t8,t9,t10,t11,t12,t13⟩:=id h8
  go_upto_region 2 with (first | (go_at_call 34;refine (hmo _).mono ?_;rintro e W1 ⟨rfl,g1⟩;replace h7:=h7.keep g1;replace h8:=h8.keep g1;replace h9:=h9.keep g1;replace kw:=kw.trans g1;clear r0 r1 r2 r3 r4 r5 r6 r7 r8 r9 r10 r11 r12 r13 t0 t1 t2 t3 t4 t5 t6 t7 t8 t9 t10 t11 t12 t13;obtain ⟨r0,r1,r2,r3,r4,r5,r6,r7,r8,r9,r10,r11,r12,r13⟩:=id h7;obtain ⟨t0,t1,t2,t3,t4,t5,t6,t7,t8,t9,t10,t11,t12,t13⟩:=id h8))
  have q7:=H7c.put h7 (.bool s1) (.slice p1 l1 c1) (.slice q1 k1 d1) (.bool P) (.bool M) (.bool N1) (.int .u64 TT)
  have q8:H7c (((((((W1.setCell ⟨b,0,none⟩ (.bool s1)).setCell ⟨b,1,none⟩ (.slice p1 l1 c1)).setCell ⟨b,2,none⟩ (.slice q1 k1 d1)).setCell ⟨b,3,none⟩ (.bool P)).setCell ⟨b,4,none⟩ (.bool M)).setCell ⟨b,5,none⟩ (.bool N1)).setCell ⟨b,6,none⟩ (.int .u64 TT)) (b + 1) (.bool s2) (.slice p2 l2 c2) (.slice q2 k2 d2) (.bool P2) (.bool M2) (.bool N2) (.int .u64 (T2:Int)):=(H7c.far1 (H7c.far1 (H7c.far1 (H7c.far1 (H7c.far1 (H7c.far1 (H7c.far1 h8 ⟨b,0,none⟩ (show b≠b + 1 by omega) _) ⟨b,1,none⟩ (show b≠b + 1 by omega) _) ⟨b,2,none⟩ (show b≠b + 1 by omega) _) ⟨b,3,none⟩ (show b≠b + 1 by omega) _) ⟨b,4,none⟩ (show b≠b + 1 by omega) _) ⟨b,5,none⟩ (show b≠b + 1 by omega) _) ⟨b,6,none⟩ (show b≠b + 1 by omega) _)
  have q9:H7c (((((((W1.setCell ⟨b,0,none⟩ (.bool s1)).setCell ⟨b,1,none⟩ (.slice p1 l1 c1)).setCell ⟨b,2,none⟩ (.slice q1 k1 d1)).setCell ⟨b,3,none⟩ (.bool P)).setCell ⟨b,4,none⟩ (.bool M)).setCell ⟨b,5,none⟩ (.bool N1)).setCell ⟨b,6,none⟩ (.int .u64 TT)) (b + 2) (.bool false) (.slice none 0 0) (.slice none 0 0) (.bool false) (.bool false) (.bool false) (.int .u64 0):=(H7c.far1 (H7c.far1 (H7c.far1 (H7c.far1 (H7c.far1 (H7c.far1 (H7c.far1 h9 ⟨b,0,none⟩ (show b≠b + 2 by omega) _) ⟨b,1,none⟩ (show b≠b + 2 by omega) _) ⟨b,2,none⟩ (show b≠b + 2 by omega) _) ⟨b,3,none⟩ (show b≠b + 2 by omega) _) ⟨b,4,none⟩ (show b≠b + 2 by omega) _) ⟨b,5,none⟩ (show b≠b + 2 by omega) _) ⟨b,6,none⟩ (show b≠b + 2 by omega) _)
  have kq:Kp w (((((((W1.setCell ⟨b,0,none⟩ (.bool s1)).setCell ⟨b,1,none⟩ (.slice p1 l1 c1)).setCell ⟨b,2,none⟩ (.slice q1 k1 d1)).setCell ⟨b,3,none⟩ (.bool P)).setCell ⟨b,4,none⟩ (.bool M)).setCell ⟨b,5,none⟩ (.bool N1)).setCell ⟨b,6,none⟩ (.int .u64 TT)):=(((((((kw.setCell hbw _).setCell hbw _).setCell hbw _).setCell hbw _).setCell hbw _).setCell hbw _).setCell hbw _)
  generalize (((((((W1.setCell ⟨b,0,none⟩ (.bool s1)).setCell ⟨b,1,none⟩ (.slice p1 l1 c1)).setCell ⟨b,2,none⟩ (.slice q1 k1 d1)).setCell ⟨b,3,none⟩ (.bool P)).setCell ⟨b,4,none⟩ (.bool M)).setCell ⟨b,5,none⟩ (.bool N1)).setCell ⟨b,6,none⟩ (.int .u64 TT)) = W2 at q7 q8 q9 kq ⊢
  clear h7 h8 h9 kw r0 r1 r2 r3 r4 r5 r6 r7 r8 r9 r10 r11 r12 r13 t0 t1 t2 t3 t4 t5 t6 t7 t8 t9 t10 t11 t12 t13 hmo
  obtain ⟨r0,r1,r2,r3,r4,r5,r6,r7,r8,r9,r10,r11,r12,r13⟩:=id q7
  obtain ⟨t0,t1,t2,t3,t4,t5,t6,t7,t8,t9,t10,t11,t12,t13⟩:=id q8
  go_upto_region 3 with (first | (go_at_call 38;refine (hra _ kq).mono ?_;rintro e W4 ⟨s3,p3,l3,c3,q3,k3,d3,rfl,D3,g4⟩;have kw4:=kq.trans g4;have h74:=q7.keep g4;have h84:=q8.keep g4;have h94:=q9.keep g4;clear r0 r1 r2 r3 r4 r5 r6 r7 r8 r9 r10 r11 r12 r13 t0 t1 t2 t3 t4 t5 t6 t7 t8 t9 t10 t11 t12 t13;obtain ⟨r0,r1,r2,r3,r4,r5,r6,r7,r8,r9,r10,r11,r12,r13⟩:=id h74;obtain ⟨t0,t1,t2,t3,t4,t5,t6,t7,t8,t9,t10,t11,t12,t13⟩:=id h84))
  have hl3:=q9.lt
  have p7:=H7c.put3 h74 (.bool s3) (.slice p3 l3 c3) (.slice q3 k3 d3)
  have p8:H7c (((W4.setCell ⟨b,0,none⟩ (.bool s3)).setCell ⟨b,1,none⟩ (.slice p3 l3 c3)).setCell ⟨b,2,none⟩ (.slice q3 k3 d3)) (b + 1) (.bool s2) (.slice p2 l2 c2) (.slice q2 k2 d2) (.bool P2) (.bool M2) (.bool N2) (.int .u64 (T2:Int)):=(H7c.far1 (H7c.far1 (H7c.far1 h84 ⟨b,0,none⟩ (show b≠b + 1 by omega) _) ⟨b,1,none⟩ (show b≠b + 1 by omega) _) ⟨b,2,none⟩ (show b≠b + 1 by omega) _)
  have p9:H7c (((W4.setCell ⟨b,0,none⟩ (.bool s3)).setCell ⟨b,1,none⟩ (.slice p3 l3 c3)).setCell ⟨b,2,none⟩ (.slice q3 k3 d3)) (b + 2) (.bool false) (.slice none 0 0) (.slice none 0 0) (.bool false) (.bool false) (.bool false) (.int .u64 0):=(H7c.far1 (H7c.far1 (H7c.far1 h94 ⟨b,0,none⟩ (show b≠b + 2 by omega) _) ⟨b,1,none⟩ (show b≠b + 2 by omega) _) ⟨b,2,none⟩ (show b≠b + 2 by omega) _)
  have k5:Kp w (((W4.setCell ⟨b,0,none⟩ (.bool s3)).setCell ⟨b,1,none⟩ (.slice p3 l3 c3)).setCell ⟨b,2,none⟩ (.slice q3 k3 d3)):=(((kw4.setCell hbw _).setCell hbw _).setCell hbw _)
  have D5:Dy W2.heap.size (((W4.setCell ⟨b,0,none⟩ (.bool s3)).setCell ⟨b,1,none⟩ (.slice p3 l3 c3)).setCell ⟨b,2,none⟩ (.slice q3 k3 d3)) s3 p3 l3 c3 q3 k3 d3 (V + V2) E:=(Dy.set (Dy.set (Dy.set D3 (x:=⟨b,0,none⟩) (show b < W2.heap.size by omega) _) (x:=⟨b,1,none⟩) (show b < W2.heap.size by omega) _) (x:=⟨b,2,none⟩) (show b < W2.heap.size by omega) _)
  generalize (((W4.setCell ⟨b,0,none⟩ (.bool s3)).setCell ⟨b,1,none⟩ (.slice p3 l3 c3)).setCell ⟨b,2,none⟩ (.slice q3 k3 d3)) = W5 at p7 p8 p9 k5 D5 ⊢
  clear h74 h84 h94 kw4 D3 r0 r1 r2 r3 r4 r5 r6 r7 r8 r9 r10 r11 r12 r13 t0 t1 t2 t3 t4 t5 t6 t7 t8 t9 t10 t11 t12 t13 q7 q8 q9 g4 hra
  have hk3:=kq.size
  clear kq
  obtain ⟨r0,r1,r2,r3,r4,r5,r6,r7,r8,r9,r10,r11,r12,r13⟩:=id p7
  obtain ⟨t0,t1,t2,t3,t4,t5,t6,t7,t8,t9,t10,t11,t12,t13⟩:=id p8
  obtain ⟨z0,z1,z2,z3,z4,z5,z6,z7,z8,z9,z10,z11,z12,z13⟩:=id p9
  clear p7 p8 p9
  cases P <;> cases M <;> cases N1
  all_goals (
    go_wp2
    refine bodyPost_ret (v:=.agg #[.bool s3,.slice p3 l3 c3,.slice q3 k3 d3,.bool P3,.bool M3,.bool N3,.int .u64 TT]) (by simp [results,Tryz.results14,go_sem,hP3,hM3,hN3,z0,z1,z2,z3,z4,z5,z6]) rfl ⟨s3,p3,l3,c3,q3,k3,d3,rfl, ?_, ?_⟩
    · refine Dy.mono ?_ hk3
      exact (Dy.set (Dy.set (Dy.set (Dy.set (Dy.set (Dy.set (Dy.set (Dy.set (Dy.set (Dy.set D5 (x:=⟨b,3,none⟩) (show b < W2.heap.size by omega) _) (x:=⟨b,4,none⟩) (show b < W2.heap.size by omega) _) (x:=⟨b,5,none⟩) (show b < W2.heap.size by omega) _) (x:=⟨b + 2,0,none⟩) (show b + 2 < W2.heap.size by omega) _) (x:=⟨b + 2,1,none⟩) (show b + 2 < W2.heap.size by omega) _) (x:=⟨b + 2,2,none⟩) (show b + 2 < W2.heap.size by omega) _) (x:=⟨b + 2,3,none⟩) (show b + 2 < W2.heap.size by omega) _) (x:=⟨b + 2,4,none⟩) (show b + 2 < W2.heap.size by omega) _) (x:=⟨b + 2,5,none⟩) (show b + 2 < W2.heap.size by omega) _) (x:=⟨b + 2,6,none⟩) (show b + 2 < W2.heap.size by omega) _)
    · exact ((((((((((k5.setCell hbw _).setCell hbw _).setCell hbw _).setCell (show w.heap.size≤b + 2 by omega) _).setCell (show w.heap.size≤b + 2 by omega) _).setCell (show w.heap.size≤b + 2 by omega) _).setCell (show w.heap.size≤b + 2 by omega) _).setCell (show w.heap.size≤b + 2 by omega) _).setCell (show w.heap.size≤b + 2 by omega) _).setCell (show w.heap.size≤b + 2 by omega) _))

def Sq (U V:Int) (k T:Nat) (P M N:Bool) (s:Int) (K n:Nat):Prop:=s = stI P M N∧T≤4611686018427387904∧k < 18446744073709551616∧(N = false→k = T∧U = V∧V.natAbs≤T * tb K)∧V.natAbs < 2 ^ (4300 + n)
theorem stI_ok (P M N:Bool):stI P M N = 0∨stI P M N = 1∨stI P M N = -1∨stI P M N = 2:=by cases P <;> cases M <;> cases N <;> simp [stI]
theorem stI_two (P M N P2 M2 N2:Bool):stI (P || P2) (M || M2) (N || N2) = jn (stI P M N) (stI P2 M2 N2):=by
  cases P <;> cases M <;> cases N <;> cases P2 <;> cases M2 <;> cases N2 <;> rfl
theorem stI_N (P M:Bool):stI P M true = 2:=by cases P <;> cases M <;> rfl
theorem jn2l (S:Int) (h:S = 0∨S = 1∨S = -1∨S = 2):jn 2 S = 2:=by rcases h with rfl | rfl | rfl | rfl <;> rfl
theorem jn2r (S:Int) (h:S = 0∨S = 1∨S = -1∨S = 2):jn S 2 = 2:=by rcases h with rfl | rfl | rfl | rfl <;> rfl
theorem pw_add (n a b:Nat) (ha:a < 2 ^ (4300 + n)) (hb:b < 2 ^ (4300 + n)):a + b < 2 ^ (4300 + (n + 1)):=by
  rw [show 4300 + (n + 1) = (4300 + n) + 1 from rfl,Nat.pow_succ];omega
theorem tb_lt (K n x:Nat) (hK:K = 1074) (h:x≤tb K):x < 2 ^ (4300 + n):=by
  unfold tb at h
  exact Nat.lt_of_le_of_lt h (Nat.pow_lt_pow_right (by decide) (by omega))
theorem Sq.ok {U V:Int} {k T:Nat} {P M N:Bool} {s:Int} {K n:Nat} (h:Sq U V k T P M N s K n):s = 0∨s = 1∨s = -1∨s = 2:=by rw [h.1];exact stI_ok P M N
theorem Sq.up {U V:Int} {k T:Nat} {P M N:Bool} {s:Int} {K n:Nat} (h:Sq U V k T P M N s K n):Sq U V k T P M N s K (n + 1):=by
  obtain ⟨h1,h2,h3,h4,h5⟩:=h
  exact ⟨h1,h2,h3,h4,Nat.lt_of_lt_of_le h5 (Nat.pow_le_pow_right (by decide) (by omega))⟩
theorem Sq.zero (K n:Nat):Sq 0 0 0 0 false false false 0 K n:=⟨rfl,by decide,by decide,fun _=>⟨rfl,rfl,by simp⟩,by simpa using Nat.two_pow_pos _⟩
theorem Sq.val {U V:Int} {k T:Nat} {P M N:Bool} {s:Int} {K n:Nat} (hK:K = 1074) (h:Sq U V k T P M N s K n) (h0:s = 0):U = V∧V.natAbs < wh:=by
  obtain ⟨h1,h2,h3,h4,h5⟩:=h
  have hN:N = false:=by
    cases N
    · rfl
    · rw [h1,stI_N] at h0;exact absurd h0 (by decide)
  obtain ⟨q1,q2,q3⟩:=h4 hN
  exact ⟨q2,Nat.lt_of_le_of_lt q3 (tb_wh K _ hK h2)⟩
theorem Sq.term {U V:Int} {k T:Nat} {P M N:Bool} {s:Int} {K n:Nat} (hK:K = 1074) (h:Sq U V k T P M N s K n) (x S:Int) (hx:x.natAbs≤tb K) (hS:S = 0∨S = 1∨S = -1∨S = 2):Sq (U + x) (V + x) ((k + 1) % 18446744073709551616) (tq T 1) (P || decide (S = 1)) (M || decide (S = -1)) (nq N T 1 || decide (S = 2)) (grS ((k + 1) % 18446744073709551616) (jn s S)) K (n + 1):=by
  obtain ⟨h1,h2,h3,h4,h5⟩:=h
  refine ⟨?_,tq_le T 1,Nat.mod_lt _ (by decide),fun hN=>?_, ?_⟩
  · cases N
    · obtain ⟨rfl,-,-⟩:=h4 rfl
      have e:(k + 1) % 18446744073709551616 = k + 1:=Nat.mod_eq_of_lt (by omega)
      rw [e,h1]
      unfold grS nq
      by_cases c:4611686018427387904 < k + 1
      · rw [if_pos c,decide_eq_true c];simp [stI]
      · rw [if_neg c,decide_eq_false c,← stI_jn P M false S hS];simp
    · rw [h1,stI_N,jn2l S hS]
      unfold grS nq
      simp [stI]
  · unfold nq at hN
    simp only [Bool.or_eq_false_iff,decide_eq_false_iff_not] at hN
    obtain ⟨⟨n1,n2⟩,n3⟩:=hN
    obtain ⟨rfl,rfl,q3⟩:=h4 n1
    refine ⟨?_,rfl, ?_⟩
    · unfold tq;rw [if_neg n2];exact Nat.mod_eq_of_lt (by omega)
    · unfold tq;rw [if_neg n2,Nat.add_mul,Nat.one_mul]
      have:=Int.natAbs_add_le U x
      omega
  · have:=Int.natAbs_add_le V x
    have q:=pw_add n _ _ h5 (tb_lt K n _ hK hx)
    omega
theorem Sq.merge {U V U2 V2:Int} {k T k2 T2:Nat} {P M N P2 M2 N2:Bool} {s s2:Int} {K n:Nat} (h:Sq U V k T P M N s K n) (g:Sq U2 V2 k2 T2 P2 M2 N2 s2 K n):Sq (U + U2) (V + V2) ((k + k2) % 18446744073709551616) (tq T T2) (P || P2) (M || M2) (nq N T T2 || N2) (grS ((k + k2) % 18446744073709551616) (jn s s2)) K (n + 1):=by
  have hs:=h.ok
  have gs:=g.ok
  obtain ⟨h1,h2,h3,h4,h5⟩:=h
  obtain ⟨g1,g2,g3,g4,g5⟩:=g
  refine ⟨?_,tq_le T T2,Nat.mod_lt _ (by decide),fun hN=>?_, ?_⟩
  · cases N
    · cases N2
      · obtain ⟨rfl,-,-⟩:=h4 rfl
        obtain ⟨rfl,-,-⟩:=g4 rfl
        have e:(k + k2) % 18446744073709551616 = k + k2:=Nat.mod_eq_of_lt (by omega)
        rw [e,h1,g1,← stI_two]
        unfold grS nq
        by_cases c:4611686018427387904 < k + k2
        · rw [if_pos c,decide_eq_true c];simp [stI]
        · rw [if_neg c,decide_eq_false c];simp
      · rw [g1,stI_N,jn2r s hs]
        unfold grS
        simp [stI]
    · rw [h1,stI_N,jn2l s2 gs]
      unfold grS nq
      simp [stI]
  · unfold nq at hN
    simp only [Bool.or_eq_false_iff,decide_eq_false_iff_not] at hN
    obtain ⟨⟨n1,n2⟩,n3⟩:=hN
    obtain ⟨rfl,rfl,q3⟩:=h4 n1
    obtain ⟨rfl,rfl,r3⟩:=g4 n3
    refine ⟨?_,rfl, ?_⟩
    · unfold tq;rw [if_neg n2];exact Nat.mod_eq_of_lt (by omega)
    · unfold tq;rw [if_neg n2,Nat.add_mul]
      have:=Int.natAbs_add_le U U2
      omega
  · have:=Int.natAbs_add_le V V2
    have q:=pw_add n _ _ h5 g5
    omega
theorem Sq.neg {U V:Int} {k T:Nat} {P M N:Bool} {s:Int} {K n:Nat} (h:Sq U V k T P M N s K n):Sq (-U) (-V) k T M P N (if s = 2 then 2 else -s) K n:=by
  obtain ⟨h1,h2,h3,h4,h5⟩:=h
  refine ⟨?_,h2,h3,fun hN=>?_,by rw [Int.natAbs_neg];exact h5⟩
  · rw [h1];cases P <;> cases M <;> cases N <;> rfl
  · obtain ⟨q1,q2,q3⟩:=h4 hN
    exact ⟨q1,by rw [q2],by rw [Int.natAbs_neg];exact q3⟩
theorem Sq.rd {U V:Int} {k T:Nat} {P M N:Bool} {s:Int} {K n:Nat} (hK:K = 1074) (h:Sq U V k T P M N s K n) (d:Int):rdW d U s = rdW d V (stI P M N):=by
  rw [← h.1];unfold rdW
  by_cases c:s = 0
  · rw [if_pos c,if_pos c,(h.val hK c).1]
  · rw [if_neg c,if_neg c]
theorem Sq.ov {U V:Int} {k T:Nat} {P M N:Bool} {s:Int} {K n:Nat} (hK:K = 1074) (h:Sq U V k T P M N s K n) (d m:Int):ovW d m U s = ovW d m V (stI P M N):=by
  rw [← h.1];unfold ovW
  by_cases c:s = 0
  · rw [if_pos c,if_pos c,(h.val hK c).1]
  · rw [if_neg c,if_neg c]
theorem Sq.rt {U V:Int} {k T:Nat} {P M N:Bool} {s:Int} {K n:Nat} (hK:K = 1074) (h:Sq U V k T P M N s K n) (d:Int):rtW d U s = rtW d V (stI P M N):=by
  rw [← h.1];unfold rtW
  by_cases c:s = 0
  · rw [if_pos c,if_pos c,(h.val hK c).1]
  · rw [if_neg c,if_neg c]
theorem Sq.sg {U V:Int} {k T:Nat} {P M N:Bool} {s:Int} {K n:Nat} (hK:K = 1074) (h:Sq U V k T P M N s K n):sgS U s = sgS V (stI P M N):=by
  rw [← h.1];unfold sgS
  by_cases c:s = 0
  · rw [if_pos c,if_pos c,(h.val hK c).1]
  · rw [if_neg c,if_neg c]
set_option linter.unusedVariables false

def TY (w:World) (c:Nat):Prop:=∃ (C:Array Value) (t:TypeId),w.heap[c]? = some (.cells C t (0,0))∧t≠86
theorem TY.lt {w:World} {c:Nat} (h:TY w c):c < w.heap.size:=by
  obtain ⟨C,t,h,-⟩:=h
  by_cases q:c < w.heap.size
  · exact q
  · rw [Array.getElem?_eq_none (by simpa using q)] at h;cases h
theorem TY.kp {w w':World} {c:Nat} (h:TY w c) (g:Kp w w'):TY w' c:=by
  have hl:=h.lt
  obtain ⟨C,t,h,ht⟩:=h
  exact ⟨C,t,(Below.block g c hl).trans h,ht⟩
theorem Own.kbT {w w':World} {base c:Nat} {v:Value} {xs:List Int} (h:Own w base v xs) (k:Kb c w w') (hc:TY w c):Own w' base v xs:=by
  refine ⟨h.1, ?_⟩
  obtain ⟨C,t,hC,ht⟩:=hc
  rcases h.2 with h' | ⟨g,cap,cur,h1,h2,h3,h4,h5,h6,h7⟩
  · exact Or.inl h'
  · have hlt:g < w.heap.size:=by
      by_cases q:g < w.heap.size
      · exact q
      · rw [Array.getElem?_eq_none (by simpa using q)] at h3;cases h3
    have hne:g≠c:=fun e=>by
      subst e
      rw [h3] at hC
      simp at hC
      exact ht hC.2.symm
    exact Or.inr ⟨g,cap,cur,h1,h2,by rw [k.2.2.2.2 g hlt hne];exact h3,h4,h5,h6,h7⟩
theorem Dy.kbT {base:Nat} {w w':World} {c:Nat} {s1:Bool} {p1:Option Addr} {l1 c1:Nat} {q1:Option Addr} {k1 d1:Nat} {V:Int} {E:Nat} (h:Dy base w s1 p1 l1 c1 q1 k1 d1 V E) (k:Kb c w w') (hc:TY w c):Dy base w' s1 p1 l1 c1 q1 k1 d1 V E:=by
  obtain ⟨a,j,h1,h2,h3⟩:=h
  exact ⟨a,j,h1.kbT k hc,h2.kbT k hc,h3⟩
theorem St.ty {w:World} {b:Nat} {V:Int} {k:Nat} {s:Int} (h:St w b V k s):TY w b:=by
  obtain ⟨ws,-,h2⟩:=h
  exact ⟨_,_,h2.2,by decide⟩
def Rq (w:World) (D:Nat→Value) (V:Int) (K T:Nat) (P M N:Bool):Prop:=∃ s1 p1 l1 c1 q1 k1 d1,(D 0 = .bool s1∧D 1 = .slice p1 l1 c1∧D 2 = .slice q1 k1 d1∧D 3 = .bool P∧D 4 = .bool M∧D 5 = .bool N∧D 6 = .int .u64 (T:Int))∧Dy 0 w s1 p1 l1 c1 q1 k1 d1 V (K + K)
theorem Rq.kp {w w':World} {D:Nat→Value} {V:Int} {K T:Nat} {P M N:Bool} (h:Rq w D V K T P M N) (g:Kp w w'):Rq w' D V K T P M N:=by
  obtain ⟨s1,p1,l1,c1,q1,k1,d1,h1,h2⟩:=h
  exact ⟨s1,p1,l1,c1,q1,k1,d1,h1,h2.kp g⟩
theorem Rq.kb {w w':World} {c:Nat} {D:Nat→Value} {V:Int} {K T:Nat} {P M N:Bool} (h:Rq w D V K T P M N) (g:Kb c w w') (hc:TY w c):Rq w' D V K T P M N:=by
  obtain ⟨s1,p1,l1,c1,q1,k1,d1,h1,h2⟩:=h
  exact ⟨s1,p1,l1,c1,q1,k1,d1,h1,h2.kbT g hc⟩
def Slt (w:World) (b:Nat) (D:Nat→Value) (K n:Nat):Prop:=∃ (U V:Int) (k T:Nat) (P M N:Bool) (s:Int),St w b U k s∧Rq w D V K T P M N∧Sq U V k T P M N s K n
theorem Slt.kp {w w':World} {b:Nat} {D:Nat→Value} {K n:Nat} (h:Slt w b D K n) (g:Kp w w'):Slt w' b D K n:=by
  obtain ⟨U,V,k,T,P,M,N,s,h1,h2,h3⟩:=h
  exact ⟨U,V,k,T,P,M,N,s,h1.kp g,h2.kp g,h3⟩
theorem Slt.kb {w w':World} {b c:Nat} {D:Nat→Value} {K n:Nat} (h:Slt w b D K n) (g:Kb c w w') (hc:TY w c) (hne:b≠c):Slt w' b D K n:=by
  obtain ⟨U,V,k,T,P,M,N,s,h1,h2,h3⟩:=h
  exact ⟨U,V,k,T,P,M,N,s,h1.kb g hne,h2.kb g hc,h3⟩
theorem Slt.up {w:World} {b:Nat} {D:Nat→Value} {K n:Nat} (h:Slt w b D K n):Slt w b D K (n + 1):=by
  obtain ⟨U,V,k,T,P,M,N,s,h1,h2,h3⟩:=h
  exact ⟨U,V,k,T,P,M,N,s,h1,h2,h3.up⟩
structure Po (w wr:World) (bm bd K n s:Nat) (B:Nat→Nat) (D:Nat→Nat→Value):Prop where
  mine:wr.rowIs bm 24 4 (fun j=>.pointer (some ⟨B j,0,none⟩))
  docs:wr.rowIs bd 31 28 (fun i=>D (i / 7) (i % 7))
  each:∀ j,j < 4→j≠s→Slt wr (B j) (D j) K n
  blk:∀ j,j < 4→bd < B j∧B j < wr.heap.size
  one:∀ i j,i < 4→j < 4→B i = B j→i = j
  low:w.heap.size≤bm
  bmd:bm < bd
  old:Kp w wr
theorem rowIs_ty {w:World} {b t n:Nat} {f:Nat→Value} (h:w.rowIs b t n f) (ht:t≠86):TY w b:=by
  obtain ⟨C,h1,-⟩:=h
  exact ⟨C,t,h1,ht⟩
theorem Po.kp {w wr w':World} {bm bd K n s:Nat} {B:Nat→Nat} {D:Nat→Nat→Value} (h:Po w wr bm bd K n s B D) (g:Kp wr w'):Po w w' bm bd K n s B D where
  mine:=World.rowIs.of_block h.mine (Below.block g bm (World.rowIs.lt h.mine))
  docs:=World.rowIs.of_block h.docs (Below.block g bd (World.rowIs.lt h.docs))
  each:=fun j h1 h2=>(h.each j h1 h2).kp g
  blk:=fun j hj=>⟨(h.blk j hj).1,Nat.lt_of_lt_of_le (h.blk j hj).2 (Below.size g)⟩
  one:=h.one
  low:=h.low
  bmd:=h.bmd
  old:=h.old.trans g
theorem Po.kb {w wr w':World} {bm bd K n s:Nat} {B:Nat→Nat} {D:Nat→Nat→Value} (h:Po w wr bm bd K n s B D) (hs:s < 4) (g:Kb (B s) wr w') (ht:TY wr (B s)):Po w w' bm bd K n s B D where
  mine:=World.rowIs.of_block h.mine (g.2.2.2.2 bm (World.rowIs.lt h.mine) (by have:=h.blk s hs;have:=h.bmd;omega))
  docs:=World.rowIs.of_block h.docs (g.2.2.2.2 bd (World.rowIs.lt h.docs) (by have:=h.blk s hs;omega))
  each:=fun j h1 h2=>(h.each j h1 h2).kb g ht (fun e=>h2 (h.one j s h1 hs e))
  blk:=fun j hj=>⟨(h.blk j hj).1,Nat.lt_of_lt_of_le (h.blk j hj).2 g.2.2.2.1⟩
  one:=h.one
  low:=h.low
  bmd:=h.bmd
  old:=g.kp h.old (by have:=h.blk s hs;have:=h.bmd;have:=h.low;omega)
theorem Po.point {w wr:World} {bm bd K n s:Nat} {B:Nat→Nat} {D:Nat→Nat→Value} (h:Po w wr bm bd K n s B D) (hs:s < 4) (b:Nat) (hb:b < wr.heap.size) (hb2:bd < b) (hn:∀ j,j < 4→j≠s→B j≠b):Po w (wr.setCell ⟨bm,s,none⟩ (.pointer (some ⟨b,0,none⟩))) bm bd K n s (fun j=>if j = s then b else B j) D:=by
  have kb:Kb bm wr (wr.setCell ⟨bm,s,none⟩ (.pointer (some ⟨b,0,none⟩))):=(Kb.refl bm wr).setCell s _
  have ty:=rowIs_ty h.mine (by decide)
  refine ⟨?_,World.rowIs.of_block h.docs (kb.2.2.2.2 bd (World.rowIs.lt h.docs) (by have:=h.bmd;omega)),fun j h1 h2=>?_,fun j hj=>?_,fun i j hi hj e=>?_,h.low,h.bmd,kb.kp h.old h.low⟩
  · refine World.rowIs.congr (World.rowIs.set h.mine s (.pointer (some ⟨b,0,none⟩))) (fun j _=>?_)
    by_cases c:j = s
    · simp [c]
    · simp [c]
  · rw [if_neg h2]
    exact (h.each j h1 h2).kb kb ty (by have:=(h.blk j h1).1;have:=h.bmd;omega)
  · by_cases c:j = s
    · rw [if_pos c];exact ⟨hb2,Nat.lt_of_lt_of_le hb kb.2.2.2.1⟩
    · rw [if_neg c];exact ⟨(h.blk j hj).1,Nat.lt_of_lt_of_le (h.blk j hj).2 kb.2.2.2.1⟩
  · by_cases c:i = s
    · by_cases d:j = s
      · rw [c,d]
      · rw [if_pos c,if_neg d] at e
        exact absurd e.symm (hn j hj d)
    · by_cases d:j = s
      · rw [if_neg c,if_pos d] at e
        exact absurd e (hn i hi c)
      · rw [if_neg c,if_neg d] at e
        exact h.one i j hi hj e
set_option linter.unusedVariables false

def sev (v0 v1 v2 v3 v4 v5 v6:Value) (i:Nat):Value:=match i with
  | 0=>v0
  | 1=>v1
  | 2=>v2
  | 3=>v3
  | 4=>v4
  | 5=>v5
  | _=>v6
theorem Po.doc {w wr:World} {bm bd K n s:Nat} {B:Nat→Nat} {D:Nat→Nat→Value} (h:Po w wr bm bd K n s B D) (hs:s < 4) (o:Nat) (ho:o = s * 7) (v0 v1 v2 v3 v4 v5 v6:Value):Po w (((((((wr.setCell ⟨bd,o,none⟩ v0).setCell ⟨bd,o + 1,none⟩ v1).setCell ⟨bd,o + 2,none⟩ v2).setCell ⟨bd,o + 3,none⟩ v3).setCell ⟨bd,o + 4,none⟩ v4).setCell ⟨bd,o + 5,none⟩ v5).setCell ⟨bd,o + 6,none⟩ v6) bm bd K n s B (fun j i=>if j = s then sev v0 v1 v2 v3 v4 v5 v6 i else D j i)∧Kb bd wr (((((((wr.setCell ⟨bd,o,none⟩ v0).setCell ⟨bd,o + 1,none⟩ v1).setCell ⟨bd,o + 2,none⟩ v2).setCell ⟨bd,o + 3,none⟩ v3).setCell ⟨bd,o + 4,none⟩ v4).setCell ⟨bd,o + 5,none⟩ v5).setCell ⟨bd,o + 6,none⟩ v6)∧TY wr bd:=by
  have kb:Kb bd wr (((((((wr.setCell ⟨bd,o,none⟩ v0).setCell ⟨bd,o + 1,none⟩ v1).setCell ⟨bd,o + 2,none⟩ v2).setCell ⟨bd,o + 3,none⟩ v3).setCell ⟨bd,o + 4,none⟩ v4).setCell ⟨bd,o + 5,none⟩ v5).setCell ⟨bd,o + 6,none⟩ v6):=((((((((Kb.refl bd wr).setCell o v0).setCell (o + 1) v1).setCell (o + 2) v2).setCell (o + 3) v3).setCell (o + 4) v4).setCell (o + 5) v5).setCell (o + 6) v6)
  have ty:=rowIs_ty h.docs (by decide)
  refine ⟨⟨World.rowIs.of_block h.mine (kb.2.2.2.2 bm (World.rowIs.lt h.mine) (by have:=h.bmd;omega)), ?_,fun j h1 h2=>?_,fun j hj=>⟨(h.blk j hj).1,Nat.lt_of_lt_of_le (h.blk j hj).2 kb.2.2.2.1⟩,h.one,h.low,h.bmd,kb.kp h.old (by have:=h.bmd;have:=h.low;omega)⟩,kb,ty⟩
  · refine World.rowIs.congr (World.rowIs.set (World.rowIs.set (World.rowIs.set (World.rowIs.set (World.rowIs.set (World.rowIs.set (World.rowIs.set h.docs o v0) (o + 1) v1) (o + 2) v2) (o + 3) v3) (o + 4) v4) (o + 5) v5) (o + 6) v6) (fun i hi=>?_)
    by_cases c:i / 7 = s
    · have e:i = s * 7 + i % 7:=by omega
      have hm:i % 7 < 7:=Nat.mod_lt _ (by decide)
      rw [if_pos c]
      generalize i % 7 = r at *
      subst ho
      rw [e]
      rcases (by omega:r = 0∨r = 1∨r = 2∨r = 3∨r = 4∨r = 5∨r = 6) with rfl | rfl | rfl | rfl | rfl | rfl | rfl <;> simp [sev]
    · rw [if_neg c]
      have:∀ t,t < 7→i≠o + t:=fun t ht e=>c (by omega)
      have h0:=this 0 (by decide)
      have h1:=this 1 (by decide)
      have h2:=this 2 (by decide)
      have h3:=this 3 (by decide)
      have h4:=this 4 (by decide)
      have h5:=this 5 (by decide)
      have h6:=this 6 (by decide)
      simp only [Nat.add_zero] at h0
      simp [h0,h1,h2,h3,h4,h5,h6]
  · have e:(fun i=>if j = s then sev v0 v1 v2 v3 v4 v5 v6 i else D j i) = D j:=by funext i;rw [if_neg h2]
    rw [e]
    exact (h.each j h1 h2).kb kb ty (by have:=(h.blk j h1).1;omega)
theorem Po.opens {w wr:World} {bm bd K n:Nat} {B:Nat→Nat} {D:Nat→Nat→Value} (h:Po w wr bm bd K n 4 B D) (s:Nat) (hs:s < 4):Po w wr bm bd K n s B D∧Slt wr (B s) (D s) K n :=
  ⟨⟨h.mine,h.docs,fun j h1 _=>h.each j h1 (by omega),h.blk,h.one,h.low,h.bmd,h.old⟩,h.each s hs (by omega)⟩
theorem Po.close {w wr:World} {bm bd K n s:Nat} {B:Nat→Nat} {D:Nat→Nat→Value} (h:Po w wr bm bd K n s B D) (hs:Slt wr (B s) (D s) K (n + 1)):Po w wr bm bd K (n + 1) 4 B D :=
  ⟨h.mine,h.docs,fun j h1 _=>by
    by_cases c:j = s
    · rw [c];exact hs
    · exact (h.each j h1 c).up,h.blk,h.one,h.low,h.bmd,h.old⟩
theorem Po.upAll {w wr:World} {bm bd K n:Nat} {B:Nat→Nat} {D:Nat→Nat→Value} (h:Po w wr bm bd K n 4 B D):Po w wr bm bd K (n + 1) 4 B D :=
  ⟨h.mine,h.docs,fun j h1 h2=>(h.each j h1 h2).up,h.blk,h.one,h.low,h.bmd,h.old⟩
theorem Po.ptr {w wr:World} {bm bd K n s:Nat} {B:Nat→Nat} {D:Nat→Nat→Value} (h:Po w wr bm bd K n s B D) (j:Nat) (hj:j < 4):wr.cell? ⟨bm,j,none⟩ = some (.pointer (some ⟨B j,0,none⟩))∧wr.frozen? ⟨bm,j,none⟩ = false :=
  ⟨World.rowIs.cell h.mine hj,World.rowIs.frozen h.mine j⟩
theorem Po.cells {w wr:World} {bm bd K n s:Nat} {B:Nat→Nat} {D:Nat→Nat→Value} (h:Po w wr bm bd K n s B D) (j:Nat) (hj:j < 4) (i:Nat) (hi:i < 7):wr.cell? ⟨bd,j * 7 + i,none⟩ = some (D j i)∧wr.frozen? ⟨bd,j * 7 + i,none⟩ = false:=by
  have h1:=World.rowIs.cell h.docs (i:=j * 7 + i) (by omega)
  rw [show (j * 7 + i) / 7 = j from by omega,show (j * 7 + i) % 7 = i from by omega] at h1
  exact ⟨h1,World.rowIs.frozen h.docs _⟩
end Go.Proofs.YtfhcmabejagknaaGreatDoor
