import Derived.Test.YtfhcmabejagknaaGreatDoorKTUb
import Derived.Test.YtfhcmabejagknaaGreatDoorKTUn
set_option maxHeartbeats 2000000
set_option maxRecDepth 20000
namespace Go.Proofs.YtfhcmabejagknaaGreatDoor
open Go.RowKit
theorem rnegate4_ s1 p1 l1 c1 q1 k1 d1 (P M N:Bool) (T:Int) (V:Int) (E B:Nat) (hB:B≤60000) (hE:E≤60000) (hV:V.natAbs < 2 ^ B) (b1:Nat) (w:World) (h1:Dy b1 w s1 p1 l1 c1 q1 k1 d1 V E):Calls Tryz.prog 16 #[.agg #[.bool s1,.slice p1 l1 c1,.slice q1 k1 d1,.bool P,.bool M,.bool N,.int .u64 T]] w fun e w'=>∃ s3 p3 l3 c3 q3 k3 d3,e = .returned (.agg #[.bool s3,.slice p3 l3 c3,.slice q3 k3 d3,.bool M,.bool P,.bool N,.int .u64 T])∧Dy w.heap.size w' s3 p3 l3 c3 q3 k3 d3 (-V) E∧Kp w w':=by
  have hrn:=fun (W:World) (g:Kp w W)=>dyneg_ s1 p1 l1 c1 q1 k1 d1 V E B hB hE hV b1 W (h1.kp g)
  have h7:H7c ((w.alloc (.cells #[.bool s1,.slice p1 l1 c1,.slice q1 k1 d1,.bool P,.bool M,.bool N,.int .u64 T] 30)).alloc (.cells #[.bool false,.slice none 0 0,.slice none 0 0,.bool false,.bool false,.bool false,.int .u64 0] 30)) w.heap.size (.bool s1) (.slice p1 l1 c1) (.slice q1 k1 d1) (.bool P) (.bool M) (.bool N) (.int .u64 T):=(H7c.new w (.bool s1) (.slice p1 l1 c1) (.slice q1 k1 d1) (.bool P) (.bool M) (.bool N) (.int .u64 T) 30).keep ((Kp.refl _).alloc _)
  have h9:H7c ((w.alloc (.cells #[.bool s1,.slice p1 l1 c1,.slice q1 k1 d1,.bool P,.bool M,.bool N,.int .u64 T] 30)).alloc (.cells #[.bool false,.slice none 0 0,.slice none 0 0,.bool false,.bool false,.bool false,.int .u64 0] 30)) (w.heap.size + 1) (.bool false) (.slice none 0 0) (.slice none 0 0) (.bool false) (.bool false) (.bool false) (.int .u64 0):=by
    have:=H7c.new (w.alloc (.cells #[.bool s1,.slice p1 l1 c1,.slice q1 k1 d1,.bool P,.bool M,.bool N,.int .u64 T] 30)) (.bool false) (.slice none 0 0) (.slice none 0 0) (.bool false) (.bool false) (.bool false) (.int .u64 0) 30
    simpa using this
  have kw:Kp w ((w.alloc (.cells #[.bool s1,.slice p1 l1 c1,.slice q1 k1 d1,.bool P,.bool M,.bool N,.int .u64 T] 30)).alloc (.cells #[.bool false,.slice none 0 0,.slice none 0 0,.bool false,.bool false,.bool false,.int .u64 0] 30)):=((Kp.refl w).alloc _).alloc _
  have hb1:w.heap.size≤w.heap.size:=Nat.le_refl _
  clear h1 hB hE hV
  go_enter Tryz.func16,Tryz.ntmps16
  go_upto_region 1 with fail
  generalize ((w.alloc (.cells #[.bool s1,.slice p1 l1 c1,.slice q1 k1 d1,.bool P,.bool M,.bool N,.int .u64 T] 30)).alloc (.cells #[.bool false,.slice none 0 0,.slice none 0 0,.bool false,.bool false,.bool false,.int .u64 0] 30)) = W0 at *
  generalize hb9:w.heap.size = b at h7 h9 ⊢
  rw [hb9] at hb1
  have hbw:w.heap.size≤b:=by rw [hb9];exact hb1
  obtain ⟨r0,r1,r2,r3,r4,r5,r6,r7,r8,r9,r10,r11,r12,r13⟩:=id h7
  go_upto_region 2 with (first | (go_at_call 46;refine (hrn _ kw).mono ?_;rintro e W4 ⟨s3,p3,l3,c3,q3,k3,d3,rfl,D3,g4⟩;have kw4:=kw.trans g4;have h74:=h7.keep g4;have h94:=h9.keep g4;clear r0 r1 r2 r3 r4 r5 r6 r7 r8 r9 r10 r11 r12 r13;obtain ⟨r0,r1,r2,r3,r4,r5,r6,r7,r8,r9,r10,r11,r12,r13⟩:=id h74))
  have hl3:=h9.lt
  have p7:=H7c.put3 h74 (.bool s3) (.slice p3 l3 c3) (.slice q3 k3 d3)
  have p9:H7c (((W4.setCell ⟨b,0,none⟩ (.bool s3)).setCell ⟨b,1,none⟩ (.slice p3 l3 c3)).setCell ⟨b,2,none⟩ (.slice q3 k3 d3)) (b + 1) (.bool false) (.slice none 0 0) (.slice none 0 0) (.bool false) (.bool false) (.bool false) (.int .u64 0):=(H7c.far1 (H7c.far1 (H7c.far1 h94 ⟨b,0,none⟩ (show b≠b + 1 by omega) _) ⟨b,1,none⟩ (show b≠b + 1 by omega) _) ⟨b,2,none⟩ (show b≠b + 1 by omega) _)
  have k5:Kp w (((W4.setCell ⟨b,0,none⟩ (.bool s3)).setCell ⟨b,1,none⟩ (.slice p3 l3 c3)).setCell ⟨b,2,none⟩ (.slice q3 k3 d3)):=(((kw4.setCell hbw _).setCell hbw _).setCell hbw _)
  have D5:Dy W0.heap.size (((W4.setCell ⟨b,0,none⟩ (.bool s3)).setCell ⟨b,1,none⟩ (.slice p3 l3 c3)).setCell ⟨b,2,none⟩ (.slice q3 k3 d3)) s3 p3 l3 c3 q3 k3 d3 (-V) E:=(Dy.set (Dy.set (Dy.set D3 (x:=⟨b,0,none⟩) (show b < W0.heap.size by omega) _) (x:=⟨b,1,none⟩) (show b < W0.heap.size by omega) _) (x:=⟨b,2,none⟩) (show b < W0.heap.size by omega) _)
  generalize (((W4.setCell ⟨b,0,none⟩ (.bool s3)).setCell ⟨b,1,none⟩ (.slice p3 l3 c3)).setCell ⟨b,2,none⟩ (.slice q3 k3 d3)) = W5 at p7 p9 k5 D5 ⊢
  have hk3:=kw.size
  clear h74 h94 kw4 D3 r0 r1 r2 r3 r4 r5 r6 r7 r8 r9 r10 r11 r12 r13 h7 h9 g4 hrn kw
  obtain ⟨r0,r1,r2,r3,r4,r5,r6,r7,r8,r9,r10,r11,r12,r13⟩:=id p7
  obtain ⟨z0,z1,z2,z3,z4,z5,z6,z7,z8,z9,z10,z11,z12,z13⟩:=id p9
  clear p7 p9
  go_wp2
  refine bodyPost_ret (v:=.agg #[.bool s3,.slice p3 l3 c3,.slice q3 k3 d3,.bool M,.bool P,.bool N,.int .u64 T]) (by simp [results,Tryz.results16,go_sem,z0,z1,z2,z3,z4,z5,z6]) rfl ⟨s3,p3,l3,c3,q3,k3,d3,rfl, ?_, ?_⟩
  · refine Dy.mono ?_ hk3
    exact (Dy.set (Dy.set (Dy.set (Dy.set (Dy.set (Dy.set (Dy.set (Dy.set (Dy.set D5 (x:=⟨b,3,none⟩) (show b < W0.heap.size by omega) _) (x:=⟨b,4,none⟩) (show b < W0.heap.size by omega) _) (x:=⟨b + 1,0,none⟩) (show b + 1 < W0.heap.size by omega) _) (x:=⟨b + 1,1,none⟩) (show b + 1 < W0.heap.size by omega) _) (x:=⟨b + 1,2,none⟩) (show b + 1 < W0.heap.size by omega) _) (x:=⟨b + 1,3,none⟩) (show b + 1 < W0.heap.size by omega) _) (x:=⟨b + 1,4,none⟩) (show b + 1 < W0.heap.size by omega) _) (x:=⟨b + 1,5,none⟩) (show b + 1 < W0.heap.size by omega) _) (x:=⟨b + 1,6,none⟩) (show b + 1 < W0.heap.size by omega) _)
  · exact (((((((((k5.setCell hbw _).setCell hbw _).setCell (show w.heap.size≤b + 1 by omega) _).setCell (show w.heap.size≤b + 1 by omega) _).setCell (show w.heap.size≤b + 1 by omega) _).setCell (show w.heap.size≤b + 1 by omega) _).setCell (show w.heap.size≤b + 1 by omega) _).setCell (show w.heap.size≤b + 1 by omega) _).setCell (show w.heap.size≤b + 1 by omega) _)

theorem dysign_ s1 p1 l1 c1 q1 k1 d1 (V:Int) (E B:Nat) (hB:B≤60000) (hV:V.natAbs < 2 ^ B) (b1:Nat) (w:World) (h:Dy b1 w s1 p1 l1 c1 q1 k1 d1 V E):Calls Tryz.prog 58 #[.agg #[.bool s1,.slice p1 l1 c1,.slice q1 k1 d1]] w fun e w'=>e = .returned (.int .i64 (sgV V))∧Kp w w':=by
  obtain ⟨a,j,u1,u2,f1,g1⟩:=h
  have ha:=f1.lt B hV
  have h:=rsign_ s1 (.slice p1 l1 c1) (.slice q1 k1 d1) a w u1.ls (Nat.le_trans ((blen_le_iff a B).2 ha) (by omega))
  have e:(if a = 0 then (0:Int) else if s1 = true then -1 else 1) = sgV V:=by
    unfold sgV
    by_cases z:a = 0
    · have:V.natAbs = 0:=by have:=f1.2.2;rw [z,Nat.zero_mul] at this;omega
      rw [if_pos z,if_neg (by omega),if_pos (by omega)]
    · have hv:V≠0:=fun h0=>by
        have:=f1.2.2
        have hp:=Nat.two_pow_pos (E - j)
        have:=Nat.mul_pos (Nat.pos_of_ne_zero z) hp
        rw [h0] at *;simp at *;omega
      rw [if_neg z,g1 hv]
      by_cases c:V < 0
      · rw [if_pos (by simpa using c),if_pos c]
      · rw [if_neg (by simpa using c),if_neg c,if_neg hv]
  rw [e] at h
  exact h
theorem rsign4_ s1 p1 l1 c1 q1 k1 d1 (P M N:Bool) (T V:Int) (E B:Nat) (hB:B≤60000) (hV:V.natAbs < 2 ^ B) (b1:Nat) (w:World) (h1:Dy b1 w s1 p1 l1 c1 q1 k1 d1 V E) (hz:stI P M N = 0∨stI P M N = 1∨stI P M N = -1∨stI P M N = 2):Calls Tryz.prog 25 #[.agg #[.bool s1,.slice p1 l1 c1,.slice q1 k1 d1,.bool P,.bool M,.bool N,.int .u64 T]] w fun e w'=>e = .returned (.int .i64 (sgS V (stI P M N)))∧Kp w w':=by
  have hst:=rstate_ s1 p1 l1 c1 q1 k1 d1 P M N T
  have hrs:=fun (W:World) (g:Kp w W)=>dysign_ s1 p1 l1 c1 q1 k1 d1 V E B hB hV b1 W (h1.kp g)
  have y0:=H7c.new w (.bool s1) (.slice p1 l1 c1) (.slice q1 k1 d1) (.bool P) (.bool M) (.bool N) (.int .u64 T) 30
  have k0:Kp w (w.alloc (.cells #[.bool s1,.slice p1 l1 c1,.slice q1 k1 d1,.bool P,.bool M,.bool N,.int .u64 T] 30)):=(Kp.refl w).alloc _
  unfold sgS
  generalize sgV V = SV at *
  generalize stI P M N = S at *
  clear h1 hB hV
  obtain ⟨r0,r1,r2,r3,r4,r5,r6,r7,r8,r9,r10,r11,r12,r13⟩:=id y0
  rcases hz with rfl | rfl | rfl | rfl
  · rw [if_pos rfl]
    go_enter Tryz.func25,Tryz.ntmps25
    go_wp2_with (first | (go_at_call 58;refine (hrs _ k2).mono ?_;rintro e w3 ⟨rfl,g3⟩;have k3:=Kp.trans k2 g3) | (go_at_call 27;refine (hst _).mono ?_;rintro e w2 ⟨rfl,g2⟩;have k2:=Kp.trans k1 g2;have y2:=H7c.keep y1 g2;clear r0 r1 r2 r3 r4 r5 r6 r7 r8 r9 r10 r11 r12 r13;obtain ⟨r0,r1,r2,r3,r4,r5,r6,r7,r8,r9,r10,r11,r12,r13⟩:=id y2) | (go_at_call 27;refine (hst _).mono ?_;rintro e w1 ⟨rfl,g1⟩;have k1:=Kp.trans k0 g1;have y1:=H7c.keep y0 g1;clear r0 r1 r2 r3 r4 r5 r6 r7 r8 r9 r10 r11 r12 r13;obtain ⟨r0,r1,r2,r3,r4,r5,r6,r7,r8,r9,r10,r11,r12,r13⟩:=id y1))
    exact bodyPost_ret (v:=.int .i64 SV) (by simp [results,Tryz.results25,go_sem]) rfl ⟨rfl,k3⟩
  · rw [if_neg (by decide),if_neg (by decide)]
    go_enter Tryz.func25,Tryz.ntmps25
    go_wp2_with (first | (go_at_call 27;refine (hst _).mono ?_;rintro e w3 ⟨rfl,g3⟩;have k3:=Kp.trans k2 g3;have y3:=H7c.keep y2 g3;clear r0 r1 r2 r3 r4 r5 r6 r7 r8 r9 r10 r11 r12 r13;obtain ⟨r0,r1,r2,r3,r4,r5,r6,r7,r8,r9,r10,r11,r12,r13⟩:=id y3) | (go_at_call 27;refine (hst _).mono ?_;rintro e w2 ⟨rfl,g2⟩;have k2:=Kp.trans k1 g2;have y2:=H7c.keep y1 g2;clear r0 r1 r2 r3 r4 r5 r6 r7 r8 r9 r10 r11 r12 r13;obtain ⟨r0,r1,r2,r3,r4,r5,r6,r7,r8,r9,r10,r11,r12,r13⟩:=id y2) | (go_at_call 27;refine (hst _).mono ?_;rintro e w1 ⟨rfl,g1⟩;have k1:=Kp.trans k0 g1;have y1:=H7c.keep y0 g1;clear r0 r1 r2 r3 r4 r5 r6 r7 r8 r9 r10 r11 r12 r13;obtain ⟨r0,r1,r2,r3,r4,r5,r6,r7,r8,r9,r10,r11,r12,r13⟩:=id y1))
    exact bodyPost_ret (v:=.int .i64 1) (by simp [results,Tryz.results25,go_sem]) rfl ⟨rfl,k3⟩
  · rw [if_neg (by decide),if_neg (by decide)]
    go_enter Tryz.func25,Tryz.ntmps25
    go_wp2_with (first | (go_at_call 27;refine (hst _).mono ?_;rintro e w3 ⟨rfl,g3⟩;have k3:=Kp.trans k2 g3;have y3:=H7c.keep y2 g3;clear r0 r1 r2 r3 r4 r5 r6 r7 r8 r9 r10 r11 r12 r13;obtain ⟨r0,r1,r2,r3,r4,r5,r6,r7,r8,r9,r10,r11,r12,r13⟩:=id y3) | (go_at_call 27;refine (hst _).mono ?_;rintro e w2 ⟨rfl,g2⟩;have k2:=Kp.trans k1 g2;have y2:=H7c.keep y1 g2;clear r0 r1 r2 r3 r4 r5 r6 r7 r8 r9 r10 r11 r12 r13;obtain ⟨r0,r1,r2,r3,r4,r5,r6,r7,r8,r9,r10,r11,r12,r13⟩:=id y2) | (go_at_call 27;refine (hst _).mono ?_;rintro e w1 ⟨rfl,g1⟩;have k1:=Kp.trans k0 g1;have y1:=H7c.keep y0 g1;clear r0 r1 r2 r3 r4 r5 r6 r7 r8 r9 r10 r11 r12 r13;obtain ⟨r0,r1,r2,r3,r4,r5,r6,r7,r8,r9,r10,r11,r12,r13⟩:=id y1))
    exact bodyPost_ret (v:=.int .i64 (-1)) (by simp [results,Tryz.results25,go_sem]) rfl ⟨rfl,k3⟩
  · rw [if_neg (by decide),if_pos rfl]
    go_enter Tryz.func25,Tryz.ntmps25
    go_wp2_with (first | (go_at_call 27;refine (hst _).mono ?_;rintro e w1 ⟨rfl,g1⟩;have k1:=Kp.trans k0 g1;have y1:=H7c.keep y0 g1;clear r0 r1 r2 r3 r4 r5 r6 r7 r8 r9 r10 r11 r12 r13;obtain ⟨r0,r1,r2,r3,r4,r5,r6,r7,r8,r9,r10,r11,r12,r13⟩:=id y1))
    exact bodyPost_ret (v:=.int .i64 0) (by simp [results,Tryz.results25,go_sem]) rfl ⟨rfl,k1⟩

theorem rvI_abs (s:Bool) (a:Nat):(rvI s a).natAbs = a:=by unfold rvI;cases s <;> simp
theorem over_ref (d V:Int) (n:Nat) (s:Bool) (a b K N:Nat) (hK:K = 1074) (hn:1≤n) (hx:XF s a b V (n * 2 ^ (K + K)) N) (hl:len32 V.natAbs≤16384) (hl2:len32 n≤16384):refW 53 1074 2098 9218868437227405311 0 d s a b = ratW d (decide (V < 0)) V.natAbs n (-2148):=by
  obtain ⟨z1,z2,h3,-,-⟩:=hx
  have h4:a * (n * 2 ^ (K + K)) = V.natAbs * b:=by
    have:=congrArg Int.natAbs h3
    rw [Int.natAbs_mul,Int.natAbs_mul,rvI_abs,Int.natAbs_natCast,Int.natAbs_natCast] at this
    exact this
  have hp:=Nat.two_pow_pos (K + K)
  unfold ratW
  rw [if_neg (by omega),if_neg (by omega)]
  by_cases v:V = 0
  · have a0:a = 0:=by
      have h5:a * (n * 2 ^ (K + K)) = 0:=by rw [h4,v];simp
      rcases Nat.mul_eq_zero.1 h5 with q | q
      · exact q
      · exact absurd q z2
    rw [if_pos (by omega)]
    unfold refW
    rw [if_pos a0]
  · have a0:a≠0:=fun h0=>by
      rw [h0,Nat.zero_mul] at h4
      rcases Nat.mul_eq_zero.1 h4.symm with q | q <;> omega
    have hs:s = decide (V < 0):=by
      have hb:(0:Int) < (b:Int):=by omega
      have hc:(0:Int) < ((n * 2 ^ (K + K):Nat):Int):=by omega
      unfold rvI at h3
      by_cases c:V < 0
      · rw [decide_eq_true c]
        cases s
        · exfalso
          simp only [Bool.false_eq_true,if_false] at h3
          have e1:(0:Int)≤(a:Int) * ((n * 2 ^ (K + K):Nat):Int):=Int.mul_nonneg (by omega) (by omega)
          have e2:=Int.mul_neg_of_neg_of_pos c hb
          omega
        · rfl
      · rw [decide_eq_false c]
        cases s
        · rfl
        · exfalso
          simp only [if_true] at h3
          have e1:0 < (a:Int) * ((n * 2 ^ (K + K):Nat):Int):=Int.mul_pos (by omega) hc
          have e2:=Int.mul_pos (show 0 < V by omega) hb
          rw [Int.neg_mul] at h3
          omega
    have hF:∀ dd:Int,rV dd 53 a b 1074 = rV dd 53 V.natAbs n (-2148 + 1074):=fun dd=>by
      rw [rV_ratio dd 53 a b V.natAbs (n * 2 ^ (K + K)) 1074 (by omega) (by omega) h4,rV_down dd 53 _ n (K + K) 1074 (by omega)]
      congr 1
      omega
    rw [if_neg (by omega),← hs]
    unfold refW
    rw [if_neg a0]
    simp only [show ((1074:Nat):Int) = 1074 from rfl,hF,Nat.pow_zero,Nat.mul_one]
    rfl
theorem rover4_ (d m:Int) s1 p1 l1 c1 q1 k1 d1 (P M N:Bool) (T V:Int) (K B:Nat) (hK:K = 1074) (hm:m < 9223372036854775808) (hB:B≤20000) (hV:V.natAbs < 2 ^ B) (b1:Nat) (w:World) (h1:Dy b1 w s1 p1 l1 c1 q1 k1 d1 V (K + K)):Calls Tryz.prog 21 #[.agg #[.bool s1,.slice p1 l1 c1,.slice q1 k1 d1,.bool P,.bool M,.bool N,.int .u64 T],.int .i64 d,.int .i64 m] w fun e w'=>e = .returned (.int .u64 ((ovW d m V (stI P M N):Nat):Int))∧Kp w w':=by
  have y0:=H7c.new w (.bool s1) (.slice p1 l1 c1) (.slice q1 k1 d1) (.bool P) (.bool M) (.bool N) (.int .u64 T) 30
  have kw0:Kp w (w.alloc (.cells #[.bool s1,.slice p1 l1 c1,.slice q1 k1 d1,.bool P,.bool M,.bool N,.int .u64 T] 30)):=(Kp.refl w).alloc _
  unfold ovW
  by_cases cm:m < 1
  · rw [if_pos cm]
    clear h1 hB hV hm
    go_enter Tryz.func21,Tryz.ntmps21
    go_wp2
    exact bodyPost_ret (v:=.int .u64 9221120237041090561) (by simp [results,Tryz.results21,go_sem]) rfl ⟨rfl,kw0⟩
  rw [if_neg cm]
  have hst:=rstate_ s1 p1 l1 c1 q1 k1 d1 P M N T
  obtain ⟨r0,r1,r2,r3,r4,r5,r6,r7,r8,r9,r10,r11,r12,r13⟩:=id y0
  by_cases cz:stI P M N = 0
  · rw [if_pos cz]
    rw [cz] at hst
    obtain ⟨n9,hn9⟩:∃ n9:Nat,m = (n9:Int):=⟨m.toNat,by omega⟩
    subst hn9
    rw [Int.toNat_natCast]
    have hl:len32 V.natAbs≤16384:=len_b _ _ B hV (by omega)
    have hl2:len32 n9≤16384:=Nat.le_trans (len_b n9 2 64 (by omega) (by decide)) (by decide)
    have hit:=intN_ n9 (by omega) (by omega)
    have hB9:V.natAbs < 2 ^ (B + 2200):=Nat.lt_of_lt_of_le hV (Nat.pow_le_pow_right (by decide) (by omega))
    have hrq:∀ (W:World) s2 p2 l2 c2 q2 k2 d2,Kp w W→XP W.heap.size W s2 p2 l2 c2 q2 k2 d2 (n9:Int) 1 100∨XP 0 W s2 p2 l2 c2 q2 k2 d2 (n9:Int) 1 100→Calls Tryz.prog 56 #[.agg #[.bool s1,.slice p1 l1 c1,.slice q1 k1 d1],.agg #[.bool s2,.slice p2 l2 c2,.slice q2 k2 d2]] W fun e w'=>∃ s3 p3 l3 c3 q3 k3 d3,e = .returned (.agg #[.bool s3,.slice p3 l3 c3,.slice q3 k3 d3])∧XP 0 w' s3 p3 l3 c3 q3 k3 d3 V (n9 * 2 ^ (K + K)) 90000∧Kp W w':=by
      intro W s2 p2 l2 c2 q2 k2 d2 g hX
      have hX:XP 0 W s2 p2 l2 c2 q2 k2 d2 (rvI false n9) 1 100:=by
        rw [show rvI false n9 = (n9:Int) from by unfold rvI;simp]
        rcases hX with h | h
        · exact h.mono (Nat.zero_le _)
        · exact h
      refine (xquo_ V n9 false (by omega) (2 ^ (K + K)) 1 (B + 2200) 100 (by omega) s1 p1 l1 c1 q1 k1 d1 s2 p2 l2 c2 q2 k2 d2 b1 0 W ((h1.kp g).xp (B + 2200) hB9 (by omega)) hX).mono ?_
      rintro e w' ⟨s3,p3,l3,c3,q3,k3,d3,rfl,h,g1⟩
      refine ⟨s3,p3,l3,c3,q3,k3,d3,rfl, ?_,g1⟩
      obtain ⟨a,b,o1,o2,x1,x2,x3,x4,x5⟩:=h
      refine ⟨a,b,o1.mono (Nat.zero_le _),o2.mono (Nat.zero_le _),x1,by rw [Nat.mul_comm];exact x2, ?_,by omega,by omega⟩
      rw [Nat.mul_comm,x3]
      simp [rvI]
    have hbi:∀ (W:World) s3 p3 l3 c3 q3 k3 d3,XP 0 W s3 p3 l3 c3 q3 k3 d3 V (n9 * 2 ^ (K + K)) 90000→Calls Tryz.prog 52 #[.int .i64 d,.agg #[.bool s3,.slice p3 l3 c3,.slice q3 k3 d3]] W fun e w'=>e = .returned (.int .u64 ((ratW d (decide (V < 0)) V.natAbs n9 (-2148):Nat):Int))∧Kp W w':=by
      intro W s3 p3 l3 c3 q3 k3 d3 h
      obtain ⟨a,b,o1,o2,hx⟩:=h
      have hr:=rbits_ d s3 _ _ a b W o1.ls o2.ls hx.1 (by have:=hx.2.2.2.1;omega) (by have:=hx.2.2.2.2;omega)
      rw [over_ref d V n9 s3 a b K 90000 hK (by omega) hx hl hl2] at hr
      exact hr
    generalize ratW d (decide (V < 0)) V.natAbs n9 (-2148) = R at *
    replace hit:∀ W:World,Calls Tryz.prog 28 #[.int .i64 (n9:Int)] W fun e w'=>∃ s2 p2 l2 c2 q2 k2 d2,e = .returned (.agg #[.bool s2,.slice p2 l2 c2,.slice q2 k2 d2])∧(XP w'.heap.size w' s2 p2 l2 c2 q2 k2 d2 (n9:Int) 1 100∨XP 0 w' s2 p2 l2 c2 q2 k2 d2 (n9:Int) 1 100)∧Kp W w':=fun W=>(hit W).mono (by rintro e w' ⟨s2,p2,l2,c2,q2,k2,d2,rfl,h,g⟩;exact ⟨s2,p2,l2,c2,q2,k2,d2,rfl,Or.inr (h.mono (Nat.zero_le _)),g⟩)
    clear h1 hB hV hm hl hl2 hB9 cz
    go_enter Tryz.func21,Tryz.ntmps21
    go_upto_region 5 with (first | (go_at_call 27;refine (hst _).mono ?_;rintro e w1 ⟨rfl,g1⟩;have kw1:=Kp.trans kw0 g1;have y1:=H7c.keep y0 g1;clear r0 r1 r2 r3 r4 r5 r6 r7 r8 r9 r10 r11 r12 r13;obtain ⟨r0,r1,r2,r3,r4,r5,r6,r7,r8,r9,r10,r11,r12,r13⟩:=id y1))
    go_region_held3 (fun w'=>w'.cell? ⟨w.heap.size,0,none⟩ = some (.bool s1)∧w'.cell? ⟨w.heap.size,1,none⟩ = some (.slice p1 l1 c1)∧w'.cell? ⟨w.heap.size,2,none⟩ = some (.slice q1 k1 d1)) (first | (with_reducible exact ⟨r0,r1,r2⟩) | (exact ⟨kkeep (W:=w1) (Kp.drew (Kp.refl _)) r0,kkeep (W:=w1) (Kp.drew (Kp.refl _)) r1,kkeep (W:=w1) (Kp.drew (Kp.refl _)) r2⟩) | (exact ⟨kkeep (W:=w1) ka r0,kkeep (W:=w1) ka r1,kkeep (W:=w1) ka r2⟩) | (exact ⟨kkeep (W:=w1) kb r0,kkeep (W:=w1) kb r1,kkeep (W:=w1) kb r2⟩) | (exact ⟨kkeep (W:=w1) kc r0,kkeep (W:=w1) kc r1,kkeep (W:=w1) kc r2⟩)) (first | (go_at_call 52;refine (hbi wb s3 p3 l3 c3 q3 k3 d3 X3).mono ?_;rintro e wc ⟨rfl,gc⟩;have kc:=Kp.trans kb gc) | (go_at_call 56;refine (hrq wa s2 p2 l2 c2 q2 k2 d2 (Kp.trans kw1 ka) X2).mono ?_;rintro e wb ⟨s3,p3,l3,c3,q3,k3,d3,rfl,X3,gb⟩;have kb:=Kp.trans ka gb) | (go_at_call 28;refine (hit _).mono ?_;rintro e wa ⟨s2,p2,l2,c2,q2,k2,d2,rfl,X2,ga⟩;have ka:Kp w1 wa:=Kp.trans (Kp.drew (Kp.refl _)) ga))
    go_wp2
    exact bodyPost_ret (v:=.int .u64 (R:Int)) (by simp [results,Tryz.results21,go_sem]) rfl ⟨rfl,Kp.trans kw1 kc⟩
  · rw [if_neg cz]
    have hen:=ends_ s1 p1 l1 c1 q1 k1 d1 P M N T cz
    have t:(stI P M N != 0) = true:=by simpa using cz
    generalize limW (stI P M N) = R at *
    generalize stI P M N = S at *
    clear h1 hB hV hm cz
    go_enter Tryz.func21,Tryz.ntmps21
    go_wp2_with (first | (go_at_call 51;refine (hen _).mono ?_;rintro e w2 ⟨rfl,g2⟩;have kw2:=Kp.trans kw1 g2) | (go_at_call 27;refine (hst _).mono ?_;rintro e w1 ⟨rfl,g1⟩;have kw1:=Kp.trans kw0 g1;have y1:=H7c.keep y0 g1;clear r0 r1 r2 r3 r4 r5 r6 r7 r8 r9 r10 r11 r12 r13;obtain ⟨r0,r1,r2,r3,r4,r5,r6,r7,r8,r9,r10,r11,r12,r13⟩:=id y1))
    exact bodyPost_ret (v:=.int .u64 (R:Int)) (by simp [results,Tryz.results21,go_sem]) rfl ⟨rfl,kw2⟩

theorem rt_any (num den N w t h:Nat) (hden:0 < den) (hN:N * den = num * 4 ^ t) (w1:w * w * den≤num) (w2:num < (w + 1) * (w + 1) * den) (hh:IsRt N h) (big:9007199254740992≤w) (d e:Int):rV d 53 (2 * h + (if h * h = N then 0 else 1)) 1 (e - t) = rV d 53 (2 * w + (if w * w * den = num then 0 else 1)) 1 e:=by
  have hp:=Nat.two_pow_pos t
  have h4:0 < 4 ^ t:=Nat.pow_pos (by decide)
  have sq:∀ a:Nat,a * 2 ^ t * (a * 2 ^ t) * den = a * a * den * 4 ^ t:=fun a=>by rw [pow4];ac_rfl
  have a1:w * 2 ^ t≤h:=by
    refine Decidable.byContradiction fun c=>?_
    have c1:(h + 1) * (h + 1)≤w * 2 ^ t * (w * 2 ^ t):=Nat.mul_le_mul (by omega) (by omega)
    have c2:N * den < (h + 1) * (h + 1) * den:=Nat.mul_lt_mul_of_pos_right hh.2 hden
    have c3:=Nat.mul_le_mul_right den c1
    have c4:=Nat.mul_le_mul_right (4 ^ t) w1
    rw [sq] at c3
    omega
  have a2:h < (w + 1) * 2 ^ t:=by
    refine Decidable.byContradiction fun c=>?_
    have c1:(w + 1) * 2 ^ t * ((w + 1) * 2 ^ t)≤h * h:=Nat.mul_le_mul (by omega) (by omega)
    have c2:h * h * den≤N * den:=Nat.mul_le_mul_right den hh.1
    have c3:=Nat.mul_le_mul_right den c1
    have c4:=Nat.mul_lt_mul_of_pos_right w2 h4
    rw [sq] at c3
    omega
  have a4:w * w * den = num→h * h = N∧h = w * 2 ^ t:=fun e=>by
    have e1:w * 2 ^ t * (w * 2 ^ t) = N:=by
      refine Nat.eq_of_mul_eq_mul_right hden ?_
      rw [sq,e,hN]
    have e2:h = w * 2 ^ t:=by
      refine Decidable.byContradiction fun c=>?_
      have:(w * 2 ^ t + 1) * (w * 2 ^ t + 1)≤h * h:=Nat.mul_le_mul (by omega) (by omega)
      have h5:=hh.1
      have:w * 2 ^ t * (w * 2 ^ t) < (w * 2 ^ t + 1) * (w * 2 ^ t + 1):=Nat.mul_lt_mul_of_lt_of_le (by omega) (by omega) (by omega)
      omega
    exact ⟨by rw [e2];exact e1,e2⟩
  have a5:h * h = N→h = w * 2 ^ t→w * w * den = num:=fun e1 e2=>by
    refine Nat.eq_of_mul_eq_mul_right h4 ?_
    rw [← sq,← e2,e1,hN]
  obtain ⟨H,hH⟩:∃ H,H = 2 * h + (if h * h = N then 0 else 1):=⟨_,rfl⟩
  obtain ⟨D,hD⟩:∃ D,D = 2 * 2 ^ t:=⟨_,rfl⟩
  obtain ⟨M,hM⟩:∃ M,M = w * 2 ^ t:=⟨_,rfl⟩
  have e1:(w + 1) * 2 ^ t = M + 2 ^ t:=by rw [Nat.add_mul,Nat.one_mul,hM]
  have e2:w * D = 2 * M:=by rw [hD,hM,Nat.mul_left_comm]
  rw [e1] at a2
  rw [← hM] at a1 a4 a5
  have b1:2 * M≤H:=by rw [hH];omega
  have b2:H < 2 * M + D:=by
    rw [hH,hD]
    generalize 2 ^ t = Q at *
    split <;> omega
  have b3:H - 2 * M = 0 ↔ w * w * den = num:=by
    constructor
    · intro z
      by_cases c:h * h = N
      · rw [if_pos c] at hH
        exact a5 c (by omega)
      · rw [if_neg c] at hH;omega
    · intro z
      obtain ⟨z1,z2⟩:=a4 z
      rw [if_pos z1] at hH;omega
  have st:=rV_sticky9 d 53 H D w (H - 2 * M) (2 * w + (if w * w * den = num then 0 else 1)) e (by omega) (by decide) (by decide) (by rw [e2];omega) (by omega) (by
    by_cases c:w * w * den = num
    · rw [if_pos c,if_pos (b3.2 c)]
    · rw [if_neg c,if_neg (fun z=>c (b3.1 z))]) (Or.inr big)
  rw [← st,← hH,hD]
  have e3:rV d 53 (2 * H) (2 * 2 ^ t) e = rV d 53 H (1 * 2 ^ t) e:=rV_ratio d 53 _ _ _ _ e (by omega) (by omega) (by rw [Nat.one_mul];ac_rfl)
  rw [e3,rV_down d 53 H 1 t e (by decide)]
theorem rtS1Z (a b A K M k:Nat) (hK:K = 1074) (hA:a * 2 ^ (K + K) = A * b) (hM:M = 2 * k) (hk:k≤1138):A * 4 ^ 64 * b = a * 2 ^ M * 4 ^ (1138 - k):=by
  obtain ⟨x,hx⟩:∃ x,x = 64:=⟨_,rfl⟩
  obtain ⟨t,ht⟩:∃ t,t = 1138 - k:=⟨_,rfl⟩
  rw [← hx,← ht,pow4,pow4,← Nat.pow_add,← Nat.pow_add,Nat.mul_right_comm,← hA,Nat.mul_assoc,Nat.mul_assoc,← Nat.pow_add,← Nat.pow_add]
  congr 2
  omega
theorem rtS2Z (a b A K M k:Nat) (hK:K = 1074) (hA:a * 2 ^ (K + K) = A * b) (hM:M = 2 * k):A * 4 ^ 64 * (b * 2 ^ M) = a * 4 ^ (1138 + k):=by
  obtain ⟨x,hx⟩:∃ x,x = 64:=⟨_,rfl⟩
  obtain ⟨t,ht⟩:∃ t,t = 1138 + k:=⟨_,rfl⟩
  rw [← hx,← ht,pow4,pow4,← Nat.pow_add,← Nat.pow_add,← Nat.mul_assoc,Nat.mul_right_comm A,← hA,Nat.mul_assoc,Nat.mul_assoc,← Nat.pow_add,← Nat.pow_add]
  congr 2
  omega
def rtZ (d:Int) (A:Nat):Nat:=ofW d false (rtR A) (-1139)
theorem rootQZ (d k:Int) (A X Y r t:Nat) (hb:blen (rtR A)≤524288) (hY:0 < Y) (hN:A * 4 ^ 64 * Y = X * 4 ^ t) (hr:IsRt (X / Y) r) (big:9007199254740992≤r) (ht:(t:Int) = 1138 - k) (H:Nat) (hH:H = 2 * r + (if r * r * Y = X then 0 else 1)):mdW false (finU 53 2098 9218868437227405311 9218868437227405312 (dirN false d) (rV (dirN false d) 53 H 1 (-k - 1 + 1074))) = rtZ d A:=by
  obtain ⟨q1,q2⟩:=isrt_div X Y r hY hr
  have e4:(4:Nat) ^ 64 = 2 ^ 128:=by decide
  have hs:∀ dd:Int,rV dd 53 (rtR A) 1 (-1139 + 1074) = rV dd 53 H 1 (-k - 1 + 1074):=fun dd=>by
    have h:=rt_any X Y (A * 4 ^ 64) r t (rtN (A * 4 ^ 64)) hY hN q1 q2 (rtN_is _) big dd (-k - 1 + 1074)
    rw [hH,← h]
    unfold rtR
    rw [e4,show -k - 1 + 1074 - (t:Int) = -1139 + 1074 from by omega]
    congr 3
    simp only [eq_comm]
  have hz:rtR A≠0:=fun h0=>by
    have e0:rtN (A * 2 ^ 128) = 0:=by unfold rtR at h0;omega
    have i0:=(rtN_is (A * 2 ^ 128)).2
    rw [e0] at i0
    have hA0:A * 4 ^ 64 = 0:=by rw [e4];omega
    rw [hA0,Nat.zero_mul] at hN
    have p4:0 < 4 ^ t:=Nat.pow_pos (by decide)
    rcases Nat.mul_eq_zero.1 hN.symm with q | q
    · rw [q,Nat.zero_div] at hr
      have:=hr.1
      have h2:1≤r * r:=Nat.mul_pos (by omega) (by omega)
      omega
    · omega
  unfold rtZ
  rw [of_rat]
  unfold ratW
  rw [if_neg (by have h9:len32 (rtR A)≤16384:=dlen (rtR A) 16384 (by omega);have h1:len32 1≤1:=len_le 1 1 (by decide);omega),if_neg (by decide),if_neg hz,hs]
theorem rpower1_ (p:Option Addr) (c m:Nat) (xs:List Int) (w:World) (hx:Arr w p xs) (hwx:Wd xs) (lx:xs.length≤16777216) (ha:1≤val xs) (hK:len32 (val xs ^ m)≤16777216) (hm9:m≤1048576) :
    Calls Tryz.prog 97 #[.slice p xs.length c,.int .i64 (m:Int)] w fun e w'=>∃ v,e = .returned v∧Own w' w.heap.size v (dig (val xs ^ m))∧Kp w w':=by
  have hno:=fun w' (k:Kp w w')=>rnorm_ p c xs w' (hx.grown k) (by omega)
  have htm:∀ (x y:Nat) (p1 p2:Option Addr) (c1 c2:Nat) (w':World),len32 x≤16777216→len32 y≤16777216→Arr w' p1 (dig x)→Arr w' p2 (dig y) →
      Calls Tryz.prog 72 #[.slice p1 (dig x).length c1,.slice p2 (dig y).length c2] w' fun e w''=>∃ v,e = .returned v∧Own w'' w'.heap.size v (dig (x * y))∧Kp w' w'':=fun x y p1 p2 c1 c2 w' hx hy h1 h2=>by
    have:=rtimes_ p1 p2 c1 c2 (dig x) (dig y) w' h1 h2 (Wd_dig _) (Wd_dig _) hx hy
    rw [val_dig,val_dig] at this
    exact this
  have HT:Hid (∀ (x y:Nat) (p1 p2:Option Addr) (c1 c2:Nat) (w':World),len32 x≤16777216→len32 y≤16777216→Arr w' p1 (dig x)→Arr w' p2 (dig y) →
      Calls Tryz.prog 72 #[.slice p1 (dig x).length c1,.slice p2 (dig y).length c2] w' fun e w''=>∃ v,e = .returned v∧Own w'' w'.heap.size v (dig (x * y))∧Kp w' w''):=htm
  rw [nz_dig xs hwx] at hno
  obtain ⟨a,hA⟩:∃ a,a = val xs:=⟨_,rfl⟩
  obtain ⟨N,hN⟩:∃ N,N = xs.length:=⟨_,rfl⟩
  rw [← hA] at hno ha hK ⊢
  rw [← hN] at hno ⊢
  obtain ⟨R,hR⟩:∃ R,R = a ^ m:=⟨_,rfl⟩
  rw [← hR] at hK ⊢
  have hO1:=own1 w
  have hk1:Kp w (w.alloc (.cells #[.int .u32 1] 86)):=(Kp.refl w).alloc _
  have h1:=hno _ hk1
  have HR:Hid (R = a ^ m∧len32 R≤16777216∧1≤a):=⟨hR,hK,ha⟩
  clear htm hno hx hwx lx hA hN hR hK ha
  go_enter Tryz.func97,Tryz.ntmps97
  go_wp2_with fail
  refine h1.mono ?_;rintro e w1 ⟨v1,rfl,hOx,hk2⟩
  have HO:Hid (Own w1 w.heap.size (.slice (some ⟨w.heap.size,0,none⟩) 1 1) (dig 1)∧Own w1 w.heap.size v1 (dig a)∧Kp w w1):=⟨by rw [dig_one];exact hO1.kp hk2,hOx.mono hk1.size,hk1.trans hk2⟩
  clear h1 hOx hk2 hO1 hk1
  go_wp2
  go_loopw [1,5,6] (fun nn pp xx wr=>∃ (k P X:Nat) (v u:Value),nn = .int .i64 (k:Int)∧v = pp∧u = xx∧Own wr w.heap.size v (dig P)∧Own wr w.heap.size u (dig X)∧P * X ^ k = R∧1≤P∧1≤X∧Kp w wr∧k≤m) (fun nn _ _ _=>(intOf nn).toNat)
  case atStart=>exact ⟨m,1,a,_,_,rfl,rfl,rfl,HO.out.1,HO.out.2.1,by rw [Nat.one_mul];exact HR.out.1.symm,Nat.le_refl _,HR.out.2.2,HO.out.2.2,Nat.le_refl _⟩
  case round =>
    clear HO
    obtain ⟨k,P,X,v,u,rfl,rfl,rfl,hOp,hOx,hPX,hP,hX,hkp,hkm⟩:=hrel
    by_cases ck:k = 0
    · subst ck
      rw [Nat.pow_zero,Nat.mul_one] at hPX
      subst hPX
      clear HT HR hP hX hOx
      go_wp2
      exact bodyPost_ret (v:=v) (by simp [results,Tryz.results97,go_sem] <;> simp only [*]) rfl ⟨_,rfl,hOp,hkp⟩
    · have t1:(0:Int) < (k:Int):=by omega
      have hlR:=HR.out.2.1
      have hXk:X≤X ^ k:=by
        have:=Nat.pow_le_pow_right (by omega:0 < X) (by omega:1≤k)
        rw [Nat.pow_one] at this;exact this
      have hXk1:1≤X ^ k:=Nat.pow_pos (by omega)
      have hPR:P≤R:=by rw [← hPX];exact Nat.le_mul_of_pos_right _ hXk1
      have hXR:X≤R:=by rw [← hPX];exact Nat.le_trans hXk (Nat.le_mul_of_pos_left _ hP)
      have lP:len32 P≤16777216:=Nat.le_trans (len32_mono hPR) hlR
      have lX:len32 X≤16777216:=Nat.le_trans (len32_mono hXR) hlR
      obtain ⟨h,hh⟩:∃ h,h = k / 2:=⟨_,rfl⟩
      have fh:(k:Int) / 2 = (h:Int):=by omega
      have hhb:h≤1048576:=by omega
      obtain ⟨p1,c1,rfl,hAp,_⟩:=hOp.arr
      obtain ⟨p2,c2,rfl,hAx,_⟩:=hOx.arr
      have hX2:X * X = X ^ 2:=by rw [Nat.pow_succ,Nat.pow_one]
      have hXX:1≤X * X:=Nat.le_trans hX (Nat.le_mul_of_pos_left _ (by omega))
      have hhk:h < k:=by omega
      have hsq:=fun w' (k':Kp wr w')=>HT.out X X p2 p2 c2 c2 w' lX lX (hAx.grown k') (hAx.grown k')
      obtain ⟨DX,hDX⟩:∃ DX,DX = (dig X).length:=⟨_,rfl⟩
      rcases (by omega:k % 2 = 0∨k % 2 = 1) with ce | ce
      · have fm:(k:Int) % 2 = 0:=by omega
        have hPX2:P * (X * X) ^ h = R:=by rw [hX2,← Nat.pow_mul,show 2 * h = k from by omega];exact hPX
        rw [← hDX] at hsq
        obtain ⟨DP,hDP⟩:∃ DP,DP = (dig P).length:=⟨_,rfl⟩
        have hOp2:Own wr w.heap.size (.slice p1 DP c1) (dig P):=by rw [hDP];exact hOp
        have hOx2:Own wr w.heap.size (.slice p2 DX c2) (dig X):=by rw [hDX];exact hOx
        rw [← hDX,← hDP]
        clear hOp hOx hDX hDP HR hXk hXk1 hPR hXR lP lX hAp hAx hlR HT hPX
        have hne:h≠0:=by omega
        clear hh
        by_cases c0:h = 0
        · exact absurd c0 hne
        · have t2:(0:Int) < (h:Int):=by omega
          have h2:=hsq wr (Kp.refl _)
          clear hsq hX2
          go_wp2_with fail
          refine h2.mono ?_;rintro e w3 ⟨v3,rfl,hO3,hk3⟩
          have hO4:Own w3 w.heap.size v3 (dig (X * X)):=hO3.mono hkp.size
          have hO5:=hOp2.kp hk3
          have hk5:=hkp.trans hk3
          clear hO3 hk3 hkp hOp2 hOx2 h2
          go_wp2
          exact ⟨⟨h,P,X * X,_,_,by go_num,rfl,rfl,hO5,hO4,hPX2,hP,hXX,hk5,by omega⟩,by simp [intOf];omega⟩
      · have fm:(k:Int) % 2 = 1:=by omega
        have hPX2:(P * X) * (X * X) ^ h = R:=by
          rw [hX2,← Nat.pow_mul,Nat.mul_assoc,Nat.mul_comm X,← Nat.pow_succ,show (2 * h).succ = k from by omega];exact hPX
        have h2:=HT.out P X p1 p2 c1 c2 wr lP lX hAp hAx
        rw [← hDX] at hsq h2
        obtain ⟨DP,hDP⟩:∃ DP,DP = (dig P).length:=⟨_,rfl⟩
        rw [← hDP] at h2
        have hOx2:Own wr w.heap.size (.slice p2 DX c2) (dig X):=by rw [hDX];exact hOx
        rw [← hDX,← hDP]
        have hPX1:1≤P * X:=Nat.mul_pos hP (by omega)
        clear hh
        clear hOp hOx hDX hDP HR hXk hXk1 hPR hXR lP lX hAp hAx hlR HT hPX
        go_wp2_with fail
        refine h2.mono ?_;rintro e w3 ⟨v3,rfl,hO3,hk3⟩
        have h4:=hsq w3 hk3
        have hO4:Own w3 w.heap.size v3 (dig (P * X)):=hO3.mono hkp.size
        have hO5:=hOx2.kp hk3
        have hk5:=hkp.trans hk3
        clear hO3 hk3 hkp hOx2 h2 hsq hX2
        by_cases c0:h = 0
        · have t2:¬ ((0:Int) < (h:Int)):=by omega
          clear h4
          go_wp2
          exact ⟨⟨h,P * X,X,_,_,by go_num,rfl,rfl,hO4,hO5,by rw [← hPX2,c0,Nat.pow_zero,Nat.pow_zero],hPX1,hX,hk5,by omega⟩,by simp [intOf];omega⟩
        · have t2:(0:Int) < (h:Int):=by omega
          go_wp2_with fail
          refine h4.mono ?_;rintro e w4 ⟨v4,rfl,hO6,hk6⟩
          have hO7:Own w4 w.heap.size v4 (dig (X * X)):=hO6.mono hk5.size
          have hO8:=hO4.kp hk6
          have hk7:=hk5.trans hk6
          clear hO6 hk6 hk5 hO4 hO5 h4
          go_wp2
          exact ⟨⟨h,P * X,X * X,_,_,by go_num,rfl,rfl,hO8,hO7,hPX2,hPX1,hXX,hk7,by omega⟩,by simp [intOf];omega⟩
end Go.Proofs.YtfhcmabejagknaaGreatDoor
