import Derived.Test.YtfhcmabejagknaaGreatDoorKTOt
set_option maxHeartbeats 2000000
set_option maxRecDepth 20000
namespace Go.Proofs.YtfhcmabejagknaaGreatDoor
open Go.RowKit
theorem fin4_ (X:Nat) (hX:X < 18446744073709551616) (w:World):Calls Tryz.prog 41 #[.int .u64 (X:Int)] w fun e w'=>e = .returned (.bool (decide (X % 9223372036854775808 < 9218868437227405312)))∧w' = w:=by
  have f1:(X:Int) / 4503599627370496 = ((X / 4503599627370496:Nat):Int):=by omega
  have f2:bits .and .u64 ((X / 4503599627370496:Nat):Int) 2047 = ((X / 4503599627370496 % 2048:Nat):Int):=by
    have h:=bits_and_u64_nat (X / 4503599627370496) 2047 (by omega) (by decide)
    have e:(X / 4503599627370496) &&& 2047 = X / 4503599627370496 % 2048:=Nat.and_two_pow_sub_one_eq_mod _ 11
    rw [e] at h
    exact h
  have f3:((((X / 4503599627370496 % 2048:Nat):Int)) != 2047) = decide (X % 9223372036854775808 < 9218868437227405312):=by
    rw [Bool.eq_iff_iff,bne_iff_ne,decide_eq_true_eq];omega
  generalize ((X / 4503599627370496 % 2048:Nat):Int) = Y at *
  generalize decide (X % 9223372036854775808 < 9218868437227405312) = V at *
  generalize ((X / 4503599627370496:Nat):Int) = Z at *
  clear hX
  go_enter Tryz.func41,Tryz.ntmps41
  go_wp2
  exact bodyPost_ret (v:=.bool V) (by simp [results,Tryz.results41,go_sem] <;> simpa using f3) rfl ⟨rfl,rfl⟩
theorem neg4_ (X:Int) (V:Bool) (t:decide (9223372036854775808 < X) = V) (w:World):Calls Tryz.prog 37 #[.int .u64 X] w fun e w'=>e = .returned (.bool V)∧w' = w:=by
  go_enter Tryz.func37,Tryz.ntmps37
  go_wp2
  exact bodyPost_ret (v:=.bool V) (by simp [results,Tryz.results37,go_sem] <;> simpa using t) rfl ⟨rfl,rfl⟩

set_option linter.unusedVariables false
def NB (p q:Option Addr) (b:Nat):Prop:=(∀ a,p = some a→a.block≠b)∧(∀ a,q = some a→a.block≠b)
theorem Own.blk {w:World} {base:Nat} {p:Option Addr} {l c:Nat} {xs:List Int} (h:Own w base (.slice p l c) xs):∀ a,p = some a→base≤a.block∧a.block < w.heap.size:=by
  intro a ha
  rcases h.2 with ⟨h1,-⟩ | ⟨g,cap,cur,h1,h2,h3,-⟩
  · simp at h1;rw [h1.1] at ha;cases ha
  · simp at h1
    rw [h1.1] at ha
    obtain rfl:=Option.some.inj ha
    refine ⟨h2, ?_⟩
    exact lt_of_block h3
theorem Dy.nbNew {base:Nat} {w:World} {s1:Bool} {p1:Option Addr} {l1 c1:Nat} {q1:Option Addr} {k1 d1:Nat} {V:Int} {E:Nat} (h:Dy base w s1 p1 l1 c1 q1 k1 d1 V E) {b:Nat} (hb:w.heap.size≤b):NB p1 q1 b:=by
  obtain ⟨x,y,h1,h2,-⟩:=h
  exact ⟨fun a ha=>by have:=(h1.blk a ha).2;omega,fun a ha=>by have:=(h2.blk a ha).2;omega⟩
theorem Dy.nbLow {base:Nat} {w:World} {s1:Bool} {p1:Option Addr} {l1 c1:Nat} {q1:Option Addr} {k1 d1:Nat} {V:Int} {E:Nat} (h:Dy base w s1 p1 l1 c1 q1 k1 d1 V E) {b:Nat} (hb:b < base):NB p1 q1 b:=by
  obtain ⟨x,y,h1,h2,-⟩:=h
  exact ⟨fun a ha=>by have:=(h1.blk a ha).1;omega,fun a ha=>by have:=(h2.blk a ha).1;omega⟩

def Rz (G:Nat→Prop) (w:World) (v:Value) (V:Int) (K T:Nat) (P M N:Bool):Prop:=∃ s1 p1 l1 c1 q1 k1 d1,v = .agg #[.bool s1,.slice p1 l1 c1,.slice q1 k1 d1,.bool P,.bool M,.bool N,.int .u64 (T:Int)]∧Dy 0 w s1 p1 l1 c1 q1 k1 d1 V (K + K)∧∀ g,G g→NB p1 q1 g
theorem Rz.kp {G:Nat→Prop} {w w':World} {v:Value} {V:Int} {K T:Nat} {P M N:Bool} (h:Rz G w v V K T P M N) (g:Kp w w'):Rz G w' v V K T P M N:=by
  obtain ⟨s1,p1,l1,c1,q1,k1,d1,rfl,h,hn⟩:=h
  exact ⟨s1,p1,l1,c1,q1,k1,d1,rfl,h.kp g,hn⟩
def xP (X:Nat):Bool:=decide (xS X = 1)
def xM (X:Nat):Bool:=decide (xS X = -1)
def xN (X:Nat):Bool:=decide (xS X = 2)
theorem tS_cases (n:Bool) (m:Nat):tS n m = 0∨tS n m = 1∨tS n m = -1∨tS n m = 2:=by
  unfold tS
  by_cases a:9218868437227405312 < m
  · rw [if_pos a];omega
  · rw [if_neg a]
    by_cases b:m = 9218868437227405312
    · rw [if_pos b];cases n <;> simp
    · rw [if_neg b];omega
theorem stI_jn (P M N:Bool) (S:Int) (h:S = 0∨S = 1∨S = -1∨S = 2):stI (P || decide (S = 1)) (M || decide (S = -1)) (N || decide (S = 2)) = jn (stI P M N) S:=by
  rcases h with rfl | rfl | rfl | rfl <;> cases P <;> cases M <;> cases N <;> rfl
theorem refadd_ (X K B:Nat) (hK:K = 1074) (hX:X < 18446744073709551616) (hB:B≤60000) (v:Value) (V:Int) (T:Nat) (hT:T≤4611686018427387904) (P M N:Bool) (hV:V.natAbs < 2 ^ B) (hV2:(xV X K).natAbs < 2 ^ B) (G:Nat→Prop) (w:World) (hG:∀ g,G g→g < w.heap.size) (h:Rz G w v V K T P M N):Calls Tryz.prog 10 #[v,.int .u64 (X:Int)] w fun e w'=>∃ v',e = .returned v'∧Rz G w' v' (V + xV X K) K (tq T 1) (P || xP X) (M || xM X) (nq N T 1 || xN X)∧Kp w w':=by
  obtain ⟨s1,p1,l1,c1,q1,k1,d1,rfl,hD,hN⟩:=h
  obtain ⟨n,m,hm,rfl⟩:=Fq.exD X hX
  obtain ⟨u1,u2⟩:=wD_parts n m hm
  unfold xP xM xN xS
  unfold xV at hV2 ⊢
  rw [u1,u2] at hV2 ⊢
  by_cases c:m < 9218868437227405312
  · rw [if_pos c] at hV2 ⊢
    rw [fin0 n m c]
    refine (radd4_ n m K B hK c hB s1 p1 l1 c1 q1 k1 d1 P M N _ T _ (more1_ s1 p1 l1 c1 q1 k1 d1 P M N T hT) V hV hV2 0 w hD).mono ?_
    rintro e w' ⟨s3,p3,l3,c3,q3,k3,d3,rfl,h3,g⟩
    exact ⟨_,rfl,⟨s3,p3,l3,c3,q3,k3,d3,by simp,h3.mono (Nat.zero_le _),fun x hx=>h3.nbLow (hG x hx)⟩,g⟩
  · rw [if_neg c,Int.add_zero]
    have hin:=isnan_ n m hm
    have hii:=isinf_ n m hm
    by_cases d:9218868437227405312 < m
    · rw [decide_eq_true d] at hin
      rw [decide_eq_false (by omega)] at hii
      rw [show tS n m = 2 from by unfold tS;rw [if_pos d]]
      refine (raddN4_ _ s1 p1 l1 c1 q1 k1 d1 P M N _ T _ (more1_ s1 p1 l1 c1 q1 k1 d1 P M N T hT) hin w).mono ?_
      rintro e w' ⟨rfl,g⟩
      exact ⟨_,rfl,⟨s1,p1,l1,c1,q1,k1,d1,by simp,hD.kp g,hN⟩,g⟩
    · have e:m = 9218868437227405312:=by omega
      rw [decide_eq_false d] at hin
      rw [decide_eq_true e] at hii
      rw [show tS n m = if n then -1 else 1 from by unfold tS;rw [if_neg d,if_pos e]]
      cases n
      · refine (raddP4_ _ s1 p1 l1 c1 q1 k1 d1 P M N _ T _ (more1_ s1 p1 l1 c1 q1 k1 d1 P M N T hT) hin hii (neg4_ _ _ (by rw [decide_eq_false_iff_not];unfold Fq.wD;simp;omega)) w).mono ?_
        rintro e w' ⟨rfl,g⟩
        exact ⟨_,rfl,⟨s1,p1,l1,c1,q1,k1,d1,by simp,hD.kp g,hN⟩,g⟩
      · refine (raddM4_ _ s1 p1 l1 c1 q1 k1 d1 P M N _ T _ (more1_ s1 p1 l1 c1 q1 k1 d1 P M N T hT) hin hii (neg4_ _ _ (by rw [decide_eq_true_eq];unfold Fq.wD;simp;omega)) w).mono ?_
        rintro e w' ⟨rfl,g⟩
        exact ⟨_,rfl,⟨s1,p1,l1,c1,q1,k1,d1,by simp,hD.kp g,hN⟩,g⟩
theorem new4_ (K:Nat) (w:World):Calls Tryz.prog 5 #[] w fun e w'=>∃ v,e = .returned v∧(∀ G:Nat→Prop,(∀ g,G g→w'.heap.size≤g∨g < w.heap.size)→Rz G w' v 0 K 0 false false false)∧Kp w w':=by
  have hi:=int0X_ (K + K)
  have h7:=H7c.new w (.bool false) (.slice none 0 0) (.slice none 0 0) (.bool false) (.bool false) (.bool false) (.int .u64 0) 30
  have kw:Kp w (w.alloc (.cells #[.bool false,.slice none 0 0,.slice none 0 0,.bool false,.bool false,.bool false,.int .u64 0] 30)):=(Kp.refl w).alloc _
  go_enter Tryz.func5,Tryz.ntmps5
  go_wp2_with (first | (go_at_call 28;refine (hi _).mono ?_;rintro e W1 ⟨s1,p1,l1,c1,q1,k1,d1,rfl,D1,g1⟩;have hlt:=h7.lt;replace h7:=h7.keep g1;obtain ⟨r0,r1,r2,r3,r4,r5,r6,r7,r8,r9,r10,r11,r12,r13⟩:=id h7))
  refine bodyPost_ret (v:=.agg #[.bool s1,.slice p1 l1 c1,.slice q1 k1 d1,.bool false,.bool false,.bool false,.int .u64 0]) (by simp [results,Tryz.results5,go_sem,r0,r1,r2,r3,r4,r5,r6]) rfl ⟨_,rfl, ?_,((((((((kw.trans g1).setCell (Nat.le_refl _) _).setCell (Nat.le_refl _) _).setCell (Nat.le_refl _) _).setCell (Nat.le_refl _) _).setCell (Nat.le_refl _) _).setCell (Nat.le_refl _) _).setCell (Nat.le_refl _) _)⟩
  intro G hG
  have hd:=(Dy.set (Dy.set (Dy.set (Dy.set (Dy.set (Dy.set (Dy.set D1 (x:=⟨w.heap.size,0,none⟩) hlt (.bool s1)) (x:=⟨w.heap.size,1,none⟩) hlt (.slice p1 l1 c1)) (x:=⟨w.heap.size,2,none⟩) hlt (.slice q1 k1 d1)) (x:=⟨w.heap.size,3,none⟩) hlt (.bool false)) (x:=⟨w.heap.size,4,none⟩) hlt (.bool false)) (x:=⟨w.heap.size,5,none⟩) hlt (.bool false)) (x:=⟨w.heap.size,6,none⟩) hlt (.int .u64 0))
  refine ⟨s1,p1,l1,c1,q1,k1,d1,rfl,Dy.mono hd (Nat.zero_le _),fun x hx=>?_⟩
  rcases hG x hx with h | h
  · exact hd.nbNew h
  · exact hd.nbLow (Nat.lt_trans h hlt)
theorem rmul4_ (n n':Bool) (m m' K B:Nat) (hK:K = 1074) (hm:m < 9218868437227405312) (hm':m' < 9218868437227405312) (hf1:∀ w:World,Calls Tryz.prog 41 #[.int .u64 ((Fq.wD n m:Nat):Int)] w fun e w'=>e = .returned (.bool true)∧w' = w) (hf2:∀ w:World,Calls Tryz.prog 41 #[.int .u64 ((Fq.wD n' m':Nat):Int)] w fun e w'=>e = .returned (.bool true)∧w' = w) (hB:B≤60000) s1 p1 l1 c1 q1 k1 d1 (P M N N1:Bool) (T:Nat) (TT:Int) (hmo:∀ w:World,Calls Tryz.prog 34 #[.agg #[.bool s1,.slice p1 l1 c1,.slice q1 k1 d1,.bool P,.bool M,.bool N,.int .u64 (T:Int)],.int .u64 1] w fun e w'=>e = .returned (.agg #[.bool s1,.slice p1 l1 c1,.slice q1 k1 d1,.bool P,.bool M,.bool N1,.int .u64 TT])∧Kp w w') (V:Int) (hV:V.natAbs < 2 ^ B) (hV2:(Iv n m * Iv n' m').natAbs < 2 ^ B) (J:Nat) (hJ:J≤30000) (hV3:(Iv n m).natAbs < 2 ^ J) (hV4:(Iv n' m').natAbs < 2 ^ J) (b1:Nat) (w:World) (h1:Dy b1 w s1 p1 l1 c1 q1 k1 d1 V (K + K)):Calls Tryz.prog 12 #[.agg #[.bool s1,.slice p1 l1 c1,.slice q1 k1 d1,.bool P,.bool M,.bool N,.int .u64 (T:Int)],.int .u64 ((Fq.wD n m:Nat):Int),.int .u64 ((Fq.wD n' m':Nat):Int)] w fun e w'=>∃ s3 p3 l3 c3 q3 k3 d3,e = .returned (.agg #[.bool s3,.slice p3 l3 c3,.slice q3 k3 d3,.bool P,.bool M,.bool N1,.int .u64 TT])∧Dy w.heap.size w' s3 p3 l3 c3 q3 k3 d3 (V + Iv n m * Iv n' m') (K + K)∧Kp w w':=by
  have hfb1:=dyfrom_ n m K hK hm
  have hfb2:=dyfrom_ n' m' K hK hm'
  have hrm:=fun (W:World) s2 p2 l2 c2 q2 k2 d2 s4 p4 l4 c4 q4 k4 d4 (b2 b4:Nat) (h2:Dy b2 W s2 p2 l2 c2 q2 k2 d2 (Iv n m) K) (h4:Dy b4 W s4 p4 l4 c4 q4 k4 d4 (Iv n' m') K)=>dymul_ s2 p2 l2 c2 q2 k2 d2 s4 p4 l4 c4 q4 k4 d4 (Iv n m) (Iv n' m') K J hJ (by omega) hV3 hV4 b2 b4 W h2 h4
  have hra:=fun (W:World) s2 p2 l2 c2 q2 k2 d2 (b2:Nat) (g:Kp w W) (h2:Dy b2 W s2 p2 l2 c2 q2 k2 d2 (Iv n m * Iv n' m') (K + K))=>dyadd_ s1 p1 l1 c1 q1 k1 d1 s2 p2 l2 c2 q2 k2 d2 V (Iv n m * Iv n' m') (K + K) B hB (by omega) hV hV2 b1 b2 W (h1.kp g) h2
  obtain ⟨X1,hX1⟩:∃ X1,X1 = ((Fq.wD n m:Nat):Int):=⟨_,rfl⟩
  obtain ⟨X2,hX2⟩:∃ X2,X2 = ((Fq.wD n' m':Nat):Int):=⟨_,rfl⟩
  rw [← hX1] at hf1 hfb1 ⊢
  rw [← hX2] at hf2 hfb2 ⊢
  clear hX1 hX2
  generalize hPV:Iv n m * Iv n' m' = PV at *
  clear hPV
  generalize Iv n m = I1 at *
  generalize Iv n' m' = I2 at *
  have h7:H7c ((w.alloc (.cells #[.bool s1,.slice p1 l1 c1,.slice q1 k1 d1,.bool P,.bool M,.bool N,.int .u64 (T:Int)] 30)).alloc (.cells #[.bool false,.slice none 0 0,.slice none 0 0,.bool false,.bool false,.bool false,.int .u64 0] 30)) w.heap.size (.bool s1) (.slice p1 l1 c1) (.slice q1 k1 d1) (.bool P) (.bool M) (.bool N) (.int .u64 (T:Int)):=(H7c.new w (.bool s1) (.slice p1 l1 c1) (.slice q1 k1 d1) (.bool P) (.bool M) (.bool N) (.int .u64 (T:Int)) 30).keep ((Kp.refl _).alloc _)
  have h8:H7c ((w.alloc (.cells #[.bool s1,.slice p1 l1 c1,.slice q1 k1 d1,.bool P,.bool M,.bool N,.int .u64 (T:Int)] 30)).alloc (.cells #[.bool false,.slice none 0 0,.slice none 0 0,.bool false,.bool false,.bool false,.int .u64 0] 30)) (w.heap.size + 1) (.bool false) (.slice none 0 0) (.slice none 0 0) (.bool false) (.bool false) (.bool false) (.int .u64 0):=by
    have:=H7c.new (w.alloc (.cells #[.bool s1,.slice p1 l1 c1,.slice q1 k1 d1,.bool P,.bool M,.bool N,.int .u64 (T:Int)] 30)) (.bool false) (.slice none 0 0) (.slice none 0 0) (.bool false) (.bool false) (.bool false) (.int .u64 0) 30
    simpa using this
  have kw:Kp w ((w.alloc (.cells #[.bool s1,.slice p1 l1 c1,.slice q1 k1 d1,.bool P,.bool M,.bool N,.int .u64 (T:Int)] 30)).alloc (.cells #[.bool false,.slice none 0 0,.slice none 0 0,.bool false,.bool false,.bool false,.int .u64 0] 30)):=((Kp.refl w).alloc _).alloc _
  have hb1:w.heap.size≤w.heap.size:=Nat.le_refl _
  clear hK hm hm' hB hV hV2 hV3 hV4 hJ h1
  go_enter Tryz.func12,Tryz.ntmps12
  go_upto_region 2 with (first | (go_at_call_of 41 (Value.int IntKind.u64 X1);refine (hf1 _).mono ?_;rintro e w' ⟨rfl,hw'⟩;obtain rfl:=hw'.symm;clear hw') | (go_at_call_of 41 (Value.int IntKind.u64 X2);refine (hf2 _).mono ?_;rintro e w' ⟨rfl,hw'⟩;obtain rfl:=hw'.symm;clear hw'))
  generalize ((w.alloc (.cells #[.bool s1,.slice p1 l1 c1,.slice q1 k1 d1,.bool P,.bool M,.bool N,.int .u64 (T:Int)] 30)).alloc (.cells #[.bool false,.slice none 0 0,.slice none 0 0,.bool false,.bool false,.bool false,.int .u64 0] 30)) = W0 at h7 h8 kw ⊢
  generalize hb9:w.heap.size = b at h7 h8 ⊢
  rw [hb9] at hb1
  have hbw:w.heap.size≤b:=by rw [hb9];exact hb1
  obtain ⟨r0,r1,r2,r3,r4,r5,r6,r7,r8,r9,r10,r11,r12,r13⟩:=id h7
  obtain ⟨t0,t1,t2,t3,t4,t5,t6,t7,t8,t9,t10,t11,t12,t13⟩:=id h8
  go_upto_region 3 with (first | (go_at_call 34;refine (hmo _).mono ?_;rintro e W1 ⟨rfl,g1⟩;replace h7:=h7.keep g1;replace h8:=h8.keep g1;replace kw:=kw.trans g1;clear r0 r1 r2 r3 r4 r5 r6 r7 r8 r9 r10 r11 r12 r13 t0 t1 t2 t3 t4 t5 t6 t7 t8 t9 t10 t11 t12 t13;obtain ⟨r0,r1,r2,r3,r4,r5,r6,r7,r8,r9,r10,r11,r12,r13⟩:=id h7;obtain ⟨t0,t1,t2,t3,t4,t5,t6,t7,t8,t9,t10,t11,t12,t13⟩:=id h8))
  have q7:=H7c.put h7 (.bool s1) (.slice p1 l1 c1) (.slice q1 k1 d1) (.bool P) (.bool M) (.bool N1) (.int .u64 TT)
  have q8:H7c (((((((W1.setCell ⟨b,0,none⟩ (.bool s1)).setCell ⟨b,1,none⟩ (.slice p1 l1 c1)).setCell ⟨b,2,none⟩ (.slice q1 k1 d1)).setCell ⟨b,3,none⟩ (.bool P)).setCell ⟨b,4,none⟩ (.bool M)).setCell ⟨b,5,none⟩ (.bool N1)).setCell ⟨b,6,none⟩ (.int .u64 TT)) (b + 1) (.bool false) (.slice none 0 0) (.slice none 0 0) (.bool false) (.bool false) (.bool false) (.int .u64 0):=(H7c.far1 (H7c.far1 (H7c.far1 (H7c.far1 (H7c.far1 (H7c.far1 (H7c.far1 h8 ⟨b,0,none⟩ (show b≠b + 1 by omega) _) ⟨b,1,none⟩ (show b≠b + 1 by omega) _) ⟨b,2,none⟩ (show b≠b + 1 by omega) _) ⟨b,3,none⟩ (show b≠b + 1 by omega) _) ⟨b,4,none⟩ (show b≠b + 1 by omega) _) ⟨b,5,none⟩ (show b≠b + 1 by omega) _) ⟨b,6,none⟩ (show b≠b + 1 by omega) _)
  have kq:Kp w (((((((W1.setCell ⟨b,0,none⟩ (.bool s1)).setCell ⟨b,1,none⟩ (.slice p1 l1 c1)).setCell ⟨b,2,none⟩ (.slice q1 k1 d1)).setCell ⟨b,3,none⟩ (.bool P)).setCell ⟨b,4,none⟩ (.bool M)).setCell ⟨b,5,none⟩ (.bool N1)).setCell ⟨b,6,none⟩ (.int .u64 TT)):=(((((((kw.setCell hbw _).setCell hbw _).setCell hbw _).setCell hbw _).setCell hbw _).setCell hbw _).setCell hbw _)
  generalize (((((((W1.setCell ⟨b,0,none⟩ (.bool s1)).setCell ⟨b,1,none⟩ (.slice p1 l1 c1)).setCell ⟨b,2,none⟩ (.slice q1 k1 d1)).setCell ⟨b,3,none⟩ (.bool P)).setCell ⟨b,4,none⟩ (.bool M)).setCell ⟨b,5,none⟩ (.bool N1)).setCell ⟨b,6,none⟩ (.int .u64 TT)) = W2 at q7 q8 kq ⊢
  clear h7 h8 kw r0 r1 r2 r3 r4 r5 r6 r7 r8 r9 r10 r11 r12 r13 t0 t1 t2 t3 t4 t5 t6 t7 t8 t9 t10 t11 t12 t13
  obtain ⟨r0,r1,r2,r3,r4,r5,r6,r7,r8,r9,r10,r11,r12,r13⟩:=id q7
  have h7d:H7c W2.drew b (.bool s1) (.slice p1 l1 c1) (.slice q1 k1 d1) (.bool P) (.bool M) (.bool N1) (.int .u64 TT):=q7
  have h8d:H7c W2.drew (b + 1) (.bool false) (.slice none 0 0) (.slice none 0 0) (.bool false) (.bool false) (.bool false) (.int .u64 0):=q8
  have kwd:Kp w W2.drew:=kq.drew
  clear r0 r1 r2 r3 r4 r5 r6 r7 r8 r9 r10 r11 r12 r13 q7 q8 kq hmo
  obtain ⟨r0,r1,r2,r3,r4,r5,r6,r7,r8,r9,r10,r11,r12,r13⟩:=id h7d
  first | (go_region_with (first | (go_at_call_of 39 (Value.int IntKind.u64 X1);refine (hfb1 _).mono ?_;rintro e W5 ⟨s2,p2,l2,c2,q2,k2,d2,rfl,D2,g5⟩;have kw5:=kwd.trans g5;have h75:=h7d.keep g5;have h85:=h8d.keep g5;obtain ⟨e0,e1,e2,e3,e4,e5,e6,e7,e8,e9,e10,e11,e12,e13⟩:=id h75) | (go_at_call_of 39 (Value.int IntKind.u64 X2);refine (hfb2 _).mono ?_;rintro e W6 ⟨s4,p4,l4,c4,q4,k4,d4,rfl,D4,g6⟩;have kw6:=kw5.trans g6;have h76:=h75.keep g6;have h86:=h85.keep g6;obtain ⟨f0,f1,f2,f3,f4,f5,f6,f7,f8,f9,f10,f11,f12,f13⟩:=id h76;have hrm6:=hrm W6 s2 p2 l2 c2 q2 k2 d2 s4 p4 l4 c4 q4 k4 d4 _ _ (D2.kp g6) D4) | (go_at_call 42;refine hrm6.mono ?_;rintro e W3 ⟨s5,p5,l5,c5,q5,k5,d5,rfl,D5,g3⟩;have kw3:=kw6.trans g3;have h73:=h76.keep g3;have h83:=h86.keep g3;obtain ⟨u0,u1,u2,u3,u4,u5,u6,u7,u8,u9,u10,u11,u12,u13⟩:=id h73;obtain ⟨x0,x1,x2,x3,x4,x5,x6,x7,x8,x9,x10,x11,x12,x13⟩:=id h83;have hra3:=hra W3 s5 p5 l5 c5 q5 k5 d5 _ kw3 D5) | (go_at_call 38;refine hra3.mono ?_;rintro e W4 ⟨s3,p3,l3,c3,q3,k3,d3,rfl,D3,g4⟩;have kw4:=kw3.trans g4;have h74:=h73.keep g4;have h84:=h83.keep g4;obtain ⟨y0,y1,y2,y3,y4,y5,y6,y7,y8,y9,y10,y11,y12,y13⟩:=id h74;obtain ⟨z0,z1,z2,z3,z4,z5,z6,z7,z8,z9,z10,z11,z12,z13⟩:=id h84))) | fail
  all_goals (
    go_wp2
    have hl3:=h83.lt
    have hk3:=kw3.size
    refine bodyPost_ret (v:=.agg #[.bool s3,.slice p3 l3 c3,.slice q3 k3 d3,.bool P,.bool M,.bool N1,.int .u64 TT]) (by simp [results,Tryz.results12,go_sem,z0,z1,z2,z3,z4,z5,z6]) rfl ⟨s3,p3,l3,c3,q3,k3,d3,rfl, ?_, ?_⟩
    · refine Dy.mono ?_ hk3
      exact (Dy.set (Dy.set (Dy.set (Dy.set (Dy.set (Dy.set (Dy.set (Dy.set (Dy.set (Dy.set D3 (x:=⟨b,0,none⟩) (show b < W3.heap.size by omega) _) (x:=⟨b,1,none⟩) (show b < W3.heap.size by omega) _) (x:=⟨b,2,none⟩) (show b < W3.heap.size by omega) _) (x:=⟨b + 1,0,none⟩) (show b + 1 < W3.heap.size by omega) _) (x:=⟨b + 1,1,none⟩) (show b + 1 < W3.heap.size by omega) _) (x:=⟨b + 1,2,none⟩) (show b + 1 < W3.heap.size by omega) _) (x:=⟨b + 1,3,none⟩) (show b + 1 < W3.heap.size by omega) _) (x:=⟨b + 1,4,none⟩) (show b + 1 < W3.heap.size by omega) _) (x:=⟨b + 1,5,none⟩) (show b + 1 < W3.heap.size by omega) _) (x:=⟨b + 1,6,none⟩) (show b + 1 < W3.heap.size by omega) _)
    · exact ((((((((((kw4.setCell hbw _).setCell hbw _).setCell hbw _).setCell (show w.heap.size≤b + 1 by omega) _).setCell (show w.heap.size≤b + 1 by omega) _).setCell (show w.heap.size≤b + 1 by omega) _).setCell (show w.heap.size≤b + 1 by omega) _).setCell (show w.heap.size≤b + 1 by omega) _).setCell (show w.heap.size≤b + 1 by omega) _).setCell (show w.heap.size≤b + 1 by omega) _))
theorem zero3_ (n:Bool) (m:Nat) (hm:m < 9223372036854775808) (w:World):Calls Tryz.prog 76 #[.int .u64 ((Fq.wD n m:Nat):Int)] w fun e w'=>e = .returned (.bool (decide (m = 0)))∧w' = w:=by
  obtain ⟨X,hX⟩:∃ X,X = Fq.wD n m:=⟨_,rfl⟩
  have f1:=(noTop n m X hm hX).1
  rw [← hX]
  clear hX hm
  by_cases c:m = 0
  · have t1:((m:Int) == 0) = true:=by rw [c];rfl
    rw [decide_eq_true c]
    clear c
    go_enter Tryz.func76,Tryz.ntmps76
    go_wp2
    exact bodyPost_ret (v:=.bool true) (by simp [results,Tryz.results76,go_sem]) rfl ⟨rfl,rfl⟩
  · have t1:((m:Int) == 0) = false:=by simp;omega
    rw [decide_eq_false c]
    clear c
    go_enter Tryz.func76,Tryz.ntmps76
    go_wp2
    exact bodyPost_ret (v:=.bool false) (by simp [results,Tryz.results76,go_sem]) rfl ⟨rfl,rfl⟩
theorem neg3_ (n:Bool) (m:Nat) (hm:m < 9223372036854775808) (z:m≠0) (w:World):Calls Tryz.prog 37 #[.int .u64 ((Fq.wD n m:Nat):Int)] w fun e w'=>e = .returned (.bool n)∧w' = w:=by
  obtain ⟨X,hX⟩:∃ X,X = Fq.wD n m:=⟨_,rfl⟩
  have t1:(9223372036854775808 < (X:Int)) ↔ n = true:=by
    rw [hX];unfold Fq.wD
    cases n <;> simp <;> omega
  rw [← hX]
  clear hX hm z
  cases n
  · have t2:¬ (9223372036854775808 < (X:Int)):=fun h=>by simp at t1;omega
    clear t1
    go_enter Tryz.func37,Tryz.ntmps37
    go_wp2
    exact bodyPost_ret (v:=.bool false) (by simp [results,Tryz.results37,go_sem] <;> omega) rfl ⟨rfl,rfl⟩
  · have t2:9223372036854775808 < (X:Int):=t1.2 rfl
    clear t1
    go_enter Tryz.func37,Tryz.ntmps37
    go_wp2
    exact bodyPost_ret (v:=.bool true) (by simp [results,Tryz.results37,go_sem] <;> omega) rfl ⟨rfl,rfl⟩
theorem infin3_ (b:Bool) (w:World):Calls Tryz.prog 77 #[.bool b] w fun e w'=>e = .returned (.int .u64 ((Fq.wD b 9218868437227405312:Nat):Int))∧w' = w:=by
  cases b
  · rw [show ((Fq.wD false 9218868437227405312:Nat):Int) = 9218868437227405312 from rfl]
    go_enter Tryz.func77,Tryz.ntmps77
    go_wp2
    exact bodyPost_ret (v:=.int .u64 9218868437227405312) (by simp [results,Tryz.results77,go_sem]) rfl ⟨rfl,rfl⟩
  · rw [show ((Fq.wD true 9218868437227405312:Nat):Int) = 18442240474082181120 from rfl]
    go_enter Tryz.func77,Tryz.ntmps77
    go_wp2
    exact bodyPost_ret (v:=.int .u64 18442240474082181120) (by simp [results,Tryz.results77,go_sem]) rfl ⟨rfl,rfl⟩
theorem rprodB_ (d:Int) (n n':Bool) (m m':Nat) (hm:m < 9223372036854775808) (hm':m' < 9223372036854775808) (hb:badP m m') (w:World) :
    Calls Tryz.prog 43 #[.int .i64 d,.int .u64 ((Fq.wD n m:Nat):Int),.int .u64 ((Fq.wD n' m':Nat):Int)] w fun e w'=>e = .returned (.int .u64 9221120237041090561)∧Kp w w':=by
  have i1:=fun w=>isnan_ n m hm w
  have i2:=fun w=>isnan_ n' m' hm' w
  have j1:=fun w=>isinf_ n m hm w
  have j2:=fun w=>isinf_ n' m' hm' w
  have z1:=fun w=>zero3_ n m hm w
  have z2:=fun w=>zero3_ n' m' hm' w
  obtain ⟨X,hX⟩:∃ X,X = Fq.wD n m:=⟨_,rfl⟩
  obtain ⟨Y,hY⟩:∃ Y,Y = Fq.wD n' m':=⟨_,rfl⟩
  rw [← hX] at i1 j1 z1
  rw [← hY] at i2 j2 z2
  rw [← hX,← hY]
  unfold badP at hb
  by_cases c1:9218868437227405312 < m
  · rw [decide_eq_true c1] at i1
    clear hX hY i2 j1 j2 z1 z2 c1 hb hm hm'
    go_enter Tryz.func43,Tryz.ntmps43
    go_wp2_with fail
    refine (i1 w).mono ?_;rintro e w' ⟨rfl,hw'⟩;obtain rfl:=hw'.symm;clear hw'
    go_wp2
    exact bodyPost_ret (v:=.int .u64 9221120237041090561) (by simp [results,Tryz.results43,go_sem]) rfl ⟨rfl,Kp.refl _⟩
  · rw [decide_eq_false c1] at i1
    by_cases c2:9218868437227405312 < m'
    · rw [decide_eq_true c2] at i2
      clear hX hY j1 j2 z1 z2 c1 c2 hb hm hm'
      go_enter Tryz.func43,Tryz.ntmps43
      go_wp2_with fail
      refine (i1 w).mono ?_;rintro e w' ⟨rfl,hw'⟩;obtain rfl:=hw'.symm;clear hw'
      go_wp2_with fail
      refine (i2 w).mono ?_;rintro e w' ⟨rfl,hw'⟩;obtain rfl:=hw'.symm;clear hw'
      go_wp2
      exact bodyPost_ret (v:=.int .u64 9221120237041090561) (by simp [results,Tryz.results43,go_sem]) rfl ⟨rfl,Kp.refl _⟩
    · rw [decide_eq_false c2] at i2
      rcases (hb.resolve_left c1).resolve_left c2 with ⟨e1,e2⟩ | ⟨e1,e2⟩
      · rw [decide_eq_true e1] at j1
        rw [decide_eq_false (by omega)] at z1
        rw [decide_eq_true e2] at z2
        clear hX hY j2 c1 c2 hb hm hm' e1 e2
        go_enter Tryz.func43,Tryz.ntmps43
        go_wp2_with fail
        refine (i1 w).mono ?_;rintro e w' ⟨rfl,hw'⟩;obtain rfl:=hw'.symm;clear hw'
        go_wp2_with fail
        refine (i2 w).mono ?_;rintro e w' ⟨rfl,hw'⟩;obtain rfl:=hw'.symm;clear hw'
        go_wp2_with fail
        refine (j1 w).mono ?_;rintro e w' ⟨rfl,hw'⟩;obtain rfl:=hw'.symm;clear hw'
        go_wp2_with fail
        refine (z1 w).mono ?_;rintro e w' ⟨rfl,hw'⟩;obtain rfl:=hw'.symm;clear hw'
        go_wp2_with fail
        refine (z2 w).mono ?_;rintro e w' ⟨rfl,hw'⟩;obtain rfl:=hw'.symm;clear hw'
        go_wp2
        exact bodyPost_ret (v:=.int .u64 9221120237041090561) (by simp [results,Tryz.results43,go_sem]) rfl ⟨rfl,Kp.refl _⟩
      · rw [decide_eq_false (by omega)] at j1
        rw [decide_eq_true e2] at j2
        rw [decide_eq_true e1] at z1
        clear hX hY z2 c1 c2 hb hm hm' e1 e2
        go_enter Tryz.func43,Tryz.ntmps43
        go_wp2_with fail
        refine (i1 w).mono ?_;rintro e w' ⟨rfl,hw'⟩;obtain rfl:=hw'.symm;clear hw'
        go_wp2_with fail
        refine (i2 w).mono ?_;rintro e w' ⟨rfl,hw'⟩;obtain rfl:=hw'.symm;clear hw'
        go_wp2_with fail
        refine (j1 w).mono ?_;rintro e w' ⟨rfl,hw'⟩;obtain rfl:=hw'.symm;clear hw'
        go_wp2_with fail
        refine (j2 w).mono ?_;rintro e w' ⟨rfl,hw'⟩;obtain rfl:=hw'.symm;clear hw'
        go_wp2_with fail
        refine (z1 w).mono ?_;rintro e w' ⟨rfl,hw'⟩;obtain rfl:=hw'.symm;clear hw'
        go_wp2
        exact bodyPost_ret (v:=.int .u64 9221120237041090561) (by simp [results,Tryz.results43,go_sem]) rfl ⟨rfl,Kp.refl _⟩
theorem rprodI_ (d:Int) (n n':Bool) (m m':Nat) (hm:m < 9223372036854775808) (hm':m' < 9223372036854775808) (hb:¬ badP m m') (hi:¬ (m < 9218868437227405312∧m' < 9218868437227405312)) (w:World) :
    Calls Tryz.prog 43 #[.int .i64 d,.int .u64 ((Fq.wD n m:Nat):Int),.int .u64 ((Fq.wD n' m':Nat):Int)] w fun e w'=>e = .returned (.int .u64 ((Fq.wD (n ^^ n') 9218868437227405312:Nat):Int))∧Kp w w':=by
  unfold badP at hb
  have hz:m≠0:=by omega
  have hz':m'≠0:=by omega
  have i1:=fun w=>isnan_ n m hm w
  have i2:=fun w=>isnan_ n' m' hm' w
  have j1:=fun w=>isinf_ n m hm w
  have j2:=fun w=>isinf_ n' m' hm' w
  have z1:=fun w=>zero3_ n m hm w
  have z2:=fun w=>zero3_ n' m' hm' w
  obtain ⟨X,hX⟩:∃ X,X = Fq.wD n m:=⟨_,rfl⟩
  obtain ⟨Y,hY⟩:∃ Y,Y = Fq.wD n' m':=⟨_,rfl⟩
  have n1:=fun w=>neg3_ n m hm hz w
  have n2:=fun w=>neg3_ n' m' hm' hz' w
  have f1:=fun w=>infin3_ (n ^^ n') w
  rw [← hX] at i1 j1 z1 n1
  rw [← hY] at i2 j2 z2 n2
  obtain ⟨Z,hZ⟩:∃ Z,Z = Fq.wD (n ^^ n') 9218868437227405312:=⟨_,rfl⟩
  rw [← hZ] at f1
  rw [← hX,← hY,← hZ]
  rw [decide_eq_false (by omega)] at i1 i2 z1 z2
  obtain ⟨st,hst⟩:∃ st,st = (n ^^ n'):=⟨_,rfl⟩
  have hst2:(n != n') = st:=by rw [hst]
  have hst3:(!decide (n = n')) = st:=by rw [hst];cases n <;> cases n' <;> rfl
  have hst4:(!(n == n')) = st:=by rw [hst];cases n <;> cases n' <;> rfl
  rw [← hst] at f1
  clear hst hZ hX hY hz hz'
  by_cases c3:m = 9218868437227405312
  · rw [decide_eq_true c3] at j1
    clear hb hi hm hm' c3 j2
    go_enter Tryz.func43,Tryz.ntmps43
    go_wp2_with fail
    refine (i1 w).mono ?_;rintro e w' ⟨rfl,hw'⟩;obtain rfl:=hw'.symm;clear hw'
    go_wp2_with fail
    refine (i2 w).mono ?_;rintro e w' ⟨rfl,hw'⟩;obtain rfl:=hw'.symm;clear hw'
    go_wp2_with fail
    refine (j1 w).mono ?_;rintro e w' ⟨rfl,hw'⟩;obtain rfl:=hw'.symm;clear hw'
    go_wp2_with fail
    refine (z1 w).mono ?_;rintro e w' ⟨rfl,hw'⟩;obtain rfl:=hw'.symm;clear hw'
    go_wp2_with fail
    refine (z2 w).mono ?_;rintro e w' ⟨rfl,hw'⟩;obtain rfl:=hw'.symm;clear hw'
    go_wp2_with fail
    refine (n1 w).mono ?_;rintro e w' ⟨rfl,hw'⟩;obtain rfl:=hw'.symm;clear hw'
    go_wp2_with fail
    refine (n2 w).mono ?_;rintro e w' ⟨rfl,hw'⟩;obtain rfl:=hw'.symm;clear hw'
    go_wp2_with fail
    refine (f1 w).mono ?_;rintro e w' ⟨rfl,hw'⟩;obtain rfl:=hw'.symm;clear hw'
    go_wp2
    exact bodyPost_ret (v:=.int .u64 (Z:Int)) (by simp [results,Tryz.results43,go_sem]) rfl ⟨rfl,Kp.refl _⟩
  · rw [decide_eq_false c3] at j1
    rw [decide_eq_true (by omega)] at j2
    clear hb hi hm hm' c3
    go_enter Tryz.func43,Tryz.ntmps43
    go_wp2_with fail
    refine (i1 w).mono ?_;rintro e w' ⟨rfl,hw'⟩;obtain rfl:=hw'.symm;clear hw'
    go_wp2_with fail
    refine (i2 w).mono ?_;rintro e w' ⟨rfl,hw'⟩;obtain rfl:=hw'.symm;clear hw'
    go_wp2_with fail
    refine (j1 w).mono ?_;rintro e w' ⟨rfl,hw'⟩;obtain rfl:=hw'.symm;clear hw'
    go_wp2_with fail
    refine (j2 w).mono ?_;rintro e w' ⟨rfl,hw'⟩;obtain rfl:=hw'.symm;clear hw'
    go_wp2_with fail
    refine (z1 w).mono ?_;rintro e w' ⟨rfl,hw'⟩;obtain rfl:=hw'.symm;clear hw'
    go_wp2_with fail
    refine (z2 w).mono ?_;rintro e w' ⟨rfl,hw'⟩;obtain rfl:=hw'.symm;clear hw'
    go_wp2_with fail
    refine (n1 w).mono ?_;rintro e w' ⟨rfl,hw'⟩;obtain rfl:=hw'.symm;clear hw'
    go_wp2_with fail
    refine (n2 w).mono ?_;rintro e w' ⟨rfl,hw'⟩;obtain rfl:=hw'.symm;clear hw'
    go_wp2_with fail
    refine (f1 w).mono ?_;rintro e w' ⟨rfl,hw'⟩;obtain rfl:=hw'.symm;clear hw'
    go_wp2
    exact bodyPost_ret (v:=.int .u64 (Z:Int)) (by simp [results,Tryz.results43,go_sem]) rfl ⟨rfl,Kp.refl _⟩
theorem rmulQ4_ (X1 X2 R TT:Int) (f1 f2:Bool) s1 p1 l1 c1 q1 k1 d1 (P M N P2 M2 N2:Bool) (T:Nat) (hok:f1 = false∨(f1 = true∧f2 = false)) (hf1:∀ w:World,Calls Tryz.prog 41 #[.int .u64 X1] w fun e w'=>e = .returned (.bool f1)∧w' = w) (hf2:∀ w:World,Calls Tryz.prog 41 #[.int .u64 X2] w fun e w'=>e = .returned (.bool f2)∧w' = w) (hmu:∀ w:World,Calls Tryz.prog 43 #[.int .i64 0,.int .u64 X1,.int .u64 X2] w fun e w'=>e = .returned (.int .u64 R)∧Kp w w') (hadd:∀ w:World,Calls Tryz.prog 10 #[.agg #[.bool s1,.slice p1 l1 c1,.slice q1 k1 d1,.bool P,.bool M,.bool N,.int .u64 (T:Int)],.int .u64 R] w fun e w'=>e = .returned (.agg #[.bool s1,.slice p1 l1 c1,.slice q1 k1 d1,.bool P2,.bool M2,.bool N2,.int .u64 TT])∧Kp w w') (w:World):Calls Tryz.prog 12 #[.agg #[.bool s1,.slice p1 l1 c1,.slice q1 k1 d1,.bool P,.bool M,.bool N,.int .u64 (T:Int)],.int .u64 X1,.int .u64 X2] w fun e w'=>e = .returned (.agg #[.bool s1,.slice p1 l1 c1,.slice q1 k1 d1,.bool P2,.bool M2,.bool N2,.int .u64 TT])∧Kp w w':=by
  have h7:H7c ((w.alloc (.cells #[.bool s1,.slice p1 l1 c1,.slice q1 k1 d1,.bool P,.bool M,.bool N,.int .u64 (T:Int)] 30)).alloc (.cells #[.bool false,.slice none 0 0,.slice none 0 0,.bool false,.bool false,.bool false,.int .u64 0] 30)) w.heap.size (.bool s1) (.slice p1 l1 c1) (.slice q1 k1 d1) (.bool P) (.bool M) (.bool N) (.int .u64 (T:Int)):=(H7c.new w (.bool s1) (.slice p1 l1 c1) (.slice q1 k1 d1) (.bool P) (.bool M) (.bool N) (.int .u64 (T:Int)) 30).keep ((Kp.refl _).alloc _)
  have h8:H7c ((w.alloc (.cells #[.bool s1,.slice p1 l1 c1,.slice q1 k1 d1,.bool P,.bool M,.bool N,.int .u64 (T:Int)] 30)).alloc (.cells #[.bool false,.slice none 0 0,.slice none 0 0,.bool false,.bool false,.bool false,.int .u64 0] 30)) (w.heap.size + 1) (.bool false) (.slice none 0 0) (.slice none 0 0) (.bool false) (.bool false) (.bool false) (.int .u64 0):=by
    have:=H7c.new (w.alloc (.cells #[.bool s1,.slice p1 l1 c1,.slice q1 k1 d1,.bool P,.bool M,.bool N,.int .u64 (T:Int)] 30)) (.bool false) (.slice none 0 0) (.slice none 0 0) (.bool false) (.bool false) (.bool false) (.int .u64 0) 30
    simpa using this
  have kw:Kp w ((w.alloc (.cells #[.bool s1,.slice p1 l1 c1,.slice q1 k1 d1,.bool P,.bool M,.bool N,.int .u64 (T:Int)] 30)).alloc (.cells #[.bool false,.slice none 0 0,.slice none 0 0,.bool false,.bool false,.bool false,.int .u64 0] 30)):=((Kp.refl w).alloc _).alloc _
  have hb1:w.heap.size≤w.heap.size:=Nat.le_refl _
  rcases hok with rfl | ⟨rfl,rfl⟩
  · go_enter Tryz.func12,Tryz.ntmps12
    go_upto_region 5 with (first | (go_at_call_of 41 (Value.int IntKind.u64 X1);refine (hf1 _).mono ?_;rintro e w' ⟨rfl,hw'⟩;obtain rfl:=hw'.symm;clear hw') | (go_at_call_of 41 (Value.int IntKind.u64 X2);refine (hf2 _).mono ?_;rintro e w' ⟨rfl,hw'⟩;obtain rfl:=hw'.symm;clear hw'))
    generalize ((w.alloc (.cells #[.bool s1,.slice p1 l1 c1,.slice q1 k1 d1,.bool P,.bool M,.bool N,.int .u64 (T:Int)] 30)).alloc (.cells #[.bool false,.slice none 0 0,.slice none 0 0,.bool false,.bool false,.bool false,.int .u64 0] 30)) = W0 at h7 h8 kw ⊢
    generalize hb9:w.heap.size = b at h7 h8 ⊢
    rw [hb9] at hb1
    have hbw:w.heap.size≤b:=by rw [hb9];exact hb1
    have h7d:H7c W0.drew b (.bool s1) (.slice p1 l1 c1) (.slice q1 k1 d1) (.bool P) (.bool M) (.bool N) (.int .u64 (T:Int)):=h7
    have h8d:H7c W0.drew (b + 1) (.bool false) (.slice none 0 0) (.slice none 0 0) (.bool false) (.bool false) (.bool false) (.int .u64 0):=h8
    have kwd:Kp w W0.drew:=kw.drew
    clear h7 h8 kw
    obtain ⟨r0,r1,r2,r3,r4,r5,r6,r7,r8,r9,r10,r11,r12,r13⟩:=id h7d
    first | (go_region_with (first | (go_at_call 43;refine (hmu _).mono ?_;rintro e W3 ⟨rfl,g3⟩;have kw3:=kwd.trans g3;have h73:=h7d.keep g3;have h83:=h8d.keep g3;obtain ⟨u0,u1,u2,u3,u4,u5,u6,u7,u8,u9,u10,u11,u12,u13⟩:=id h73;obtain ⟨x0,x1,x2,x3,x4,x5,x6,x7,x8,x9,x10,x11,x12,x13⟩:=id h83) | (go_at_call 10;refine (hadd _).mono ?_;rintro e W4 ⟨rfl,g4⟩;have kw4:=kw3.trans g4;have h84:=h83.keep g4;obtain ⟨z0,z1,z2,z3,z4,z5,z6,z7,z8,z9,z10,z11,z12,z13⟩:=id h84))) | fail
    all_goals (
      go_wp2
      exact bodyPost_ret (v:=.agg #[.bool s1,.slice p1 l1 c1,.slice q1 k1 d1,.bool P2,.bool M2,.bool N2,.int .u64 TT]) (by simp [results,Tryz.results12,go_sem,z0,z1,z2,z3,z4,z5,z6]) rfl ⟨rfl,(((((((kw4.setCell (show w.heap.size≤b + 1 by omega) _).setCell (show w.heap.size≤b + 1 by omega) _).setCell (show w.heap.size≤b + 1 by omega) _).setCell (show w.heap.size≤b + 1 by omega) _).setCell (show w.heap.size≤b + 1 by omega) _).setCell (show w.heap.size≤b + 1 by omega) _).setCell (show w.heap.size≤b + 1 by omega) _)⟩)
  · go_enter Tryz.func12,Tryz.ntmps12
    go_upto_region 5 with (first | (go_at_call_of 41 (Value.int IntKind.u64 X1);refine (hf1 _).mono ?_;rintro e w' ⟨rfl,hw'⟩;obtain rfl:=hw'.symm;clear hw') | (go_at_call_of 41 (Value.int IntKind.u64 X2);refine (hf2 _).mono ?_;rintro e w' ⟨rfl,hw'⟩;obtain rfl:=hw'.symm;clear hw'))
    generalize ((w.alloc (.cells #[.bool s1,.slice p1 l1 c1,.slice q1 k1 d1,.bool P,.bool M,.bool N,.int .u64 (T:Int)] 30)).alloc (.cells #[.bool false,.slice none 0 0,.slice none 0 0,.bool false,.bool false,.bool false,.int .u64 0] 30)) = W0 at h7 h8 kw ⊢
    generalize hb9:w.heap.size = b at h7 h8 ⊢
    rw [hb9] at hb1
    have hbw:w.heap.size≤b:=by rw [hb9];exact hb1
    have h7d:H7c W0.drew b (.bool s1) (.slice p1 l1 c1) (.slice q1 k1 d1) (.bool P) (.bool M) (.bool N) (.int .u64 (T:Int)):=h7
    have h8d:H7c W0.drew (b + 1) (.bool false) (.slice none 0 0) (.slice none 0 0) (.bool false) (.bool false) (.bool false) (.int .u64 0):=h8
    have kwd:Kp w W0.drew:=kw.drew
    clear h7 h8 kw
    obtain ⟨r0,r1,r2,r3,r4,r5,r6,r7,r8,r9,r10,r11,r12,r13⟩:=id h7d
    first | (go_region_with (first | (go_at_call 43;refine (hmu _).mono ?_;rintro e W3 ⟨rfl,g3⟩;have kw3:=kwd.trans g3;have h73:=h7d.keep g3;have h83:=h8d.keep g3;obtain ⟨u0,u1,u2,u3,u4,u5,u6,u7,u8,u9,u10,u11,u12,u13⟩:=id h73;obtain ⟨x0,x1,x2,x3,x4,x5,x6,x7,x8,x9,x10,x11,x12,x13⟩:=id h83) | (go_at_call 10;refine (hadd _).mono ?_;rintro e W4 ⟨rfl,g4⟩;have kw4:=kw3.trans g4;have h84:=h83.keep g4;obtain ⟨z0,z1,z2,z3,z4,z5,z6,z7,z8,z9,z10,z11,z12,z13⟩:=id h84))) | fail
    all_goals (
      go_wp2
      exact bodyPost_ret (v:=.agg #[.bool s1,.slice p1 l1 c1,.slice q1 k1 d1,.bool P2,.bool M2,.bool N2,.int .u64 TT]) (by simp [results,Tryz.results12,go_sem,z0,z1,z2,z3,z4,z5,z6]) rfl ⟨rfl,(((((((kw4.setCell (show w.heap.size≤b + 1 by omega) _).setCell (show w.heap.size≤b + 1 by omega) _).setCell (show w.heap.size≤b + 1 by omega) _).setCell (show w.heap.size≤b + 1 by omega) _).setCell (show w.heap.size≤b + 1 by omega) _).setCell (show w.heap.size≤b + 1 by omega) _).setCell (show w.heap.size≤b + 1 by omega) _)⟩)

def yP (X Y:Nat):Bool:=decide (yS X Y = 1)
def yM (X Y:Nat):Bool:=decide (yS X Y = -1)
def yN (X Y:Nat):Bool:=decide (yS X Y = 2)
theorem yS_cases (X Y:Nat):yS X Y = 0∨yS X Y = 1∨yS X Y = -1∨yS X Y = 2:=by
  unfold yS
  by_cases a:X % 9223372036854775808 < 9218868437227405312∧Y % 9223372036854775808 < 9218868437227405312
  · rw [if_pos a];omega
  · rw [if_neg a]
    by_cases b:9218868437227405312 < X % 9223372036854775808∨9218868437227405312 < Y % 9223372036854775808∨(X % 9223372036854775808 = 9218868437227405312∧Y % 9223372036854775808 = 0)∨(X % 9223372036854775808 = 0∧Y % 9223372036854775808 = 9218868437227405312)
    · rw [if_pos b];omega
    · rw [if_neg b]
      by_cases c:(decide (9223372036854775808≤X) ^^ decide (9223372036854775808≤Y)) = true
      · rw [if_pos c];omega
      · rw [if_neg c];omega
theorem refmul_ (X Y K B:Nat) (hK:K = 1074) (hX:X < 18446744073709551616) (hY:Y < 18446744073709551616) (hB:B≤60000) (v:Value) (V:Int) (T:Nat) (hT:T≤4611686018427387904) (P M N:Bool) (hV:V.natAbs < 2 ^ B) (hV2:(yV X Y).natAbs < 2 ^ B) (G:Nat→Prop) (w:World) (hG:∀ g,G g→g < w.heap.size) (h:Rz G w v V K T P M N):Calls Tryz.prog 12 #[v,.int .u64 (X:Int),.int .u64 (Y:Int)] w fun e w'=>∃ v',e = .returned v'∧Rz G w' v' (V + yV X Y) K (tq T 1) (P || yP X Y) (M || yM X Y) (nq N T 1 || yN X Y)∧Kp w w':=by
  obtain ⟨s1,p1,l1,c1,q1,k1,d1,rfl,hD,hN⟩:=h
  have hf1:=fin4_ X hX
  have hf2:=fin4_ Y hY
  obtain ⟨n,m,hm,rfl⟩:=Fq.exD X hX
  obtain ⟨n',m',hm',rfl⟩:=Fq.exD Y hY
  obtain ⟨u1,u2⟩:=wD_parts n m hm
  obtain ⟨v1,v2⟩:=wD_parts n' m' hm'
  unfold yP yM yN yS
  unfold yV at hV2 ⊢
  rw [u1] at hf1
  rw [v1] at hf2
  rw [u1,u2,v1,v2] at hV2 ⊢
  by_cases c:m < 9218868437227405312∧m' < 9218868437227405312
  · rw [if_pos c] at hV2 ⊢
    rw [if_pos c]
    rw [decide_eq_true c.1] at hf1
    rw [decide_eq_true c.2] at hf2
    refine (rmul4_ n n' m m' K B hK c.1 c.2 hf1 hf2 hB s1 p1 l1 c1 q1 k1 d1 P M N _ T _ (more1_ s1 p1 l1 c1 q1 k1 d1 P M N T hT) V hV hV2 (K + 1024) (by omega) (iv_lt n m K hK c.1) (iv_lt n' m' K hK c.2) 0 w hD).mono ?_
    rintro e w' ⟨s3,p3,l3,c3,q3,k3,d3,rfl,h3,g⟩
    exact ⟨_,rfl,⟨s3,p3,l3,c3,q3,k3,d3,by simp,h3.mono (Nat.zero_le _),fun x hx=>h3.nbLow (hG x hx)⟩,g⟩
  · rw [if_neg c,if_neg c,Int.add_zero]
    have hok:decide (m < 9218868437227405312) = false∨(decide (m < 9218868437227405312) = true∧decide (m' < 9218868437227405312) = false):=by
      by_cases z:m < 9218868437227405312
      · exact Or.inr ⟨decide_eq_true z,decide_eq_false (fun h=>c ⟨z,h⟩)⟩
      · exact Or.inl (decide_eq_false z)
    by_cases cb:9218868437227405312 < m∨9218868437227405312 < m'∨(m = 9218868437227405312∧m' = 0)∨(m = 0∧m' = 9218868437227405312)
    · rw [if_pos cb]
      have hin:=isnan_ false 9221120237041090561 (by decide)
      rw [decide_eq_true (by decide)] at hin
      refine (rmulQ4_ _ _ 9221120237041090561 _ _ _ s1 p1 l1 c1 q1 k1 d1 P M N P M true T hok hf1 hf2 (rprodB_ 0 n n' m m' hm hm' cb) (raddN4_ 9221120237041090561 s1 p1 l1 c1 q1 k1 d1 P M N _ T _ (more1_ s1 p1 l1 c1 q1 k1 d1 P M N T hT) hin) w).mono ?_
      rintro e w' ⟨rfl,g⟩
      exact ⟨_,rfl,⟨s1,p1,l1,c1,q1,k1,d1,by simp,hD.kp g,hN⟩,g⟩
    · rw [if_neg cb]
      have hin:=isnan_ (n ^^ n') 9218868437227405312 (by decide)
      have hii:=isinf_ (n ^^ n') 9218868437227405312 (by decide)
      rw [decide_eq_false (by decide)] at hin
      rw [decide_eq_true rfl] at hii
      have hmu:=rprodI_ 0 n n' m m' hm hm' cb c
      cases hx:(n ^^ n')
      · rw [hx] at hin hii hmu
        refine (rmulQ4_ _ _ _ _ _ _ s1 p1 l1 c1 q1 k1 d1 P M N true M (nq N T 1) T hok hf1 hf2 hmu (raddP4_ _ s1 p1 l1 c1 q1 k1 d1 P M N _ T _ (more1_ s1 p1 l1 c1 q1 k1 d1 P M N T hT) hin hii (neg4_ _ _ (by decide +kernel))) w).mono ?_
        rintro e w' ⟨rfl,g⟩
        exact ⟨_,rfl,⟨s1,p1,l1,c1,q1,k1,d1,by simp,hD.kp g,hN⟩,g⟩
      · rw [hx] at hin hii hmu
        refine (rmulQ4_ _ _ _ _ _ _ s1 p1 l1 c1 q1 k1 d1 P M N P true (nq N T 1) T hok hf1 hf2 hmu (raddM4_ _ s1 p1 l1 c1 q1 k1 d1 P M N _ T _ (more1_ s1 p1 l1 c1 q1 k1 d1 P M N T hT) hin hii (neg4_ _ _ (by decide +kernel))) w).mono ?_
        rintro e w' ⟨rfl,g⟩
        exact ⟨_,rfl,⟨s1,p1,l1,c1,q1,k1,d1,by simp,hD.kp g,hN⟩,g⟩

def tX (x:Nat):Nat:=x ^^^ 9223372036854775808
theorem xor_top (x:Nat) (h:x < 18446744073709551616):bits .xor .u64 (x:Int) 9223372036854775808 = ((tX x:Nat):Int):=bits_xor_u64_nat x 9223372036854775808 h (by decide)
theorem bitsNaN4_ (X:Nat) (h:(FloatKind.f64.format.order X X != some .eq) = true) (w:World):Calls Tryz.prog 17 #[.float .f64 X] w fun e w'=>e = .returned (.int .u64 (9221120237041090561:Int))∧w' = w:=by
  go_enter Tryz.func17,Tryz.ntmps17
  go_wp2
  exact bodyPost_ret (v:=.int .u64 9221120237041090561) (by simp [results,Tryz.results17,go_sem]) rfl ⟨rfl,rfl⟩
theorem lo0:(FloatKind.f64.format.order 0 0 != some .eq) = false:=by decide +kernel
theorem loI:(FloatKind.f64.format.order 9218868437227405312 9218868437227405312 != some .eq) = false:=by decide +kernel
theorem loM:(FloatKind.f64.format.order 18442240474082181120 18442240474082181120 != some .eq) = false:=by decide +kernel
theorem loN:(FloatKind.f64.format.order 9221120237041090561 9221120237041090561 != some .eq) = true:=by decide +kernel
theorem ordfma4 (d V:Int):(FloatKind.f64.format.order (fmaW d V) (fmaW d V) != some .eq) = false:=by
  unfold fmaW
  by_cases c:V = 0
  · rw [if_pos c];exact lo0
  · rw [if_neg c];exact ordselfD _ _ (fin_leD _ _)
theorem bitsR4_ (d V s:Int) (w:World):Calls Tryz.prog 17 #[.float .f64 (rdW d V s)] w fun e w'=>e = .returned (.int .u64 ((rdW d V s:Nat):Int))∧w' = w:=by
  unfold rdW
  by_cases c:s = 0
  · rw [if_pos c];exact bits4_ _ (ordfma4 d V) w
  · rw [if_neg c]
    unfold limW
    by_cases c2:s = 2
    · rw [if_pos c2];exact bitsNaN4_ _ loN w
    · rw [if_neg c2]
      by_cases c3:0≤s
      · rw [if_pos c3];exact bits4_ _ loI w
      · rw [if_neg c3];exact bits4_ _ loM w
end Go.Proofs.YtfhcmabejagknaaGreatDoor
