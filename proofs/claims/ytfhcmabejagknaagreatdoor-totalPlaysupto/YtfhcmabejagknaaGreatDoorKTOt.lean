import Derived.Test.YtfhcmabejagknaaGreatDoorKTOu
import Derived.Test.YtfhcmabejagknaaGreatDoorKU4x
set_option maxHeartbeats 2000000
set_option maxRecDepth 20000
namespace Go.Proofs.YtfhcmabejagknaaGreatDoor
open Go.RowKit

theorem fl4_ (x:Nat) (w:World):Calls Tryz.prog 9 #[.int .u64 (x:Int)] w fun e w'=>e = .returned (.float .f64 x)∧w' = w:=by
  have h:=Fq.ff64 x
  go_enter Tryz.func9,Tryz.ntmps9
  go_wp2
  exact bodyPost_ret (v:=.float .f64 x) (by simp [results,Tryz.results9,go_sem]) rfl ⟨rfl,rfl⟩
theorem bits4_ (X:Nat) (h:(FloatKind.f64.format.order X X != some .eq) = false) (w:World):Calls Tryz.prog 17 #[.float .f64 X] w fun e w'=>e = .returned (.int .u64 (X:Int))∧w' = w:=by
  have h2:=Fq.fb64 X
  go_enter Tryz.func17,Tryz.ntmps17
  go_wp2
  exact bodyPost_ret (v:=.int .u64 (X:Int)) (by simp [results,Tryz.results17,go_sem]) rfl ⟨rfl,rfl⟩
theorem lv1:fmaW 0 (0 + tV false 4607182418800017408 1074 + Iv false 1 * Iv false 4607182418800017408 + tV true 4607182418800017408 1074) = 1:=by decide +kernel
theorem lv2:sgV (0 + tV false 4607182418800017408 1074 + Iv false 1 * Iv false 4607182418800017408 + tV true 4607182418800017408 1074) = 1:=by decide +kernel
theorem lv3:ratW (-1) (decide ((0 + tV false 9218868437227405311 1074 + tV false 9218868437227405311 1074) < 0)) (0 + tV false 9218868437227405311 1074 + tV false 9218868437227405311 1074).natAbs 2 (-2148) = 9218868437227405311:=by decide +kernel
theorem lv4:fmaW 1 (0 + tV false 9218868437227405311 1074 + tV false 9218868437227405311 1074) = 9218868437227405312:=by decide +kernel
theorem lo1:(FloatKind.f64.format.order 1 1 != some .eq) = false:=by decide +kernel
theorem lo2:(FloatKind.f64.format.order 9218868437227405311 9218868437227405311 != some .eq) = false:=by decide +kernel
theorem lo3:(FloatKind.f64.format.order 9218868437227405312 9218868437227405312 != some .eq) = false:=by decide +kernel
theorem Kb.ne {g:Nat} {a w w':World} (h:Kb g w w') (k:Kp a w) (hg:a.heap.size≤g):Kp a w':=Kb.kp h k hg
theorem lives_ (w:World) (hT:Tab w) (hQ:Fq.Tab w):Calls Tryz.prog 6 #[] w fun e w'=>e = .returned (.bool true)∧Kp w w':=by
  have hnw:=fnew_ 1074
  have hfl1:=fl4_ 1
  have hfl2:=fl4_ 4607182418800017408
  have hfl3:=fl4_ 9218868437227405311
  have hb1:=bits4_ 1 lo1
  have hb2:=bits4_ 9218868437227405311 lo2
  have hb3:=bits4_ 9218868437227405312 lo3
  have ha1:=fun (b:Nat) (V:Int) (k:Nat) (hk:k < 4611686018427387904)=>fadd_ false 4607182418800017408 (by decide) 1074 rfl b V k hk
  have ha2:=fun (b:Nat) (V:Int) (k:Nat) (hk:k < 4611686018427387904)=>fadd_ true 4607182418800017408 (by decide) 1074 rfl b V k hk
  have ha3:=fun (b:Nat) (V:Int) (k:Nat) (hk:k < 4611686018427387904)=>fadd_ false 9218868437227405311 (by decide) 1074 rfl b V k hk
  have hm1:=fun (b:Nat) (V:Int) (k:Nat) (hk:k < 4611686018427387904)=>fmul_ false false 1 4607182418800017408 (by decide) (by decide) 1074 rfl b V k hk
  rw [show Fq.wD false 4607182418800017408 = 4607182418800017408 from rfl] at ha1 hm1
  rw [show Fq.wD true 4607182418800017408 = 13830554455654793216 from rfl] at ha2
  rw [show Fq.wD false 9218868437227405311 = 9218868437227405311 from rfl] at ha3
  rw [show Fq.wD false 1 = 1 from rfl] at hm1
  have hr1:=fun (b:Nat) (V:Int) (k:Nat)=>fround_ 0 (by decide) (by decide) 1074 rfl b V k
  have hr2:=fun (b:Nat) (V:Int) (k:Nat)=>fround_ 1 (by decide) (by decide) 1074 rfl b V k
  have ho1:=fun (b:Nat) (V:Int) (k:Nat)=>fover_ (-1) (by decide) (by decide) 2 (by decide) (by decide) 1074 rfl b V k
  have hs1:=fun (b:Nat) (V:Int) (k:Nat)=>fsign_ 1074 rfl b V k
  have hs2:=fun (b:Nat) (V:Int) (k:Nat)=>fstate_ 1074 b V k
  go_enter Tryz.func6,Tryz.ntmps6
  go_wp2_with fail
  refine (hnw _).mono ?_;rintro e w1 ⟨rfl,s1,g1⟩
  go_wp2_with fail
  refine (hnw _).mono ?_;rintro e w2 ⟨rfl,t1,g2⟩
  have hne:w.heap.size≠w1.heap.size:=by have:=s1.lt;omega
  have hz1:w.heap.size≤w1.heap.size:=g1.size
  replace s1:=s1.kp g2
  have kw:=g1.trans g2
  have hz0:w.heap.size≤w.heap.size:=Nat.le_refl _
  clear g1 g2 hnw
  generalize w1.heap.size = b2 at *
  generalize hb9:w.heap.size = b1 at s1 hne ⊢
  rw [hb9] at hz0
  have hz0:w.heap.size≤b1:=by rw [hb9];exact hz0
  clear hb9
  go_wp2_with fail
  refine (ha1 b1 _ 0 (by decide) _ s1).mono ?_;rintro e w3 ⟨⟨v3,rfl⟩,s2,k3⟩
  replace t1:=t1.kb k3 (Ne.symm hne)
  replace kw:=k3.kp kw hz0
  clear k3 s1
  go_wp2_with fail
  refine (hfl1 _).mono ?_;rintro e w' ⟨rfl,hw'⟩;obtain rfl:=hw'.symm;clear hw'
  go_wp2_with fail
  refine (hfl2 _).mono ?_;rintro e w' ⟨rfl,hw'⟩;obtain rfl:=hw'.symm;clear hw'
  go_wp2_with fail
  refine (hm1 b1 _ 1 (by decide) _ s2).mono ?_;rintro e w4 ⟨⟨v4,rfl⟩,s3,k4⟩
  replace t1:=t1.kb k4 (Ne.symm hne)
  replace kw:=k4.kp kw hz0
  clear k4 s2
  go_wp2_with fail
  refine (ha2 b1 _ 2 (by decide) _ s3).mono ?_;rintro e w5 ⟨⟨v5,rfl⟩,s4,k5⟩
  replace t1:=t1.kb k5 (Ne.symm hne)
  replace kw:=k5.kp kw hz0
  clear k5 s3
  go_wp2_with fail
  refine (hfl3 _).mono ?_;rintro e w' ⟨rfl,hw'⟩;obtain rfl:=hw'.symm;clear hw'
  go_wp2_with fail
  refine (ha3 b2 _ 0 (by decide) _ t1).mono ?_;rintro e w6 ⟨⟨v6,rfl⟩,t2,k6⟩
  replace s4:=s4.kb k6 hne
  replace kw:=k6.kp kw hz1
  clear k6 t1
  go_wp2_with fail
  refine (hfl3 _).mono ?_;rintro e w' ⟨rfl,hw'⟩;obtain rfl:=hw'.symm;clear hw'
  go_wp2_with fail
  refine (ha3 b2 _ 1 (by decide) _ t2).mono ?_;rintro e w7 ⟨⟨v7,rfl⟩,t3,k7⟩
  replace s4:=s4.kb k7 hne
  replace kw:=k7.kp kw hz1
  clear k7 t2
  have q1:=hr1 b1 _ _ _ s4 (hT.grown kw) (Fq.Tab.grown hQ kw)
  rw [lv1] at q1
  go_wp2_with fail
  refine q1.mono ?_;rintro e w8 ⟨rfl,g8⟩
  replace kw:=kw.trans g8
  replace s4:=s4.kp g8
  replace t3:=t3.kp g8
  clear g8 q1
  go_wp2_with fail
  refine (hb1 _).mono ?_;rintro e w' ⟨rfl,hw'⟩;obtain rfl:=hw'.symm;clear hw'
  have q2:=hs1 b1 _ _ _ s4
  rw [lv2] at q2
  go_wp2_with fail
  refine q2.mono ?_;rintro e w9 ⟨rfl,g9⟩
  replace kw:=kw.trans g9
  replace s4:=s4.kp g9
  replace t3:=t3.kp g9
  clear g9 q2
  go_wp2_with fail
  refine (hs2 b1 _ _ _ s4).mono ?_;rintro e w' ⟨rfl,hw'⟩;obtain rfl:=hw'.symm;clear hw'
  have q3:=ho1 b2 _ _ _ t3 (Fq.Tab.grown hQ kw)
  rw [lv3] at q3
  go_wp2_with fail
  refine q3.mono ?_;rintro e w10 ⟨rfl,g10⟩
  replace kw:=kw.trans g10
  replace t3:=t3.kp g10
  clear g10 q3
  go_wp2_with fail
  refine (hb2 _).mono ?_;rintro e w' ⟨rfl,hw'⟩;obtain rfl:=hw'.symm;clear hw'
  have q4:=hr2 b2 _ _ _ t3 (hT.grown kw) (Fq.Tab.grown hQ kw)
  rw [lv4] at q4
  go_wp2_with fail
  refine q4.mono ?_;rintro e w11 ⟨rfl,g11⟩
  replace kw:=kw.trans g11
  clear g11 q4
  go_wp2_with fail
  refine (hb3 _).mono ?_;rintro e w' ⟨rfl,hw'⟩;obtain rfl:=hw'.symm;clear hw'
  go_wp2
  exact bodyPost_ret (v:=.bool true) (by simp [results,Tryz.results6,go_sem]) rfl ⟨rfl,kw⟩

theorem splitA_ (n:Bool) (m:Nat) (hm:m < 9223372036854775808):∃ (a:Bool) (c e:Int),∀ w:World,Calls Tryz.prog 29 #[.float .f64 (Fq.wD n m)] w fun r w'=>r = .returned (.tuple #[.bool a,.int .u64 c,.int .i64 e,.bool (decide (m < 9218868437227405312))])∧Kp w w':=by
  by_cases c:m < 9218868437227405312
  · rw [decide_eq_true c];exact ⟨_,_,_,fun w=>Fq.split_d n m c w⟩
  · rw [decide_eq_false c];exact ⟨_,_,_,fun w=>Fq.splitx_d n m (by omega) hm w⟩
theorem mulN_ (X1 X2:Nat) (a1 a2:Bool) (c1 e1 c2 e2:Int) (ok1 ok2:Bool) (b:Nat) (ws:List Nat) (k:Nat) (s:Int) (hsp1:∀ w:World,Calls Tryz.prog 29 #[.float .f64 X1] w fun r w'=>r = .returned (.tuple #[.bool a1,.int .u64 c1,.int .i64 e1,.bool ok1])∧Kp w w') (hsp2:∀ w:World,Calls Tryz.prog 29 #[.float .f64 X2] w fun r w'=>r = .returned (.tuple #[.bool a2,.int .u64 c2,.int .i64 e2,.bool ok2])∧Kp w w') (hok:ok1 = false∨(ok1 = true∧ok2 = false)) (hnan:∀ w:World,∃ r,9218868437227405312 < r % 9223372036854775808∧r < 18446744073709551616∧(binOp .mul 43 (.float .f64 X1) (.float .f64 X2)).run Tryz.prog w = .ok (.float .f64 r) w.drew) (w:World) (hS:Sb w b ws k s):Calls Tryz.prog 11 #[.pointer (some ⟨b,0,none⟩),.float .f64 X1,.float .f64 X2] w fun e w'=>(∃ v,e = .returned v)∧Sb w' b ws ((k + 1) % 18446744073709551616) (grS ((k + 1) % 18446744073709551616) (jn s 2))∧Kb b w w':=by
  have kA:Kb b w w:=Kb.refl _ _
  rcases hok with rfl | ⟨rfl,rfl⟩
  · go_enter Tryz.func11,Tryz.ntmps11
    go_wp2_with (first | (go_at_call_of 29 (Value.float FloatKind.f64 X1);refine (hsp1 _).mono ?_;rintro e w1 ⟨rfl,g1⟩;replace hS:=hS.kp g1;replace kA:=kA.trans (Kb.of (g:=b) g1)) | (go_at_call_of 29 (Value.float FloatKind.f64 X2);refine (hsp2 _).mono ?_;rintro e w2 ⟨rfl,g2⟩;replace hS:=hS.kp g2;replace kA:=kA.trans (Kb.of (g:=b) g2);obtain ⟨r,hr1,hr2,hrun⟩:=hnan w2;obtain ⟨n9,m9,hm9,rfl⟩:=Fq.exD r hr2;have hadd:=addX_ n9 m9 (by have:=(wD_parts n9 m9 hm9).1;omega) hm9 b ws k s w2.drew (hS.kp ((Kp.refl _).drew));rw [show tS n9 m9 = 2 from by unfold tS;rw [if_pos (by have:=(wD_parts n9 m9 hm9).1;omega)]] at hadd;have kA:=kA.drew) | (go_at_call 8;refine hadd.mono ?_;rintro e w3 ⟨⟨v3,rfl⟩,hZ,k3⟩))
    first | exact bodyPost_ret (v:=.tuple #[]) (by kernel_rfl) rfl ⟨⟨_,rfl⟩,hZ,kA.trans k3⟩ | exact bodyPost_ret (v:=.tuple #[]) (by simp [results,Tryz.results11,go_sem]) rfl ⟨⟨_,rfl⟩,hZ,kA.trans k3⟩
  · go_enter Tryz.func11,Tryz.ntmps11
    go_wp2_with (first | (go_at_call_of 29 (Value.float FloatKind.f64 X1);refine (hsp1 _).mono ?_;rintro e w1 ⟨rfl,g1⟩;replace hS:=hS.kp g1;replace kA:=kA.trans (Kb.of (g:=b) g1)) | (go_at_call_of 29 (Value.float FloatKind.f64 X2);refine (hsp2 _).mono ?_;rintro e w2 ⟨rfl,g2⟩;replace hS:=hS.kp g2;replace kA:=kA.trans (Kb.of (g:=b) g2);obtain ⟨r,hr1,hr2,hrun⟩:=hnan w2;obtain ⟨n9,m9,hm9,rfl⟩:=Fq.exD r hr2;have hadd:=addX_ n9 m9 (by have:=(wD_parts n9 m9 hm9).1;omega) hm9 b ws k s w2.drew (hS.kp ((Kp.refl _).drew));rw [show tS n9 m9 = 2 from by unfold tS;rw [if_pos (by have:=(wD_parts n9 m9 hm9).1;omega)]] at hadd;have kA:=kA.drew) | (go_at_call 8;refine hadd.mono ?_;rintro e w3 ⟨⟨v3,rfl⟩,hZ,k3⟩))
    first | exact bodyPost_ret (v:=.tuple #[]) (by kernel_rfl) rfl ⟨⟨_,rfl⟩,hZ,kA.trans k3⟩ | exact bodyPost_ret (v:=.tuple #[]) (by simp [results,Tryz.results11,go_sem]) rfl ⟨⟨_,rfl⟩,hZ,kA.trans k3⟩
theorem mulI_ (X1 X2:Nat) (a1 a2:Bool) (c1 e1 c2 e2:Int) (ok1 ok2:Bool) (b:Nat) (ws:List Nat) (k:Nat) (s:Int) (hsp1:∀ w:World,Calls Tryz.prog 29 #[.float .f64 X1] w fun r w'=>r = .returned (.tuple #[.bool a1,.int .u64 c1,.int .i64 e1,.bool ok1])∧Kp w w') (hsp2:∀ w:World,Calls Tryz.prog 29 #[.float .f64 X2] w fun r w'=>r = .returned (.tuple #[.bool a2,.int .u64 c2,.int .i64 e2,.bool ok2])∧Kp w w') (hok:ok1 = false∨(ok1 = true∧ok2 = false)) (R:Nat) (S9:Int) (hinf:∀ w:World,(binOp .mul 43 (.float .f64 X1) (.float .f64 X2)).run Tryz.prog w = .ok (.float .f64 R) w) (hadd0:∀ w:World,Sb w b ws k s→Calls Tryz.prog 8 #[.pointer (some ⟨b,0,none⟩),.float .f64 R] w fun e w'=>(∃ v,e = .returned v)∧Sb w' b ws ((k + 1) % 18446744073709551616) (grS ((k + 1) % 18446744073709551616) (jn s S9))∧Kb b w w') (w:World) (hS:Sb w b ws k s):Calls Tryz.prog 11 #[.pointer (some ⟨b,0,none⟩),.float .f64 X1,.float .f64 X2] w fun e w'=>(∃ v,e = .returned v)∧Sb w' b ws ((k + 1) % 18446744073709551616) (grS ((k + 1) % 18446744073709551616) (jn s S9))∧Kb b w w':=by
  have kA:Kb b w w:=Kb.refl _ _
  rcases hok with rfl | ⟨rfl,rfl⟩
  · go_enter Tryz.func11,Tryz.ntmps11
    go_wp2_with (first | (go_at_call_of 29 (Value.float FloatKind.f64 X1);refine (hsp1 _).mono ?_;rintro e w1 ⟨rfl,g1⟩;replace hS:=hS.kp g1;replace kA:=kA.trans (Kb.of (g:=b) g1)) | (go_at_call_of 29 (Value.float FloatKind.f64 X2);refine (hsp2 _).mono ?_;rintro e w2 ⟨rfl,g2⟩;replace hS:=hS.kp g2;replace kA:=kA.trans (Kb.of (g:=b) g2);have hrun:=hinf w2;have hadd:=hadd0 w2 hS) | (go_at_call 8;refine hadd.mono ?_;rintro e w3 ⟨⟨v3,rfl⟩,hZ,k3⟩))
    first | exact bodyPost_ret (v:=.tuple #[]) (by kernel_rfl) rfl ⟨⟨_,rfl⟩,hZ,kA.trans k3⟩ | exact bodyPost_ret (v:=.tuple #[]) (by simp [results,Tryz.results11,go_sem]) rfl ⟨⟨_,rfl⟩,hZ,kA.trans k3⟩
  · go_enter Tryz.func11,Tryz.ntmps11
    go_wp2_with (first | (go_at_call_of 29 (Value.float FloatKind.f64 X1);refine (hsp1 _).mono ?_;rintro e w1 ⟨rfl,g1⟩;replace hS:=hS.kp g1;replace kA:=kA.trans (Kb.of (g:=b) g1)) | (go_at_call_of 29 (Value.float FloatKind.f64 X2);refine (hsp2 _).mono ?_;rintro e w2 ⟨rfl,g2⟩;replace hS:=hS.kp g2;replace kA:=kA.trans (Kb.of (g:=b) g2);have hrun:=hinf w2;have hadd:=hadd0 w2 hS) | (go_at_call 8;refine hadd.mono ?_;rintro e w3 ⟨⟨v3,rfl⟩,hZ,k3⟩))
    first | exact bodyPost_ret (v:=.tuple #[]) (by kernel_rfl) rfl ⟨⟨_,rfl⟩,hZ,kA.trans k3⟩ | exact bodyPost_ret (v:=.tuple #[]) (by simp [results,Tryz.results11,go_sem]) rfl ⟨⟨_,rfl⟩,hZ,kA.trans k3⟩

def yV (X Y:Nat):Int:=if X % 9223372036854775808 < 9218868437227405312∧Y % 9223372036854775808 < 9218868437227405312 then Iv (decide (9223372036854775808≤X)) (X % 9223372036854775808) * Iv (decide (9223372036854775808≤Y)) (Y % 9223372036854775808) else 0
def yS (X Y:Nat):Int:=if X % 9223372036854775808 < 9218868437227405312∧Y % 9223372036854775808 < 9218868437227405312 then 0 else if 9218868437227405312 < X % 9223372036854775808∨9218868437227405312 < Y % 9223372036854775808∨(X % 9223372036854775808 = 9218868437227405312∧Y % 9223372036854775808 = 0)∨(X % 9223372036854775808 = 0∧Y % 9223372036854775808 = 9218868437227405312) then 2 else (if (decide (9223372036854775808≤X) ^^ decide (9223372036854775808≤Y)) then -1 else 1)
theorem yV_le (X Y K:Nat) (hK:K = 1074):(yV X Y).natAbs≤tb K:=by
  unfold yV
  by_cases c:X % 9223372036854775808 < 9218868437227405312∧Y % 9223372036854775808 < 9218868437227405312
  · rw [if_pos c];exact pV_le _ _ _ _ K hK c.1 c.2
  · rw [if_neg c];simp
set_option linter.unusedVariables false
theorem raddN4_ (X:Int) s1 p1 l1 c1 q1 k1 d1 (P M N N1:Bool) (T:Nat) (TT:Int) (hmo:∀ w:World,Calls Tryz.prog 34 #[.agg #[.bool s1,.slice p1 l1 c1,.slice q1 k1 d1,.bool P,.bool M,.bool N,.int .u64 (T:Int)],.int .u64 1] w fun e w'=>e = .returned (.agg #[.bool s1,.slice p1 l1 c1,.slice q1 k1 d1,.bool P,.bool M,.bool N1,.int .u64 TT])∧Kp w w') (hin:∀ w:World,Calls Tryz.prog 35 #[.int .u64 X] w fun e w'=>e = .returned (.bool true)∧w' = w) (w:World):Calls Tryz.prog 10 #[.agg #[.bool s1,.slice p1 l1 c1,.slice q1 k1 d1,.bool P,.bool M,.bool N,.int .u64 (T:Int)],.int .u64 X] w fun e w'=>e = .returned (.agg #[.bool s1,.slice p1 l1 c1,.slice q1 k1 d1,.bool P,.bool M,.bool true,.int .u64 TT])∧Kp w w':=by
  have h7:H7c ((w.alloc (.cells #[.bool s1,.slice p1 l1 c1,.slice q1 k1 d1,.bool P,.bool M,.bool N,.int .u64 (T:Int)] 30)).alloc (.cells #[.bool false,.slice none 0 0,.slice none 0 0,.bool false,.bool false,.bool false,.int .u64 0] 30)) w.heap.size (.bool s1) (.slice p1 l1 c1) (.slice q1 k1 d1) (.bool P) (.bool M) (.bool N) (.int .u64 (T:Int)):=(H7c.new w (.bool s1) (.slice p1 l1 c1) (.slice q1 k1 d1) (.bool P) (.bool M) (.bool N) (.int .u64 (T:Int)) 30).keep ((Kp.refl _).alloc _)
  have h8:H7c ((w.alloc (.cells #[.bool s1,.slice p1 l1 c1,.slice q1 k1 d1,.bool P,.bool M,.bool N,.int .u64 (T:Int)] 30)).alloc (.cells #[.bool false,.slice none 0 0,.slice none 0 0,.bool false,.bool false,.bool false,.int .u64 0] 30)) (w.heap.size + 1) (.bool false) (.slice none 0 0) (.slice none 0 0) (.bool false) (.bool false) (.bool false) (.int .u64 0):=by
    have:=H7c.new (w.alloc (.cells #[.bool s1,.slice p1 l1 c1,.slice q1 k1 d1,.bool P,.bool M,.bool N,.int .u64 (T:Int)] 30)) (.bool false) (.slice none 0 0) (.slice none 0 0) (.bool false) (.bool false) (.bool false) (.int .u64 0) 30
    simpa using this
  have kw:Kp w ((w.alloc (.cells #[.bool s1,.slice p1 l1 c1,.slice q1 k1 d1,.bool P,.bool M,.bool N,.int .u64 (T:Int)] 30)).alloc (.cells #[.bool false,.slice none 0 0,.slice none 0 0,.bool false,.bool false,.bool false,.int .u64 0] 30)):=((Kp.refl w).alloc _).alloc _
  have hb1:w.heap.size≤w.heap.size:=Nat.le_refl _
  go_enter Tryz.func10,Tryz.ntmps10
  go_upto_region 1 with fail
  generalize ((w.alloc (.cells #[.bool s1,.slice p1 l1 c1,.slice q1 k1 d1,.bool P,.bool M,.bool N,.int .u64 (T:Int)] 30)).alloc (.cells #[.bool false,.slice none 0 0,.slice none 0 0,.bool false,.bool false,.bool false,.int .u64 0] 30)) = W0 at *
  generalize hb9:w.heap.size = b at h7 h8 ⊢
  rw [hb9] at hb1
  have hbw:w.heap.size≤b:=by rw [hb9];exact hb1
  obtain ⟨r0,r1,r2,r3,r4,r5,r6,r7,r8,r9,r10,r11,r12,r13⟩:=id h7
  obtain ⟨t0,t1,t2,t3,t4,t5,t6,t7,t8,t9,t10,t11,t12,t13⟩:=id h8
  go_upto_region 2 with (first | (go_at_call 34;refine (hmo _).mono ?_;rintro e W1 ⟨rfl,g1⟩;replace h7:=h7.keep g1;replace h8:=h8.keep g1;replace kw:=kw.trans g1;clear r0 r1 r2 r3 r4 r5 r6 r7 r8 r9 r10 r11 r12 r13 t0 t1 t2 t3 t4 t5 t6 t7 t8 t9 t10 t11 t12 t13;obtain ⟨r0,r1,r2,r3,r4,r5,r6,r7,r8,r9,r10,r11,r12,r13⟩:=id h7;obtain ⟨t0,t1,t2,t3,t4,t5,t6,t7,t8,t9,t10,t11,t12,t13⟩:=id h8))
  have q7:=H7c.put h7 (.bool s1) (.slice p1 l1 c1) (.slice q1 k1 d1) (.bool P) (.bool M) (.bool N1) (.int .u64 TT)
  have q8:H7c (((((((W1.setCell ⟨b,0,none⟩ (.bool s1)).setCell ⟨b,1,none⟩ (.slice p1 l1 c1)).setCell ⟨b,2,none⟩ (.slice q1 k1 d1)).setCell ⟨b,3,none⟩ (.bool P)).setCell ⟨b,4,none⟩ (.bool M)).setCell ⟨b,5,none⟩ (.bool N1)).setCell ⟨b,6,none⟩ (.int .u64 TT)) (b + 1) (.bool false) (.slice none 0 0) (.slice none 0 0) (.bool false) (.bool false) (.bool false) (.int .u64 0):=(H7c.far1 (H7c.far1 (H7c.far1 (H7c.far1 (H7c.far1 (H7c.far1 (H7c.far1 h8 ⟨b,0,none⟩ (show b≠b + 1 by omega) _) ⟨b,1,none⟩ (show b≠b + 1 by omega) _) ⟨b,2,none⟩ (show b≠b + 1 by omega) _) ⟨b,3,none⟩ (show b≠b + 1 by omega) _) ⟨b,4,none⟩ (show b≠b + 1 by omega) _) ⟨b,5,none⟩ (show b≠b + 1 by omega) _) ⟨b,6,none⟩ (show b≠b + 1 by omega) _)
  have kq:Kp w (((((((W1.setCell ⟨b,0,none⟩ (.bool s1)).setCell ⟨b,1,none⟩ (.slice p1 l1 c1)).setCell ⟨b,2,none⟩ (.slice q1 k1 d1)).setCell ⟨b,3,none⟩ (.bool P)).setCell ⟨b,4,none⟩ (.bool M)).setCell ⟨b,5,none⟩ (.bool N1)).setCell ⟨b,6,none⟩ (.int .u64 TT)):=(((((((kw.setCell hbw _).setCell hbw _).setCell hbw _).setCell hbw _).setCell hbw _).setCell hbw _).setCell hbw _)
  generalize (((((((W1.setCell ⟨b,0,none⟩ (.bool s1)).setCell ⟨b,1,none⟩ (.slice p1 l1 c1)).setCell ⟨b,2,none⟩ (.slice q1 k1 d1)).setCell ⟨b,3,none⟩ (.bool P)).setCell ⟨b,4,none⟩ (.bool M)).setCell ⟨b,5,none⟩ (.bool N1)).setCell ⟨b,6,none⟩ (.int .u64 TT)) = W2 at q7 q8 kq ⊢
  clear h7 h8 kw r0 r1 r2 r3 r4 r5 r6 r7 r8 r9 r10 r11 r12 r13 t0 t1 t2 t3 t4 t5 t6 t7 t8 t9 t10 t11 t12 t13
  obtain ⟨r0,r1,r2,r3,r4,r5,r6,r7,r8,r9,r10,r11,r12,r13⟩:=id q7
  obtain ⟨t0,t1,t2,t3,t4,t5,t6,t7,t8,t9,t10,t11,t12,t13⟩:=id q8
  go_wp2_with (first | (go_at_call 35;refine (hin _).mono ?_;rintro e w' ⟨rfl,hw'⟩;obtain rfl:=hw'.symm;clear hw'))
  exact bodyPost_ret (v:=.agg #[.bool s1,.slice p1 l1 c1,.slice q1 k1 d1,.bool P,.bool M,.bool true,.int .u64 TT]) (by simp [results,Tryz.results10,go_sem,t0,t1,t2,t3,t4,t5,t6]) rfl ⟨rfl,((((((((kq.setCell hbw _).setCell (show w.heap.size≤b + 1 by omega) _).setCell (show w.heap.size≤b + 1 by omega) _).setCell (show w.heap.size≤b + 1 by omega) _).setCell (show w.heap.size≤b + 1 by omega) _).setCell (show w.heap.size≤b + 1 by omega) _).setCell (show w.heap.size≤b + 1 by omega) _).setCell (show w.heap.size≤b + 1 by omega) _)⟩
theorem raddP4_ (X:Int) s1 p1 l1 c1 q1 k1 d1 (P M N N1:Bool) (T:Nat) (TT:Int) (hmo:∀ w:World,Calls Tryz.prog 34 #[.agg #[.bool s1,.slice p1 l1 c1,.slice q1 k1 d1,.bool P,.bool M,.bool N,.int .u64 (T:Int)],.int .u64 1] w fun e w'=>e = .returned (.agg #[.bool s1,.slice p1 l1 c1,.slice q1 k1 d1,.bool P,.bool M,.bool N1,.int .u64 TT])∧Kp w w') (hin:∀ w:World,Calls Tryz.prog 35 #[.int .u64 X] w fun e w'=>e = .returned (.bool false)∧w' = w) (hii:∀ w:World,Calls Tryz.prog 36 #[.int .u64 X] w fun e w'=>e = .returned (.bool true)∧w' = w) (hng:∀ w:World,Calls Tryz.prog 37 #[.int .u64 X] w fun e w'=>e = .returned (.bool false)∧w' = w) (w:World):Calls Tryz.prog 10 #[.agg #[.bool s1,.slice p1 l1 c1,.slice q1 k1 d1,.bool P,.bool M,.bool N,.int .u64 (T:Int)],.int .u64 X] w fun e w'=>e = .returned (.agg #[.bool s1,.slice p1 l1 c1,.slice q1 k1 d1,.bool true,.bool M,.bool N1,.int .u64 TT])∧Kp w w':=by
  have h7:H7c ((w.alloc (.cells #[.bool s1,.slice p1 l1 c1,.slice q1 k1 d1,.bool P,.bool M,.bool N,.int .u64 (T:Int)] 30)).alloc (.cells #[.bool false,.slice none 0 0,.slice none 0 0,.bool false,.bool false,.bool false,.int .u64 0] 30)) w.heap.size (.bool s1) (.slice p1 l1 c1) (.slice q1 k1 d1) (.bool P) (.bool M) (.bool N) (.int .u64 (T:Int)):=(H7c.new w (.bool s1) (.slice p1 l1 c1) (.slice q1 k1 d1) (.bool P) (.bool M) (.bool N) (.int .u64 (T:Int)) 30).keep ((Kp.refl _).alloc _)
  have h8:H7c ((w.alloc (.cells #[.bool s1,.slice p1 l1 c1,.slice q1 k1 d1,.bool P,.bool M,.bool N,.int .u64 (T:Int)] 30)).alloc (.cells #[.bool false,.slice none 0 0,.slice none 0 0,.bool false,.bool false,.bool false,.int .u64 0] 30)) (w.heap.size + 1) (.bool false) (.slice none 0 0) (.slice none 0 0) (.bool false) (.bool false) (.bool false) (.int .u64 0):=by
    have:=H7c.new (w.alloc (.cells #[.bool s1,.slice p1 l1 c1,.slice q1 k1 d1,.bool P,.bool M,.bool N,.int .u64 (T:Int)] 30)) (.bool false) (.slice none 0 0) (.slice none 0 0) (.bool false) (.bool false) (.bool false) (.int .u64 0) 30
    simpa using this
  have kw:Kp w ((w.alloc (.cells #[.bool s1,.slice p1 l1 c1,.slice q1 k1 d1,.bool P,.bool M,.bool N,.int .u64 (T:Int)] 30)).alloc (.cells #[.bool false,.slice none 0 0,.slice none 0 0,.bool false,.bool false,.bool false,.int .u64 0] 30)):=((Kp.refl w).alloc _).alloc _
  have hb1:w.heap.size≤w.heap.size:=Nat.le_refl _
  go_enter Tryz.func10,Tryz.ntmps10
  go_upto_region 1 with fail
  generalize ((w.alloc (.cells #[.bool s1,.slice p1 l1 c1,.slice q1 k1 d1,.bool P,.bool M,.bool N,.int .u64 (T:Int)] 30)).alloc (.cells #[.bool false,.slice none 0 0,.slice none 0 0,.bool false,.bool false,.bool false,.int .u64 0] 30)) = W0 at *
  generalize hb9:w.heap.size = b at h7 h8 ⊢
  rw [hb9] at hb1
  have hbw:w.heap.size≤b:=by rw [hb9];exact hb1
  obtain ⟨r0,r1,r2,r3,r4,r5,r6,r7,r8,r9,r10,r11,r12,r13⟩:=id h7
  obtain ⟨t0,t1,t2,t3,t4,t5,t6,t7,t8,t9,t10,t11,t12,t13⟩:=id h8
  go_upto_region 2 with (first | (go_at_call 34;refine (hmo _).mono ?_;rintro e W1 ⟨rfl,g1⟩;replace h7:=h7.keep g1;replace h8:=h8.keep g1;replace kw:=kw.trans g1;clear r0 r1 r2 r3 r4 r5 r6 r7 r8 r9 r10 r11 r12 r13 t0 t1 t2 t3 t4 t5 t6 t7 t8 t9 t10 t11 t12 t13;obtain ⟨r0,r1,r2,r3,r4,r5,r6,r7,r8,r9,r10,r11,r12,r13⟩:=id h7;obtain ⟨t0,t1,t2,t3,t4,t5,t6,t7,t8,t9,t10,t11,t12,t13⟩:=id h8))
  have q7:=H7c.put h7 (.bool s1) (.slice p1 l1 c1) (.slice q1 k1 d1) (.bool P) (.bool M) (.bool N1) (.int .u64 TT)
  have q8:H7c (((((((W1.setCell ⟨b,0,none⟩ (.bool s1)).setCell ⟨b,1,none⟩ (.slice p1 l1 c1)).setCell ⟨b,2,none⟩ (.slice q1 k1 d1)).setCell ⟨b,3,none⟩ (.bool P)).setCell ⟨b,4,none⟩ (.bool M)).setCell ⟨b,5,none⟩ (.bool N1)).setCell ⟨b,6,none⟩ (.int .u64 TT)) (b + 1) (.bool false) (.slice none 0 0) (.slice none 0 0) (.bool false) (.bool false) (.bool false) (.int .u64 0):=(H7c.far1 (H7c.far1 (H7c.far1 (H7c.far1 (H7c.far1 (H7c.far1 (H7c.far1 h8 ⟨b,0,none⟩ (show b≠b + 1 by omega) _) ⟨b,1,none⟩ (show b≠b + 1 by omega) _) ⟨b,2,none⟩ (show b≠b + 1 by omega) _) ⟨b,3,none⟩ (show b≠b + 1 by omega) _) ⟨b,4,none⟩ (show b≠b + 1 by omega) _) ⟨b,5,none⟩ (show b≠b + 1 by omega) _) ⟨b,6,none⟩ (show b≠b + 1 by omega) _)
  have kq:Kp w (((((((W1.setCell ⟨b,0,none⟩ (.bool s1)).setCell ⟨b,1,none⟩ (.slice p1 l1 c1)).setCell ⟨b,2,none⟩ (.slice q1 k1 d1)).setCell ⟨b,3,none⟩ (.bool P)).setCell ⟨b,4,none⟩ (.bool M)).setCell ⟨b,5,none⟩ (.bool N1)).setCell ⟨b,6,none⟩ (.int .u64 TT)):=(((((((kw.setCell hbw _).setCell hbw _).setCell hbw _).setCell hbw _).setCell hbw _).setCell hbw _).setCell hbw _)
  generalize (((((((W1.setCell ⟨b,0,none⟩ (.bool s1)).setCell ⟨b,1,none⟩ (.slice p1 l1 c1)).setCell ⟨b,2,none⟩ (.slice q1 k1 d1)).setCell ⟨b,3,none⟩ (.bool P)).setCell ⟨b,4,none⟩ (.bool M)).setCell ⟨b,5,none⟩ (.bool N1)).setCell ⟨b,6,none⟩ (.int .u64 TT)) = W2 at q7 q8 kq ⊢
  clear h7 h8 kw r0 r1 r2 r3 r4 r5 r6 r7 r8 r9 r10 r11 r12 r13 t0 t1 t2 t3 t4 t5 t6 t7 t8 t9 t10 t11 t12 t13
  obtain ⟨r0,r1,r2,r3,r4,r5,r6,r7,r8,r9,r10,r11,r12,r13⟩:=id q7
  obtain ⟨t0,t1,t2,t3,t4,t5,t6,t7,t8,t9,t10,t11,t12,t13⟩:=id q8
  go_wp2_with (first | (go_at_call 35;refine (hin _).mono ?_;rintro e w' ⟨rfl,hw'⟩;obtain rfl:=hw'.symm;clear hw') | (go_at_call 36;refine (hii _).mono ?_;rintro e w' ⟨rfl,hw'⟩;obtain rfl:=hw'.symm;clear hw') | (go_at_call 37;refine (hng _).mono ?_;rintro e w' ⟨rfl,hw'⟩;obtain rfl:=hw'.symm;clear hw'))
  exact bodyPost_ret (v:=.agg #[.bool s1,.slice p1 l1 c1,.slice q1 k1 d1,.bool true,.bool M,.bool N1,.int .u64 TT]) (by simp [results,Tryz.results10,go_sem,t0,t1,t2,t3,t4,t5,t6]) rfl ⟨rfl,((((((((kq.setCell hbw _).setCell (show w.heap.size≤b + 1 by omega) _).setCell (show w.heap.size≤b + 1 by omega) _).setCell (show w.heap.size≤b + 1 by omega) _).setCell (show w.heap.size≤b + 1 by omega) _).setCell (show w.heap.size≤b + 1 by omega) _).setCell (show w.heap.size≤b + 1 by omega) _).setCell (show w.heap.size≤b + 1 by omega) _)⟩
theorem raddM4_ (X:Int) s1 p1 l1 c1 q1 k1 d1 (P M N N1:Bool) (T:Nat) (TT:Int) (hmo:∀ w:World,Calls Tryz.prog 34 #[.agg #[.bool s1,.slice p1 l1 c1,.slice q1 k1 d1,.bool P,.bool M,.bool N,.int .u64 (T:Int)],.int .u64 1] w fun e w'=>e = .returned (.agg #[.bool s1,.slice p1 l1 c1,.slice q1 k1 d1,.bool P,.bool M,.bool N1,.int .u64 TT])∧Kp w w') (hin:∀ w:World,Calls Tryz.prog 35 #[.int .u64 X] w fun e w'=>e = .returned (.bool false)∧w' = w) (hii:∀ w:World,Calls Tryz.prog 36 #[.int .u64 X] w fun e w'=>e = .returned (.bool true)∧w' = w) (hng:∀ w:World,Calls Tryz.prog 37 #[.int .u64 X] w fun e w'=>e = .returned (.bool true)∧w' = w) (w:World):Calls Tryz.prog 10 #[.agg #[.bool s1,.slice p1 l1 c1,.slice q1 k1 d1,.bool P,.bool M,.bool N,.int .u64 (T:Int)],.int .u64 X] w fun e w'=>e = .returned (.agg #[.bool s1,.slice p1 l1 c1,.slice q1 k1 d1,.bool P,.bool true,.bool N1,.int .u64 TT])∧Kp w w':=by
  have h7:H7c ((w.alloc (.cells #[.bool s1,.slice p1 l1 c1,.slice q1 k1 d1,.bool P,.bool M,.bool N,.int .u64 (T:Int)] 30)).alloc (.cells #[.bool false,.slice none 0 0,.slice none 0 0,.bool false,.bool false,.bool false,.int .u64 0] 30)) w.heap.size (.bool s1) (.slice p1 l1 c1) (.slice q1 k1 d1) (.bool P) (.bool M) (.bool N) (.int .u64 (T:Int)):=(H7c.new w (.bool s1) (.slice p1 l1 c1) (.slice q1 k1 d1) (.bool P) (.bool M) (.bool N) (.int .u64 (T:Int)) 30).keep ((Kp.refl _).alloc _)
  have h8:H7c ((w.alloc (.cells #[.bool s1,.slice p1 l1 c1,.slice q1 k1 d1,.bool P,.bool M,.bool N,.int .u64 (T:Int)] 30)).alloc (.cells #[.bool false,.slice none 0 0,.slice none 0 0,.bool false,.bool false,.bool false,.int .u64 0] 30)) (w.heap.size + 1) (.bool false) (.slice none 0 0) (.slice none 0 0) (.bool false) (.bool false) (.bool false) (.int .u64 0):=by
    have:=H7c.new (w.alloc (.cells #[.bool s1,.slice p1 l1 c1,.slice q1 k1 d1,.bool P,.bool M,.bool N,.int .u64 (T:Int)] 30)) (.bool false) (.slice none 0 0) (.slice none 0 0) (.bool false) (.bool false) (.bool false) (.int .u64 0) 30
    simpa using this
  have kw:Kp w ((w.alloc (.cells #[.bool s1,.slice p1 l1 c1,.slice q1 k1 d1,.bool P,.bool M,.bool N,.int .u64 (T:Int)] 30)).alloc (.cells #[.bool false,.slice none 0 0,.slice none 0 0,.bool false,.bool false,.bool false,.int .u64 0] 30)):=((Kp.refl w).alloc _).alloc _
  have hb1:w.heap.size≤w.heap.size:=Nat.le_refl _
  go_enter Tryz.func10,Tryz.ntmps10
  go_upto_region 1 with fail
  generalize ((w.alloc (.cells #[.bool s1,.slice p1 l1 c1,.slice q1 k1 d1,.bool P,.bool M,.bool N,.int .u64 (T:Int)] 30)).alloc (.cells #[.bool false,.slice none 0 0,.slice none 0 0,.bool false,.bool false,.bool false,.int .u64 0] 30)) = W0 at *
  generalize hb9:w.heap.size = b at h7 h8 ⊢
  rw [hb9] at hb1
  have hbw:w.heap.size≤b:=by rw [hb9];exact hb1
  obtain ⟨r0,r1,r2,r3,r4,r5,r6,r7,r8,r9,r10,r11,r12,r13⟩:=id h7
  obtain ⟨t0,t1,t2,t3,t4,t5,t6,t7,t8,t9,t10,t11,t12,t13⟩:=id h8
  go_upto_region 2 with (first | (go_at_call 34;refine (hmo _).mono ?_;rintro e W1 ⟨rfl,g1⟩;replace h7:=h7.keep g1;replace h8:=h8.keep g1;replace kw:=kw.trans g1;clear r0 r1 r2 r3 r4 r5 r6 r7 r8 r9 r10 r11 r12 r13 t0 t1 t2 t3 t4 t5 t6 t7 t8 t9 t10 t11 t12 t13;obtain ⟨r0,r1,r2,r3,r4,r5,r6,r7,r8,r9,r10,r11,r12,r13⟩:=id h7;obtain ⟨t0,t1,t2,t3,t4,t5,t6,t7,t8,t9,t10,t11,t12,t13⟩:=id h8))
  have q7:=H7c.put h7 (.bool s1) (.slice p1 l1 c1) (.slice q1 k1 d1) (.bool P) (.bool M) (.bool N1) (.int .u64 TT)
  have q8:H7c (((((((W1.setCell ⟨b,0,none⟩ (.bool s1)).setCell ⟨b,1,none⟩ (.slice p1 l1 c1)).setCell ⟨b,2,none⟩ (.slice q1 k1 d1)).setCell ⟨b,3,none⟩ (.bool P)).setCell ⟨b,4,none⟩ (.bool M)).setCell ⟨b,5,none⟩ (.bool N1)).setCell ⟨b,6,none⟩ (.int .u64 TT)) (b + 1) (.bool false) (.slice none 0 0) (.slice none 0 0) (.bool false) (.bool false) (.bool false) (.int .u64 0):=(H7c.far1 (H7c.far1 (H7c.far1 (H7c.far1 (H7c.far1 (H7c.far1 (H7c.far1 h8 ⟨b,0,none⟩ (show b≠b + 1 by omega) _) ⟨b,1,none⟩ (show b≠b + 1 by omega) _) ⟨b,2,none⟩ (show b≠b + 1 by omega) _) ⟨b,3,none⟩ (show b≠b + 1 by omega) _) ⟨b,4,none⟩ (show b≠b + 1 by omega) _) ⟨b,5,none⟩ (show b≠b + 1 by omega) _) ⟨b,6,none⟩ (show b≠b + 1 by omega) _)
  have kq:Kp w (((((((W1.setCell ⟨b,0,none⟩ (.bool s1)).setCell ⟨b,1,none⟩ (.slice p1 l1 c1)).setCell ⟨b,2,none⟩ (.slice q1 k1 d1)).setCell ⟨b,3,none⟩ (.bool P)).setCell ⟨b,4,none⟩ (.bool M)).setCell ⟨b,5,none⟩ (.bool N1)).setCell ⟨b,6,none⟩ (.int .u64 TT)):=(((((((kw.setCell hbw _).setCell hbw _).setCell hbw _).setCell hbw _).setCell hbw _).setCell hbw _).setCell hbw _)
  generalize (((((((W1.setCell ⟨b,0,none⟩ (.bool s1)).setCell ⟨b,1,none⟩ (.slice p1 l1 c1)).setCell ⟨b,2,none⟩ (.slice q1 k1 d1)).setCell ⟨b,3,none⟩ (.bool P)).setCell ⟨b,4,none⟩ (.bool M)).setCell ⟨b,5,none⟩ (.bool N1)).setCell ⟨b,6,none⟩ (.int .u64 TT)) = W2 at q7 q8 kq ⊢
  clear h7 h8 kw r0 r1 r2 r3 r4 r5 r6 r7 r8 r9 r10 r11 r12 r13 t0 t1 t2 t3 t4 t5 t6 t7 t8 t9 t10 t11 t12 t13
  obtain ⟨r0,r1,r2,r3,r4,r5,r6,r7,r8,r9,r10,r11,r12,r13⟩:=id q7
  obtain ⟨t0,t1,t2,t3,t4,t5,t6,t7,t8,t9,t10,t11,t12,t13⟩:=id q8
  go_wp2_with (first | (go_at_call 35;refine (hin _).mono ?_;rintro e w' ⟨rfl,hw'⟩;obtain rfl:=hw'.symm;clear hw') | (go_at_call 36;refine (hii _).mono ?_;rintro e w' ⟨rfl,hw'⟩;obtain rfl:=hw'.symm;clear hw') | (go_at_call 37;refine (hng _).mono ?_;rintro e w' ⟨rfl,hw'⟩;obtain rfl:=hw'.symm;clear hw'))
  exact bodyPost_ret (v:=.agg #[.bool s1,.slice p1 l1 c1,.slice q1 k1 d1,.bool P,.bool true,.bool N1,.int .u64 TT]) (by simp [results,Tryz.results10,go_sem,t0,t1,t2,t3,t4,t5,t6]) rfl ⟨rfl,((((((((kq.setCell hbw _).setCell (show w.heap.size≤b + 1 by omega) _).setCell (show w.heap.size≤b + 1 by omega) _).setCell (show w.heap.size≤b + 1 by omega) _).setCell (show w.heap.size≤b + 1 by omega) _).setCell (show w.heap.size≤b + 1 by omega) _).setCell (show w.heap.size≤b + 1 by omega) _).setCell (show w.heap.size≤b + 1 by omega) _)⟩
end Go.Proofs.YtfhcmabejagknaaGreatDoor
