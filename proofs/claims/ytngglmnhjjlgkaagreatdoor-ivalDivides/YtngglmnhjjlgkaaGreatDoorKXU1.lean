import Derived.Test.YtngglmnhjjlgkaaGreatDoorKXMS
set_option maxHeartbeats 1000000
set_option maxRecDepth 20000
namespace Go.Proofs.YtngglmnhjjlgkaaGreatDoor
open Go.RowKit
theorem halves_ (n:Bool) (m:Nat) (hm:m < 9218868437227405312) (e:Nat) (he:e≤1960) (hU:((2 ^ e:Nat):Int) ∣ Iv n m) (b1:4503599627370496 * 2 ^ e≤(Iv n m).natAbs) (b2:(Iv n m).natAbs < 9007199254740992 * 2 ^ e) :
  ∃ (h l:Bool) (hr lr:Nat),(∀ w:World,Calls Tryz.prog 139 #[.float .f64 (Fq.wD n m)] w fun e w'=>e = .returned (.tuple #[.float .f64 (Fq.wD h hr),.float .f64 (Fq.wD l lr)])∧w' = w)∧hr < 9218868437227405312∧lr < 9218868437227405312∧∃ a b:Int,Iv h hr = 134217728 * (((2 ^ e:Nat):Int) * a)∧Iv l lr = ((2 ^ e:Nat):Int) * b∧Iv n m = Iv h hr + Iv l lr∧a.natAbs≤67108864∧b.natAbs≤67108864:=by
 obtain ⟨c,g,h,l,cr,gr,hr,lr,e1,e2,e3,e4,h1,h2,h3⟩:=half_words n m hm e he hU b1 b2
 refine ⟨h,l,hr,lr,fun w=>?_,h1,h2,h3⟩
 obtain ⟨X,hX⟩:∃ X,X = Fq.wD n m:=⟨_,rfl⟩
 obtain ⟨C,hC⟩:∃ C,C = Fq.wD c cr:=⟨_,rfl⟩
 obtain ⟨G,hG⟩:∃ G,G = Fq.wD g gr:=⟨_,rfl⟩
 obtain ⟨H,hH⟩:∃ H,H = Fq.wD h hr:=⟨_,rfl⟩
 obtain ⟨L,hL⟩:∃ L,L = Fq.wD l lr:=⟨_,rfl⟩
 rw [show Fq.wD false 4728779608772575232 = 4728779608772575232 from rfl,← hX,← hC] at e1
 rw [← hC,← hX,← hG] at e2
 rw [← hC,← hG,← hH] at e3
 rw [← hX,← hH,← hL] at e4
 rw [← hX,← hH,← hL]
 have g1:∀ w:World,(binOp .mul 26 (.float .f64 X) (.float .f64 4728779608772575232)).run Tryz.prog w = .ok (.float .f64 C) w:=fun w=>run_float_arith w .mul 26 .f64 X 4728779608772575232 C e1
 have g2:∀ w:World,(binOp .sub 26 (.float .f64 C) (.float .f64 X)).run Tryz.prog w = .ok (.float .f64 G) w:=fun w=>run_float_arith w .sub 26 .f64 C X G e2
 have g3:∀ w:World,(binOp .sub 26 (.float .f64 C) (.float .f64 G)).run Tryz.prog w = .ok (.float .f64 H) w:=fun w=>run_float_arith w .sub 26 .f64 C G H e3
 have g4:∀ w:World,(binOp .sub 26 (.float .f64 X) (.float .f64 H)).run Tryz.prog w = .ok (.float .f64 L) w:=fun w=>run_float_arith w .sub 26 .f64 X H L e4
 clear hX hC hG hH hL e1 e2 e3 e4 h1 h2 h3 hm hU b1 b2
 go_enter Tryz.func139,Tryz.ntmps139
 go_wp2
 exact bodyPost_ret (v:=.tuple #[.float .f64 H,.float .f64 L]) (by simp [results,Tryz.results139,go_sem]) rfl ⟨rfl,rfl⟩
theorem twoProduct_ (n n':Bool) (m m' e e':Nat) (hm:m < 9218868437227405312) (hm':m' < 9218868437227405312) (he:e≤1960) (he':e'≤1960) (s1:1074≤e + e') (s2:e + e'≤2944) (hU:((2 ^ e:Nat):Int) ∣ Iv n m) (b1:4503599627370496 * 2 ^ e≤(Iv n m).natAbs) (b2:(Iv n m).natAbs < 9007199254740992 * 2 ^ e) (hU':((2 ^ e':Nat):Int) ∣ Iv n' m') (b3:4503599627370496 * 2 ^ e'≤(Iv n' m').natAbs) (b4:(Iv n' m').natAbs < 9007199254740992 * 2 ^ e') (L:Nat) (hL:L = 1074) :
  ∃ (V:Int) (s o:Bool) (r ro K:Nat),V * ((2 ^ L:Nat):Int) = Iv n m * Iv n' m'∧(∀ w:World,Calls Tryz.prog 107 #[.float .f64 (Fq.wD n m),.float .f64 (Fq.wD n' m')] w fun e w'=>e = .returned (.tuple #[.float .f64 (Fq.wD s r),.float .f64 (Fq.wD o ro)])∧w' = w)∧r < 9218868437227405312∧ro < 9218868437227405312∧r = rgU 53 (rU 0 53 V.natAbs 1)∧s = (if V = 0 then n ^^ n' else decide (V < 0))∧Iv o ro = V - Iv s r∧53≤K∧K≤2096∧V.natAbs < 2 ^ K:=by
 obtain ⟨h,l,hr,lr,k1,f1,f2,a,b,ga,gb,gx,la,lb⟩:=halves_ n m hm e he hU b1 b2
 obtain ⟨h',l',hr',lr',k2,f3,f4,a',b',ga',gb',gx',la',lb'⟩:=halves_ n' m' hm' e' he' hU' b3 b4
 obtain ⟨V,s,p1,q1,p2,q2,p3,q3,p4,o,r,pr1,qr1,pr2,qr2,pr3,qr3,pr4,ro,K,zV,w0,w1,w2,w3,w4,w5,w6,w7,w8,r0,r8,e0,e0',hex,K1,K2,kV⟩:=prod_words n n' h l h' l' m m' hr lr hr' lr' e e' hm hm' f1 f2 f3 f4 s1 s2 b1 b2 b3 b4 a b a' b' ga gb gx la lb ga' gb' gx' la' lb' L hL
 refine ⟨V,s,o,r,ro,K,zV,fun w=>?_,r0,r8,e0,e0',hex,K1,K2,kV⟩
 clear zV r0 r8 e0 e0' hex K1 K2 kV ga gb gx la lb ga' gb' gx' la' lb' f1 f2 f3 f4 hU b1 b2 hU' b3 b4 s1 s2 hm hm' he he' hL
 obtain ⟨X,hX⟩:∃ X,X = Fq.wD n m:=⟨_,rfl⟩
 obtain ⟨Y,hY⟩:∃ Y,Y = Fq.wD n' m':=⟨_,rfl⟩
 obtain ⟨S,hS⟩:∃ S,S = Fq.wD s r:=⟨_,rfl⟩
 obtain ⟨H1,hH1⟩:∃ H1,H1 = Fq.wD h hr:=⟨_,rfl⟩
 obtain ⟨L1,hL1⟩:∃ L1,L1 = Fq.wD l lr:=⟨_,rfl⟩
 obtain ⟨H2,hH2⟩:∃ H2,H2 = Fq.wD h' hr':=⟨_,rfl⟩
 obtain ⟨L2,hL2⟩:∃ L2,L2 = Fq.wD l' lr':=⟨_,rfl⟩
 obtain ⟨P1,hP1⟩:∃ P1,P1 = Fq.wD p1 pr1:=⟨_,rfl⟩
 obtain ⟨P2,hP2⟩:∃ P2,P2 = Fq.wD p2 pr2:=⟨_,rfl⟩
 obtain ⟨P3,hP3⟩:∃ P3,P3 = Fq.wD p3 pr3:=⟨_,rfl⟩
 obtain ⟨P4,hP4⟩:∃ P4,P4 = Fq.wD p4 pr4:=⟨_,rfl⟩
 obtain ⟨Q1,hQ1⟩:∃ Q1,Q1 = Fq.wD q1 qr1:=⟨_,rfl⟩
 obtain ⟨Q2,hQ2⟩:∃ Q2,Q2 = Fq.wD q2 qr2:=⟨_,rfl⟩
 obtain ⟨Q3,hQ3⟩:∃ Q3,Q3 = Fq.wD q3 qr3:=⟨_,rfl⟩
 obtain ⟨O,hO⟩:∃ O,O = Fq.wD o ro:=⟨_,rfl⟩
 rw [← hX,← hY,← hS] at w0
 rw [← hH1,← hH2,← hP1] at w1
 rw [← hS,← hP1,← hQ1] at w2
 rw [← hL1,← hH2,← hP2] at w3
 rw [← hQ1,← hP2,← hQ2] at w4
 rw [← hH1,← hL2,← hP3] at w5
 rw [← hQ2,← hP3,← hQ3] at w6
 rw [← hL1,← hL2,← hP4] at w7
 rw [← hP4,← hQ3,← hO] at w8
 rw [← hX,← hH1,← hL1] at k1
 rw [← hY,← hH2,← hL2] at k2
 rw [← hX,← hY,← hS,← hO]
 have g0:∀ w:World,(binOp .mul 26 (.float .f64 X) (.float .f64 Y)).run Tryz.prog w = .ok (.float .f64 S) w:=fun w=>run_float_arith w .mul 26 .f64 X Y S w0
 have g1:∀ w:World,(binOp .mul 26 (.float .f64 H1) (.float .f64 H2)).run Tryz.prog w = .ok (.float .f64 P1) w:=fun w=>run_float_arith w .mul 26 .f64 H1 H2 P1 w1
 have g2:∀ w:World,(binOp .sub 26 (.float .f64 S) (.float .f64 P1)).run Tryz.prog w = .ok (.float .f64 Q1) w:=fun w=>run_float_arith w .sub 26 .f64 S P1 Q1 w2
 have g3:∀ w:World,(binOp .mul 26 (.float .f64 L1) (.float .f64 H2)).run Tryz.prog w = .ok (.float .f64 P2) w:=fun w=>run_float_arith w .mul 26 .f64 L1 H2 P2 w3
 have g4:∀ w:World,(binOp .sub 26 (.float .f64 Q1) (.float .f64 P2)).run Tryz.prog w = .ok (.float .f64 Q2) w:=fun w=>run_float_arith w .sub 26 .f64 Q1 P2 Q2 w4
 have g5:∀ w:World,(binOp .mul 26 (.float .f64 H1) (.float .f64 L2)).run Tryz.prog w = .ok (.float .f64 P3) w:=fun w=>run_float_arith w .mul 26 .f64 H1 L2 P3 w5
 have g6:∀ w:World,(binOp .sub 26 (.float .f64 Q2) (.float .f64 P3)).run Tryz.prog w = .ok (.float .f64 Q3) w:=fun w=>run_float_arith w .sub 26 .f64 Q2 P3 Q3 w6
 have g7:∀ w:World,(binOp .mul 26 (.float .f64 L1) (.float .f64 L2)).run Tryz.prog w = .ok (.float .f64 P4) w:=fun w=>run_float_arith w .mul 26 .f64 L1 L2 P4 w7
 have g8:∀ w:World,(binOp .sub 26 (.float .f64 P4) (.float .f64 Q3)).run Tryz.prog w = .ok (.float .f64 O) w:=fun w=>run_float_arith w .sub 26 .f64 P4 Q3 O w8
 clear hX hY hS hH1 hL1 hH2 hL2 hP1 hP2 hP3 hP4 hQ1 hQ2 hQ3 hO w0 w1 w2 w3 w4 w5 w6 w7 w8
 go_enter Tryz.func107,Tryz.ntmps107
 go_wp2_with fail
 refine (k1 _).mono ?_;rintro e w' ⟨rfl,hw'⟩;obtain rfl:=hw'.symm;clear hw' k1
 go_wp2_with fail
 refine (k2 _).mono ?_;rintro e w' ⟨rfl,hw'⟩;obtain rfl:=hw'.symm;clear hw' k2
 go_wp2
 exact bodyPost_ret (v:=.tuple #[.float .f64 S,.float .f64 O]) (by simp [results,Tryz.results107,go_sem]) rfl ⟨rfl,rfl⟩
open Ieee in
theorem ord_const (m C:Nat) (hm:m < 9223372036854775808) (hC:C≤9218868437227405312):FloatKind.f64.format.order m C = if m≤9218868437227405312 then some (compare (m:Int) (C:Int)) else none:=by
 have hf:FloatKind.f64.format = double:=rfl
 have hi:double.infRung = 9218868437227405312:=by decide +kernel
 have hw:double.signWeight = 9223372036854775808:=by decide +kernel
 have hb:double.binade≤double.infRung:=by decide +kernel
 have r1:Fq.rg double m = m:=by unfold Fq.rg;rw [hw];exact Nat.mod_eq_of_lt hm
 have r2:Fq.rg double C = C:=by unfold Fq.rg;rw [hw];exact Nat.mod_eq_of_lt (by omega)
 have p1:Fq.pl double m = (m:Int):=by
  unfold Fq.pl Fq.ng
  rw [r1,hw,Nat.div_eq_of_lt hm];rfl
 have p2:Fq.pl double C = (C:Int):=by
  unfold Fq.pl Fq.ng
  rw [r2,hw,Nat.div_eq_of_lt (by omega)];rfl
 rw [hf]
 by_cases c:m≤9218868437227405312
 ·rw [if_pos c,Fq.order_num double m C hb (by rw [r1,hi];exact c) (by rw [r2,hi];exact hC),p1,p2]
 ·rw [if_neg c,Fq.order_nan_left double m C hb (by rw [r1,hi];omega)]
theorem mild_ (n:Bool) (m:Nat) (hm:m < 9223372036854775808) (w:World):Calls Tryz.prog 56 #[.float .f64 (Fq.wD n m)] w fun e w'=>e = .returned (.bool (decide (2580562586483294208≤m∧m≤6633802251116740608)))∧w' = w:=by
 have h:=abs_ n m hm w
 obtain ⟨X,hX⟩:∃ X,X = Fq.wD n m:=⟨_,rfl⟩
 rw [← hX] at h ⊢
 have q1:=ord_const m 2580562586483294208 hm (by decide)
 have q2:=ord_const m 6633802251116740608 hm (by decide)
 clear hX
 by_cases c:m≤9218868437227405312
 ·rw [if_pos c] at q1 q2
  rcases Int.lt_trichotomy (m:Int) (2580562586483294208:Nat) with d1 | d1 | d1
  ·have o1:FloatKind.f64.format.order m 2580562586483294208 = some .lt:=by rw [q1,Int.compare_eq_lt.2 d1]
   rw [decide_eq_false (by omega)]
   clear q1 q2 c d1
   go_enter Tryz.func56,Tryz.ntmps56
   go_wp2_with fail
   refine h.mono ?_;rintro e w' ⟨rfl,hw'⟩;obtain rfl:=hw'.symm;clear hw'
   go_wp2
   exact bodyPost_ret (v:=.bool false) (by simp [results,Tryz.results56,go_sem]) rfl ⟨rfl,rfl⟩
  ·have o1:FloatKind.f64.format.order m 2580562586483294208 = some .eq:=by rw [q1,Int.compare_eq_eq.2 d1]
   have o2:FloatKind.f64.format.order m 6633802251116740608 = some .lt:=by rw [q2,Int.compare_eq_lt.2 (by omega)]
   rw [decide_eq_true (by omega)]
   clear q1 q2 c d1
   go_enter Tryz.func56,Tryz.ntmps56
   go_wp2_with fail
   refine h.mono ?_;rintro e w' ⟨rfl,hw'⟩;obtain rfl:=hw'.symm;clear hw'
   go_wp2_with fail
   refine h.mono ?_;rintro e w' ⟨rfl,hw'⟩;obtain rfl:=hw'.symm;clear hw'
   go_wp2
   exact bodyPost_ret (v:=.bool true) (by simp [results,Tryz.results56,go_sem]) rfl ⟨rfl,rfl⟩
  ·have o1:FloatKind.f64.format.order m 2580562586483294208 = some .gt:=by rw [q1,Int.compare_eq_gt.2 d1]
   rcases Int.lt_trichotomy (m:Int) (6633802251116740608:Nat) with d2 | d2 | d2
   ·have o2:FloatKind.f64.format.order m 6633802251116740608 = some .lt:=by rw [q2,Int.compare_eq_lt.2 d2]
    rw [decide_eq_true (by omega)]
    clear q1 q2 c d1 d2
    go_enter Tryz.func56,Tryz.ntmps56
    go_wp2_with fail
    refine h.mono ?_;rintro e w' ⟨rfl,hw'⟩;obtain rfl:=hw'.symm;clear hw'
    go_wp2_with fail
    refine h.mono ?_;rintro e w' ⟨rfl,hw'⟩;obtain rfl:=hw'.symm;clear hw'
    go_wp2
    exact bodyPost_ret (v:=.bool true) (by simp [results,Tryz.results56,go_sem]) rfl ⟨rfl,rfl⟩
   ·have o2:FloatKind.f64.format.order m 6633802251116740608 = some .eq:=by rw [q2,Int.compare_eq_eq.2 d2]
    rw [decide_eq_true (by omega)]
    clear q1 q2 c d1 d2
    go_enter Tryz.func56,Tryz.ntmps56
    go_wp2_with fail
    refine h.mono ?_;rintro e w' ⟨rfl,hw'⟩;obtain rfl:=hw'.symm;clear hw'
    go_wp2_with fail
    refine h.mono ?_;rintro e w' ⟨rfl,hw'⟩;obtain rfl:=hw'.symm;clear hw'
    go_wp2
    exact bodyPost_ret (v:=.bool true) (by simp [results,Tryz.results56,go_sem]) rfl ⟨rfl,rfl⟩
   ·have o2:FloatKind.f64.format.order m 6633802251116740608 = some .gt:=by rw [q2,Int.compare_eq_gt.2 d2]
    rw [decide_eq_false (by omega)]
    clear q1 q2 c d1 d2
    go_enter Tryz.func56,Tryz.ntmps56
    go_wp2_with fail
    refine h.mono ?_;rintro e w' ⟨rfl,hw'⟩;obtain rfl:=hw'.symm;clear hw'
    go_wp2_with fail
    refine h.mono ?_;rintro e w' ⟨rfl,hw'⟩;obtain rfl:=hw'.symm;clear hw'
    go_wp2
    exact bodyPost_ret (v:=.bool false) (by simp [results,Tryz.results56,go_sem]) rfl ⟨rfl,rfl⟩
 ·rw [if_neg c] at q1 q2
  have o1:=q1
  rw [decide_eq_false (by omega)]
  clear q1 q2 c
  go_enter Tryz.func56,Tryz.ntmps56
  go_wp2_with fail
  refine h.mono ?_;rintro e w' ⟨rfl,hw'⟩;obtain rfl:=hw'.symm;clear hw'
  go_wp2
  exact bodyPost_ret (v:=.bool false) (by simp [results,Tryz.results56,go_sem]) rfl ⟨rfl,rfl⟩
theorem steppedG_ (d V:Int) (s o sz:Bool) (r ro K:Nat) (hK:53≤K) (hK2:K≤2096) (hv:V.natAbs < 2 ^ K) (hr1:r < 9218868437227405312) (hro:ro < 9218868437227405312) (hr:r = rgU 53 (rU 0 53 V.natAbs 1)) (hs:s = (if V = 0 then sz else decide (V < 0))) (ho1:Fq.plz o ro < 0 ↔ V - Iv s r < 0) (ho2:0 < Fq.plz o ro ↔ 0 < V - Iv s r) (w:World) :
  Calls Tryz.prog 58 #[.int .i64 d,.float .f64 (Fq.wD s r),.float .f64 (Fq.wD o ro)] w fun e w'=>e = .returned (.float .f64 (sumW d V))∧Kp w w':=by
 obtain ⟨S1,S2,S3⟩:=step_g d V s o sz r ro K hK hK2 hv hr hs ho1 ho2
 have hz:(0:Nat) = Fq.wD false 0:=rfl
 have hord:FloatKind.f64.format.order (Fq.wD o ro) 0 = some (compare (Fq.plz o ro) 0):=by
  rw [hz,Fq.ordD o false ro 0 (by omega) (by decide)];rfl
 obtain ⟨P,hP⟩:∃ P,P = Fq.plz o ro:=⟨_,rfl⟩
 rw [← hP] at S1 S2 S3 hord
 obtain ⟨O,hO⟩:∃ O,O = Fq.wD o ro:=⟨_,rfl⟩
 obtain ⟨Z,hZ⟩:∃ Z,Z = sumW d V:=⟨_,rfl⟩
 obtain ⟨N,hN⟩:∃ N,N = Fq.wD s r:=⟨_,rfl⟩
 rw [← hZ] at S1 S2 S3
 rw [← hO] at hord
 rw [← hO,← hZ,← hN]
 have hup:=fun h=>Fq.up_d s r (by omega) h w
 have hdn:=fun h=>Fq.dn_d s r (by omega) h w
 have hpl:=Fq.plain_d s r (by omega) w
 rw [← hN] at hup hdn hpl
 clear hO hN hZ hr hs ho1 ho2 hP hz hv hK hK2 hr1 hro
 by_cases c1:d = -1
 ·by_cases c2:P < 0
  ·obtain ⟨a1,a2⟩:=S1 c1 c2
   have hc:=hdn a1
   rw [a2] at hc
   have o1:(FloatKind.f64.format.order O 0 == some .lt) = true:=by rw [hord,Int.compare_eq_lt.2 c2];rfl
   subst c1
   clear S1 S2 S3 hup hdn hpl hord c2 a1 a2
   go_enter Tryz.func58,Tryz.ntmps58
   go_wp2_with fail
   refine hc.mono ?_;rintro e w1 ⟨rfl,hk⟩
   clear hc
   go_wp2
   exact bodyPost_ret (v:=.float .f64 Z) (by simp [results,Tryz.results58,go_sem]) rfl ⟨rfl,hk⟩
  ·have hc:=hpl
   rw [S3 (fun h=>c2 h.2) (fun h=>by omega)] at hc
   have o1:(FloatKind.f64.format.order O 0 == some .lt) = false:=by
    rw [hord]
    rcases Int.lt_trichotomy P 0 with h | h | h
    ·exact absurd h c2
    ·rw [Int.compare_eq_eq.2 h];rfl
    ·rw [Int.compare_eq_gt.2 h];rfl
   subst c1
   clear S1 S2 S3 hup hdn hpl hord c2
   go_enter Tryz.func58,Tryz.ntmps58
   go_wp2_with fail
   refine hc.mono ?_;rintro e w1 ⟨rfl,hw⟩
   obtain rfl:=hw.symm
   clear hc
   go_wp2
   exact bodyPost_ret (v:=.float .f64 Z) (by simp [results,Tryz.results58,go_sem]) rfl ⟨rfl,Kp.refl _⟩
 ·have e1:(d == -1) = false:=by simp [c1]
  by_cases c3:d = 1
  ·by_cases c2:0 < P
   ·obtain ⟨a1,a2⟩:=S2 c3 c2
    have hc:=hup a1
    rw [a2] at hc
    have o1:(FloatKind.f64.format.order O 0 == some .gt) = true:=by rw [hord,Int.compare_eq_gt.2 c2];rfl
    subst c3
    clear S1 S2 S3 hup hdn hpl hord c2 a1 a2 c1
    go_enter Tryz.func58,Tryz.ntmps58
    go_wp2_with fail
    refine hc.mono ?_;rintro e w1 ⟨rfl,hk⟩
    clear hc
    go_wp2
    exact bodyPost_ret (v:=.float .f64 Z) (by simp [results,Tryz.results58,go_sem]) rfl ⟨rfl,hk⟩
   ·have hc:=hpl
    rw [S3 (fun h=>c1 h.1) (fun h=>c2 h.2)] at hc
    have o1:(FloatKind.f64.format.order O 0 == some .gt) = false:=by
     rw [hord]
     rcases Int.lt_trichotomy P 0 with h | h | h
     ·rw [Int.compare_eq_lt.2 h];rfl
     ·rw [Int.compare_eq_eq.2 h];rfl
     ·exact absurd h c2
    subst c3
    clear S1 S2 S3 hup hdn hpl hord c2 c1
    go_enter Tryz.func58,Tryz.ntmps58
    go_wp2_with fail
    refine hc.mono ?_;rintro e w1 ⟨rfl,hw⟩
    obtain rfl:=hw.symm
    clear hc
    go_wp2
    exact bodyPost_ret (v:=.float .f64 Z) (by simp [results,Tryz.results58,go_sem]) rfl ⟨rfl,Kp.refl _⟩
  ·have e2:(d == 1) = false:=by simp [c3]
   have hc:=hpl
   rw [S3 (fun h=>c1 h.1) (fun h=>c3 h.1)] at hc
   clear S1 S2 S3 hup hdn hpl hord c1 c3
   go_enter Tryz.func58,Tryz.ntmps58
   go_wp2_with fail
   refine hc.mono ?_;rintro e w1 ⟨rfl,hw⟩
   obtain rfl:=hw.symm
   clear hc
   go_wp2
   exact bodyPost_ret (v:=.float .f64 Z) (by simp [results,Tryz.results58,go_sem]) rfl ⟨rfl,Kp.refl _⟩
theorem lacking_ (n s n':Bool) (m r m' e ey ex L:Nat) (hm:m < 9218868437227405312) (hr:r < 9218868437227405312) (hm':m' < 9218868437227405312) (he:e≤1960) (hey:ey≤1960) (s1:1074≤e + ey) (s2:e + ey≤2944) (hL:L = 1074) (p2:e + ey - L≤ex) (x2:ex≤1472) (hxx:(Iv n m).natAbs < 9007199254740992 * 2 ^ ex)
  (hU:((2 ^ e:Nat):Int) ∣ Iv s r∧4503599627370496 * 2 ^ e≤(Iv s r).natAbs∧(Iv s r).natAbs < 9007199254740992 * 2 ^ e) (hU':((2 ^ ey:Nat):Int) ∣ Iv n' m'∧4503599627370496 * 2 ^ ey≤(Iv n' m').natAbs∧(Iv n' m').natAbs < 9007199254740992 * 2 ^ ey)
  (hfit:∀ V2:Int,V2 * ((2 ^ L:Nat):Int) = Iv s r * Iv n' m'→(((2 ^ (e + ey - L):Nat):Int) ∣ Iv n m∧((2 ^ (e + ey - L):Nat):Int) ∣ V2∧(Iv n m - V2).natAbs≤4503599627370496 * 2 ^ (e + ey - L)∧20282409603651670423947251286016 * 2 ^ (e + ey - L)≤V2.natAbs∧V2.natAbs < 81129638414606681695789005144064 * 2 ^ (e + ey - L))) :
  ∃ (V2:Int) (f:Bool) (fr:Nat),V2 * ((2 ^ L:Nat):Int) = Iv s r * Iv n' m'∧fr < 9218868437227405312∧Iv f fr = Iv n m - V2∧∀ w:World,Calls Tryz.prog 82 #[.float .f64 (Fq.wD n m),.float .f64 (Fq.wD s r),.float .f64 (Fq.wD n' m')] w fun e w'=>e = .returned (.float .f64 (Fq.wD f fr))∧w' = w:=by
 obtain ⟨V2,p,o,pr,ro,K,zV,h3,r0,r8,q0,q1,hex,K1,K2,kV⟩:=twoProduct_ s n' r m' e ey hr hm' he hey s1 s2 hU.1 hU.2.1 hU.2.2 hU'.1 hU'.2.1 hU'.2.2 L hL
 obtain ⟨d1,d2,d3,d4,d5⟩:=hfit V2 zV
 obtain ⟨W,hW⟩:∃ W,W = 2 ^ (e + ey - L):=⟨_,rfl⟩
 rw [← hW] at d1 d2 d3 d4 d5
 obtain ⟨K5,hK5⟩:∃ K5:Nat,K5 = 1600:=⟨_,rfl⟩
 have kx:(Iv n m).natAbs < 2 ^ K5:=by
  refine Nat.lt_of_lt_of_le hxx ?_
  rw [← pw53,← Nat.pow_add]
  exact Nat.pow_le_pow_right (by decide) (by omega)
 have kV5:V2.natAbs < 2 ^ K5:=by
  refine Nat.lt_of_lt_of_le d5 ?_
  rw [show (81129638414606681695789005144064:Nat) = 2 ^ 106 from by decide,hW,← Nat.pow_add]
  exact Nat.pow_le_pow_right (by decide) (by omega)
 obtain ⟨s9,r9,T9,_,_,n9,e9,e9',l0⟩:=op_nr V2 (s ^^ n') K5 (by omega) (by omega) kV5
 rw [show s9 = p from e9'.trans q1.symm,show r9 = pr from e9.trans q0.symm] at n9 l0
 obtain ⟨t,tr,T1,w1,t1,n1,_,_,l1⟩:=op_nr (Iv n m - Iv p pr) (n && !p) (K5 + 2) (by omega) (by omega) (lt_sub9 kx l0 (by omega)).2
 have lo:(Iv o ro).natAbs < 2 ^ (K5 + 2):=by rw [hex];exact (lt_sub9 kV5 l0 (by omega)).2
 obtain ⟨f,fr,T2,w2,t2,n2,_,_,l2⟩:=op_nr (Iv t tr - Iv o ro) (t && !o) (K5 + 4) (by omega) (by omega) (lt_add9 l1 lo (by omega)).2
 have hfin:=lack_exact ⟨_,hW⟩ d1 d2 d3 d4 d5 n9 hex n1 n2
 have g1:=sub_w n p m pr hm r0 _ rfl
 have g2:=sub_w t o tr ro t1 r8 _ rfl
 rw [w1] at g1
 rw [w2] at g2
 refine ⟨V2,f,fr,zV,t2,hfin,fun w=>?_⟩
 clear zV r0 r8 q0 q1 hex K1 K2 kV d1 d2 d3 d4 d5 hW hK5 kx kV5 n9 e9 e9' l0 w1 t1 n1 l1 lo w2 t2 n2 l2 hfin hU hU' hfit hm hr hm' he hey s1 s2 hL p2 x2 hxx
 obtain ⟨X,hX⟩:∃ X,X = Fq.wD n m:=⟨_,rfl⟩
 obtain ⟨Y,hY⟩:∃ Y,Y = Fq.wD s r:=⟨_,rfl⟩
 obtain ⟨Z,hZ⟩:∃ Z,Z = Fq.wD n' m':=⟨_,rfl⟩
 obtain ⟨P,hP⟩:∃ P,P = Fq.wD p pr:=⟨_,rfl⟩
 obtain ⟨O,hO⟩:∃ O,O = Fq.wD o ro:=⟨_,rfl⟩
 obtain ⟨D,hD⟩:∃ D,D = Fq.wD t tr:=⟨_,rfl⟩
 obtain ⟨G,hG⟩:∃ G,G = Fq.wD f fr:=⟨_,rfl⟩
 rw [← hX,← hP,← hD] at g1
 rw [← hD,← hO,← hG] at g2
 rw [← hY,← hZ,← hP,← hO] at h3
 rw [← hX,← hY,← hZ,← hG]
 have f1:∀ w:World,(binOp .sub 26 (.float .f64 X) (.float .f64 P)).run Tryz.prog w = .ok (.float .f64 D) w:=fun w=>run_float_arith w .sub 26 .f64 X P D g1
 have f2:∀ w:World,(binOp .sub 26 (.float .f64 D) (.float .f64 O)).run Tryz.prog w = .ok (.float .f64 G) w:=fun w=>run_float_arith w .sub 26 .f64 D O G g2
 clear hX hY hZ hP hO hD hG g1 g2
 go_enter Tryz.func82,Tryz.ntmps82
 go_wp2_with fail
 refine (h3 _).mono ?_;rintro e w' ⟨rfl,hw'⟩;obtain rfl:=hw'.symm;clear hw' h3
 go_wp2
 exact bodyPost_ret (v:=.float .f64 G) (by simp [results,Tryz.results82,go_sem]) rfl ⟨rfl,rfl⟩
theorem flipN (n:Bool) (m:Nat) (hm:m < 9223372036854775808):Fq.wD n m ^^^ 9223372036854775808 = Fq.wD (!n) m:=by
 obtain ⟨x,hx⟩:∃ x,x = Fq.wD n m:=⟨_,rfl⟩
 have h1:(x ^^^ 9223372036854775808) % 2 ^ 63 = x % 2 ^ 63:=by
  rw [Nat.xor_mod_two_pow,show (9223372036854775808:Nat) % 2 ^ 63 = 0 from by decide,Nat.xor_zero]
 have h2:(x ^^^ 9223372036854775808) / 2 ^ 63 = x / 2 ^ 63 ^^^ 1:=by
  rw [← Nat.shiftRight_eq_div_pow,← Nat.shiftRight_eq_div_pow,Nat.shiftRight_xor_distrib,show (9223372036854775808:Nat) >>> 63 = 1 from by decide]
 rw [show (2:Nat) ^ 63 = 9223372036854775808 from by decide] at h1 h2
 rw [← hx]
 generalize hz:x ^^^ 9223372036854775808 = z at h1 h2 ⊢
 clear hz
 cases n
 ·have e:x = m:=by rw [hx];unfold Fq.wD;simp
  rw [e,Nat.div_eq_of_lt hm,show (0:Nat) ^^^ 1 = 1 from by decide] at h2
  rw [e,Nat.mod_eq_of_lt hm] at h1
  unfold Fq.wD
  simp
  omega
 ·have e:x = 9223372036854775808 + m:=by rw [hx];unfold Fq.wD;simp
  have e2:x / 9223372036854775808 = 1:=by omega
  have e3:x % 9223372036854775808 = m:=by omega
  rw [e2,show (1:Nat) ^^^ 1 = 0 from by decide] at h2
  rw [e3] at h1
  unfold Fq.wD
  simp
  omega
theorem negW (n:Bool) (m:Nat) (hm:m < 9223372036854775808) (w:World):(Op.unary .neg (.float .f64 (Fq.wD n m))).run Tryz.prog w = .ok (.float .f64 (Fq.wD (!n) m)) w:=by
 have h:Op.negFloat .f64 (Fq.wD n m) = Fq.wD (!n) m:=by
  unfold Op.negFloat
  exact flipN n m hm
 rw [← h];rfl
theorem twoQuotient_ (n n':Bool) (m m':Nat) (c1:2580562586483294208≤m∧m≤6633802251116740608) (c2:2580562586483294208≤m'∧m'≤6633802251116740608) :
  ∃ (V:Int) (s o:Bool) (r ro K:Nat),(∀ w:World,Calls Tryz.prog 57 #[.float .f64 (Fq.wD n m),.float .f64 (Fq.wD n' m')] w fun e w'=>e = .returned (.tuple #[.float .f64 (Fq.wD s r),.float .f64 (Fq.wD o ro)])∧w' = w)∧r < 9218868437227405312∧ro < 9218868437227405312∧r = rgU 53 (rU 0 53 V.natAbs 1)∧s = (if V = 0 then n ^^ n' else decide (V < 0))∧(Fq.plz o ro < 0 ↔ V - Iv s r < 0)∧(0 < Fq.plz o ro ↔ 0 < V - Iv s r)∧53≤K∧K≤2096∧V.natAbs < 2 ^ K∧(∀ d,sumW d V = divW d (n ^^ n') (Fq.vV Ieee.double m) (Fq.vV Ieee.double m')):=by
 obtain ⟨L,hL⟩:∃ L:Nat,L = 1074:=⟨_,rfl⟩
 obtain ⟨V,s,r,K,e,ey,ex,hdiv,r0,e0,e0',K1,K2,kV,hsum,⟨p1,p2,p3,p4,p5,p6⟩,hu1,hu2,hxx,hfit⟩:=quot_all n n' m m' c1.1 c1.2 c2.1 c2.2 L hL
 obtain ⟨V2,f,fr,zV,f0,hf,hl⟩:=lacking_ n s n' m r m' e ey ex L (by omega) r0 (by omega) p1 p2 p3 p4 hL p5 p6 hxx hu1 hu2 (fun V2 h=>(hfit V2 h).1)
 obtain ⟨g1,g2⟩:=(hfit V2 zV).2
 rw [← hf] at g1 g2
 have hdr:∀ w:World,(binOp .quo 26 (.float .f64 (Fq.wD n m)) (.float .f64 (Fq.wD n' m'))).run Tryz.prog w = .ok (.float .f64 (Fq.wD s r)) w:=fun w=>run_float_arith w .quo 26 .f64 _ _ _ hdiv
 have hz:(0:Nat) = Fq.wD false 0:=rfl
 have hord:FloatKind.f64.format.order (Fq.wD n' m') 0 = some (compare (Fq.plz n' m') 0):=by
  rw [hz,Fq.ordD n' false m' 0 (by omega) (by decide)];rfl
 have hng:=fun w=>negW f fr (by omega) w
 obtain ⟨X,hX⟩:∃ X,X = Fq.wD n m:=⟨_,rfl⟩
 obtain ⟨Y,hY⟩:∃ Y,Y = Fq.wD n' m':=⟨_,rfl⟩
 obtain ⟨S,hS⟩:∃ S,S = Fq.wD s r:=⟨_,rfl⟩
 obtain ⟨G,hG⟩:∃ G,G = Fq.wD f fr:=⟨_,rfl⟩
 obtain ⟨G2,hG2⟩:∃ G2,G2 = Fq.wD (!f) fr:=⟨_,rfl⟩
 rw [← hX,← hY,← hS] at hdr
 rw [← hX,← hS,← hY,← hG] at hl
 rw [← hY] at hord
 rw [← hG,← hG2] at hng
 cases n'
 ·have o1:(FloatKind.f64.format.order Y 0 == some .lt) = false:=by
   rw [hord,Int.compare_eq_gt.2 (by unfold Fq.plz;simp;omega)];rfl
  rw [if_neg (by simp)] at g1 g2
  obtain ⟨i1,i2⟩:=iv_plz f fr
  refine ⟨V,s,f,r,fr,K,fun w=>?_,r0,f0,e0,e0',i1.symm.trans g1,i2.symm.trans g2,K1,K2,kV,hsum⟩
  rw [← hX,← hY,← hS,← hG]
  clear hX hY hS hG hG2 hng hord hz hf zV hfit hxx hu1 hu2 hsum kV e0 e0' g1 g2 i1 i2 c1 c2 hdiv
  go_enter Tryz.func57,Tryz.ntmps57
  go_wp2_with fail
  refine (hl _).mono ?_;rintro e w' ⟨rfl,hw'⟩;obtain rfl:=hw'.symm;clear hw' hl
  go_wp2
  exact bodyPost_ret (v:=.tuple #[.float .f64 S,.float .f64 G]) (by simp [results,Tryz.results57,go_sem]) rfl ⟨rfl,rfl⟩
 ·have o1:(FloatKind.f64.format.order Y 0 == some .lt) = true:=by
   rw [hord,Int.compare_eq_lt.2 (by unfold Fq.plz;simp;omega)];rfl
  rw [if_pos rfl] at g1 g2
  obtain ⟨i1,i2⟩:=iv_plz (!f) fr
  rw [iv_not] at i1 i2
  refine ⟨V,s,!f,r,fr,K,fun w=>?_,r0,f0,e0,e0',i1.symm.trans g1,i2.symm.trans g2,K1,K2,kV,hsum⟩
  rw [← hX,← hY,← hS,← hG2]
  clear hX hY hS hG hG2 hord hz hf zV hfit hxx hu1 hu2 hsum kV e0 e0' g1 g2 i1 i2 c1 c2 hdiv
  go_enter Tryz.func57,Tryz.ntmps57
  go_wp2_with fail
  refine (hl _).mono ?_;rintro e w' ⟨rfl,hw'⟩;obtain rfl:=hw'.symm;clear hw' hl
  go_wp2
  exact bodyPost_ret (v:=.tuple #[.float .f64 S,.float .f64 G2]) (by simp [results,Tryz.results57,go_sem]) rfl ⟨rfl,rfl⟩
end Go.Proofs.YtngglmnhjjlgkaaGreatDoor
