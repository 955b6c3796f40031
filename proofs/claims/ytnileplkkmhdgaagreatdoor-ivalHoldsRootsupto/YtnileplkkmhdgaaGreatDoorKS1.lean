import Derived.Test.YtnileplkkmhdgaaGreatDoorKMR17
import Derived.Test.YtnileplkkmhdgaaGreatDoorKS4
import Derived.Scope
import Derived.ScopeJumps
set_option maxHeartbeats 1000000
set_option maxRecDepth 20000
namespace Go.Proofs.YtnileplkkmhdgaaGreatDoor
open Go.RowKit
theorem twoSum_ (n n':Bool) (m m' K:Nat) (hK:53≤K) (hK2:K + 12≤2097) (hm:m < 9218868437227405312) (hm':m' < 9218868437227405312) (hx:(Iv n m).natAbs < 2 ^ K) (hy:(Iv n' m').natAbs < 2 ^ K) (V:Int) (hV:V = Iv n m + Iv n' m'):∃ (s o:Bool) (r ro:Nat),(∀ w:World,Calls Tryz.prog 64 #[.float .f64 (Fq.wD n m),.float .f64 (Fq.wD n' m')] w fun e w'=>e = .returned (.tuple #[.float .f64 (Fq.wD s r),.float .f64 (Fq.wD o ro)])∧w' = w)∧r < 9218868437227405312∧ro < 9218868437227405312∧r = rgU 53 (rU 0 53 V.natAbs 1)∧s = (if V = 0 then n && n' else decide (V < 0))∧Iv o ro = V - Iv s r:=by
  obtain ⟨s,p,a,b,c,o,r,pr,ar,br,cr,ro,e1,e2,e3,e4,e5,e6,h1,h2,h3,h4,h5⟩:=two_words n n' m m' K hK hK2 hm hm' hx hy V hV
  refine ⟨s,o,r,ro,fun w=>?_,h1,h2,h3,h4,h5⟩
  obtain ⟨X,hX⟩:∃ X,X = Fq.wD n m:=⟨_,rfl⟩
  obtain ⟨Y,hY⟩:∃ Y,Y = Fq.wD n' m':=⟨_,rfl⟩
  obtain ⟨N,hN⟩:∃ N,N = Fq.wD s r:=⟨_,rfl⟩
  obtain ⟨P,hP⟩:∃ P,P = Fq.wD p pr:=⟨_,rfl⟩
  obtain ⟨B,hB⟩:∃ B,B = Fq.wD a ar:=⟨_,rfl⟩
  obtain ⟨C,hC⟩:∃ C,C = Fq.wD b br:=⟨_,rfl⟩
  obtain ⟨D,hD⟩:∃ D,D = Fq.wD c cr:=⟨_,rfl⟩
  obtain ⟨O,hO⟩:∃ O,O = Fq.wD o ro:=⟨_,rfl⟩
  rw [← hX,← hY,← hN,← hO]
  rw [← hX,← hY,← hN] at e1
  rw [← hX,← hN,← hP] at e2
  rw [← hN,← hP,← hB] at e3
  rw [← hX,← hB,← hC] at e4
  rw [← hY,← hP,← hD] at e5
  rw [← hC,← hD,← hO] at e6
  have g1:∀ w:World,(binOp .add 34 (.float .f64 X) (.float .f64 Y)).run Tryz.prog w = .ok (.float .f64 N) w:=fun w=>run_float_arith w .add 34 .f64 X Y N e1
  have g2:∀ w:World,(binOp .sub 34 (.float .f64 N) (.float .f64 X)).run Tryz.prog w = .ok (.float .f64 P) w:=fun w=>run_float_arith w .sub 34 .f64 N X P e2
  have g3:∀ w:World,(binOp .sub 34 (.float .f64 N) (.float .f64 P)).run Tryz.prog w = .ok (.float .f64 B) w:=fun w=>run_float_arith w .sub 34 .f64 N P B e3
  have g4:∀ w:World,(binOp .sub 34 (.float .f64 X) (.float .f64 B)).run Tryz.prog w = .ok (.float .f64 C) w:=fun w=>run_float_arith w .sub 34 .f64 X B C e4
  have g5:∀ w:World,(binOp .sub 34 (.float .f64 Y) (.float .f64 P)).run Tryz.prog w = .ok (.float .f64 D) w:=fun w=>run_float_arith w .sub 34 .f64 Y P D e5
  have g6:∀ w:World,(binOp .add 34 (.float .f64 C) (.float .f64 D)).run Tryz.prog w = .ok (.float .f64 O) w:=fun w=>run_float_arith w .add 34 .f64 C D O e6
  clear hX hY hN hP hB hC hD hO e1 e2 e3 e4 e5 e6 h1 h2 h3 h4 h5 hm hm' hx hy hV
  go_enter Tryz.func64,Tryz.ntmps64
  go_wp2
  exact bodyPost_ret (v:=.tuple #[.float .f64 N,.float .f64 O]) (by simp [results,Tryz.results64,go_sem]) rfl ⟨rfl,rfl⟩
theorem rounded_ (d:Int) (ng:Bool) (c:Nat) (low:Int) (v:Value) (w:World) (hv:Ls w v (dig c)) (hT:Tab w) (hQ:Fq.Tab w) (hd1:-9223372036854775808≤d) (hd2:d < 9223372036854775808) (hl:len32 c≤16384) :
    Calls Tryz.prog 69 #[.agg #[.bool ng,v,.int .i64 low],.int .i64 d] w fun e w'=>e = .returned (.float .f64 (ofW d ng c low))∧Kp w w':=by
  obtain ⟨p,cc,rfl,ha,hc⟩:=hv
  obtain ⟨L,hL⟩:∃ L,L = (dig c).length:=⟨_,rfl⟩
  obtain ⟨B,hB⟩:∃ B,B = w.heap.size:=⟨_,rfl⟩
  obtain ⟨w0,hw0⟩:∃ w0,w0 = w.alloc (.cells #[.bool ng,.slice p L cc,.int .i64 low] 88):=⟨_,rfl⟩
  have hk0:Kp w w0:=by rw [hw0];exact (Kp.refl w).alloc _
  have h:=pof_ d ng p cc (dig c) low w0 (hT.grown hk0) (Fq.Tab.grown hQ hk0) hd1 hd2 (ha.grown hk0) (Wd_dig c) (by change len32 c≤_;omega) hc
  rw [val_dig,← hL] at h
  rw [← hL]
  have x0:w0.cell? ⟨B,0,none⟩ = some (.bool ng):=by rw [hw0,hB];simp [go_sem]
  have x1:w0.cell? ⟨B,1,none⟩ = some (.slice p L cc):=by rw [hw0,hB];simp [go_sem]
  have x2:w0.cell? ⟨B,2,none⟩ = some (.int .i64 low):=by rw [hw0,hB];simp [go_sem]
  obtain ⟨Z,hZ⟩:∃ Z,Z = ofW d ng c low:=⟨_,rfl⟩
  rw [← hZ] at h ⊢
  have HW:Hid (w0 = w.alloc (.cells #[.bool ng,.slice p L cc,.int .i64 low] 88)∧B = w.heap.size∧Kp w w0):=⟨hw0,hB,hk0⟩
  clear hZ hL hw0 hB hk0 ha hc hT hQ hd1 hd2 hl
  go_enter Tryz.func69,Tryz.ntmps69
  go_wp2_with fail
  rw [← HW.out.2.1]
  try rw [← HW.out.1]
  go_wp2_with fail
  refine h.mono ?_;rintro e w1 ⟨rfl,k1⟩
  have hk:=HW.out.2.2.trans k1
  clear h k1
  go_wp2
  exact bodyPost_ret (v:=.float .f64 Z) (by simp [results,Tryz.results69,go_sem]) rfl ⟨rfl,hk⟩
theorem plusAny_ (n n':Bool) (m m':Nat) (a b:Nat) (ea eb:Int) (la:a < 9007199254740992) (lb:b < 9007199254740992) (ea1:-1074≤ea) (ea2:ea≤2048) (eb1:-1074≤eb) (eb2:eb≤2048) (ha:a * 2 ^ (ea + 1074).toNat = Fq.vV Ieee.double m) (hb:b * 2 ^ (eb + 1074).toNat = Fq.vV Ieee.double m') (s t:Bool) (hs:s = (n && !(m == 0))) (ht:t = (n' && !(m' == 0))) :
    ∃ (ng:Bool) (c:Nat) (low:Int),(∀ d:Int,ofW d ng c low = sumW d (Iv n m + Iv n' m'))∧len32 c≤16384∧∀ (va vb:Value) (w:World),Ls w va (dig a)→Ls w vb (dig b)→Calls Tryz.prog 68 #[.agg #[.bool s,va,.int .i64 ea],.agg #[.bool t,vb,.int .i64 eb]] w fun e w'=>∃ v,e = .returned (.agg #[.bool ng,v,.int .i64 low])∧Ls w' v (dig c)∧Kp w w':=by
  obtain ⟨low,hlow⟩:∃ low,low = min ea eb:=⟨_,rfl⟩
  obtain ⟨A',hA⟩:∃ A',A' = a * 2 ^ (ea - low).toNat:=⟨_,rfl⟩
  obtain ⟨B',hB⟩:∃ B',B' = b * 2 ^ (eb - low).toNat:=⟨_,rfl⟩
  obtain ⟨S1,S2,S3⟩:=sum_signs s t a b ea eb low ea1 eb1 hlow n n' m m' hs ht ha hb A' B' hA hB
  obtain ⟨X4,hX4⟩:∃ X4:Nat,X4 = 4096:=⟨_,rfl⟩
  have bnd:∀ (u:Nat) (e:Int) (U:Nat),u < 9007199254740992→e≤4000→U = u * 2 ^ e.toNat→blen U≤X4:=fun u e U h1 h2 h3=>by
    rw [h3,blen_le_iff]
    have h4:2 ^ 53 * 2 ^ e.toNat≤2 ^ X4:=by rw [← Nat.pow_add];exact Nat.pow_le_pow_right (by omega) (by omega)
    have h5:u * 2 ^ e.toNat < 2 ^ 53 * 2 ^ e.toNat:=Nat.mul_lt_mul_of_pos_right (by rw [show (2:Nat) ^ 53 = 9007199254740992 from by decide];exact h1) (Nat.two_pow_pos _)
    exact Nat.lt_of_lt_of_le h5 h4
  have bA:=bnd a (ea - low) A' la (by omega) hA
  have bB:=bnd b (eb - low) B' lb (by omega) hB
  have hsm:∀ c:Nat,c≤A' + B'→blen c≤X4 + 1:=fun c hc=>by
    have h1:=(blen_le_iff A' X4).1 bA
    have h2:=(blen_le_iff B' X4).1 bB
    rw [blen_le_iff,Nat.pow_succ];omega
  have fin:∀ (ng:Bool) (c:Nat),c≤A' + B'→(Iv n m + Iv n' m' = if ng then -((c * 2 ^ (low + 1074).toNat:Nat):Int) else ((c * 2 ^ (low + 1074).toNat:Nat):Int))→(∀ d:Int,ofW d ng c low = sumW d (Iv n m + Iv n' m'))∧len32 c≤16384:=fun ng c hc hv=>by
    have h1:=hsm c hc
    exact ⟨fun d=>of_sum d ng c low _ (by omega) (by omega) (by omega) hv,dlen c 16384 (by omega)⟩
  by_cases c1:s = t
  · obtain ⟨f1,f2⟩:=fin s (A' + B') (Nat.le_refl _) (S1 c1)
    refine ⟨s,A' + B',low,f1,f2, ?_⟩
    rintro va vb w ⟨pa,ca,rfl,aa,l1⟩ ⟨pb,cb,rfl,ab,l2⟩
    exact plusEq_ s t a b ea eb low pa pb ca cb w aa l1 ab l2 la lb ea1 ea2 eb1 eb2 hlow A' B' hA hB c1
  · by_cases c2:B'≤A'
    · obtain ⟨f1,f2⟩:=fin s (A' - B') (by omega) (S2 c1 c2)
      refine ⟨s,A' - B',low,f1,f2, ?_⟩
      rintro va vb w ⟨pa,ca,rfl,aa,l1⟩ ⟨pb,cb,rfl,ab,l2⟩
      exact plusGe_ s t a b ea eb low pa pb ca cb w aa l1 ab l2 la lb ea1 ea2 eb1 eb2 hlow A' B' hA hB c1 c2
    · obtain ⟨f1,f2⟩:=fin t (B' - A') (by omega) (S3 c1 (by omega))
      refine ⟨t,B' - A',low,f1,f2, ?_⟩
      rintro va vb w ⟨pa,ca,rfl,aa,l1⟩ ⟨pb,cb,rfl,ab,l2⟩
      exact plusLt_ s t a b ea eb low pa pb ca cb w aa l1 ab l2 la lb ea1 ea2 eb1 eb2 hlow A' B' hA hB c1 (by omega)
theorem paddF_ (d:Int) (n n':Bool) (m m':Nat) (hm:m < 9218868437227405312) (hm':m' < 9218868437227405312) (w:World) (hT:Tab w) (hQ:Fq.Tab w) (hd1:-9223372036854775808≤d) (hd2:d < 9223372036854775808) :
    Calls Tryz.prog 35 #[.int .i64 d,.float .f64 (Fq.wD n m),.float .f64 (Fq.wD n' m')] w fun e w'=>e = .returned (.float .f64 (sumW d (Iv n m + Iv n' m')))∧Kp w w':=by
  have h1:=tame_ n m (by omega) w
  have h2:=tame_ n' m' (by omega) w
  obtain ⟨X,hX⟩:∃ X,X = Fq.wD n m:=⟨_,rfl⟩
  obtain ⟨Y,hY⟩:∃ Y,Y = Fq.wD n' m':=⟨_,rfl⟩
  obtain ⟨Z,hZ⟩:∃ Z,Z = sumW d (Iv n m + Iv n' m'):=⟨_,rfl⟩
  by_cases ct:m≤9110782046170513408∧m'≤9110782046170513408
  · obtain ⟨c1,c2⟩:=ct
    rw [decide_eq_true c1] at h1
    rw [decide_eq_true c2] at h2
    obtain ⟨K,hK⟩:∃ K:Nat,K = 2075:=⟨_,rfl⟩
    have b1:(Iv n m).natAbs < 2 ^ K:=by rw [iv_abs];exact vV_lt m c1 K hK
    have b2:(Iv n' m').natAbs < 2 ^ K:=by rw [iv_abs];exact vV_lt m' c2 K hK
    obtain ⟨s,o,r,ro,h3,r1,r2,r3,r4,r5⟩:=twoSum_ n n' m m' K (by omega) (by omega) hm hm' b1 b2 _ rfl
    have h4:=stepped_ d (Iv n m + Iv n' m') s o (n && n') r ro (K + 1) (by omega) (by omega) (lt_add9 b1 b2 (Nat.le_refl _)).1 r1 r2 r3 r4 r5
    obtain ⟨N,hN⟩:∃ N,N = Fq.wD s r:=⟨_,rfl⟩
    obtain ⟨O,hO⟩:∃ O,O = Fq.wD o ro:=⟨_,rfl⟩
    rw [← hX] at h1
    rw [← hY] at h2
    rw [← hX,← hY,← hN,← hO] at h3
    rw [← hN,← hO,← hZ] at h4
    rw [← hX,← hY,← hZ]
    clear hX hY hZ hN hO c1 c2 b1 b2 hK r1 r2 r3 r4 r5 hm hm' hT hQ hd1 hd2
    go_enter Tryz.func35,Tryz.ntmps35
    go_wp2
    refine wp_scope_straight ?_
    go_wp2_with fail
    refine h1.mono ?_;rintro e w' ⟨rfl,hw'⟩;obtain rfl:=hw'.symm;clear hw' h1
    go_wp2_with fail
    refine h2.mono ?_;rintro e w' ⟨rfl,hw'⟩;obtain rfl:=hw'.symm;clear hw' h2
    have h5:=h3 w
    clear h3
    go_wp2_with fail
    refine h5.mono ?_;rintro e w' ⟨rfl,hw'⟩;obtain rfl:=hw'.symm;clear hw' h5
    have h6:=h4 w
    clear h4
    go_wp2_with fail
    refine h6.mono ?_;rintro e w1 ⟨rfl,k1⟩
    clear h6
    go_wp2
    try rw [Exit.noGoto_ret]
    exact bodyPost_ret (v:=.float .f64 Z) (by simp [results,Tryz.results35,go_sem]) rfl ⟨rfl,k1⟩
  · have g1:=finite_ n m (by omega) w
    have g2:=finite_ n' m' (by omega) w
    rw [decide_eq_true hm] at g1
    rw [decide_eq_true hm'] at g2
    obtain ⟨a,ea,a1,a2,a3,a4,ta⟩:=take_ n m hm
    obtain ⟨b,eb,b1,b2,b3,b4,tb⟩:=take_ n' m' hm'
    obtain ⟨s,hs⟩:∃ s:Bool,s = (n && !(m == 0)):=⟨_,rfl⟩
    obtain ⟨t,ht⟩:∃ t:Bool,t = (n' && !(m' == 0)):=⟨_,rfl⟩
    rw [← hs] at ta
    rw [← ht] at tb
    obtain ⟨ng,c,low,f1,f2,hp⟩:=plusAny_ n n' m m' a b ea eb a4 b4 a2 a3 b2 b3 a1 b1 s t hs ht
    have hr:∀ (v:Value) (w1:World),Kp w w1→Ls w1 v (dig c)→Calls Tryz.prog 69 #[.agg #[.bool ng,v,.int .i64 low],.int .i64 d] w1 fun e w'=>e = .returned (.float .f64 Z)∧Kp w1 w':=fun v w1 k1 l1=>by
      rw [hZ,← f1 d];exact rounded_ d ng c low v w1 l1 (hT.grown k1) (Fq.Tab.grown hQ k1) hd1 hd2 f2
    rw [← hX] at h1 g1 ta
    rw [← hY] at h2 g2 tb
    rw [← hX,← hY,← hZ]
    have ta1:=ta w hQ
    have tb1:=fun w1 (k:Kp w w1)=>tb w1 (Fq.Tab.grown hQ k)
    have HT:Hid (m≤9110782046170513408→¬ m'≤9110782046170513408):=fun h h'=>ct ⟨h,h'⟩
    clear hX hY hZ hs ht f1 f2 a1 a2 a3 a4 b1 b2 b3 b4 ta tb hT hQ hd1 hd2 ct hm hm'
    go_enter Tryz.func35,Tryz.ntmps35
    go_wp2
    refine wp_scope_jumps 0 (fun a' w'=>w' = w∧∃ u3 u4 u5 u6 u7 u8 u9 u10 u11 u12 u13 u14 u15 u16 u17 u18 u19 u20 u21 u22 u23 u24 u25 u26 u27 u28 u29 u30 u31 u32 u33 u34 u35 u36 u37 u38 u39 u40 u41 u42 u43 u44:Value,a' = ⟨#[.int .i64 d,.float .f64 X,.float .f64 Y,u3,u4,u5,u6,u7,u8,u9,u10,u11,u12,u13,u14,u15,u16,u17,u18,u19,u20,u21,u22,u23,u24,u25,u26,u27,u28,u29,u30,u31,u32,u33,u34,u35,u36,u37,u38,u39,u40,u41,u42,u43,u44],[]⟩) (fun _ _=>0) rfl ?_ ?_
    · clear g1 g2 ta1 tb1 hp hr
      by_cases c1:m≤9110782046170513408
      · rw [decide_eq_true c1] at h1
        rw [decide_eq_false (HT.out c1)] at h2
        clear c1 HT
        go_wp2_with fail
        refine h1.mono ?_;rintro e w' ⟨rfl,hw'⟩;obtain rfl:=hw'.symm;clear hw' h1
        go_wp2_with fail
        refine h2.mono ?_;rintro e w' ⟨rfl,hw'⟩;obtain rfl:=hw'.symm;clear hw' h2
        go_wp2_with fail
        go_step3
        exact ⟨rfl,rfl,_,_,_,_,_,_,_,_,_,_,_,_,_,_,_,_,_,_,_,_,_,_,_,_,_,_,_,_,_,_,_,_,_,_,_,_,_,_,_,_,_,_,rfl⟩
      · rw [decide_eq_false c1] at h1
        clear c1 HT h2
        go_wp2_with fail
        refine h1.mono ?_;rintro e w' ⟨rfl,hw'⟩;obtain rfl:=hw'.symm;clear hw' h1
        go_wp2_with fail
        go_step3
        exact ⟨rfl,rfl,_,_,_,_,_,_,_,_,_,_,_,_,_,_,_,_,_,_,_,_,_,_,_,_,_,_,_,_,_,_,_,_,_,_,_,_,_,_,_,_,_,_,rfl⟩
    · rintro a' w' ⟨rfl,u3,u4,u5,u6,u7,u8,u9,u10,u11,u12,u13,u14,u15,u16,u17,u18,u19,u20,u21,u22,u23,u24,u25,u26,u27,u28,u29,u30,u31,u32,u33,u34,u35,u36,u37,u38,u39,u40,u41,u42,u43,u44,rfl⟩
      clear h1 h2 HT
      go_wp2_with fail
      refine g1.mono ?_;rintro e w9 ⟨rfl,hw'⟩;obtain rfl:=hw'.symm;clear hw' g1
      go_wp2_with fail
      refine g2.mono ?_;rintro e w9 ⟨rfl,hw'⟩;obtain rfl:=hw'.symm;clear hw' g2
      go_wp2_with fail
      refine ta1.mono ?_;rintro e w1 ⟨va,rfl,lva,k1⟩
      have tb2:=tb1 w1 k1
      clear ta1 tb1
      go_wp2_with fail
      refine tb2.mono ?_;rintro e w2 ⟨vb,rfl,lvb,k2⟩
      have hp2:=hp va vb w2 (lva.kp k2) lvb
      have k02:=k1.trans k2
      clear tb2 hp lva lvb k1 k2
      go_wp2_with fail
      refine hp2.mono ?_;rintro e w3 ⟨v,rfl,lv,k3⟩
      have k03:=k02.trans k3
      have hr2:=hr v w3 k03 lv
      clear hp2 hr k02 k3 lv
      go_wp2_with fail
      refine hr2.mono ?_;rintro e w4 ⟨rfl,k4⟩
      have k04:=k03.trans k4
      clear hr2 k03 k4
      go_wp2
      try simp only [Exit.jump]
      exact bodyPost_ret (v:=.float .f64 Z) (by simp [results,Tryz.results35,go_sem]) rfl ⟨rfl,k04⟩
theorem read_nanD (n:Bool) (m:Nat) (h1:9218868437227405312 < m) (h2:m < 9223372036854775808):Ieee.double.read (Fq.wD n m) = .nan n (m - 9218868437227405312):=by
  rw [Fq.read_nan Ieee.double _ Fq.binfD (by rw [Fq.rgD n m h2,Fq.infD];exact h1),Fq.rgD n m h2,Fq.ngD n m h2,Fq.infD]
theorem read_infD (n:Bool):Ieee.double.read (Fq.wD n 9218868437227405312) = .infinity n:=by
  rw [Fq.read_inf Ieee.double _ Fq.binfD (by rw [Fq.rgD n 9218868437227405312 (by decide),Fq.infD]),Fq.ngD n 9218868437227405312 (by decide)]
theorem read_finD (n:Bool) (m:Nat) (h:m < 9218868437227405312):∃ a e,Ieee.double.read (Fq.wD n m) = .number n a e:=by
  rw [Fq.read_fin _ _ (by rw [Fq.rgD n m (by omega),Fq.infD];exact h),Fq.ngD n m (by omega)]
  exact ⟨_,_,rfl⟩
def badS (n:Bool) (m:Nat) (n':Bool) (m':Nat):Prop:=9218868437227405312 < m∨9218868437227405312 < m'∨(m = 9218868437227405312∧m' = 9218868437227405312∧n≠n')
theorem add_bad (n n':Bool) (m m':Nat) (hm:m < 9223372036854775808) (hm':m' < 9223372036854775808) (h:badS n m n' m'):FloatKind.f64.format.add (Fq.wD n m) (Fq.wD n' m') = none:=by
  show Ieee.double.add _ _ = none
  unfold Ieee.Format.add
  by_cases c1:9218868437227405312 < m
  · rw [read_nanD n m c1 hm];rfl
  · by_cases c2:9218868437227405312 < m'
    · rw [read_nanD n' m' c2 hm']
      by_cases c3:m = 9218868437227405312
      · rw [c3,read_infD];rfl
      · obtain ⟨a,e,he⟩:=read_finD n m (by omega)
        rw [he];rfl
    · obtain ⟨e1,e2,e3⟩:=(h.resolve_left c1).resolve_left c2
      rw [e1,e2,read_infD,read_infD]
      unfold Ieee.Datum.sum
      simp only
      rw [if_neg e3];rfl
theorem add_inf (n n':Bool) (m m':Nat) (h:¬ badS n m n' m') (hi:¬ (m < 9218868437227405312∧m' < 9218868437227405312)):FloatKind.f64.format.add (Fq.wD n m) (Fq.wD n' m') = some (Fq.wD (if m = 9218868437227405312 then n else n') 9218868437227405312):=by
  unfold badS at h
  have hw:∀ s,Ieee.double.write (.infinity s) = Fq.wD s 9218868437227405312:=fun s=>by unfold Ieee.Format.write Ieee.Format.word Fq.wD;rw [Fq.signD,Fq.infD]
  show Ieee.double.add _ _ = _
  unfold Ieee.Format.add
  by_cases c1:m = 9218868437227405312
  · rw [if_pos c1,c1,read_infD]
    by_cases c2:m' = 9218868437227405312
    · have e:n = n':=by
        rcases Decidable.em (n = n') with e | e
        · exact e
        · exact absurd (Or.inr (Or.inr ⟨c1,c2,e⟩)) h
      rw [c2,read_infD]
      unfold Ieee.Datum.sum
      simp only
      rw [if_pos e]
      exact congrArg some (hw n)
    · obtain ⟨a,e,he⟩:=read_finD n' m' (by omega)
      rw [he]
      exact congrArg some (hw n)
  · have c2:m' = 9218868437227405312:=by omega
    rw [if_neg c1,c2,read_infD]
    obtain ⟨a,e,he⟩:=read_finD n m (by omega)
    rw [he]
    exact congrArg some (hw n')
theorem nan_cutD (t:Nat):9218868437227405312 < (t % 2 * 2 ^ 63 + 0x7ff0000000000000 + 1 + t / 2 % (2 ^ 52 - 1)) % 9223372036854775808∧t % 2 * 2 ^ 63 + 0x7ff0000000000000 + 1 + t / 2 % (2 ^ 52 - 1) < 18446744073709551616:=by
  rw [show (2:Nat) ^ 63 = 9223372036854775808 from by decide,show (2:Nat) ^ 52 - 1 = 4503599627370495 from by decide]
  have h1:t % 2 = 0∨t % 2 = 1:=by omega
  have h2:t / 2 % 4503599627370495 < 4503599627370495:=Nat.mod_lt _ (by decide)
  generalize t / 2 % 4503599627370495 = b at *
  rcases h1 with h | h <;> rw [h] <;> omega
theorem run_nan (X Y:Nat) (h:FloatKind.f64.format.add X Y = none) (w:World):∃ r,9218868437227405312 < r % 9223372036854775808∧r < 18446744073709551616∧(binOp .add 34 (.float .f64 X) (.float .f64 Y)).run Tryz.prog w = .ok (.float .f64 r) w.drew:=by
  refine ⟨Question.cut (.nanBits .f64 X Y) _, ?_, ?_,by simp [binOp,Op.floatArith,h];rfl⟩
  · simp only [Question.cut];exact (nan_cutD _).1
  · simp only [Question.cut];exact (nan_cutD _).2
theorem paddB_ (d:Int) (n n':Bool) (m m':Nat) (hm:m < 9223372036854775808) (hm':m' < 9223372036854775808) (hi:¬ (m < 9218868437227405312∧m' < 9218868437227405312)) (hb:badS n m n' m') (w:World) :
    Calls Tryz.prog 35 #[.int .i64 d,.float .f64 (Fq.wD n m),.float .f64 (Fq.wD n' m')] w fun e w'=>∃ R,e = .returned (.float .f64 R)∧(9218868437227405312 < R % 9223372036854775808∧R < 18446744073709551616)∧Kp w w':=by
  have h1:=tame_ n m hm w
  have h2:=tame_ n' m' hm' w
  have g1:=finite_ n m hm w
  have g2:=finite_ n' m' hm' w
  obtain ⟨X,hX⟩:∃ X,X = Fq.wD n m:=⟨_,rfl⟩
  obtain ⟨Y,hY⟩:∃ Y,Y = Fq.wD n' m':=⟨_,rfl⟩
  obtain ⟨RR,p1,p2,hrun⟩:=run_nan X Y (by rw [hX,hY];exact add_bad n n' m m' hm hm' hb) w
  have HR:Hid (9218868437227405312 < RR % 9223372036854775808∧RR < 18446744073709551616):=⟨p1,p2⟩
  clear p1 p2
  rw [← hX] at h1 g1
  rw [← hY] at h2 g2
  rw [← hX,← hY]
  have HT:Hid ((m≤9110782046170513408→¬ m'≤9110782046170513408)∧(m < 9218868437227405312→¬ m' < 9218868437227405312)):=⟨fun h h'=>hi ⟨by omega,by omega⟩,fun h h'=>hi ⟨h,h'⟩⟩
  clear hX hY hi hm hm' hb
  go_enter Tryz.func35,Tryz.ntmps35
  go_wp2
  refine wp_scope_jumps 0 (fun a' w'=>w' = w∧∃ u3 u4 u5 u6 u7 u8 u9 u10 u11 u12 u13 u14 u15 u16 u17 u18 u19 u20 u21 u22 u23 u24 u25 u26 u27 u28 u29 u30 u31 u32 u33 u34 u35 u36 u37 u38 u39 u40 u41 u42 u43 u44:Value,a' = ⟨#[.int .i64 d,.float .f64 X,.float .f64 Y,u3,u4,u5,u6,u7,u8,u9,u10,u11,u12,u13,u14,u15,u16,u17,u18,u19,u20,u21,u22,u23,u24,u25,u26,u27,u28,u29,u30,u31,u32,u33,u34,u35,u36,u37,u38,u39,u40,u41,u42,u43,u44],[]⟩) (fun _ _=>0) rfl ?_ ?_
  · clear g1 g2
    by_cases c1:m≤9110782046170513408
    · rw [decide_eq_true c1] at h1
      rw [decide_eq_false (HT.out.1 c1)] at h2
      clear c1 HT
      go_wp2_with fail
      refine h1.mono ?_;rintro e w' ⟨rfl,hw'⟩;obtain rfl:=hw'.symm;clear hw' h1
      go_wp2_with fail
      refine h2.mono ?_;rintro e w' ⟨rfl,hw'⟩;obtain rfl:=hw'.symm;clear hw' h2
      go_wp2_with fail
      go_step3
      exact ⟨rfl,rfl,_,_,_,_,_,_,_,_,_,_,_,_,_,_,_,_,_,_,_,_,_,_,_,_,_,_,_,_,_,_,_,_,_,_,_,_,_,_,_,_,_,_,rfl⟩
    · rw [decide_eq_false c1] at h1
      clear c1 HT h2
      go_wp2_with fail
      refine h1.mono ?_;rintro e w' ⟨rfl,hw'⟩;obtain rfl:=hw'.symm;clear hw' h1
      go_wp2_with fail
      go_step3
      exact ⟨rfl,rfl,_,_,_,_,_,_,_,_,_,_,_,_,_,_,_,_,_,_,_,_,_,_,_,_,_,_,_,_,_,_,_,_,_,_,_,_,_,_,_,_,_,_,rfl⟩
  · rintro a' w' ⟨rfl,u3,u4,u5,u6,u7,u8,u9,u10,u11,u12,u13,u14,u15,u16,u17,u18,u19,u20,u21,u22,u23,u24,u25,u26,u27,u28,u29,u30,u31,u32,u33,u34,u35,u36,u37,u38,u39,u40,u41,u42,u43,u44,rfl⟩
    clear h1 h2
    by_cases c1:m < 9218868437227405312
    · rw [decide_eq_true c1] at g1
      rw [decide_eq_false (HT.out.2 c1)] at g2
      clear c1 HT
      go_wp2_with fail
      refine g1.mono ?_;rintro e w9 ⟨rfl,hw'⟩;obtain rfl:=hw'.symm;clear hw' g1
      go_wp2_with fail
      refine g2.mono ?_;rintro e w9 ⟨rfl,hw'⟩;obtain rfl:=hw'.symm;clear hw' g2
      go_wp2
      try simp only [Exit.jump]
      exact bodyPost_ret (v:=.float .f64 RR) (by simp [results,Tryz.results35,go_sem]) rfl ⟨RR,rfl,HR.out,(Kp.refl _).drew⟩
    · rw [decide_eq_false c1] at g1
      clear c1 HT g2
      go_wp2_with fail
      refine g1.mono ?_;rintro e w9 ⟨rfl,hw'⟩;obtain rfl:=hw'.symm;clear hw' g1
      go_wp2
      try simp only [Exit.jump]
      exact bodyPost_ret (v:=.float .f64 RR) (by simp [results,Tryz.results35,go_sem]) rfl ⟨RR,rfl,HR.out,(Kp.refl _).drew⟩
theorem paddI_ (d:Int) (n n':Bool) (m m':Nat) (hm:m < 9223372036854775808) (hm':m' < 9223372036854775808) (hi:¬ (m < 9218868437227405312∧m' < 9218868437227405312)) (hb:¬ badS n m n' m') (w:World) :
    Calls Tryz.prog 35 #[.int .i64 d,.float .f64 (Fq.wD n m),.float .f64 (Fq.wD n' m')] w fun e w'=>e = .returned (.float .f64 (Fq.wD (if m = 9218868437227405312 then n else n') 9218868437227405312))∧Kp w w':=by
  have h1:=tame_ n m hm w
  have h2:=tame_ n' m' hm' w
  have g1:=finite_ n m hm w
  have g2:=finite_ n' m' hm' w
  obtain ⟨X,hX⟩:∃ X,X = Fq.wD n m:=⟨_,rfl⟩
  obtain ⟨Y,hY⟩:∃ Y,Y = Fq.wD n' m':=⟨_,rfl⟩
  obtain ⟨RR,hRR⟩:∃ RR,RR = Fq.wD (if m = 9218868437227405312 then n else n') 9218868437227405312:=⟨_,rfl⟩
  have hadd:=add_inf n n' m m' hb hi
  rw [← hX,← hY,← hRR] at hadd
  have hrun:∀ w:World,(binOp .add 34 (.float .f64 X) (.float .f64 Y)).run Tryz.prog w = .ok (.float .f64 RR) w:=fun w=>run_float_arith w .add 34 .f64 X Y RR hadd
  rw [← hRR]
  rw [← hX] at h1 g1
  rw [← hY] at h2 g2
  rw [← hX,← hY]
  have HT:Hid ((m≤9110782046170513408→¬ m'≤9110782046170513408)∧(m < 9218868437227405312→¬ m' < 9218868437227405312)):=⟨fun h h'=>hi ⟨by omega,by omega⟩,fun h h'=>hi ⟨h,h'⟩⟩
  clear hX hY hi hm hm' hb hadd hRR
  go_enter Tryz.func35,Tryz.ntmps35
  go_wp2
  refine wp_scope_jumps 0 (fun a' w'=>w' = w∧∃ u3 u4 u5 u6 u7 u8 u9 u10 u11 u12 u13 u14 u15 u16 u17 u18 u19 u20 u21 u22 u23 u24 u25 u26 u27 u28 u29 u30 u31 u32 u33 u34 u35 u36 u37 u38 u39 u40 u41 u42 u43 u44:Value,a' = ⟨#[.int .i64 d,.float .f64 X,.float .f64 Y,u3,u4,u5,u6,u7,u8,u9,u10,u11,u12,u13,u14,u15,u16,u17,u18,u19,u20,u21,u22,u23,u24,u25,u26,u27,u28,u29,u30,u31,u32,u33,u34,u35,u36,u37,u38,u39,u40,u41,u42,u43,u44],[]⟩) (fun _ _=>0) rfl ?_ ?_
  · clear g1 g2
    by_cases c1:m≤9110782046170513408
    · rw [decide_eq_true c1] at h1
      rw [decide_eq_false (HT.out.1 c1)] at h2
      clear c1 HT
      go_wp2_with fail
      refine h1.mono ?_;rintro e w' ⟨rfl,hw'⟩;obtain rfl:=hw'.symm;clear hw' h1
      go_wp2_with fail
      refine h2.mono ?_;rintro e w' ⟨rfl,hw'⟩;obtain rfl:=hw'.symm;clear hw' h2
      go_wp2_with fail
      go_step3
      exact ⟨rfl,rfl,_,_,_,_,_,_,_,_,_,_,_,_,_,_,_,_,_,_,_,_,_,_,_,_,_,_,_,_,_,_,_,_,_,_,_,_,_,_,_,_,_,_,rfl⟩
    · rw [decide_eq_false c1] at h1
      clear c1 HT h2
      go_wp2_with fail
      refine h1.mono ?_;rintro e w' ⟨rfl,hw'⟩;obtain rfl:=hw'.symm;clear hw' h1
      go_wp2_with fail
      go_step3
      exact ⟨rfl,rfl,_,_,_,_,_,_,_,_,_,_,_,_,_,_,_,_,_,_,_,_,_,_,_,_,_,_,_,_,_,_,_,_,_,_,_,_,_,_,_,_,_,_,rfl⟩
  · rintro a' w' ⟨rfl,u3,u4,u5,u6,u7,u8,u9,u10,u11,u12,u13,u14,u15,u16,u17,u18,u19,u20,u21,u22,u23,u24,u25,u26,u27,u28,u29,u30,u31,u32,u33,u34,u35,u36,u37,u38,u39,u40,u41,u42,u43,u44,rfl⟩
    clear h1 h2
    by_cases c1:m < 9218868437227405312
    · rw [decide_eq_true c1] at g1
      rw [decide_eq_false (HT.out.2 c1)] at g2
      clear c1 HT
      go_wp2_with fail
      refine g1.mono ?_;rintro e w9 ⟨rfl,hw'⟩;obtain rfl:=hw'.symm;clear hw' g1
      go_wp2_with fail
      refine g2.mono ?_;rintro e w9 ⟨rfl,hw'⟩;obtain rfl:=hw'.symm;clear hw' g2
      go_wp2
      try simp only [Exit.jump]
      exact bodyPost_ret (v:=.float .f64 RR) (by simp [results,Tryz.results35,go_sem]) rfl ⟨rfl,Kp.refl _⟩
    · rw [decide_eq_false c1] at g1
      clear c1 HT g2
      go_wp2_with fail
      refine g1.mono ?_;rintro e w9 ⟨rfl,hw'⟩;obtain rfl:=hw'.symm;clear hw' g1
      go_wp2
      try simp only [Exit.jump]
      exact bodyPost_ret (v:=.float .f64 RR) (by simp [results,Tryz.results35,go_sem]) rfl ⟨rfl,Kp.refl _⟩
theorem halves_ (n:Bool) (m:Nat) (hm:m < 9218868437227405312) (e:Nat) (he:e≤1960) (hU:((2 ^ e:Nat):Int) ∣ Iv n m) (b1:4503599627370496 * 2 ^ e≤(Iv n m).natAbs) (b2:(Iv n m).natAbs < 9007199254740992 * 2 ^ e) :
    ∃ (h l:Bool) (hr lr:Nat),(∀ w:World,Calls Tryz.prog 99 #[.float .f64 (Fq.wD n m)] w fun e w'=>e = .returned (.tuple #[.float .f64 (Fq.wD h hr),.float .f64 (Fq.wD l lr)])∧w' = w)∧hr < 9218868437227405312∧lr < 9218868437227405312∧∃ a b:Int,Iv h hr = 134217728 * (((2 ^ e:Nat):Int) * a)∧Iv l lr = ((2 ^ e:Nat):Int) * b∧Iv n m = Iv h hr + Iv l lr∧a.natAbs≤67108864∧b.natAbs≤67108864:=by
  obtain ⟨c,g,h,l,cr,gr,hr,lr,e1,e2,e3,e4,h1,h2,h3⟩:=half_words n m hm e he hU b1 b2
  refine ⟨h,l,hr,lr,fun w=>?_,h1,h2,h3⟩
  obtain ⟨X,hX⟩:∃ X,X = Fq.wD n m:=⟨_,rfl⟩
  obtain ⟨C,hC⟩:∃ C,C = Fq.wD c cr:=⟨_,rfl⟩
  obtain ⟨G,hG⟩:∃ G,G = Fq.wD g gr:=⟨_,rfl⟩
  obtain ⟨H,hH⟩:∃ H,H = Fq.wD h hr:=⟨_,rfl⟩
  obtain ⟨L,hL⟩:∃ L,L = Fq.wD l lr:=⟨_,rfl⟩
  rw [show Fq.wD false 4728779608772575232 = 4728779608772575232 from rfl,← hX,← hC] at e1
  rw [← hC,← hX,← hG] at e2
  rw [← hC,← hG,← hH] at e3
  rw [← hX,← hH,← hL] at e4
  rw [← hX,← hH,← hL]
  have g1:∀ w:World,(binOp .mul 34 (.float .f64 X) (.float .f64 4728779608772575232)).run Tryz.prog w = .ok (.float .f64 C) w:=fun w=>run_float_arith w .mul 34 .f64 X 4728779608772575232 C e1
  have g2:∀ w:World,(binOp .sub 34 (.float .f64 C) (.float .f64 X)).run Tryz.prog w = .ok (.float .f64 G) w:=fun w=>run_float_arith w .sub 34 .f64 C X G e2
  have g3:∀ w:World,(binOp .sub 34 (.float .f64 C) (.float .f64 G)).run Tryz.prog w = .ok (.float .f64 H) w:=fun w=>run_float_arith w .sub 34 .f64 C G H e3
  have g4:∀ w:World,(binOp .sub 34 (.float .f64 X) (.float .f64 H)).run Tryz.prog w = .ok (.float .f64 L) w:=fun w=>run_float_arith w .sub 34 .f64 X H L e4
  clear hX hC hG hH hL e1 e2 e3 e4 h1 h2 h3 hm hU b1 b2
  go_enter Tryz.func99,Tryz.ntmps99
  go_wp2
  exact bodyPost_ret (v:=.tuple #[.float .f64 H,.float .f64 L]) (by simp [results,Tryz.results99,go_sem]) rfl ⟨rfl,rfl⟩
theorem twoProduct_ (n n':Bool) (m m' e e':Nat) (hm:m < 9218868437227405312) (hm':m' < 9218868437227405312) (he:e≤1960) (he':e'≤1960) (s1:1074≤e + e') (s2:e + e'≤2944) (hU:((2 ^ e:Nat):Int) ∣ Iv n m) (b1:4503599627370496 * 2 ^ e≤(Iv n m).natAbs) (b2:(Iv n m).natAbs < 9007199254740992 * 2 ^ e) (hU':((2 ^ e':Nat):Int) ∣ Iv n' m') (b3:4503599627370496 * 2 ^ e'≤(Iv n' m').natAbs) (b4:(Iv n' m').natAbs < 9007199254740992 * 2 ^ e') (L:Nat) (hL:L = 1074) :
    ∃ (V:Int) (s o:Bool) (r ro K:Nat),V * ((2 ^ L:Nat):Int) = Iv n m * Iv n' m'∧(∀ w:World,Calls Tryz.prog 73 #[.float .f64 (Fq.wD n m),.float .f64 (Fq.wD n' m')] w fun e w'=>e = .returned (.tuple #[.float .f64 (Fq.wD s r),.float .f64 (Fq.wD o ro)])∧w' = w)∧r < 9218868437227405312∧ro < 9218868437227405312∧r = rgU 53 (rU 0 53 V.natAbs 1)∧s = (if V = 0 then n ^^ n' else decide (V < 0))∧Iv o ro = V - Iv s r∧53≤K∧K≤2096∧V.natAbs < 2 ^ K:=by
  obtain ⟨h,l,hr,lr,k1,f1,f2,a,b,ga,gb,gx,la,lb⟩:=halves_ n m hm e he hU b1 b2
  obtain ⟨h',l',hr',lr',k2,f3,f4,a',b',ga',gb',gx',la',lb'⟩:=halves_ n' m' hm' e' he' hU' b3 b4
  obtain ⟨V,s,p1,q1,p2,q2,p3,q3,p4,o,r,pr1,qr1,pr2,qr2,pr3,qr3,pr4,ro,K,zV,w0,w1,w2,w3,w4,w5,w6,w7,w8,r0,r8,e0,e0',hex,K1,K2,kV⟩:=prod_words n n' h l h' l' m m' hr lr hr' lr' e e' hm hm' f1 f2 f3 f4 s1 s2 b1 b2 b3 b4 a b a' b' ga gb gx la lb ga' gb' gx' la' lb' L hL
  refine ⟨V,s,o,r,ro,K,zV,fun w=>?_,r0,r8,e0,e0',hex,K1,K2,kV⟩
  clear zV r0 r8 e0 e0' hex K1 K2 kV ga gb gx la lb ga' gb' gx' la' lb' f1 f2 f3 f4 hU b1 b2 hU' b3 b4 s1 s2 hm hm' he he' hL
  obtain ⟨X,hX⟩:∃ X,X = Fq.wD n m:=⟨_,rfl⟩
  obtain ⟨Y,hY⟩:∃ Y,Y = Fq.wD n' m':=⟨_,rfl⟩
  obtain ⟨S,hS⟩:∃ S,S = Fq.wD s r:=⟨_,rfl⟩
  obtain ⟨H1,hH1⟩:∃ H1,H1 = Fq.wD h hr:=⟨_,rfl⟩
  obtain ⟨L1,hL1⟩:∃ L1,L1 = Fq.wD l lr:=⟨_,rfl⟩
  obtain ⟨H2,hH2⟩:∃ H2,H2 = Fq.wD h' hr':=⟨_,rfl⟩
  obtain ⟨L2,hL2⟩:∃ L2,L2 = Fq.wD l' lr':=⟨_,rfl⟩
  obtain ⟨P1,hP1⟩:∃ P1,P1 = Fq.wD p1 pr1:=⟨_,rfl⟩
  obtain ⟨P2,hP2⟩:∃ P2,P2 = Fq.wD p2 pr2:=⟨_,rfl⟩
  obtain ⟨P3,hP3⟩:∃ P3,P3 = Fq.wD p3 pr3:=⟨_,rfl⟩
  obtain ⟨P4,hP4⟩:∃ P4,P4 = Fq.wD p4 pr4:=⟨_,rfl⟩
  obtain ⟨Q1,hQ1⟩:∃ Q1,Q1 = Fq.wD q1 qr1:=⟨_,rfl⟩
  obtain ⟨Q2,hQ2⟩:∃ Q2,Q2 = Fq.wD q2 qr2:=⟨_,rfl⟩
  obtain ⟨Q3,hQ3⟩:∃ Q3,Q3 = Fq.wD q3 qr3:=⟨_,rfl⟩
  obtain ⟨O,hO⟩:∃ O,O = Fq.wD o ro:=⟨_,rfl⟩
  rw [← hX,← hY,← hS] at w0
  rw [← hH1,← hH2,← hP1] at w1
  rw [← hS,← hP1,← hQ1] at w2
  rw [← hL1,← hH2,← hP2] at w3
  rw [← hQ1,← hP2,← hQ2] at w4
  rw [← hH1,← hL2,← hP3] at w5
  rw [← hQ2,← hP3,← hQ3] at w6
  rw [← hL1,← hL2,← hP4] at w7
  rw [← hP4,← hQ3,← hO] at w8
  rw [← hX,← hH1,← hL1] at k1
  rw [← hY,← hH2,← hL2] at k2
  rw [← hX,← hY,← hS,← hO]
  have g0:∀ w:World,(binOp .mul 34 (.float .f64 X) (.float .f64 Y)).run Tryz.prog w = .ok (.float .f64 S) w:=fun w=>run_float_arith w .mul 34 .f64 X Y S w0
  have g1:∀ w:World,(binOp .mul 34 (.float .f64 H1) (.float .f64 H2)).run Tryz.prog w = .ok (.float .f64 P1) w:=fun w=>run_float_arith w .mul 34 .f64 H1 H2 P1 w1
  have g2:∀ w:World,(binOp .sub 34 (.float .f64 S) (.float .f64 P1)).run Tryz.prog w = .ok (.float .f64 Q1) w:=fun w=>run_float_arith w .sub 34 .f64 S P1 Q1 w2
  have g3:∀ w:World,(binOp .mul 34 (.float .f64 L1) (.float .f64 H2)).run Tryz.prog w = .ok (.float .f64 P2) w:=fun w=>run_float_arith w .mul 34 .f64 L1 H2 P2 w3
  have g4:∀ w:World,(binOp .sub 34 (.float .f64 Q1) (.float .f64 P2)).run Tryz.prog w = .ok (.float .f64 Q2) w:=fun w=>run_float_arith w .sub 34 .f64 Q1 P2 Q2 w4
  have g5:∀ w:World,(binOp .mul 34 (.float .f64 H1) (.float .f64 L2)).run Tryz.prog w = .ok (.float .f64 P3) w:=fun w=>run_float_arith w .mul 34 .f64 H1 L2 P3 w5
  have g6:∀ w:World,(binOp .sub 34 (.float .f64 Q2) (.float .f64 P3)).run Tryz.prog w = .ok (.float .f64 Q3) w:=fun w=>run_float_arith w .sub 34 .f64 Q2 P3 Q3 w6
  have g7:∀ w:World,(binOp .mul 34 (.float .f64 L1) (.float .f64 L2)).run Tryz.prog w = .ok (.float .f64 P4) w:=fun w=>run_float_arith w .mul 34 .f64 L1 L2 P4 w7
  have g8:∀ w:World,(binOp .sub 34 (.float .f64 P4) (.float .f64 Q3)).run Tryz.prog w = .ok (.float .f64 O) w:=fun w=>run_float_arith w .sub 34 .f64 P4 Q3 O w8
  clear hX hY hS hH1 hL1 hH2 hL2 hP1 hP2 hP3 hP4 hQ1 hQ2 hQ3 hO w0 w1 w2 w3 w4 w5 w6 w7 w8
  go_enter Tryz.func73,Tryz.ntmps73
  go_wp2_with fail
  refine (k1 _).mono ?_;rintro e w' ⟨rfl,hw'⟩;obtain rfl:=hw'.symm;clear hw' k1
  go_wp2_with fail
  refine (k2 _).mono ?_;rintro e w' ⟨rfl,hw'⟩;obtain rfl:=hw'.symm;clear hw' k2
  go_wp2
  exact bodyPost_ret (v:=.tuple #[.float .f64 S,.float .f64 O]) (by simp [results,Tryz.results73,go_sem]) rfl ⟨rfl,rfl⟩
open Ieee in
theorem ord_const (m C:Nat) (hm:m < 9223372036854775808) (hC:C≤9218868437227405312):FloatKind.f64.format.order m C = if m≤9218868437227405312 then some (compare (m:Int) (C:Int)) else none:=by
  have hf:FloatKind.f64.format = double:=rfl
  have hi:double.infRung = 9218868437227405312:=by decide +kernel
  have hw:double.signWeight = 9223372036854775808:=by decide +kernel
  have hb:double.binade≤double.infRung:=by decide +kernel
  have r1:Fq.rg double m = m:=by unfold Fq.rg;rw [hw];exact Nat.mod_eq_of_lt hm
  have r2:Fq.rg double C = C:=by unfold Fq.rg;rw [hw];exact Nat.mod_eq_of_lt (by omega)
  have p1:Fq.pl double m = (m:Int):=by
    unfold Fq.pl Fq.ng
    rw [r1,hw,Nat.div_eq_of_lt hm];rfl
  have p2:Fq.pl double C = (C:Int):=by
    unfold Fq.pl Fq.ng
    rw [r2,hw,Nat.div_eq_of_lt (by omega)];rfl
  rw [hf]
  by_cases c:m≤9218868437227405312
  · rw [if_pos c,Fq.order_num double m C hb (by rw [r1,hi];exact c) (by rw [r2,hi];exact hC),p1,p2]
  · rw [if_neg c,Fq.order_nan_left double m C hb (by rw [r1,hi];omega)]
theorem mild_ (n:Bool) (m:Nat) (hm:m < 9223372036854775808) (w:World):Calls Tryz.prog 72 #[.float .f64 (Fq.wD n m)] w fun e w'=>e = .returned (.bool (decide (2580562586483294208≤m∧m≤6633802251116740608)))∧w' = w:=by
  have h:=abs_ n m hm w
  obtain ⟨X,hX⟩:∃ X,X = Fq.wD n m:=⟨_,rfl⟩
  rw [← hX] at h ⊢
  have q1:=ord_const m 2580562586483294208 hm (by decide)
  have q2:=ord_const m 6633802251116740608 hm (by decide)
  clear hX
  by_cases c:m≤9218868437227405312
  · rw [if_pos c] at q1 q2
    rcases Int.lt_trichotomy (m:Int) (2580562586483294208:Nat) with d1 | d1 | d1
    · have o1:FloatKind.f64.format.order m 2580562586483294208 = some .lt:=by rw [q1,Int.compare_eq_lt.2 d1]
      rw [decide_eq_false (by omega)]
      clear q1 q2 c d1
      go_enter Tryz.func72,Tryz.ntmps72
      go_wp2_with fail
      refine h.mono ?_;rintro e w' ⟨rfl,hw'⟩;obtain rfl:=hw'.symm;clear hw'
      go_wp2
      exact bodyPost_ret (v:=.bool false) (by simp [results,Tryz.results72,go_sem]) rfl ⟨rfl,rfl⟩
    · have o1:FloatKind.f64.format.order m 2580562586483294208 = some .eq:=by rw [q1,Int.compare_eq_eq.2 d1]
      have o2:FloatKind.f64.format.order m 6633802251116740608 = some .lt:=by rw [q2,Int.compare_eq_lt.2 (by omega)]
      rw [decide_eq_true (by omega)]
      clear q1 q2 c d1
      go_enter Tryz.func72,Tryz.ntmps72
      go_wp2_with fail
      refine h.mono ?_;rintro e w' ⟨rfl,hw'⟩;obtain rfl:=hw'.symm;clear hw'
      go_wp2_with fail
      refine h.mono ?_;rintro e w' ⟨rfl,hw'⟩;obtain rfl:=hw'.symm;clear hw'
      go_wp2
      exact bodyPost_ret (v:=.bool true) (by simp [results,Tryz.results72,go_sem]) rfl ⟨rfl,rfl⟩
    · have o1:FloatKind.f64.format.order m 2580562586483294208 = some .gt:=by rw [q1,Int.compare_eq_gt.2 d1]
      rcases Int.lt_trichotomy (m:Int) (6633802251116740608:Nat) with d2 | d2 | d2
      · have o2:FloatKind.f64.format.order m 6633802251116740608 = some .lt:=by rw [q2,Int.compare_eq_lt.2 d2]
        rw [decide_eq_true (by omega)]
        clear q1 q2 c d1 d2
        go_enter Tryz.func72,Tryz.ntmps72
        go_wp2_with fail
        refine h.mono ?_;rintro e w' ⟨rfl,hw'⟩;obtain rfl:=hw'.symm;clear hw'
        go_wp2_with fail
        refine h.mono ?_;rintro e w' ⟨rfl,hw'⟩;obtain rfl:=hw'.symm;clear hw'
        go_wp2
        exact bodyPost_ret (v:=.bool true) (by simp [results,Tryz.results72,go_sem]) rfl ⟨rfl,rfl⟩
      · have o2:FloatKind.f64.format.order m 6633802251116740608 = some .eq:=by rw [q2,Int.compare_eq_eq.2 d2]
        rw [decide_eq_true (by omega)]
        clear q1 q2 c d1 d2
        go_enter Tryz.func72,Tryz.ntmps72
        go_wp2_with fail
        refine h.mono ?_;rintro e w' ⟨rfl,hw'⟩;obtain rfl:=hw'.symm;clear hw'
        go_wp2_with fail
        refine h.mono ?_;rintro e w' ⟨rfl,hw'⟩;obtain rfl:=hw'.symm;clear hw'
        go_wp2
        exact bodyPost_ret (v:=.bool true) (by simp [results,Tryz.results72,go_sem]) rfl ⟨rfl,rfl⟩
      · have o2:FloatKind.f64.format.order m 6633802251116740608 = some .gt:=by rw [q2,Int.compare_eq_gt.2 d2]
        rw [decide_eq_false (by omega)]
        clear q1 q2 c d1 d2
        go_enter Tryz.func72,Tryz.ntmps72
        go_wp2_with fail
        refine h.mono ?_;rintro e w' ⟨rfl,hw'⟩;obtain rfl:=hw'.symm;clear hw'
        go_wp2_with fail
        refine h.mono ?_;rintro e w' ⟨rfl,hw'⟩;obtain rfl:=hw'.symm;clear hw'
        go_wp2
        exact bodyPost_ret (v:=.bool false) (by simp [results,Tryz.results72,go_sem]) rfl ⟨rfl,rfl⟩
  · rw [if_neg c] at q1 q2
    have o1:=q1
    rw [decide_eq_false (by omega)]
    clear q1 q2 c
    go_enter Tryz.func72,Tryz.ntmps72
    go_wp2_with fail
    refine h.mono ?_;rintro e w' ⟨rfl,hw'⟩;obtain rfl:=hw'.symm;clear hw'
    go_wp2
    exact bodyPost_ret (v:=.bool false) (by simp [results,Tryz.results72,go_sem]) rfl ⟨rfl,rfl⟩
end Go.Proofs.YtnileplkkmhdgaaGreatDoor
