import Derived.Test.YtngglmnhjjlgkaaGreatDoorKXP
import Derived.Test.YtngglmnhjjlgkaaGreatDoorKXU1
import Derived.Scope
import Derived.ScopeJumps
set_option maxHeartbeats 1000000
set_option maxRecDepth 20000
namespace Go.Proofs.YtngglmnhjjlgkaaGreatDoor
open Go.RowKit
theorem nanD9 (n:Bool) (m:Nat) (h1:9218868437227405312 < m) (h2:m < 9223372036854775808):Ieee.double.read (Fq.wD n m) = .nan n (m - 9218868437227405312):=by
 rw [Fq.read_nan Ieee.double _ Fq.binfD (by rw [Fq.rgD n m h2,Fq.infD];exact h1),Fq.rgD n m h2,Fq.ngD n m h2,Fq.infD]
theorem infD9 (n:Bool):Ieee.double.read (Fq.wD n 9218868437227405312) = .infinity n:=by
 rw [Fq.read_inf Ieee.double _ Fq.binfD (by rw [Fq.rgD n 9218868437227405312 (by decide),Fq.infD]),Fq.ngD n 9218868437227405312 (by decide)]
theorem finD9 (n:Bool) (m:Nat) (h:m < 9218868437227405312):∃ a e,Ieee.double.read (Fq.wD n m) = .number n a e∧(a = 0 ↔ m = 0):=by
 rw [Fq.read_fin _ _ (by rw [Fq.rgD n m (by omega),Fq.infD];exact h),Fq.ngD n m (by omega),Fq.rgD n m (by omega)]
 refine ⟨_,_,rfl, ?_⟩
 unfold Fq.mM
 rw [Fq.binD]
 split <;> omega
theorem wrI9 (s:Bool):Ieee.double.write (.infinity s) = Fq.wD s 9218868437227405312:=by unfold Ieee.Format.write Ieee.Format.word Fq.wD;rw [Fq.signD,Fq.infD]
theorem nan_cut9 (t:Nat):9218868437227405312 < (t % 2 * 2 ^ 63 + 0x7ff0000000000000 + 1 + t / 2 % (2 ^ 52 - 1)) % 9223372036854775808∧t % 2 * 2 ^ 63 + 0x7ff0000000000000 + 1 + t / 2 % (2 ^ 52 - 1) < 18446744073709551616:=by
 rw [show (2:Nat) ^ 63 = 9223372036854775808 from by decide,show (2:Nat) ^ 52 - 1 = 4503599627370495 from by decide]
 have h1:t % 2 = 0∨t % 2 = 1:=by omega
 have h2:t / 2 % 4503599627370495 < 4503599627370495:=Nat.mod_lt _ (by decide)
 generalize t / 2 % 4503599627370495 = b at *
 rcases h1 with h | h <;> rw [h] <;> omega
theorem word_of (R:Nat) (h:R < 18446744073709551616):∃ n m,m = R % 9223372036854775808∧R = Fq.wD n m:=by
 by_cases c:9223372036854775808≤R
 ·exact ⟨true,R % 9223372036854775808,rfl,by unfold Fq.wD;rw [if_pos rfl];omega⟩
 ·exact ⟨false,R % 9223372036854775808,rfl,by unfold Fq.wD;simp;omega⟩
theorem run_nan_quo (X Y:Nat) (h:FloatKind.f64.format.div X Y = none) (w:World):∃ r,9218868437227405312 < r % 9223372036854775808∧r < 18446744073709551616∧(binOp .quo 26 (.float .f64 X) (.float .f64 Y)).run Tryz.prog w = .ok (.float .f64 r) w.drew:=by
 refine ⟨Question.cut (.nanBits .f64 X Y) _, ?_, ?_,by simp [binOp,Op.floatArith,h];rfl⟩
 ·simp only [Question.cut];exact (nan_cut9 _).1
 ·simp only [Question.cut];exact (nan_cut9 _).2
def badQ (m m':Nat):Prop:=9218868437227405312 < m∨9218868437227405312 < m'∨(m = 9218868437227405312∧m' = 9218868437227405312)
theorem div_bad (n n':Bool) (m m':Nat) (hm:m < 9223372036854775808) (hm':m' < 9223372036854775808) (h:badQ m m'):FloatKind.f64.format.div (Fq.wD n m) (Fq.wD n' m') = none:=by
 show Ieee.double.div _ _ = none
 unfold Ieee.Format.div
 by_cases c1:9218868437227405312 < m
 ·rw [nanD9 n m c1 hm];rfl
 ·by_cases c2:9218868437227405312 < m'
  ·rw [nanD9 n' m' c2 hm']
   by_cases c3:m = 9218868437227405312
   ·rw [c3,infD9];rfl
   ·obtain ⟨a,e,he,_⟩:=finD9 n m (by omega)
    rw [he];rfl
  ·obtain ⟨e1,e2⟩:=(h.resolve_left c1).resolve_left c2
   rw [e1,e2,infD9,infD9];rfl
theorem div_inf (n n':Bool) (m m':Nat) (h:m = 9218868437227405312) (h':m' < 9218868437227405312):FloatKind.f64.format.div (Fq.wD n m) (Fq.wD n' m') = some (Fq.wD (n ^^ n') 9218868437227405312):=by
 show Ieee.double.div _ _ = _
 unfold Ieee.Format.div
 obtain ⟨a,e,he,hz⟩:=finD9 n' m' h'
 rw [h,infD9,he]
 exact congrArg some (wrI9 _)
theorem near0 (s:Bool) (p:Int):Ieee.double.nearest s 0 p = Fq.wD s 0:=by
 unfold Ieee.Format.nearest
 rw [if_pos rfl,wdD9]
theorem div_zero (n n':Bool) (m m':Nat) (hm:m < 9218868437227405312) (h:m' = 9218868437227405312∨(m = 0∧m' < 9218868437227405312∧m'≠0)):FloatKind.f64.format.div (Fq.wD n m) (Fq.wD n' m') = some (Fq.wD (n ^^ n') 0):=by
 show Ieee.double.div _ _ = _
 unfold Ieee.Format.div
 obtain ⟨a,e,he,hz⟩:=finD9 n m hm
 rw [he]
 rcases h with h | ⟨h1,h2,h3⟩
 ·rw [h,infD9]
  unfold Ieee.Datum.quotient
  simp only [Option.map_some]
  unfold Ieee.Format.write
  simp only
  rw [near0]
 ·obtain ⟨b,e',he',hz'⟩:=finD9 n' m' h2
  rw [he']
  have a0:a = 0:=hz.2 h1
  have b0:¬ b = 0:=fun h=>h3 (hz'.1 h)
  subst a0
  unfold Ieee.Datum.quotient
  simp only [Nat.zero_shiftLeft,Nat.zero_div,Nat.zero_mod]
  rw [if_neg b0]
  simp only [Option.map_some]
  unfold Ieee.Format.write
  simp only
  exact congrArg some (near0 _ _)
theorem ord_self (n:Bool) (m:Nat) (hm:m < 9223372036854775808):(FloatKind.f64.format.order (Fq.wD n m) (Fq.wD n m) != some .eq) = decide (9218868437227405312 < m):=by
 by_cases c:9218868437227405312 < m
 ·rw [Fq.ordD_nanl n m _ c hm,decide_eq_true c];rfl
 ·rw [Fq.ordD n n m m (by omega) (by omega),Fq.cmp_eq rfl,decide_eq_false c];rfl
theorem ord_neg (n:Bool) (m:Nat) (hm:m≤9218868437227405312) (z:m≠0):(FloatKind.f64.format.order (Fq.wD n m) 0 == some .lt) = n:=by
 have hz:(0:Nat) = Fq.wD false 0:=rfl
 have hord:FloatKind.f64.format.order (Fq.wD n m) 0 = some (compare (Fq.plz n m) 0):=by
  rw [hz,Fq.ordD n false m 0 hm (by decide)];rfl
 rw [hord]
 cases n
 ·rw [Int.compare_eq_gt.2 (by unfold Fq.plz;simp;omega)];rfl
 ·rw [Int.compare_eq_lt.2 (by unfold Fq.plz;simp;omega)];rfl
theorem isNaN_ (n:Bool) (m:Nat) (hm:m < 9223372036854775808) (w:World):Calls Tryz.prog 85 #[.float .f64 (Fq.wD n m)] w fun e w'=>e = .returned (.bool (decide (9218868437227405312 < m)))∧w' = w:=by
 have o1:=ord_self n m hm
 obtain ⟨X,hX⟩:∃ X,X = Fq.wD n m:=⟨_,rfl⟩
 rw [← hX] at o1 ⊢
 clear hX
 go_enter Tryz.func85,Tryz.ntmps85
 go_wp2
 exact bodyPost_ret (v:=.bool (decide (9218868437227405312 < m))) (by simp [results,Tryz.results85,go_sem]) rfl ⟨rfl,rfl⟩
theorem byNought_ (n:Bool) (m:Nat) (hm:m < 9223372036854775808) (w:World):Calls Tryz.prog 59 #[.float .f64 (Fq.wD n m)] w fun e w'=>e = .returned (.float .f64 (if m = 0∨9218868437227405312 < m then 9221120237041090561 else Fq.wD n 9218868437227405312))∧w' = w:=by
 have o1:=Fq.eqzD n m hm
 have h1:=isNaN_ n m hm w
 have h2:=mnan_ w
 have h3:=infD_ n w
 by_cases c1:m = 0
 ·rw [if_pos (Or.inl c1)]
  rw [show (m == 0) = true from by simp [c1]] at o1
  obtain ⟨X,hX⟩:∃ X,X = Fq.wD n m:=⟨_,rfl⟩
  rw [← hX] at o1 h1 ⊢
  clear hX h1 h3 c1 hm
  go_enter Tryz.func59,Tryz.ntmps59
  go_wp2_with fail
  refine h2.mono ?_;rintro e w' ⟨rfl,hw'⟩;obtain rfl:=hw'.symm;clear hw' h2
  go_wp2
  exact bodyPost_ret (v:=.float .f64 9221120237041090561) (by simp [results,Tryz.results59,go_sem]) rfl ⟨rfl,rfl⟩
 ·rw [show (m == 0) = false from by simp [c1]] at o1
  by_cases c2:9218868437227405312 < m
  ·rw [if_pos (Or.inr c2)]
   rw [decide_eq_true c2] at h1
   obtain ⟨X,hX⟩:∃ X,X = Fq.wD n m:=⟨_,rfl⟩
   rw [← hX] at o1 h1 ⊢
   clear hX h3 c1 c2 hm
   go_enter Tryz.func59,Tryz.ntmps59
   go_wp2_with fail
   refine h1.mono ?_;rintro e w' ⟨rfl,hw'⟩;obtain rfl:=hw'.symm;clear hw' h1
   go_wp2_with fail
   refine h2.mono ?_;rintro e w' ⟨rfl,hw'⟩;obtain rfl:=hw'.symm;clear hw' h2
   go_wp2
   exact bodyPost_ret (v:=.float .f64 9221120237041090561) (by simp [results,Tryz.results59,go_sem]) rfl ⟨rfl,rfl⟩
  ·rw [if_neg (by omega)]
   rw [decide_eq_false c2] at h1
   have o2:=ord_neg n m (by omega) c1
   obtain ⟨X,hX⟩:∃ X,X = Fq.wD n m:=⟨_,rfl⟩
   obtain ⟨Z,hZ⟩:∃ Z,Z = Fq.wD n 9218868437227405312:=⟨_,rfl⟩
   rw [← hX] at o1 h1 o2 ⊢
   rw [← hZ] at h3 ⊢
   clear hX hZ h2 c1 c2 hm
   go_enter Tryz.func59,Tryz.ntmps59
   go_wp2_with fail
   refine h1.mono ?_;rintro e w' ⟨rfl,hw'⟩;obtain rfl:=hw'.symm;clear hw' h1
   go_wp2_with fail
   refine h3.mono ?_;rintro e w' ⟨rfl,hw'⟩;obtain rfl:=hw'.symm;clear hw' h3
   go_wp2
   exact bodyPost_ret (v:=.float .f64 Z) (by simp [results,Tryz.results59,go_sem]) rfl ⟨rfl,rfl⟩
theorem rat_div (d:Int) (ng:Bool) (a b x y:Nat) (ea eb:Int) (ha:a≠0) (hb:b≠0) (la:len32 a≤16384) (lb:len32 b≤16384) (hx:(x:Int) = ea + 1074) (hy:(y:Int) = eb + 1074):ratW d ng a b (ea - eb) = divW d ng (a * 2 ^ x) (b * 2 ^ y):=by
 unfold ratW divW
 rw [if_neg (by omega),if_neg hb,if_neg ha,if_neg (Nat.mul_ne_zero ha (Nat.ne_of_gt (Nat.two_pow_pos x))),rV_up _ _ _ _ _ _ (Nat.mul_pos (by omega) (Nat.two_pow_pos y)),rV_down _ _ _ _ _ _ (by omega),show (1074:Int) + (x:Int) - (y:Int) = ea - eb + 1074 from by omega]
theorem by_ (d:Int) (s t:Bool) (a b:Nat) (ea eb:Int) (va vb:Value) (w:World) (hQ:Fq.Tab w) (hd1:-9223372036854775808≤d) (hd2:d < 9223372036854775808) (ha:Ls w va (dig a)) (hb:Ls w vb (dig b)) (la:len32 a≤16384) (lb:len32 b≤16384) (ea1:-1074≤ea) (ea2:ea≤2048) (eb1:-1074≤eb) (eb2:eb≤2048) :
  Calls Tryz.prog 63 #[.agg #[.bool s,va,.int .i64 ea],.int .i64 d,.agg #[.bool t,vb,.int .i64 eb]] w fun e w'=>e = .returned (.float .f64 (ratW d (s ^^ t) a b (ea - eb)))∧Kp w w':=by
 obtain ⟨pa,ca,rfl,ha,hca⟩:=ha
 obtain ⟨pb,cb,rfl,hb,hcb⟩:=hb
 obtain ⟨La,hLa⟩:∃ La,La = (dig a).length:=⟨_,rfl⟩
 obtain ⟨Lb,hLb⟩:∃ Lb,Lb = (dig b).length:=⟨_,rfl⟩
 rw [← hLa,← hLb]
 obtain ⟨B,hB⟩:∃ B,B = w.heap.size:=⟨_,rfl⟩
 obtain ⟨w0,hw0⟩:∃ w0,w0 = (w.alloc (.cells #[.bool s,.slice pa La ca,.int .i64 ea] 73)).alloc (.cells #[.bool t,.slice pb Lb cb,.int .i64 eb] 73):=⟨_,rfl⟩
 have hk0:Kp w w0:=by rw [hw0];exact ((Kp.refl w).alloc _).alloc _
 have x0:w0.cell? ⟨B,0,none⟩ = some (.bool s):=by rw [hw0,hB];simp [go_sem]
 have x1:w0.cell? ⟨B,1,none⟩ = some (.slice pa La ca):=by rw [hw0,hB];simp [go_sem]
 have x2:w0.cell? ⟨B,2,none⟩ = some (.int .i64 ea):=by rw [hw0,hB];simp [go_sem]
 have y0:w0.cell? ⟨B + 1,0,none⟩ = some (.bool t):=by rw [hw0,hB];simp [go_sem]
 have y1:w0.cell? ⟨B + 1,1,none⟩ = some (.slice pb Lb cb):=by rw [hw0,hB];simp [go_sem]
 have y2:w0.cell? ⟨B + 1,2,none⟩ = some (.int .i64 eb):=by rw [hw0,hB];simp [go_sem]
 have h:=prat_ d (s ^^ t) pa pb ca cb (dig a) (dig b) (ea - eb) w0 (Fq.Tab.grown hQ hk0) hd1 hd2 (ha.grown hk0) (hb.grown hk0) (Wd_dig a) (Wd_dig b) (by change len32 a≤_;omega) (by change len32 b≤_;omega) hca hcb
 rw [val_dig,val_dig,← hLa,← hLb] at h
 have w1e:wrap64 (ea - eb) = ea - eb:=w64x _ (by omega) (by omega)
 obtain ⟨st,hst⟩:∃ st,st = (s ^^ t):=⟨_,rfl⟩
 have hst2:(s != t) = st:=by rw [hst]
 have hst3:(!decide (s = t)) = st:=by rw [hst];cases s <;> cases t <;> rfl
 have hst4:(!(s == t)) = st:=by rw [hst];cases s <;> cases t <;> rfl
 rw [← hst] at h ⊢
 obtain ⟨Z,hZ⟩:∃ Z,Z = ratW d st a b (ea - eb):=⟨_,rfl⟩
 rw [← hZ] at h ⊢
 have HW:Hid (w0 = (w.alloc (.cells #[.bool s,.slice pa La ca,.int .i64 ea] 73)).alloc (.cells #[.bool t,.slice pb Lb cb,.int .i64 eb] 73)∧B = w.heap.size∧Kp w w0):=⟨hw0,hB,hk0⟩
 clear hZ hst ha hca hb hcb la lb hLa hLb hw0 hB hk0 hQ hd1 hd2 ea1 ea2 eb1 eb2
 go_enter Tryz.func63,Tryz.ntmps63
 go_wp2_with fail
 rw [← HW.out.2.1]
 try rw [← HW.out.1]
 go_wp2_with fail
 refine h.mono ?_;rintro e w1 ⟨rfl,k1⟩
 have hk:=HW.out.2.2.trans k1
 clear h k1
 go_wp2
 exact bodyPost_ret (v:=.float .f64 Z) (by simp [results,Tryz.results63,go_sem]) rfl ⟨rfl,hk⟩
theorem pdivQ_ (d:Int) (n n':Bool) (m m':Nat) (c1:2580562586483294208≤m∧m≤6633802251116740608) (c2:2580562586483294208≤m'∧m'≤6633802251116740608) (w:World) :
  Calls Tryz.prog 36 #[.int .i64 d,.float .f64 (Fq.wD n m),.float .f64 (Fq.wD n' m')] w fun e w'=>e = .returned (.float .f64 (divW d (n ^^ n') (Fq.vV Ieee.double m) (Fq.vV Ieee.double m')))∧Kp w w':=by
 have h1:=mild_ n m (by omega) w
 have h2:=mild_ n' m' (by omega) w
 rw [decide_eq_true c1] at h1
 rw [decide_eq_true c2] at h2
 obtain ⟨V,s,o,r,ro,K,h3,r0,r8,q0,q1,g1,g2,K1,K2,kV,hsum⟩:=twoQuotient_ n n' m m' c1 c2
 have h4:=steppedG_ d V s o (n ^^ n') r ro K K1 K2 kV r0 r8 q0 q1 g1 g2
 rw [hsum d] at h4
 obtain ⟨X,hX⟩:∃ X,X = Fq.wD n m:=⟨_,rfl⟩
 obtain ⟨Y,hY⟩:∃ Y,Y = Fq.wD n' m':=⟨_,rfl⟩
 obtain ⟨Z,hZ⟩:∃ Z,Z = divW d (n ^^ n') (Fq.vV Ieee.double m) (Fq.vV Ieee.double m'):=⟨_,rfl⟩
 obtain ⟨N,hN⟩:∃ N,N = Fq.wD s r:=⟨_,rfl⟩
 obtain ⟨O,hO⟩:∃ O,O = Fq.wD o ro:=⟨_,rfl⟩
 rw [← hX] at h1
 rw [← hY] at h2
 rw [← hX,← hY,← hN,← hO] at h3
 rw [← hN,← hO,← hZ] at h4
 rw [← hX,← hY,← hZ]
 clear hX hY hZ hN hO c1 c2 r0 r8 q0 q1 g1 g2 K1 K2 kV hsum
 go_enter Tryz.func36,Tryz.ntmps36
 go_wp2
 refine wp_scope_straight ?_
 go_wp2_with fail
 refine h1.mono ?_;rintro e w' ⟨rfl,hw'⟩;obtain rfl:=hw'.symm;clear hw' h1
 go_wp2_with fail
 refine h2.mono ?_;rintro e w' ⟨rfl,hw'⟩;obtain rfl:=hw'.symm;clear hw' h2
 have h5:=h3 w
 clear h3
 go_wp2_with fail
 refine h5.mono ?_;rintro e w' ⟨rfl,hw'⟩;obtain rfl:=hw'.symm;clear hw' h5
 have h6:=h4 w
 clear h4
 go_wp2_with fail
 refine h6.mono ?_;rintro e w1 ⟨rfl,k1⟩
 clear h6
 go_wp2
 try rw [Exit.noGoto_ret]
 exact bodyPost_ret (v:=.float .f64 Z) (by simp [results,Tryz.results36,go_sem]) rfl ⟨rfl,k1⟩
theorem pdivE_ (d:Int) (n n':Bool) (m m':Nat) (hm:m < 9218868437227405312) (hm':m' < 9218868437227405312) (z:m≠0) (z':m'≠0) (ct:¬ ((2580562586483294208≤m∧m≤6633802251116740608)∧(2580562586483294208≤m'∧m'≤6633802251116740608))) (w:World) (hQ:Fq.Tab w) (hd1:-9223372036854775808≤d) (hd2:d < 9223372036854775808) :
  Calls Tryz.prog 36 #[.int .i64 d,.float .f64 (Fq.wD n m),.float .f64 (Fq.wD n' m')] w fun e w'=>e = .returned (.float .f64 (divW d (n ^^ n') (Fq.vV Ieee.double m) (Fq.vV Ieee.double m')))∧Kp w w':=by
 have h1:=mild_ n m (by omega) w
 have h2:=mild_ n' m' (by omega) w
 have g1:=finite_ n m (by omega) w
 have g2:=finite_ n' m' (by omega) w
 rw [decide_eq_true hm] at g1
 rw [decide_eq_true hm'] at g2
 have o1:=Fq.eqzD n m (by omega)
 have o2:=Fq.eqzD n' m' (by omega)
 rw [show (m == 0) = false from by simp [z]] at o1
 rw [show (m' == 0) = false from by simp [z']] at o2
 obtain ⟨X,hX⟩:∃ X,X = Fq.wD n m:=⟨_,rfl⟩
 obtain ⟨Y,hY⟩:∃ Y,Y = Fq.wD n' m':=⟨_,rfl⟩
 obtain ⟨Z,hZ⟩:∃ Z,Z = divW d (n ^^ n') (Fq.vV Ieee.double m) (Fq.vV Ieee.double m'):=⟨_,rfl⟩
 obtain ⟨a,ea,a1,a2,a3,a4,ta⟩:=take_ n m hm
 obtain ⟨b,eb,b1,b2,b3,b4,tb⟩:=take_ n' m' hm'
 rw [show (n && !(m == 0)) = n from by simp [z]] at ta
 rw [show (n' && !(m' == 0)) = n' from by simp [z']] at tb
 have la:len32 a≤16384:=dlen a 16384 (by
  have:blen a≤53:=by rw [blen_le_iff,show (2:Nat) ^ 53 = 9007199254740992 from by decide];exact a4
  omega)
 have lb:len32 b≤16384:=dlen b 16384 (by
  have:blen b≤53:=by rw [blen_le_iff,show (2:Nat) ^ 53 = 9007199254740992 from by decide];exact b4
  omega)
 have za:a≠0:=fun h=>by rw [h,Nat.zero_mul] at a1;exact z ((vV_zero m).1 a1.symm)
 have zb:b≠0:=fun h=>by rw [h,Nat.zero_mul] at b1;exact z' ((vV_zero m').1 b1.symm)
 have hom:ratW d (n ^^ n') a b (ea - eb) = Z:=by
  rw [hZ,← a1,← b1]
  exact rat_div d (n ^^ n') a b _ _ ea eb za zb la lb (by omega) (by omega)
 have hp:∀ (va vb:Value) (w1:World),Kp w w1→Ls w1 va (dig a)→Ls w1 vb (dig b)→Calls Tryz.prog 63 #[.agg #[.bool n,va,.int .i64 ea],.int .i64 d,.agg #[.bool n',vb,.int .i64 eb]] w1 fun e w'=>e = .returned (.float .f64 Z)∧Kp w1 w':=fun va vb w1 k l1 l2=>by
  rw [← hom];exact by_ d n n' a b ea eb va vb w1 (Fq.Tab.grown hQ k) hd1 hd2 l1 l2 la lb a2 a3 b2 b3
 rw [← hX] at h1 g1 ta o1
 rw [← hY] at h2 g2 tb o2
 rw [← hX,← hY,← hZ]
 have ta1:=ta w hQ
 have tb1:=fun w1 (k:Kp w w1)=>tb w1 (Fq.Tab.grown hQ k)
 have HT:Hid (2580562586483294208≤m∧m≤6633802251116740608→¬ (2580562586483294208≤m'∧m'≤6633802251116740608)):=fun h h'=>ct ⟨h,h'⟩
 clear hX hY hZ hom la lb za zb a1 a2 a3 a4 b1 b2 b3 b4 ta tb hQ hd1 hd2 ct hm hm' z z'
 go_enter Tryz.func36,Tryz.ntmps36
 go_wp2
 refine wp_scope_jumps 0 (fun a' w'=>w' = w∧∃ u3 u4 u5 u6 u7 u8 u9 u10 u11 u12 u13 u14 u15 u16 u17 u18 u19 u20 u21 u22 u23 u24 u25 u26 u27 u28 u29 u30 u31 u32 u33 u34 u35 u36 u37 u38 u39 u40 u41 u42 u43 u44 u45 u46 u47 u48 u49 u50 u51 u52 u53 u54:Value,a' = ⟨#[.int .i64 d,.float .f64 X,.float .f64 Y,u3,u4,u5,u6,u7,u8,u9,u10,u11,u12,u13,u14,u15,u16,u17,u18,u19,u20,u21,u22,u23,u24,u25,u26,u27,u28,u29,u30,u31,u32,u33,u34,u35,u36,u37,u38,u39,u40,u41,u42,u43,u44,u45,u46,u47,u48,u49,u50,u51,u52,u53,u54],[]⟩) (fun _ _=>0) rfl ?_ ?_
 ·clear g1 g2 ta1 tb1 hp o1 o2
  by_cases c1:2580562586483294208≤m∧m≤6633802251116740608
  ·rw [decide_eq_true c1] at h1
   rw [decide_eq_false (HT.out c1)] at h2
   clear c1 HT
   go_wp2_with fail
   refine h1.mono ?_;rintro e w' ⟨rfl,hw'⟩;obtain rfl:=hw'.symm;clear hw' h1
   go_wp2_with fail
   refine h2.mono ?_;rintro e w' ⟨rfl,hw'⟩;obtain rfl:=hw'.symm;clear hw' h2
   go_wp2_with fail
   go_step3
   exact ⟨rfl,rfl,_,_,_,_,_,_,_,_,_,_,_,_,_,_,_,_,_,_,_,_,_,_,_,_,_,_,_,_,_,_,_,_,_,_,_,_,_,_,_,_,_,_,_,_,_,_,_,_,_,_,_,_,rfl⟩
  ·rw [decide_eq_false c1] at h1
   clear c1 HT h2
   go_wp2_with fail
   refine h1.mono ?_;rintro e w' ⟨rfl,hw'⟩;obtain rfl:=hw'.symm;clear hw' h1
   go_wp2_with fail
   go_step3
   exact ⟨rfl,rfl,_,_,_,_,_,_,_,_,_,_,_,_,_,_,_,_,_,_,_,_,_,_,_,_,_,_,_,_,_,_,_,_,_,_,_,_,_,_,_,_,_,_,_,_,_,_,_,_,_,_,_,_,rfl⟩
 ·rintro a' w' ⟨rfl,u3,u4,u5,u6,u7,u8,u9,u10,u11,u12,u13,u14,u15,u16,u17,u18,u19,u20,u21,u22,u23,u24,u25,u26,u27,u28,u29,u30,u31,u32,u33,u34,u35,u36,u37,u38,u39,u40,u41,u42,u43,u44,u45,u46,u47,u48,u49,u50,u51,u52,u53,u54,rfl⟩
  clear h1 h2 HT
  go_wp2_with fail
  refine g1.mono ?_;rintro e w9 ⟨rfl,hw'⟩;obtain rfl:=hw'.symm;clear hw' g1
  go_wp2_with fail
  refine g2.mono ?_;rintro e w9 ⟨rfl,hw'⟩;obtain rfl:=hw'.symm;clear hw' g2
  go_wp2_with fail
  refine ta1.mono ?_;rintro e w1 ⟨va,rfl,lva,k1⟩
  have tb2:=tb1 w1 k1
  clear ta1 tb1
  go_wp2_with fail
  refine tb2.mono ?_;rintro e w2 ⟨vb,rfl,lvb,k2⟩
  have k02:=k1.trans k2
  have hp2:=hp va vb w2 k02 (lva.kp k2) lvb
  clear tb2 hp lva lvb k1 k2
  go_wp2_with fail
  refine hp2.mono ?_;rintro e w3 ⟨rfl,k3⟩
  have k03:=k02.trans k3
  clear hp2 k02 k3
  go_wp2
  try simp only [Exit.jump]
  exact bodyPost_ret (v:=.float .f64 Z) (by simp [results,Tryz.results36,go_sem]) rfl ⟨rfl,k03⟩
theorem pdivP_ (d:Int) (n n':Bool) (m m':Nat) (hm:m < 9223372036854775808) (hm':m' < 9223372036854775808) (z':m'≠0) (hi:¬ (m < 9218868437227405312∧m' < 9218868437227405312∧m≠0)) (w w9:World) (RR R2:Nat) (hrun:(binOp .quo 26 (.float .f64 (Fq.wD n m)) (.float .f64 (Fq.wD n' m'))).run Tryz.prog w = .ok (.float .f64 RR) w9) (hk:Kp w w9) (hpl:Calls Tryz.prog 61 #[.float .f64 RR] w9 fun e w'=>e = .returned (.float .f64 R2)∧w' = w9) :
  Calls Tryz.prog 36 #[.int .i64 d,.float .f64 (Fq.wD n m),.float .f64 (Fq.wD n' m')] w fun e w'=>e = .returned (.float .f64 R2)∧Kp w w':=by
 have h1:=mild_ n m hm w
 have h2:=mild_ n' m' hm' w
 have g1:=finite_ n m hm w
 have g2:=finite_ n' m' hm' w
 have o1:=Fq.eqzD n m hm
 have o2:=Fq.eqzD n' m' hm'
 rw [show (m' == 0) = false from by simp [z']] at o2
 obtain ⟨X,hX⟩:∃ X,X = Fq.wD n m:=⟨_,rfl⟩
 obtain ⟨Y,hY⟩:∃ Y,Y = Fq.wD n' m':=⟨_,rfl⟩
 rw [← hX] at h1 g1 o1
 rw [← hY] at h2 g2 o2
 rw [← hX,← hY] at hrun
 rw [← hX,← hY]
 have HT:Hid (2580562586483294208≤m∧m≤6633802251116740608→¬ (2580562586483294208≤m'∧m'≤6633802251116740608)):=fun h h'=>hi ⟨by omega,by omega,by omega⟩
 have HI:Hid (¬ (m < 9218868437227405312∧m' < 9218868437227405312∧m≠0)):=hi
 clear hX hY hi hm hm' z'
 go_enter Tryz.func36,Tryz.ntmps36
 go_wp2
 refine wp_scope_jumps 0 (fun a' w'=>w' = w∧∃ u3 u4 u5 u6 u7 u8 u9 u10 u11 u12 u13 u14 u15 u16 u17 u18 u19 u20 u21 u22 u23 u24 u25 u26 u27 u28 u29 u30 u31 u32 u33 u34 u35 u36 u37 u38 u39 u40 u41 u42 u43 u44 u45 u46 u47 u48 u49 u50 u51 u52 u53 u54:Value,a' = ⟨#[.int .i64 d,.float .f64 X,.float .f64 Y,u3,u4,u5,u6,u7,u8,u9,u10,u11,u12,u13,u14,u15,u16,u17,u18,u19,u20,u21,u22,u23,u24,u25,u26,u27,u28,u29,u30,u31,u32,u33,u34,u35,u36,u37,u38,u39,u40,u41,u42,u43,u44,u45,u46,u47,u48,u49,u50,u51,u52,u53,u54],[]⟩) (fun _ _=>0) rfl ?_ ?_
 ·clear g1 g2 o1 o2 hrun hpl HI
  by_cases c1:2580562586483294208≤m∧m≤6633802251116740608
  ·rw [decide_eq_true c1] at h1
   rw [decide_eq_false (HT.out c1)] at h2
   clear c1 HT
   go_wp2_with fail
   refine h1.mono ?_;rintro e w' ⟨rfl,hw'⟩;obtain rfl:=hw'.symm;clear hw' h1
   go_wp2_with fail
   refine h2.mono ?_;rintro e w' ⟨rfl,hw'⟩;obtain rfl:=hw'.symm;clear hw' h2
   go_wp2_with fail
   go_step3
   exact ⟨rfl,rfl,_,_,_,_,_,_,_,_,_,_,_,_,_,_,_,_,_,_,_,_,_,_,_,_,_,_,_,_,_,_,_,_,_,_,_,_,_,_,_,_,_,_,_,_,_,_,_,_,_,_,_,_,rfl⟩
  ·rw [decide_eq_false c1] at h1
   clear c1 HT h2
   go_wp2_with fail
   refine h1.mono ?_;rintro e w' ⟨rfl,hw'⟩;obtain rfl:=hw'.symm;clear hw' h1
   go_wp2_with fail
   go_step3
   exact ⟨rfl,rfl,_,_,_,_,_,_,_,_,_,_,_,_,_,_,_,_,_,_,_,_,_,_,_,_,_,_,_,_,_,_,_,_,_,_,_,_,_,_,_,_,_,_,_,_,_,_,_,_,_,_,_,_,rfl⟩
 ·rintro a' w' ⟨rfl,u3,u4,u5,u6,u7,u8,u9,u10,u11,u12,u13,u14,u15,u16,u17,u18,u19,u20,u21,u22,u23,u24,u25,u26,u27,u28,u29,u30,u31,u32,u33,u34,u35,u36,u37,u38,u39,u40,u41,u42,u43,u44,u45,u46,u47,u48,u49,u50,u51,u52,u53,u54,rfl⟩
  clear h1 h2 HT
  by_cases c1:m < 9218868437227405312
  ·rw [decide_eq_true c1] at g1
   by_cases c2:m' < 9218868437227405312
   ·rw [decide_eq_true c2] at g2
    have c3:m = 0:=by have:=HI.out;omega
    rw [show (m == 0) = true from by simp [c3]] at o1
    clear c1 c2 c3 HI
    go_wp2_with fail
    refine g1.mono ?_;rintro e w8 ⟨rfl,hw'⟩;obtain rfl:=hw'.symm;clear hw' g1
    go_wp2_with fail
    refine g2.mono ?_;rintro e w8 ⟨rfl,hw'⟩;obtain rfl:=hw'.symm;clear hw' g2
    go_wp2_with fail
    refine hpl.mono ?_;rintro e w8 ⟨rfl,hw'⟩;obtain rfl:=hw'.symm;clear hw' hpl
    go_wp2
    try simp only [Exit.jump]
    exact bodyPost_ret (v:=.float .f64 R2) (by simp [results,Tryz.results36,go_sem]) rfl ⟨rfl,hk⟩
   ·rw [decide_eq_false c2] at g2
    clear c1 c2 HI o1
    go_wp2_with fail
    refine g1.mono ?_;rintro e w8 ⟨rfl,hw'⟩;obtain rfl:=hw'.symm;clear hw' g1
    go_wp2_with fail
    refine g2.mono ?_;rintro e w8 ⟨rfl,hw'⟩;obtain rfl:=hw'.symm;clear hw' g2
    go_wp2_with fail
    refine hpl.mono ?_;rintro e w8 ⟨rfl,hw'⟩;obtain rfl:=hw'.symm;clear hw' hpl
    go_wp2
    try simp only [Exit.jump]
    exact bodyPost_ret (v:=.float .f64 R2) (by simp [results,Tryz.results36,go_sem]) rfl ⟨rfl,hk⟩
  ·rw [decide_eq_false c1] at g1
   clear c1 HI o1 g2
   go_wp2_with fail
   refine g1.mono ?_;rintro e w8 ⟨rfl,hw'⟩;obtain rfl:=hw'.symm;clear hw' g1
   go_wp2_with fail
   refine hpl.mono ?_;rintro e w8 ⟨rfl,hw'⟩;obtain rfl:=hw'.symm;clear hw' hpl
   go_wp2
   try simp only [Exit.jump]
   exact bodyPost_ret (v:=.float .f64 R2) (by simp [results,Tryz.results36,go_sem]) rfl ⟨rfl,hk⟩
theorem pdivN_ (d:Int) (n n':Bool) (m:Nat) (hm:m < 9223372036854775808) (w:World) :
  Calls Tryz.prog 36 #[.int .i64 d,.float .f64 (Fq.wD n m),.float .f64 (Fq.wD n' 0)] w fun e w'=>e = .returned (.float .f64 (if m = 0∨9218868437227405312 < m then 9221120237041090561 else Fq.wD n 9218868437227405312))∧Kp w w':=by
 obtain ⟨m',hm0⟩:∃ m':Nat,m' = 0:=⟨_,rfl⟩
 have h1:=mild_ n m hm w
 have h2:=mild_ n' m' (by omega) w
 have o2:=Fq.eqzD n' m' (by omega)
 rw [show (m' == 0) = true from by simp [hm0]] at o2
 have hb:=byNought_ n m hm w
 obtain ⟨R,hR⟩:∃ R,R = (if m = 0∨9218868437227405312 < m then 9221120237041090561 else Fq.wD n 9218868437227405312):=⟨_,rfl⟩
 rw [← hR,← hm0]
 obtain ⟨X,hX⟩:∃ X,X = Fq.wD n m:=⟨_,rfl⟩
 obtain ⟨Y,hY⟩:∃ Y,Y = Fq.wD n' m':=⟨_,rfl⟩
 rw [← hX] at h1 hb
 rw [← hY] at h2 o2
 rw [← hR] at hb
 rw [← hX,← hY]
 have HT:Hid (2580562586483294208≤m∧m≤6633802251116740608→¬ (2580562586483294208≤m'∧m'≤6633802251116740608)):=fun h h'=>by omega
 clear hX hY hR hm hm0
 go_enter Tryz.func36,Tryz.ntmps36
 go_wp2
 refine wp_scope_jumps 0 (fun a' w'=>w' = w∧∃ u3 u4 u5 u6 u7 u8 u9 u10 u11 u12 u13 u14 u15 u16 u17 u18 u19 u20 u21 u22 u23 u24 u25 u26 u27 u28 u29 u30 u31 u32 u33 u34 u35 u36 u37 u38 u39 u40 u41 u42 u43 u44 u45 u46 u47 u48 u49 u50 u51 u52 u53 u54:Value,a' = ⟨#[.int .i64 d,.float .f64 X,.float .f64 Y,u3,u4,u5,u6,u7,u8,u9,u10,u11,u12,u13,u14,u15,u16,u17,u18,u19,u20,u21,u22,u23,u24,u25,u26,u27,u28,u29,u30,u31,u32,u33,u34,u35,u36,u37,u38,u39,u40,u41,u42,u43,u44,u45,u46,u47,u48,u49,u50,u51,u52,u53,u54],[]⟩) (fun _ _=>0) rfl ?_ ?_
 ·clear o2 hb
  by_cases c1:2580562586483294208≤m∧m≤6633802251116740608
  ·rw [decide_eq_true c1] at h1
   rw [decide_eq_false (HT.out c1)] at h2
   clear c1 HT
   go_wp2_with fail
   refine h1.mono ?_;rintro e w' ⟨rfl,hw'⟩;obtain rfl:=hw'.symm;clear hw' h1
   go_wp2_with fail
   refine h2.mono ?_;rintro e w' ⟨rfl,hw'⟩;obtain rfl:=hw'.symm;clear hw' h2
   go_wp2_with fail
   go_step3
   exact ⟨rfl,rfl,_,_,_,_,_,_,_,_,_,_,_,_,_,_,_,_,_,_,_,_,_,_,_,_,_,_,_,_,_,_,_,_,_,_,_,_,_,_,_,_,_,_,_,_,_,_,_,_,_,_,_,_,rfl⟩
  ·rw [decide_eq_false c1] at h1
   clear c1 HT h2
   go_wp2_with fail
   refine h1.mono ?_;rintro e w' ⟨rfl,hw'⟩;obtain rfl:=hw'.symm;clear hw' h1
   go_wp2_with fail
   go_step3
   exact ⟨rfl,rfl,_,_,_,_,_,_,_,_,_,_,_,_,_,_,_,_,_,_,_,_,_,_,_,_,_,_,_,_,_,_,_,_,_,_,_,_,_,_,_,_,_,_,_,_,_,_,_,_,_,_,_,_,rfl⟩
 ·rintro a' w' ⟨rfl,u3,u4,u5,u6,u7,u8,u9,u10,u11,u12,u13,u14,u15,u16,u17,u18,u19,u20,u21,u22,u23,u24,u25,u26,u27,u28,u29,u30,u31,u32,u33,u34,u35,u36,u37,u38,u39,u40,u41,u42,u43,u44,u45,u46,u47,u48,u49,u50,u51,u52,u53,u54,rfl⟩
  clear h1 h2 HT
  go_wp2_with fail
  refine hb.mono ?_;rintro e w8 ⟨rfl,hw'⟩;obtain rfl:=hw'.symm;clear hw' hb
  go_wp2
  try simp only [Exit.jump]
  exact bodyPost_ret (v:=.float .f64 R) (by simp [results,Tryz.results36,go_sem]) rfl ⟨rfl,Kp.refl _⟩
end Go.Proofs.YtngglmnhjjlgkaaGreatDoor
