import Derived.Test.YtaidnpjgkkdloaaGreatDoorKXS4
import Derived.Test.YtaidnpjgkkdloaaGreatDoorKXS8
set_option maxHeartbeats 1000000
set_option maxRecDepth 20000
namespace Go.Proofs.YtaidnpjgkkdloaaGreatDoor
open Go.RowKit
theorem times_ (s t:Bool) (a b:Nat) (ea eb:Int) (va vb:Value) (w:World) (ha:Ls w va (dig a)) (hb:Ls w vb (dig b)) (la:a < 9007199254740992) (lb:b < 9007199254740992) (ea1:-1074≤ea) (ea2:ea≤2048) (eb1:-1074≤eb) (eb2:eb≤2048) :
    Calls Tryz.prog 73 #[.agg #[.bool s,va,.int .i64 ea],.agg #[.bool t,vb,.int .i64 eb]] w fun e w'=>∃ v,e = .returned (.agg #[.bool (s ^^ t),v,.int .i64 (ea + eb)])∧Ls w' v (dig (a * b))∧Kp w w':=by
  obtain ⟨pa,ca,rfl,ha,hca⟩:=ha
  obtain ⟨pb,cb,rfl,hb,hcb⟩:=hb
  obtain ⟨La,hLa⟩:∃ La,La = (dig a).length:=⟨_,rfl⟩
  obtain ⟨Lb,hLb⟩:∃ Lb,Lb = (dig b).length:=⟨_,rfl⟩
  rw [← hLa,← hLb]
  obtain ⟨B,hB⟩:∃ B,B = w.heap.size:=⟨_,rfl⟩
  obtain ⟨w0,hw0⟩:∃ w0,w0 = ((w.alloc (.cells #[.bool s,.slice pa La ca,.int .i64 ea] 78)).alloc (.cells #[.bool t,.slice pb Lb cb,.int .i64 eb] 78)).alloc (.cells #[.bool false,.slice none 0 0,.int .i64 0] 78):=⟨_,rfl⟩
  have hk0:Kp w w0:=by rw [hw0];exact (((Kp.refl w).alloc _).alloc _).alloc _
  have x0:w0.cell? ⟨B,0,none⟩ = some (.bool s):=by rw [hw0,hB];simp [go_sem]
  have x1:w0.cell? ⟨B,1,none⟩ = some (.slice pa La ca):=by rw [hw0,hB];simp [go_sem]
  have x2:w0.cell? ⟨B,2,none⟩ = some (.int .i64 ea):=by rw [hw0,hB];simp [go_sem]
  have y0:w0.cell? ⟨B + 1,0,none⟩ = some (.bool t):=by rw [hw0,hB];simp [go_sem]
  have y1:w0.cell? ⟨B + 1,1,none⟩ = some (.slice pb Lb cb):=by rw [hw0,hB];simp [go_sem]
  have y2:w0.cell? ⟨B + 1,2,none⟩ = some (.int .i64 eb):=by rw [hw0,hB];simp [go_sem]
  have z0:w0.cell? ⟨B + 2,0,none⟩ = some (.bool false):=by rw [hw0,hB];simp [go_sem]
  have z1:w0.cell? ⟨B + 2,1,none⟩ = some (.slice none 0 0):=by rw [hw0,hB];simp [go_sem]
  have z2:w0.cell? ⟨B + 2,2,none⟩ = some (.int .i64 0):=by rw [hw0,hB];simp [go_sem]
  have f0:w0.frozen? ⟨B + 2,0,none⟩ = false:=by rw [hw0,hB];simp [go_sem]
  have f1:w0.frozen? ⟨B + 2,1,none⟩ = false:=by rw [hw0,hB];simp [go_sem]
  have f2:w0.frozen? ⟨B + 2,2,none⟩ = false:=by rw [hw0,hB];simp [go_sem]
  have hlt:=cell_lt z0
  have ba:blen a≤53:=by rw [blen_le_iff,show (2:Nat) ^ 53 = 9007199254740992 from by decide];exact la
  have bb:blen b≤53:=by rw [blen_le_iff,show (2:Nat) ^ 53 = 9007199254740992 from by decide];exact lb
  have la3:len32 a≤2:=dlen a 2 (by omega)
  have lb3:len32 b≤2:=dlen b 2 (by omega)
  have hab:len32 (a * b)≤16384:=dlen (a * b) 16384 (by
    have h:blen (a * b)≤53 + 53:=by
      rw [blen_le_iff,Nat.pow_add]
      exact Nat.mul_lt_mul'' ((blen_le_iff a 53).1 ba) ((blen_le_iff b 53).1 bb)
    omega)
  have q1:=nmul_ pa pb ca cb (dig a) (dig b) w0 (ha.grown hk0) (hb.grown hk0) (Wd_dig a) (Wd_dig b) (by change len32 a≤_;omega) (by change len32 b≤_;omega) hca hcb
  rw [val_dig,val_dig] at q1
  have hs:mulN a b = (dig (a * b),0):=by
    unfold mulN
    rw [if_neg (by omega),if_neg (by omega)]
  rw [hs,← hLa,← hLb] at q1
  have w1e:wrap64 (ea + eb) = ea + eb:=w64x _ (by omega) (by omega)
  have gne:∀ w:World,(binOp .neq 4 (.bool s) (.bool t)).run Tryz.prog w = .ok (.bool (s ^^ t)) w:=fun w=>by cases s <;> cases t <;> rfl
  obtain ⟨st,hst⟩:∃ st,st = (s ^^ t):=⟨_,rfl⟩
  have hst2:(s != t) = st:=by rw [hst]
  have hst3:(!decide (s = t)) = st:=by rw [hst];cases s <;> cases t <;> rfl
  have hst4:(!(s == t)) = st:=by rw [hst];cases s <;> cases t <;> rfl
  rw [← hst] at gne ⊢
  have HW:Hid (w0 = ((w.alloc (.cells #[.bool s,.slice pa La ca,.int .i64 ea] 78)).alloc (.cells #[.bool t,.slice pb Lb cb,.int .i64 eb] 78)).alloc (.cells #[.bool false,.slice none 0 0,.int .i64 0] 78)∧B = w.heap.size∧Kp w w0):=⟨hw0,hB,hk0⟩
  clear hst ha hca hb hcb la lb hLa hLb hw0 hB hk0 ba bb la3 lb3 hab hs
  go_enter Tryz.func73,Tryz.ntmps73
  go_wp2_with fail
  rw [← HW.out.2.1]
  try rw [← HW.out.1]
  refine q1.mono ?_;rintro e w1 ⟨v,rfl,ho,k1⟩
  obtain ⟨pv,cv,rfl,hav,hcv⟩:=ho.arr
  obtain ⟨LV,hLV⟩:∃ LV,LV = (dig (a * b)).length:=⟨_,rfl⟩
  rw [← hLV]
  replace x0:=kkeep k1 x0
  replace x1:=kkeep k1 x1
  replace x2:=kkeep k1 x2
  replace y0:=kkeep k1 y0
  replace y1:=kkeep k1 y1
  replace y2:=kkeep k1 y2
  replace z0:=kkeep k1 z0
  replace z1:=kkeep k1 z1
  replace z2:=kkeep k1 z2
  replace f0:=(kfro k1 hlt).trans f0
  replace f1:=(kfro k1 hlt).trans f1
  replace f2:=(kfro k1 hlt).trans f2
  have HO:Hid (Own w1 w0.heap.size (.slice pv (dig (a * b)).length cv) (dig (a * b))∧LV = (dig (a * b)).length∧Kp w0 w1∧B + 2 < w0.heap.size):=⟨ho,hLV,k1,hlt⟩
  clear q1 ho hav hcv k1 hLV
  go_wp2
  obtain ⟨ho,hL,k01,hBl⟩:=HO.out
  have kb:Kb (B + 2) w1 (((w1.setCell ⟨B + 2,0,none⟩ (.bool st)).setCell ⟨B + 2,1,none⟩ (.slice pv LV cv)).setCell ⟨B + 2,2,none⟩ (.int .i64 (ea + eb))):=(((Kb.refl (B + 2) w1).setCell 0 _).setCell 1 _).setCell 2 _
  have ho2:=ho.kb kb (fun g hg=>by have:=ho.lt g hg;omega)
  have hls:=ho2.ls
  rw [← hL] at hls
  have hkw:Kp w (((w1.setCell ⟨B + 2,0,none⟩ (.bool st)).setCell ⟨B + 2,1,none⟩ (.slice pv LV cv)).setCell ⟨B + 2,2,none⟩ (.int .i64 (ea + eb))):=kb.kp (HW.out.2.2.trans k01) (by rw [HW.out.2.1];omega)
  exact bodyPost_ret (v:=.agg #[.bool st,.slice pv LV cv,.int .i64 (ea + eb)]) (by simp [results,Tryz.results73,go_sem,z0,z1,z2]) rfl ⟨_,rfl,hls,hkw⟩
theorem nanD9 (n:Bool) (m:Nat) (h1:9218868437227405312 < m) (h2:m < 9223372036854775808):Ieee.double.read (Fq.wD n m) = .nan n (m - 9218868437227405312):=by
  rw [Fq.read_nan Ieee.double _ Fq.binfD (by rw [Fq.rgD n m h2,Fq.infD];exact h1),Fq.rgD n m h2,Fq.ngD n m h2,Fq.infD]
theorem infD9 (n:Bool):Ieee.double.read (Fq.wD n 9218868437227405312) = .infinity n:=by
  rw [Fq.read_inf Ieee.double _ Fq.binfD (by rw [Fq.rgD n 9218868437227405312 (by decide),Fq.infD]),Fq.ngD n 9218868437227405312 (by decide)]
theorem finD9 (n:Bool) (m:Nat) (h:m < 9218868437227405312):∃ a e,Ieee.double.read (Fq.wD n m) = .number n a e∧(a = 0 ↔ m = 0):=by
  rw [Fq.read_fin _ _ (by rw [Fq.rgD n m (by omega),Fq.infD];exact h),Fq.ngD n m (by omega),Fq.rgD n m (by omega)]
  refine ⟨_,_,rfl, ?_⟩
  unfold Fq.mM
  rw [Fq.binD]
  split <;> omega
theorem wrI9 (s:Bool):Ieee.double.write (.infinity s) = Fq.wD s 9218868437227405312:=by unfold Ieee.Format.write Ieee.Format.word Fq.wD;rw [Fq.signD,Fq.infD]
def badP (m m':Nat):Prop:=9218868437227405312 < m∨9218868437227405312 < m'∨(m = 9218868437227405312∧m' = 0)∨(m = 0∧m' = 9218868437227405312)
theorem mul_bad (n n':Bool) (m m':Nat) (hm:m < 9223372036854775808) (hm':m' < 9223372036854775808) (h:badP m m'):FloatKind.f64.format.mul (Fq.wD n m) (Fq.wD n' m') = none:=by
  show Ieee.double.mul _ _ = none
  unfold Ieee.Format.mul
  by_cases c1:9218868437227405312 < m
  · rw [nanD9 n m c1 hm];rfl
  · by_cases c2:9218868437227405312 < m'
    · rw [nanD9 n' m' c2 hm']
      by_cases c3:m = 9218868437227405312
      · rw [c3,infD9];rfl
      · obtain ⟨a,e,he,_⟩:=finD9 n m (by omega)
        rw [he];rfl
    · rcases (h.resolve_left c1).resolve_left c2 with ⟨e1,e2⟩ | ⟨e1,e2⟩
      · obtain ⟨a,e,he,hz⟩:=finD9 n' m' (by omega)
        rw [e1,infD9,he]
        unfold Ieee.Datum.product
        simp only
        rw [if_pos (hz.2 e2)];rfl
      · obtain ⟨a,e,he,hz⟩:=finD9 n m (by omega)
        rw [e2,infD9,he]
        unfold Ieee.Datum.product
        simp only
        rw [if_pos (hz.2 e1)];rfl
theorem mul_inf (n n':Bool) (m m':Nat) (h:¬ badP m m') (hi:¬ (m < 9218868437227405312∧m' < 9218868437227405312)):FloatKind.f64.format.mul (Fq.wD n m) (Fq.wD n' m') = some (Fq.wD (n ^^ n') 9218868437227405312):=by
  unfold badP at h
  show Ieee.double.mul _ _ = _
  unfold Ieee.Format.mul
  by_cases c1:m = 9218868437227405312
  · rw [c1,infD9]
    by_cases c2:m' = 9218868437227405312
    · rw [c2,infD9]
      exact congrArg some (wrI9 _)
    · obtain ⟨a,e,he,hz⟩:=finD9 n' m' (by omega)
      rw [he]
      unfold Ieee.Datum.product
      simp only
      rw [if_neg (fun h0=>h (Or.inr (Or.inr (Or.inl ⟨c1,hz.1 h0⟩))))]
      exact congrArg some (wrI9 _)
  · have c2:m' = 9218868437227405312:=by omega
    obtain ⟨a,e,he,hz⟩:=finD9 n m (by omega)
    rw [c2,infD9,he]
    unfold Ieee.Datum.product
    simp only
    rw [if_neg (fun h0=>h (Or.inr (Or.inr (Or.inr ⟨hz.1 h0,c2⟩)))),show (n ^^ n') = (n' ^^ n) from by cases n <;> cases n' <;> rfl]
    exact congrArg some (wrI9 _)
theorem rU_zero9:rU 0 53 0 1 = 0:=by
  have h:=rV_zero9 0 0
  unfold rV at h
  simpa using h
theorem mul_zero (n n':Bool) (m m':Nat) (hm:m < 9218868437227405312) (hm':m' < 9218868437227405312) (h:m = 0∨m' = 0):FloatKind.f64.format.mul (Fq.wD n m) (Fq.wD n' m') = some (Fq.wD (n ^^ n') 0):=by
  obtain ⟨K,hK⟩:∃ K:Nat,K = 1074:=⟨_,rfl⟩
  have hz:Iv n m * Iv n' m' = 0:=by
    have e:∀ b:Bool,Iv b 0 = 0:=fun b=>by
      have:=iv_abs b 0
      rw [(vV_zero 0).2 rfl] at this
      omega
    rcases h with h | h
    · rw [h,e,Int.zero_mul]
    · rw [h,e,Int.mul_zero]
  rw [mul_v n n' m m' hm hm' K 0 hK (by rw [hz,Int.zero_mul]),if_pos rfl,show (0:Int).natAbs = 0 from rfl,rU_zero9]
  unfold finU
  rw [blen_zero,if_pos (by decide),rgU_zero]
theorem nan_cut9 (t:Nat):9218868437227405312 < (t % 2 * 2 ^ 63 + 0x7ff0000000000000 + 1 + t / 2 % (2 ^ 52 - 1)) % 9223372036854775808∧t % 2 * 2 ^ 63 + 0x7ff0000000000000 + 1 + t / 2 % (2 ^ 52 - 1) < 18446744073709551616:=by
  rw [show (2:Nat) ^ 63 = 9223372036854775808 from by decide,show (2:Nat) ^ 52 - 1 = 4503599627370495 from by decide]
  have h1:t % 2 = 0∨t % 2 = 1:=by omega
  have h2:t / 2 % 4503599627370495 < 4503599627370495:=Nat.mod_lt _ (by decide)
  generalize t / 2 % 4503599627370495 = b at *
  rcases h1 with h | h <;> rw [h] <;> omega
theorem word_of (R:Nat) (h:R < 18446744073709551616):∃ n m,m = R % 9223372036854775808∧R = Fq.wD n m:=by
  by_cases c:9223372036854775808≤R
  · exact ⟨true,R % 9223372036854775808,rfl,by unfold Fq.wD;rw [if_pos rfl];omega⟩
  · exact ⟨false,R % 9223372036854775808,rfl,by unfold Fq.wD;simp;omega⟩
theorem run_nan_mul (X Y:Nat) (h:FloatKind.f64.format.mul X Y = none) (w:World):∃ r,9218868437227405312 < r % 9223372036854775808∧r < 18446744073709551616∧(binOp .mul 30 (.float .f64 X) (.float .f64 Y)).run Tryz.prog w = .ok (.float .f64 r) w.drew:=by
  refine ⟨Question.cut (.nanBits .f64 X Y) _, ?_, ?_,by simp [binOp,Op.floatArith,h];rfl⟩
  · simp only [Question.cut];exact (nan_cut9 _).1
  · simp only [Question.cut];exact (nan_cut9 _).2
theorem pmulQ_ (d:Int) (n n':Bool) (m m':Nat) (c1:2580562586483294208≤m∧m≤6633802251116740608) (c2:2580562586483294208≤m'∧m'≤6633802251116740608) (w:World) :
    Calls Tryz.prog 40 #[.int .i64 d,.float .f64 (Fq.wD n m),.float .f64 (Fq.wD n' m')] w fun e w'=>e = .returned (.float .f64 (mulW d (n ^^ n') (Fq.vV Ieee.double m * Fq.vV Ieee.double m')))∧Kp w w':=by
  have h1:=mild_ n m (by omega) w
  have h2:=mild_ n' m' (by omega) w
  rw [decide_eq_true c1] at h1
  rw [decide_eq_true c2] at h2
  obtain ⟨L,hL⟩:∃ L:Nat,L = 1074:=⟨_,rfl⟩
  obtain ⟨e,e1,e2,u1,v1,v2⟩:=mild_unit n m c1.1 c1.2
  obtain ⟨e',e3,e4,u2,v3,v4⟩:=mild_unit n' m' c2.1 c2.2
  obtain ⟨V,s,o,r,ro,K,zV,h3,r0,r8,q0,q1,hex,K1,K2,kV⟩:=twoProduct_ n n' m m' e e' (by omega) (by omega) (by omega) (by omega) (by omega) (by omega) u1 v1 v2 u2 v3 v4 L hL
  have h4:=stepped_ d V s o (n ^^ n') r ro K K1 K2 kV r0 r8 q0 q1 hex
  rw [sum_mul d V (n ^^ n') _ L hL (abs_v n n' m m' L V zV) (sgn_v n n' m m' L V zV)] at h4
  obtain ⟨X,hX⟩:∃ X,X = Fq.wD n m:=⟨_,rfl⟩
  obtain ⟨Y,hY⟩:∃ Y,Y = Fq.wD n' m':=⟨_,rfl⟩
  obtain ⟨Z,hZ⟩:∃ Z,Z = mulW d (n ^^ n') (Fq.vV Ieee.double m * Fq.vV Ieee.double m'):=⟨_,rfl⟩
  obtain ⟨N,hN⟩:∃ N,N = Fq.wD s r:=⟨_,rfl⟩
  obtain ⟨O,hO⟩:∃ O,O = Fq.wD o ro:=⟨_,rfl⟩
  rw [← hX] at h1
  rw [← hY] at h2
  rw [← hX,← hY,← hN,← hO] at h3
  rw [← hN,← hO,← hZ] at h4
  rw [← hX,← hY,← hZ]
  clear hX hY hZ hN hO c1 c2 u1 v1 v2 u2 v3 v4 zV r0 r8 q0 q1 hex K1 K2 kV hL e1 e2 e3 e4
  go_enter Tryz.func40,Tryz.ntmps40
  go_wp2
  refine wp_scope_straight ?_
  go_wp2_with fail
  refine h1.mono ?_;rintro e w' ⟨rfl,hw'⟩;obtain rfl:=hw'.symm;clear hw' h1
  go_wp2_with fail
  refine h2.mono ?_;rintro e w' ⟨rfl,hw'⟩;obtain rfl:=hw'.symm;clear hw' h2
  have h5:=h3 w
  clear h3
  go_wp2_with fail
  refine h5.mono ?_;rintro e w' ⟨rfl,hw'⟩;obtain rfl:=hw'.symm;clear hw' h5
  have h6:=h4 w
  clear h4
  go_wp2_with fail
  refine h6.mono ?_;rintro e w1 ⟨rfl,k1⟩
  clear h6
  go_wp2
  try rw [Exit.noGoto_ret]
  exact bodyPost_ret (v:=.float .f64 Z) (by simp [results,Tryz.results40,go_sem]) rfl ⟨rfl,k1⟩
theorem pmulE_ (d:Int) (n n':Bool) (m m':Nat) (hm:m < 9218868437227405312) (hm':m' < 9218868437227405312) (z:m≠0) (z':m'≠0) (ct:¬ ((2580562586483294208≤m∧m≤6633802251116740608)∧(2580562586483294208≤m'∧m'≤6633802251116740608))) (w:World) (hT:Tab w) (hQ:Fq.Tab w) (hd1:-9223372036854775808≤d) (hd2:d < 9223372036854775808) :
    Calls Tryz.prog 40 #[.int .i64 d,.float .f64 (Fq.wD n m),.float .f64 (Fq.wD n' m')] w fun e w'=>e = .returned (.float .f64 (mulW d (n ^^ n') (Fq.vV Ieee.double m * Fq.vV Ieee.double m')))∧Kp w w':=by
  have h1:=mild_ n m (by omega) w
  have h2:=mild_ n' m' (by omega) w
  have g1:=finite_ n m (by omega) w
  have g2:=finite_ n' m' (by omega) w
  rw [decide_eq_true hm] at g1
  rw [decide_eq_true hm'] at g2
  have o1:=Fq.eqzD n m (by omega)
  have o2:=Fq.eqzD n' m' (by omega)
  rw [show (m == 0) = false from by simp [z]] at o1
  rw [show (m' == 0) = false from by simp [z']] at o2
  obtain ⟨X,hX⟩:∃ X,X = Fq.wD n m:=⟨_,rfl⟩
  obtain ⟨Y,hY⟩:∃ Y,Y = Fq.wD n' m':=⟨_,rfl⟩
  obtain ⟨Z,hZ⟩:∃ Z,Z = mulW d (n ^^ n') (Fq.vV Ieee.double m * Fq.vV Ieee.double m'):=⟨_,rfl⟩
  obtain ⟨a,ea,a1,a2,a3,a4,ta⟩:=take_ n m hm
  obtain ⟨b,eb,b1,b2,b3,b4,tb⟩:=take_ n' m' hm'
  rw [show (n && !(m == 0)) = n from by simp [z]] at ta
  rw [show (n' && !(m' == 0)) = n' from by simp [z']] at tb
  have hab:blen (a * b)≤106:=by
    have h:blen (a * b)≤53 + 53:=by
      rw [blen_le_iff,Nat.pow_add]
      exact Nat.mul_lt_mul'' (by rw [show (2:Nat) ^ 53 = 9007199254740992 from by decide];exact a4) (by rw [show (2:Nat) ^ 53 = 9007199254740992 from by decide];exact b4)
    omega
  have hom:ofW d (n ^^ n') (a * b) (ea + eb) = Z:=by
    rw [hZ]
    refine of_mul d (n ^^ n') (a * b) (ea + eb) _ (by omega) (by omega) (by omega) ?_
    rw [← a1,← b1,show (ea + eb + 2148).toNat = (ea + 1074).toNat + (eb + 1074).toNat from by omega,Nat.pow_add]
    simp only [Nat.mul_assoc,Nat.mul_left_comm]
  have hr:∀ (v:Value) (w1:World),Kp w w1→Ls w1 v (dig (a * b))→Calls Tryz.prog 65 #[.agg #[.bool (n ^^ n'),v,.int .i64 (ea + eb)],.int .i64 d] w1 fun e w'=>e = .returned (.float .f64 Z)∧Kp w1 w':=fun v w1 k1 l1=>by
    rw [← hom];exact rounded_ d (n ^^ n') (a * b) (ea + eb) v w1 l1 (hT.grown k1) (Fq.Tab.grown hQ k1) hd1 hd2 (dlen (a * b) 16384 (by omega))
  have hp:=fun va vb w1 la lb=>times_ n n' a b ea eb va vb w1 la lb a4 b4 a2 a3 b2 b3
  rw [← hX] at h1 g1 ta o1
  rw [← hY] at h2 g2 tb o2
  rw [← hX,← hY,← hZ]
  have ta1:=ta w hQ
  have tb1:=fun w1 (k:Kp w w1)=>tb w1 (Fq.Tab.grown hQ k)
  obtain ⟨ee,hee⟩:∃ ee,ee = ea + eb:=⟨_,rfl⟩
  obtain ⟨ns,hns⟩:∃ ns,ns = (n ^^ n'):=⟨_,rfl⟩
  rw [← hee,← hns] at hr
  simp only [← hee,← hns] at hp
  have HT:Hid (2580562586483294208≤m∧m≤6633802251116740608→¬ (2580562586483294208≤m'∧m'≤6633802251116740608)):=fun h h'=>ct ⟨h,h'⟩
  clear hX hY hZ hom hab a1 a2 a3 a4 b1 b2 b3 b4 ta tb hT hQ hd1 hd2 ct hm hm' z z' hee hns
  go_enter Tryz.func40,Tryz.ntmps40
  go_wp2
  refine wp_scope_jumps 0 (fun a' w'=>w' = w∧∃ u3 u4 u5 u6 u7 u8 u9 u10 u11 u12 u13 u14 u15 u16 u17 u18 u19 u20 u21 u22 u23 u24 u25 u26 u27 u28 u29 u30 u31 u32 u33 u34 u35 u36 u37 u38 u39 u40 u41 u42 u43 u44 u45 u46 u47 u48 u49 u50 u51 u52 u53:Value,a' = ⟨#[.int .i64 d,.float .f64 X,.float .f64 Y,u3,u4,u5,u6,u7,u8,u9,u10,u11,u12,u13,u14,u15,u16,u17,u18,u19,u20,u21,u22,u23,u24,u25,u26,u27,u28,u29,u30,u31,u32,u33,u34,u35,u36,u37,u38,u39,u40,u41,u42,u43,u44,u45,u46,u47,u48,u49,u50,u51,u52,u53],[]⟩) (fun _ _=>0) rfl ?_ ?_
  · clear g1 g2 ta1 tb1 hp hr o1 o2
    by_cases c1:2580562586483294208≤m∧m≤6633802251116740608
    · rw [decide_eq_true c1] at h1
      rw [decide_eq_false (HT.out c1)] at h2
      clear c1 HT
      go_wp2_with fail
      refine h1.mono ?_;rintro e w' ⟨rfl,hw'⟩;obtain rfl:=hw'.symm;clear hw' h1
      go_wp2_with fail
      refine h2.mono ?_;rintro e w' ⟨rfl,hw'⟩;obtain rfl:=hw'.symm;clear hw' h2
      go_wp2_with fail
      go_step3
      exact ⟨rfl,rfl,_,_,_,_,_,_,_,_,_,_,_,_,_,_,_,_,_,_,_,_,_,_,_,_,_,_,_,_,_,_,_,_,_,_,_,_,_,_,_,_,_,_,_,_,_,_,_,_,_,_,_,rfl⟩
    · rw [decide_eq_false c1] at h1
      clear c1 HT h2
      go_wp2_with fail
      refine h1.mono ?_;rintro e w' ⟨rfl,hw'⟩;obtain rfl:=hw'.symm;clear hw' h1
      go_wp2_with fail
      go_step3
      exact ⟨rfl,rfl,_,_,_,_,_,_,_,_,_,_,_,_,_,_,_,_,_,_,_,_,_,_,_,_,_,_,_,_,_,_,_,_,_,_,_,_,_,_,_,_,_,_,_,_,_,_,_,_,_,_,_,rfl⟩
  · rintro a' w' ⟨rfl,u3,u4,u5,u6,u7,u8,u9,u10,u11,u12,u13,u14,u15,u16,u17,u18,u19,u20,u21,u22,u23,u24,u25,u26,u27,u28,u29,u30,u31,u32,u33,u34,u35,u36,u37,u38,u39,u40,u41,u42,u43,u44,u45,u46,u47,u48,u49,u50,u51,u52,u53,rfl⟩
    clear h1 h2 HT
    go_wp2_with fail
    refine g1.mono ?_;rintro e w9 ⟨rfl,hw'⟩;obtain rfl:=hw'.symm;clear hw' g1
    go_wp2_with fail
    refine g2.mono ?_;rintro e w9 ⟨rfl,hw'⟩;obtain rfl:=hw'.symm;clear hw' g2
    go_wp2_with fail
    refine ta1.mono ?_;rintro e w1 ⟨va,rfl,lva,k1⟩
    have tb2:=tb1 w1 k1
    clear ta1 tb1
    go_wp2_with fail
    refine tb2.mono ?_;rintro e w2 ⟨vb,rfl,lvb,k2⟩
    have hp2:=hp va vb w2 (lva.kp k2) lvb
    have k02:=k1.trans k2
    clear tb2 hp lva lvb k1 k2
    go_wp2_with fail
    refine hp2.mono ?_;rintro e w3 ⟨v,rfl,lv,k3⟩
    have k03:=k02.trans k3
    have hr2:=hr v w3 k03 lv
    clear hp2 hr k02 k3 lv
    go_wp2_with fail
    refine hr2.mono ?_;rintro e w4 ⟨rfl,k4⟩
    have k04:=k03.trans k4
    clear hr2 k03 k4
    go_wp2
    try simp only [Exit.jump]
    exact bodyPost_ret (v:=.float .f64 Z) (by simp [results,Tryz.results40,go_sem]) rfl ⟨rfl,k04⟩
theorem pmulP_ (d:Int) (n n':Bool) (m m':Nat) (hm:m < 9223372036854775808) (hm':m' < 9223372036854775808) (hi:¬ (m < 9218868437227405312∧m' < 9218868437227405312∧m≠0∧m'≠0)) (w w9:World) (RR R2:Nat) (hrun:(binOp .mul 30 (.float .f64 (Fq.wD n m)) (.float .f64 (Fq.wD n' m'))).run Tryz.prog w = .ok (.float .f64 RR) w9) (hk:Kp w w9) (hpl:Calls Tryz.prog 72 #[.float .f64 RR] w9 fun e w'=>e = .returned (.float .f64 R2)∧w' = w9) :
    Calls Tryz.prog 40 #[.int .i64 d,.float .f64 (Fq.wD n m),.float .f64 (Fq.wD n' m')] w fun e w'=>e = .returned (.float .f64 R2)∧Kp w w':=by
  have h1:=mild_ n m hm w
  have h2:=mild_ n' m' hm' w
  have g1:=finite_ n m hm w
  have g2:=finite_ n' m' hm' w
  have o1:=Fq.eqzD n m hm
  have o2:=Fq.eqzD n' m' hm'
  obtain ⟨X,hX⟩:∃ X,X = Fq.wD n m:=⟨_,rfl⟩
  obtain ⟨Y,hY⟩:∃ Y,Y = Fq.wD n' m':=⟨_,rfl⟩
  rw [← hX] at h1 g1 o1
  rw [← hY] at h2 g2 o2
  rw [← hX,← hY] at hrun
  rw [← hX,← hY]
  have HT:Hid (2580562586483294208≤m∧m≤6633802251116740608→¬ (2580562586483294208≤m'∧m'≤6633802251116740608)):=fun h h'=>hi ⟨by omega,by omega,by omega,by omega⟩
  have HI:Hid (¬ (m < 9218868437227405312∧m' < 9218868437227405312∧m≠0∧m'≠0)):=hi
  clear hX hY hi hm hm'
  go_enter Tryz.func40,Tryz.ntmps40
  go_wp2
  refine wp_scope_jumps 0 (fun a' w'=>w' = w∧∃ u3 u4 u5 u6 u7 u8 u9 u10 u11 u12 u13 u14 u15 u16 u17 u18 u19 u20 u21 u22 u23 u24 u25 u26 u27 u28 u29 u30 u31 u32 u33 u34 u35 u36 u37 u38 u39 u40 u41 u42 u43 u44 u45 u46 u47 u48 u49 u50 u51 u52 u53:Value,a' = ⟨#[.int .i64 d,.float .f64 X,.float .f64 Y,u3,u4,u5,u6,u7,u8,u9,u10,u11,u12,u13,u14,u15,u16,u17,u18,u19,u20,u21,u22,u23,u24,u25,u26,u27,u28,u29,u30,u31,u32,u33,u34,u35,u36,u37,u38,u39,u40,u41,u42,u43,u44,u45,u46,u47,u48,u49,u50,u51,u52,u53],[]⟩) (fun _ _=>0) rfl ?_ ?_
  · clear g1 g2 o1 o2 hrun hpl HI
    by_cases c1:2580562586483294208≤m∧m≤6633802251116740608
    · rw [decide_eq_true c1] at h1
      rw [decide_eq_false (HT.out c1)] at h2
      clear c1 HT
      go_wp2_with fail
      refine h1.mono ?_;rintro e w' ⟨rfl,hw'⟩;obtain rfl:=hw'.symm;clear hw' h1
      go_wp2_with fail
      refine h2.mono ?_;rintro e w' ⟨rfl,hw'⟩;obtain rfl:=hw'.symm;clear hw' h2
      go_wp2_with fail
      go_step3
      exact ⟨rfl,rfl,_,_,_,_,_,_,_,_,_,_,_,_,_,_,_,_,_,_,_,_,_,_,_,_,_,_,_,_,_,_,_,_,_,_,_,_,_,_,_,_,_,_,_,_,_,_,_,_,_,_,_,rfl⟩
    · rw [decide_eq_false c1] at h1
      clear c1 HT h2
      go_wp2_with fail
      refine h1.mono ?_;rintro e w' ⟨rfl,hw'⟩;obtain rfl:=hw'.symm;clear hw' h1
      go_wp2_with fail
      go_step3
      exact ⟨rfl,rfl,_,_,_,_,_,_,_,_,_,_,_,_,_,_,_,_,_,_,_,_,_,_,_,_,_,_,_,_,_,_,_,_,_,_,_,_,_,_,_,_,_,_,_,_,_,_,_,_,_,_,_,rfl⟩
  · rintro a' w' ⟨rfl,u3,u4,u5,u6,u7,u8,u9,u10,u11,u12,u13,u14,u15,u16,u17,u18,u19,u20,u21,u22,u23,u24,u25,u26,u27,u28,u29,u30,u31,u32,u33,u34,u35,u36,u37,u38,u39,u40,u41,u42,u43,u44,u45,u46,u47,u48,u49,u50,u51,u52,u53,rfl⟩
    clear h1 h2 HT
    by_cases c1:m < 9218868437227405312
    · rw [decide_eq_true c1] at g1
      by_cases c2:m' < 9218868437227405312
      · rw [decide_eq_true c2] at g2
        by_cases c3:m = 0
        · rw [show (m == 0) = true from by simp [c3]] at o1
          clear c1 c2 c3 HI o2
          go_wp2_with fail
          refine g1.mono ?_;rintro e w8 ⟨rfl,hw'⟩;obtain rfl:=hw'.symm;clear hw' g1
          go_wp2_with fail
          refine g2.mono ?_;rintro e w8 ⟨rfl,hw'⟩;obtain rfl:=hw'.symm;clear hw' g2
          go_wp2_with fail
          refine hpl.mono ?_;rintro e w8 ⟨rfl,hw'⟩;obtain rfl:=hw'.symm;clear hw' hpl
          go_wp2
          try simp only [Exit.jump]
          exact bodyPost_ret (v:=.float .f64 R2) (by simp [results,Tryz.results40,go_sem]) rfl ⟨rfl,hk⟩
        · have c4:m' = 0:=by have:=HI.out;omega
          rw [show (m == 0) = false from by simp [c3]] at o1
          rw [show (m' == 0) = true from by simp [c4]] at o2
          clear c1 c2 c3 c4 HI
          go_wp2_with fail
          refine g1.mono ?_;rintro e w8 ⟨rfl,hw'⟩;obtain rfl:=hw'.symm;clear hw' g1
          go_wp2_with fail
          refine g2.mono ?_;rintro e w8 ⟨rfl,hw'⟩;obtain rfl:=hw'.symm;clear hw' g2
          go_wp2_with fail
          refine hpl.mono ?_;rintro e w8 ⟨rfl,hw'⟩;obtain rfl:=hw'.symm;clear hw' hpl
          go_wp2
          try simp only [Exit.jump]
          exact bodyPost_ret (v:=.float .f64 R2) (by simp [results,Tryz.results40,go_sem]) rfl ⟨rfl,hk⟩
      · rw [decide_eq_false c2] at g2
        clear c1 c2 HI o1 o2
        go_wp2_with fail
        refine g1.mono ?_;rintro e w8 ⟨rfl,hw'⟩;obtain rfl:=hw'.symm;clear hw' g1
        go_wp2_with fail
        refine g2.mono ?_;rintro e w8 ⟨rfl,hw'⟩;obtain rfl:=hw'.symm;clear hw' g2
        go_wp2_with fail
        refine hpl.mono ?_;rintro e w8 ⟨rfl,hw'⟩;obtain rfl:=hw'.symm;clear hw' hpl
        go_wp2
        try simp only [Exit.jump]
        exact bodyPost_ret (v:=.float .f64 R2) (by simp [results,Tryz.results40,go_sem]) rfl ⟨rfl,hk⟩
    · rw [decide_eq_false c1] at g1
      clear c1 HI o1 o2 g2
      go_wp2_with fail
      refine g1.mono ?_;rintro e w8 ⟨rfl,hw'⟩;obtain rfl:=hw'.symm;clear hw' g1
      go_wp2_with fail
      refine hpl.mono ?_;rintro e w8 ⟨rfl,hw'⟩;obtain rfl:=hw'.symm;clear hw' hpl
      go_wp2
      try simp only [Exit.jump]
      exact bodyPost_ret (v:=.float .f64 R2) (by simp [results,Tryz.results40,go_sem]) rfl ⟨rfl,hk⟩
end Go.Proofs.YtaidnpjgkkdloaaGreatDoor
