import Derived.Test.YtcfnialfpblfmaaGreatDoorKYA
set_option maxHeartbeats 1000000
set_option maxRecDepth 20000
namespace Go.Proofs.YtcfnialfpblfmaaGreatDoor
open Go.RowKit
theorem pdivQ_ (d:Int) (n n':Bool) (m m':Nat) (c1:2580562586483294208≤m∧m≤6633802251116740608) (c2:2580562586483294208≤m'∧m'≤6633802251116740608) (w:World) :
    Calls Tryz.prog 122 #[.int .i64 d,.float .f64 (Fq.wD n m),.float .f64 (Fq.wD n' m')] w fun e w'=>e = .returned (.float .f64 (divW d (n ^^ n') (Fq.vV Ieee.double m) (Fq.vV Ieee.double m')))∧Kp w w':=by
  have h1:=mild_ n m (by omega) w
  have h2:=mild_ n' m' (by omega) w
  rw [decide_eq_true c1] at h1
  rw [decide_eq_true c2] at h2
  obtain ⟨V,s,o,r,ro,K,h3,r0,r8,q0,q1,g1,g2,K1,K2,kV,hsum⟩:=twoQuotient_ n n' m m' c1 c2
  have h4:=steppedG_ d V s o (n ^^ n') r ro K K1 K2 kV r0 r8 q0 q1 g1 g2
  rw [hsum d] at h4
  obtain ⟨X,hX⟩:∃ X,X = Fq.wD n m:=⟨_,rfl⟩
  obtain ⟨Y,hY⟩:∃ Y,Y = Fq.wD n' m':=⟨_,rfl⟩
  obtain ⟨Z,hZ⟩:∃ Z,Z = divW d (n ^^ n') (Fq.vV Ieee.double m) (Fq.vV Ieee.double m'):=⟨_,rfl⟩
  obtain ⟨N,hN⟩:∃ N,N = Fq.wD s r:=⟨_,rfl⟩
  obtain ⟨O,hO⟩:∃ O,O = Fq.wD o ro:=⟨_,rfl⟩
  rw [← hX] at h1
  rw [← hY] at h2
  rw [← hX,← hY,← hN,← hO] at h3
  rw [← hN,← hO,← hZ] at h4
  rw [← hX,← hY,← hZ]
  clear hX hY hZ hN hO c1 c2 r0 r8 q0 q1 g1 g2 K1 K2 kV hsum
  go_enter Tryz.func122,Tryz.ntmps122
  go_wp2
  refine wp_scope_straight ?_
  go_wp2_with fail
  refine h1.mono ?_;rintro e w' ⟨rfl,hw'⟩;obtain rfl:=hw'.symm;clear hw' h1
  go_wp2_with fail
  refine h2.mono ?_;rintro e w' ⟨rfl,hw'⟩;obtain rfl:=hw'.symm;clear hw' h2
  have h5:=h3 w
  clear h3
  go_wp2_with fail
  refine h5.mono ?_;rintro e w' ⟨rfl,hw'⟩;obtain rfl:=hw'.symm;clear hw' h5
  have h6:=h4 w
  clear h4
  go_wp2_with fail
  refine h6.mono ?_;rintro e w1 ⟨rfl,k1⟩
  clear h6
  go_wp2
  try rw [Exit.noGoto_ret]
  exact bodyPost_ret (v:=.float .f64 Z) (by simp [results,Tryz.results122,go_sem]) rfl ⟨rfl,k1⟩
theorem pdivE_ (d:Int) (n n':Bool) (m m':Nat) (hm:m < 9218868437227405312) (hm':m' < 9218868437227405312) (z:m≠0) (z':m'≠0) (ct:¬ ((2580562586483294208≤m∧m≤6633802251116740608)∧(2580562586483294208≤m'∧m'≤6633802251116740608))) (w:World) (hQ:Fq.Tab w) (hd1:-9223372036854775808≤d) (hd2:d < 9223372036854775808) :
    Calls Tryz.prog 122 #[.int .i64 d,.float .f64 (Fq.wD n m),.float .f64 (Fq.wD n' m')] w fun e w'=>e = .returned (.float .f64 (divW d (n ^^ n') (Fq.vV Ieee.double m) (Fq.vV Ieee.double m')))∧Kp w w':=by
  have h1:=mild_ n m (by omega) w
  have h2:=mild_ n' m' (by omega) w
  have g1:=finite_ n m (by omega) w
  have g2:=finite_ n' m' (by omega) w
  rw [decide_eq_true hm] at g1
  rw [decide_eq_true hm'] at g2
  have o1:=Fq.eqzD n m (by omega)
  have o2:=Fq.eqzD n' m' (by omega)
  rw [show (m == 0) = false from by simp [z]] at o1
  rw [show (m' == 0) = false from by simp [z']] at o2
  obtain ⟨X,hX⟩:∃ X,X = Fq.wD n m:=⟨_,rfl⟩
  obtain ⟨Y,hY⟩:∃ Y,Y = Fq.wD n' m':=⟨_,rfl⟩
  obtain ⟨Z,hZ⟩:∃ Z,Z = divW d (n ^^ n') (Fq.vV Ieee.double m) (Fq.vV Ieee.double m'):=⟨_,rfl⟩
  obtain ⟨a,ea,a1,a2,a3,a4,ta⟩:=take_ n m hm
  obtain ⟨b,eb,b1,b2,b3,b4,tb⟩:=take_ n' m' hm'
  rw [show (n && !(m == 0)) = n from by simp [z]] at ta
  rw [show (n' && !(m' == 0)) = n' from by simp [z']] at tb
  have la:len32 a≤16384:=dlen a 16384 (by
    have:blen a≤53:=by rw [blen_le_iff,show (2:Nat) ^ 53 = 9007199254740992 from by decide];exact a4
    omega)
  have lb:len32 b≤16384:=dlen b 16384 (by
    have:blen b≤53:=by rw [blen_le_iff,show (2:Nat) ^ 53 = 9007199254740992 from by decide];exact b4
    omega)
  have za:a≠0:=fun h=>by rw [h,Nat.zero_mul] at a1;exact z ((vV_zero m).1 a1.symm)
  have zb:b≠0:=fun h=>by rw [h,Nat.zero_mul] at b1;exact z' ((vV_zero m').1 b1.symm)
  have hom:ratW d (n ^^ n') a b (ea - eb) = Z:=by
    rw [hZ,← a1,← b1]
    exact rat_div d (n ^^ n') a b _ _ ea eb za zb la lb (by omega) (by omega)
  have hp:∀ (va vb:Value) (w1:World),Kp w w1→Ls w1 va (dig a)→Ls w1 vb (dig b)→Calls Tryz.prog 149 #[.agg #[.bool n,va,.int .i64 ea],.int .i64 d,.agg #[.bool n',vb,.int .i64 eb]] w1 fun e w'=>e = .returned (.float .f64 Z)∧Kp w1 w':=fun va vb w1 k l1 l2=>by
    rw [← hom];exact by_ d n n' a b ea eb va vb w1 (Fq.Tab.grown hQ k) hd1 hd2 l1 l2 la lb a2 a3 b2 b3
  rw [← hX] at h1 g1 ta o1
  rw [← hY] at h2 g2 tb o2
  rw [← hX,← hY,← hZ]
  have ta1:=ta w hQ
  have tb1:=fun w1 (k:Kp w w1)=>tb w1 (Fq.Tab.grown hQ k)
  have HT:Hid (2580562586483294208≤m∧m≤6633802251116740608→¬ (2580562586483294208≤m'∧m'≤6633802251116740608)):=fun h h'=>ct ⟨h,h'⟩
  clear hX hY hZ hom la lb za zb a1 a2 a3 a4 b1 b2 b3 b4 ta tb hQ hd1 hd2 ct hm hm' z z'
  go_enter Tryz.func122,Tryz.ntmps122
  go_wp2
  refine wp_scope_jumps 0 (fun a' w'=>w' = w∧∃ u3 u4 u5 u6 u7 u8 u9 u10 u11 u12 u13 u14 u15 u16 u17 u18 u19 u20 u21 u22 u23 u24 u25 u26 u27 u28 u29 u30 u31 u32 u33 u34 u35 u36 u37 u38 u39 u40 u41 u42 u43 u44 u45 u46 u47 u48 u49 u50 u51 u52 u53 u54:Value,a' = ⟨#[.int .i64 d,.float .f64 X,.float .f64 Y,u3,u4,u5,u6,u7,u8,u9,u10,u11,u12,u13,u14,u15,u16,u17,u18,u19,u20,u21,u22,u23,u24,u25,u26,u27,u28,u29,u30,u31,u32,u33,u34,u35,u36,u37,u38,u39,u40,u41,u42,u43,u44,u45,u46,u47,u48,u49,u50,u51,u52,u53,u54],[]⟩) (fun _ _=>0) rfl ?_ ?_
  · clear g1 g2 ta1 tb1 hp o1 o2
    by_cases c1:2580562586483294208≤m∧m≤6633802251116740608
    · rw [decide_eq_true c1] at h1
      rw [decide_eq_false (HT.out c1)] at h2
      clear c1 HT
      go_wp2_with fail
      refine h1.mono ?_;rintro e w' ⟨rfl,hw'⟩;obtain rfl:=hw'.symm;clear hw' h1
      go_wp2_with fail
      refine h2.mono ?_;rintro e w' ⟨rfl,hw'⟩;obtain rfl:=hw'.symm;clear hw' h2
      go_wp2_with fail
      go_step3
      exact ⟨rfl,rfl,_,_,_,_,_,_,_,_,_,_,_,_,_,_,_,_,_,_,_,_,_,_,_,_,_,_,_,_,_,_,_,_,_,_,_,_,_,_,_,_,_,_,_,_,_,_,_,_,_,_,_,_,rfl⟩
    · rw [decide_eq_false c1] at h1
      clear c1 HT h2
      go_wp2_with fail
      refine h1.mono ?_;rintro e w' ⟨rfl,hw'⟩;obtain rfl:=hw'.symm;clear hw' h1
      go_wp2_with fail
      go_step3
      exact ⟨rfl,rfl,_,_,_,_,_,_,_,_,_,_,_,_,_,_,_,_,_,_,_,_,_,_,_,_,_,_,_,_,_,_,_,_,_,_,_,_,_,_,_,_,_,_,_,_,_,_,_,_,_,_,_,_,rfl⟩
  · rintro a' w' ⟨rfl,u3,u4,u5,u6,u7,u8,u9,u10,u11,u12,u13,u14,u15,u16,u17,u18,u19,u20,u21,u22,u23,u24,u25,u26,u27,u28,u29,u30,u31,u32,u33,u34,u35,u36,u37,u38,u39,u40,u41,u42,u43,u44,u45,u46,u47,u48,u49,u50,u51,u52,u53,u54,rfl⟩
    clear h1 h2 HT
    go_wp2_with fail
    refine g1.mono ?_;rintro e w9 ⟨rfl,hw'⟩;obtain rfl:=hw'.symm;clear hw' g1
    go_wp2_with fail
    refine g2.mono ?_;rintro e w9 ⟨rfl,hw'⟩;obtain rfl:=hw'.symm;clear hw' g2
    go_wp2_with fail
    refine ta1.mono ?_;rintro e w1 ⟨va,rfl,lva,k1⟩
    have tb2:=tb1 w1 k1
    clear ta1 tb1
    go_wp2_with fail
    refine tb2.mono ?_;rintro e w2 ⟨vb,rfl,lvb,k2⟩
    have k02:=k1.trans k2
    have hp2:=hp va vb w2 k02 (lva.kp k2) lvb
    clear tb2 hp lva lvb k1 k2
    go_wp2_with fail
    refine hp2.mono ?_;rintro e w3 ⟨rfl,k3⟩
    have k03:=k02.trans k3
    clear hp2 k02 k3
    go_wp2
    try simp only [Exit.jump]
    exact bodyPost_ret (v:=.float .f64 Z) (by simp [results,Tryz.results122,go_sem]) rfl ⟨rfl,k03⟩
theorem pdivN_ (d:Int) (n n':Bool) (m:Nat) (hm:m < 9223372036854775808) (w:World) :
    Calls Tryz.prog 122 #[.int .i64 d,.float .f64 (Fq.wD n m),.float .f64 (Fq.wD n' 0)] w fun e w'=>e = .returned (.float .f64 (if m = 0∨9218868437227405312 < m then 9221120237041090561 else Fq.wD n 9218868437227405312))∧Kp w w':=by
  obtain ⟨m',hm0⟩:∃ m':Nat,m' = 0:=⟨_,rfl⟩
  have h1:=mild_ n m hm w
  have h2:=mild_ n' m' (by omega) w
  have o2:=Fq.eqzD n' m' (by omega)
  rw [show (m' == 0) = true from by simp [hm0]] at o2
  have hb:=byNought_ n m hm w
  obtain ⟨R,hR⟩:∃ R,R = (if m = 0∨9218868437227405312 < m then 9221120237041090561 else Fq.wD n 9218868437227405312):=⟨_,rfl⟩
  rw [← hR,← hm0]
  obtain ⟨X,hX⟩:∃ X,X = Fq.wD n m:=⟨_,rfl⟩
  obtain ⟨Y,hY⟩:∃ Y,Y = Fq.wD n' m':=⟨_,rfl⟩
  rw [← hX] at h1 hb
  rw [← hY] at h2 o2
  rw [← hR] at hb
  rw [← hX,← hY]
  have HT:Hid (2580562586483294208≤m∧m≤6633802251116740608→¬ (2580562586483294208≤m'∧m'≤6633802251116740608)):=fun h h'=>by omega
  clear hX hY hR hm hm0
  go_enter Tryz.func122,Tryz.ntmps122
  go_wp2
  refine wp_scope_jumps 0 (fun a' w'=>w' = w∧∃ u3 u4 u5 u6 u7 u8 u9 u10 u11 u12 u13 u14 u15 u16 u17 u18 u19 u20 u21 u22 u23 u24 u25 u26 u27 u28 u29 u30 u31 u32 u33 u34 u35 u36 u37 u38 u39 u40 u41 u42 u43 u44 u45 u46 u47 u48 u49 u50 u51 u52 u53 u54:Value,a' = ⟨#[.int .i64 d,.float .f64 X,.float .f64 Y,u3,u4,u5,u6,u7,u8,u9,u10,u11,u12,u13,u14,u15,u16,u17,u18,u19,u20,u21,u22,u23,u24,u25,u26,u27,u28,u29,u30,u31,u32,u33,u34,u35,u36,u37,u38,u39,u40,u41,u42,u43,u44,u45,u46,u47,u48,u49,u50,u51,u52,u53,u54],[]⟩) (fun _ _=>0) rfl ?_ ?_
  · clear o2 hb
    by_cases c1:2580562586483294208≤m∧m≤6633802251116740608
    · rw [decide_eq_true c1] at h1
      rw [decide_eq_false (HT.out c1)] at h2
      clear c1 HT
      go_wp2_with fail
      refine h1.mono ?_;rintro e w' ⟨rfl,hw'⟩;obtain rfl:=hw'.symm;clear hw' h1
      go_wp2_with fail
      refine h2.mono ?_;rintro e w' ⟨rfl,hw'⟩;obtain rfl:=hw'.symm;clear hw' h2
      go_wp2_with fail
      go_step3
      exact ⟨rfl,rfl,_,_,_,_,_,_,_,_,_,_,_,_,_,_,_,_,_,_,_,_,_,_,_,_,_,_,_,_,_,_,_,_,_,_,_,_,_,_,_,_,_,_,_,_,_,_,_,_,_,_,_,_,rfl⟩
    · rw [decide_eq_false c1] at h1
      clear c1 HT h2
      go_wp2_with fail
      refine h1.mono ?_;rintro e w' ⟨rfl,hw'⟩;obtain rfl:=hw'.symm;clear hw' h1
      go_wp2_with fail
      go_step3
      exact ⟨rfl,rfl,_,_,_,_,_,_,_,_,_,_,_,_,_,_,_,_,_,_,_,_,_,_,_,_,_,_,_,_,_,_,_,_,_,_,_,_,_,_,_,_,_,_,_,_,_,_,_,_,_,_,_,_,rfl⟩
  · rintro a' w' ⟨rfl,u3,u4,u5,u6,u7,u8,u9,u10,u11,u12,u13,u14,u15,u16,u17,u18,u19,u20,u21,u22,u23,u24,u25,u26,u27,u28,u29,u30,u31,u32,u33,u34,u35,u36,u37,u38,u39,u40,u41,u42,u43,u44,u45,u46,u47,u48,u49,u50,u51,u52,u53,u54,rfl⟩
    clear h1 h2 HT
    go_wp2_with fail
    refine hb.mono ?_;rintro e w8 ⟨rfl,hw'⟩;obtain rfl:=hw'.symm;clear hw' hb
    go_wp2
    try simp only [Exit.jump]
    exact bodyPost_ret (v:=.float .f64 R) (by simp [results,Tryz.results122,go_sem]) rfl ⟨rfl,Kp.refl _⟩
def upW (d:Int) (ng:Bool) (A k:Nat):Nat:=mdW ng (finU 53 2098 9218868437227405311 9218868437227405312 (dirN ng d) (rV (dirN ng d) 53 (A ^ k) 1 (1074 - 1074 * (k:Int))))
def dnW (d:Int) (ng:Bool) (A k:Nat):Nat:=mdW ng (finU 53 2098 9218868437227405311 9218868437227405312 (dirN ng d) (rV (dirN ng d) 53 1 (A ^ k) (1074 + 1074 * (k:Int))))
theorem up_rat (d:Int) (ng:Bool) (a x k:Nat) (ea:Int) (ha:a≠0) (hx:(x:Int) = ea + 1074) (hl:len32 (a ^ k)≤16384):ofW d ng (a ^ k) (ea * (k:Int)) = upW d ng (a * 2 ^ x) k:=by
  have hz:a ^ k≠0:=Nat.ne_of_gt (Nat.pow_pos (by omega))
  rw [of_rat]
  unfold ratW upW
  rw [if_neg (by rw [len32_one];omega),if_neg (by decide),if_neg hz,Nat.mul_pow,← Nat.pow_mul,rV_up _ _ _ _ _ _ (by decide)]
  have e:(1074 - 1074 * (k:Int) + ((x * k:Nat):Int)) = ea * (k:Int) + 1074:=by
    rw [Int.natCast_mul,hx,Int.add_mul];omega
  rw [e]
theorem dn_rat (d:Int) (ng:Bool) (a x k:Nat) (ea N:Int) (ha:a≠0) (hx:(x:Int) = ea + 1074) (hN:N = -(k:Int)) (hl:len32 (a ^ k)≤16384):ratW d ng 1 (a ^ k) (ea * N) = dnW d ng (a * 2 ^ x) k:=by
  have hz:a ^ k≠0:=Nat.ne_of_gt (Nat.pow_pos (by omega))
  unfold ratW dnW
  rw [if_neg (by rw [len32_one];omega),if_neg hz,if_neg (by decide),Nat.mul_pow,← Nat.pow_mul,rV_down _ _ _ _ _ _ (by omega)]
  have e:(1074 + 1074 * (k:Int) - ((x * k:Nat):Int)) = ea * N + 1074:=by
    rw [Int.natCast_mul,hx,Int.add_mul,hN,Int.mul_neg];omega
  rw [e]
theorem mul_up (d:Int) (n:Bool) (A:Nat) (hA:A≠0):mulW d (n ^^ n) (A * A) = upW d false A 2:=by
  unfold mulW upW
  rw [if_neg (Nat.mul_ne_zero hA hA),show (n ^^ n) = false from by cases n <;> rfl,Nat.pow_two]
  rfl
theorem div_dn (d:Int) (n:Bool) (A B K:Nat) (hK:K = 1074) (hB:B = 2 ^ K) (hA:A≠0):divW d (false ^^ n) B A = dnW d n A 1:=by
  unfold divW dnW
  have hp:=Nat.two_pow_pos K
  rw [if_neg (by omega),show (false ^^ n) = n from by cases n <;> rfl,Nat.pow_one,hB,show (2:Nat) ^ K = 1 * 2 ^ K from (Nat.one_mul _).symm,rV_up _ _ _ _ _ _ (by omega)]
  rw [show (1074:Int) + (K:Int) = 1074 + 1074 * ((1:Nat):Int) from by omega]
theorem rg_vV (m:Nat) (_h:m < 9218868437227405312):rgU 53 (Fq.vV Ieee.double m) = m:=by
  by_cases z:m = 0
  · subst z;rw [(vV_zero 0).2 rfl,rgU_zero]
  · unfold Fq.vV Fq.mM Fq.eE
    rw [Fq.binD]
    by_cases c:m < 4503599627370496
    · rw [if_pos c,if_pos c,Nat.pow_zero,Nat.mul_one]
      unfold rgU
      have hb:blen m≤52:=by rw [blen_le_iff,show (2:Nat) ^ 52 = 4503599627370496 from by decide];exact c
      rw [show blen m - 53 = 0 from by omega];simp
    · rw [if_neg c,if_neg c]
      have hb:blen (4503599627370496 + m % 4503599627370496) = 53:=blen_uniq _ 52 (by rw [show (2:Nat) ^ 52 = 4503599627370496 from by decide];omega) (by rw [show (2:Nat) ^ (52 + 1) = 9007199254740992 from by decide];omega)
      rw [rgU_mul 53 _ _ 0 (by omega) (by rw [hb];simp) (by omega),Nat.pow_zero,Nat.mul_one,show (2:Nat) ^ (53 - 1) = 4503599627370496 from by decide]
      omega
theorem rU_fl (d:Int) (A:Nat) (hA:FL (A:Int)):rU d 53 A 1 = A:=by
  obtain ⟨E,hE⟩:∃ E,E = rE 53 A 1:=⟨_,rfl⟩
  obtain ⟨q,hq⟩:∃ q,q = rS 53 A 1:=⟨_,rfl⟩
  obtain ⟨r,hr⟩:∃ r,r = rR 53 A 1:=⟨_,rfl⟩
  obtain ⟨T,hT⟩:∃ T,T = 2 ^ E:=⟨_,rfl⟩
  have hTp:0 < T:=by rw [hT];exact Nat.two_pow_pos E
  have hAq:A = q * T + r:=by
    rw [hq,hr,hT,hE];unfold rS rR;rw [Nat.one_mul,Nat.mul_comm];exact (Nat.div_add_mod _ _).symm
  have hrl:r < T:=by rw [hr,hT,hE];unfold rR;rw [Nat.one_mul];exact Nat.mod_lt _ (Nat.two_pow_pos _)
  have hfix:=(rn_nr A).fix hA
  have h0:=rung_of A 0 E (q + (upw 0 q r T).toNat) hE (by rw [hq,hr,hT,hE,Nat.one_mul])
  rw [← hT] at h0
  have hr0:r = 0:=by
    have e1:(q + (upw 0 q r T).toNat) * T = q * T + r:=by rw [← h0.1];omega
    rw [Nat.add_mul] at e1
    cases hu:upw 0 q r T
    · rw [hu] at e1;simp at e1;omega
    · rw [hu] at e1;simp at e1;omega
  have hd:=rung_of A d E (q + (upw d q r T).toNat) hE (by rw [hq,hr,hT,hE,Nat.one_mul])
  rw [← hT,hr0,upw_none _ _ _ hTp] at hd
  rw [hd.1,hAq,hr0];simp
theorem up_one (d:Int) (n:Bool) (m:Nat) (hm:m < 9218868437227405312) (z:m≠0):upW d n (Fq.vV Ieee.double m) 1 = Fq.wD n m:=by
  unfold upW
  have hfl:FL ((Fq.vV Ieee.double m:Nat):Int):=by
    have h:=iv_fl false m
    unfold Iv at h
    simpa using h
  have e:∀ dd:Int,rV dd 53 (Fq.vV Ieee.double m ^ 1) 1 (1074 - 1074 * ((1:Nat):Int)) = Fq.vV Ieee.double m:=fun dd=>by
    rw [Nat.pow_one,show (1074 - 1074 * ((1:Nat):Int)) = 0 from by omega]
    unfold rV
    rw [show ((0:Int)).toNat = 0 from rfl,show (-(0:Int)).toNat = 0 from rfl,Nat.pow_zero,Nat.mul_one,Nat.mul_one]
    exact rU_fl dd _ hfl
  rw [e]
  have hbl:blen (Fq.vV Ieee.double m)≤2098:=by
    obtain ⟨K,hK⟩:∃ K:Nat,K = 2098:=⟨_,rfl⟩
    rw [← hK,blen_le_iff]
    unfold Fq.vV Fq.mM Fq.eE
    rw [Fq.binD]
    by_cases c:m < 4503599627370496
    · rw [if_pos c,if_pos c,Nat.pow_zero,Nat.mul_one]
      refine Nat.lt_of_lt_of_le c ?_
      rw [show (4503599627370496:Nat) = 2 ^ 52 from by decide]
      exact Nat.pow_le_pow_right (by decide) (by omega)
    · rw [if_neg c,if_neg c]
      have h1:(4503599627370496 + m % 4503599627370496) * 2 ^ (m / 4503599627370496 - 1) < 9007199254740992 * 2 ^ (m / 4503599627370496 - 1):=Nat.mul_lt_mul_of_pos_right (by omega) (Nat.two_pow_pos _)
      refine Nat.lt_of_lt_of_le h1 ?_
      rw [show (9007199254740992:Nat) = 2 ^ 53 from by decide,← Nat.pow_add]
      exact Nat.pow_le_pow_right (by decide) (by omega)
  unfold finU mdW Fq.wD
  rw [if_pos hbl,rg_vV m hm,if_neg z]
theorem vV_one (K:Nat) (hK:K = 1074):Fq.vV Ieee.double 4607182418800017408 = 2 ^ K:=by
  unfold Fq.vV Fq.mM Fq.eE
  rw [Fq.binD,if_neg (by decide),if_neg (by decide),show (4607182418800017408:Nat) / 4503599627370496 - 1 = 1022 from by decide,show (4503599627370496:Nat) + 4607182418800017408 % 4503599627370496 = 2 ^ 52 from by decide]
  obtain ⟨j,hj⟩:∃ j,j = 1022:=⟨_,rfl⟩
  rw [← hj,← Nat.pow_add,show 52 + j = K from by omega]
theorem pow_len (a k:Nat) (ha:a < 9007199254740992) (hk:k≤1024):len32 (a ^ k)≤16384:=dlen _ _ (by
  have h:blen (a ^ k)≤53 * k + 1:=by
    rw [blen_le_iff]
    have h1:a ^ k≤(2 ^ 53) ^ k:=Nat.pow_le_pow_left (by rw [show (2:Nat) ^ 53 = 9007199254740992 from by decide];omega) k
    rw [← Nat.pow_mul] at h1
    have h2:2 ^ (53 * k) < 2 ^ (53 * k + 1):=Nat.pow_lt_pow_right (by decide) (by omega)
    omega
  omega)
theorem rtimes_ (p q:Option Addr) (c d:Nat) (xs ys:List Int) (w:World) (hx:Arr w p xs) (hy:Arr w q ys) (hwx:Wd xs) (hwy:Wd ys) (lx:xs.length≤16777216) (ly:ys.length≤16777216) :
    Calls Tryz.prog 70 #[.slice p xs.length c,.slice q ys.length d] w fun e w'=>∃ v,e = .returned v∧Own w' w.heap.size v (dig (val xs * val ys))∧Kp w w':=by
  have h1:=words_ p c xs w hx (by omega)
  have h2:=words_ q d ys w hy (by omega)
  have lS:=tl_le xs
  have lT:=tl_le ys
  have hvx:=val_tl xs
  have hvy:=val_tl ys
  obtain ⟨N,hN⟩:∃ N,N = xs.length:=⟨_,rfl⟩
  obtain ⟨M,hM⟩:∃ M,M = ys.length:=⟨_,rfl⟩
  obtain ⟨S,hS⟩:∃ S,S = tl xs:=⟨_,rfl⟩
  obtain ⟨T,hT⟩:∃ T,T = tl ys:=⟨_,rfl⟩
  rw [← hS] at h1 lS hvx
  rw [← hT] at h2 lT hvy
  have hmk:∀ w:World,(Instr.makeSlice 41 (.int .i64 ((S:Int) + (T:Int))) (.int .i64 ((S:Int) + (T:Int)))).run Tryz.prog w = .ok (.slice (some ⟨w.heap.size,0,none⟩) (S + T) (S + T)) (w.alloc (.cells (madeCells #[.int .u32 0] (S + T)) 81)):=by
    have:=mk32 (S + T) (by omega)
    simpa using this
  have hk1:Kp w (w.alloc (.cells (madeCells #[.int .u32 0] (S + T)) 81)):=(Kp.refl w).alloc _
  have hrz:Rw (w.alloc (.cells (madeCells #[.int .u32 0] (S + T)) 81)) w.heap.size (S + T) (List.replicate (S + T) 0):=World.rowIs.congr (World.rowIs_made w (.int .u32 0) (S + T) 81) (fun j _=>by rw [rep0_getD])
  obtain ⟨zs0,hz0⟩:∃ zs0,zs0 = List.replicate (S + T) (0:Int):=⟨_,rfl⟩
  have hzl0:zs0.length = S + T:=by rw [hz0];simp
  have hwz0:Wd zs0:=by rw [hz0];exact Wd_rep0 _
  have hzz0:∀ j,zs0.getD j 0 = 0:=fun j=>by rw [hz0];exact rep0_getD _ _
  have hvz0:=val_zeros zs0 hzz0
  rw [← hz0] at hrz
  have HX:Hid (Arr w p xs∧Wd xs∧val (xs.take S) = val xs):=⟨hx,hwx,hvx⟩
  have HY:Hid (Arr w q ys∧Wd ys∧val (ys.take T) = val ys):=⟨hy,hwy,hvy⟩
  have HN:Hid (N = xs.length∧M = ys.length):=⟨hN,hM⟩
  obtain ⟨g,hg⟩:∃ g,g = w.heap.size:=⟨_,rfl⟩
  rw [← hg] at hrz
  have HG:Hid (g = w.heap.size):=hg
  rw [← hN] at lx h1 lS ⊢
  rw [← hM] at ly h2 lT ⊢
  clear hx hy hwx hwy hN hM hz0 hS hT hvx hvy
  go_enter Tryz.func70,Tryz.ntmps70
  go_wp2_with fail
  refine h1.mono ?_;rintro e w' ⟨rfl,hw'⟩;obtain rfl:=hw'.symm
  go_wp2_with fail
  refine h2.mono ?_;rintro e w' ⟨rfl,hw'⟩;obtain rfl:=hw'.symm
  go_wp2
  rw [← hg]
  clear hmk hg h1 h2
  go_loopw [8] (fun i wr=>∃ (k:Nat) (zs:List Int),i = .int .i64 k∧k≤T∧Rw wr g (S + T) zs∧zs.length = S + T∧Wd zs∧val zs = val (ys.take k) * val xs∧(∀ j,k + S≤j→zs.getD j 0 = 0)∧Kp w wr) (fun i _=>T - (intOf i).toNat)
  case atStart=>exact ⟨0,zs0,rfl,Nat.zero_le _,hrz,hzl0,hwz0,by rw [hvz0];simp [val],fun j _=>hzz0 j,hk1⟩
  case round =>
    clear hrz hzl0 hwz0 hzz0 hvz0 hk1
    obtain ⟨k,zs,rfl,hk,hrow,hzl,hwz,hv,hzz,hkp⟩:=hrel
    obtain ⟨hN,hM⟩:=HN.out
    by_cases ck:k < T
    · obtain ⟨b,off,rfl,hc⟩:=HY.out.1.at (k:=k) (by omega)
      have e0:=hc k (by omega)
      have e1:=kkeep hkp e0
      have wy:=HY.out.2.1 k
      have hrp:=row_prod ys k (val xs)
      obtain ⟨Y,hY⟩:∃ Y:Nat,(Y:Int) = ys.getD k 0:=⟨(ys.getD k 0).toNat,by omega⟩
      rw [← hY] at e1 wy hrp
      rw [Int.toNat_natCast] at hrp
      have i0:(0:Int)≤(k:Int):=by omega
      have i1:(k:Int) < (T:Int):=by omega
      have i1':(k:Int) < (M:Int):=by omega
      by_cases cY:Y = 0
      · subst cY
        have hv2:val zs = val (ys.take (k + 1)) * val xs:=by rw [← hrp,hv];simp
        have t1:(((0:Nat):Int) == 0) = true:=by simp
        clear hc e0 HX HY HN HG hN hM hY wy hrp hv
        go_wp2
        exact ⟨⟨k + 1,zs,by go_num,by omega,hrow,hzl,hwz,hv2,fun j hj=>hzz j (by omega),hkp⟩,by simp [intOf];omega⟩
      · have t1:((Y:Int) == 0) = false:=by simp;omega
        have fY:IntKind.u64.wrap (Y:Int) = (Y:Int):=by rw [IntKind.wrap_u64];omega
        have hY32:Y < 4294967296:=by omega
        have HV:Hid (val zs + val xs * Y * 4294967296 ^ k = val (ys.take (k + 1)) * val xs∧(∀ j,k + S≤j→zs.getD j 0 = 0)):=⟨by rw [hv];exact hrp,hzz⟩
        clear hc e0 HY hN hM hY wy hrp hv hzz
        go_wp2
        clear t1 fY
        go_loopw [10,11] (fun cc ii wq=>∃ (m C:Nat) (us:List Int),cc = .int .u64 (C:Int)∧ii = .int .i64 m∧m≤S∧Rw wq g (S + T) us∧us.length = S + T∧Wd us∧C < 4294967296∧val us + C * 4294967296 ^ (k + m) = val zs + val (xs.take m) * Y * 4294967296 ^ k∧(∀ j,k + m≤j→us.getD j 0 = zs.getD j 0)∧Kp w wq) (fun _ i _=>S - (intOf i).toNat)
        case atStart=>exact ⟨0,0,zs,rfl,rfl,Nat.zero_le _,hrow,hzl,hwz,by omega,by simp [val],fun j _=>rfl,hkp⟩
        case round =>
          clear hrow hwz hkp e1
          obtain ⟨m,C,us,rfl,rfl,hm,hrow,hul,hwu,hC,hv,hsam,hkp⟩:=hrel
          obtain ⟨hN,hM⟩:=HN.out
          by_cases cm:m < S
          · obtain ⟨b',off',rfl,hc'⟩:=HX.out.1.at (k:=m) (by omega)
            have e2:=kkeep hkp (hc' m (by omega))
            have e1:=World.rowIs.cell hrow (i:=m + k) (by omega)
            have wx:=HX.out.2.1 m
            have wz:=hwu (m + k)
            obtain ⟨X,hX⟩:∃ X:Nat,(X:Int) = xs.getD m 0:=⟨(xs.getD m 0).toNat,by omega⟩
            obtain ⟨Z0,hZ0⟩:∃ Z0:Nat,(Z0:Int) = us.getD (m + k) 0:=⟨(us.getD (m + k) 0).toNat,by omega⟩
            rw [← hX] at e2
            rw [← hZ0] at e1
            have hmw:=mul_word X Y C Z0 (by omega) hY32 hC (by omega)
            obtain ⟨P,hP⟩:∃ P,P = X * Y:=⟨_,rfl⟩
            rw [← hP] at hmw
            obtain ⟨Q,hQ⟩:∃ Q:Nat,Q = (Z0:Int).toNat + ((P:Nat):Int).toNat + C:=⟨_,rfl⟩
            rw [Nat.add_comm m k] at hZ0
            have hst:=sum_step us (k + m) C Q _ (Z0:Int) (P:Int) (by omega) hZ0.symm hQ hv
            simp only [Int.toNat_natCast] at hQ hst
            have hg2:=mul_grow xs Y k m
            rw [← hX,Int.toNat_natCast,← hP] at hg2
            rw [Nat.add_assoc (val zs),← hg2,Nat.add_assoc k m 1] at hst
            have f1:IntKind.u64.wrap (X:Int) = (X:Int):=by rw [IntKind.wrap_u64];omega
            have f2:IntKind.u64.wrap ((X:Int) * (Y:Int)) = (P:Int):=by
              have:(X:Int) * (Y:Int) = (P:Int):=by rw [hP];exact (Int.natCast_mul X Y).symm
              rw [this,IntKind.wrap_u64];omega
            have f3:IntKind.u64.wrap (Z0:Int) = (Z0:Int):=by rw [IntKind.wrap_u64];omega
            have f4:IntKind.u64.wrap ((C:Int) + (Z0:Int)) = (C:Int) + (Z0:Int):=by rw [IntKind.wrap_u64];omega
            have f5:IntKind.u64.wrap ((C:Int) + (Z0:Int) + (P:Int)) = (Q:Int):=by rw [IntKind.wrap_u64];omega
            have f8:=and32 Q (by omega)
            obtain ⟨Z,hZ⟩:∃ Z:Nat,Z = Q % 4294967296:=⟨_,rfl⟩
            obtain ⟨C',hC2⟩:∃ C':Nat,C' = Q / 4294967296:=⟨_,rfl⟩
            rw [← hZ] at f8
            have f6:IntKind.u32.wrap (Z:Int) = (Z:Int):=by rw [IntKind.wrap_u32];omega
            have f7:(Q:Int) / 4294967296 = (C':Int):=by omega
            rw [← hZ,← hC2] at hst
            have hC':C' < 4294967296:=by omega
            have hw2:Wd (us.set (m + k) (Z:Int)):=hwu.set (m + k) Z (by omega)
            have hl2:(us.set (m + k) (Z:Int)).length = S + T:=by rw [List.length_set];exact hul
            have hsam2:∀ j,k + (m + 1)≤j→(us.set (m + k) (Z:Int)).getD j 0 = zs.getD j 0:=fun j h1=>by
              rw [← hsam j (by omega)];simp [List.getD,show ¬ m + k = j from by omega]
            have ekm:k + m = m + k:=Nat.add_comm k m
            rw [ekm] at hst
            clear ekm
            have hik:m + k < us.length:=by omega
            have hik2:m + k < S + T:=by omega
            have j0:(0:Int)≤(m:Int):=by omega
            have j1:(m:Int) < (S:Int):=by omega
            have j2:(m:Int) < (N:Int):=by omega
            have j3:(0:Int)≤(m:Int) + (k:Int):=by omega
            have j4:(m:Int) + (k:Int) < (S:Int) + (T:Int):=by omega
            have hgw:w.heap.size≤g:=by rw [HG.out];exact Nat.le_refl _
            clear hc' HX HN HG hN hM hX hZ0 hZ hC2 hQ hv hP hg2 wx wz hwu hC hsam hul hmw HV hzl
            go_wp2
            refine wp_region_kp (by kernel_rfl) (by kernel_rfl) (fun ι _ G hG hall=>?_)
            have c0:∀ n,(G n).cell? ⟨g,m + k,none⟩ = some (.int .u32 (Z0:Int)):=fun n=>kkeep (hG n) e1
            have c1:∀ n,(G n).cell? ⟨b',off' + m,none⟩ = some (.int .u32 (X:Int)):=fun n=>kkeep (hG n) e2
            repeat (go_big_quiet_step (fail))
            refine wpQuiet_nil ?_
            rintro _ ⟨nq,rfl⟩
            have gq:=hG nq
            replace hrow:=hrow.grown gq
            have e3:=World.rowIs.cell hrow (i:=m + k) hik2
            have e4:=World.rowIs.frozen hrow (m + k)
            have hR:=hrow.set (m + k) (Z:Int) hik
            have hK:=(hkp.trans gq).setCell (p:=⟨g,m + k,none⟩) hgw (.int .u32 (Z:Int))
            clear c0 c1 hall hG gq e1 e2 hrow hkp
            go_wp2
            exact ⟨⟨m + 1,C',us.set (m + k) (Z:Int),by go_num,by go_num,by omega,hR,hl2,hw2,hC',hst,hsam2,hK⟩,by simp [intOf];omega⟩
          · have hmS:m = S:=by omega
            subst hmS
            have hvx:=HX.out.2.2
            rw [hvx] at hv
            obtain ⟨hV1,hV2⟩:=HV.out
            have hu0:us.getD (k + m) 0 = 0:=by rw [hsam _ (Nat.le_refl _)];exact hV2 _ (Nat.le_refl _)
            have hvs:=val_set us (k + m) (C:Int) (by omega)
            rw [hu0,Int.toNat_natCast,hv,hV1] at hvs
            have hv3:val (us.set (k + m) (C:Int)) = val (ys.take (k + 1)) * val xs:=by simpa using hvs
            have hgw:w.heap.size≤g:=by rw [HG.out];exact Nat.le_refl _
            have hR:=hrow.set (k + m) (C:Int) (by omega)
            have hK:Kp w (wr.setCell ⟨g,k + m,none⟩ (.int .u32 (C:Int))):=hkp.setCell hgw _
            have hw3:Wd (us.set (k + m) (C:Int)):=hwu.set _ _ (by omega)
            have hl3:(us.set (k + m) (C:Int)).length = m + T:=by rw [List.length_set];exact hul
            have hz3:∀ j,k + 1 + m≤j→(us.set (k + m) (C:Int)).getD j 0 = 0:=fun j hj=>by
              have e1:(us.set (k + m) (C:Int)).getD j 0 = us.getD j 0:=by simp [List.getD,show ¬ k + m = j from by omega]
              rw [e1,hsam j (by omega)]
              exact hV2 j (by omega)
            have e3:=World.rowIs.cell hrow (i:=k + m) (by omega)
            have e4:=World.rowIs.frozen hrow (k + m)
            have f6:IntKind.u32.wrap (C:Int) = (C:Int):=by rw [IntKind.wrap_u32];omega
            have i2:¬ ((m:Int) < (m:Int)):=by omega
            have j3:(0:Int)≤(k:Int) + (m:Int):=by omega
            have j4:(k:Int) + (m:Int) < (m:Int) + (T:Int):=by omega
            clear HX HN HG hN hM hv hvs hsam hkp hrow HV hV1 hV2 hvx hwu hul hu0 hC cm hm hzl
            go_wp2
            exact ⟨⟨k + 1,us.set (k + m) (C:Int),by go_num,by omega,hR,hl3,hw3,hv3,hz3,hK⟩,by simp [intOf];omega⟩
    · have hkN:k = T:=by omega
      subst hkN
      have hvy:=HY.out.2.2
      rw [hvy] at hv
      have hA:=hrow.arr (S + k) (Nat.le_refl _) (by omega)
      rw [List.take_of_length_le (by omega)] at hA
      have hno:=rnorm_ (some ⟨g,0,none⟩) (S + k) zs wr hA (by omega)
      rw [nz_dig zs hwz,hv,hzl,Nat.mul_comm] at hno
      have hsz:=hkp.size
      have i2:¬ ((k:Int) < (k:Int)):=by omega
      clear hA hrow hzl hwz hv HX HY HN HG hN hM hzz hvy hk ck
      go_wp2_with fail
      refine hno.mono ?_
      rintro e w2 ⟨v2,rfl,hO2,hk2⟩
      clear hno
      go_wp2
      exact bodyPost_ret (v:=v2) (by simp [results,Tryz.results70,go_sem] <;> simp only [*]) rfl ⟨v2,rfl,hO2.mono hsz,hkp.trans hk2⟩
end Go.Proofs.YtcfnialfpblfmaaGreatDoor
