import Derived.Test.YtnileplkkmhdgaaGreatDoorKRT9
set_option maxHeartbeats 1000000
set_option maxRecDepth 20000
namespace Go.Proofs.YtnileplkkmhdgaaGreatDoor
open Go.RowKit
theorem nroot_ (p:Option Addr) (c:Nat) (xs:List Int) (w:World) (hx:Arr w p xs) (hwx:Wd xs) (lx:xs.length≤1048576) (hc:xs.length≤c) :
    Calls Tryz.prog 107 #[.slice p xs.length c] w fun e w'=>∃ v,e = .returned (.tuple #[v,.bool (rootN (val xs)).2.1,.int .i64 (rootN (val xs)).2.2])∧Own w' w.heap.size v (rootN (val xs)).1∧Kp w w' :=
  nroot_of p c xs w hx hwx lx hc (fun hl=>by
    have e1:nz xs = dig (val xs):=nz_dig xs hwx
    have hA2:Arr w p (dig (val xs)):=by rw [← e1];exact hx.take _
    have e2:tl xs = (dig (val xs)).length:=tl_len xs hwx
    have e3:=tl_le xs
    rw [e2]
    exact root_ (val xs) p c w hA2 (by omega) (by omega))
theorem squareRoot_ (d:Int) (s:Bool) (a:Nat) (ea:Int) (va:Value) (w:World) (hQ:Fq.Tab w) (hd1:-9223372036854775808≤d) (hd2:d < 9223372036854775808) (ha:Ls w va (dig a)) (la:a < 9007199254740992) (za:a≠0) (ea1:-1074≤ea) (ea2:ea≤2048) (A:Nat) (hA:a * 2 ^ (ea + 1074).toNat = A) :
    Calls Tryz.prog 82 #[.int .i64 d,.agg #[.bool s,va,.int .i64 ea]] w fun e w'=>e = .returned (.float .f64 (rootW d A))∧Kp w w':=by
  obtain ⟨u0,hu0⟩:∃ u0:Int,u0 = 107 - (blen a:Int):=⟨_,rfl⟩
  obtain ⟨up,hup⟩:∃ up:Int,up = u0 + (ea - u0) % 2:=⟨_,rfl⟩
  obtain ⟨ex,hex⟩:∃ ex:Int,ex = (ea - up) / 2:=⟨_,rfl⟩
  obtain ⟨b1,b2,b3⟩:=blen_spec a za
  have ba:blen a≤53:=by rw [blen_le_iff,show (2:Nat) ^ 53 = 9007199254740992 from by decide];exact la
  obtain ⟨N,hN⟩:∃ N,N = a * 2 ^ up.toNat:=⟨_,rfl⟩
  obtain ⟨h,hh⟩:∃ h,h = rtN N:=⟨_,rfl⟩
  have hr:IsRt N h:=by rw [hh];exact rtN_is N
  have nl:81129638414606681695789005144064≤N:=by
    have g:2 ^ (blen a - 1) * 2 ^ up.toNat≤N:=by rw [hN];exact Nat.mul_le_mul_right _ b1
    rw [← Nat.pow_add] at g
    have g2:2 ^ 106≤2 ^ (blen a - 1 + up.toNat):=Nat.pow_le_pow_right (by decide) (by omega)
    rw [show (2:Nat) ^ 106 = 81129638414606681695789005144064 from by decide] at g2
    omega
  have nu:N < 324518553658426726783156020576256:=by
    have g:N < 2 ^ blen a * 2 ^ up.toNat:=by rw [hN];exact Nat.mul_lt_mul_of_pos_right b2 (Nat.two_pow_pos _)
    rw [← Nat.pow_add] at g
    have g2:2 ^ (blen a + up.toNat)≤2 ^ 108:=Nat.pow_le_pow_right (by decide) (by omega)
    rw [show (2:Nat) ^ 108 = 324518553658426726783156020576256 from by decide] at g2
    omega
  have hl:9007199254740992≤h:=by
    have g:9007199254740992 * 9007199254740992 < (h + 1) * (h + 1):=by have:=hr.2;omega
    have:=sq_lt_sq g
    omega
  have hu:h < 18014398509481984:=sq_lt_sq (by have:=hr.1;omega)
  have nb:blen N≤108:=by rw [blen_le_iff,show (2:Nat) ^ 108 = 324518553658426726783156020576256 from by decide];exact nu
  have ln:len32 N≤16384:=dlen N 16384 (by omega)
  have hb54:blen h≤54:=by rw [blen_le_iff,show (2:Nat) ^ 54 = 18014398509481984 from by decide];exact hu
  have lh2:len32 h≤2:=dlen h 2 (by omega)
  obtain ⟨sq,hsq⟩:∃ sq:Bool,sq = decide (N = h * h):=⟨_,rfl⟩
  obtain ⟨H,hH⟩:∃ H,H = 2 * h + (if (!sq) = true then 1 else 0):=⟨_,rfl⟩
  have hH2:H = 2 * h + (if h * h = N then 0 else 1):=by
    rw [hH,hsq]
    by_cases c:h * h = N
    · rw [if_pos c,decide_eq_true c.symm];rfl
    · rw [if_neg c,decide_eq_false (fun e=>c e.symm)];rfl
  obtain ⟨t,ht⟩:∃ t,t = (ex + 1073).toNat:=⟨_,rfl⟩
  have hAN:A * 4 ^ 536 = N * 4 ^ t:=by
    obtain ⟨x,hx⟩:∃ x,x = 536:=⟨_,rfl⟩
    rw [← hA,hN,← hx,pow4,pow4,Nat.mul_assoc,Nat.mul_assoc,← Nat.pow_add,← Nat.pow_add,← Nat.pow_add,← Nat.pow_add]
    congr 2
    omega
  have hans:pW 9223372036854775808 false (finU 53 2098 9218868437227405311 9218868437227405312 (dirN false d) (rV (dirN false d) 53 H 1 (ex - 1 + 1074))) = rootW d A:=by
    have hz:rtH A≠0:=fun h0=>by
      have g:=rt_H A N h t hAN hr hl 0
      rw [h0,← hH2] at g
      have g2:=(rn_nr (H * 2 ^ t)).low
      have g3:=(rn_nr (H * 2 ^ t)).near
      have g4:=(rn_nr (H * 2 ^ t)).lt
      have g5:rU 0 53 0 1 = 0:=by
        have h9:=rV_zero9 0 0
        unfold rV at h9
        simpa using h9
      rw [← g,g5] at g3
      have hp:=Nat.two_pow_pos t
      have g6:1≤H * 2 ^ t:=Nat.mul_pos (by omega) hp
      rw [Int.natAbs_natCast] at g2
      omega
    unfold rootW sumW
    rw [if_neg (by omega),show decide (((rtH A:Nat):Int) < 0) = false from decide_eq_false (by omega),Int.natAbs_natCast,rt_H A N h t hAN hr hl,← hH2]
    have e:∀ dd:Int,rV dd 53 H 1 (ex - 1 + 1074) = rU dd 53 (H * 2 ^ t) 1:=fun dd=>by
      unfold rV
      rw [show (ex - 1 + 1074).toNat = t from by omega,show (-(ex - 1 + 1074)).toNat = 0 from by omega,Nat.pow_zero,Nat.mul_one]
    rw [e]
    rfl
  obtain ⟨Z,hZ⟩:∃ Z,Z = rootW d A:=⟨_,rfl⟩
  rw [← hZ] at hans ⊢
  have hls0:=ha
  obtain ⟨pa,ca,rfl,har,hca⟩:=ha
  obtain ⟨La,hLa⟩:∃ La,La = (dig a).length:=⟨_,rfl⟩
  rw [← hLa] at hls0 ⊢
  obtain ⟨B,hB⟩:∃ B,B = w.heap.size:=⟨_,rfl⟩
  obtain ⟨w0,hw0⟩:∃ w0,w0 = w.alloc (.cells #[.bool s,.slice pa La ca,.int .i64 ea] 88):=⟨_,rfl⟩
  have hk9:Kp w w0:=by rw [hw0];exact (Kp.refl w).alloc _
  have x0:w0.cell? ⟨B,0,none⟩ = some (.bool s):=by rw [hw0,hB];simp [go_sem]
  have x1:w0.cell? ⟨B,1,none⟩ = some (.slice pa La ca):=by rw [hw0,hB];simp [go_sem]
  have x2:w0.cell? ⟨B,2,none⟩ = some (.int .i64 ea):=by rw [hw0,hB];simp [go_sem]
  have h1:=stretched_ s a ea (.slice pa La ca) w0 (hls0.kp hk9) la za ea1 ea2 u0 up ex hu0 hup hex
  rw [← hN] at h1
  have HR:Hid (∀ (v:Value) (w1:World),Ls w1 v (dig N)→Calls Tryz.prog 107 #[v] w1 fun e w'=>∃ v',e = .returned (.tuple #[v',.bool sq,.int .i64 0])∧Ls w' v' (dig h)∧Kp w1 w'):=fun v w1 ⟨p,c,e,ar,ll⟩=>by
    subst e
    have g:=nroot_ p c (dig N) w1 ar (Wd_dig _) (by change len32 N≤_;omega) ll
    rw [val_dig,rootN_ok ln hr,← hsq] at g
    exact g.mono fun e w' ⟨v',q1,q2,q3⟩=>⟨v',q1,q2.ls,q3⟩
  have HWd:Hid (∀ (v:Value) (w1:World),Ls w1 v (dig h)→Calls Tryz.prog 108 #[v] w1 fun e w'=>e = .returned (.tuple #[.int .u64 (h:Int),.bool true])∧w' = w1):=fun v w1 ⟨p,c,e,ar,ll⟩=>by
    subst e
    have g:=nword_ p c (dig h) w1 ar (Wd_dig _) (by change len32 h≤_;omega) ll
    rw [val_dig,show wordN h = (h,true) from by unfold wordN;rw [if_neg (by omega)]] at g
    exact g
  have hmk:=fun w1=>marked_ h (!sq) w1 (by omega)
  rw [← hH] at hmk
  have hrn:=fun w1 (k:Kp w w1)=>prndD_ d false H (ex - 1) w1 (Fq.Tab.grown hQ k) hd1 hd2 (by rw [hH2];split <;> omega) (by omega) (by omega)
  rw [hans] at hrn
  have we:wrap64 (ex - 1) = ex - 1:=w64x _ (by omega) (by omega)
  have HW:Hid (w0 = w.alloc (.cells #[.bool s,.slice pa La ca,.int .i64 ea] 88)∧B = w.heap.size∧Kp w w0):=⟨hw0,hB,hk9⟩
  have HX:Hid (-2000≤ex∧ex≤2000):=(by omega:-2000≤ex∧ex≤2000)
  clear hw0 hB hk9 har hca hLa la za ea1 ea2 hA hu0 hup hex b1 b2 b3 ba hN hh hr nl nu hl hu nb ln hb54 lh2 hsq hH hH2 ht hAN hans hZ hQ hd1 hd2 hls0
  go_enter Tryz.func82,Tryz.ntmps82
  go_wp2_with fail
  rw [← HW.out.2.1]
  try rw [← HW.out.1]
  try go_wp2_with fail
  refine h1.mono ?_;rintro e w1 ⟨v,rfl,hls,k1⟩
  have h2:=HR.out v w1 hls
  have k01:=HW.out.2.2.trans k1
  clear h1 HR hls k1 x0 x1 x2
  go_wp2_with fail
  refine h2.mono ?_;rintro e w2 ⟨v',rfl,hls,k2⟩
  have h3:=HWd.out v' w2 hls
  have k02:=k01.trans k2
  clear h2 HWd hls k01 k2
  go_wp2_with fail
  refine h3.mono ?_;rintro e w' ⟨rfl,hw'⟩;obtain rfl:=hw'.symm;clear hw' h3
  have h4:=hmk w2
  clear hmk
  go_wp2_with fail
  refine h4.mono ?_;rintro e w' ⟨rfl,hw'⟩;obtain rfl:=hw'.symm;clear hw' h4
  have h5:=hrn w2 k02
  clear hrn
  go_wp2_with fail
  refine h5.mono ?_;rintro e w3 ⟨rfl,k3⟩
  have k03:=k02.trans k3
  clear h5 k02 k3
  go_wp2
  exact bodyPost_ret (v:=.float .f64 Z) (by simp [results,Tryz.results82,go_sem]) rfl ⟨rfl,k03⟩
theorem ord_neg9 (n:Bool) (m:Nat) (hm:m≤9218868437227405312) (z:m≠0):(FloatKind.f64.format.order (Fq.wD n m) 0 == some .lt) = n:=by
  have hz:(0:Nat) = Fq.wD false 0:=rfl
  have hord:FloatKind.f64.format.order (Fq.wD n m) 0 = some (compare (Fq.plz n m) 0):=by
    rw [hz,Fq.ordD n false m 0 hm (by decide)];rfl
  rw [hord]
  cases n
  · rw [Int.compare_eq_gt.2 (by unfold Fq.plz;simp;omega)];rfl
  · rw [Int.compare_eq_lt.2 (by unfold Fq.plz;simp;omega)];rfl
theorem psqrtQ_ (d:Int) (m:Nat) (c1:2580562586483294208≤m∧m≤6633802251116740608) (w:World) :
    Calls Tryz.prog 50 #[.int .i64 d,.float .f64 (Fq.wD false m)] w fun e w'=>e = .returned (.float .f64 (rootW d (Fq.vV Ieee.double m)))∧Kp w w':=by
  have h1:=mild_ false m (by omega) w
  rw [decide_eq_true c1] at h1
  have o1:=ord_neg9 false m (by omega) (by omega)
  obtain ⟨V,o,r,ro,K,hV,h3,r0,r8,q0,q1,g1,g2,K1,K2,kV⟩:=twoRoot_ m c1
  have h4:=steppedG_ d V false o false r ro K K1 K2 kV r0 r8 q0 q1 g1 g2
  rw [show sumW d V = rootW d (Fq.vV Ieee.double m) from by rw [hV];rfl] at h4
  obtain ⟨X,hX⟩:∃ X,X = Fq.wD false m:=⟨_,rfl⟩
  obtain ⟨Z,hZ⟩:∃ Z,Z = rootW d (Fq.vV Ieee.double m):=⟨_,rfl⟩
  obtain ⟨N,hN⟩:∃ N,N = Fq.wD false r:=⟨_,rfl⟩
  obtain ⟨O,hO⟩:∃ O,O = Fq.wD o ro:=⟨_,rfl⟩
  rw [← hX] at h1 o1
  rw [← hX,← hN,← hO] at h3
  rw [← hN,← hO,← hZ] at h4
  rw [← hX,← hZ]
  clear hX hZ hN hO c1 r0 r8 q0 q1 g1 g2 K1 K2 kV hV
  go_enter Tryz.func50,Tryz.ntmps50
  go_wp2
  refine wp_scope_straight ?_
  go_wp2_with fail
  refine h1.mono ?_;rintro e w' ⟨rfl,hw'⟩;obtain rfl:=hw'.symm;clear hw' h1
  have h5:=h3 w
  clear h3
  go_wp2_with fail
  refine h5.mono ?_;rintro e w' ⟨rfl,hw'⟩;obtain rfl:=hw'.symm;clear hw' h5
  have h6:=h4 w
  clear h4
  go_wp2_with fail
  refine h6.mono ?_;rintro e w1 ⟨rfl,k1⟩
  clear h6
  go_wp2
  try rw [Exit.noGoto_ret]
  exact bodyPost_ret (v:=.float .f64 Z) (by simp [results,Tryz.results50,go_sem]) rfl ⟨rfl,k1⟩
theorem psqrtE_ (d:Int) (m:Nat) (hm:m < 9218868437227405312) (z:m≠0) (ct:¬ (2580562586483294208≤m∧m≤6633802251116740608)) (w:World) (hQ:Fq.Tab w) (hd1:-9223372036854775808≤d) (hd2:d < 9223372036854775808) :
    Calls Tryz.prog 50 #[.int .i64 d,.float .f64 (Fq.wD false m)] w fun e w'=>e = .returned (.float .f64 (rootW d (Fq.vV Ieee.double m)))∧Kp w w':=by
  have h1:=mild_ false m (by omega) w
  have g1:=finite_ false m (by omega) w
  rw [decide_eq_true hm] at g1
  have o1:=ord_neg9 false m (by omega) z
  have o2:=Fq.eqzD false m (by omega)
  rw [show (m == 0) = false from by simp [z]] at o2
  obtain ⟨a,ea,a1,a2,a3,a4,ta⟩:=take_ false m hm
  rw [show (false && !(m == 0)) = false from rfl] at ta
  have za:a≠0:=fun h=>by rw [h,Nat.zero_mul] at a1;exact z ((vV_zero m).1 a1.symm)
  have hp:∀ (va:Value) (w1:World),Kp w w1→Ls w1 va (dig a)→Calls Tryz.prog 82 #[.int .i64 d,.agg #[.bool false,va,.int .i64 ea]] w1 fun e w'=>e = .returned (.float .f64 (rootW d (Fq.vV Ieee.double m)))∧Kp w1 w':=fun va w1 k l=>squareRoot_ d false a ea va w1 (Fq.Tab.grown hQ k) hd1 hd2 l a4 za a2 a3 _ a1
  have ta1:=ta w hQ
  obtain ⟨X,hX⟩:∃ X,X = Fq.wD false m:=⟨_,rfl⟩
  obtain ⟨Z,hZ⟩:∃ Z,Z = rootW d (Fq.vV Ieee.double m):=⟨_,rfl⟩
  rw [← hX] at h1 g1 o1 o2 ta1
  rw [← hZ] at hp
  rw [← hX,← hZ]
  have HT:Hid (2580562586483294208≤m∧m≤6633802251116740608→false = true):=fun h=>absurd h ct
  clear hX hZ a1 a2 a3 a4 ta hQ hd1 hd2 ct hm z za
  go_enter Tryz.func50,Tryz.ntmps50
  go_wp2
  refine wp_scope_jumps 0 (fun a' w'=>w' = w∧∃ u2 u3 u4 u5 u6 u7 u8 u9 u10 u11 u12 u13 u14 u15 u16 u17 u18 u19 u20 u21 u22 u23 u24 u25 u26 u27 u28 u29 u30 u31 u32 u33 u34 u35 u36:Value,a' = ⟨#[.int .i64 d,.float .f64 X,u2,u3,u4,u5,u6,u7,u8,u9,u10,u11,u12,u13,u14,u15,u16,u17,u18,u19,u20,u21,u22,u23,u24,u25,u26,u27,u28,u29,u30,u31,u32,u33,u34,u35,u36],[]⟩) (fun _ _=>0) rfl ?_ ?_
  · clear g1 ta1 hp o2
    by_cases c1:2580562586483294208≤m∧m≤6633802251116740608
    · rw [decide_eq_true c1] at h1
      replace o1:=o1.trans (HT.out c1)
      clear c1 HT
      go_wp2_with fail
      refine h1.mono ?_;rintro e w' ⟨rfl,hw'⟩;obtain rfl:=hw'.symm;clear hw' h1
      go_wp2_with fail
      go_step3
      exact ⟨rfl,rfl,_,_,_,_,_,_,_,_,_,_,_,_,_,_,_,_,_,_,_,_,_,_,_,_,_,_,_,_,_,_,_,_,_,_,_,rfl⟩
    · rw [decide_eq_false c1] at h1
      clear c1 HT o1
      go_wp2_with fail
      refine h1.mono ?_;rintro e w' ⟨rfl,hw'⟩;obtain rfl:=hw'.symm;clear hw' h1
      go_wp2_with fail
      go_step3
      exact ⟨rfl,rfl,_,_,_,_,_,_,_,_,_,_,_,_,_,_,_,_,_,_,_,_,_,_,_,_,_,_,_,_,_,_,_,_,_,_,_,rfl⟩
  · rintro a' w' ⟨rfl,u2,u3,u4,u5,u6,u7,u8,u9,u10,u11,u12,u13,u14,u15,u16,u17,u18,u19,u20,u21,u22,u23,u24,u25,u26,u27,u28,u29,u30,u31,u32,u33,u34,u35,u36,rfl⟩
    clear h1 HT
    go_wp2_with fail
    refine g1.mono ?_;rintro e w9 ⟨rfl,hw'⟩;obtain rfl:=hw'.symm;clear hw' g1
    go_wp2_with fail
    refine ta1.mono ?_;rintro e w1 ⟨va,rfl,lva,k1⟩
    have hp1:=hp va w1 k1 lva
    clear ta1 hp lva
    go_wp2_with fail
    refine hp1.mono ?_;rintro e w2 ⟨rfl,k2⟩
    have k02:=k1.trans k2
    clear hp1 k1 k2
    go_wp2
    try simp only [Exit.jump]
    exact bodyPost_ret (v:=.float .f64 Z) (by simp [results,Tryz.results50,go_sem]) rfl ⟨rfl,k02⟩
theorem sqrt_inf:FloatKind.f64.format.sqrt (Fq.wD false 9218868437227405312) = some (Fq.wD false 9218868437227405312):=by
  show Ieee.double.sqrt _ = _
  unfold Ieee.Format.sqrt
  rw [infD9]
  exact congrArg some (wrI9 false)
theorem sqrt_zero (n:Bool):FloatKind.f64.format.sqrt (Fq.wD n 0) = some (Fq.wD n 0):=by
  show Ieee.double.sqrt _ = _
  unfold Ieee.Format.sqrt
  obtain ⟨a,e,he,ha⟩:=finD9 n 0 (by decide)
  have a0:a = 0:=ha.2 rfl
  subst a0
  rw [he]
  unfold Ieee.Datum.root
  simp only [if_true,Option.map_some]
  unfold Ieee.Format.write Ieee.Format.nearest
  simp only [if_true]
  rw [wdD9]
theorem psqrtP_ (d:Int) (n:Bool) (m:Nat) (hm:m < 9223372036854775808) (hi:¬ (n = false∧m < 9218868437227405312∧m≠0)) (w w9:World) (RR R2:Nat) (hs:Calls Tryz.prog 81 #[.float .f64 (Fq.wD n m)] w fun e w'=>e = .returned (.float .f64 RR)∧w' = w9) (hk:Kp w w9) (hpl:Calls Tryz.prog 74 #[.float .f64 RR] w9 fun e w'=>e = .returned (.float .f64 R2)∧w' = w9) :
    Calls Tryz.prog 50 #[.int .i64 d,.float .f64 (Fq.wD n m)] w fun e w'=>e = .returned (.float .f64 R2)∧Kp w w':=by
  have h1:=mild_ n m hm w
  have g1:=finite_ n m hm w
  have o1:m≠0→m≤9218868437227405312→(FloatKind.f64.format.order (Fq.wD n m) 0 == some .lt) = n:=fun z h=>ord_neg9 n m h z
  have o2:=Fq.eqzD n m hm
  obtain ⟨X,hX⟩:∃ X,X = Fq.wD n m:=⟨_,rfl⟩
  rw [← hX] at h1 g1 o1 o2 hs ⊢
  have HT:Hid ((2580562586483294208≤m∧m≤6633802251116740608→n = true)∧(m < 9218868437227405312→m≠0→n = true)):=⟨fun h=>by cases n;exact absurd ⟨rfl,by omega,by omega⟩ hi;rfl,fun h z=>by cases n;exact absurd ⟨rfl,h,z⟩ hi;rfl⟩
  clear hX hi hm
  go_enter Tryz.func50,Tryz.ntmps50
  go_wp2
  refine wp_scope_jumps 0 (fun a' w'=>w' = w∧∃ u2 u3 u4 u5 u6 u7 u8 u9 u10 u11 u12 u13 u14 u15 u16 u17 u18 u19 u20 u21 u22 u23 u24 u25 u26 u27 u28 u29 u30 u31 u32 u33 u34 u35 u36:Value,a' = ⟨#[.int .i64 d,.float .f64 X,u2,u3,u4,u5,u6,u7,u8,u9,u10,u11,u12,u13,u14,u15,u16,u17,u18,u19,u20,u21,u22,u23,u24,u25,u26,u27,u28,u29,u30,u31,u32,u33,u34,u35,u36],[]⟩) (fun _ _=>0) rfl ?_ ?_
  · clear g1 o2 hs hpl
    by_cases c1:2580562586483294208≤m∧m≤6633802251116740608
    · rw [decide_eq_true c1] at h1
      have o3:(FloatKind.f64.format.order X 0 == some .lt) = true:=(o1 (by omega) (by omega)).trans (HT.out.1 c1)
      clear c1 HT o1
      go_wp2_with fail
      refine h1.mono ?_;rintro e w' ⟨rfl,hw'⟩;obtain rfl:=hw'.symm;clear hw' h1
      go_wp2_with fail
      go_step3
      exact ⟨rfl,rfl,_,_,_,_,_,_,_,_,_,_,_,_,_,_,_,_,_,_,_,_,_,_,_,_,_,_,_,_,_,_,_,_,_,_,_,rfl⟩
    · rw [decide_eq_false c1] at h1
      clear c1 HT o1
      go_wp2_with fail
      refine h1.mono ?_;rintro e w' ⟨rfl,hw'⟩;obtain rfl:=hw'.symm;clear hw' h1
      go_wp2_with fail
      go_step3
      exact ⟨rfl,rfl,_,_,_,_,_,_,_,_,_,_,_,_,_,_,_,_,_,_,_,_,_,_,_,_,_,_,_,_,_,_,_,_,_,_,_,rfl⟩
  · rintro a' w' ⟨rfl,u2,u3,u4,u5,u6,u7,u8,u9,u10,u11,u12,u13,u14,u15,u16,u17,u18,u19,u20,u21,u22,u23,u24,u25,u26,u27,u28,u29,u30,u31,u32,u33,u34,u35,u36,rfl⟩
    clear h1
    by_cases c1:m < 9218868437227405312
    · rw [decide_eq_true c1] at g1
      by_cases c2:m = 0
      · rw [show (m == 0) = true from by simp [c2]] at o2
        clear c1 c2 HT o1
        go_wp2_with fail
        refine g1.mono ?_;rintro e w7 ⟨rfl,hw'⟩;obtain rfl:=hw'.symm;clear hw' g1
        go_wp2_with fail
        refine hs.mono ?_;rintro e w8 ⟨rfl,hw'⟩;obtain rfl:=hw'.symm;clear hw' hs
        go_wp2_with fail
        refine hpl.mono ?_;rintro e w8 ⟨rfl,hw'⟩;obtain rfl:=hw'.symm;clear hw' hpl
        go_wp2
        try simp only [Exit.jump]
        exact bodyPost_ret (v:=.float .f64 R2) (by simp [results,Tryz.results50,go_sem]) rfl ⟨rfl,hk⟩
      · have o3:(FloatKind.f64.format.order X 0 == some .lt) = true:=(o1 c2 (by omega)).trans (HT.out.2 c1 c2)
        clear c1 c2 HT o1 o2
        go_wp2_with fail
        refine g1.mono ?_;rintro e w7 ⟨rfl,hw'⟩;obtain rfl:=hw'.symm;clear hw' g1
        go_wp2_with fail
        refine hs.mono ?_;rintro e w8 ⟨rfl,hw'⟩;obtain rfl:=hw'.symm;clear hw' hs
        go_wp2_with fail
        refine hpl.mono ?_;rintro e w8 ⟨rfl,hw'⟩;obtain rfl:=hw'.symm;clear hw' hpl
        go_wp2
        try simp only [Exit.jump]
        exact bodyPost_ret (v:=.float .f64 R2) (by simp [results,Tryz.results50,go_sem]) rfl ⟨rfl,hk⟩
    · rw [decide_eq_false c1] at g1
      clear c1 HT o1 o2
      go_wp2_with fail
      refine g1.mono ?_;rintro e w7 ⟨rfl,hw'⟩;obtain rfl:=hw'.symm;clear hw' g1
      go_wp2_with fail
      refine hs.mono ?_;rintro e w8 ⟨rfl,hw'⟩;obtain rfl:=hw'.symm;clear hw' hs
      go_wp2_with fail
      refine hpl.mono ?_;rintro e w8 ⟨rfl,hw'⟩;obtain rfl:=hw'.symm;clear hw' hpl
      go_wp2
      try simp only [Exit.jump]
      exact bodyPost_ret (v:=.float .f64 R2) (by simp [results,Tryz.results50,go_sem]) rfl ⟨rfl,hk⟩
end Go.Proofs.YtnileplkkmhdgaaGreatDoor
