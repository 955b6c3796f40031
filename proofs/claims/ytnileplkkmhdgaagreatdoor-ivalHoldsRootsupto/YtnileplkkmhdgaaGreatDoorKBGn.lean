import Derived.Test.YtnileplkkmhdgaaGreatDoorKGRa
set_option maxHeartbeats 1000000
set_option maxRecDepth 20000
namespace Go.Proofs.YtnileplkkmhdgaaGreatDoor
open Go.RowKit
set_option linter.unusedVariables false
set_option linter.unusedVariables false
theorem empty9_ (w:World):Calls Tryz.prog 34 #[] w fun e w'=>e = .returned (.agg #[.float .f64 9218868437227405312,.float .f64 18442240474082181120])∧Kp w w':=by
  refine (Fq.empty6_ w).mono ?_
  exact fun e w' h=>⟨h.1,by first | exact h.2 | (rw [h.2];exact (Kp.refl _).alloc _)⟩
theorem lt0_pw (x:Int) (hx:BdZ x):(FloatKind.f64.format.order (pw x) 0 == some Ordering.lt) = decide (x < 0):=by
  have h:=plt9 x 0 hx (by unfold BdZ;omega)
  rw [show pw 0 = 0 from rfl] at h
  exact h
theorem lackingR_ (n s n':Bool) (m r m' e ey ex L:Nat) (hm:m < 9218868437227405312) (hr:r < 9218868437227405312) (hm':m' < 9218868437227405312) (he:e≤1960) (hey:ey≤1960) (s1:1074≤e + ey) (s2:e + ey≤2944) (hL:L = 1074) (p2:e + ey - L≤ex) (x2:ex≤1472) (hxx:(Iv n m).natAbs < 9007199254740992 * 2 ^ ex)
    (hU:((2 ^ e:Nat):Int) ∣ Iv s r∧4503599627370496 * 2 ^ e≤(Iv s r).natAbs∧(Iv s r).natAbs < 9007199254740992 * 2 ^ e) (hU':((2 ^ ey:Nat):Int) ∣ Iv n' m'∧4503599627370496 * 2 ^ ey≤(Iv n' m').natAbs∧(Iv n' m').natAbs < 9007199254740992 * 2 ^ ey)
    (hfit:∀ V2:Int,V2 * ((2 ^ L:Nat):Int) = Iv s r * Iv n' m'→(((1125899906842624 * 2 ^ (e + ey - L):Nat):Int) ∣ Iv n m∧((2 ^ (e + ey - L):Nat):Int) ∣ V2∧(Iv n m - V2).natAbs≤9007199254740992 * 2 ^ (e + ey - L)∧20282409603651670423947251286016 * 2 ^ (e + ey - L)≤V2.natAbs∧V2.natAbs < 81129638414606681695789005144064 * 2 ^ (e + ey - L))) :
    ∃ (V2:Int) (f:Bool) (fr:Nat),V2 * ((2 ^ L:Nat):Int) = Iv s r * Iv n' m'∧fr < 9218868437227405312∧Iv f fr = Iv n m - V2∧∀ w:World,Calls Tryz.prog 104 #[.float .f64 (Fq.wD n m),.float .f64 (Fq.wD s r),.float .f64 (Fq.wD n' m')] w fun e w'=>e = .returned (.float .f64 (Fq.wD f fr))∧w' = w:=by
  obtain ⟨V2,p,o,pr,ro,K,zV,h3,r0,r8,q0,q1,hex,K1,K2,kV⟩:=twoProduct_ s n' r m' e ey hr hm' he hey s1 s2 hU.1 hU.2.1 hU.2.2 hU'.1 hU'.2.1 hU'.2.2 L hL
  obtain ⟨d1,d2,d3,d4,d5⟩:=hfit V2 zV
  obtain ⟨W,hW⟩:∃ W,W = 2 ^ (e + ey - L):=⟨_,rfl⟩
  rw [← hW] at d1 d2 d3 d4 d5
  obtain ⟨K5,hK5⟩:∃ K5:Nat,K5 = 1600:=⟨_,rfl⟩
  have kx:(Iv n m).natAbs < 2 ^ K5:=by
    refine Nat.lt_of_lt_of_le hxx ?_
    rw [← pw53,← Nat.pow_add]
    exact Nat.pow_le_pow_right (by decide) (by omega)
  have kV5:V2.natAbs < 2 ^ K5:=by
    refine Nat.lt_of_lt_of_le d5 ?_
    rw [show (81129638414606681695789005144064:Nat) = 2 ^ 106 from by decide,hW,← Nat.pow_add]
    exact Nat.pow_le_pow_right (by decide) (by omega)
  obtain ⟨s9,r9,T9,_,_,n9,e9,e9',l0⟩:=op_nr V2 (s ^^ n') K5 (by omega) (by omega) kV5
  rw [show s9 = p from e9'.trans q1.symm,show r9 = pr from e9.trans q0.symm] at n9 l0
  obtain ⟨t,tr,T1,w1,t1,n1,_,_,l1⟩:=op_nr (Iv n m - Iv p pr) (n && !p) (K5 + 2) (by omega) (by omega) (lt_sub9 kx l0 (by omega)).2
  have lo:(Iv o ro).natAbs < 2 ^ (K5 + 2):=by rw [hex];exact (lt_sub9 kV5 l0 (by omega)).2
  obtain ⟨f,fr,T2,w2,t2,n2,_,_,l2⟩:=op_nr (Iv t tr - Iv o ro) (t && !o) (K5 + 4) (by omega) (by omega) (lt_add9 l1 lo (by omega)).2
  have hfin:=lack_exact2 ⟨_,hW⟩ d1 d2 d3 d4 d5 n9 hex n1 n2
  have g1:=sub_w n p m pr hm r0 _ rfl
  have g2:=sub_w t o tr ro t1 r8 _ rfl
  rw [w1] at g1
  rw [w2] at g2
  refine ⟨V2,f,fr,zV,t2,hfin,fun w=>?_⟩
  clear zV r0 r8 q0 q1 hex K1 K2 kV d1 d2 d3 d4 d5 hW hK5 kx kV5 n9 e9 e9' l0 w1 t1 n1 l1 lo w2 t2 n2 l2 hfin hU hU' hfit hm hr hm' he hey s1 s2 hL p2 x2 hxx
  obtain ⟨X,hX⟩:∃ X,X = Fq.wD n m:=⟨_,rfl⟩
  obtain ⟨Y,hY⟩:∃ Y,Y = Fq.wD s r:=⟨_,rfl⟩
  obtain ⟨Z,hZ⟩:∃ Z,Z = Fq.wD n' m':=⟨_,rfl⟩
  obtain ⟨P,hP⟩:∃ P,P = Fq.wD p pr:=⟨_,rfl⟩
  obtain ⟨O,hO⟩:∃ O,O = Fq.wD o ro:=⟨_,rfl⟩
  obtain ⟨D,hD⟩:∃ D,D = Fq.wD t tr:=⟨_,rfl⟩
  obtain ⟨G,hG⟩:∃ G,G = Fq.wD f fr:=⟨_,rfl⟩
  rw [← hX,← hP,← hD] at g1
  rw [← hD,← hO,← hG] at g2
  rw [← hY,← hZ,← hP,← hO] at h3
  rw [← hX,← hY,← hZ,← hG]
  have f1:∀ w:World,(binOp .sub 34 (.float .f64 X) (.float .f64 P)).run Tryz.prog w = .ok (.float .f64 D) w:=fun w=>run_float_arith w .sub 34 .f64 X P D g1
  have f2:∀ w:World,(binOp .sub 34 (.float .f64 D) (.float .f64 O)).run Tryz.prog w = .ok (.float .f64 G) w:=fun w=>run_float_arith w .sub 34 .f64 D O G g2
  clear hX hY hZ hP hO hD hG g1 g2
  go_enter Tryz.func104,Tryz.ntmps104
  go_wp2_with fail
  refine (h3 _).mono ?_;rintro e w' ⟨rfl,hw'⟩;obtain rfl:=hw'.symm;clear hw' h3
  go_wp2
  exact bodyPost_ret (v:=.float .f64 G) (by simp [results,Tryz.results104,go_sem]) rfl ⟨rfl,rfl⟩
theorem sqrt_run (X:Nat) (w:World):(callFunc 105 #[.float .f64 X]).run Tryz.prog w = ((match FloatKind.f64.format.sqrt X with | some r=>(pure (.float .f64 r):Sem Value) | none=>(do pure (.float .f64 (← choose (.nanBits .f64 X X))))) >>= fun v=>(pure (.value v):Sem _)).run Tryz.prog w:=by kernel_rfl
theorem sqrt_ok (X Z:Nat) (h:FloatKind.f64.format.sqrt X = some Z) (w:World):(callFunc 105 #[.float .f64 X]).run Tryz.prog w = .ok (.value (.float .f64 Z)) w:=by
  rw [sqrt_run,h]
  rfl
theorem msqrt_ (X Z:Nat) (h:FloatKind.f64.format.sqrt X = some Z) (w:World):Calls Tryz.prog 81 #[.float .f64 X] w fun e w'=>e = .returned (.float .f64 Z)∧w' = w:=by
  have h1:=fun w=>sqrt_ok X Z h w
  clear h
  go_enter Tryz.func81,Tryz.ntmps81
  go_wp2
  exact bodyPost_ret (v:=.float .f64 Z) (by simp [results,Tryz.results81,go_sem]) rfl ⟨rfl,rfl⟩
theorem twoRoot_ (m:Nat) (c1:2580562586483294208≤m∧m≤6633802251116740608) :
    ∃ (V:Int) (o:Bool) (r ro K:Nat),V = ((rtH (Fq.vV Ieee.double m):Nat):Int)∧(∀ w:World,Calls Tryz.prog 80 #[.float .f64 (Fq.wD false m)] w fun e w'=>e = .returned (.tuple #[.float .f64 (Fq.wD false r),.float .f64 (Fq.wD o ro)])∧w' = w)∧r < 9218868437227405312∧ro < 9218868437227405312∧r = rgU 53 (rU 0 53 V.natAbs 1)∧false = (if V = 0 then false else decide (V < 0))∧(Fq.plz o ro < 0 ↔ V - Iv false r < 0)∧(0 < Fq.plz o ro ↔ 0 < V - Iv false r)∧53≤K∧K≤2096∧V.natAbs < 2 ^ K:=by
  obtain ⟨L,hL⟩:∃ L:Nat,L = 1074:=⟨_,rfl⟩
  obtain ⟨V,r,K,e,ex,hV,hsq,r0,e0,e0',K1,K2,kV,⟨p1,p3,p4,p5,p6⟩,hu1,hxx,hfit⟩:=root_all m c1.1 c1.2 L hL
  obtain ⟨V2,f,fr,zV,f0,hf,hl⟩:=lackingR_ false false false m r r e e ex L (by omega) r0 r0 p1 p1 p3 p4 hL p5 p6 hxx hu1 hu1 (fun V2 h=>(hfit V2 h).1)
  obtain ⟨g1,g2⟩:=(hfit V2 zV).2
  rw [← hf] at g1 g2
  obtain ⟨i1,i2⟩:=iv_plz f fr
  refine ⟨V,f,r,fr,K,hV,fun w=>?_,r0,f0,e0,e0',i1.symm.trans g1,i2.symm.trans g2,K1,K2,kV⟩
  have hs:=msqrt_ _ _ hsq w
  have hl1:=hl w
  obtain ⟨X,hX⟩:∃ X,X = Fq.wD false m:=⟨_,rfl⟩
  obtain ⟨S,hS⟩:∃ S,S = Fq.wD false r:=⟨_,rfl⟩
  obtain ⟨G,hG⟩:∃ G,G = Fq.wD f fr:=⟨_,rfl⟩
  rw [← hX,← hS] at hs
  rw [← hX,← hS,← hG] at hl1
  rw [← hX,← hS,← hG]
  clear hX hS hG hf zV hfit hxx hu1 hV kV e0 e0' g1 g2 i1 i2 c1 hsq hl
  go_enter Tryz.func80,Tryz.ntmps80
  go_wp2_with fail
  refine hs.mono ?_;rintro e w' ⟨rfl,hw'⟩;obtain rfl:=hw'.symm;clear hw' hs
  go_wp2_with fail
  refine hl1.mono ?_;rintro e w' ⟨rfl,hw'⟩;obtain rfl:=hw'.symm;clear hw' hl1
  go_wp2
  exact bodyPost_ret (v:=.tuple #[.float .f64 S,.float .f64 G]) (by simp [results,Tryz.results80,go_sem]) rfl ⟨rfl,rfl⟩
theorem residue_ (x:Int) (h1:-4096≤x) (h2:x≤4096) (w:World):Calls Tryz.prog 137 #[.int .i64 x,.int .i64 2] w fun e w'=>e = .returned (.int .i64 (x % 2))∧w' = w:=by
  have ht:x.tmod 2 = x % 2∨x.tmod 2 = x % 2 - 2:=by
    rcases Int.lt_or_le x 0 with c | c
    · have e:x.tmod 2 = -((-x) % 2):=by
        have e1:=Int.neg_tmod (-x) 2
        rw [Int.neg_neg] at e1
        rw [e1,Int.tmod_eq_emod_of_nonneg (show 0≤-x by omega)]
      omega
    · left;exact Int.tmod_eq_emod_of_nonneg c
  obtain ⟨y,hy⟩:∃ y,y = x.tmod 2:=⟨_,rfl⟩
  have hy2:x.tmod 2 = y:=hy.symm
  rw [← hy] at ht
  have q1:wrap64 y = y:=w64x _ (by omega) (by omega)
  have q2:wrap64 (y + 2) = y + 2:=w64x _ (by omega) (by omega)
  have q3:(y + 2).tmod 2 = x % 2:=by rw [Int.tmod_eq_emod_of_nonneg (by omega)];omega
  have q4:(y + 2) % 2 = x % 2:=by omega
  have q5:wrap64 (x % 2) = x % 2:=w64x _ (by omega) (by omega)
  have q6:0≤y + 2:=by omega
  clear hy ht
  go_enter Tryz.func137,Tryz.ntmps137
  go_wp2
  exact bodyPost_ret (v:=.int .i64 (x % 2)) (by simp [results,Tryz.results137,go_sem]) rfl ⟨rfl,rfl⟩
theorem stretched_ (s:Bool) (a:Nat) (ea:Int) (va:Value) (w:World) (ha:Ls w va (dig a)) (la:a < 9007199254740992) (za:a≠0) (ea1:-1074≤ea) (ea2:ea≤2048) (u0 up ex:Int) (hu0:u0 = 107 - (blen a:Int)) (hup:up = u0 + (ea - u0) % 2) (hex:ex = (ea - up) / 2) :
    Calls Tryz.prog 106 #[.agg #[.bool s,va,.int .i64 ea],.int .i64 2] w fun e w'=>∃ v,e = .returned (.tuple #[v,.int .i64 ex])∧Ls w' v (dig (a * 2 ^ up.toNat))∧Kp w w':=by
  obtain ⟨pa,ca,rfl,ha,hca⟩:=ha
  obtain ⟨La,hLa⟩:∃ La,La = (dig a).length:=⟨_,rfl⟩
  rw [← hLa]
  have ba:blen a≤53:=by rw [blen_le_iff,show (2:Nat) ^ 53 = 9007199254740992 from by decide];exact la
  have lsa:len32 a≤2:=dlen a 2 (by omega)
  obtain ⟨B,hB⟩:∃ B,B = w.heap.size:=⟨_,rfl⟩
  obtain ⟨w0,hw0⟩:∃ w0,w0 = w.alloc (.cells #[.bool s,.slice pa La ca,.int .i64 ea] 88):=⟨_,rfl⟩
  have hk9:Kp w w0:=by rw [hw0];exact (Kp.refl w).alloc _
  have x1:w0.cell? ⟨B,1,none⟩ = some (.slice pa La ca):=by rw [hw0,hB];simp [go_sem]
  have x2:w0.cell? ⟨B,2,none⟩ = some (.int .i64 ea):=by rw [hw0,hB];simp [go_sem]
  have h1:=nlen_ pa ca (dig a) w0 (ha.grown hk9) (Wd_dig a) (by change len32 a≤_;omega) hca
  rw [val_dig,← hLa] at h1
  have h2:=residue_ (ea - u0) (by omega) (by omega) w0
  have h3:=nshl_ pa ca (dig a) w0 up (ha.grown hk9) (Wd_dig a) (by change len32 a≤_;omega) hca
  rw [val_dig,← hLa] at h3
  have hs:shlN a up = (dig (a * 2 ^ up.toNat),0):=by
    unfold shlN
    rw [if_neg (by omega),if_neg (by omega),if_neg za,if_neg (by omega)]
  rw [hs] at h3
  obtain ⟨bl,hbl⟩:∃ bl,bl = blen a:=⟨_,rfl⟩
  rw [← hbl] at h1 hu0 ba
  have w1:wrap64 (107 - (bl:Int)) = u0:=by rw [← hu0];exact w64x _ (by omega) (by omega)
  have w2:wrap64 (ea - u0) = ea - u0:=w64x _ (by omega) (by omega)
  have w3:wrap64 (u0 + (ea - u0) % 2) = up:=by rw [← hup];exact w64x _ (by omega) (by omega)
  have w4:wrap64 (ea - up) = ea - up:=w64x _ (by omega) (by omega)
  have w5:IntKind.i64.wrap (ea - up) = ea - up:=by simp [IntKind.wrap,IntKind.bits,IntKind.signed];omega
  have e2:ea - up = 2 * ex:=by omega
  have t1:(ea - up).tdiv 2 = ex:=by rw [e2];exact Int.mul_tdiv_cancel_left ex (by decide)
  clear e2
  have w6:wrap64 ex = ex:=w64x _ (by omega) (by omega)
  have w7:IntKind.i64.wrap ex = ex:=by simp [IntKind.wrap,IntKind.bits,IntKind.signed];omega
  have HW:Hid (w0 = w.alloc (.cells #[.bool s,.slice pa La ca,.int .i64 ea] 88)∧B = w.heap.size∧Kp w w0):=⟨hw0,hB,hk9⟩
  have HU:Hid (0≤bl∧u0 = 107 - (bl:Int)∧up = u0 + (ea - u0) % 2∧ex = (ea - up) / 2):=⟨Nat.zero_le _,hu0,hup,hex⟩
  clear hw0 hB hk9 ha hca hLa la lsa ba hbl hs za hu0 hup hex
  go_enter Tryz.func106,Tryz.ntmps106
  go_wp2_with fail
  rw [← HW.out.2.1]
  try rw [← HW.out.1]
  try go_wp2_with fail
  refine h1.mono ?_;rintro e w' ⟨rfl,hw'⟩;obtain rfl:=hw'.symm;clear hw' h1
  go_wp2_with fail
  refine h2.mono ?_;rintro e w' ⟨rfl,hw'⟩;obtain rfl:=hw'.symm;clear hw' h2
  go_wp2_with fail
  refine h3.mono ?_;rintro e wz ⟨v,rfl,ho,k1⟩
  have hls:=ho.ls
  obtain ⟨pv,cv,rfl,hav,hcv⟩:=ho.arr
  replace x2:=kkeep k1 x2
  have kk:=HW.out.2.2.trans k1
  obtain ⟨LV,hLV⟩:∃ LV,LV = (dig (a * 2 ^ up.toNat)).length:=⟨_,rfl⟩
  rw [← hLV] at hls ⊢
  have HL:Hid (Ls wz (.slice pv LV cv) (dig (a * 2 ^ up.toNat))∧Kp w wz):=⟨hls,kk⟩
  clear h3 ho hav hcv hLV k1 kk hls x1
  go_upto_region 4 with fail
  go_region_held3 (fun w'=>w'.cell? ⟨B,2,none⟩ = some (.int .i64 ea)) (exact x2) (fail)
  go_wp2
  exact bodyPost_ret (v:=.tuple #[.slice pv LV cv,.int .i64 ex]) (by simp [results,Tryz.results106,go_sem]) rfl ⟨_,rfl,HL.out.1.kp (Kp.refl _).drew,HL.out.2.drew⟩

def Sm (K a:Nat):Prop:=a < 4294967296 ^ K
theorem Sm.mono {K J a:Nat} (h:Sm K a) (hk:K≤J):Sm J a:=Nat.lt_of_lt_of_le h (Nat.pow_le_pow_right (by decide) hk)
theorem Sm.add {K a b:Nat} (h:Sm K a) (k:Sm K b):Sm (K + 1) (a + b):=by
  unfold Sm at *
  rw [Nat.pow_succ]
  generalize 4294967296 ^ K = P at *
  omega
theorem Sm.mul {K J a b:Nat} (h:Sm K a) (k:Sm J b):Sm (K + J) (a * b):=by
  unfold Sm at *
  rw [Nat.pow_add]
  by_cases e:b = 0
  · subst e
    rw [Nat.mul_zero]
    exact Nat.mul_pos (Nat.pow_pos (by decide)) (Nat.pow_pos (by decide))
  · exact Nat.mul_lt_mul_of_lt_of_le h (Nat.le_of_lt k) (by omega)
theorem Sm.one {K:Nat} (h:0 < K):Sm K 1:=Nat.one_lt_pow (by omega) (by decide)
theorem Sm.len {K a:Nat} (h:Sm K a):len32 a≤K:=by
  by_cases c:len32 a≤K
  · exact c
  · exfalso
    have:=len32_lt a K (by omega)
    unfold Sm at h
    omega
theorem Sm.val {xs:List Int} (h:Wd xs):Sm xs.length (Go.Proofs.YtnileplkkmhdgaaGreatDoor.val xs):=val_lt xs h
def LsN (w:World) (v:Value) (L:List Int):Prop:=∃ p c,v = .slice p L.length c∧Arr w p L∧L.length≤c
theorem LsN.kp {w w':World} {v:Value} {L:List Int} (h:LsN w v L) (k:Kp w w'):LsN w' v L:=by
  obtain ⟨p,c,e,hA,hc⟩:=h
  exact ⟨p,c,e,hA.grown k,hc⟩
theorem Own.lsN {w:World} {base:Nat} {v:Value} {L:List Int} (h:Own w base v L):LsN w v L:=by
  obtain ⟨p,c,e,hA,hc⟩:=h.arr
  exact ⟨p,c,e,hA,hc⟩
theorem sl32t (b off h N c:Nat) (hc:h≤c) (w:World):(Instr.slice 25 (.slice (some ⟨b,off,none⟩) N c) none (some (.int .i64 (h:Int))) none).run Tryz.prog w = .ok (.slice (some ⟨b,off,none⟩) h c) w:=by
  rw [run_slice_h w 25 (some ⟨b,off,none⟩) N c Tryz.underlying25 .i64 (h:Int) (by omega) (by omega)]
  have e:(sizeOf (Tryz.prog.elem 25)).run Tryz.prog w = .ok 1 w:=by kernel_rfl
  rw [e]
  simp [Result.andThen,sliced,Addr.add_lit]
theorem remnant_ (p:Option Addr) (c m:Nat) (xs:List Int) (w:World) (hx:Arr w p xs) (hwx:Wd xs) (lx:xs.length≤1048576) (hc:xs.length≤c) (ho:m / 32 < xs.length) :
    Calls Tryz.prog 163 #[.slice p xs.length c,.int .i64 (m:Int)] w fun e w'=>∃ v,e = .returned v∧Own w' w.heap.size v (dig (val xs % 2 ^ m))∧Kp w w':=by
  obtain ⟨o,ho9⟩:∃ o,o = m / 32:=⟨_,rfl⟩
  obtain ⟨s,hs⟩:∃ s,s = m % 32:=⟨_,rfl⟩
  rw [← ho9] at ho
  have hms:m = 32 * o + s:=by omega
  have hs32:s < 32:=by omega
  have f1:(m:Int) / 32 = (o:Int):=by omega
  have f2:(m:Int) % 32 = (s:Int):=by omega
  obtain ⟨b,off,rfl,hcell⟩:=hx.at (k:=o) ho
  have hfr:=fresh_ (some ⟨b,off,none⟩) c (xs.take (o + 1)) w (hx.take _) (by rw [List.length_take];omega)
  have hlt:(xs.take (o + 1)).length = o + 1:=by rw [List.length_take];omega
  rw [hlt] at hfr
  have wx:=hwx o
  obtain ⟨X,hX⟩:∃ X:Nat,(X:Int) = xs.getD o 0:=⟨_,Int.toNat_of_nonneg wx.1⟩
  have hrv:=rem_val xs hwx o s X hs32 ho (by rw [← hX];rfl)
  rw [← hms] at hrv
  have hsl:=sl32t b off (o + 1) xs.length c (by omega)
  rw [show ((o + 1:Nat):Int) = (o:Int) + 1 from by omega] at hsl
  obtain ⟨P,hP⟩:∃ P,P = 2 ^ s:=⟨_,rfl⟩
  have hP0:0 < P:=by rw [hP];exact Nat.pow_pos (by omega)
  have hP32:P < 4294967296:=by
    rw [hP]
    have:(2:Nat) ^ s < 2 ^ 32:=Nat.pow_lt_pow_right (by decide) hs32
    exact this
  obtain ⟨P1,hP1⟩:∃ P1,P1 = P - 1:=⟨_,rfl⟩
  have hPc:((2:Int) ^ s) = (P:Int):=by rw [hP];norm_cast
  have g1:IntKind.u32.wrap ((2:Int) ^ s) = (P:Int):=by rw [hPc,IntKind.wrap_u32];omega
  have g1b:IntKind.u32.wrap (1 * (2:Int) ^ s) = (P:Int):=by rw [Int.one_mul];exact g1
  have g2:IntKind.u32.wrap ((P:Int) - 1) = (P1:Int):=by rw [IntKind.wrap_u32];omega
  obtain ⟨Z,hZ⟩:∃ Z,Z = X % 2 ^ s:=⟨_,rfl⟩
  have hZ32:Z < 4294967296:=by have:=Nat.mod_le X (2 ^ s);omega
  have g3:bits BinOp.and IntKind.u32 (X:Int) (P1:Int) = (Z:Int):=by
    rw [u32_and_nat X P1 (by omega) (by omega),hP1,hP,Nat.and_two_pow_sub_one_eq_mod,← hZ]
  rw [← hZ] at hrv
  obtain ⟨ys,hys⟩:∃ ys,ys = xs.take (o + 1):=⟨_,rfl⟩
  rw [← hys] at hfr hlt hrv
  have hwy:Wd ys:=by rw [hys];exact hwx.take _
  have hyX:ys.getD o 0 = (X:Int):=by rw [hys,hX];simp [List.getD]
  obtain ⟨N,hN⟩:∃ N,N = xs.length:=⟨_,rfl⟩
  rw [← hN] at hsl
  rw [← hN]
  have lo:o≤1048576:=by omega
  have i0:(0:Int)≤(o:Int):=by omega
  have i1:(o:Int) < (o:Int) + 1:=by omega
  have i2:(0:Int)≤(s:Int):=by omega
  have HY:Hid (ys.length = o + 1∧Wd ys∧ys.getD o 0 = (X:Int)∧val (ys.set o (Z:Int)) = val xs % 2 ^ m∧Z < 4294967296):=⟨hlt,hwy,hyX,hrv,hZ32⟩
  clear hx hwx lx hc ho ho9 hs hms hs32 hcell hlt wx hX hrv hP hP0 hP32 hP1 hPc hZ hZ32 hys hwy hyX hN
  go_enter Tryz.func163,Tryz.ntmps163
  go_wp2_with fail
  refine hfr.mono ?_
  rintro e w1 ⟨g,rfl,hg,hR,hk⟩
  obtain ⟨hyl,hwy,hyX,hyv,hZ32⟩:=HY.out
  have e1:=World.rowIs.cell hR (i:=o) (by omega)
  rw [hyX] at e1
  have e4:=World.rowIs.frozen hR o
  have hR2:Rw (w1.setCell ⟨g,o,none⟩ (.int .u32 (Z:Int))).drew g (o + 1) (ys.set o (Z:Int)):=hR.set o (Z:Int) (by omega)
  have hK2:Kp w (w1.setCell ⟨g,o,none⟩ (.int .u32 (Z:Int))).drew:=(hk.setCell hg _).drew
  have hl2:(ys.set o (Z:Int)).length = o + 1:=by rw [List.length_set];exact hyl
  have hw2:Wd (ys.set o (Z:Int)):=hwy.set o Z (by omega)
  have htr:=trim_ (some ⟨g,0,none⟩) (o + 1) (ys.set o (Z:Int)) _ (hR2.all hl2) (by omega) (by omega)
  have hO:Own (w1.setCell ⟨g,o,none⟩ (.int .u32 (Z:Int))).drew w.heap.size (.slice (some ⟨g,0,none⟩) (tl (ys.set o (Z:Int))) (o + 1)) (dig (val xs % 2 ^ m)):=by
    have h1:=Own.of_row (base:=w.heap.size) (k:=tl (ys.set o (Z:Int))) hR2 hg (by have:=tl_le (ys.set o (Z:Int));omega) hl2 (by unfold maxLen;omega)
    have h2:(ys.set o (Z:Int)).take (tl (ys.set o (Z:Int))) = dig (val xs % 2 ^ m):=by rw [← hyv,← nz_dig _ hw2];rfl
    rw [h2] at h1
    exact h1
  rw [hl2] at htr
  obtain ⟨T,hT⟩:∃ T,T = tl (ys.set o (Z:Int)):=⟨_,rfl⟩
  rw [← hT] at htr hO
  have HZ:Hid (Own (w1.setCell ⟨g,o,none⟩ (.int .u32 (Z:Int))).drew w.heap.size (.slice (some ⟨g,0,none⟩) T (o + 1)) (dig (val xs % 2 ^ m))∧Kp w (w1.setCell ⟨g,o,none⟩ (.int .u32 (Z:Int))).drew):=⟨hO,hK2⟩
  clear hfr HY hyl hwy hyX hyv hZ32 hR2 hK2 hl2 hw2 hO hT hR hk hg hsl
  go_wp2
  first | (go_region_with (fail)) | fail
  all_goals
    clear e1 e4 g1 g1b g2 g3
    go_wp2_with (first | (go_at_call 120;refine htr.mono ?_;rintro e w' ⟨rfl,hw'⟩;obtain rfl:=hw'.symm))
    exact bodyPost_ret (v:=.slice (some ⟨g,0,none⟩) T (o + 1)) (by simp [results,Tryz.results163,go_sem]) rfl ⟨_,rfl,HZ.out.1,HZ.out.2⟩
theorem raised0_ (p:Option Addr) (c:Nat) (m:Int) (w:World) :
    Calls Tryz.prog 123 #[.slice p 0 c,.int .i64 m] w fun e w'=>∃ v,e = .returned v∧Own w' w.heap.size v []∧Kp w w':=by
  go_enter Tryz.func123,Tryz.ntmps123
  go_wp2
  exact bodyPost_ret (v:=.slice none 0 0) (by simp [results,Tryz.results123,go_sem]) rfl ⟨_,rfl,Own.nil _ _,Kp.refl _⟩
theorem LsN.len {w:World} {v:Value} {L:List Int} (h:LsN w v L):∃ p c,v = .slice p L.length c∧Arr w p L∧L.length≤c:=h
theorem raisedB (v:Value) (a m:Nat) (w:World) (h:LsN w v (dig a)) (l:(dig a).length≤1048576) (hm:m≤16777216) :
    Calls Tryz.prog 123 #[v,.int .i64 (m:Int)] w fun e w'=>∃ v',e = .returned v'∧Own w' w.heap.size v' (dig (a * 2 ^ m))∧Kp w w':=by
  obtain ⟨p,c,rfl,hA,hc⟩:=h
  by_cases e0:(dig a).length = 0
  · have ha:=(dig_len_zero a).1 e0
    have h:=raised0_ p c (m:Int) w
    rw [e0,ha,Nat.zero_mul,dig_zero]
    exact h
  have h:=raised_ p c m (dig a) w hA (Wd_dig a) (by omega) l hm
  rw [val_dig] at h
  exact h
theorem loweredB (v:Value) (a m:Nat) (w:World) (h:LsN w v (dig a)) (l:(dig a).length≤1048576) (hm9:(m:Int) < 9223372036854775808) :
    Calls Tryz.prog 161 #[v,.int .i64 (m:Int)] w fun e w'=>∃ v',e = .returned v'∧Own w' w.heap.size v' (dig (a / 2 ^ m))∧Kp w w':=by
  obtain ⟨p,c,rfl,hA,hc⟩:=h
  have h:=lowered_ p c m (dig a) w hA (Wd_dig a) l hc hm9
  rw [val_dig] at h
  exact h
theorem remB (v:Value) (a m:Nat) (w:World) (h:LsN w v (dig a)) (l:(dig a).length≤1048576) (ho:m / 32 < (dig a).length) :
    Calls Tryz.prog 163 #[v,.int .i64 (m:Int)] w fun e w'=>∃ v',e = .returned v'∧Own w' w.heap.size v' (dig (a % 2 ^ m))∧Kp w w':=by
  obtain ⟨p,c,rfl,hA,hc⟩:=h
  have h:=remnant_ p c m (dig a) w hA (Wd_dig a) l hc ho
  rw [val_dig] at h
  exact h
theorem sumB (v1 v2:Value) (a b:Nat) (w:World) (h1:LsN w v1 (dig a)) (h2:LsN w v2 (dig b)) (l1:(dig a).length≤1048576) (l2:(dig b).length≤1048576) :
    Calls Tryz.prog 125 #[v1,v2] w fun e w'=>∃ v',e = .returned v'∧Own w' w.heap.size v' (dig (a + b))∧Kp w w':=by
  obtain ⟨p,c,rfl,hA,hc⟩:=h1
  obtain ⟨q,d,rfl,hB,hd⟩:=h2
  have h:=sum_any p q c d (dig a) (dig b) w hA hB (Wd_dig a) (Wd_dig b) (by omega) (by omega)
  rw [val_dig,val_dig] at h
  exact h
theorem prodB (v1 v2:Value) (a b:Nat) (w:World) (h1:LsN w v1 (dig a)) (h2:LsN w v2 (dig b)) (l1:(dig a).length≤1048576) (l2:(dig b).length≤1048576) :
    Calls Tryz.prog 133 #[v1,v2] w fun e w'=>∃ v',e = .returned v'∧Own w' w.heap.size v' (dig (a * b))∧Kp w w':=by
  obtain ⟨p,c,rfl,hA,hc⟩:=h1
  obtain ⟨q,d,rfl,hB,hd⟩:=h2
  have h:=product_ p q c d (dig a) (dig b) w hA hB (Wd_dig a) (Wd_dig b) (by omega) (by omega)
  rw [val_dig,val_dig] at h
  exact h
theorem diffB (v1 v2:Value) (a b:Nat) (w:World) (h1:LsN w v1 (dig a)) (h2:LsN w v2 (dig b)) (l1:(dig a).length≤1048576) (_l2:(dig b).length≤1048576) (hle:b≤a) :
    Calls Tryz.prog 128 #[v1,v2] w fun e w'=>∃ v',e = .returned v'∧Own w' w.heap.size v' (dig (a - b))∧Kp w w':=by
  obtain ⟨p,c,rfl,hA,hc⟩:=h1
  obtain ⟨q,d,rfl,hB,hd⟩:=h2
  have h:=diff_ p q c d (dig a) (dig b) w hA hB (Wd_dig a) (Wd_dig b) (by omega) (len32_mono hle) (by rw [val_dig,val_dig];exact hle)
  rw [val_dig,val_dig] at h
  exact h
theorem cmpB (v1 v2:Value) (a b:Nat) (w:World) (h1:LsN w v1 (dig a)) (h2:LsN w v2 (dig b)) (l1:(dig a).length≤1048576) (l2:(dig b).length≤1048576) :
    Calls Tryz.prog 96 #[v1,v2] w fun e w'=>e = .returned (.int .i64 (cmpN a b))∧Kp w w':=by
  obtain ⟨p,c,rfl,hA,hc⟩:=h1
  obtain ⟨q,d,rfl,hB,hd⟩:=h2
  have h:=ncmp_ p q c d (dig a) (dig b) w hA hB (Wd_dig a) (Wd_dig b) (by omega) (by omega) hc hd
  rw [val_dig,val_dig] at h
  exact h
theorem quoB (v1 v2:Value) (a b:Nat) (w:World) (h1:LsN w v1 (dig a)) (h2:LsN w v2 (dig b)) (l1:(dig a).length≤1048576) (l2:(dig b).length≤1048576) (h0:0 < b) :
    Calls Tryz.prog 162 #[v1,v2] w fun e w'=>∃ q r,e = .returned (.tuple #[q,r])∧LsN w' q (dig (a / b))∧LsN w' r (dig (a % b))∧Kp w w':=by
  obtain ⟨p,c,rfl,hA,hc⟩:=h1
  obtain ⟨q,d,rfl,hB,hd⟩:=h2
  have h:=quotient_ p q c d (dig a) (dig b) w hA hB (by rw [val_dig]) (by rw [val_dig]) l1 l2 hc hd (by rw [val_dig];exact h0)
  rw [val_dig,val_dig] at h
  exact h.mono fun e w' ⟨v,he,⟨p1,c1,p2,c2,e2,o1,o2,_⟩,hk⟩=>⟨_,_,by rw [he,e2],o1.lsN,o2.lsN,hk⟩
end Go.Proofs.YtnileplkkmhdgaaGreatDoor
