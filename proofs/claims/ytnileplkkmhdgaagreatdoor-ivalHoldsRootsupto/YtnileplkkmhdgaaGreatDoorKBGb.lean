import Derived.Test.YtnileplkkmhdgaaGreatDoorKBGa
import Derived.Deep.DeepCutAuto
set_option maxHeartbeats 1000000
set_option maxRecDepth 20000
namespace Go.Proofs.YtnileplkkmhdgaaGreatDoor
open Go.RowKit
set_option linter.unusedVariables false
set_option linter.unusedSimpArgs false
theorem normB (v:Value) (L:List Int) (w:World) (h:Ls w v L) (hw:Wd L) (l:L.length≤8388608) :
    Calls Tryz.prog 45 #[v] w fun e w'=>∃ v',e = .returned v'∧Own w' w.heap.size v' (dig (val L))∧Kp w w':=by
  obtain ⟨p,c,rfl,hA,hc⟩:=h
  have h:=rnorm_ p c L w hA (by omega)
  rw [nz_dig L hw] at h
  exact h
theorem zerosB (v:Value) (a:Nat) (w:World) (h:Ls w v (dig a)) (l:blen a≤268435456) :
    Calls Tryz.prog 53 #[v] w fun e w'=>e = .returned (.int .i64 (ctz a:Nat))∧w' = w:=by
  obtain ⟨p,c,rfl,hA,hc⟩:=h
  have e1:=dlen a 8388608 (by omega)
  have h:=rzeros_ p c (dig a) w hA (Wd_dig a) (by omega)
  rw [val_dig] at h
  exact h
theorem rightB (v:Value) (a m:Nat) (w:World) (h:Ls w v (dig a)) (l:blen a≤268435456) (hm:m≤268435456) :
    Calls Tryz.prog 54 #[v,.int .i64 (m:Int)] w fun e w'=>∃ v' b,e = .returned (.tuple #[v',.bool b])∧Own w' w.heap.size v' (dig (a / 2 ^ m))∧Kp w w':=by
  obtain ⟨p,c,rfl,hA,hc⟩:=h
  have e1:=dlen a 8388608 (by omega)
  have h:=rrightB_ p c m (dig a) w hA (Wd_dig a) (by omega) (by omega)
  rw [val_dig] at h
  exact h.mono fun e w' ⟨v,h1,h2,h3⟩=>⟨v,_,h1,h2,h3⟩
theorem leftB (v:Value) (a m:Nat) (w:World) (h:Ls w v (dig a)) (l:blen a≤134217728) (hm:m≤134217728) :
    Calls Tryz.prog 55 #[v,.int .i64 (m:Int)] w fun e w'=>∃ v',e = .returned v'∧Own w' w.heap.size v' (dig (a * 2 ^ m))∧Kp w w':=by
  obtain ⟨p,c,rfl,hA,hc⟩:=h
  have h:=rleftB_ p c m (dig a) w hA (Wd_dig a) (Nat.le_trans (dlen a 4194304 (by omega)) (by omega)) hm
  rw [val_dig] at h
  exact h
theorem normRB (v:Value) (L:List Int) (w:World) (h:Ls w v L) (hw:Wd L) (l:L.length≤8388608) :
    Calls Tryz.prog 45 #[v] w fun e w'=>∃ v',e = .returned v'∧Ls w' v' (dig (val L))∧Kp w w':=by
  obtain ⟨p,c,rfl,hA,hc⟩:=h
  have h:=rnorm_ p c L w hA (by omega)
  rw [nz_dig L hw] at h
  exact h.mono fun e w' ⟨v,h1,h2,h3⟩=>⟨v,h1,h2.ls,h3⟩
set_option linter.unusedVariables false
set_option linter.unusedSimpArgs false
def FracT (a b:Nat) (exp:Int) (a' b':Nat):Prop:=FracOf a b exp a' b'∧(exp = 0→blen a'≤blen a∧blen b'≤blen b)
theorem fracB_ (neg:Bool) (vn vd:Value) (Ln Ld:List Int) (exp:Int) (w:World) (hn:Ls w vn Ln) (hd:Ls w vd Ld) (hwn:Wd Ln) (hwd:Wd Ld) (ln:Ln.length≤2097152) (ld:Ld.length≤2097152) (hb:val Ld≠0) (he:exp.natAbs≤67108864) :
    Calls Tryz.prog 27 #[.bool neg,vn,vd,.int .i64 exp] w fun e w'=>∃ (vn' vd':Value) (a' b':Nat) (ng:Bool),e = .returned (.agg #[.bool ng,vn',vd'])∧Own w' w.heap.size vn' (dig a')∧Own w' w.heap.size vd' (dig b')∧(FracT (val Ln) (val Ld) exp a' b'∧(val Ln≠0→ng = neg))∧Kp w w':=by
  obtain ⟨w0,hw0⟩:∃ w0,w0 = w.alloc (.cells #[.bool false,.slice none 0 0,.slice none 0 0] 27):=⟨_,rfl⟩
  have hk0:Kp w w0:=by rw [hw0];exact (Kp.refl w).alloc _
  obtain ⟨a,ha⟩:∃ a,a = val Ln:=⟨_,rfl⟩
  obtain ⟨b,hb9⟩:∃ b,b = val Ld:=⟨_,rfl⟩
  have hc:=normB vn Ln w0 (hn.kp hk0) hwn (by omega)
  have hc2:=fun w' (k:Kp w0 w')=>normB vd Ld w' ((hd.kp hk0).kp k) hwd (by omega)
  have la:blen a≤67108864:=by
    have:=blen_len a Ln.length (by rw [ha,← tl_len Ln hwn];exact tl_le Ln)
    omega
  have lb:blen b≤67108864:=by
    have:=blen_len b Ld.length (by rw [hb9,← tl_len Ld hwd];exact tl_le Ld)
    omega
  rw [← ha] at hc
  rw [← hb9] at hc2 hb
  rw [← ha,← hb9]
  have HLA:Hid (blen a≤67108864∧blen b≤67108864∧b≠0∧exp.natAbs≤67108864):=⟨la,lb,hb,he⟩
  have Hw0:Hid (w0 = w.alloc (.cells #[.bool false,.slice none 0 0,.slice none 0 0] 27)):=hw0
  clear hk0 ha hb9 hn hd hwn hwd ln ld la lb hb he
  by_cases cz:a = 0
  · subst cz
    rw [dig_zero] at hc
    go_enter Tryz.func27,Tryz.ntmps27
    go_wp2_with fail
    rw [← hw0]
    refine hc.mono ?_;rintro e w1 ⟨v1,rfl,hO,hk⟩
    obtain ⟨p1,c1,rfl,_⟩:=hO.len
    have hc3:=hc2 w1 hk
    have K0:Hid (Kp w0 w1):=hk
    clear hc hc2 hO hk hw0
    go_wp2_with fail
    refine hc3.mono ?_;rintro e w2 ⟨v2,rfl,hO,hk⟩
    replace K0:Hid (Kp w0 w2):=K0.out.trans hk
    clear hc3 hO hk
    obtain ⟨w3,hw3⟩:∃ w3,w3 = w2.alloc (.cells #[.int .u32 1] 72):=⟨_,rfl⟩
    obtain ⟨g3,hg3⟩:∃ g3,g3 = w2.heap.size:=⟨_,rfl⟩
    have O1:=own1 w2
    rw [← hw3,← hg3] at O1
    have hsz:=K0.out.size
    rw [← hg3] at hsz
    replace K0:Hid (Kp w0 w3):=K0.out.trans (by rw [hw3];exact (Kp.refl _).alloc _)
    have ON:Hid (Own w3 w0.heap.size (.slice none 0 0) (dig 0)):=by rw [dig_zero];exact Own.nil _ _
    have OD:Hid (Own w3 w0.heap.size (.slice (some ⟨g3,0,none⟩) 1 1) (dig 1)):=by
      rw [dig_one]
      exact O1.mono hsz
    have HFR:Hid (FracT 0 b exp 0 1):=⟨⟨by decide,by simp,fun _ _ _ h=>absurd rfl h,by rw [blen_zero];omega,by have:blen 1 = 1:=blen_uniq 1 0 (by decide) (by decide);omega⟩,fun _=>⟨Nat.le_refl _,by have h1:blen 1 = 1:=blen_uniq 1 0 (by decide) (by decide);have h2:=(blen_spec b HLA.out.2.2.1).2.2;omega⟩⟩
    have HW3:Hid (w2.alloc (.cells #[.int .u32 1] 72) = w3∧w2.heap.size = g3):=⟨hw3.symm,hg3.symm⟩
    clear O1 hsz hw3 hg3
    have hlt:w.heap.size < w0.heap.size:=by rw [Hw0.out];simp
    have k0:=kkeep K0.out (b:=w.heap.size) (o:=0) (v:=.bool false) (by rw [Hw0.out];simp [go_sem])
    have z0:w3.frozen? ⟨w.heap.size,0,none⟩ = false:=by rw [Below.frozen K0.out hlt,Hw0.out];simp [go_sem]
    have k1:=kkeep K0.out (b:=w.heap.size) (o:=1) (v:=.slice none 0 0) (by rw [Hw0.out];simp [go_sem])
    have z1:w3.frozen? ⟨w.heap.size,1,none⟩ = false:=by rw [Below.frozen K0.out hlt,Hw0.out];simp [go_sem]
    have k2:=kkeep K0.out (b:=w.heap.size) (o:=2) (v:=.slice none 0 0) (by rw [Hw0.out];simp [go_sem])
    have z2:w3.frozen? ⟨w.heap.size,2,none⟩ = false:=by rw [Below.frozen K0.out hlt,Hw0.out];simp [go_sem]
    have hk9:Kp w w0:=by rw [Hw0.out];exact (Kp.refl w).alloc _
    have hk0:Kp w w3:=hk9.trans K0.out
    have HZ:Hid (Own (((w3.setCell ⟨w.heap.size,0,none⟩ (.bool false)).setCell ⟨w.heap.size,1,none⟩ (.slice none 0 0)).setCell ⟨w.heap.size,2,none⟩ (.slice (some ⟨g3,0,none⟩) 1 1)) w.heap.size (.slice none 0 0) (dig (0))∧Own (((w3.setCell ⟨w.heap.size,0,none⟩ (.bool false)).setCell ⟨w.heap.size,1,none⟩ (.slice none 0 0)).setCell ⟨w.heap.size,2,none⟩ (.slice (some ⟨g3,0,none⟩) 1 1)) w.heap.size (.slice (some ⟨g3,0,none⟩) 1 1) (dig (1))∧Kp w (((w3.setCell ⟨w.heap.size,0,none⟩ (.bool false)).setCell ⟨w.heap.size,1,none⟩ (.slice none 0 0)).setCell ⟨w.heap.size,2,none⟩ (.slice (some ⟨g3,0,none⟩) 1 1))):=⟨((((ON.out.setOther hlt (.bool false)).setOther hlt (.slice none 0 0)).setOther hlt (.slice (some ⟨g3,0,none⟩) 1 1))).mono (Nat.le_of_lt hlt),((((OD.out.setOther hlt (.bool false)).setOther hlt (.slice none 0 0)).setOther hlt (.slice (some ⟨g3,0,none⟩) 1 1))).mono (Nat.le_of_lt hlt),(((hk0.setCell (Nat.le_refl _) (.bool false)).setCell (Nat.le_refl _) (.slice none 0 0)).setCell (Nat.le_refl _) (.slice (some ⟨g3,0,none⟩) 1 1))⟩
    clear hk0 hlt hk9
    obtain ⟨q1,q2⟩:=HW3.out
    subst q1
    subst q2
    clear HW3
    go_wp2
    exact bodyPost_ret (v:=.agg #[.bool false,.slice none 0 0,.slice (some ⟨w2.heap.size,0,none⟩) 1 1]) (by simp [results,Tryz.results27,go_sem] <;> simp [go_sem, *]) rfl ⟨_,_,0,1,false,rfl,HZ.out.1,HZ.out.2.1,⟨HFR.out,fun h=>absurd rfl h⟩,HZ.out.2.2⟩
  · have HA0:Hid (a≠0):=cz
    obtain ⟨a1,ho1,ea,da,hka⟩:=ctz_odd a cz
    obtain ⟨b1,ho2,eb,db,hkb⟩:=ctz_odd b HLA.out.2.2.1
    obtain ⟨ka,hka9⟩:∃ ka,ka = ctz a:=⟨_,rfl⟩
    obtain ⟨kb,hkb9⟩:∃ kb,kb = ctz b:=⟨_,rfl⟩
    rw [← hka9] at ea da hka
    rw [← hkb9] at eb db hkb
    obtain ⟨e1,he1⟩:∃ e1:Int,e1 = exp + ka:=⟨_,rfl⟩
    obtain ⟨ex,hex⟩:∃ ex:Int,ex = e1 - kb:=⟨_,rfl⟩
    obtain ⟨x,hx⟩:∃ x,x = ex.toNat:=⟨_,rfl⟩
    obtain ⟨y,hy⟩:∃ y,y = (-ex).toNat:=⟨_,rfl⟩
    have hfr:=frac_of a b a1 b1 ka kb x y exp ex (by omega) (by omega) ea eb hka hkb (by rw [hex,he1]) hx hy
    have HFR:Hid (FracT a b exp (a1 * 2 ^ x) (b1 * 2 ^ y)):=⟨hfr,fun h0=>by
      have q1:blen a = blen a1 + ka:=by rw [ea,blen_mul _ _ (by omega)]
      have q2:blen b = blen b1 + kb:=by rw [eb,blen_mul _ _ (by omega)]
      rw [blen_mul _ _ (by omega),blen_mul _ _ (by omega),q1,q2]
      omega⟩
    have hla:=HLA.out
    have ba1:blen a1≤blen a:=by rw [ea,blen_mul _ _ (by omega)];omega
    have bb1:blen b1≤blen b:=by rw [eb,blen_mul _ _ (by omega)];omega
    have HB1:Hid (blen a1≤134217728∧blen b1≤134217728∧x≤134217728∧y≤134217728):=⟨by omega,by omega,by omega,by omega⟩
    have g1:wrap64 (exp + (ka:Int)) = e1:=by rw [← he1];exact w64x _ (by omega) (by omega)
    have g2:wrap64 (e1 - (kb:Int)) = ex:=by rw [← hex];exact w64x _ (by omega) (by omega)
    have HX:Hid (x = ex.toNat∧y = (-ex).toNat):=⟨hx,hy⟩
    have HD:Hid (a / 2 ^ ka = a1∧b / 2 ^ kb = b1∧ka = ctz a∧kb = ctz b∧ka≤67108864∧kb≤67108864):=⟨da,db,hka9,hkb9,by omega,by omega⟩
    have hlz:=dig_len_zero a
    obtain ⟨M,hM⟩:∃ M,M = (dig a).length:=⟨_,rfl⟩
    rw [← hM] at hlz
    have t0:¬ ((M:Int) = 0):=by have:=mt hlz.1 cz;omega
    have HM:Hid (M = (dig a).length):=hM
    clear hfr hla ba1 bb1 ho1 ho2 ea da hka eb db hkb hka9 hkb9 he1 hex hx hy hlz hM cz
    go_enter Tryz.func27,Tryz.ntmps27
    go_wp2_with fail
    rw [← hw0]
    refine hc.mono ?_;rintro e w1 ⟨v1,rfl,hO,hk⟩
    obtain ⟨p1,c1,rfl,_⟩:=hO.len
    have OA:Hid (Own w1 w0.heap.size (.slice p1 (dig a).length c1) (dig a)):=hO
    rw [← HM.out] at OA ⊢
    have hc3:=hc2 w1 hk
    have K0:Hid (Kp w0 w1):=hk
    clear hc hc2 hO hk hw0
    go_wp2_with fail
    refine hc3.mono ?_;rintro e w2 ⟨v2,rfl,hO,hk⟩
    have OB:Hid (Own w2 w0.heap.size v2 (dig b)):=hO.mono K0.out.size
    replace OA:Hid (Own w2 w0.heap.size (.slice p1 M c1) (dig a)):=OA.out.kp hk
    replace K0:Hid (Kp w0 w2):=K0.out.trans hk
    clear hc3 hO hk
    have hc:=zerosB (.slice p1 M c1) a w2 OA.out.ls (by have:=HLA.out;omega)
    rw [← HD.out.2.2.1] at hc
    go_wp2_with fail
    refine hc.mono ?_;rintro e w' ⟨rfl,hw'⟩;obtain rfl:=hw'.symm;clear hc hw'
    have hc:=rightB (.slice p1 M c1) a ka w2 OA.out.ls (by have:=HLA.out;omega) (by have:=HD.out;omega)
    rw [HD.out.1] at hc
    go_wp2_with fail
    refine hc.mono ?_;rintro e w3 ⟨v3,bb,rfl,hO,hk⟩
    replace OA:Hid (Own w3 w0.heap.size v3 (dig a1)):=hO.mono K0.out.size
    replace OB:Hid (Own w3 w0.heap.size v2 (dig b)):=OB.out.kp hk
    replace K0:Hid (Kp w0 w3):=K0.out.trans hk
    clear hc hO hk
    have hc:=zerosB v2 b w3 OB.out.ls (by have:=HLA.out;omega)
    rw [← HD.out.2.2.2.1] at hc
    go_wp2_with fail
    refine hc.mono ?_;rintro e w' ⟨rfl,hw'⟩;obtain rfl:=hw'.symm;clear hc hw'
    have hc:=rightB v2 b kb w3 OB.out.ls (by have:=HLA.out;omega) (by have:=HD.out;omega)
    rw [HD.out.2.1] at hc
    go_wp2_with fail
    refine hc.mono ?_;rintro e w4 ⟨v4,bb2,rfl,hO,hk⟩
    replace OB:Hid (Own w4 w0.heap.size v4 (dig b1)):=hO.mono K0.out.size
    replace OA:Hid (Own w4 w0.heap.size v3 (dig a1)):=OA.out.kp hk
    replace K0:Hid (Kp w0 w4):=K0.out.trans hk
    clear hc hO hk
    by_cases cx:0 < ex
    · have hx9:ex = (x:Int):=by have:=HX.out;omega
      have hc:=leftB v3 a1 x w4 OA.out.ls HB1.out.1 HB1.out.2.2.1
      rw [← hx9] at hc
      have t1:0 < ex:=cx
      have t2:¬ ex < 0:=by omega
      have HY0:Hid (y = 0):=by have:=HX.out;show _ = _;omega
      clear hx9 cx
      go_wp2_with fail
      try rw [g2]
      refine hc.mono ?_;rintro e w5 ⟨v5,rfl,hO,hk⟩
      have ON:Hid (Own w5 w0.heap.size v5 (dig (a1 * 2 ^ x))):=hO.mono K0.out.size
      have OD:Hid (Own w5 w0.heap.size v4 (dig (b1 * 2 ^ y))):=by rw [HY0.out,Nat.pow_zero,Nat.mul_one];exact OB.out.kp hk
      replace K0:Hid (Kp w0 w5):=K0.out.trans hk
      clear hc hO hk OA OB
      obtain ⟨pN,cN,hvN,_⟩:=ON.out.len
      obtain ⟨NN,hNN⟩:∃ NN,NN = (dig (a1 * 2 ^ x)).length:=⟨_,rfl⟩
      rw [← hNN] at hvN
      subst hvN
      clear hNN
      obtain ⟨pD,cD,hvD,_⟩:=OD.out.len
      obtain ⟨ND,hND⟩:∃ ND,ND = (dig (b1 * 2 ^ y)).length:=⟨_,rfl⟩
      rw [← hND] at hvD
      subst hvD
      clear hND
      have hlt:w.heap.size < w0.heap.size:=by rw [Hw0.out];simp
      have k0:=kkeep K0.out (b:=w.heap.size) (o:=0) (v:=.bool false) (by rw [Hw0.out];simp [go_sem])
      have z0:w5.frozen? ⟨w.heap.size,0,none⟩ = false:=by rw [Below.frozen K0.out hlt,Hw0.out];simp [go_sem]
      have k1:=kkeep K0.out (b:=w.heap.size) (o:=1) (v:=.slice none 0 0) (by rw [Hw0.out];simp [go_sem])
      have z1:w5.frozen? ⟨w.heap.size,1,none⟩ = false:=by rw [Below.frozen K0.out hlt,Hw0.out];simp [go_sem]
      have k2:=kkeep K0.out (b:=w.heap.size) (o:=2) (v:=.slice none 0 0) (by rw [Hw0.out];simp [go_sem])
      have z2:w5.frozen? ⟨w.heap.size,2,none⟩ = false:=by rw [Below.frozen K0.out hlt,Hw0.out];simp [go_sem]
      have hk9:Kp w w0:=by rw [Hw0.out];exact (Kp.refl w).alloc _
      have hk0:Kp w w5:=hk9.trans K0.out
      have HZ:Hid (Own (((w5.setCell ⟨w.heap.size,0,none⟩ (.bool neg)).setCell ⟨w.heap.size,1,none⟩ (.slice pN NN cN)).setCell ⟨w.heap.size,2,none⟩ (.slice pD ND cD)) w.heap.size (.slice pN NN cN) (dig (a1 * 2 ^ x))∧Own (((w5.setCell ⟨w.heap.size,0,none⟩ (.bool neg)).setCell ⟨w.heap.size,1,none⟩ (.slice pN NN cN)).setCell ⟨w.heap.size,2,none⟩ (.slice pD ND cD)) w.heap.size (.slice pD ND cD) (dig (b1 * 2 ^ y))∧Kp w (((w5.setCell ⟨w.heap.size,0,none⟩ (.bool neg)).setCell ⟨w.heap.size,1,none⟩ (.slice pN NN cN)).setCell ⟨w.heap.size,2,none⟩ (.slice pD ND cD))):=⟨((((ON.out.setOther hlt (.bool neg)).setOther hlt (.slice pN NN cN)).setOther hlt (.slice pD ND cD))).mono (Nat.le_of_lt hlt),((((OD.out.setOther hlt (.bool neg)).setOther hlt (.slice pN NN cN)).setOther hlt (.slice pD ND cD))).mono (Nat.le_of_lt hlt),(((hk0.setCell (Nat.le_refl _) (.bool neg)).setCell (Nat.le_refl _) (.slice pN NN cN)).setCell (Nat.le_refl _) (.slice pD ND cD))⟩
      clear hk0 hlt hk9
      go_wp2
      exact bodyPost_ret (v:=.agg #[.bool neg,.slice pN NN cN,.slice pD ND cD]) (by simp [results,Tryz.results27,go_sem] <;> simp [go_sem, *]) rfl ⟨_,_,a1 * 2 ^ x,b1 * 2 ^ y,neg,rfl,HZ.out.1,HZ.out.2.1,⟨HFR.out,fun _=>rfl⟩,HZ.out.2.2⟩
    · by_cases cx2:ex < 0
      · have hx9:wrap64 (-ex) = (y:Int):=by rw [show -ex = (y:Int) from by have:=HX.out;omega];exact w64x _ (by omega) (by have:=HB1.out;omega)
        have hc:=leftB v4 b1 y w4 OB.out.ls HB1.out.2.1 HB1.out.2.2.2
        have t1:¬ 0 < ex:=by omega
        have t2:ex < 0:=cx2
        have HY0:Hid (x = 0):=by have:=HX.out;show _ = _;omega
        clear cx cx2
        go_wp2_with fail
        try rw [g2]
        try rw [hx9]
        refine hc.mono ?_;rintro e w5 ⟨v5,rfl,hO,hk⟩
        have OD:Hid (Own w5 w0.heap.size v5 (dig (b1 * 2 ^ y))):=hO.mono K0.out.size
        have ON:Hid (Own w5 w0.heap.size v3 (dig (a1 * 2 ^ x))):=by rw [HY0.out,Nat.pow_zero,Nat.mul_one];exact OA.out.kp hk
        replace K0:Hid (Kp w0 w5):=K0.out.trans hk
        clear hc hO hk OA OB
        obtain ⟨pN,cN,hvN,_⟩:=ON.out.len
        obtain ⟨NN,hNN⟩:∃ NN,NN = (dig (a1 * 2 ^ x)).length:=⟨_,rfl⟩
        rw [← hNN] at hvN
        subst hvN
        clear hNN
        obtain ⟨pD,cD,hvD,_⟩:=OD.out.len
        obtain ⟨ND,hND⟩:∃ ND,ND = (dig (b1 * 2 ^ y)).length:=⟨_,rfl⟩
        rw [← hND] at hvD
        subst hvD
        clear hND
        have hlt:w.heap.size < w0.heap.size:=by rw [Hw0.out];simp
        have k0:=kkeep K0.out (b:=w.heap.size) (o:=0) (v:=.bool false) (by rw [Hw0.out];simp [go_sem])
        have z0:w5.frozen? ⟨w.heap.size,0,none⟩ = false:=by rw [Below.frozen K0.out hlt,Hw0.out];simp [go_sem]
        have k1:=kkeep K0.out (b:=w.heap.size) (o:=1) (v:=.slice none 0 0) (by rw [Hw0.out];simp [go_sem])
        have z1:w5.frozen? ⟨w.heap.size,1,none⟩ = false:=by rw [Below.frozen K0.out hlt,Hw0.out];simp [go_sem]
        have k2:=kkeep K0.out (b:=w.heap.size) (o:=2) (v:=.slice none 0 0) (by rw [Hw0.out];simp [go_sem])
        have z2:w5.frozen? ⟨w.heap.size,2,none⟩ = false:=by rw [Below.frozen K0.out hlt,Hw0.out];simp [go_sem]
        have hk9:Kp w w0:=by rw [Hw0.out];exact (Kp.refl w).alloc _
        have hk0:Kp w w5:=hk9.trans K0.out
        have HZ:Hid (Own (((w5.setCell ⟨w.heap.size,0,none⟩ (.bool neg)).setCell ⟨w.heap.size,1,none⟩ (.slice pN NN cN)).setCell ⟨w.heap.size,2,none⟩ (.slice pD ND cD)) w.heap.size (.slice pN NN cN) (dig (a1 * 2 ^ x))∧Own (((w5.setCell ⟨w.heap.size,0,none⟩ (.bool neg)).setCell ⟨w.heap.size,1,none⟩ (.slice pN NN cN)).setCell ⟨w.heap.size,2,none⟩ (.slice pD ND cD)) w.heap.size (.slice pD ND cD) (dig (b1 * 2 ^ y))∧Kp w (((w5.setCell ⟨w.heap.size,0,none⟩ (.bool neg)).setCell ⟨w.heap.size,1,none⟩ (.slice pN NN cN)).setCell ⟨w.heap.size,2,none⟩ (.slice pD ND cD))):=⟨((((ON.out.setOther hlt (.bool neg)).setOther hlt (.slice pN NN cN)).setOther hlt (.slice pD ND cD))).mono (Nat.le_of_lt hlt),((((OD.out.setOther hlt (.bool neg)).setOther hlt (.slice pN NN cN)).setOther hlt (.slice pD ND cD))).mono (Nat.le_of_lt hlt),(((hk0.setCell (Nat.le_refl _) (.bool neg)).setCell (Nat.le_refl _) (.slice pN NN cN)).setCell (Nat.le_refl _) (.slice pD ND cD))⟩
        clear hk0 hlt hk9
        go_wp2
        exact bodyPost_ret (v:=.agg #[.bool neg,.slice pN NN cN,.slice pD ND cD]) (by simp [results,Tryz.results27,go_sem] <;> simp [go_sem, *]) rfl ⟨_,_,a1 * 2 ^ x,b1 * 2 ^ y,neg,rfl,HZ.out.1,HZ.out.2.1,⟨HFR.out,fun _=>rfl⟩,HZ.out.2.2⟩
      · have t1:¬ 0 < ex:=by omega
        have t2:¬ ex < 0:=cx2
        have HY0:Hid (x = 0∧y = 0):=by have:=HX.out;exact ⟨by omega,by omega⟩
        clear cx cx2
        have ON:Hid (Own w4 w0.heap.size v3 (dig (a1 * 2 ^ x))):=by rw [HY0.out.1,Nat.pow_zero,Nat.mul_one];exact OA.out
        have OD:Hid (Own w4 w0.heap.size v4 (dig (b1 * 2 ^ y))):=by rw [HY0.out.2,Nat.pow_zero,Nat.mul_one];exact OB.out
        clear OA OB
        obtain ⟨pN,cN,hvN,_⟩:=ON.out.len
        obtain ⟨NN,hNN⟩:∃ NN,NN = (dig (a1 * 2 ^ x)).length:=⟨_,rfl⟩
        rw [← hNN] at hvN
        subst hvN
        clear hNN
        obtain ⟨pD,cD,hvD,_⟩:=OD.out.len
        obtain ⟨ND,hND⟩:∃ ND,ND = (dig (b1 * 2 ^ y)).length:=⟨_,rfl⟩
        rw [← hND] at hvD
        subst hvD
        clear hND
        have hlt:w.heap.size < w0.heap.size:=by rw [Hw0.out];simp
        have k0:=kkeep K0.out (b:=w.heap.size) (o:=0) (v:=.bool false) (by rw [Hw0.out];simp [go_sem])
        have z0:w4.frozen? ⟨w.heap.size,0,none⟩ = false:=by rw [Below.frozen K0.out hlt,Hw0.out];simp [go_sem]
        have k1:=kkeep K0.out (b:=w.heap.size) (o:=1) (v:=.slice none 0 0) (by rw [Hw0.out];simp [go_sem])
        have z1:w4.frozen? ⟨w.heap.size,1,none⟩ = false:=by rw [Below.frozen K0.out hlt,Hw0.out];simp [go_sem]
        have k2:=kkeep K0.out (b:=w.heap.size) (o:=2) (v:=.slice none 0 0) (by rw [Hw0.out];simp [go_sem])
        have z2:w4.frozen? ⟨w.heap.size,2,none⟩ = false:=by rw [Below.frozen K0.out hlt,Hw0.out];simp [go_sem]
        have hk9:Kp w w0:=by rw [Hw0.out];exact (Kp.refl w).alloc _
        have hk0:Kp w w4:=hk9.trans K0.out
        have HZ:Hid (Own (((w4.setCell ⟨w.heap.size,0,none⟩ (.bool neg)).setCell ⟨w.heap.size,1,none⟩ (.slice pN NN cN)).setCell ⟨w.heap.size,2,none⟩ (.slice pD ND cD)) w.heap.size (.slice pN NN cN) (dig (a1 * 2 ^ x))∧Own (((w4.setCell ⟨w.heap.size,0,none⟩ (.bool neg)).setCell ⟨w.heap.size,1,none⟩ (.slice pN NN cN)).setCell ⟨w.heap.size,2,none⟩ (.slice pD ND cD)) w.heap.size (.slice pD ND cD) (dig (b1 * 2 ^ y))∧Kp w (((w4.setCell ⟨w.heap.size,0,none⟩ (.bool neg)).setCell ⟨w.heap.size,1,none⟩ (.slice pN NN cN)).setCell ⟨w.heap.size,2,none⟩ (.slice pD ND cD))):=⟨((((ON.out.setOther hlt (.bool neg)).setOther hlt (.slice pN NN cN)).setOther hlt (.slice pD ND cD))).mono (Nat.le_of_lt hlt),((((OD.out.setOther hlt (.bool neg)).setOther hlt (.slice pN NN cN)).setOther hlt (.slice pD ND cD))).mono (Nat.le_of_lt hlt),(((hk0.setCell (Nat.le_refl _) (.bool neg)).setCell (Nat.le_refl _) (.slice pN NN cN)).setCell (Nat.le_refl _) (.slice pD ND cD))⟩
        clear hk0 hlt hk9
        go_wp2
        exact bodyPost_ret (v:=.agg #[.bool neg,.slice pN NN cN,.slice pD ND cD]) (by simp [results,Tryz.results27,go_sem] <;> simp [go_sem, *]) rfl ⟨_,_,a1 * 2 ^ x,b1 * 2 ^ y,neg,rfl,HZ.out.1,HZ.out.2.1,⟨HFR.out,fun _=>rfl⟩,HZ.out.2.2⟩
end Go.Proofs.YtnileplkkmhdgaaGreatDoor
