import Derived.Test.YtcfnialfpblfmaaGreatDoorKWSb
set_option maxHeartbeats 1000000
set_option maxRecDepth 20000
namespace Go.Proofs.YtcfnialfpblfmaaGreatDoor
open Go.RowKit
set_option linter.unusedVariables false
theorem rpower0_ (p:Option Addr) (c m:Nat) (xs:List Int) (w:World) (hx:Arr w p xs) (hwx:Wd xs) (lx:xs.length≤16777216) (ha:val xs≤0) (hK:len32 (val xs ^ m)≤16777216) (hm9:m≤1048576) :
    Calls Tryz.prog 68 #[.slice p xs.length c,.int .i64 (m:Int)] w fun e w'=>∃ v,e = .returned v∧Own w' w.heap.size v (dig (val xs ^ m))∧Kp w w':=by
  have hno:=fun w' (k:Kp w w')=>rnorm_ p c xs w' (hx.grown k) (by omega)
  have htm:∀ (x y:Nat) (p1 p2:Option Addr) (c1 c2:Nat) (w':World),len32 x≤16777216→len32 y≤16777216→Arr w' p1 (dig x)→Arr w' p2 (dig y) →
      Calls Tryz.prog 70 #[.slice p1 (dig x).length c1,.slice p2 (dig y).length c2] w' fun e w''=>∃ v,e = .returned v∧Own w'' w'.heap.size v (dig (x * y))∧Kp w' w'':=fun x y p1 p2 c1 c2 w' hx hy h1 h2=>by
    have:=rtimes_ p1 p2 c1 c2 (dig x) (dig y) w' h1 h2 (Wd_dig _) (Wd_dig _) hx hy
    rw [val_dig,val_dig] at this
    exact this
  have HT:Hid (∀ (x y:Nat) (p1 p2:Option Addr) (c1 c2:Nat) (w':World),len32 x≤16777216→len32 y≤16777216→Arr w' p1 (dig x)→Arr w' p2 (dig y) →
      Calls Tryz.prog 70 #[.slice p1 (dig x).length c1,.slice p2 (dig y).length c2] w' fun e w''=>∃ v,e = .returned v∧Own w'' w'.heap.size v (dig (x * y))∧Kp w' w''):=htm
  rw [nz_dig xs hwx] at hno
  obtain ⟨a,hA⟩:∃ a,a = val xs:=⟨_,rfl⟩
  obtain ⟨N,hN⟩:∃ N,N = xs.length:=⟨_,rfl⟩
  rw [← hA] at hno ha hK ⊢
  rw [← hN] at hno ⊢
  obtain ⟨R,hR⟩:∃ R,R = a ^ m:=⟨_,rfl⟩
  rw [← hR] at hK ⊢
  have hO1:=own1 w
  have hk1:Kp w (w.alloc (.cells #[.int .u32 1] 81)):=(Kp.refl w).alloc _
  have h1:=hno _ hk1
  have HR:Hid (R = a ^ m∧len32 R≤16777216∧a≤0):=⟨hR,hK,ha⟩
  clear htm hno hx hwx lx hA hN hR hK ha
  go_enter Tryz.func68,Tryz.ntmps68
  go_wp2_with fail
  refine h1.mono ?_;rintro e w1 ⟨v1,rfl,hOx,hk2⟩
  have HO:Hid (Own w1 w.heap.size (.slice (some ⟨w.heap.size,0,none⟩) 1 1) (dig 1)∧Own w1 w.heap.size v1 (dig a)∧Kp w w1):=⟨by rw [dig_one];exact hO1.kp hk2,hOx.mono hk1.size,hk1.trans hk2⟩
  clear h1 hOx hk2 hO1 hk1
  go_wp2
  go_loopw [1,5,6] (fun nn pp xx wr=>∃ (k P X:Nat) (v u:Value),nn = .int .i64 (k:Int)∧v = pp∧u = xx∧Own wr w.heap.size v (dig P)∧Own wr w.heap.size u (dig X)∧P * X ^ k = R∧P≤1∧X≤0∧Kp w wr∧k≤m) (fun nn _ _ _=>(intOf nn).toNat)
  case atStart=>exact ⟨m,1,a,_,_,rfl,rfl,rfl,HO.out.1,HO.out.2.1,by rw [Nat.one_mul];exact HR.out.1.symm,Nat.le_refl _,HR.out.2.2,HO.out.2.2,Nat.le_refl _⟩
  case round =>
    clear HO
    obtain ⟨k,P,X,v,u,rfl,rfl,rfl,hOp,hOx,hPX,hP,hX,hkp,hkm⟩:=hrel
    by_cases ck:k = 0
    · subst ck
      rw [Nat.pow_zero,Nat.mul_one] at hPX
      subst hPX
      clear HT HR hP hX hOx
      go_wp2
      exact bodyPost_ret (v:=v) (by simp [results,Tryz.results68,go_sem] <;> simp only [*]) rfl ⟨_,rfl,hOp,hkp⟩
    · have t1:(0:Int) < (k:Int):=by omega
      have hlR:=HR.out.2.1
      have hXk:True:=trivial
      have hXk1:True:=trivial
      have hPR:True:=trivial
      have hXR:True:=trivial
      have lP:len32 P≤16777216:=Nat.le_trans (len32_mono hP) (by rw [len32_one];decide)
      have lX:len32 X≤16777216:=Nat.le_trans (len32_mono (show X≤1 by omega)) (by rw [len32_one];decide)
      obtain ⟨h,hh⟩:∃ h,h = k / 2:=⟨_,rfl⟩
      have fh:(k:Int) / 2 = (h:Int):=by omega
      have hhb:h≤1048576:=by omega
      obtain ⟨p1,c1,rfl,hAp,_⟩:=hOp.arr
      obtain ⟨p2,c2,rfl,hAx,_⟩:=hOx.arr
      have hX2:X * X = X ^ 2:=by rw [Nat.pow_succ,Nat.pow_one]
      have hXX:X * X≤0:=by rw [show X = 0 by omega];exact Nat.le_refl _
      have hhk:h < k:=by omega
      have hsq:=fun w' (k':Kp wr w')=>HT.out X X p2 p2 c2 c2 w' lX lX (hAx.grown k') (hAx.grown k')
      obtain ⟨DX,hDX⟩:∃ DX,DX = (dig X).length:=⟨_,rfl⟩
      rcases (by omega:k % 2 = 0∨k % 2 = 1) with ce | ce
      · have fm:(k:Int) % 2 = 0:=by omega
        have hPX2:P * (X * X) ^ h = R:=by rw [hX2,← Nat.pow_mul,show 2 * h = k from by omega];exact hPX
        rw [← hDX] at hsq
        obtain ⟨DP,hDP⟩:∃ DP,DP = (dig P).length:=⟨_,rfl⟩
        have hOp2:Own wr w.heap.size (.slice p1 DP c1) (dig P):=by rw [hDP];exact hOp
        have hOx2:Own wr w.heap.size (.slice p2 DX c2) (dig X):=by rw [hDX];exact hOx
        rw [← hDX,← hDP]
        clear hOp hOx hDX hDP HR hXk hXk1 hPR hXR lP lX hAp hAx hlR HT hPX
        have hne:h≠0:=by omega
        clear hh
        by_cases c0:h = 0
        · exact absurd c0 hne
        · have t2:(0:Int) < (h:Int):=by omega
          have h2:=hsq wr (Kp.refl _)
          clear hsq hX2
          go_wp2_with fail
          refine h2.mono ?_;rintro e w3 ⟨v3,rfl,hO3,hk3⟩
          have hO4:Own w3 w.heap.size v3 (dig (X * X)):=hO3.mono hkp.size
          have hO5:=hOp2.kp hk3
          have hk5:=hkp.trans hk3
          clear hO3 hk3 hkp hOp2 hOx2 h2
          go_wp2
          exact ⟨⟨h,P,X * X,_,_,by go_num,rfl,rfl,hO5,hO4,hPX2,hP,hXX,hk5,by omega⟩,by simp [intOf];omega⟩
      · have fm:(k:Int) % 2 = 1:=by omega
        have hPX2:(P * X) * (X * X) ^ h = R:=by
          rw [hX2,← Nat.pow_mul,Nat.mul_assoc,Nat.mul_comm X,← Nat.pow_succ,show (2 * h).succ = k from by omega];exact hPX
        have h2:=HT.out P X p1 p2 c1 c2 wr lP lX hAp hAx
        rw [← hDX] at hsq h2
        obtain ⟨DP,hDP⟩:∃ DP,DP = (dig P).length:=⟨_,rfl⟩
        rw [← hDP] at h2
        have hOx2:Own wr w.heap.size (.slice p2 DX c2) (dig X):=by rw [hDX];exact hOx
        rw [← hDX,← hDP]
        have hPX1:P * X≤1:=by rw [show X = 0 by omega];simp
        clear hh
        clear hOp hOx hDX hDP HR hXk hXk1 hPR hXR lP lX hAp hAx hlR HT hPX
        go_wp2_with fail
        refine h2.mono ?_;rintro e w3 ⟨v3,rfl,hO3,hk3⟩
        have h4:=hsq w3 hk3
        have hO4:Own w3 w.heap.size v3 (dig (P * X)):=hO3.mono hkp.size
        have hO5:=hOx2.kp hk3
        have hk5:=hkp.trans hk3
        clear hO3 hk3 hkp hOx2 h2 hsq hX2
        by_cases c0:h = 0
        · have t2:¬ ((0:Int) < (h:Int)):=by omega
          clear h4
          go_wp2
          exact ⟨⟨h,P * X,X,_,_,by go_num,rfl,rfl,hO4,hO5,by rw [← hPX2,c0,Nat.pow_zero,Nat.pow_zero],hPX1,hX,hk5,by omega⟩,by simp [intOf];omega⟩
        · have t2:(0:Int) < (h:Int):=by omega
          go_wp2_with fail
          refine h4.mono ?_;rintro e w4 ⟨v4,rfl,hO6,hk6⟩
          have hO7:Own w4 w.heap.size v4 (dig (X * X)):=hO6.mono hk5.size
          have hO8:=hO4.kp hk6
          have hk7:=hk5.trans hk6
          clear hO6 hk6 hk5 hO4 hO5 h4
          go_wp2
          exact ⟨⟨h,P * X,X * X,_,_,by go_num,rfl,rfl,hO8,hO7,hPX2,hPX1,hXX,hk7,by omega⟩,by simp [intOf];omega⟩
theorem rpowX9_ (sa:Bool) (a1 a2 k:Nat) (P1 P2:Option Addr) (C1 C2:Nat) (w:World) (h1:Arr w P1 (dig a1)) (_l1:(dig a1).length≤C1) (h2:Arr w P2 (dig a2)) (_l2:(dig a2).length≤C2) (k1:blen a1≤1500) (k2:blen a2≤1500) (z2:a2≠0) (hk:k≤1024) (X D:Nat) (hX:X = a1 ^ k) (hD:D = a2 ^ k) (ob:Bool) (hob:ob = decide (k % 2 = 1)) :
    Calls Tryz.prog 29 #[.agg #[.bool sa,.slice P1 (dig a1).length C1,.slice P2 (dig a2).length C2],.int .i64 (k:Int)] w fun e w'=>∃ (vn vd:Value) (a' b':Nat) (ng:Bool),e = .returned (.agg #[.bool ng,vn,vd])∧Own w' w.heap.size vn (dig a')∧Own w' w.heap.size vd (dig b')∧(FracT X D 0 a' b'∧(X≠0→ng = (sa && ob)))∧Kp w w':=by
  have hz:D≠0:=by rw [hD];exact Nat.ne_of_gt (Nat.pow_pos (by omega))
  have bp:∀ a:Nat,blen a≤1500→len32 (a ^ k)≤65536:=fun a ha=>dlen _ _ (by
    have h:blen (a ^ k)≤1500 * k + 1:=by
      rw [blen_le_iff]
      obtain ⟨T5,hT5⟩:∃ T5:Nat,T5 = 1500:=⟨_,rfl⟩
      rw [← hT5] at ha ⊢
      have h1:a ^ k≤(2 ^ T5) ^ k:=Nat.pow_le_pow_left (Nat.le_of_lt ((blen_le_iff a T5).1 ha)) k
      rw [← Nat.pow_mul] at h1
      have h2:2 ^ (T5 * k) < 2 ^ (T5 * k + 1):=Nat.pow_lt_pow_right (by decide) (by omega)
      omega
    omega)
  have lX:len32 X≤65536:=by rw [hX];exact bp a1 k1
  have lD:len32 D≤65536:=by rw [hD];exact bp a2 k2
  have la1:len32 a1≤4000:=dlen a1 4000 (by omega)
  have la2:len32 a2≤4000:=dlen a2 4000 (by omega)
  obtain ⟨E1,g1⟩:∃ E,E = (dig a1).length:=⟨_,rfl⟩
  obtain ⟨E2,g2⟩:∃ E,E = (dig a2).length:=⟨_,rfl⟩
  rw [← g1,← g2]
  obtain ⟨B,hB⟩:∃ B,B = w.heap.size:=⟨_,rfl⟩
  obtain ⟨wA,hwA⟩:∃ wA,wA = w.alloc (.cells #[.bool sa,.slice P1 E1 C1,.slice P2 E2 C2] 43):=⟨_,rfl⟩
  obtain ⟨w0,hw0⟩:∃ w0,w0 = wA.alloc (.cells #[.bool false,.slice none 0 0,.slice none 0 0] 43):=⟨_,rfl⟩
  have sA:wA.heap.size = B + 1:=by rw [hwA,hB];simp
  have x0:wA.cell? ⟨B,0,none⟩ = some (.bool sa):=by rw [hwA,hB];simp [go_sem]
  have x1:wA.cell? ⟨B,1,none⟩ = some (.slice P1 E1 C1):=by rw [hwA,hB];simp [go_sem]
  have x2:wA.cell? ⟨B,2,none⟩ = some (.slice P2 E2 C2):=by rw [hwA,hB];simp [go_sem]
  have r0:w0.cell? ⟨B + 1,0,none⟩ = some (.bool false):=by rw [hw0,← sA];simp [go_sem]
  have r1:w0.cell? ⟨B + 1,1,none⟩ = some (.slice none 0 0):=by rw [hw0,← sA];simp [go_sem]
  have r2:w0.cell? ⟨B + 1,2,none⟩ = some (.slice none 0 0):=by rw [hw0,← sA];simp [go_sem]
  have f0:w0.frozen? ⟨B + 1,0,none⟩ = false:=by rw [hw0,← sA];simp [go_sem]
  have f1:w0.frozen? ⟨B + 1,1,none⟩ = false:=by rw [hw0,← sA];simp [go_sem]
  have f2:w0.frozen? ⟨B + 1,2,none⟩ = false:=by rw [hw0,← sA];simp [go_sem]
  have kw:Kp w w0:=by rw [hw0,hwA];exact ((Kp.refl w).alloc _).alloc _
  have kS:Kp wA w0:=by rw [hw0];exact (Kp.refl wA).alloc _
  have kD:Kp wA w0.drew:=kS.drew
  have hge:wA.heap.size≤(⟨B + 1,0,none⟩:Addr).block:=by simp only;omega
  have hlt:=cell_lt r0
  have pwr:∀ (a:Nat) (p:Option Addr) (c:Nat) (W:World),Arr W p (dig a)→len32 a≤4000→len32 (a ^ k)≤65536→Calls Tryz.prog 68 #[.slice p (dig a).length c,.int .i64 (k:Int)] W fun e w'=>∃ p c,e = .returned (.slice p (dig (a ^ k)).length c)∧Arr w' p (dig (a ^ k))∧(dig (a ^ k)).length≤c∧Kp W w':=fun a p c W ar la lp=>by
    have h:Calls Tryz.prog 68 #[.slice p (dig a).length c,.int .i64 (k:Int)] W fun e w'=>∃ v,e = .returned v∧Own w' W.heap.size v (dig (val (dig a) ^ k))∧Kp W w':=by
      rcases Nat.eq_zero_or_pos a with h0 | h0
      · exact rpower0_ p c k (dig a) W ar (Wd_dig a) (by change len32 a≤_;omega) (by rw [val_dig];omega) (by rw [val_dig];omega) (by omega)
      · exact rpower1_ p c k (dig a) W ar (Wd_dig a) (by change len32 a≤_;omega) (by rw [val_dig];omega) (by rw [val_dig];omega) (by omega)
    rw [val_dig] at h
    refine h.mono ?_
    rintro e w' ⟨v,h1,h2,h3⟩
    obtain ⟨p,c,rfl,h4,h5⟩:=h2.arr
    exact ⟨p,c,h1,h4,h5,h3⟩
  have HP1:Hid (∀ W:World,Kp w0 W→Calls Tryz.prog 68 #[.slice P1 E1 C1,.int .i64 (k:Int)] W fun e w'=>∃ p c,e = .returned (.slice p (dig X).length c)∧Arr w' p (dig X)∧(dig X).length≤c∧Kp W w'):=by
    show ∀ W:World,Kp w0 W→Calls Tryz.prog 68 #[.slice P1 E1 C1,.int .i64 (k:Int)] W fun e w'=>∃ p c,e = .returned (.slice p (dig X).length c)∧Arr w' p (dig X)∧(dig X).length≤c∧Kp W w'
    intro W kk
    rw [hX,g1];exact pwr a1 P1 C1 W (h1.grown (kw.trans kk)) la1 (by rw [← hX];exact lX)
  have HP2:Hid (∀ W:World,Kp w0 W→Calls Tryz.prog 68 #[.slice P2 E2 C2,.int .i64 (k:Int)] W fun e w'=>∃ p c,e = .returned (.slice p (dig D).length c)∧Arr w' p (dig D)∧(dig D).length≤c∧Kp W w'):=by
    show ∀ W:World,Kp w0 W→Calls Tryz.prog 68 #[.slice P2 E2 C2,.int .i64 (k:Int)] W fun e w'=>∃ p c,e = .returned (.slice p (dig D).length c)∧Arr w' p (dig D)∧(dig D).length≤c∧Kp W w'
    intro W kk
    rw [hD,g2];exact pwr a2 P2 C2 W (h2.grown (kw.trans kk)) la2 (by rw [← hD];exact lD)
  obtain ⟨NX,hNX⟩:∃ N,N = (dig X).length:=⟨_,rfl⟩
  obtain ⟨ND,hND⟩:∃ N,N = (dig D).length:=⟨_,rfl⟩
  obtain ⟨st,hst⟩:∃ st,st = (sa && ob):=⟨_,rfl⟩
  have HFR:Hid (∀ (p:Option Addr) (c:Nat) (q:Option Addr) (d:Nat) (W:World),Kp w0 W→Arr W p (dig X)→(dig X).length≤c→Arr W q (dig D)→(dig D).length≤d→Calls Tryz.prog 66 #[.bool st,.slice p (dig X).length c,.slice q (dig D).length d,.int .i64 0] W fun e w'=>∃ (vn vd:Value) (a' b':Nat) (ng:Bool),e = .returned (.agg #[.bool ng,vn,vd])∧Own w' W.heap.size vn (dig a')∧Own w' W.heap.size vd (dig b')∧(FracT X D 0 a' b'∧(X≠0→ng = st))∧Kp W w'):=by
    show ∀ (p:Option Addr) (c:Nat) (q:Option Addr) (d:Nat) (W:World),Kp w0 W→Arr W p (dig X)→(dig X).length≤c→Arr W q (dig D)→(dig D).length≤d→Calls Tryz.prog 66 #[.bool st,.slice p (dig X).length c,.slice q (dig D).length d,.int .i64 0] W fun e w'=>∃ (vn vd:Value) (a' b':Nat) (ng:Bool),e = .returned (.agg #[.bool ng,vn,vd])∧Own w' W.heap.size vn (dig a')∧Own w' W.heap.size vd (dig b')∧(FracT X D 0 a' b'∧(X≠0→ng = st))∧Kp W w'
    intro p c q d W kk ar ll ar' ll'
    have g:=fracW_ st (.slice p (dig X).length c) (.slice q (dig D).length d) (dig X) (dig D) 0 W ⟨p,c,rfl,ar,ll⟩ ⟨q,d,rfl,ar',ll'⟩ (Wd_dig _) (Wd_dig _) (by change len32 _≤_;omega) (by change len32 _≤_;omega) (by rw [val_dig];exact hz) (by decide)
    rw [val_dig,val_dig] at g
    exact g
  rw [← hNX,← hND] at HFR
  rw [← hNX] at HP1
  rw [← hND] at HP2
  rw [← hst]
  have HW:Hid (w0 = wA.alloc (.cells #[.bool false,.slice none 0 0,.slice none 0 0] 43)∧wA = w.alloc (.cells #[.bool sa,.slice P1 E1 C1,.slice P2 E2 C2] 43)∧B = w.heap.size∧Kp w w0):=⟨hw0,hwA,hB,kw⟩
  have m1:((k:Int) % 2 == 1) = ob:=by rw [hob,Bool.eq_iff_iff];simp;omega
  have m3:(k:Int).tmod 2 = (k:Int) % 2:=Int.tmod_eq_emod_of_nonneg (by omega)
  clear hNX hND hw0 hwA hB sA kw h1 _l1 h2 _l2 k1 k2 z2 hX hD hz lX lD g1 g2 bp la1 la2 pwr hob
  cases sa
  · have hst':st = false:=by rw [hst];rfl
    subst hst'
    clear hst m1 m3
    go_enter Tryz.func29,Tryz.ntmps29
    go_upto_region 1 with fail
    rw [← HW.out.2.2.1]
    try rw [← HW.out.2.1]
    try rw [← HW.out.1]
    refine wp_region_held_drew (S:=fun w'=>w'.cell? ⟨B,0,none⟩ = some (.bool false)∧w'.cell? ⟨B,1,none⟩ = some (.slice P1 E1 C1)∧w'.cell? ⟨B,2,none⟩ = some (.slice P2 E2 C2)) (by kernel_rfl) ?hSA (fun hHeld=>?restA)
    case hSA=>(refine ⟨kkeep (W:=wA) ?_ x0,kkeep (W:=wA) ?_ x1,kkeep (W:=wA) ?_ x2⟩ <;> ((repeat (first | with_reducible exact kC | with_reducible exact kB | with_reducible exact kA | with_reducible exact kS | with_reducible exact kD | with_reducible exact Kp.refl _ | with_reducible refine Kp.drew ?_ | refine Kp.setCell ?_ hge _));done))
    refine wpAnyH_take (i:=0) (v:=?_) rfl (by kernel_rfl) (by kernel_rfl) (by kernel_rfl) (fun _ _ _ h=>h) (Or.inl ⟨by rfl, ?hy0⟩) (by assumption) ?rest0
    case hy0=>(intro w9 hSw;(try dsimp only at hSw);go_simp <;> (try with_reducible rfl))
    refine wpAnyH_take (i:=1) (v:=?_) rfl (by kernel_rfl) (by kernel_rfl) (by kernel_rfl) (fun _ _ _ h=>h) (Or.inl ⟨by rfl, ?hy1⟩) (by assumption) ?rest1
    case hy1=>(intro w9 hSw;(try dsimp only at hSw);go_simp <;> (try with_reducible rfl))
    refine wpAnyH_take (i:=2) (v:=?_) rfl (by kernel_rfl) (by kernel_rfl) (by kernel_rfl) (fun _ _ _ h=>h) (Or.inl ⟨by rfl, ?hy2⟩) (by assumption) ?rest2
    case hy2=>(intro w9 hSw;(try dsimp only at hSw);go_simp <;> (try with_reducible rfl))
    refine wpAnyH_take (i:=3) (v:=undef) rfl (by kernel_rfl) (by kernel_rfl) (by kernel_rfl) (fun _ _ _ h=>h) (Or.inr ⟨by rfl,rfl⟩) (by assumption) ?rest3
    refine wpAnyH_take (i:=4) (v:=undef) rfl (by kernel_rfl) (by kernel_rfl) (by kernel_rfl) (fun _ _ _ h=>h) (Or.inr ⟨by rfl,rfl⟩) (by assumption) ?rest4
    refine wpAnyH_take (i:=5) (v:=undef) rfl (by kernel_rfl) (by kernel_rfl) (by kernel_rfl) (fun _ _ _ h=>h) (Or.inr ⟨by rfl,rfl⟩) (by assumption) ?rest5
    refine wpAnyH_take (i:=6) (v:=?_) rfl (by kernel_rfl) (by kernel_rfl) (by kernel_rfl) (fun _ _ _ h=>h) (Or.inl ⟨by rfl, ?hy6⟩) (by assumption) ?rest6
    case hy6=>(intro w9 hSw;(try dsimp only at hSw);go_simp <;> (try with_reducible rfl))
    refine wpAnyH_take (i:=7) (v:=?_) rfl (by kernel_rfl) (by kernel_rfl) (by kernel_rfl) (fun _ _ _ h=>h) (Or.inl ⟨by rfl, ?hy7⟩) (by assumption) ?rest7
    case hy7=>(intro w9 hSw;(try dsimp only at hSw);go_simp <;> (try with_reducible rfl))
    refine wpAnyH_take (i:=8) (v:=?_) rfl (by kernel_rfl) (by kernel_rfl) (by kernel_rfl) (fun _ _ _ h=>h) (Or.inl ⟨by rfl, ?hy8⟩) (by assumption) ?rest8
    case hy8=>(intro w9 hSw;(try dsimp only at hSw);go_simp <;> (try with_reducible rfl))
    refine wpAnyH_take (i:=9) (v:=?_) rfl (by kernel_rfl) (by kernel_rfl) (by kernel_rfl) (fun _ _ _ h=>h) (Or.inl ⟨by rfl, ?hy9⟩) (by assumption) ?rest9
    case hy9=>(intro w9 hSw;(try dsimp only at hSw);go_simp <;> (try with_reducible rfl))
    refine wpAnyH_take (i:=11) (v:=?_) rfl (by kernel_rfl) (by kernel_rfl) (by kernel_rfl) (fun _ _ _ h=>h) (Or.inl ⟨by rfl, ?hy11⟩) (by assumption) ?rest11
    case hy11=>(intro w9 hSw;(try dsimp only at hSw);go_simp <;> (try with_reducible rfl))
    refine wpAnyH_take (i:=12) (v:=?_) rfl (by kernel_rfl) (by kernel_rfl) (by kernel_rfl) (fun _ _ _ h=>h) (Or.inl ⟨by rfl, ?hy12⟩) (by assumption) ?rest12
    case hy12=>(intro w9 hSw;(try dsimp only at hSw);go_simp <;> (try with_reducible rfl))
    refine wpAnyH_take (i:=13) (v:=?_) rfl (by kernel_rfl) (by kernel_rfl) (by kernel_rfl) (fun _ _ _ h=>h) (Or.inl ⟨by rfl, ?hy13⟩) (by assumption) ?rest13
    case hy13=>(intro w9 hSw;(try dsimp only at hSw);go_simp <;> (try with_reducible rfl))
    refine wpAnyH_ready (rs:=[10]) (by kernel_rfl) (by simp) ?_
    refine AllReadyH.cons rfl (fun K hK=>?_) AllReadyH.nil
    go_simp
    (go_at_call 68;refine (HP1.out _ ?q8).mono ?_;(case q8=>((repeat (first | with_reducible exact kk2 | with_reducible exact kk1 | with_reducible exact Kp.refl _ | with_reducible refine Kp.drew ?_));done));rintro e v1 ⟨pp,cc,rfl,ar1,ll1,k01⟩;have kk1:Kp w0 v1:=Kp.trans ?q10 k01;(case q10=>((repeat (first | with_reducible exact kk2 | with_reducible exact kk1 | with_reducible exact Kp.refl _ | with_reducible refine Kp.drew ?_));done));have kA:Kp wA v1:=kS.trans kk1)
    refine hK.out _ _ ?hS10 (fun hHeld=>?rest10)
    case hS10=>(refine ⟨kkeep (W:=wA) ?_ x0,kkeep (W:=wA) ?_ x1,kkeep (W:=wA) ?_ x2⟩ <;> ((repeat (first | with_reducible exact kC | with_reducible exact kB | with_reducible exact kA | with_reducible exact kS | with_reducible exact kD | with_reducible exact Kp.refl _ | with_reducible refine Kp.drew ?_ | refine Kp.setCell ?_ hge _));done))
    clear hK K
    refine wpAnyH_ready (rs:=[14]) (by kernel_rfl) (by simp) ?_
    refine AllReadyH.cons rfl (fun K hK=>?_) AllReadyH.nil
    go_simp
    (go_at_call 68;have hh:=ar1;refine (HP2.out _ ?q5).mono ?_;(case q5=>((repeat (first | with_reducible exact kk2 | with_reducible exact kk1 | with_reducible exact Kp.refl _ | with_reducible refine Kp.drew ?_));done));rintro e v2 ⟨pq,cq,rfl,ar2,ll2,k12⟩;have kk2:Kp w0 v2:=Kp.trans ?q7 k12;(case q7=>((repeat (first | with_reducible exact kk2 | with_reducible exact kk1 | with_reducible exact Kp.refl _ | with_reducible refine Kp.drew ?_));done));have kB:Kp wA v2:=kS.trans kk2)
    refine hK.out _ _ ?hS14 (fun hHeld=>?rest14)
    case hS14=>(refine ⟨kkeep (W:=wA) ?_ x0,kkeep (W:=wA) ?_ x1,kkeep (W:=wA) ?_ x2⟩ <;> ((repeat (first | with_reducible exact kC | with_reducible exact kB | with_reducible exact kA | with_reducible exact kS | with_reducible exact kD | with_reducible exact Kp.refl _ | with_reducible refine Kp.drew ?_ | refine Kp.setCell ?_ hge _));done))
    clear hK K
    refine wpAnyH_ready (rs:=[15]) (by kernel_rfl) (by simp) ?_
    refine AllReadyH.cons rfl (fun K hK=>?_) AllReadyH.nil
    go_simp
    (go_at_call 66;have hh:=ar2;refine (HFR.out pp cc pq cq _ ?q1 ?q2 ll1 ?q3 ll2).mono ?_;(case q1=>((repeat (first | with_reducible exact kk2 | with_reducible exact kk1 | with_reducible exact Kp.refl _ | with_reducible refine Kp.drew ?_));done));(case q2=>exact ar1.grown k12);(case q3=>exact ar2);rintro e v3 ⟨vn,vd,a',b',ng,rfl,o1,o2,ff,k23⟩;have kk3:Kp w0 v3:=Kp.trans ?q4 k23;(case q4=>((repeat (first | with_reducible exact kk2 | with_reducible exact kk1 | with_reducible exact Kp.refl _ | with_reducible refine Kp.drew ?_));done));have kC:Kp wA v3:=kS.trans kk3;obtain ⟨pn,cn,rfl,an,ln⟩:=o1.arr;obtain ⟨pd,cd,rfl,ad,ld⟩:=o2.arr;have R0:=kkeep kk3 r0;have R1:=kkeep kk3 r1;have R2:=kkeep kk3 r2;have F0:=(kfro kk3 hlt).trans f0;have F1:=(kfro kk3 hlt).trans f1;have F2:=(kfro kk3 hlt).trans f2)
    refine hK.out _ _ ?hS15 (fun hHeld=>?rest15)
    case hS15=>(refine ⟨kkeep (W:=wA) ?_ x0,kkeep (W:=wA) ?_ x1,kkeep (W:=wA) ?_ x2⟩ <;> ((repeat (first | with_reducible exact kC | with_reducible exact kB | with_reducible exact kA | with_reducible exact kS | with_reducible exact kD | with_reducible exact Kp.refl _ | with_reducible refine Kp.drew ?_ | refine Kp.setCell ?_ hge _));done))
    clear hK K
    refine wpAnyH_ready (rs:=[16]) (by kernel_rfl) (by simp) ?_
    refine AllReadyH.cons rfl (fun K hK=>?_) AllReadyH.nil
    go_simp
    skip
    refine hK.out _ _ ?hS16 (fun hHeld=>?rest16)
    case hS16=>(have q0:=hge;have kZ:Kp wA (((v3.setCell ⟨B + 1,0,none⟩ (.bool ng)).setCell ⟨B + 1,1,none⟩ (.slice pn (dig a').length cn)).setCell ⟨B + 1,2,none⟩ (.slice pd (dig b').length cd)):=Kp.setCell (p:=⟨B + 1,2,none⟩) (Kp.setCell (p:=⟨B + 1,1,none⟩) (Kp.setCell (p:=⟨B + 1,0,none⟩) kC q0 _) q0 _) q0 _;exact ⟨kkeep kZ x0,kkeep kZ x1,kkeep kZ x2⟩)
    clear hK K
    refine wpAnyH_done (by kernel_rfl) ?_ _
    have hs1:=Below.size kk2
    obtain ⟨wz,hwz⟩:∃ wz,wz = ((v3.setCell ⟨B + 1,0,none⟩ (.bool ng)).setCell ⟨B + 1,1,none⟩ (.slice pn (dig a').length cn)).setCell ⟨B + 1,2,none⟩ (.slice pd (dig b').length cd):=⟨_,rfl⟩
    have kb:Kb (B + 1) v3 wz:=by rw [hwz];exact (((Kb.refl (B + 1) v3).setCell 0 _).setCell 1 _).setCell 2 _
    have O1:=o1.kb kb (fun g hg=>by have:=o1.lt g hg;omega)
    have O2:=o2.kb kb (fun g hg=>by have:=o2.lt g hg;omega)
    have hkw:Kp w wz:=kb.kp (HW.out.2.2.2.trans kk3) (by rw [HW.out.2.2.1];omega)
    have HO:Hid (Own wz w.heap.size (.slice pn (dig a').length cn) (dig a')∧Own wz w.heap.size (.slice pd (dig b').length cd) (dig b')∧(FracT X D 0 a' b'∧(X≠0→ng = false))∧Kp w wz∧wz = ((v3.setCell ⟨B + 1,0,none⟩ (.bool ng)).setCell ⟨B + 1,1,none⟩ (.slice pn (dig a').length cn)).setCell ⟨B + 1,2,none⟩ (.slice pd (dig b').length cd)):=⟨O1.mono (by have e9:=HW.out.2.2.1;omega),O2.mono (by have e9:=HW.out.2.2.1;omega),ff,hkw,hwz⟩
    clear hs1 hwz kb O1 O2 hkw o1 o2 ff k23 kk3 kC an ln ad ld kk2 k12 kB ar2 ll2 kk1 k01 kA ar1 ll1 HP1 HP2 HFR kS kD hge
    go_wp2
    obtain ⟨q1,q2,q3,q4,q5⟩:=HO.out
    rw [q5] at q1 q2 q4
    exact bodyPost_ret (v:=.agg #[.bool ng,.slice pn (dig a').length cn,.slice pd (dig b').length cd]) (by simp [results,Tryz.results29,go_sem,R0,R1,R2]) rfl ⟨_,_,a',b',ng,rfl,q1,q2,q3,q4⟩
  · have hst':ob = st:=by rw [hst];rfl
    subst hst'
    clear hst
    go_enter Tryz.func29,Tryz.ntmps29
    go_upto_region 1 with fail
    rw [← HW.out.2.2.1]
    try rw [← HW.out.2.1]
    try rw [← HW.out.1]
    go_region_held3 (fun w'=>w'.cell? ⟨B,0,none⟩ = some (.bool true)∧w'.cell? ⟨B,1,none⟩ = some (.slice P1 E1 C1)∧w'.cell? ⟨B,2,none⟩ = some (.slice P2 E2 C2)) (refine ⟨kkeep (W:=wA) ?_ x0,kkeep (W:=wA) ?_ x1,kkeep (W:=wA) ?_ x2⟩ <;> ((repeat (first | with_reducible exact kC | with_reducible exact kB | with_reducible exact kA | with_reducible exact kS | with_reducible exact kD | with_reducible exact Kp.refl _ | with_reducible refine Kp.drew ?_ | refine Kp.setCell ?_ hge _));done)) (first | (go_at_call 66;have hh:=ar2;refine (HFR.out pp cc pq cq _ ?q1 ?q2 ll1 ?q3 ll2).mono ?_;(case q1=>((repeat (first | with_reducible exact kk2 | with_reducible exact kk1 | with_reducible exact Kp.refl _ | with_reducible refine Kp.drew ?_));done));(case q2=>exact ar1.grown k12);(case q3=>exact ar2);rintro e v3 ⟨vn,vd,a',b',ng,rfl,o1,o2,ff,k23⟩;have kk3:Kp w0 v3:=Kp.trans ?q4 k23;(case q4=>((repeat (first | with_reducible exact kk2 | with_reducible exact kk1 | with_reducible exact Kp.refl _ | with_reducible refine Kp.drew ?_));done));have kC:Kp wA v3:=kS.trans kk3;obtain ⟨pn,cn,rfl,an,ln⟩:=o1.arr;obtain ⟨pd,cd,rfl,ad,ld⟩:=o2.arr;have R0:=kkeep kk3 r0;have R1:=kkeep kk3 r1;have R2:=kkeep kk3 r2;have F0:=(kfro kk3 hlt).trans f0;have F1:=(kfro kk3 hlt).trans f1;have F2:=(kfro kk3 hlt).trans f2) | (go_at_call 68;have hh:=ar1;refine (HP2.out _ ?q5).mono ?_;(case q5=>((repeat (first | with_reducible exact kk2 | with_reducible exact kk1 | with_reducible exact Kp.refl _ | with_reducible refine Kp.drew ?_));done));rintro e v2 ⟨pq,cq,rfl,ar2,ll2,k12⟩;have kk2:Kp w0 v2:=Kp.trans ?q7 k12;(case q7=>((repeat (first | with_reducible exact kk2 | with_reducible exact kk1 | with_reducible exact Kp.refl _ | with_reducible refine Kp.drew ?_));done));have kB:Kp wA v2:=kS.trans kk2) | (go_at_call 68;refine (HP1.out _ ?q8).mono ?_;(case q8=>((repeat (first | with_reducible exact kk2 | with_reducible exact kk1 | with_reducible exact Kp.refl _ | with_reducible refine Kp.drew ?_));done));rintro e v1 ⟨pp,cc,rfl,ar1,ll1,k01⟩;have kk1:Kp w0 v1:=Kp.trans ?q10 k01;(case q10=>((repeat (first | with_reducible exact kk2 | with_reducible exact kk1 | with_reducible exact Kp.refl _ | with_reducible refine Kp.drew ?_));done));have kA:Kp wA v1:=kS.trans kk1))
    have hs1:=Below.size kk2
    obtain ⟨wz,hwz⟩:∃ wz,wz = ((v3.setCell ⟨B + 1,0,none⟩ (.bool ng)).setCell ⟨B + 1,1,none⟩ (.slice pn (dig a').length cn)).setCell ⟨B + 1,2,none⟩ (.slice pd (dig b').length cd):=⟨_,rfl⟩
    have kb:Kb (B + 1) v3 wz:=by rw [hwz];exact (((Kb.refl (B + 1) v3).setCell 0 _).setCell 1 _).setCell 2 _
    have O1:=o1.kb kb (fun g hg=>by have:=o1.lt g hg;omega)
    have O2:=o2.kb kb (fun g hg=>by have:=o2.lt g hg;omega)
    have hkw:Kp w wz:=kb.kp (HW.out.2.2.2.trans kk3) (by rw [HW.out.2.2.1];omega)
    have HO:Hid (Own wz w.heap.size (.slice pn (dig a').length cn) (dig a')∧Own wz w.heap.size (.slice pd (dig b').length cd) (dig b')∧(FracT X D 0 a' b'∧(X≠0→ng = ob))∧Kp w wz∧wz = ((v3.setCell ⟨B + 1,0,none⟩ (.bool ng)).setCell ⟨B + 1,1,none⟩ (.slice pn (dig a').length cn)).setCell ⟨B + 1,2,none⟩ (.slice pd (dig b').length cd)):=⟨O1.mono (by have e9:=HW.out.2.2.1;omega),O2.mono (by have e9:=HW.out.2.2.1;omega),ff,hkw,hwz⟩
    clear hs1 hwz kb O1 O2 hkw o1 o2 ff k23 kk3 kC an ln ad ld kk2 k12 kB ar2 ll2 kk1 k01 kA ar1 ll1 HP1 HP2 HFR kS kD hge
    go_wp2
    obtain ⟨q1,q2,q3,q4,q5⟩:=HO.out
    rw [q5] at q1 q2 q4
    exact bodyPost_ret (v:=.agg #[.bool ng,.slice pn (dig a').length cn,.slice pd (dig b').length cd]) (by simp [results,Tryz.results29,go_sem,R0,R1,R2]) rfl ⟨_,_,a',b',ng,rfl,q1,q2,q3,q4⟩
end Go.Proofs.YtcfnialfpblfmaaGreatDoor
