import Derived.Test.YtnileplkkmhdgaaGreatDoorKBGd
import Derived.Test.YtnileplkkmhdgaaGreatDoorKEX
import Derived.Deep.CutRange
set_option maxHeartbeats 1000000
set_option maxRecDepth 20000
namespace Go.Proofs.YtnileplkkmhdgaaGreatDoor
open Go.RowKit
theorem RF.iv {s:Bool} {a b:Nat} {n:Bool} {m:Nat} (h:RF s a b n m) (K:Nat) (hK:K = 1074):rvI s a * ((2 ^ K:Nat):Int) = Iv n m * (b:Int):=by
  obtain ⟨h0,h1,h2,-,-⟩:=h K hK
  rw [h2]
  have h3:((a * 2 ^ K:Nat):Int) = ((Fq.vV Ieee.double m * b:Nat):Int):=by rw [h1]
  unfold rvI
  rw [Int.natCast_mul,Int.natCast_mul] at h3
  cases s
  · simpa using h3
  · simp only [if_true,Int.neg_mul];rw [h3]
theorem cmI_scale (x y k:Int) (hk:0 < k):cmI (x * k) (y * k) = cmI x y:=by
  unfold cmI
  have e1:x * k < y * k ↔ x < y:=⟨fun h=>Int.lt_of_mul_lt_mul_right h (Int.le_of_lt hk),fun h=>Int.mul_lt_mul_of_pos_right h hk⟩
  have e2:y * k < x * k ↔ y < x:=⟨fun h=>Int.lt_of_mul_lt_mul_right h (Int.le_of_lt hk),fun h=>Int.mul_lt_mul_of_pos_right h hk⟩
  simp only [e1,e2]
set_option linter.unusedVariables false
set_option linter.unusedSimpArgs false
theorem rsignA_ (neg:Bool) (vn vd:Value) (xs:List Int) (n:Nat) (w:World) (hn:Ls w vn xs) (hw:Wd xs) (l:xs.length≤8388608) (hv:val xs = n) :
    Calls Tryz.prog 19 #[.agg #[.bool neg,vn,vd]] w fun e w'=>e = .returned (.int .i64 (if n = 0 then 0 else if neg then -1 else 1))∧Kp w w':=by
  obtain ⟨w0,hw0⟩:∃ w0,w0 = w.alloc (.cells #[.bool neg,vn,vd] 27):=⟨_,rfl⟩
  have hk0:Kp w w0:=by rw [hw0];exact (Kp.refl w).alloc _
  have c0:w0.cell? ⟨w.heap.size,0,none⟩ = some (.bool neg):=by rw [hw0];simp [go_sem]
  have hc:=normRB vn xs w0 (hn.kp hk0) hw l
  rw [hv] at hc
  have hlz:=dig_len_zero n
  obtain ⟨M,hM⟩:∃ M,M = (dig n).length:=⟨_,rfl⟩
  have HM:Hid (M = (dig n).length):=hM
  rw [← hM] at hlz
  clear hn l hM hw hv
  by_cases cz:n = 0
  · have hM0:M = 0:=hlz.2 cz
    rw [if_pos cz]
    clear hlz cz
    go_enter Tryz.func19,Tryz.ntmps19
    go_wp2_with fail
    rw [← hw0]
    refine hc.mono ?_;rintro e w1 ⟨v1,rfl,⟨p1,c1,rfl,_,_⟩,hk⟩
    rw [← HM.out]
    subst hM0
    have K1:Kp w w1:=hk0.trans hk
    clear hc hk hw0 hk0 c0
    go_wp2
    exact bodyPost_ret (v:=.int .i64 0) (by simp [results,Tryz.results19,go_sem]) rfl ⟨rfl,K1⟩
  · have hM0:¬ ((M:Int) = 0):=by have:=mt hlz.1 cz;omega
    rw [if_neg cz]
    clear hlz cz
    go_enter Tryz.func19,Tryz.ntmps19
    go_wp2_with fail
    rw [← hw0]
    refine hc.mono ?_;rintro e w1 ⟨v1,rfl,⟨p1,c1,rfl,_,_⟩,hk⟩
    rw [← HM.out]
    have K1:Kp w w1:=hk0.trans hk
    have c1':=kkeep hk c0
    clear hc hk hw0 hk0 c0
    cases neg
    · go_wp2
      exact bodyPost_ret (v:=.int .i64 1) (by simp [results,Tryz.results19,go_sem]) rfl ⟨rfl,K1⟩
    · go_wp2
      exact bodyPost_ret (v:=.int .i64 (-1)) (by simp [results,Tryz.results19,go_sem]) rfl ⟨rfl,K1⟩

def LN9 (w:World) (v:Value) (a:Nat):Prop:=∃ xs,Ls w v xs∧Wd xs∧xs.length≤8388608∧val xs = a
theorem LN9.kp {w w':World} {v:Value} {a:Nat} (h:LN9 w v a) (g:Kp w w'):LN9 w' v a:=by
  obtain ⟨xs,h1,h2,h3,h4⟩:=h
  exact ⟨xs,h1.kp g,h2,h3,h4⟩
theorem LN9.ofOwn {w:World} {base:Nat} {v:Value} {a:Nat} (h:Own w base v (dig a)) (l:blen a≤268435456):LN9 w v a :=
  ⟨dig a,h.ls,Wd_dig a,dlen a 8388608 (by omega),val_dig a⟩
theorem timesW9 (v1 v2:Value) (a b:Nat) (w:World) (h1:LN9 w v1 a) (h2:LN9 w v2 b):Calls Tryz.prog 36 #[v1,v2] w fun e w'=>∃ v,e = .returned v∧(∃ L,Ls w' v L∧Wd L∧L.length≤1099511627776∧val L = a * b)∧Kp w w':=by
  obtain ⟨xs,⟨p,c,rfl,hA,hc⟩,x2,x3,x4⟩:=h1
  obtain ⟨ys,⟨q,d,rfl,hB,hd⟩,y2,y3,y4⟩:=h2
  have h:=rtimes_ p q c d xs ys w hA hB x2 y2 (by omega) (by omega)
  rw [x4,y4] at h
  refine h.mono ?_
  rintro e w' ⟨v,h1,h2,h3⟩
  refine ⟨v,h1,⟨dig (a * b),h2.ls,Wd_dig _, ?_,val_dig _⟩,h3⟩
  obtain ⟨T5,hT5⟩:∃ T5:Nat,T5 = 8388608:=⟨_,rfl⟩
  have b1:a < 4294967296 ^ T5:=by rw [← x4];exact Nat.lt_of_lt_of_le (val_lt xs x2) (Nat.pow_le_pow_right (by decide) (by omega))
  have b2:b < 4294967296 ^ T5:=by rw [← y4];exact Nat.lt_of_lt_of_le (val_lt ys y2) (Nat.pow_le_pow_right (by decide) (by omega))
  have b3:a * b < 4294967296 ^ (T5 + T5):=by rw [Nat.pow_add];exact Nat.mul_lt_mul'' b1 b2
  by_cases cc:(dig (a * b)).length≤T5 + T5
  · omega
  · exfalso
    have:=len32_lt (a * b) (T5 + T5) (by unfold len32;omega)
    omega
theorem rcmpW_ s p l c q k d s2 p2 l2 c2 q2 k2 d2 (a b x y:Nat) (w:World) (h1:LN9 w (.slice p l c) a) (h2:LN9 w (.slice q k d) b) (h3:LN9 w (.slice p2 l2 c2) x) (h4:LN9 w (.slice q2 k2 d2) y) (zb:b≠0) (zy:y≠0):Calls Tryz.prog 60 #[.agg #[.bool s,.slice p l c,.slice q k d],.agg #[.bool s2,.slice p2 l2 c2,.slice q2 k2 d2]] w fun e w'=>e = .returned (.int .i64 (cmI (rvI s a * y) (rvI s2 x * b)))∧Kp w w':=by
  have hs1:∀ W:World,Kp w W→Calls Tryz.prog 19 #[.agg #[.bool s,.slice p l c,.slice q k d]] W fun e w'=>e = .returned (.int .i64 (if a = 0 then 0 else if s then -1 else 1))∧Kp W w':=fun W g=>by
    obtain ⟨xs,x1,x2,x3,x4⟩:=h1.kp g
    exact rsignA_ s _ _ xs a W x1 x2 x3 x4
  have hs2:∀ W:World,Kp w W→Calls Tryz.prog 19 #[.agg #[.bool s2,.slice p2 l2 c2,.slice q2 k2 d2]] W fun e w'=>e = .returned (.int .i64 (if x = 0 then 0 else if s2 then -1 else 1))∧Kp W w':=fun W g=>by
    obtain ⟨xs,x1,x2,x3,x4⟩:=h3.kp g
    exact rsignA_ s2 _ _ xs x W x1 x2 x3 x4
  obtain ⟨P9,hP9⟩:∃ P9:Nat→World→Value→Prop,P9 = fun z W v=>∃ L,Ls W v L∧Wd L∧L.length≤1099511627776∧val L = z:=⟨_,rfl⟩
  have hT1:∀ W:World,Kp w W→Calls Tryz.prog 36 #[.slice p l c,.slice q2 k2 d2] W fun e w'=>∃ v,e = .returned v∧P9 (a * y) w' v∧Kp W w':=fun W g=>by
    rw [hP9];exact timesW9 _ _ a y W (h1.kp g) (h4.kp g)
  have hT2:∀ W:World,Kp w W→Calls Tryz.prog 36 #[.slice p2 l2 c2,.slice q k d] W fun e w'=>∃ v,e = .returned v∧P9 (x * b) w' v∧Kp W w':=fun W g=>by
    rw [hP9];exact timesW9 _ _ x b W (h3.kp g) (h2.kp g)
  have hC:∀ (W:World) (u v:Value),Kp w W→P9 (a * y) W u→P9 (x * b) W v→Calls Tryz.prog 38 #[u,v] W fun e w'=>e = .returned (.int .i64 (cmpN (a * y) (x * b)))∧Kp W w':=fun W u v _ g1 g2=>by
    rw [hP9] at g1 g2
    obtain ⟨L1,⟨p1,c1,rfl,a1,-⟩,w1,l1,e1⟩:=g1
    obtain ⟨L2,⟨p2,c2,rfl,a2,-⟩,w2,l2,e2⟩:=g2
    have h:=rcmp_ p1 p2 c1 c2 L1 L2 W a1 a2 w1 w2 l1 l2
    rw [e1,e2] at h
    exact h
  have hk:∀ (W W':World) (v:Value),Kp W W'→P9 (a * y) W v→P9 (a * y) W' v:=fun W W' v g h=>by
    rw [hP9] at h ⊢
    obtain ⟨L,q1,q2⟩:=h
    exact ⟨L,q1.kp g,q2⟩
  clear hP9
  have py:0 < y:=by omega
  have pb:0 < b:=by omega
  have key:∀ u v:Nat,0 < v→0 < u→0 < u * v:=fun u v h1 h2=>Nat.mul_pos h2 h1
  obtain ⟨A9,hA9⟩:∃ A9,A9 = a * y:=⟨_,rfl⟩
  obtain ⟨X9,hX9⟩:∃ X9,X9 = x * b:=⟨_,rfl⟩
  have eA:rvI s a * (y:Int) = rvI s A9:=by unfold rvI;rw [hA9];cases s <;> simp [Int.neg_mul]
  have eX:rvI s2 x * (b:Int) = rvI s2 X9:=by unfold rvI;rw [hX9];cases s2 <;> simp [Int.neg_mul]
  have zA:a = 0 ↔ A9 = 0:=by rw [hA9];constructor <;> intro h;rw [h];simp;rcases Nat.mul_eq_zero.1 h with h | h;exact h;omega
  have zX:x = 0 ↔ X9 = 0:=by rw [hX9];constructor <;> intro h;rw [h];simp;rcases Nat.mul_eq_zero.1 h with h | h;exact h;omega
  rw [eA,eX]
  rw [← hA9] at hT1 hC hk
  rw [← hX9] at hT2 hC
  simp only [zA] at hs1
  simp only [zX] at hs2
  obtain ⟨S,hS⟩:∃ S:Int,S = if A9 = 0 then 0 else if s then -1 else 1:=⟨_,rfl⟩
  obtain ⟨U,hU⟩:∃ U:Int,U = if X9 = 0 then 0 else if s2 then -1 else 1:=⟨_,rfl⟩
  rw [← hS] at hs1
  rw [← hU] at hs2
  have hcm:cmpN A9 X9 = cmI (A9:Int) X9:=by
    unfold cmpN cmI
    by_cases c1:A9 < X9
    · rw [if_pos c1,if_pos (show (A9:Int) < X9 by omega)]
    · rw [if_neg c1,if_neg (show ¬ (A9:Int) < X9 by omega)]
      by_cases c2:X9 < A9
      · rw [if_pos c2,if_pos (show (X9:Int) < A9 by omega)]
      · rw [if_neg c2,if_neg (show ¬ (X9:Int) < A9 by omega)]
  clear eA eX zA zX hA9 hX9 h1 h2 h3 h4
  have e1:S < U→cmI (rvI s A9) (rvI s2 X9) = -1:=fun g=>by
    rw [hS,hU] at g
    unfold cmI rvI
    rw [if_pos]
    by_cases c1:A9 = 0 <;> by_cases c2:X9 = 0 <;> cases s <;> cases s2 <;> simp [c1,c2] at g ⊢ <;> omega
  have e2:U < S→cmI (rvI s A9) (rvI s2 X9) = 1:=fun g=>by
    rw [hS,hU] at g
    have:rvI s2 X9 < rvI s A9:=by
      unfold rvI
      by_cases c1:A9 = 0 <;> by_cases c2:X9 = 0 <;> cases s <;> cases s2 <;> simp [c1,c2] at g ⊢ <;> omega
    unfold cmI
    rw [if_neg (by omega),if_pos this]
  rcases Int.lt_trichotomy S U with g | g | g
  · rw [e1 g]
    exact rcmpL_ S U s p l c q k d s2 p2 l2 c2 q2 k2 d2 w hs1 hs2 g
  · rw [← g] at hs2
    by_cases z:A9 = 0
    · have zU:X9 = 0:=by
        rw [hS,hU,if_pos z] at g
        by_cases c2:X9 = 0
        · exact c2
        · rw [if_neg c2] at g;cases s2 <;> simp at g
      have e3:cmI (rvI s A9) (rvI s2 X9) = 0:=by rw [z,zU];cases s <;> cases s2 <;> rfl
      rw [e3]
      exact rcmpZ_ S _ _ _ s p l c q k d s2 p2 l2 c2 q2 k2 d2 w hk hs1 hs2 hT1 hT2 hC (by rw [hS,if_pos z];rfl)
    · have zS:(S == 0) = false:=by rw [hS,if_neg z];cases s <;> rfl
      have ss:s = s2:=by
        rw [hS,hU,if_neg z] at g
        by_cases c2:X9 = 0
        · rw [if_pos c2] at g;cases s <;> simp at g
        · rw [if_neg c2] at g;cases s <;> cases s2 <;> simp at g ⊢
      subst ss
      cases s
      · have e3:cmI (rvI false A9) (rvI false X9) = cmpN A9 X9:=hcm.symm
        rw [e3]
        exact rcmpP_ S _ _ _ p l c q k d false p2 l2 c2 q2 k2 d2 w hk hs1 hs2 hT1 hT2 hC zS
      · have e3:cmI (rvI true A9) (rvI true X9) = - cmpN A9 X9:=by
          rw [hcm];unfold cmI rvI
          by_cases c1:A9 < X9
          · rw [if_neg (by simp;omega),if_pos (by simp;omega),if_pos (by omega)];rfl
          · by_cases c2:X9 < A9
            · rw [if_pos (by simp;omega),if_neg (by omega),if_pos (by omega)]
            · rw [if_neg (by simp;omega),if_neg (by simp;omega),if_neg (by omega),if_neg (by omega)];rfl
        have wr:IntKind.i64.wrap (-(cmpN A9 X9)) = -(cmpN A9 X9):=by
          rw [hcm];unfold cmI
          by_cases c1:(A9:Int) < X9
          · rw [if_pos c1];decide +kernel
          · rw [if_neg c1]
            by_cases c2:(X9:Int) < A9
            · rw [if_pos c2];decide +kernel
            · rw [if_neg c2];decide +kernel
        rw [e3]
        exact rcmpN_ S _ _ _ p l c q k d true p2 l2 c2 q2 k2 d2 w hk hs1 hs2 hT1 hT2 hC zS wr
  · rw [e2 g]
    exact rcmpG_ S U s p l c q k d s2 p2 l2 c2 q2 k2 d2 w hs1 hs2 g
theorem holdsT_ (LO HI i j C1 C2:Int) (N1 N2:Bool) (M1 M2:Nat) (Q3:World→Prop) (hq3:∀ W W':World,Kp W W'→Q3 W→Q3 W') s3 p3 l3 c3 q3 k3 d3 (hof:∀ w:World,Calls Tryz.prog 28 #[.agg #[.int .u64 LO,.int .u64 HI]] w fun e w'=>∃ (s:Bool) (p:Option Addr) (l c:Nat) (q:Option Addr) (k d:Nat) (s2:Bool) (p2:Option Addr) (l2 c2:Nat) (q2:Option Addr) (k2 d2:Nat),e = .returned (.agg #[.bool false,.int .i64 i,.bool s,.slice p l c,.slice q k d,.int .i64 j,.bool s2,.slice p2 l2 c2,.slice q2 k2 d2])∧RP 0 w' s p l c q k d N1 M1∧RP 0 w' s2 p2 l2 c2 q2 k2 d2 N2 M2∧Kp w w') (hc1:∀ (W:World) s p l c q k d,RP 0 W s p l c q k d N1 M1→Q3 W→Calls Tryz.prog 29 #[.agg #[.int .i64 i,.bool s,.slice p l c,.slice q k d],.agg #[.int .i64 0,.bool s3,.slice p3 l3 c3,.slice q3 k3 d3]] W fun e w'=>e = .returned (.int .i64 C1)∧Kp W w') (hc2:∀ (W:World) s2 p2 l2 c2 q2 k2 d2,RP 0 W s2 p2 l2 c2 q2 k2 d2 N2 M2→Q3 W→Calls Tryz.prog 29 #[.agg #[.int .i64 0,.bool s3,.slice p3 l3 c3,.slice q3 k3 d3],.agg #[.int .i64 j,.bool s2,.slice p2 l2 c2,.slice q2 k2 d2]] W fun e w'=>e = .returned (.int .i64 C2)∧Kp W w') (t1:C1≤0) (t2:C2≤0) (w:World) (hz:Q3 w):Calls Tryz.prog 7 #[.agg #[.int .u64 LO,.int .u64 HI],.agg #[.bool s3,.slice p3 l3 c3,.slice q3 k3 d3]] w fun e w'=>e = .returned (.bool true)∧Kp w w':=by
  go_enter Tryz.func7,Tryz.ntmps7
  go_wp2_with (first | (go_at_call 28;refine (hof _).mono ?_;rintro e w1 ⟨s,p,l,c,q,k,d,s2,p2,l2,c2,q2,k2,d2,rfl,r1,r2,g1⟩;have kw:Kp w w1:=Kp.trans (((Kp.refl w).alloc _).alloc _) g1;have v0:=kkeep g1 (b:=w.heap.size + 1) (o:=0) (v:=.bool s3) (by simp [go_sem]);have v1:=kkeep g1 (b:=w.heap.size + 1) (o:=1) (v:=.slice p3 l3 c3) (by simp [go_sem]);have v2:=kkeep g1 (b:=w.heap.size + 1) (o:=2) (v:=.slice q3 k3 d3) (by simp [go_sem]);have va0:=fun o=>kkeep ((Kp.refl w1).alloc o) v0;have va1:=fun o=>kkeep ((Kp.refl w1).alloc o) v1;have va2:=fun o=>kkeep ((Kp.refl w1).alloc o) v2) | (go_at_call_of 29 (Value.slice p l c);refine (hc1 _ s p l c q k d (r1.kp (((Kp.refl w1).alloc _).alloc _)) (hq3 _ _ (((Kp.refl w1).alloc _).alloc _) (hq3 _ _ kw hz))).mono ?_;rintro e w4 ⟨rfl,g4⟩;have k4:Kp w w4:=Kp.trans (Kp.trans kw (((Kp.refl w1).alloc _).alloc _)) g4;have k14:Kp w1 w4:=Kp.trans (((Kp.refl w1).alloc _).alloc _) g4;have a0:=kkeep g4 (b:=w1.heap.size) (o:=0) (v:=.bool false) (by simp [go_sem]);have a1:=kkeep g4 (b:=w1.heap.size) (o:=1) (v:=.int .i64 i) (by simp [go_sem]);have a2:=kkeep g4 (b:=w1.heap.size) (o:=2) (v:=.bool s) (by simp [go_sem]);have a3:=kkeep g4 (b:=w1.heap.size) (o:=3) (v:=.slice p l c) (by simp [go_sem]);have a4:=kkeep g4 (b:=w1.heap.size) (o:=4) (v:=.slice q k d) (by simp [go_sem]);have a5:=kkeep g4 (b:=w1.heap.size) (o:=5) (v:=.int .i64 j) (by simp [go_sem]);have a6:=kkeep g4 (b:=w1.heap.size) (o:=6) (v:=.bool s2) (by simp [go_sem]);have a7:=kkeep g4 (b:=w1.heap.size) (o:=7) (v:=.slice p2 l2 c2) (by simp [go_sem]);have a8:=kkeep g4 (b:=w1.heap.size) (o:=8) (v:=.slice q2 k2 d2) (by simp [go_sem]);have b0:=kkeep g4 (b:=w1.heap.size + 1) (o:=0) (v:=.int .i64 0) (by simp [go_sem]);have b1:=kkeep g4 (b:=w1.heap.size + 1) (o:=1) (v:=.bool s3) (by simp [go_sem]);have b2:=kkeep g4 (b:=w1.heap.size + 1) (o:=2) (v:=.slice p3 l3 c3) (by simp [go_sem]);have b3:=kkeep g4 (b:=w1.heap.size + 1) (o:=3) (v:=.slice q3 k3 d3) (by simp [go_sem])) | (go_at_call_of 29 (Value.slice p2 l2 c2);refine (hc2 _ s2 p2 l2 c2 q2 k2 d2 (r2.kp k14) (hq3 _ _ k4 hz)).mono ?_;rintro e w5 ⟨rfl,g5⟩;have k5:Kp w w5:=Kp.trans k4 g5))
  exact bodyPost_ret (v:=.bool true) (by simp [results,Tryz.results7,go_sem]) rfl ⟨rfl,k5⟩
theorem holdsF_ (LO HI i j C1 C2:Int) (N1 N2:Bool) (M1 M2:Nat) (Q3:World→Prop) (hq3:∀ W W':World,Kp W W'→Q3 W→Q3 W') s3 p3 l3 c3 q3 k3 d3 (hof:∀ w:World,Calls Tryz.prog 28 #[.agg #[.int .u64 LO,.int .u64 HI]] w fun e w'=>∃ (s:Bool) (p:Option Addr) (l c:Nat) (q:Option Addr) (k d:Nat) (s2:Bool) (p2:Option Addr) (l2 c2:Nat) (q2:Option Addr) (k2 d2:Nat),e = .returned (.agg #[.bool false,.int .i64 i,.bool s,.slice p l c,.slice q k d,.int .i64 j,.bool s2,.slice p2 l2 c2,.slice q2 k2 d2])∧RP 0 w' s p l c q k d N1 M1∧RP 0 w' s2 p2 l2 c2 q2 k2 d2 N2 M2∧Kp w w') (hc1:∀ (W:World) s p l c q k d,RP 0 W s p l c q k d N1 M1→Q3 W→Calls Tryz.prog 29 #[.agg #[.int .i64 i,.bool s,.slice p l c,.slice q k d],.agg #[.int .i64 0,.bool s3,.slice p3 l3 c3,.slice q3 k3 d3]] W fun e w'=>e = .returned (.int .i64 C1)∧Kp W w') (hc2:∀ (W:World) s2 p2 l2 c2 q2 k2 d2,RP 0 W s2 p2 l2 c2 q2 k2 d2 N2 M2→Q3 W→Calls Tryz.prog 29 #[.agg #[.int .i64 0,.bool s3,.slice p3 l3 c3,.slice q3 k3 d3],.agg #[.int .i64 j,.bool s2,.slice p2 l2 c2,.slice q2 k2 d2]] W fun e w'=>e = .returned (.int .i64 C2)∧Kp W w') (t1:C1≤0) (t2:¬ (C2≤0)) (w:World) (hz:Q3 w):Calls Tryz.prog 7 #[.agg #[.int .u64 LO,.int .u64 HI],.agg #[.bool s3,.slice p3 l3 c3,.slice q3 k3 d3]] w fun e w'=>e = .returned (.bool false)∧Kp w w':=by
  go_enter Tryz.func7,Tryz.ntmps7
  go_wp2_with (first | (go_at_call 28;refine (hof _).mono ?_;rintro e w1 ⟨s,p,l,c,q,k,d,s2,p2,l2,c2,q2,k2,d2,rfl,r1,r2,g1⟩;have kw:Kp w w1:=Kp.trans (((Kp.refl w).alloc _).alloc _) g1;have v0:=kkeep g1 (b:=w.heap.size + 1) (o:=0) (v:=.bool s3) (by simp [go_sem]);have v1:=kkeep g1 (b:=w.heap.size + 1) (o:=1) (v:=.slice p3 l3 c3) (by simp [go_sem]);have v2:=kkeep g1 (b:=w.heap.size + 1) (o:=2) (v:=.slice q3 k3 d3) (by simp [go_sem]);have va0:=fun o=>kkeep ((Kp.refl w1).alloc o) v0;have va1:=fun o=>kkeep ((Kp.refl w1).alloc o) v1;have va2:=fun o=>kkeep ((Kp.refl w1).alloc o) v2) | (go_at_call_of 29 (Value.slice p l c);refine (hc1 _ s p l c q k d (r1.kp (((Kp.refl w1).alloc _).alloc _)) (hq3 _ _ (((Kp.refl w1).alloc _).alloc _) (hq3 _ _ kw hz))).mono ?_;rintro e w4 ⟨rfl,g4⟩;have k4:Kp w w4:=Kp.trans (Kp.trans kw (((Kp.refl w1).alloc _).alloc _)) g4;have k14:Kp w1 w4:=Kp.trans (((Kp.refl w1).alloc _).alloc _) g4;have a0:=kkeep g4 (b:=w1.heap.size) (o:=0) (v:=.bool false) (by simp [go_sem]);have a1:=kkeep g4 (b:=w1.heap.size) (o:=1) (v:=.int .i64 i) (by simp [go_sem]);have a2:=kkeep g4 (b:=w1.heap.size) (o:=2) (v:=.bool s) (by simp [go_sem]);have a3:=kkeep g4 (b:=w1.heap.size) (o:=3) (v:=.slice p l c) (by simp [go_sem]);have a4:=kkeep g4 (b:=w1.heap.size) (o:=4) (v:=.slice q k d) (by simp [go_sem]);have a5:=kkeep g4 (b:=w1.heap.size) (o:=5) (v:=.int .i64 j) (by simp [go_sem]);have a6:=kkeep g4 (b:=w1.heap.size) (o:=6) (v:=.bool s2) (by simp [go_sem]);have a7:=kkeep g4 (b:=w1.heap.size) (o:=7) (v:=.slice p2 l2 c2) (by simp [go_sem]);have a8:=kkeep g4 (b:=w1.heap.size) (o:=8) (v:=.slice q2 k2 d2) (by simp [go_sem]);have b0:=kkeep g4 (b:=w1.heap.size + 1) (o:=0) (v:=.int .i64 0) (by simp [go_sem]);have b1:=kkeep g4 (b:=w1.heap.size + 1) (o:=1) (v:=.bool s3) (by simp [go_sem]);have b2:=kkeep g4 (b:=w1.heap.size + 1) (o:=2) (v:=.slice p3 l3 c3) (by simp [go_sem]);have b3:=kkeep g4 (b:=w1.heap.size + 1) (o:=3) (v:=.slice q3 k3 d3) (by simp [go_sem])) | (go_at_call_of 29 (Value.slice p2 l2 c2);refine (hc2 _ s2 p2 l2 c2 q2 k2 d2 (r2.kp k14) (hq3 _ _ k4 hz)).mono ?_;rintro e w5 ⟨rfl,g5⟩;have k5:Kp w w5:=Kp.trans k4 g5))
  exact bodyPost_ret (v:=.bool false) (by simp [results,Tryz.results7,go_sem] <;> omega) rfl ⟨rfl,k5⟩
theorem holdsG_ (LO HI i j C1:Int) (N1 N2:Bool) (M1 M2:Nat) (Q3:World→Prop) (hq3:∀ W W':World,Kp W W'→Q3 W→Q3 W') s3 p3 l3 c3 q3 k3 d3 (hof:∀ w:World,Calls Tryz.prog 28 #[.agg #[.int .u64 LO,.int .u64 HI]] w fun e w'=>∃ (s:Bool) (p:Option Addr) (l c:Nat) (q:Option Addr) (k d:Nat) (s2:Bool) (p2:Option Addr) (l2 c2:Nat) (q2:Option Addr) (k2 d2:Nat),e = .returned (.agg #[.bool false,.int .i64 i,.bool s,.slice p l c,.slice q k d,.int .i64 j,.bool s2,.slice p2 l2 c2,.slice q2 k2 d2])∧RP 0 w' s p l c q k d N1 M1∧RP 0 w' s2 p2 l2 c2 q2 k2 d2 N2 M2∧Kp w w') (hc1:∀ (W:World) s p l c q k d,RP 0 W s p l c q k d N1 M1→Q3 W→Calls Tryz.prog 29 #[.agg #[.int .i64 i,.bool s,.slice p l c,.slice q k d],.agg #[.int .i64 0,.bool s3,.slice p3 l3 c3,.slice q3 k3 d3]] W fun e w'=>e = .returned (.int .i64 C1)∧Kp W w')  (t1:¬ (C1≤0)) (w:World) (hz:Q3 w):Calls Tryz.prog 7 #[.agg #[.int .u64 LO,.int .u64 HI],.agg #[.bool s3,.slice p3 l3 c3,.slice q3 k3 d3]] w fun e w'=>e = .returned (.bool false)∧Kp w w':=by
  go_enter Tryz.func7,Tryz.ntmps7
  go_wp2_with (first | (go_at_call 28;refine (hof _).mono ?_;rintro e w1 ⟨s,p,l,c,q,k,d,s2,p2,l2,c2,q2,k2,d2,rfl,r1,r2,g1⟩;have kw:Kp w w1:=Kp.trans (((Kp.refl w).alloc _).alloc _) g1;have v0:=kkeep g1 (b:=w.heap.size + 1) (o:=0) (v:=.bool s3) (by simp [go_sem]);have v1:=kkeep g1 (b:=w.heap.size + 1) (o:=1) (v:=.slice p3 l3 c3) (by simp [go_sem]);have v2:=kkeep g1 (b:=w.heap.size + 1) (o:=2) (v:=.slice q3 k3 d3) (by simp [go_sem]);have va0:=fun o=>kkeep ((Kp.refl w1).alloc o) v0;have va1:=fun o=>kkeep ((Kp.refl w1).alloc o) v1;have va2:=fun o=>kkeep ((Kp.refl w1).alloc o) v2) | (go_at_call_of 29 (Value.slice p l c);refine (hc1 _ s p l c q k d (r1.kp (((Kp.refl w1).alloc _).alloc _)) (hq3 _ _ (((Kp.refl w1).alloc _).alloc _) (hq3 _ _ kw hz))).mono ?_;rintro e w4 ⟨rfl,g4⟩;have k4:Kp w w4:=Kp.trans (Kp.trans kw (((Kp.refl w1).alloc _).alloc _)) g4;have k14:Kp w1 w4:=Kp.trans (((Kp.refl w1).alloc _).alloc _) g4;have a0:=kkeep g4 (b:=w1.heap.size) (o:=0) (v:=.bool false) (by simp [go_sem]);have a1:=kkeep g4 (b:=w1.heap.size) (o:=1) (v:=.int .i64 i) (by simp [go_sem]);have a2:=kkeep g4 (b:=w1.heap.size) (o:=2) (v:=.bool s) (by simp [go_sem]);have a3:=kkeep g4 (b:=w1.heap.size) (o:=3) (v:=.slice p l c) (by simp [go_sem]);have a4:=kkeep g4 (b:=w1.heap.size) (o:=4) (v:=.slice q k d) (by simp [go_sem]);have a5:=kkeep g4 (b:=w1.heap.size) (o:=5) (v:=.int .i64 j) (by simp [go_sem]);have a6:=kkeep g4 (b:=w1.heap.size) (o:=6) (v:=.bool s2) (by simp [go_sem]);have a7:=kkeep g4 (b:=w1.heap.size) (o:=7) (v:=.slice p2 l2 c2) (by simp [go_sem]);have a8:=kkeep g4 (b:=w1.heap.size) (o:=8) (v:=.slice q2 k2 d2) (by simp [go_sem]);have b0:=kkeep g4 (b:=w1.heap.size + 1) (o:=0) (v:=.int .i64 0) (by simp [go_sem]);have b1:=kkeep g4 (b:=w1.heap.size + 1) (o:=1) (v:=.bool s3) (by simp [go_sem]);have b2:=kkeep g4 (b:=w1.heap.size + 1) (o:=2) (v:=.slice p3 l3 c3) (by simp [go_sem]);have b3:=kkeep g4 (b:=w1.heap.size + 1) (o:=3) (v:=.slice q3 k3 d3) (by simp [go_sem])))
  exact bodyPost_ret (v:=.bool false) (by simp [results,Tryz.results7,go_sem]) rfl ⟨rfl,k4⟩
theorem holdsE_ (LO HI:Int) s3 p3 l3 c3 q3 k3 d3 (hof:∀ w:World,Calls Tryz.prog 28 #[.agg #[.int .u64 LO,.int .u64 HI]] w fun e w'=>∃ (i j:Int) (s:Bool) (p:Option Addr) (l c:Nat) (q:Option Addr) (k d:Nat) (s2:Bool) (p2:Option Addr) (l2 c2:Nat) (q2:Option Addr) (k2 d2:Nat),e = .returned (.agg #[.bool true,.int .i64 i,.bool s,.slice p l c,.slice q k d,.int .i64 j,.bool s2,.slice p2 l2 c2,.slice q2 k2 d2])∧Kp w w') (w:World):Calls Tryz.prog 7 #[.agg #[.int .u64 LO,.int .u64 HI],.agg #[.bool s3,.slice p3 l3 c3,.slice q3 k3 d3]] w fun e w'=>e = .returned (.bool false)∧Kp w w':=by
  go_enter Tryz.func7,Tryz.ntmps7
  go_wp2_with (first | (go_at_call 28;refine (hof _).mono ?_;rintro e w1 ⟨i,j,s,p,l,c,q,k,d,s2,p2,l2,c2,q2,k2,d2,rfl,g1⟩;have kw:Kp w w1:=Kp.trans (((Kp.refl w).alloc _).alloc _) g1;have v0:=kkeep g1 (b:=w.heap.size + 1) (o:=0) (v:=.bool s3) (by simp [go_sem]);have v1:=kkeep g1 (b:=w.heap.size + 1) (o:=1) (v:=.slice p3 l3 c3) (by simp [go_sem]);have v2:=kkeep g1 (b:=w.heap.size + 1) (o:=2) (v:=.slice q3 k3 d3) (by simp [go_sem]);have va0:=fun o=>kkeep ((Kp.refl w1).alloc o) v0;have va1:=fun o=>kkeep ((Kp.refl w1).alloc o) v1;have va2:=fun o=>kkeep ((Kp.refl w1).alloc o) v2))
  exact bodyPost_ret (v:=.bool false) (by simp [results,Tryz.results7,go_sem]) rfl ⟨rfl,((kw.alloc _).alloc _)⟩
set_option linter.unusedVariables false
def vI (z:Int):Int:=Iv (decide (z < 0)) z.natAbs
def loC (K:Nat) (s:Bool) (x y:Nat) (z:Int):Int:=if z = -9218868437227405312 then -1 else if z = 9218868437227405312 then 1 else cmI (vI z * y) (rvI s x * ((2 ^ K:Nat):Int))
def hiC (K:Nat) (s:Bool) (x y:Nat) (z:Int):Int:=if z = 9218868437227405312 then -1 else if z = -9218868437227405312 then 1 else cmI (rvI s x * ((2 ^ K:Nat):Int)) (vI z * y)
def RW (w:World) (s:Bool) (p:Option Addr) (l c:Nat) (q:Option Addr) (k d:Nat) (x y:Nat):Prop:=LN9 w (.slice p l c) x∧LN9 w (.slice q k d) y∧y≠0
theorem RW.kp {w w':World} {s:Bool} {p:Option Addr} {l c:Nat} {q:Option Addr} {k d x y:Nat} (h:RW w s p l c q k d x y) (g:Kp w w'):RW w' s p l c q k d x y:=⟨h.1.kp g,h.2.1.kp g,h.2.2⟩
theorem cmL9 (K:Nat) (hK:K = 1074) (s s3:Bool) (a b x y:Nat) (n:Bool) (m:Nat) (h:RF s a b n m) (hy:y≠0):cmI (rvI s a * (y:Int)) (rvI s3 x * (b:Int)) = cmI (Iv n m * y) (rvI s3 x * ((2 ^ K:Nat):Int))∧cmI (rvI s3 x * (b:Int)) (rvI s a * (y:Int)) = cmI (rvI s3 x * ((2 ^ K:Nat):Int)) (Iv n m * y):=by
  have i1:=h.iv K hK
  obtain ⟨zb,-⟩:=h K hK
  have pk:(0:Int) < ((2 ^ K:Nat):Int):=by have:=Nat.two_pow_pos K;omega
  have pb:(0:Int) < (b:Int):=by omega
  generalize ((2 ^ K:Nat):Int) = P at *
  have e1:rvI s a * (y:Int) * P = Iv n m * y * b:=by rw [Int.mul_right_comm,i1,Int.mul_right_comm]
  have e2:rvI s3 x * (b:Int) * P = rvI s3 x * P * b:=Int.mul_right_comm _ _ _
  constructor
  · rw [← cmI_scale _ _ _ pk,e1,e2,cmI_scale _ _ _ pb]
  · rw [← cmI_scale _ _ _ pk,e1,e2,cmI_scale _ _ _ pb]
theorem infS_z (z:Int) (hz:BdZ z):infS (decide (z < 0)) z.natAbs = if z = 9218868437227405312 then 1 else if z = -9218868437227405312 then -1 else 0:=by
  unfold infS BdZ at *
  by_cases c1:z = 9218868437227405312
  · rw [if_pos c1,c1];decide
  rw [if_neg c1]
  by_cases c2:z = -9218868437227405312
  · rw [if_pos c2,c2];decide
  rw [if_neg c2,if_neg (by omega)]
theorem cmpL9_ (K:Nat) (hK:K = 1074) (z:Int) (hz:BdZ z) (B:Nat) s p l c q k d s3 p3 l3 c3 q3 k3 d3 (x y:Nat) (w:World) (h1:RP B w s p l c q k d (fN (decide (z < 0)) z.natAbs) (fM z.natAbs)) (h2:RW w s3 p3 l3 c3 q3 k3 d3 x y):Calls Tryz.prog 29 #[.agg #[.int .i64 (infS (decide (z < 0)) z.natAbs),.bool s,.slice p l c,.slice q k d],.agg #[.int .i64 0,.bool s3,.slice p3 l3 c3,.slice q3 k3 d3]] w fun e w'=>e = .returned (.int .i64 (loC K s3 x y z))∧Kp w w':=by
  rw [infS_z z hz]
  unfold loC
  by_cases c1:z = 9218868437227405312
  · rw [if_pos c1,if_neg (by omega),if_pos c1]
    exact endG_ 1 0 s p l c q k d s3 p3 l3 c3 q3 k3 d3 (by decide) (by decide) w
  rw [if_neg c1]
  by_cases c2:z = -9218868437227405312
  · rw [if_pos c2,if_pos c2]
    exact endL_ (-1) 0 s p l c q k d s3 p3 l3 c3 q3 k3 d3 (by decide) (by decide) w
  rw [if_neg c2,if_neg c2,if_neg c1]
  unfold BdZ at hz
  have f1:fN (decide (z < 0)) z.natAbs = decide (z < 0)∧fM z.natAbs = z.natAbs:=by unfold fN fM;rw [if_neg (by omega),if_neg (by omega)];exact ⟨rfl,rfl⟩
  rw [f1.1,f1.2] at h1
  obtain ⟨a,b,o1,o2,f2⟩:=h1
  obtain ⟨zb,-,-,j1,j2⟩:=f2 K hK
  rw [show vI z = Iv (decide (z < 0)) z.natAbs from rfl,← (cmL9 K hK s s3 a b x y _ _ f2 h2.2.2).1]
  exact endZ_ _ s p l c q k d s3 p3 l3 c3 q3 k3 d3 w (fun W g=>rcmpW_ s p l c q k d s3 p3 l3 c3 q3 k3 d3 a b x y W (LN9.ofOwn (o1.kp g) (by omega)) (LN9.ofOwn (o2.kp g) (by omega)) (h2.1.kp g) (h2.2.1.kp g) zb h2.2.2)
theorem cmpH9_ (K:Nat) (hK:K = 1074) (z:Int) (hz:BdZ z) (B:Nat) s p l c q k d s3 p3 l3 c3 q3 k3 d3 (x y:Nat) (w:World) (h1:RP B w s p l c q k d (fN (decide (z < 0)) z.natAbs) (fM z.natAbs)) (h2:RW w s3 p3 l3 c3 q3 k3 d3 x y):Calls Tryz.prog 29 #[.agg #[.int .i64 0,.bool s3,.slice p3 l3 c3,.slice q3 k3 d3],.agg #[.int .i64 (infS (decide (z < 0)) z.natAbs),.bool s,.slice p l c,.slice q k d]] w fun e w'=>e = .returned (.int .i64 (hiC K s3 x y z))∧Kp w w':=by
  rw [infS_z z hz]
  unfold hiC
  by_cases c1:z = 9218868437227405312
  · rw [if_pos c1,if_pos c1]
    exact endL_ 0 1 s3 p3 l3 c3 q3 k3 d3 s p l c q k d (by decide) (by decide) w
  rw [if_neg c1]
  by_cases c2:z = -9218868437227405312
  · rw [if_pos c2,if_neg c1,if_pos c2]
    exact endG_ 0 (-1) s3 p3 l3 c3 q3 k3 d3 s p l c q k d (by decide) (by decide) w
  rw [if_neg c2,if_neg c1,if_neg c2]
  unfold BdZ at hz
  have f1:fN (decide (z < 0)) z.natAbs = decide (z < 0)∧fM z.natAbs = z.natAbs:=by unfold fN fM;rw [if_neg (by omega),if_neg (by omega)];exact ⟨rfl,rfl⟩
  rw [f1.1,f1.2] at h1
  obtain ⟨a,b,o1,o2,f2⟩:=h1
  obtain ⟨zb,-,-,j1,j2⟩:=f2 K hK
  rw [show vI z = Iv (decide (z < 0)) z.natAbs from rfl,← (cmL9 K hK s s3 a b x y _ _ f2 h2.2.2).2]
  exact endZ_ _ s3 p3 l3 c3 q3 k3 d3 s p l c q k d w (fun W g=>rcmpW_ s3 p3 l3 c3 q3 k3 d3 s p l c q k d x y a b W (h2.1.kp g) (h2.2.1.kp g) (LN9.ofOwn (o1.kp g) (by omega)) (LN9.ofOwn (o2.kp g) (by omega)) h2.2.2 zb)
theorem holdsW_ (K:Nat) (hK:K = 1074) (a b:Nat) (L H:Int) (hx:Rd a b L H) s3 p3 l3 c3 q3 k3 d3 (x y:Nat) (w:World) (hz:RW w s3 p3 l3 c3 q3 k3 d3 x y):Calls Tryz.prog 7 #[.agg #[.int .u64 ((a:Nat):Int),.int .u64 ((b:Nat):Int)],.agg #[.bool s3,.slice p3 l3 c3,.slice q3 k3 d3]] w fun e w'=>e = .returned (.bool (decide (loC K s3 x y L≤0) && decide (hiC K s3 x y H≤0)))∧Kp w w':=by
  have hd:=hx.vd
  have es:Fq.snd a b = !decide (L = 9218868437227405312):=by
    have h1:=Fq.void_read a b
    rw [hx.2.2.2.1,hx.2.2.2.2,emp9 L H hd] at h1
    rw [h1];simp
  by_cases c:L = 9218868437227405312
  · rw [decide_eq_true c] at es
    have e1:decide (loC K s3 x y L≤0) = false:=by
      unfold loC
      rw [if_neg (by omega),if_pos c];decide
    rw [e1]
    refine holdsE_ _ _ s3 p3 l3 c3 q3 k3 d3 (fun w=>(ofEmpty_ a b hx.1 hx.2.1 es w).mono ?_) w
    rintro e w' ⟨v,rfl,⟨i,j,s,p,l,c,q,k,d,s2,p2,l2,c2,q2,k2,d2,rfl⟩,g⟩
    exact ⟨i,j,s,p,l,c,q,k,d,s2,p2,l2,c2,q2,k2,d2,rfl,g⟩
  · rw [decide_eq_false c] at es
    have hof:=ofSound_ a b hx.1 hx.2.1 es (decide (L < 0)) (decide (H < 0)) L.natAbs H.natAbs (abs_pw L hd.lo) (abs_pw H hd.hi) hx.2.2.2.1 hx.2.2.2.2
    have hof2:∀ w:World,Calls Tryz.prog 28 #[.agg #[.int .u64 ((a:Nat):Int),.int .u64 ((b:Nat):Int)]] w fun e w'=>∃ (s:Bool) (p:Option Addr) (l c:Nat) (q:Option Addr) (k d:Nat) (s2:Bool) (p2:Option Addr) (l2 c2:Nat) (q2:Option Addr) (k2 d2:Nat),e = .returned (.agg #[.bool false,.int .i64 (infS (decide (L < 0)) L.natAbs),.bool s,.slice p l c,.slice q k d,.int .i64 (infS (decide (H < 0)) H.natAbs),.bool s2,.slice p2 l2 c2,.slice q2 k2 d2])∧RP 0 w' s p l c q k d (fN (decide (L < 0)) L.natAbs) (fM L.natAbs)∧RP 0 w' s2 p2 l2 c2 q2 k2 d2 (fN (decide (H < 0)) H.natAbs) (fM H.natAbs)∧Kp w w':=fun w=>(hof w).mono (by
      rintro e w' ⟨v,rfl,⟨s,p,l,c,q,k,d,s2,p2,l2,c2,q2,k2,d2,rfl,h1,h2⟩,g⟩
      exact ⟨s,p,l,c,q,k,d,s2,p2,l2,c2,q2,k2,d2,rfl,h1,h2,g⟩)
    have hkq:∀ W W':World,Kp W W'→RW W s3 p3 l3 c3 q3 k3 d3 x y→RW W' s3 p3 l3 c3 q3 k3 d3 x y:=fun W W' g h=>h.kp g
    have hc1:=fun (W:World) s p l c q k d (h1:RP 0 W s p l c q k d (fN (decide (L < 0)) L.natAbs) (fM L.natAbs)) (h2:RW W s3 p3 l3 c3 q3 k3 d3 x y)=>cmpL9_ K hK L hd.lo 0 s p l c q k d s3 p3 l3 c3 q3 k3 d3 x y W h1 h2
    have hc2:=fun (W:World) s2 p2 l2 c2 q2 k2 d2 (h1:RP 0 W s2 p2 l2 c2 q2 k2 d2 (fN (decide (H < 0)) H.natAbs) (fM H.natAbs)) (h2:RW W s3 p3 l3 c3 q3 k3 d3 x y)=>cmpH9_ K hK H hd.hi 0 s2 p2 l2 c2 q2 k2 d2 s3 p3 l3 c3 q3 k3 d3 x y W h1 h2
    by_cases c1:loC K s3 x y L≤0
    · rw [decide_eq_true c1]
      by_cases c2:hiC K s3 x y H≤0
      · rw [decide_eq_true c2]
        exact holdsT_ _ _ _ _ _ _ _ _ _ _ (fun W=>RW W s3 p3 l3 c3 q3 k3 d3 x y) hkq s3 p3 l3 c3 q3 k3 d3 hof2 hc1 hc2 c1 c2 w hz
      · rw [decide_eq_false c2]
        exact holdsF_ _ _ _ _ _ _ _ _ _ _ (fun W=>RW W s3 p3 l3 c3 q3 k3 d3 x y) hkq s3 p3 l3 c3 q3 k3 d3 hof2 hc1 hc2 c1 c2 w hz
    · rw [decide_eq_false c1]
      exact holdsG_ _ _ _ _ _ _ _ _ _ (fun W=>RW W s3 p3 l3 c3 q3 k3 d3 x y) hkq s3 p3 l3 c3 q3 k3 d3 hof2 hc1 c1 w hz

def loX (K:Nat) (V:Int) (C:Nat) (z:Int):Int:=if z = -9218868437227405312 then -1 else if z = 9218868437227405312 then 1 else cmI (vI z * (C:Int)) (V * ((2 ^ K:Nat):Int))
def hiX (K:Nat) (V:Int) (C:Nat) (z:Int):Int:=if z = 9218868437227405312 then -1 else if z = -9218868437227405312 then 1 else cmI (V * ((2 ^ K:Nat):Int)) (vI z * (C:Int))
theorem cm_sc2 (x y a b c:Int) (p:0 < b) (q:0 < c) (h:a * c = y * b) (P:Int):cmI (x * b) (a * P) = cmI (x * c) (y * P)∧cmI (a * P) (x * b) = cmI (y * P) (x * c):=by
  have e1:x * b * c = x * c * b:=by ac_rfl
  have e2:a * P * c = y * P * b:=by rw [show a * P * c = a * c * P from by ac_rfl,h];ac_rfl
  constructor
  · rw [← cmI_scale (x * b) (a * P) c q,e1,e2,cmI_scale _ _ _ p]
  · rw [← cmI_scale (a * P) (x * b) c q,e1,e2,cmI_scale _ _ _ p]
theorem holdsX_ (K:Nat) (hK:K = 1074) (a b:Nat) (L H:Int) (hx:Rd a b L H) s3 p3 l3 c3 q3 k3 d3 (V:Int) (C N:Nat) (hN:N≤268435456) (w:World) (hz:XP 0 w s3 p3 l3 c3 q3 k3 d3 V C N):Calls Tryz.prog 7 #[.agg #[.int .u64 ((a:Nat):Int),.int .u64 ((b:Nat):Int)],.agg #[.bool s3,.slice p3 l3 c3,.slice q3 k3 d3]] w fun e w'=>e = .returned (.bool (decide (loX K V C L≤0) && decide (hiX K V C H≤0)))∧Kp w w':=by
  obtain ⟨x,y,h1,h2,f1,f2,f3,f4,f5⟩:=hz
  have h:=holdsW_ K hK a b L H hx s3 p3 l3 c3 q3 k3 d3 x y w ⟨LN9.ofOwn h1 (by omega),LN9.ofOwn h2 (by omega),f1⟩
  have e1:loC K s3 x y L = loX K V C L:=by
    unfold loC loX
    split
    · rfl
    · split
      · rfl
      · exact (cm_sc2 (vI L) V (rvI s3 x) (y:Int) (C:Int) (by omega) (by omega) f3 _).1
  have e2:hiC K s3 x y H = hiX K V C H:=by
    unfold hiC hiX
    split
    · rfl
    · split
      · rfl
      · exact (cm_sc2 (vI H) V (rvI s3 x) (y:Int) (C:Int) (by omega) (by omega) f3 _).2
  rw [e1,e2] at h
  exact h
end Go.Proofs.YtnileplkkmhdgaaGreatDoor
