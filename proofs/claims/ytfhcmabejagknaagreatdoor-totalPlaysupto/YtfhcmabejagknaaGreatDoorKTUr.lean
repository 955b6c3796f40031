import Derived.Test.YtfhcmabejagknaaGreatDoorKTUd
set_option maxHeartbeats 1000000
set_option maxRecDepth 20000
namespace Go.Proofs.YtfhcmabejagknaaGreatDoor
open Go.RowKit
theorem kgood (f T:Int) (hT:T = (f + 120).tdiv 2):118≤f + 2 * (120 - T)∧f + 2 * (120 - T)≤123∧59≤(f + 2 * (120 - T)).tdiv 2∧(f + 2 * (120 - T)).tdiv 2≤61:=by
  have h1:=Int.tmod_add_mul_tdiv (f + 120) 2
  have h2:(f + 120).tmod 2≤1∧-1≤(f + 120).tmod 2:=by
    rcases Int.le_total 0 (f + 120) with c | c
    · have:=Int.tmod_nonneg 2 c
      have:=Int.tmod_lt_of_pos (f + 120) (show (0:Int) < 2 by decide)
      omega
    · have e:(f + 120).tmod 2 = -((-(f + 120)).tmod 2):=by rw [Int.neg_tmod];omega
      have:=Int.tmod_nonneg 2 (show 0≤-(f + 120) by omega)
      have:=Int.tmod_lt_of_pos (-(f + 120)) (show (0:Int) < 2 by decide)
      omega
  have h3:(f + 2 * (120 - T)).tdiv 2 = (f + 2 * (120 - T)) / 2:=Int.tdiv_eq_ediv_of_nonneg (by omega)
  rw [h3]
  omega
theorem kend (g T:Int) (hT:T = g.tdiv 2) (h1:¬ 61 < T) (h2:¬ T < 59):118≤g∧g≤123:=by
  have c:0≤g:=by
    refine Decidable.byContradiction fun c=>?_
    have h1:=Int.tmod_add_mul_tdiv g 2
    have e:g.tmod 2 = -((-g).tmod 2):=by rw [Int.neg_tmod];omega
    have:=Int.tmod_nonneg 2 (show 0≤-g by omega)
    have:=Int.tmod_lt_of_pos (-g) (show (0:Int) < 2 by decide)
    omega
  rw [Int.tdiv_eq_ediv_of_nonneg c] at hT
  omega
theorem kbound (f k T:Int) (h1:-9000≤f) (h2:f≤9000) (hT:T = (f + 2 * k).tdiv 2) (k1:-9000≤k) (k2:k≤9000):-40000≤T∧T≤40000:=by
  have h3:=Int.tmod_add_mul_tdiv (f + 2 * k) 2
  have h4:((f + 2 * k).tmod 2).natAbs < 2:=by
    rw [Int.natAbs_tmod]
    exact Nat.mod_lt _ (by decide)
  omega
theorem blen_prod (x y:Nat):blen (x * y)≤blen x + blen y:=(blen_le_iff _ _).2 (by
  rw [Nat.pow_add]
  exact Nat.mul_lt_mul'' ((blen_le_iff x _).1 (Nat.le_refl _)) ((blen_le_iff y _).1 (Nat.le_refl _)))
theorem orbit (r i:Nat) (hi:i≤62) (h0:r % 2 ^ (i + 1) = 0) (hr:r < 9223372036854775808):bits .or .u64 (r:Int) (IntKind.u64.wrap ((2:Int) ^ i)) = ((r + 2 ^ i:Nat):Int):=by
  have hp:2 ^ i≤2 ^ 62:=Nat.pow_le_pow_right (by decide) hi
  rw [show (2:Nat) ^ 62 = 4611686018427387904 from by decide] at hp
  have hp0:=Nat.two_pow_pos i
  obtain ⟨P,hP⟩:∃ P,P = 2 ^ i:=⟨_,rfl⟩
  have e0:((2:Int) ^ i) = ((P:Nat):Int):=by rw [hP];push_cast;rfl
  have e1:IntKind.u64.wrap ((P:Nat):Int) = ((P:Nat):Int):=by rw [IntKind.wrap_u64];omega
  rw [e0,e1,u64_or_nat r P (by omega) (by omega)]
  obtain ⟨q,hq⟩:=Nat.dvd_of_mod_eq_zero h0
  have e2:=or_low (2 ^ i) q (i + 1) (Nat.pow_lt_pow_right (by decide) (by omega))
  rw [hq,hP,Nat.or_comm,Nat.mul_comm (2 ^ (i + 1)) q,e2,Nat.add_comm,Nat.mul_comm]
theorem root_small (r Q G9:Nat) (h:r * r≤Q) (hQ:Q < 2 ^ (G9 + 1)) (hG:G9≤123):r < 4611686018427387904:=by
  refine Decidable.byContradiction fun c=>?_
  have h1:2 ^ 62 * 2 ^ 62≤r * r:=Nat.mul_le_mul (by rw [show (2:Nat) ^ 62 = 4611686018427387904 from by decide];omega) (by rw [show (2:Nat) ^ 62 = 4611686018427387904 from by decide];omega)
  have h2:2 ^ (G9 + 1)≤2 ^ 124:=Nat.pow_le_pow_right (by decide) (by omega)
  rw [← Nat.pow_add] at h1
  omega
theorem rrootZ_ (d:Int) (a b A:Nat) (P1 P2:Option Addr) (C1 C2 E1 E2:Nat) (w:World) (h1:Ls w (.slice P1 E1 C1) (dig a)) (h2:Ls w (.slice P2 E2 C2) (dig b)) (l1:blen a≤8000) (l2:blen b≤2149) (hbr:blen (rtR A)≤524288) (za:a≠0) (zb:b≠0) (K:Nat) (hK:K = 1074) (hA:a * 2 ^ (K + K) = A * b) :
    Calls Tryz.prog 59 #[.int .i64 d,.agg #[.bool false,.slice P1 E1 C1,.slice P2 E2 C2],.int .i64 2] w fun e w'=>e = .returned (.int .u64 ((rtZ d A:Nat):Int))∧Kp w w':=by
  obtain ⟨B,hB⟩:∃ B,B = w.heap.size:=⟨_,rfl⟩
  obtain ⟨w0,hw0⟩:∃ w0,w0 = w.alloc (.cells #[.bool false,.slice P1 E1 C1,.slice P2 E2 C2] 27):=⟨_,rfl⟩
  have kw:Kp w w0:=by rw [hw0];exact (Kp.refl w).alloc _
  have x1:w0.cell? ⟨B,1,none⟩ = some (.slice P1 E1 C1):=by rw [hw0,hB];simp [go_sem]
  have x2:w0.cell? ⟨B,2,none⟩ = some (.slice P2 E2 C2):=by rw [hw0,hB];simp [go_sem]
  have s1:=rsign_ false (.slice P1 E1 C1) (.slice P2 E2 C2) a w0 (h1.kp kw) (by omega)
  rw [if_neg za] at s1
  have g1:∀ W,Kp w0 W→Calls Tryz.prog 94 #[.slice P1 E1 C1] W fun e w'=>e = .returned (.int .i64 (blen a:Nat))∧w' = W:=fun W k=>lenR _ a W (h1.kp (kw.trans k)) (by omega)
  have g2:∀ W,Kp w0 W→Calls Tryz.prog 94 #[.slice P2 E2 C2] W fun e w'=>e = .returned (.int .i64 (blen b:Nat))∧w' = W:=fun W k=>lenR _ b W (h2.kp (kw.trans k)) (by omega)
  obtain ⟨f,hf⟩:∃ f:Int,f = (blen a:Int) - (blen b:Int):=⟨_,rfl⟩
  obtain ⟨LA,hLA⟩:∃ L:Nat,L = blen a:=⟨_,rfl⟩
  obtain ⟨LB,hLB⟩:∃ L:Nat,L = blen b:=⟨_,rfl⟩
  have ef:wrap64 ((LA:Int) - (LB:Int)) = f:=by rw [hLA,hLB,← hf];exact w64x _ (by omega) (by omega)
  rw [← hLA] at g1
  rw [← hLB] at g2
  obtain ⟨Pr,z1,z2,gg⟩:∃ Pr:Value→Nat→Prop,Pr (.slice P1 E1 C1) LA∧Pr (.slice P2 E2 C2) LB∧∀ v L,Pr v L→∀ W,Kp w0 W→Calls Tryz.prog 94 #[v] W fun e w'=>e = .returned (.int .i64 (L:Int))∧w' = W:=by
    refine ⟨fun v L=>(v = .slice P1 E1 C1∧L = LA)∨(v = .slice P2 E2 C2∧L = LB),Or.inl ⟨rfl,rfl⟩,Or.inr ⟨rfl,rfl⟩, ?_⟩
    rintro v L (⟨rfl,rfl⟩ | ⟨rfl,rfl⟩) W k
    · exact g1 W k
    · exact g2 W k
  have HBR:Hid (blen (rtR A)≤524288):=hbr
  clear hbr
  obtain ⟨Z,hZ⟩:∃ Z,Z = rtZ d A:=⟨_,rfl⟩
  rw [← hZ]
  have HI:Hid (f = (blen a:Int) - (blen b:Int)∧Kp w w0∧Ls w (.slice P1 E1 C1) (dig a)∧Ls w (.slice P2 E2 C2) (dig b)∧blen a≤8000∧blen b≤2149∧a≠0∧b≠0∧K = 1074∧a * 2 ^ (K + K) = A * b∧Z = rtZ d A):=⟨hf,kw,h1,h2,l1,l2,za,zb,hK,hA,hZ⟩
  have HW:Hid (w0 = w.alloc (.cells #[.bool false,.slice P1 E1 C1,.slice P2 E2 C2] 27)∧B = w.heap.size):=⟨hw0,hB⟩
  clear hf kw h1 h2 l1 l2 za zb hK hA hZ hLA hLB hw0 hB g1 g2
  go_enter Tryz.func59,Tryz.ntmps59
  go_wp2_with fail
  rw [← HW.out.2,← HW.out.1]
  refine s1.mono ?_;rintro e w1 ⟨rfl,kk1⟩
  replace x1:=kkeep kk1 x1
  replace x2:=kkeep kk1 x2
  clear s1 HW
  go_wp2
  refine wp_region_kp (by kernel_rfl) (by kernel_rfl) (fun ι _ G hG hall=>?_)
  have c1:∀ n,(G n).cell? ⟨B,1,none⟩ = some (.slice P1 E1 C1):=fun n=>kkeep (hG n) x1
  have c2:∀ n,(G n).cell? ⟨B,2,none⟩ = some (.slice P2 E2 C2):=fun n=>kkeep (hG n) x2
  have hq:∀ n (v:Value) (L:Nat),Pr v L→Calls Tryz.prog 94 #[v] (G n) fun e w'=>e = .returned (.int .i64 (L:Int))∧∃ n',w' = G n':=fun n v L hP=>(gg v L hP _ (kk1.trans (hG n))).mono (fun e w' h=>⟨h.1,hall _ (by rw [h.2];exact hG n)⟩)
  repeat (go_big_quiet_step (exact hq _ _ _ (by with_reducible (first | exact z1 | exact z2))))
  refine wpQuiet_nil ?_
  rintro _ ⟨nq,rfl⟩
  obtain ⟨w2,hw2⟩:∃ w2,w2 = G nq:=⟨_,rfl⟩
  rw [← hw2]
  have y1:w2.cell? ⟨B,1,none⟩ = some (.slice P1 E1 C1):=by rw [hw2];exact c1 nq
  have y2:w2.cell? ⟨B,2,none⟩ = some (.slice P2 E2 C2):=by rw [hw2];exact c2 nq
  have HK:Hid (Kp w w2):=by
    have:=HI.out.2.1.trans (kk1.trans (hG nq))
    rw [← hw2] at this
    exact this
  clear c1 c2 hq z1 z2 gg hall hG x1 x2 kk1 hw2
  go_wp2
  have HF:Hid (-2149≤f∧f≤8000):=⟨by have q1:=HI.out.1;have q2:=HI.out.2.2.2.2.1;have q3:=HI.out.2.2.2.2.2.1;omega,by have q1:=HI.out.1;have q2:=HI.out.2.2.2.2.1;have q3:=HI.out.2.2.2.2.2.1;omega⟩
  simp only [ef]
  clear ef
  go_loopw [9] (fun kk wr=>∃ k:Int,kk = .int .i64 k∧wr = w2∧(k = 60∨(59≤(f + 2 * k).tdiv 2∧(f + 2 * k).tdiv 2≤61))∧(-9000≤k∧k≤9000)) (fun kk _=>((f + 2 * intOf kk).tdiv 2 - 61).toNat)
  case atStart=>exact ⟨60,rfl,rfl,Or.inl rfl,by decide⟩
  case round =>
    obtain ⟨k,rfl,hw9,hk,hb⟩:=hrel
    obtain rfl:=hw9.symm
    clear hw9
    obtain ⟨T,hT⟩:∃ T,T = (f + 2 * k).tdiv 2:=⟨_,rfl⟩
    obtain ⟨m2,hm2⟩:∃ m2,m2 = 2 * k:=⟨_,rfl⟩
    obtain ⟨g,hg⟩:∃ g,g = f + m2:=⟨_,rfl⟩
    have hTb:=kbound f k T (by have:=HF.out;omega) (by have:=HF.out;omega) hT hb.1 hb.2
    have e1:wrap64 (2 * k) = m2:=by rw [← hm2];exact w64x _ (by omega) (by omega)
    have e2:wrap64 (f + m2) = g:=by have:=HF.out;rw [← hg];exact w64x _ (by omega) (by omega)
    have e3:wrap64 (g.tdiv 2) = T:=by rw [hg,hm2,← hT];exact w64x _ (by omega) (by omega)
    by_cases ct:61 < T
    · have hk60:k = 60:=by
        rcases hk with h | h
        · exact h
        · omega
      have kg:=kgood f T (by rw [hT,hk60];rfl)
      obtain ⟨s9,hs9⟩:∃ s9,s9 = T - 60:=⟨_,rfl⟩
      obtain ⟨k9,hk9⟩:∃ k9,k9 = k - s9:=⟨_,rfl⟩
      have e4:wrap64 (T - 60) = s9:=by rw [← hs9];exact w64x _ (by omega) (by omega)
      have e5:wrap64 (k - s9) = k9:=by rw [← hk9];exact w64x _ (by omega) (by omega)
      have ek:k9 = 120 - T:=by omega
      have HT:Hid ((59≤(f + 2 * k9).tdiv 2∧(f + 2 * k9).tdiv 2≤61)∧(-9000≤k9∧k9≤9000)∧T = (f + 2 * k).tdiv 2∧61 < T):=⟨by rw [ek];exact kg.2.2,by have:=HF.out;omega,hT,ct⟩
      clear hk60 kg hs9 hk9 ek hTb hb hk hm2 hg hT HI HF HK
      go_wp2
      refine ⟨⟨k9,by rw [e5],by simp,Or.inr HT.out.1,HT.out.2.1⟩, ?_⟩
      have q1:=HT.out
      simp only [intOf,e5]
      omega
    · have HT:Hid ((k = 60∨(59≤(f + 2 * k).tdiv 2∧(f + 2 * k).tdiv 2≤61))∧(-9000≤k∧k≤9000)∧(f + 2 * k).tdiv 2≤61):=⟨hk,hb,by omega⟩
      clear hTb hb hk hm2 hg hT
      go_wp2
      clear ct e1 e2 e3
      go_loopw [9] (fun kk wr=>∃ k:Int,kk = .int .i64 k∧wr = w2∧(k = 60∨(59≤(f + 2 * k).tdiv 2∧(f + 2 * k).tdiv 2≤61))∧(-9000≤k∧k≤9000)∧(f + 2 * k).tdiv 2≤61) (fun kk _=>(59 - (f + 2 * intOf kk).tdiv 2).toNat)
      case atStart=>exact ⟨k,rfl,rfl,HT.out.1,HT.out.2.1,HT.out.2.2⟩
      case round =>
        clear HT
        obtain ⟨k,rfl,hw9,hk,hb,hle⟩:=hrel
        obtain rfl:=hw9.symm
        clear hw9
        obtain ⟨T,hT⟩:∃ T,T = (f + 2 * k).tdiv 2:=⟨_,rfl⟩
        obtain ⟨m2,hm2⟩:∃ m2,m2 = 2 * k:=⟨_,rfl⟩
        obtain ⟨g,hg⟩:∃ g,g = f + m2:=⟨_,rfl⟩
        have hTb:=kbound f k T (by have:=HF.out;omega) (by have:=HF.out;omega) hT hb.1 hb.2
        have e1:wrap64 (2 * k) = m2:=by rw [← hm2];exact w64x _ (by omega) (by omega)
        have e2:wrap64 (f + m2) = g:=by have:=HF.out;rw [← hg];exact w64x _ (by omega) (by omega)
        have e3:wrap64 (g.tdiv 2) = T:=by rw [hg,hm2,← hT];exact w64x _ (by omega) (by omega)
        by_cases ct:T < 59
        · have hk60:k = 60:=by
            rcases hk with h | h
            · exact h
            · omega
          have kg:=kgood f T (by rw [hT,hk60];rfl)
          obtain ⟨s9,hs9⟩:∃ s9,s9 = 60 - T:=⟨_,rfl⟩
          obtain ⟨k9,hk9⟩:∃ k9,k9 = k + s9:=⟨_,rfl⟩
          have e4:wrap64 (60 - T) = s9:=by rw [← hs9];exact w64x _ (by omega) (by omega)
          have e5:wrap64 (k + s9) = k9:=by rw [← hk9];exact w64x _ (by omega) (by omega)
          have ek:k9 = 120 - T:=by omega
          have HT:Hid ((59≤(f + 2 * k9).tdiv 2∧(f + 2 * k9).tdiv 2≤61)∧(-9000≤k9∧k9≤9000)∧T = (f + 2 * k).tdiv 2∧T < 59):=⟨by rw [ek];exact kg.2.2,by have:=HF.out;omega,hT,ct⟩
          clear hk60 kg hs9 hk9 ek hTb hb hk hm2 hg hT HI HF HK hle
          go_wp2
          refine ⟨⟨k9,by rw [e5],by simp,Or.inr HT.out.1,HT.out.2.1,HT.out.1.2⟩, ?_⟩
          have q1:=HT.out
          simp only [intOf,e5]
          omega
        · have kz:=kend (f + 2 * k) T hT (by omega) ct
          have HT:Hid ((118≤f + 2 * k∧f + 2 * k≤123)∧(-9000≤k∧k≤9000)∧m2 = 2 * k):=⟨kz,hb,hm2⟩
          clear hTb hb hk hm2 hg hT hle kz
          by_cases ck:0≤k
          · obtain ⟨M,hM⟩:∃ M:Nat,(M:Int) = m2:=⟨m2.toNat,by have:=HT.out;omega⟩
            subst hM
            have hl:=leftR (.slice P1 E1 C1) a M w2 (HI.out.2.2.1.kp HK.out) (by have:=HI.out;omega) (by have:=HT.out;omega)
            obtain ⟨X,hX9⟩:∃ X,X = a * 2 ^ M:=⟨_,rfl⟩
            rw [← hX9] at hl
            obtain ⟨Y,hY9⟩:∃ Y,Y = b:=⟨_,rfl⟩
            obtain ⟨t9,ht9⟩:∃ t:Nat,(t:Int) = 1138 - k:=⟨(1138 - k).toNat,by have q1:=HT.out;have q2:=HF.out;omega⟩
            obtain ⟨G9,hG9⟩:∃ G9:Nat,(G9:Int) = f + 2 * k:=⟨(f + 2 * k).toNat,by have q1:=HT.out;omega⟩
            have HX:Hid (blen X≤30000∧blen Y≤30000∧0 < Y∧X≠0∧blen X = blen Y + G9∧(118≤G9∧G9≤123)∧A * 4 ^ 64 * Y = X * 4 ^ t9∧(t9:Int) = 1138 - k∧(-9000≤k∧k≤9000)):=by
              have q1:=HT.out
              have q2:=HF.out
              have q3:=HI.out.2.2.2.2
              have q4:=HI.out.1
              have q5:blen X = blen a + M:=by rw [hX9];exact blen_mul _ _ q3.2.2.1
              have q6:=rtS1Z a b A K M k.toNat q3.2.2.2.2.1 q3.2.2.2.2.2.1 (by omega) (by omega)
              rw [← hX9,← hY9,show 1138 - k.toNat = t9 from by omega] at q6
              rw [hY9] at q6 ⊢
              exact ⟨by omega,by omega,Nat.pos_of_ne_zero q3.2.2.2.1,by rw [hX9];exact Nat.mul_ne_zero q3.2.2.1 (Nat.ne_of_gt (Nat.two_pow_pos M)),by omega,by omega,q6,ht9,q1.2.1⟩
            have HJ:Hid (Ls w (.slice P2 E2 C2) (dig Y)∧Z = rtZ d A∧Kp w w2):=⟨by rw [hY9];exact HI.out.2.2.2.1,HI.out.2.2.2.2.2.2.2.2.2.2,HK.out⟩
            clear hX9 hY9 ht9 hG9 HI HF HT
            go_wp2_with fail
            refine hl.mono ?_;rintro e w3 ⟨vl,rfl,hX,kk3⟩
            have hY:=HJ.out.1.kp (HJ.out.2.2.trans kk3)
            replace HK:Hid (Kp w w3):=HK.out.trans kk3
            clear hl kk3
            have b1:=byR vl (.slice P2 E2 C2) X Y w3 hX hY (by have:=HX.out;omega) (by have:=HX.out;omega) HX.out.2.2.1
            go_wp2_with fail
            refine b1.mono ?_;rintro e w4 ⟨vq,vr,rfl,hq4,_,kk4⟩
            replace hX:=hX.kp kk4
            replace hY:=hY.kp kk4
            replace HK:Hid (Kp w w4):=HK.out.trans kk4
            have HY:Hid (Ls w4 vl (dig X)∧Ls w4 (.slice P2 E2 C2) (dig Y)):=⟨hX,hY⟩
            obtain ⟨Q,hQ⟩:∃ Q,Q = X / Y:=⟨_,rfl⟩
            rw [← hQ] at hq4
            have HQ:Hid (Q = X / Y∧2 ^ (G9 - 1)≤Q∧Q < 2 ^ (G9 + 1)):=⟨hQ,by rw [hQ];exact (blen_divQ X Y G9 HX.out.2.2.2.1 (Nat.pos_iff_ne_zero.1 HX.out.2.2.1) HX.out.2.2.2.2.1 (by have:=HX.out;omega))⟩
            have HQ4:Hid (Ls w4 vq (dig Q)):=hq4
            clear b1 hX hY kk4 hQ hq4
            go_wp2
            go_loopw [14,15] (fun rr ii wr=>∃ (r j:Nat),rr = .int .u64 (r:Int)∧ii = .int .i64 ((j:Int) - 1)∧j≤63∧r % 2 ^ j = 0∧r * r≤Q∧Q < (r + 2 ^ j) * (r + 2 ^ j)∧Kp w4 wr) (fun _ ii _=>(intOf ii + 1).toNat)
            case atStart =>
              refine ⟨0,63,rfl,rfl,Nat.le_refl _,Nat.zero_mod _,Nat.zero_le _, ?_,Kp.refl _⟩
              have q1:=HQ.out.2.2
              have q2:2 ^ (G9 + 1)≤2 ^ 126:=Nat.pow_le_pow_right (by decide) (by have:=HX.out;omega)
              rw [Nat.zero_add,← Nat.pow_add]
              omega
            case round =>
              obtain ⟨r,j,rfl,rfl,hj,hr0,hr1,hr2,kk5⟩:=hrel
              by_cases cj:j = 0
              · subst cj
                have e9:(((0:Nat):Int) - 1) = -1:=by omega
                rw [e9]
                have hrt:IsRt Q r:=⟨hr1,by rw [Nat.pow_zero] at hr2;exact hr2⟩
                have hrl:=root_len Q r G9 hrt HQ.out.2.1 HQ.out.2.2 (by have:=HX.out;omega) (by have:=HX.out;omega)
                have HRt:Hid (IsRt (X / Y) r):=by
                  rw [← HQ.out.1];exact hrt
                have hb62:blen r≤62:=(blen_le_iff r 62).2 (by rw [show (2:Nat) ^ 62 = 4611686018427387904 from by decide];exact hrl.2)
                obtain ⟨H,hH⟩:∃ H,H = 2 * r + (if r * r * Y = X then 0 else 1):=⟨_,rfl⟩
                have hb64:blen H≤64:=(blen_le_iff H 64).2 (by
                  rw [show (2:Nat) ^ 64 = 18446744073709551616 from by decide,hH]
                  split <;> omega)
                have hb63:blen (r * 2 ^ 1)≤63:=(blen_le_iff _ 63).2 (by rw [show (2:Nat) ^ 63 = 9223372036854775808 from by decide];omega)
                have HH0:Hid (H = 2 * r + (if r * r * Y = X then 0 else 1)):=hH
                clear hH
                obtain ⟨ne,hne⟩:∃ ne:Int,ne = -k - 1:=⟨_,rfl⟩
                obtain ⟨nk,hnk⟩:∃ nk:Int,nk = -k:=⟨_,rfl⟩
                have en1:wrap64 (-k) = nk:=by have q1:=HX.out;rw [← hnk];exact w64x _ (by omega) (by omega)
                have en2:wrap64 (nk - 1) = ne:=by have q1:=HX.out;rw [hnk,← hne];exact w64x _ (by omega) (by omega)
                have HE:Hid (ne = -k - 1∧(-20000≤ne∧ne≤20000)):=⟨hne,by have q1:=HX.out;omega⟩
                have HR:Hid ((9007199254740992≤r∧r < 4611686018427387904)∧blen r≤62∧blen (r * 2 ^ 1)≤63∧blen H≤64):=⟨hrl,hb62,hb63,hb64⟩
                have s1:=rsmall_ r (by omega) wr
                clear hr0 hr1 hr2 hrt hrl hb62 hb63 hb64 hne hnk hj e9 HQ4 HQ
                go_wp2_with fail
                refine s1.mono ?_;rintro e w5 ⟨vs,rfl,ho5,kj⟩
                obtain ⟨p5,c5,rfl,ar5,_⟩:=ho5.arr
                have l6:blen (r * r)≤124:=by
                  refine (blen_le_iff _ _).2 ?_
                  have q0:=HR.out.1.2
                  have q1:r * r < 2 ^ 62 * 2 ^ 62:=Nat.mul_lt_mul_of_lt_of_le (by rw [show (2:Nat) ^ 62 = 4611686018427387904 from by decide];exact q0) (by rw [show (2:Nat) ^ 62 = 4611686018427387904 from by decide];omega) (by decide)
                  rw [← Nat.pow_add] at q1
                  exact q1
                have hpw:=rpower1_ p5 c5 2 (dig r) w5 ar5 (Wd_dig r) (Nat.le_trans (dlen r 10 (by have:=HR.out;omega)) (by decide)) (by rw [val_dig];have:=HR.out;omega) (by rw [val_dig,Nat.pow_two];exact Nat.le_trans (dlen _ 10 (by omega)) (by decide)) (by omega)
                rw [val_dig,Nat.pow_two] at hpw
                have hpw2:Calls Tryz.prog 97 #[.slice p5 (dig r).length c5,.int .i64 2] w5 fun e w'=>∃ v,e = .returned v∧Own w' w5.heap.size v (dig (r * r))∧Kp w5 w':=hpw
                replace kk5:=kk5.trans kj
                clear s1 ho5 ar5 hpw kj
                go_wp2_with fail
                refine hpw2.mono ?_;rintro e w6 ⟨v6,rfl,ho6,kj⟩
                replace kk5:=kk5.trans kj
                have htm:=timesR v6 (.slice P2 E2 C2) (r * r) Y w6 ho6.ls (HY.out.2.kp kk5) (Nat.le_trans (dlen _ 10 (by omega)) (by decide)) (Nat.le_trans (dlen Y 1000 (by have:=HX.out;omega)) (by decide))
                clear hpw2 ho6 kj
                go_wp2_with fail
                refine htm.mono ?_;rintro e w7 ⟨p7,c7,rfl,ar7,l7,kj⟩
                replace kk5:=kk5.trans kj
                have ly:blen (r * r * Y)≤40000:=by have q1:=blen_prod (r * r) Y;have q2:=HX.out;omega
                have hcm:=cmpR (.slice p7 (dig (r * r * Y)).length c7) vl (r * r * Y) X w7 ⟨p7,c7,rfl,ar7,l7⟩ (HY.out.1.kp kk5) (by omega) (by have:=HX.out;omega)
                clear htm ar7 l7 kj
                by_cases c5:r * r * Y = X
                · rw [cmpN_eq c5] at hcm
                  have HC5:Hid (r * r * Y = X):=c5
                  clear c5
                  go_wp2_with fail
                  refine hcm.mono ?_;rintro e w8 ⟨rfl,kj⟩
                  have kk8:Kp w4 w8:=kk5.trans kj
                  clear hcm kj kk5 ly l6
                  have c5:=HC5.out
                  have hH:=HH0.out
                  have HH:Hid (H = 2 * r + (if r * r * Y = X then 0 else 1)∧H = r * 2 ^ 1 + 0):=by
                    have e:H = 2 * r + (if r * r * Y = X then 0 else 1):=hH
                    exact ⟨e,by rw [e,if_pos c5];omega⟩
                  clear hH c5 HC5 HH0
                  have s2:=rsmall_ r (by have:=HR.out;omega) w8
                  go_wp2_with fail
                  refine s2.mono ?_;rintro e w9 ⟨v9,rfl,ho9,kj⟩
                  replace kk8:=kk8.trans kj
                  have s3:=leftR v9 r 1 w9 ho9.ls (by have:=HR.out;omega) (by decide)
                  clear s2 ho9 kj
                  have s3b:Calls Tryz.prog 95 #[v9,.int .i64 1] w9 fun e w'=>∃ v',e = .returned v'∧Ls w' v' (dig (r * 2 ^ 1))∧Kp w9 w':=s3
                  clear s3
                  go_wp2_with fail
                  refine s3b.mono ?_;rintro e w10 ⟨v10,rfl,ho10,kj⟩
                  replace kk8:=kk8.trans kj
                  have s4:Calls Tryz.prog 62 #[.int .u64 0] w10 fun e w'=>∃ r,e = .returned r∧Own w' w10.heap.size r (dig 0)∧Kp w10 w':=rsmall_ 0 (by decide) w10
                  have HL:Hid (Ls w10 v10 (dig (r * 2 ^ 1))):=ho10
                  clear s3b ho10 kj
                  go_wp2_with fail
                  refine s4.mono ?_;rintro e w11 ⟨v11,rfl,ho11,kj⟩
                  replace kk8:=kk8.trans kj
                  have s5:=plusR v10 v11 (r * 2 ^ 1) 0 w11 (HL.out.kp kj) ho11.ls (dlen _ _ (by have:=HR.out.2.2;omega)) (dlen _ _ (by have:=(blen_le_iff 0 1).2 (by decide);omega))
                  rw [← HH.out.2] at s5
                  clear s4 ho11 kj HL
                  go_wp2_with fail
                  refine s5.mono ?_;rintro e w12 ⟨p12,c12,rfl,ar12,l12,kj⟩
                  replace kk8:=kk8.trans kj
                  clear s5 kj
                  obtain ⟨LH,hLH⟩:∃ LH,LH = (dig H).length:=⟨_,rfl⟩
                  obtain ⟨g13,hg13⟩:∃ g13,g13 = w12.heap.size:=⟨_,rfl⟩
                  obtain ⟨w13,hw13⟩:∃ w13,w13 = w12.alloc (.cells #[.int .u32 1] 86):=⟨_,rfl⟩
                  have k13:Kp w12 w13:=by rw [hw13];exact (Kp.refl _).alloc _
                  have ar13:Arr w13 (some ⟨g13,0,none⟩) (dig 1):=by
                    have h:=(row1 w12 1).all rfl
                    rw [← hw13,← hg13] at h
                    rw [dig_one]
                    exact h
                  have s6:=frac_ false (.slice p12 (dig H).length c12) (.slice (some ⟨g13,0,none⟩) (dig 1).length 1) (dig H) (dig 1) ne w13 ⟨p12,c12,rfl,ar12.grown k13,l12⟩ ⟨some ⟨g13,0,none⟩,1,rfl,ar13,by rw [dig_one];exact Nat.le_refl 1⟩ (Wd_dig _) (Wd_dig _) (Nat.le_trans (dlen H 10 (by have:=HR.out;omega)) (by decide)) (by rw [dig_one];decide) (by rw [val_dig];decide) (by have:=HE.out;omega)
                  rw [val_dig,val_dig] at s6
                  rw [show (dig 1).length = 1 from by rw [dig_one];rfl] at s6
                  have HG:Hid (g13 = w12.heap.size∧w13 = w12.alloc (.cells #[.int .u32 1] 86)):=⟨hg13,hw13⟩
                  replace kk8:=kk8.trans k13
                  clear hLH hg13 hw13 ar12 l12 k13 ar13
                  go_wp2_with fail
                  rw [← HG.out.1,← HG.out.2]
                  refine s6.mono ?_;rintro e w14 ⟨v14,v15,a8,b8,g8,rfl,o14,o15,⟨hF8,hg8⟩,kj⟩
                  replace kk8:=kk8.trans kj
                  have s7:=rbits_ d g8 v14 v15 a8 b8 w14 o14.ls o15.ls hF8.1 (by have q1:=hF8.2.2.2.1;have q2:=HE.out;have q3:=HR.out;omega) (by have q1:=hF8.2.2.2.2;have q2:=HE.out;have q3:=HR.out;have q4:=(blen_le_iff 1 1).2 (by decide);omega)
                  have hr8:=refW_fin d g8 false H 1 a8 b8 ne hF8 hg8 1074 rfl
                  rw [hr8,if_neg (by have q1:=HH.out;have q2:=HR.out;omega),HE.out.1,rootQZ d k A X Y r t9 HBR.out HX.out.2.2.1 HX.out.2.2.2.2.2.2.1 HRt.out (by have:=HR.out;omega) HX.out.2.2.2.2.2.2.2.1 H HH.out.1,← HJ.out.2.1] at s7
                  clear s6 o14 o15 hF8 hg8 kj hr8 HG
                  go_wp2_with fail
                  refine s7.mono ?_;rintro e w16 ⟨rfl,kj⟩
                  have k99:Kp w w16:=HK.out.trans (kk8.trans kj)
                  clear s7 kj
                  go_wp2
                  exact bodyPost_ret (v:=.int .u64 (Z:Int)) (by simp [results,Tryz.results59,go_sem]) rfl ⟨rfl,k99⟩
                · obtain ⟨z9,hz9⟩:∃ z9,z9 = cmpN (r * r * Y) X:=⟨_,rfl⟩
                  have hz:¬ z9 = 0:=by
                    rw [hz9];unfold cmpN;split <;> (try split) <;> omega
                  rw [← hz9] at hcm
                  have HC5:Hid (¬ r * r * Y = X):=c5
                  clear c5
                  go_wp2_with fail
                  refine hcm.mono ?_;rintro e w8 ⟨rfl,kj⟩
                  have kk8:Kp w4 w8:=kk5.trans kj
                  clear hcm kj kk5 ly l6 hz9
                  have c5:=HC5.out
                  have hH:=HH0.out
                  have HH:Hid (H = 2 * r + (if r * r * Y = X then 0 else 1)∧H = r * 2 ^ 1 + 1):=by
                    have e:H = 2 * r + (if r * r * Y = X then 0 else 1):=hH
                    exact ⟨e,by rw [e,if_neg c5];omega⟩
                  clear hH c5 HC5 HH0
                  have s2:=rsmall_ r (by have:=HR.out;omega) w8
                  go_wp2_with fail
                  refine s2.mono ?_;rintro e w9 ⟨v9,rfl,ho9,kj⟩
                  replace kk8:=kk8.trans kj
                  have s3:=leftR v9 r 1 w9 ho9.ls (by have:=HR.out;omega) (by decide)
                  clear s2 ho9 kj
                  have s3b:Calls Tryz.prog 95 #[v9,.int .i64 1] w9 fun e w'=>∃ v',e = .returned v'∧Ls w' v' (dig (r * 2 ^ 1))∧Kp w9 w':=s3
                  clear s3
                  go_wp2_with fail
                  refine s3b.mono ?_;rintro e w10 ⟨v10,rfl,ho10,kj⟩
                  replace kk8:=kk8.trans kj
                  have s4:Calls Tryz.prog 62 #[.int .u64 1] w10 fun e w'=>∃ r,e = .returned r∧Own w' w10.heap.size r (dig 1)∧Kp w10 w':=rsmall_ 1 (by decide) w10
                  have HL:Hid (Ls w10 v10 (dig (r * 2 ^ 1))):=ho10
                  clear s3b ho10 kj
                  go_wp2_with fail
                  refine s4.mono ?_;rintro e w11 ⟨v11,rfl,ho11,kj⟩
                  replace kk8:=kk8.trans kj
                  have s5:=plusR v10 v11 (r * 2 ^ 1) 1 w11 (HL.out.kp kj) ho11.ls (dlen _ _ (by have:=HR.out.2.2;omega)) (dlen _ _ (by have:=(blen_le_iff 1 1).2 (by decide);omega))
                  rw [← HH.out.2] at s5
                  clear s4 ho11 kj HL
                  go_wp2_with fail
                  refine s5.mono ?_;rintro e w12 ⟨p12,c12,rfl,ar12,l12,kj⟩
                  replace kk8:=kk8.trans kj
                  clear s5 kj
                  obtain ⟨LH,hLH⟩:∃ LH,LH = (dig H).length:=⟨_,rfl⟩
                  obtain ⟨g13,hg13⟩:∃ g13,g13 = w12.heap.size:=⟨_,rfl⟩
                  obtain ⟨w13,hw13⟩:∃ w13,w13 = w12.alloc (.cells #[.int .u32 1] 86):=⟨_,rfl⟩
                  have k13:Kp w12 w13:=by rw [hw13];exact (Kp.refl _).alloc _
                  have ar13:Arr w13 (some ⟨g13,0,none⟩) (dig 1):=by
                    have h:=(row1 w12 1).all rfl
                    rw [← hw13,← hg13] at h
                    rw [dig_one]
                    exact h
                  have s6:=frac_ false (.slice p12 (dig H).length c12) (.slice (some ⟨g13,0,none⟩) (dig 1).length 1) (dig H) (dig 1) ne w13 ⟨p12,c12,rfl,ar12.grown k13,l12⟩ ⟨some ⟨g13,0,none⟩,1,rfl,ar13,by rw [dig_one];exact Nat.le_refl 1⟩ (Wd_dig _) (Wd_dig _) (Nat.le_trans (dlen H 10 (by have:=HR.out;omega)) (by decide)) (by rw [dig_one];decide) (by rw [val_dig];decide) (by have:=HE.out;omega)
                  rw [val_dig,val_dig] at s6
                  rw [show (dig 1).length = 1 from by rw [dig_one];rfl] at s6
                  have HG:Hid (g13 = w12.heap.size∧w13 = w12.alloc (.cells #[.int .u32 1] 86)):=⟨hg13,hw13⟩
                  replace kk8:=kk8.trans k13
                  clear hLH hg13 hw13 ar12 l12 k13 ar13
                  go_wp2_with fail
                  rw [← HG.out.1,← HG.out.2]
                  refine s6.mono ?_;rintro e w14 ⟨v14,v15,a8,b8,g8,rfl,o14,o15,⟨hF8,hg8⟩,kj⟩
                  replace kk8:=kk8.trans kj
                  have s7:=rbits_ d g8 v14 v15 a8 b8 w14 o14.ls o15.ls hF8.1 (by have q1:=hF8.2.2.2.1;have q2:=HE.out;have q3:=HR.out;omega) (by have q1:=hF8.2.2.2.2;have q2:=HE.out;have q3:=HR.out;have q4:=(blen_le_iff 1 1).2 (by decide);omega)
                  have hr8:=refW_fin d g8 false H 1 a8 b8 ne hF8 hg8 1074 rfl
                  rw [hr8,if_neg (by have q1:=HH.out;have q2:=HR.out;omega),HE.out.1,rootQZ d k A X Y r t9 HBR.out HX.out.2.2.1 HX.out.2.2.2.2.2.2.1 HRt.out (by have:=HR.out;omega) HX.out.2.2.2.2.2.2.2.1 H HH.out.1,← HJ.out.2.1] at s7
                  clear s6 o14 o15 hF8 hg8 kj hr8 HG
                  go_wp2_with fail
                  refine s7.mono ?_;rintro e w16 ⟨rfl,kj⟩
                  have k99:Kp w w16:=HK.out.trans (kk8.trans kj)
                  clear s7 kj
                  go_wp2
                  exact bodyPost_ret (v:=.int .u64 (Z:Int)) (by simp [results,Tryz.results59,go_sem]) rfl ⟨rfl,k99⟩
              · obtain ⟨i,rfl⟩:∃ i,j = i + 1:=⟨j - 1,by omega⟩
                have e9:(((i + 1:Nat):Int) - 1) = (i:Int):=by omega
                rw [e9]
                have rnd:=root_round Q r i hr0 hr2
                have hrs:=root_small r Q G9 hr1 HQ.out.2.2 (by have:=HX.out;omega)
                have hp62:2 ^ i≤2 ^ 62:=Nat.pow_le_pow_right (by decide) (by omega)
                rw [show (2:Nat) ^ 62 = 4611686018427387904 from by decide] at hp62
                obtain ⟨tt,htt⟩:∃ tt,tt = r + 2 ^ i:=⟨_,rfl⟩
                have eo:=orbit r i (by omega) hr0 (by omega)
                rw [← htt] at eo
                have htp:=Nat.two_pow_pos i
                have hlb:blen Q≤124:=(blen_le_iff Q 124).2 (Nat.lt_of_lt_of_le HQ.out.2.2 (Nat.pow_le_pow_right (by decide) (by have:=HX.out;omega)))
                have hln:=lenR vq Q wr (HQ4.out.kp kk5) (by omega)
                obtain ⟨LQ,hLQ⟩:∃ LQ,LQ = blen Q:=⟨_,rfl⟩
                rw [← hLQ] at hln rnd
                rw [← htt] at rnd
                have HR:Hid (i + 1≤63∧r % 2 ^ (i + 1) = 0∧r * r≤Q∧tt < 9223372036854775808∧1≤tt∧blen Q≤124∧tt = r + 2 ^ i):=⟨hj,hr0,hr1,by omega,by omega,hlb,htt⟩
                have HN:Hid ((∀ t,t = tt→2 * i < LQ→t * t≤Q→t % 2 ^ i = 0∧Q < (t + 2 ^ i) * (t + 2 ^ i))∧(¬ (2 * i < LQ∧tt * tt≤Q)→r % 2 ^ i = 0∧Q < tt * tt)):=rnd
                have hi62:i≤62:=by omega
                clear hr0 hr1 hr2 htp hp62 hrs htt hlb hLQ rnd hj cj e9
                by_cases c2:2 * (i:Int) < (LQ:Int)
                · have hsm:=rsmall_ tt (by have:=HR.out;omega) wr
                  go_wp2_with fail
                  refine hln.mono ?_;rintro e w' ⟨rfl,hw'⟩;obtain rfl:=hw'.symm;clear hln hw'
                  go_wp2_with fail
                  refine hsm.mono ?_;rintro e w5 ⟨vs,rfl,ho5,kk6⟩
                  obtain ⟨p5,c5,rfl,ar5,_⟩:=ho5.arr
                  have l5:len32 tt≤2:=dlen tt 2 (by have:=(blen_le_iff tt 63).2 (by rw [show (2:Nat) ^ 63 = 9223372036854775808 from by decide];exact HR.out.2.2.2.1);omega)
                  have l6:len32 (tt ^ 2)≤4:=dlen _ 4 (by
                    refine (blen_le_iff _ _).2 ?_
                    have q0:=HR.out.2.2.2.1
                    have q1:tt * tt < 2 ^ 63 * 2 ^ 63:=Nat.mul_lt_mul_of_lt_of_le (by rw [show (2:Nat) ^ 63 = 9223372036854775808 from by decide];exact q0) (by rw [show (2:Nat) ^ 63 = 9223372036854775808 from by decide];omega) (by decide)
                    rw [← Nat.pow_add] at q1
                    rw [Nat.pow_two]
                    exact Nat.lt_of_lt_of_le q1 (Nat.pow_le_pow_right (by decide) (by decide)))
                  have hpw:=rpower1_ p5 c5 2 (dig tt) w5 ar5 (Wd_dig tt) (by change len32 tt≤_;omega) (by rw [val_dig];exact HR.out.2.2.2.2.1) (by rw [val_dig];omega) (by omega)
                  rw [val_dig,Nat.pow_two] at hpw
                  rw [Nat.pow_two] at l6
                  have hpw2:Calls Tryz.prog 97 #[.slice p5 (dig tt).length c5,.int .i64 2] w5 fun e w'=>∃ v,e = .returned v∧Own w' w5.heap.size v (dig (tt * tt))∧Kp w5 w':=hpw
                  clear hsm ho5 ar5 hpw l5
                  go_wp2_with fail
                  refine hpw2.mono ?_;rintro e w6 ⟨v6,rfl,ho6,kk7⟩
                  have kk8:Kp w4 w6:=kk5.trans (kk6.trans kk7)
                  have hcm:=cmpR v6 vq (tt * tt) Q w6 ho6.ls (HQ4.out.kp kk8) (by have:=blen_len _ _ l6;omega) (by have:=HR.out;omega)
                  clear hpw2 ho6 kk6 kk7 kk5
                  by_cases c3:tt * tt≤Q
                  · obtain ⟨z9,hz9⟩:∃ z9,z9 = cmpN (tt * tt) Q:=⟨_,rfl⟩
                    have hz:z9≤0:=by
                      rw [hz9];unfold cmpN;split <;> (try split) <;> omega
                    rw [← hz9] at hcm
                    have q1:=HN.out.1 tt rfl (by omega) c3
                    have HQ1:Hid (tt % 2 ^ i = 0∧Q < (tt + 2 ^ i) * (tt + 2 ^ i)∧tt * tt≤Q):=⟨q1.1,q1.2,c3⟩
                    clear hz9 q1 c3
                    go_wp2_with fail
                    refine hcm.mono ?_;rintro e w7 ⟨rfl,kk9⟩
                    have k10:=kk8.trans kk9
                    clear hcm kk9 kk8
                    go_wp2
                    exact ⟨⟨tt,i,by simp,by simp,by omega,HQ1.out.1,HQ1.out.2.2,HQ1.out.2.1,k10⟩,by simp only [intOf];omega⟩
                  · obtain ⟨z9,hz9⟩:∃ z9,z9 = cmpN (tt * tt) Q:=⟨_,rfl⟩
                    have hz:¬ z9≤0:=by
                      rw [hz9,cmpN_gt (by omega)];omega
                    rw [← hz9] at hcm
                    have q1:=HN.out.2 (fun h=>c3 h.2)
                    have HQ1:Hid (r % 2 ^ i = 0∧Q < tt * tt):=q1
                    clear hz9 q1 c3
                    go_wp2_with fail
                    refine hcm.mono ?_;rintro e w7 ⟨rfl,kk9⟩
                    have k10:=kk8.trans kk9
                    clear hcm kk9 kk8
                    go_wp2
                    exact ⟨⟨r,i,by simp,by simp,by omega,HQ1.out.1,HR.out.2.2.1,by rw [← HR.out.2.2.2.2.2.2];exact HQ1.out.2,k10⟩,by simp only [intOf];omega⟩
                · go_wp2_with fail
                  refine hln.mono ?_;rintro e w' ⟨rfl,hw'⟩;obtain rfl:=hw'.symm;clear hln hw'
                  go_wp2
                  have q1:=HN.out.2 (fun h=>by omega)
                  exact ⟨⟨r,i,by simp,by simp,by omega,q1.1,HR.out.2.2.1,by rw [← HR.out.2.2.2.2.2.2];exact q1.2,kk5⟩,by simp only [intOf];omega⟩
          · obtain ⟨M,hM⟩:∃ M:Nat,(M:Int) = -m2:=⟨(-m2).toNat,by have:=HT.out;omega⟩
            have e7:wrap64 (-2 * k) = (M:Int):=by have q1:=HT.out;rw [show -2 * k = (M:Int) from by omega];exact w64x _ (by omega) (by omega)
            have hl:=leftR (.slice P2 E2 C2) b M w2 (HI.out.2.2.2.1.kp HK.out) (by have:=HI.out;omega) (by have:=HT.out;omega)
            obtain ⟨Y,hY9⟩:∃ Y,Y = b * 2 ^ M:=⟨_,rfl⟩
            rw [← hY9] at hl
            obtain ⟨X,hX9⟩:∃ X,X = a:=⟨_,rfl⟩
            obtain ⟨t9,ht9⟩:∃ t:Nat,(t:Int) = 1138 - k:=⟨(1138 - k).toNat,by have q1:=HT.out;have q2:=HF.out;omega⟩
            obtain ⟨G9,hG9⟩:∃ G9:Nat,(G9:Int) = f + 2 * k:=⟨(f + 2 * k).toNat,by have q1:=HT.out;omega⟩
            have HX:Hid (blen X≤30000∧blen Y≤30000∧0 < Y∧X≠0∧blen X = blen Y + G9∧(118≤G9∧G9≤123)∧A * 4 ^ 64 * Y = X * 4 ^ t9∧(t9:Int) = 1138 - k∧(-9000≤k∧k≤9000)):=by
              have q1:=HT.out
              have q2:=HF.out
              have q3:=HI.out.2.2.2.2
              have q4:=HI.out.1
              have q5:blen Y = blen b + M:=by rw [hY9];exact blen_mul _ _ q3.2.2.2.1
              have q6:=rtS2Z a b A K M (-k).toNat q3.2.2.2.2.1 q3.2.2.2.2.2.1 (by omega)
              rw [← hX9,← hY9,show 1138 + (-k).toNat = t9 from by omega] at q6
              rw [hX9] at q6 ⊢
              exact ⟨by omega,by omega,by rw [hY9];exact Nat.mul_pos (Nat.pos_of_ne_zero q3.2.2.2.1) (Nat.two_pow_pos M),q3.2.2.1,by omega,by omega,q6,ht9,q1.2.1⟩
            have HJ:Hid (Ls w (.slice P1 E1 C1) (dig X)∧Z = rtZ d A∧Kp w w2):=⟨by rw [hX9];exact HI.out.2.2.1,HI.out.2.2.2.2.2.2.2.2.2.2,HK.out⟩
            clear hX9 hY9 ht9 hG9 hM HI HF HT
            go_wp2_with fail
            refine hl.mono ?_;rintro e w3 ⟨vl,rfl,hY,kk3⟩
            have hX:=HJ.out.1.kp (HJ.out.2.2.trans kk3)
            replace HK:Hid (Kp w w3):=HK.out.trans kk3
            clear hl kk3
            have b1:=byR (.slice P1 E1 C1) vl X Y w3 hX hY (by have:=HX.out;omega) (by have:=HX.out;omega) HX.out.2.2.1
            go_wp2_with fail
            refine b1.mono ?_;rintro e w4 ⟨vq,vr,rfl,hq4,_,kk4⟩
            replace hX:=hX.kp kk4
            replace hY:=hY.kp kk4
            replace HK:Hid (Kp w w4):=HK.out.trans kk4
            have HY:Hid (Ls w4 (.slice P1 E1 C1) (dig X)∧Ls w4 vl (dig Y)):=⟨hX,hY⟩
            obtain ⟨Q,hQ⟩:∃ Q,Q = X / Y:=⟨_,rfl⟩
            rw [← hQ] at hq4
            have HQ:Hid (Q = X / Y∧2 ^ (G9 - 1)≤Q∧Q < 2 ^ (G9 + 1)):=⟨hQ,by rw [hQ];exact (blen_divQ X Y G9 HX.out.2.2.2.1 (Nat.pos_iff_ne_zero.1 HX.out.2.2.1) HX.out.2.2.2.2.1 (by have:=HX.out;omega))⟩
            have HQ4:Hid (Ls w4 vq (dig Q)):=hq4
            clear b1 hX hY kk4 hQ hq4
            go_wp2
            go_loopw [14,15] (fun rr ii wr=>∃ (r j:Nat),rr = .int .u64 (r:Int)∧ii = .int .i64 ((j:Int) - 1)∧j≤63∧r % 2 ^ j = 0∧r * r≤Q∧Q < (r + 2 ^ j) * (r + 2 ^ j)∧Kp w4 wr) (fun _ ii _=>(intOf ii + 1).toNat)
            case atStart =>
              refine ⟨0,63,rfl,rfl,Nat.le_refl _,Nat.zero_mod _,Nat.zero_le _, ?_,Kp.refl _⟩
              have q1:=HQ.out.2.2
              have q2:2 ^ (G9 + 1)≤2 ^ 126:=Nat.pow_le_pow_right (by decide) (by have:=HX.out;omega)
              rw [Nat.zero_add,← Nat.pow_add]
              omega
            case round =>
              obtain ⟨r,j,rfl,rfl,hj,hr0,hr1,hr2,kk5⟩:=hrel
              by_cases cj:j = 0
              · subst cj
                have e9:(((0:Nat):Int) - 1) = -1:=by omega
                rw [e9]
                have hrt:IsRt Q r:=⟨hr1,by rw [Nat.pow_zero] at hr2;exact hr2⟩
                have hrl:=root_len Q r G9 hrt HQ.out.2.1 HQ.out.2.2 (by have:=HX.out;omega) (by have:=HX.out;omega)
                have HRt:Hid (IsRt (X / Y) r):=by
                  rw [← HQ.out.1];exact hrt
                have hb62:blen r≤62:=(blen_le_iff r 62).2 (by rw [show (2:Nat) ^ 62 = 4611686018427387904 from by decide];exact hrl.2)
                obtain ⟨H,hH⟩:∃ H,H = 2 * r + (if r * r * Y = X then 0 else 1):=⟨_,rfl⟩
                have hb64:blen H≤64:=(blen_le_iff H 64).2 (by
                  rw [show (2:Nat) ^ 64 = 18446744073709551616 from by decide,hH]
                  split <;> omega)
                have hb63:blen (r * 2 ^ 1)≤63:=(blen_le_iff _ 63).2 (by rw [show (2:Nat) ^ 63 = 9223372036854775808 from by decide];omega)
                have HH0:Hid (H = 2 * r + (if r * r * Y = X then 0 else 1)):=hH
                clear hH
                obtain ⟨ne,hne⟩:∃ ne:Int,ne = -k - 1:=⟨_,rfl⟩
                obtain ⟨nk,hnk⟩:∃ nk:Int,nk = -k:=⟨_,rfl⟩
                have en1:wrap64 (-k) = nk:=by have q1:=HX.out;rw [← hnk];exact w64x _ (by omega) (by omega)
                have en2:wrap64 (nk - 1) = ne:=by have q1:=HX.out;rw [hnk,← hne];exact w64x _ (by omega) (by omega)
                have HE:Hid (ne = -k - 1∧(-20000≤ne∧ne≤20000)):=⟨hne,by have q1:=HX.out;omega⟩
                have HR:Hid ((9007199254740992≤r∧r < 4611686018427387904)∧blen r≤62∧blen (r * 2 ^ 1)≤63∧blen H≤64):=⟨hrl,hb62,hb63,hb64⟩
                have s1:=rsmall_ r (by omega) wr
                clear hr0 hr1 hr2 hrt hrl hb62 hb63 hb64 hne hnk hj e9 HQ4 HQ
                go_wp2_with fail
                refine s1.mono ?_;rintro e w5 ⟨vs,rfl,ho5,kj⟩
                obtain ⟨p5,c5,rfl,ar5,_⟩:=ho5.arr
                have l6:blen (r * r)≤124:=by
                  refine (blen_le_iff _ _).2 ?_
                  have q0:=HR.out.1.2
                  have q1:r * r < 2 ^ 62 * 2 ^ 62:=Nat.mul_lt_mul_of_lt_of_le (by rw [show (2:Nat) ^ 62 = 4611686018427387904 from by decide];exact q0) (by rw [show (2:Nat) ^ 62 = 4611686018427387904 from by decide];omega) (by decide)
                  rw [← Nat.pow_add] at q1
                  exact q1
                have hpw:=rpower1_ p5 c5 2 (dig r) w5 ar5 (Wd_dig r) (Nat.le_trans (dlen r 10 (by have:=HR.out;omega)) (by decide)) (by rw [val_dig];have:=HR.out;omega) (by rw [val_dig,Nat.pow_two];exact Nat.le_trans (dlen _ 10 (by omega)) (by decide)) (by omega)
                rw [val_dig,Nat.pow_two] at hpw
                have hpw2:Calls Tryz.prog 97 #[.slice p5 (dig r).length c5,.int .i64 2] w5 fun e w'=>∃ v,e = .returned v∧Own w' w5.heap.size v (dig (r * r))∧Kp w5 w':=hpw
                replace kk5:=kk5.trans kj
                clear s1 ho5 ar5 hpw kj
                go_wp2_with fail
                refine hpw2.mono ?_;rintro e w6 ⟨v6,rfl,ho6,kj⟩
                replace kk5:=kk5.trans kj
                have htm:=timesR v6 vl (r * r) Y w6 ho6.ls (HY.out.2.kp kk5) (Nat.le_trans (dlen _ 10 (by omega)) (by decide)) (Nat.le_trans (dlen Y 1000 (by have:=HX.out;omega)) (by decide))
                clear hpw2 ho6 kj
                go_wp2_with fail
                refine htm.mono ?_;rintro e w7 ⟨p7,c7,rfl,ar7,l7,kj⟩
                replace kk5:=kk5.trans kj
                have ly:blen (r * r * Y)≤40000:=by have q1:=blen_prod (r * r) Y;have q2:=HX.out;omega
                have hcm:=cmpR (.slice p7 (dig (r * r * Y)).length c7) (.slice P1 E1 C1) (r * r * Y) X w7 ⟨p7,c7,rfl,ar7,l7⟩ (HY.out.1.kp kk5) (by omega) (by have:=HX.out;omega)
                clear htm ar7 l7 kj
                by_cases c5:r * r * Y = X
                · rw [cmpN_eq c5] at hcm
                  have HC5:Hid (r * r * Y = X):=c5
                  clear c5
                  go_wp2_with fail
                  refine hcm.mono ?_;rintro e w8 ⟨rfl,kj⟩
                  have kk8:Kp w4 w8:=kk5.trans kj
                  clear hcm kj kk5 ly l6
                  have c5:=HC5.out
                  have hH:=HH0.out
                  have HH:Hid (H = 2 * r + (if r * r * Y = X then 0 else 1)∧H = r * 2 ^ 1 + 0):=by
                    have e:H = 2 * r + (if r * r * Y = X then 0 else 1):=hH
                    exact ⟨e,by rw [e,if_pos c5];omega⟩
                  clear hH c5 HC5 HH0
                  have s2:=rsmall_ r (by have:=HR.out;omega) w8
                  go_wp2_with fail
                  refine s2.mono ?_;rintro e w9 ⟨v9,rfl,ho9,kj⟩
                  replace kk8:=kk8.trans kj
                  have s3:=leftR v9 r 1 w9 ho9.ls (by have:=HR.out;omega) (by decide)
                  clear s2 ho9 kj
                  have s3b:Calls Tryz.prog 95 #[v9,.int .i64 1] w9 fun e w'=>∃ v',e = .returned v'∧Ls w' v' (dig (r * 2 ^ 1))∧Kp w9 w':=s3
                  clear s3
                  go_wp2_with fail
                  refine s3b.mono ?_;rintro e w10 ⟨v10,rfl,ho10,kj⟩
                  replace kk8:=kk8.trans kj
                  have s4:Calls Tryz.prog 62 #[.int .u64 0] w10 fun e w'=>∃ r,e = .returned r∧Own w' w10.heap.size r (dig 0)∧Kp w10 w':=rsmall_ 0 (by decide) w10
                  have HL:Hid (Ls w10 v10 (dig (r * 2 ^ 1))):=ho10
                  clear s3b ho10 kj
                  go_wp2_with fail
                  refine s4.mono ?_;rintro e w11 ⟨v11,rfl,ho11,kj⟩
                  replace kk8:=kk8.trans kj
                  have s5:=plusR v10 v11 (r * 2 ^ 1) 0 w11 (HL.out.kp kj) ho11.ls (dlen _ _ (by have:=HR.out.2.2;omega)) (dlen _ _ (by have:=(blen_le_iff 0 1).2 (by decide);omega))
                  rw [← HH.out.2] at s5
                  clear s4 ho11 kj HL
                  go_wp2_with fail
                  refine s5.mono ?_;rintro e w12 ⟨p12,c12,rfl,ar12,l12,kj⟩
                  replace kk8:=kk8.trans kj
                  clear s5 kj
                  obtain ⟨LH,hLH⟩:∃ LH,LH = (dig H).length:=⟨_,rfl⟩
                  obtain ⟨g13,hg13⟩:∃ g13,g13 = w12.heap.size:=⟨_,rfl⟩
                  obtain ⟨w13,hw13⟩:∃ w13,w13 = w12.alloc (.cells #[.int .u32 1] 86):=⟨_,rfl⟩
                  have k13:Kp w12 w13:=by rw [hw13];exact (Kp.refl _).alloc _
                  have ar13:Arr w13 (some ⟨g13,0,none⟩) (dig 1):=by
                    have h:=(row1 w12 1).all rfl
                    rw [← hw13,← hg13] at h
                    rw [dig_one]
                    exact h
                  have s6:=frac_ false (.slice p12 (dig H).length c12) (.slice (some ⟨g13,0,none⟩) (dig 1).length 1) (dig H) (dig 1) ne w13 ⟨p12,c12,rfl,ar12.grown k13,l12⟩ ⟨some ⟨g13,0,none⟩,1,rfl,ar13,by rw [dig_one];exact Nat.le_refl 1⟩ (Wd_dig _) (Wd_dig _) (Nat.le_trans (dlen H 10 (by have:=HR.out;omega)) (by decide)) (by rw [dig_one];decide) (by rw [val_dig];decide) (by have:=HE.out;omega)
                  rw [val_dig,val_dig] at s6
                  rw [show (dig 1).length = 1 from by rw [dig_one];rfl] at s6
                  have HG:Hid (g13 = w12.heap.size∧w13 = w12.alloc (.cells #[.int .u32 1] 86)):=⟨hg13,hw13⟩
                  replace kk8:=kk8.trans k13
                  clear hLH hg13 hw13 ar12 l12 k13 ar13
                  go_wp2_with fail
                  rw [← HG.out.1,← HG.out.2]
                  refine s6.mono ?_;rintro e w14 ⟨v14,v15,a8,b8,g8,rfl,o14,o15,⟨hF8,hg8⟩,kj⟩
                  replace kk8:=kk8.trans kj
                  have s7:=rbits_ d g8 v14 v15 a8 b8 w14 o14.ls o15.ls hF8.1 (by have q1:=hF8.2.2.2.1;have q2:=HE.out;have q3:=HR.out;omega) (by have q1:=hF8.2.2.2.2;have q2:=HE.out;have q3:=HR.out;have q4:=(blen_le_iff 1 1).2 (by decide);omega)
                  have hr8:=refW_fin d g8 false H 1 a8 b8 ne hF8 hg8 1074 rfl
                  rw [hr8,if_neg (by have q1:=HH.out;have q2:=HR.out;omega),HE.out.1,rootQZ d k A X Y r t9 HBR.out HX.out.2.2.1 HX.out.2.2.2.2.2.2.1 HRt.out (by have:=HR.out;omega) HX.out.2.2.2.2.2.2.2.1 H HH.out.1,← HJ.out.2.1] at s7
                  clear s6 o14 o15 hF8 hg8 kj hr8 HG
                  go_wp2_with fail
                  refine s7.mono ?_;rintro e w16 ⟨rfl,kj⟩
                  have k99:Kp w w16:=HK.out.trans (kk8.trans kj)
                  clear s7 kj
                  go_wp2
                  exact bodyPost_ret (v:=.int .u64 (Z:Int)) (by simp [results,Tryz.results59,go_sem]) rfl ⟨rfl,k99⟩
                · obtain ⟨z9,hz9⟩:∃ z9,z9 = cmpN (r * r * Y) X:=⟨_,rfl⟩
                  have hz:¬ z9 = 0:=by
                    rw [hz9];unfold cmpN;split <;> (try split) <;> omega
                  rw [← hz9] at hcm
                  have HC5:Hid (¬ r * r * Y = X):=c5
                  clear c5
                  go_wp2_with fail
                  refine hcm.mono ?_;rintro e w8 ⟨rfl,kj⟩
                  have kk8:Kp w4 w8:=kk5.trans kj
                  clear hcm kj kk5 ly l6 hz9
                  have c5:=HC5.out
                  have hH:=HH0.out
                  have HH:Hid (H = 2 * r + (if r * r * Y = X then 0 else 1)∧H = r * 2 ^ 1 + 1):=by
                    have e:H = 2 * r + (if r * r * Y = X then 0 else 1):=hH
                    exact ⟨e,by rw [e,if_neg c5];omega⟩
                  clear hH c5 HC5 HH0
                  have s2:=rsmall_ r (by have:=HR.out;omega) w8
                  go_wp2_with fail
                  refine s2.mono ?_;rintro e w9 ⟨v9,rfl,ho9,kj⟩
                  replace kk8:=kk8.trans kj
                  have s3:=leftR v9 r 1 w9 ho9.ls (by have:=HR.out;omega) (by decide)
                  clear s2 ho9 kj
                  have s3b:Calls Tryz.prog 95 #[v9,.int .i64 1] w9 fun e w'=>∃ v',e = .returned v'∧Ls w' v' (dig (r * 2 ^ 1))∧Kp w9 w':=s3
                  clear s3
                  go_wp2_with fail
                  refine s3b.mono ?_;rintro e w10 ⟨v10,rfl,ho10,kj⟩
                  replace kk8:=kk8.trans kj
                  have s4:Calls Tryz.prog 62 #[.int .u64 1] w10 fun e w'=>∃ r,e = .returned r∧Own w' w10.heap.size r (dig 1)∧Kp w10 w':=rsmall_ 1 (by decide) w10
                  have HL:Hid (Ls w10 v10 (dig (r * 2 ^ 1))):=ho10
                  clear s3b ho10 kj
                  go_wp2_with fail
                  refine s4.mono ?_;rintro e w11 ⟨v11,rfl,ho11,kj⟩
                  replace kk8:=kk8.trans kj
                  have s5:=plusR v10 v11 (r * 2 ^ 1) 1 w11 (HL.out.kp kj) ho11.ls (dlen _ _ (by have:=HR.out.2.2;omega)) (dlen _ _ (by have:=(blen_le_iff 1 1).2 (by decide);omega))
                  rw [← HH.out.2] at s5
                  clear s4 ho11 kj HL
                  go_wp2_with fail
                  refine s5.mono ?_;rintro e w12 ⟨p12,c12,rfl,ar12,l12,kj⟩
                  replace kk8:=kk8.trans kj
                  clear s5 kj
                  obtain ⟨LH,hLH⟩:∃ LH,LH = (dig H).length:=⟨_,rfl⟩
                  obtain ⟨g13,hg13⟩:∃ g13,g13 = w12.heap.size:=⟨_,rfl⟩
                  obtain ⟨w13,hw13⟩:∃ w13,w13 = w12.alloc (.cells #[.int .u32 1] 86):=⟨_,rfl⟩
                  have k13:Kp w12 w13:=by rw [hw13];exact (Kp.refl _).alloc _
                  have ar13:Arr w13 (some ⟨g13,0,none⟩) (dig 1):=by
                    have h:=(row1 w12 1).all rfl
                    rw [← hw13,← hg13] at h
                    rw [dig_one]
                    exact h
                  have s6:=frac_ false (.slice p12 (dig H).length c12) (.slice (some ⟨g13,0,none⟩) (dig 1).length 1) (dig H) (dig 1) ne w13 ⟨p12,c12,rfl,ar12.grown k13,l12⟩ ⟨some ⟨g13,0,none⟩,1,rfl,ar13,by rw [dig_one];exact Nat.le_refl 1⟩ (Wd_dig _) (Wd_dig _) (Nat.le_trans (dlen H 10 (by have:=HR.out;omega)) (by decide)) (by rw [dig_one];decide) (by rw [val_dig];decide) (by have:=HE.out;omega)
                  rw [val_dig,val_dig] at s6
                  rw [show (dig 1).length = 1 from by rw [dig_one];rfl] at s6
                  have HG:Hid (g13 = w12.heap.size∧w13 = w12.alloc (.cells #[.int .u32 1] 86)):=⟨hg13,hw13⟩
                  replace kk8:=kk8.trans k13
                  clear hLH hg13 hw13 ar12 l12 k13 ar13
                  go_wp2_with fail
                  rw [← HG.out.1,← HG.out.2]
                  refine s6.mono ?_;rintro e w14 ⟨v14,v15,a8,b8,g8,rfl,o14,o15,⟨hF8,hg8⟩,kj⟩
                  replace kk8:=kk8.trans kj
                  have s7:=rbits_ d g8 v14 v15 a8 b8 w14 o14.ls o15.ls hF8.1 (by have q1:=hF8.2.2.2.1;have q2:=HE.out;have q3:=HR.out;omega) (by have q1:=hF8.2.2.2.2;have q2:=HE.out;have q3:=HR.out;have q4:=(blen_le_iff 1 1).2 (by decide);omega)
                  have hr8:=refW_fin d g8 false H 1 a8 b8 ne hF8 hg8 1074 rfl
                  rw [hr8,if_neg (by have q1:=HH.out;have q2:=HR.out;omega),HE.out.1,rootQZ d k A X Y r t9 HBR.out HX.out.2.2.1 HX.out.2.2.2.2.2.2.1 HRt.out (by have:=HR.out;omega) HX.out.2.2.2.2.2.2.2.1 H HH.out.1,← HJ.out.2.1] at s7
                  clear s6 o14 o15 hF8 hg8 kj hr8 HG
                  go_wp2_with fail
                  refine s7.mono ?_;rintro e w16 ⟨rfl,kj⟩
                  have k99:Kp w w16:=HK.out.trans (kk8.trans kj)
                  clear s7 kj
                  go_wp2
                  exact bodyPost_ret (v:=.int .u64 (Z:Int)) (by simp [results,Tryz.results59,go_sem]) rfl ⟨rfl,k99⟩
              · obtain ⟨i,rfl⟩:∃ i,j = i + 1:=⟨j - 1,by omega⟩
                have e9:(((i + 1:Nat):Int) - 1) = (i:Int):=by omega
                rw [e9]
                have rnd:=root_round Q r i hr0 hr2
                have hrs:=root_small r Q G9 hr1 HQ.out.2.2 (by have:=HX.out;omega)
                have hp62:2 ^ i≤2 ^ 62:=Nat.pow_le_pow_right (by decide) (by omega)
                rw [show (2:Nat) ^ 62 = 4611686018427387904 from by decide] at hp62
                obtain ⟨tt,htt⟩:∃ tt,tt = r + 2 ^ i:=⟨_,rfl⟩
                have eo:=orbit r i (by omega) hr0 (by omega)
                rw [← htt] at eo
                have htp:=Nat.two_pow_pos i
                have hlb:blen Q≤124:=(blen_le_iff Q 124).2 (Nat.lt_of_lt_of_le HQ.out.2.2 (Nat.pow_le_pow_right (by decide) (by have:=HX.out;omega)))
                have hln:=lenR vq Q wr (HQ4.out.kp kk5) (by omega)
                obtain ⟨LQ,hLQ⟩:∃ LQ,LQ = blen Q:=⟨_,rfl⟩
                rw [← hLQ] at hln rnd
                rw [← htt] at rnd
                have HR:Hid (i + 1≤63∧r % 2 ^ (i + 1) = 0∧r * r≤Q∧tt < 9223372036854775808∧1≤tt∧blen Q≤124∧tt = r + 2 ^ i):=⟨hj,hr0,hr1,by omega,by omega,hlb,htt⟩
                have HN:Hid ((∀ t,t = tt→2 * i < LQ→t * t≤Q→t % 2 ^ i = 0∧Q < (t + 2 ^ i) * (t + 2 ^ i))∧(¬ (2 * i < LQ∧tt * tt≤Q)→r % 2 ^ i = 0∧Q < tt * tt)):=rnd
                have hi62:i≤62:=by omega
                clear hr0 hr1 hr2 htp hp62 hrs htt hlb hLQ rnd hj cj e9
                by_cases c2:2 * (i:Int) < (LQ:Int)
                · have hsm:=rsmall_ tt (by have:=HR.out;omega) wr
                  go_wp2_with fail
                  refine hln.mono ?_;rintro e w' ⟨rfl,hw'⟩;obtain rfl:=hw'.symm;clear hln hw'
                  go_wp2_with fail
                  refine hsm.mono ?_;rintro e w5 ⟨vs,rfl,ho5,kk6⟩
                  obtain ⟨p5,c5,rfl,ar5,_⟩:=ho5.arr
                  have l5:len32 tt≤2:=dlen tt 2 (by have:=(blen_le_iff tt 63).2 (by rw [show (2:Nat) ^ 63 = 9223372036854775808 from by decide];exact HR.out.2.2.2.1);omega)
                  have l6:len32 (tt ^ 2)≤4:=dlen _ 4 (by
                    refine (blen_le_iff _ _).2 ?_
                    have q0:=HR.out.2.2.2.1
                    have q1:tt * tt < 2 ^ 63 * 2 ^ 63:=Nat.mul_lt_mul_of_lt_of_le (by rw [show (2:Nat) ^ 63 = 9223372036854775808 from by decide];exact q0) (by rw [show (2:Nat) ^ 63 = 9223372036854775808 from by decide];omega) (by decide)
                    rw [← Nat.pow_add] at q1
                    rw [Nat.pow_two]
                    exact Nat.lt_of_lt_of_le q1 (Nat.pow_le_pow_right (by decide) (by decide)))
                  have hpw:=rpower1_ p5 c5 2 (dig tt) w5 ar5 (Wd_dig tt) (by change len32 tt≤_;omega) (by rw [val_dig];exact HR.out.2.2.2.2.1) (by rw [val_dig];omega) (by omega)
                  rw [val_dig,Nat.pow_two] at hpw
                  rw [Nat.pow_two] at l6
                  have hpw2:Calls Tryz.prog 97 #[.slice p5 (dig tt).length c5,.int .i64 2] w5 fun e w'=>∃ v,e = .returned v∧Own w' w5.heap.size v (dig (tt * tt))∧Kp w5 w':=hpw
                  clear hsm ho5 ar5 hpw l5
                  go_wp2_with fail
                  refine hpw2.mono ?_;rintro e w6 ⟨v6,rfl,ho6,kk7⟩
                  have kk8:Kp w4 w6:=kk5.trans (kk6.trans kk7)
                  have hcm:=cmpR v6 vq (tt * tt) Q w6 ho6.ls (HQ4.out.kp kk8) (by have:=blen_len _ _ l6;omega) (by have:=HR.out;omega)
                  clear hpw2 ho6 kk6 kk7 kk5
                  by_cases c3:tt * tt≤Q
                  · obtain ⟨z9,hz9⟩:∃ z9,z9 = cmpN (tt * tt) Q:=⟨_,rfl⟩
                    have hz:z9≤0:=by
                      rw [hz9];unfold cmpN;split <;> (try split) <;> omega
                    rw [← hz9] at hcm
                    have q1:=HN.out.1 tt rfl (by omega) c3
                    have HQ1:Hid (tt % 2 ^ i = 0∧Q < (tt + 2 ^ i) * (tt + 2 ^ i)∧tt * tt≤Q):=⟨q1.1,q1.2,c3⟩
                    clear hz9 q1 c3
                    go_wp2_with fail
                    refine hcm.mono ?_;rintro e w7 ⟨rfl,kk9⟩
                    have k10:=kk8.trans kk9
                    clear hcm kk9 kk8
                    go_wp2
                    exact ⟨⟨tt,i,by simp,by simp,by omega,HQ1.out.1,HQ1.out.2.2,HQ1.out.2.1,k10⟩,by simp only [intOf];omega⟩
                  · obtain ⟨z9,hz9⟩:∃ z9,z9 = cmpN (tt * tt) Q:=⟨_,rfl⟩
                    have hz:¬ z9≤0:=by
                      rw [hz9,cmpN_gt (by omega)];omega
                    rw [← hz9] at hcm
                    have q1:=HN.out.2 (fun h=>c3 h.2)
                    have HQ1:Hid (r % 2 ^ i = 0∧Q < tt * tt):=q1
                    clear hz9 q1 c3
                    go_wp2_with fail
                    refine hcm.mono ?_;rintro e w7 ⟨rfl,kk9⟩
                    have k10:=kk8.trans kk9
                    clear hcm kk9 kk8
                    go_wp2
                    exact ⟨⟨r,i,by simp,by simp,by omega,HQ1.out.1,HR.out.2.2.1,by rw [← HR.out.2.2.2.2.2.2];exact HQ1.out.2,k10⟩,by simp only [intOf];omega⟩
                · go_wp2_with fail
                  refine hln.mono ?_;rintro e w' ⟨rfl,hw'⟩;obtain rfl:=hw'.symm;clear hln hw'
                  go_wp2
                  have q1:=HN.out.2 (fun h=>by omega)
                  exact ⟨⟨r,i,by simp,by simp,by omega,q1.1,HR.out.2.2.1,by rw [← HR.out.2.2.2.2.2.2];exact q1.2,kk5⟩,by simp only [intOf];omega⟩
end Go.Proofs.YtfhcmabejagknaaGreatDoor
