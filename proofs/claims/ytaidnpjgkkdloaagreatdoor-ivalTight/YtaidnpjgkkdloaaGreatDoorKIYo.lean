import Derived.Test.YtaidnpjgkkdloaaGreatDoorKXZD
set_option maxHeartbeats 2000000
set_option maxRecDepth 20000
namespace Go.Proofs.YtaidnpjgkkdloaaGreatDoor
open Go.RowKit
set_option linter.unusedVariables false
def IsO (o:Option Int) (R:Nat):Prop:=∀ z,o = some z→R = pz z
theorem bitsP_ (z:Int) (h:-9218868437227405312≤z∧z≤9218868437227405312):IsO (some z) (pz z):=fun y e=>by cases e;rfl
theorem bitsI_ (n:Bool):IsO (some (sgI n)) (Fq.wD n 9218868437227405312):=fun y e=>by cases e;exact wD_sg n
theorem bitsQ_ (R:Nat) (h1:9218868437227405312 < R % 9223372036854775808) (h2:R < 18446744073709551616):IsO none R:=fun y e=>by cases e
theorem addO_ (d:Int) (n n':Bool) (m m':Nat) (hm:m < 9223372036854775808) (hm':m' < 9223372036854775808) (hd1:-9223372036854775808≤d) (hd2:d < 9223372036854775808) (w:World) (hT:Tab w) (hQ:Fq.Tab w):Calls Tryz.prog 29 #[.int .i64 d,.float .f64 (Fq.wD n m),.float .f64 (Fq.wD n' m')] w fun e w'=>∃ R,e = .returned (.float .f64 R)∧IsO (oA d n m n' m') R∧Kp w w':=by
  by_cases hi:m < 9218868437227405312∧m' < 9218868437227405312
  · have e:oA d n m n' m' = some (g53 d 1 1 (Iv n m + Iv n' m')):=by
      unfold oA
      rw [if_neg (by omega),if_neg (by omega),if_neg (by omega)]
    rw [e]
    exact (addG_ d n n' m m' hi.1 hi.2 hd1 hd2 w hT hQ).mono fun e w' h=>⟨_,h.1,bitsP_ _ (g53_le _ _ _ _),h.2⟩
  · by_cases hb:badS n m n' m'
    · have e:oA d n m n' m' = none:=by
        have hb2:=hb
        unfold badS at hb2
        unfold oA
        rw [if_pos hb2]
      rw [e]
      exact (paddB_ d n n' m m' hm hm' hi hb w).mono fun e w' ⟨R,h1,h2,h3⟩=>⟨R,h1,bitsQ_ R h2.1 h2.2,h3⟩
    · have e:oA d n m n' m' = some (sgI (if m = 9218868437227405312 then n else n')):=by
        unfold oA
        unfold badS at hb
        rw [if_neg hb]
        by_cases c:m = 9218868437227405312
        · rw [if_pos c,if_pos c]
        · rw [if_neg c,if_pos (by omega),if_neg c]
      rw [e]
      exact (paddI_ d n n' m m' hm hm' hi hb w).mono fun e w' h=>⟨_,h.1,bitsI_ _,h.2⟩
theorem plain0 (s:Bool) (w:World):Calls Tryz.prog 72 #[.float .f64 (Fq.wD s 0)] w fun e w'=>e = .returned (.float .f64 0)∧w' = w:=by
  have hp:=Fq.plain_d s 0 (by decide) w
  rw [show Fq.wD (s && !((0:Nat) == 0)) 0 = 0 from by simp;rfl] at hp
  exact hp
theorem plainI (s:Bool) (w:World):Calls Tryz.prog 72 #[.float .f64 (Fq.wD s 9218868437227405312)] w fun e w'=>e = .returned (.float .f64 (Fq.wD s 9218868437227405312))∧w' = w:=by
  have hp:=Fq.plain_d s 9218868437227405312 (by decide) w
  rw [show (s && !((9218868437227405312:Nat) == 0)) = s from by simp] at hp
  exact hp
theorem plainN (R:Nat) (p1:9218868437227405312 < R % 9223372036854775808) (p2:R < 18446744073709551616) (w:World):Calls Tryz.prog 72 #[.float .f64 R] w fun e w'=>e = .returned (.float .f64 R)∧w' = w:=by
  obtain ⟨a,b,hb9,hR⟩:=word_of R p2
  have hp:=Fq.plain_d a b (by omega) w
  rw [show (a && !(b == 0)) = a from by simp;omega,← hR] at hp
  exact hp
theorem mulO_ (K:Nat) (hK:K = 1074) (d:Int) (n n':Bool) (m m':Nat) (hm:m < 9223372036854775808) (hm':m' < 9223372036854775808) (hd1:-9223372036854775808≤d) (hd2:d < 9223372036854775808) (w:World) (hT:Tab w) (hQ:Fq.Tab w):Calls Tryz.prog 40 #[.int .i64 d,.float .f64 (Fq.wD n m),.float .f64 (Fq.wD n' m')] w fun e w'=>∃ R,e = .returned (.float .f64 R)∧IsO (oM K d n m n' m') R∧Kp w w':=by
  by_cases hi:m < 9218868437227405312∧m' < 9218868437227405312
  · have e:oM K d n m n' m' = some (g53 d 1 (2 ^ K) (Iv n m * Iv n' m')):=by
      unfold oM
      rw [if_neg (by omega),if_neg (by omega)]
    rw [e]
    exact (mulG_ K hK d n n' m m' hi.1 hi.2 hd1 hd2 w hT hQ).mono fun e w' h=>⟨_,h.1,bitsP_ _ (g53_le _ _ _ _),h.2⟩
  · by_cases hb:badP m m'
    · have e:oM K d n m n' m' = none:=by
        have hb2:=hb
        unfold badP at hb2
        unfold oM
        rw [if_pos hb2]
      rw [e]
      obtain ⟨R,p1,p2,hrun⟩:=run_nan_mul _ _ (mul_bad n n' m m' hm hm' hb) w
      exact (pmulP_ d n n' m m' hm hm' (fun h=>hi ⟨h.1,h.2.1⟩) w w.drew R R hrun (Kp.refl _).drew (plainN R p1 p2 w.drew)).mono fun e w' h=>⟨R,h.1,bitsQ_ R p1 p2,h.2⟩
    · have e:oM K d n m n' m' = some (sgI (n ^^ n')):=by
        unfold oM
        unfold badP at hb
        rw [if_neg hb,if_pos (by omega)]
      rw [e]
      exact (pmulP_ d n n' m m' hm hm' (fun h=>hi ⟨h.1,h.2.1⟩) w w _ _ (run_float_arith w .mul 30 .f64 _ _ _ (mul_inf n n' m m' hb hi)) (Kp.refl _) (plainI _ w)).mono fun e w' h=>⟨_,h.1,bitsI_ _,h.2⟩
theorem divW_g2 (K:Nat) (hK:K = 1074) (d:Int) (s:Bool) (m B:Nat):divW d s (Fq.vV Ieee.double m) B = pz (g53 d (2 ^ K) B (Iv s m)):=by
  have h:=divW_g K hK d s m B
  rw [show (s ^^ false) = s from by cases s <;> rfl] at h
  exact h
theorem divO_ (K:Nat) (hK:K = 1074) (d:Int) (n n':Bool) (m m':Nat) (hm:m < 9223372036854775808) (hm':m' < 9223372036854775808) (hd1:-9223372036854775808≤d) (hd2:d < 9223372036854775808) (w:World) (hT:Tab w) (hQ:Fq.Tab w):Calls Tryz.prog 76 #[.int .i64 d,.float .f64 (Fq.wD n m),.float .f64 (Fq.wD n' m')] w fun e w'=>∃ R,e = .returned (.float .f64 R)∧IsO (oD K d n m n' m') R∧Kp w w':=by
  by_cases z':m' = 0
  · have h:=pdivN_ d n n' m hm w
    rw [z']
    by_cases c:m = 0∨9218868437227405312 < m
    · have e:oD K d n m n' 0 = none:=by unfold oD;rw [if_pos rfl,if_pos c]
      rw [e]
      rw [if_pos c] at h
      exact h.mono fun e w' h=>⟨_,h.1,bitsQ_ _ (by decide) (by decide),h.2⟩
    · have e:oD K d n m n' 0 = some (sgI n):=by unfold oD;rw [if_pos rfl,if_neg c]
      rw [e]
      rw [if_neg c] at h
      exact h.mono fun e w' h=>⟨_,h.1,bitsI_ _,h.2⟩
  · by_cases hb:badQ m m'
    · have e:oD K d n m n' m' = none:=by have hb2:=hb;unfold badQ at hb2;unfold oD;rw [if_neg z',if_pos hb2]
      rw [e]
      obtain ⟨R,p1,p2,hrun⟩:=run_nan_quo _ _ (div_bad n n' m m' hm hm' hb) w
      exact (pdivP_ d n n' m m' hm hm' z' (fun h=>by unfold badQ at hb;omega) w w.drew R R hrun (Kp.refl _).drew (plainN R p1 p2 w.drew)).mono fun e w' h=>⟨R,h.1,bitsQ_ R p1 p2,h.2⟩
    · unfold badQ at hb
      by_cases c1:m = 9218868437227405312
      · have e:oD K d n m n' m' = some (sgI (n ^^ n')):=by unfold oD;rw [if_neg z',if_neg hb,if_pos c1]
        rw [e]
        exact (pdivP_ d n n' m m' hm hm' z' (fun h=>by omega) w w _ _ (run_float_arith w .quo 30 .f64 _ _ _ (div_inf n n' m m' c1 (by omega))) (Kp.refl _) (plainI _ w)).mono fun e w' h=>⟨_,h.1,bitsI_ _,h.2⟩
      · by_cases c2:m' = 9218868437227405312
        · have e:oD K d n m n' m' = some 0:=by unfold oD;rw [if_neg z',if_neg hb,if_neg c1,if_pos c2]
          rw [e]
          exact (pdivP_ d n n' m m' hm hm' z' (fun h=>by omega) w w _ _ (run_float_arith w .quo 30 .f64 _ _ _ (div_zero n n' m m' (by omega) (Or.inl c2))) (Kp.refl _) (plain0 _ w)).mono fun e w' h=>⟨_,h.1,bitsP_ 0 (by decide),h.2⟩
        · have e:oD K d n m n' m' = some (g53 d (2 ^ K) (Fq.vV Ieee.double m') (Iv (n ^^ n') m)):=by unfold oD;rw [if_neg z',if_neg hb,if_neg c1,if_neg c2]
          rw [e]
          suffices h:Calls Tryz.prog 76 #[.int .i64 d,.float .f64 (Fq.wD n m),.float .f64 (Fq.wD n' m')] w fun e w'=>e = .returned (.float .f64 (divW d (n ^^ n') (Fq.vV Ieee.double m) (Fq.vV Ieee.double m')))∧Kp w w' by
            rw [divW_g2 K hK] at h
            exact h.mono fun e w' h=>⟨_,h.1,bitsP_ _ (g53_le _ _ _ _),h.2⟩
          by_cases z:m = 0
          · have h0:divW d (n ^^ n') (Fq.vV Ieee.double m) (Fq.vV Ieee.double m') = 0:=by
              unfold divW
              exact if_pos ((vV_zero m).2 z)
            rw [h0]
            exact pdivP_ d n n' m m' hm hm' z' (fun h=>by omega) w w _ _ (run_float_arith w .quo 30 .f64 _ _ _ (div_zero n n' m m' (by omega) (Or.inr ⟨z,by omega,z'⟩))) (Kp.refl _) (plain0 _ w)
          · by_cases ct:(2580562586483294208≤m∧m≤6633802251116740608)∧(2580562586483294208≤m'∧m'≤6633802251116740608)
            · exact pdivQ_ d n n' m m' ct.1 ct.2 w
            · exact pdivE_ d n n' m m' (by omega) (by omega) z z' ct w hQ hd1 hd2
theorem fmaO_ (K:Nat) (hK:K = 1074) (d:Int) (n n' nz:Bool) (m m' mz:Nat) (hm:m < 9223372036854775808) (hm':m' < 9223372036854775808) (hmz:mz < 9223372036854775808) (hd1:-9223372036854775808≤d) (hd2:d < 9223372036854775808) (w:World) (hT:Tab w) (hQ:Fq.Tab w):Calls Tryz.prog 79 #[.int .i64 d,.float .f64 (Fq.wD n m),.float .f64 (Fq.wD n' m'),.float .f64 (Fq.wD nz mz)] w fun e w'=>∃ R,e = .returned (.float .f64 R)∧IsO (oF K d n m n' m' nz mz) R∧Kp w w':=by
  by_cases hi:m < 9218868437227405312∧m' < 9218868437227405312
  · by_cases c3:mz < 9218868437227405312
    · have e:oF K d n m n' m' nz mz = some (g53 d 1 (2 ^ K) (Iv n m * Iv n' m' + Iv nz mz * ((2 ^ K:Nat):Int))):=by unfold oF;rw [if_pos hi,if_pos c3]
      rw [e]
      exact (fmaG_ K hK d n n' nz m m' mz hi.1 hi.2 c3 hd1 hd2 w hT hQ).mono fun e w' h=>⟨_,h.1,bitsP_ _ (g53_le _ _ _ _),h.2⟩
    · have hz:=pfmaZ_ d n n' nz m m' mz hm hm' hmz hi.1 hi.2 c3 w
      by_cases c4:9218868437227405312 < mz
      · have e:oF K d n m n' m' nz mz = none:=by unfold oF;rw [if_pos hi,if_neg c3,if_pos c4]
        rw [e]
        exact hz.mono fun e w' h=>⟨_,h.1,bitsQ_ _ (by unfold Fq.wD;cases nz <;> simp <;> omega) (by unfold Fq.wD;cases nz <;> simp <;> omega),h.2⟩
      · have e:oF K d n m n' m' nz mz = some (sgI nz):=by unfold oF;rw [if_pos hi,if_neg c3,if_neg c4]
        rw [e]
        rw [show mz = 9218868437227405312 from by omega] at hz ⊢
        exact hz.mono fun e w' h=>⟨_,h.1,bitsI_ _,h.2⟩
  · by_cases hb:badP m m'
    · have e:oF K d n m n' m' nz mz = none:=by have hb2:=hb;unfold badP at hb2;unfold oF;rw [if_neg hi,if_pos hb2]
      rw [e]
      obtain ⟨RP,p1,p2,hrun⟩:=run_nan_mul _ _ (mul_bad n n' m m' hm hm' hb) w
      have hadd:FloatKind.f64.format.add RP (Fq.wD nz mz) = none:=by
        obtain ⟨a,b,hb9,hR⟩:=word_of RP p2
        rw [hR]
        exact add_bad a nz b mz (by omega) hmz (Or.inl (by omega))
      obtain ⟨RR,p3,p4,hrun2⟩:=run_nan _ _ hadd w.drew
      exact (pfmaI_ d n n' nz m m' mz hm hm' hmz hi w w.drew w.drew.drew RP RR hrun hrun2 (Kp.refl _).drew.drew).mono fun e w' h=>⟨RR,h.1,bitsQ_ RR p3 p4,h.2⟩
    · have hmi:=mul_inf n n' m m' hb hi
      by_cases hs:badS (n ^^ n') 9218868437227405312 nz mz
      · have e:oF K d n m n' m' nz mz = none:=by
          unfold oF
          unfold badP at hb
          rw [if_neg hi,if_neg hb,if_pos (by unfold badS at hs;rcases hs with h | h | h;omega;exact Or.inl h;exact Or.inr ⟨h.2.1,h.2.2⟩)]
        rw [e]
        obtain ⟨RR,p3,p4,hrun2⟩:=run_nan _ _ (add_bad (n ^^ n') nz 9218868437227405312 mz (by decide) hmz hs) w
        exact (pfmaI_ d n n' nz m m' mz hm hm' hmz hi w w w.drew _ RR (run_float_arith w .mul 30 .f64 _ _ _ hmi) hrun2 (Kp.refl _).drew).mono fun e w' h=>⟨RR,h.1,bitsQ_ RR p3 p4,h.2⟩
      · have e:oF K d n m n' m' nz mz = some (sgI (n ^^ n')):=by
          unfold oF
          unfold badP at hb
          rw [if_neg hi,if_neg hb,if_neg (fun h=>hs (by unfold badS;rcases h with h | h;exact Or.inr (Or.inl h);exact Or.inr (Or.inr ⟨rfl,h.1,h.2⟩)))]
        rw [e]
        have ha:=add_inf (n ^^ n') nz 9218868437227405312 mz hs (by omega)
        rw [if_pos rfl] at ha
        exact (pfmaI_ d n n' nz m m' mz hm hm' hmz hi w w w _ _ (run_float_arith w .mul 30 .f64 _ _ _ hmi) (run_float_arith w .add 30 .f64 _ _ _ ha) (Kp.refl _)).mono fun e w' h=>⟨_,h.1,bitsI_ _,h.2⟩

theorem aI (z:Int) (h:BdZ z):z.natAbs < 9223372036854775808:=by unfold BdZ at h;omega
def TT (w:World):Prop:=Tab w∧Fq.Tab w
theorem TT.kp {w w':World} (h:TT w) (g:Kp w w'):TT w':=⟨h.1.grown g,h.2.grown g⟩
theorem addP_ (d x y:Int) (hd1:-9223372036854775808≤d) (hd2:d < 9223372036854775808) (hx:BdZ x) (hy:BdZ y) (hb:¬ (x = 9218868437227405312∧y = -9218868437227405312)∧¬ (x = -9218868437227405312∧y = 9218868437227405312)) (w:World) (hT:TT w):Calls Tryz.prog 29 #[.int .i64 d,.float .f64 (pw x),.float .f64 (pw y)] w fun e w'=>e = .returned (.float .f64 (pw (adZ d x y)))∧Kp w w':=by
  have h:=addO_ d (sN x) (sN y) x.natAbs y.natAbs (aI x hx) (aI y hy) hd1 hd2 w hT.1 hT.2
  refine h.mono ?_
  rintro e w' ⟨R,rfl,hR,k⟩
  have hz:∃ z,oA d (sN x) x.natAbs (sN y) y.natAbs = some z:=by
    unfold oA
    rw [if_neg (by
      unfold BdZ at hx hy
      unfold sN
      rintro (q | q | ⟨q1,q2,q3⟩)
      · omega
      · omega
      · apply q3
        by_cases c:x < 0
        · rw [decide_eq_true c,decide_eq_true (by omega)]
        · rw [decide_eq_false c,decide_eq_false (by omega)])]
    repeat' split
    all_goals exact ⟨_,rfl⟩
  obtain ⟨z,hz⟩:=hz
  refine ⟨?_,k⟩
  rw [hR z hz]
  unfold adZ
  rw [hz];rfl
theorem mulP_ (K:Nat) (hK:K = 1074) (d x y:Int) (hd1:-9223372036854775808≤d) (hd2:d < 9223372036854775808) (hx:BdZ x) (hy:BdZ y) (zx:x≠0) (zy:y≠0) (w:World) (hT:TT w):Calls Tryz.prog 40 #[.int .i64 d,.float .f64 (pw x),.float .f64 (pw y)] w fun e w'=>e = .returned (.float .f64 (pw (muZ K d x y)))∧Kp w w':=by
  have h:=mulO_ K hK d (sN x) (sN y) x.natAbs y.natAbs (aI x hx) (aI y hy) hd1 hd2 w hT.1 hT.2
  refine h.mono ?_
  rintro e w' ⟨R,rfl,hR,k⟩
  have hz:∃ z,oM K d (sN x) x.natAbs (sN y) y.natAbs = some z:=by
    unfold oM
    rw [if_neg (by unfold BdZ at hx hy;omega)]
    repeat' split
    all_goals exact ⟨_,rfl⟩
  obtain ⟨z,hz⟩:=hz
  refine ⟨?_,k⟩
  rw [hR z hz]
  unfold muZ
  rw [hz];rfl
theorem divP_ (K:Nat) (hK:K = 1074) (d x y:Int) (hd1:-9223372036854775808≤d) (hd2:d < 9223372036854775808) (hx:BdZ x) (hy:BdZ y) (zy:y≠0) (hb:¬ ((x = 9218868437227405312∨x = -9218868437227405312)∧(y = 9218868437227405312∨y = -9218868437227405312))) (w:World) (hT:TT w):Calls Tryz.prog 76 #[.int .i64 d,.float .f64 (pw x),.float .f64 (pw y)] w fun e w'=>e = .returned (.float .f64 (pw (diZ K d x y)))∧Kp w w':=by
  have h:=divO_ K hK d (sN x) (sN y) x.natAbs y.natAbs (aI x hx) (aI y hy) hd1 hd2 w hT.1 hT.2
  refine h.mono ?_
  rintro e w' ⟨R,rfl,hR,k⟩
  have hz:∃ z,oD K d (sN x) x.natAbs (sN y) y.natAbs = some z:=by
    unfold oD
    rw [if_neg (by omega),if_neg (by unfold BdZ at hx hy;omega)]
    repeat' split
    all_goals exact ⟨_,rfl⟩
  obtain ⟨z,hz⟩:=hz
  refine ⟨?_,k⟩
  rw [hR z hz]
  unfold diZ
  rw [hz];rfl
theorem fmaP_ (K:Nat) (hK:K = 1074) (d x y e:Int) (hd1:-9223372036854775808≤d) (hd2:d < 9223372036854775808) (hx:BdZ x) (hy:BdZ y) (he:BdZ e) (zx:x≠0) (zy:y≠0) (hb:((x = 9218868437227405312∨x = -9218868437227405312)∨(y = 9218868437227405312∨y = -9218868437227405312))→(e = 9218868437227405312∨e = -9218868437227405312)→((x < 0 ↔ y < 0) ↔ 0 < e)) (w:World) (hT:TT w):Calls Tryz.prog 79 #[.int .i64 d,.float .f64 (pw x),.float .f64 (pw y),.float .f64 (pw e)] w fun v w'=>v = .returned (.float .f64 (pw (fuZ K d x y e)))∧Kp w w':=by
  have h:=fmaO_ K hK d (sN x) (sN y) (sN e) x.natAbs y.natAbs e.natAbs (aI x hx) (aI y hy) (aI e he) hd1 hd2 w hT.1 hT.2
  refine h.mono ?_
  rintro v w' ⟨R,rfl,hR,k⟩
  have hz:∃ z,oF K d (sN x) x.natAbs (sN y) y.natAbs (sN e) e.natAbs = some z:=by
    unfold oF
    unfold BdZ at hx hy he
    by_cases c1:x.natAbs < 9218868437227405312∧y.natAbs < 9218868437227405312
    · rw [if_pos c1]
      by_cases c2:e.natAbs < 9218868437227405312
      · rw [if_pos c2];exact ⟨_,rfl⟩
      · rw [if_neg c2,if_neg (by omega)];exact ⟨_,rfl⟩
    · rw [if_neg c1,if_neg (by omega),if_neg (by
        rintro (q | ⟨q1,q2⟩)
        · omega
        · apply q2
          have h3:=hb (by omega) (by omega)
          unfold sN
          by_cases c3:x < 0
          · by_cases c4:y < 0
            · rw [decide_eq_true c3,decide_eq_true c4,decide_eq_false (by have:=h3.1 ⟨fun _=>c4,fun _=>c3⟩;omega)];rfl
            · rw [decide_eq_true c3,decide_eq_false c4,decide_eq_true (by
                have:¬ 0 < e:=fun h5=>c4 ((h3.2 h5).1 c3)
                omega)];rfl
          · by_cases c4:y < 0
            · rw [decide_eq_false c3,decide_eq_true c4,decide_eq_true (by
                have:¬ 0 < e:=fun h5=>c3 ((h3.2 h5).2 c4)
                omega)];rfl
            · rw [decide_eq_false c3,decide_eq_false c4,decide_eq_false (by have:=h3.1 ⟨fun h5=>absurd h5 c3,fun h5=>absurd h5 c4⟩;omega)];rfl)]
      exact ⟨_,rfl⟩
  obtain ⟨z,hz⟩:=hz
  refine ⟨?_,k⟩
  rw [hR z hz]
  unfold fuZ
  rw [hz];rfl

def H6 (w:World) (B:Nat) (a b c d e f:Value):Prop:=Fq.H2 w B a b∧Fq.H2 w (B + 1) c d∧Fq.H2 w (B + 2) e f
theorem H6.keep {W w:World} {B:Nat} {a b c d e f:Value} (h:H6 W B a b c d e f) (g:Kp W w):H6 w B a b c d e f:=⟨Fq.H2.keep h.1 g,Fq.H2.keep h.2.1 g,Fq.H2.keep h.2.2 g⟩
theorem H6.new (w:World) (a b c d e f:Value) (s t u:TypeId):H6 (((w.alloc (.cells #[a,b] s)).alloc (.cells #[c,d] t)).alloc (.cells #[e,f] u)) w.heap.size a b c d e f:=by
  refine ⟨?_, ?_, ?_⟩ <;> (unfold Fq.H2;simp [go_sem])
theorem H6.put {w:World} {B:Nat} {a b c d e f:Value} (h:H6 w B a b c d e f) (a' b' c' d':Value):H6 ((((w.setCell ⟨B,0,none⟩ a').setCell ⟨B,1,none⟩ b').setCell ⟨B + 1,0,none⟩ c').setCell ⟨B + 1,1,none⟩ d') B a' b' c' d' e f:=by
  refine ⟨?_, ?_, ?_⟩
  · exact Fq.H2.far (Fq.H2.put h.1 a' b') (by omega) c' d'
  · exact Fq.H2.put (Fq.H2.far h.2.1 (by omega) a' b') c' d'
  · exact Fq.H2.far (Fq.H2.far h.2.2 (by omega) a' b') (by omega) c' d'
theorem add6v1_ (a b c d L1 H1 L2 H2:Nat) (hx:∀ w:World,Calls Tryz.prog 26 #[.agg #[.float .f64 a,.float .f64 b]] w fun e w'=>e = .returned (.agg #[.float .f64 L1,.float .f64 H1])∧Kp w w') (hy:∀ w:World,Calls Tryz.prog 26 #[.agg #[.float .f64 c,.float .f64 d]] w fun e w'=>e = .returned (.agg #[.float .f64 L2,.float .f64 H2])∧Kp w w') (hv1:∀ w:World,Calls Tryz.prog 27 #[.agg #[.float .f64 L1,.float .f64 H1]] w fun e w'=>e = .returned (.bool true)∧Kp w w') (hE:∀ w:World,Calls Tryz.prog 28 #[] w fun e w'=>e = .returned (.agg #[.float .f64 9218868437227405312,.float .f64 18442240474082181120])∧Kp w w') (w:World):Calls Tryz.prog 8 #[.agg #[.float .f64 a,.float .f64 b],.agg #[.float .f64 c,.float .f64 d]] w fun e w'=>e = .returned (.agg #[.float .f64 9218868437227405312,.float .f64 18442240474082181120])∧Kp w w':=by
    go_enter Tryz.func8,Tryz.ntmps8
    go_wp2
    go_region_with (first | (go_at_call_of 26 (Value.agg #[.float .f64 a,.float .f64 b]);refine (hx _).mono ?_;rintro e wx ⟨rfl,gx⟩;first | (have kx:=Kp.trans ky gx;have sx:=H6.keep sy gx;obtain ⟨⟨p0,p1,p2,p3⟩,⟨p4,p5,p6,p7⟩,⟨p8,p9,pa,pb⟩⟩:=id sx) | (have kx:Kp w wx:=Kp.trans (((((Kp.refl w).alloc _).alloc _).alloc _).drew) gx;have sx:=H6.keep (H6.new w (.float .f64 a) (.float .f64 b) (.float .f64 c) (.float .f64 d) (.float .f64 0) (.float .f64 0) 32 32 32) (Kp.trans (Kp.drew (Kp.refl _)) gx);obtain ⟨⟨p0,p1,p2,p3⟩,⟨p4,p5,p6,p7⟩,⟨p8,p9,pa,pb⟩⟩:=id sx)) | (go_at_call_of 26 (Value.agg #[.float .f64 c,.float .f64 d]);refine (hy _).mono ?_;rintro e wy ⟨rfl,gy⟩;first | (have ky:=Kp.trans kx gy;have sy:=H6.keep sx gy;obtain ⟨⟨p0,p1,p2,p3⟩,⟨p4,p5,p6,p7⟩,⟨p8,p9,pa,pb⟩⟩:=id sy) | (have ky:Kp w wy:=Kp.trans (((((Kp.refl w).alloc _).alloc _).alloc _).drew) gy;have sy:=H6.keep (H6.new w (.float .f64 a) (.float .f64 b) (.float .f64 c) (.float .f64 d) (.float .f64 0) (.float .f64 0) 32 32 32) (Kp.trans (Kp.drew (Kp.refl _)) gy);obtain ⟨⟨p0,p1,p2,p3⟩,⟨p4,p5,p6,p7⟩,⟨p8,p9,pa,pb⟩⟩:=id sy)))
    all_goals (first
      | skip
        have sw:=H6.put (id sy:H6 wy w.heap.size (.float .f64 a) (.float .f64 b) (.float .f64 c) (.float .f64 d) (.float .f64 0) (.float .f64 0)) (.float .f64 L1) (.float .f64 H1) (.float .f64 L2) (.float .f64 H2)
        have kw:Kp w ((((wy.setCell ⟨w.heap.size,0,none⟩ (.float .f64 L1)).setCell ⟨w.heap.size,1,none⟩ (.float .f64 H1)).setCell ⟨w.heap.size + 1,0,none⟩ (.float .f64 L2)).setCell ⟨w.heap.size + 1,1,none⟩ (.float .f64 H2)):=(((ky.setCell (Nat.le_refl _) _).setCell (Nat.le_refl _) _).setCell (Nat.le_succ _) _).setCell (Nat.le_succ _) _
        generalize hW:((((wy.setCell ⟨w.heap.size,0,none⟩ (.float .f64 L1)).setCell ⟨w.heap.size,1,none⟩ (.float .f64 H1)).setCell ⟨w.heap.size + 1,0,none⟩ (.float .f64 L2)).setCell ⟨w.heap.size + 1,1,none⟩ (.float .f64 H2)) = W at sw kw ⊢
        clear hW
      | skip
        have sw:=H6.put (id sx:H6 wx w.heap.size (.float .f64 a) (.float .f64 b) (.float .f64 c) (.float .f64 d) (.float .f64 0) (.float .f64 0)) (.float .f64 L1) (.float .f64 H1) (.float .f64 L2) (.float .f64 H2)
        have kw:Kp w ((((wx.setCell ⟨w.heap.size,0,none⟩ (.float .f64 L1)).setCell ⟨w.heap.size,1,none⟩ (.float .f64 H1)).setCell ⟨w.heap.size + 1,0,none⟩ (.float .f64 L2)).setCell ⟨w.heap.size + 1,1,none⟩ (.float .f64 H2)):=(((kx.setCell (Nat.le_refl _) _).setCell (Nat.le_refl _) _).setCell (Nat.le_succ _) _).setCell (Nat.le_succ _) _
        generalize hW:((((wx.setCell ⟨w.heap.size,0,none⟩ (.float .f64 L1)).setCell ⟨w.heap.size,1,none⟩ (.float .f64 H1)).setCell ⟨w.heap.size + 1,0,none⟩ (.float .f64 L2)).setCell ⟨w.heap.size + 1,1,none⟩ (.float .f64 H2)) = W at sw kw ⊢
        clear hW)
    all_goals (
      obtain ⟨⟨p0,p1,p2,p3⟩,⟨p4,p5,p6,p7⟩,⟨p8,p9,pa,pb⟩⟩:=id sw
      go_wp2_with (first | (go_at_call_of 27 (Value.agg #[.float .f64 L1,.float .f64 H1]);refine (hv1 _).mono ?_;rintro e wv ⟨rfl,gv⟩;have kv:=Kp.trans kw gv;have sv:=H6.keep sw gv;obtain ⟨⟨u0,u1,u2,u3⟩,⟨u4,u5,u6,u7⟩,⟨u8,u9,ua,ub⟩⟩:=id sv) | (go_at_call 28;refine (hE _).mono ?_;rintro e we ⟨rfl,ge⟩;obtain ⟨⟨e0,e1,e2,e3⟩,⟨e4,e5,e6,e7⟩,⟨e8,e9,ea,eb⟩⟩:=H6.keep sv ge;have ke:=Kp.trans kv ge))
      exact bodyPost_ret (v:=.agg #[.float .f64 9218868437227405312,.float .f64 18442240474082181120]) (by simp [results,Tryz.results8,go_sem,e8,e9]) rfl ⟨rfl,(ke.setCell (by simp;omega) _).setCell (by simp;omega) _⟩)
theorem add6v2_ (a b c d L1 H1 L2 H2:Nat) (hx:∀ w:World,Calls Tryz.prog 26 #[.agg #[.float .f64 a,.float .f64 b]] w fun e w'=>e = .returned (.agg #[.float .f64 L1,.float .f64 H1])∧Kp w w') (hy:∀ w:World,Calls Tryz.prog 26 #[.agg #[.float .f64 c,.float .f64 d]] w fun e w'=>e = .returned (.agg #[.float .f64 L2,.float .f64 H2])∧Kp w w') (hv1:∀ w:World,Calls Tryz.prog 27 #[.agg #[.float .f64 L1,.float .f64 H1]] w fun e w'=>e = .returned (.bool false)∧Kp w w') (hv2:∀ w:World,Calls Tryz.prog 27 #[.agg #[.float .f64 L2,.float .f64 H2]] w fun e w'=>e = .returned (.bool true)∧Kp w w') (hE:∀ w:World,Calls Tryz.prog 28 #[] w fun e w'=>e = .returned (.agg #[.float .f64 9218868437227405312,.float .f64 18442240474082181120])∧Kp w w') (w:World):Calls Tryz.prog 8 #[.agg #[.float .f64 a,.float .f64 b],.agg #[.float .f64 c,.float .f64 d]] w fun e w'=>e = .returned (.agg #[.float .f64 9218868437227405312,.float .f64 18442240474082181120])∧Kp w w':=by
    go_enter Tryz.func8,Tryz.ntmps8
    go_wp2
    go_region_with (first | (go_at_call_of 26 (Value.agg #[.float .f64 a,.float .f64 b]);refine (hx _).mono ?_;rintro e wx ⟨rfl,gx⟩;first | (have kx:=Kp.trans ky gx;have sx:=H6.keep sy gx;obtain ⟨⟨p0,p1,p2,p3⟩,⟨p4,p5,p6,p7⟩,⟨p8,p9,pa,pb⟩⟩:=id sx) | (have kx:Kp w wx:=Kp.trans (((((Kp.refl w).alloc _).alloc _).alloc _).drew) gx;have sx:=H6.keep (H6.new w (.float .f64 a) (.float .f64 b) (.float .f64 c) (.float .f64 d) (.float .f64 0) (.float .f64 0) 32 32 32) (Kp.trans (Kp.drew (Kp.refl _)) gx);obtain ⟨⟨p0,p1,p2,p3⟩,⟨p4,p5,p6,p7⟩,⟨p8,p9,pa,pb⟩⟩:=id sx)) | (go_at_call_of 26 (Value.agg #[.float .f64 c,.float .f64 d]);refine (hy _).mono ?_;rintro e wy ⟨rfl,gy⟩;first | (have ky:=Kp.trans kx gy;have sy:=H6.keep sx gy;obtain ⟨⟨p0,p1,p2,p3⟩,⟨p4,p5,p6,p7⟩,⟨p8,p9,pa,pb⟩⟩:=id sy) | (have ky:Kp w wy:=Kp.trans (((((Kp.refl w).alloc _).alloc _).alloc _).drew) gy;have sy:=H6.keep (H6.new w (.float .f64 a) (.float .f64 b) (.float .f64 c) (.float .f64 d) (.float .f64 0) (.float .f64 0) 32 32 32) (Kp.trans (Kp.drew (Kp.refl _)) gy);obtain ⟨⟨p0,p1,p2,p3⟩,⟨p4,p5,p6,p7⟩,⟨p8,p9,pa,pb⟩⟩:=id sy)))
    all_goals (first
      | skip
        have sw:=H6.put (id sy:H6 wy w.heap.size (.float .f64 a) (.float .f64 b) (.float .f64 c) (.float .f64 d) (.float .f64 0) (.float .f64 0)) (.float .f64 L1) (.float .f64 H1) (.float .f64 L2) (.float .f64 H2)
        have kw:Kp w ((((wy.setCell ⟨w.heap.size,0,none⟩ (.float .f64 L1)).setCell ⟨w.heap.size,1,none⟩ (.float .f64 H1)).setCell ⟨w.heap.size + 1,0,none⟩ (.float .f64 L2)).setCell ⟨w.heap.size + 1,1,none⟩ (.float .f64 H2)):=(((ky.setCell (Nat.le_refl _) _).setCell (Nat.le_refl _) _).setCell (Nat.le_succ _) _).setCell (Nat.le_succ _) _
        generalize hW:((((wy.setCell ⟨w.heap.size,0,none⟩ (.float .f64 L1)).setCell ⟨w.heap.size,1,none⟩ (.float .f64 H1)).setCell ⟨w.heap.size + 1,0,none⟩ (.float .f64 L2)).setCell ⟨w.heap.size + 1,1,none⟩ (.float .f64 H2)) = W at sw kw ⊢
        clear hW
      | skip
        have sw:=H6.put (id sx:H6 wx w.heap.size (.float .f64 a) (.float .f64 b) (.float .f64 c) (.float .f64 d) (.float .f64 0) (.float .f64 0)) (.float .f64 L1) (.float .f64 H1) (.float .f64 L2) (.float .f64 H2)
        have kw:Kp w ((((wx.setCell ⟨w.heap.size,0,none⟩ (.float .f64 L1)).setCell ⟨w.heap.size,1,none⟩ (.float .f64 H1)).setCell ⟨w.heap.size + 1,0,none⟩ (.float .f64 L2)).setCell ⟨w.heap.size + 1,1,none⟩ (.float .f64 H2)):=(((kx.setCell (Nat.le_refl _) _).setCell (Nat.le_refl _) _).setCell (Nat.le_succ _) _).setCell (Nat.le_succ _) _
        generalize hW:((((wx.setCell ⟨w.heap.size,0,none⟩ (.float .f64 L1)).setCell ⟨w.heap.size,1,none⟩ (.float .f64 H1)).setCell ⟨w.heap.size + 1,0,none⟩ (.float .f64 L2)).setCell ⟨w.heap.size + 1,1,none⟩ (.float .f64 H2)) = W at sw kw ⊢
        clear hW)
    all_goals (
      obtain ⟨⟨p0,p1,p2,p3⟩,⟨p4,p5,p6,p7⟩,⟨p8,p9,pa,pb⟩⟩:=id sw
      go_wp2_with (first | (go_at_call_of 27 (Value.agg #[.float .f64 L1,.float .f64 H1]);refine (hv1 _).mono ?_;rintro e wv ⟨rfl,gv⟩;have kv:=Kp.trans kw gv;have sv:=H6.keep sw gv;obtain ⟨⟨u0,u1,u2,u3⟩,⟨u4,u5,u6,u7⟩,⟨u8,u9,ua,ub⟩⟩:=id sv) | (go_at_call_of 27 (Value.agg #[.float .f64 L2,.float .f64 H2]);refine (hv2 _).mono ?_;rintro e wz ⟨rfl,gz⟩;have kz:=Kp.trans kv gz;have sz:=H6.keep sv gz;obtain ⟨⟨t0,t1,t2,t3⟩,⟨t4,t5,t6,t7⟩,⟨t8,t9,ta,tb⟩⟩:=id sz) | (go_at_call 28;refine (hE _).mono ?_;rintro e we ⟨rfl,ge⟩;obtain ⟨⟨e0,e1,e2,e3⟩,⟨e4,e5,e6,e7⟩,⟨e8,e9,ea,eb⟩⟩:=H6.keep sz ge;have ke:=Kp.trans kz ge))
      exact bodyPost_ret (v:=.agg #[.float .f64 9218868437227405312,.float .f64 18442240474082181120]) (by simp [results,Tryz.results8,go_sem,e8,e9]) rfl ⟨rfl,(ke.setCell (by simp;omega) _).setCell (by simp;omega) _⟩)
end Go.Proofs.YtaidnpjgkkdloaaGreatDoor
