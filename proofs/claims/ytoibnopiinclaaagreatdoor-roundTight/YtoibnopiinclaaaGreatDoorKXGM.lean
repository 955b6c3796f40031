import Derived.Test.YtoibnopiinclaaaGreatDoorKTNB
set_option maxHeartbeats 400000
set_option maxRecDepth 20000
namespace Go.Proofs.YtoibnopiinclaaaGreatDoor
open Go.RowKit

set_option linter.unusedVariables false
def zc (o:Option Int):Nat:=match o with | none=>9221120237041090561 | some z=>pz z
def sgI (n:Bool):Int:=if n then -9218868437227405312 else 9218868437227405312
def oA (d:Int) (n:Bool) (m:Nat) (n':Bool) (m':Nat):Option Int:=if 9218868437227405312 < m∨9218868437227405312 < m'∨(m = 9218868437227405312∧m' = 9218868437227405312∧n≠n') then none else if m = 9218868437227405312 then some (sgI n) else if m' = 9218868437227405312 then some (sgI n') else some (g53 d 1 1 (Iv n m + Iv n' m'))
def oM (K:Nat) (d:Int) (n:Bool) (m:Nat) (n':Bool) (m':Nat):Option Int:=if 9218868437227405312 < m∨9218868437227405312 < m'∨(m = 9218868437227405312∧m' = 0)∨(m = 0∧m' = 9218868437227405312) then none else if m = 9218868437227405312∨m' = 9218868437227405312 then some (sgI (n ^^ n')) else some (g53 d 1 (2 ^ K) (Iv n m * Iv n' m'))
def oD (K:Nat) (d:Int) (n:Bool) (m:Nat) (n':Bool) (m':Nat):Option Int:=if m' = 0 then (if m = 0∨9218868437227405312 < m then none else some (sgI n)) else if 9218868437227405312 < m∨9218868437227405312 < m'∨(m = 9218868437227405312∧m' = 9218868437227405312) then none else if m = 9218868437227405312 then some (sgI (n ^^ n')) else if m' = 9218868437227405312 then some 0 else some (g53 d (2 ^ K) (Fq.vV Ieee.double m') (Iv (n ^^ n') m))
def oF (K:Nat) (d:Int) (n:Bool) (m:Nat) (n':Bool) (m':Nat) (nz:Bool) (mz:Nat):Option Int:=if m < 9218868437227405312∧m' < 9218868437227405312 then (if mz < 9218868437227405312 then some (g53 d 1 (2 ^ K) (Iv n m * Iv n' m' + Iv nz mz * ((2 ^ K:Nat):Int))) else if 9218868437227405312 < mz then none else some (sgI nz)) else if 9218868437227405312 < m∨9218868437227405312 < m'∨(m = 9218868437227405312∧m' = 0)∨(m = 0∧m' = 9218868437227405312) then none else if 9218868437227405312 < mz∨(mz = 9218868437227405312∧(n ^^ n')≠nz) then none else some (sgI (n ^^ n'))
def ng (o:Option Int):Option Int:=o.map (fun z=>-z)
theorem oA_sym (d:Int) (n:Bool) (m:Nat) (n':Bool) (m':Nat):oA d n m n' m' = oA d n' m' n m:=by
  unfold oA
  rw [Int.add_comm (Iv n' m') (Iv n m)]
  by_cases c1:9218868437227405312 < m∨9218868437227405312 < m'∨(m = 9218868437227405312∧m' = 9218868437227405312∧n≠n')
  · rw [if_pos c1,if_pos (by rcases c1 with h | h | ⟨h1,h2,h3⟩;exact Or.inr (Or.inl h);exact Or.inl h;exact Or.inr (Or.inr ⟨h2,h1,fun e=>h3 e.symm⟩))]
  · have c1':¬ (9218868437227405312 < m'∨9218868437227405312 < m∨(m' = 9218868437227405312∧m = 9218868437227405312∧n'≠n)):=fun h=>c1 (by rcases h with h | h | ⟨h1,h2,h3⟩;exact Or.inr (Or.inl h);exact Or.inl h;exact Or.inr (Or.inr ⟨h2,h1,fun e=>h3 e.symm⟩))
    rw [if_neg c1,if_neg c1']
    by_cases c2:m = 9218868437227405312
    · by_cases c3:m' = 9218868437227405312
      · have:n = n':=by
          rcases Decidable.em (n = n') with e | e
          · exact e
          · exact absurd (Or.inr (Or.inr ⟨c2,c3,e⟩)) c1
        rw [if_pos c2,if_pos c3,this]
      · rw [if_pos c2,if_neg c3,if_pos c2]
    · by_cases c3:m' = 9218868437227405312
      · rw [if_neg c2,if_pos c3,if_pos c3]
      · rw [if_neg c2,if_neg c3,if_neg c3,if_neg c2]
theorem sgI_le (n:Bool):-9218868437227405312≤sgI n∧sgI n≤9218868437227405312:=by cases n <;> decide
theorem wD_sg (n:Bool):Fq.wD n 9218868437227405312 = pz (sgI n):=by cases n <;> decide
set_option linter.unusedVariables false
theorem ordnn (r:Nat) (h1:9218868437227405312 < r % 9223372036854775808) (h2:r < 18446744073709551616):(FloatKind.f64.format.order r r != some .eq) = true:=by
  have e:r = Fq.wD (decide (9223372036854775808≤r)) (r % 9223372036854775808):=by
    unfold Fq.wD
    by_cases c:9223372036854775808≤r
    · rw [decide_eq_true c,if_pos rfl];omega
    · rw [decide_eq_false c,if_neg (by simp)];omega
  have h3:=Fq.ordD_nanl (decide (9223372036854775808≤r)) (r % 9223372036854775808) r h1 (Nat.mod_lt _ (by decide))
  rw [← e] at h3
  rw [h3];rfl
theorem bitsP_ (z:Int) (h:-9218868437227405312≤z∧z≤9218868437227405312) (w1:World):Calls Tryz.prog 6 #[.float .f64 (pz z)] w1 fun e w'=>e = .returned (.int .u64 ((zc (some z):Nat):Int))∧w' = w1:=bitsN_ _ (self_pz z h) w1
theorem bitsI_ (n:Bool) (w1:World):Calls Tryz.prog 6 #[.float .f64 (Fq.wD n 9218868437227405312)] w1 fun e w'=>e = .returned (.int .u64 ((zc (some (sgI n)):Nat):Int))∧w' = w1:=by
  rw [wD_sg]
  exact bitsP_ _ (sgI_le n) w1
theorem bitsQ_ (R:Nat) (h1:9218868437227405312 < R % 9223372036854775808) (h2:R < 18446744073709551616) (w1:World):Calls Tryz.prog 6 #[.float .f64 R] w1 fun e w'=>e = .returned (.int .u64 ((zc none:Nat):Int))∧w' = w1:=bitsNaN_ _ (ordnn R h1 h2) w1
theorem addO_ (d:Int) (n n':Bool) (m m':Nat) (hm:m < 9223372036854775808) (hm':m' < 9223372036854775808) (hd1:-9223372036854775808≤d) (hd2:d < 9223372036854775808) (w:World) (hT:Tab w) (hQ:Fq.Tab w):Calls Tryz.prog 7 #[.int .i64 d,.float .f64 (Fq.wD n m),.float .f64 (Fq.wD n' m')] w fun e w'=>∃ R,e = .returned (.float .f64 R)∧(∀ w1:World,Calls Tryz.prog 6 #[.float .f64 R] w1 fun e w'=>e = .returned (.int .u64 ((zc (oA d n m n' m'):Nat):Int))∧w' = w1)∧Kp w w':=by
  by_cases hi:m < 9218868437227405312∧m' < 9218868437227405312
  · have e:oA d n m n' m' = some (g53 d 1 1 (Iv n m + Iv n' m')):=by
      unfold oA
      rw [if_neg (by omega),if_neg (by omega),if_neg (by omega)]
    rw [e]
    exact (addG_ d n n' m m' hi.1 hi.2 hd1 hd2 w hT hQ).mono fun e w' h=>⟨_,h.1,bitsP_ _ (g53_le _ _ _ _),h.2⟩
  · by_cases hb:badS n m n' m'
    · have e:oA d n m n' m' = none:=by
        have hb2:=hb
        unfold badS at hb2
        unfold oA
        rw [if_pos hb2]
      rw [e]
      exact (paddB_ d n n' m m' hm hm' hi hb w).mono fun e w' ⟨R,h1,h2,h3⟩=>⟨R,h1,bitsQ_ R h2.1 h2.2,h3⟩
    · have e:oA d n m n' m' = some (sgI (if m = 9218868437227405312 then n else n')):=by
        unfold oA
        unfold badS at hb
        rw [if_neg hb]
        by_cases c:m = 9218868437227405312
        · rw [if_pos c,if_pos c]
        · rw [if_neg c,if_pos (by omega),if_neg c]
      rw [e]
      exact (paddI_ d n n' m m' hm hm' hi hb w).mono fun e w' h=>⟨_,h.1,bitsI_ _,h.2⟩
theorem psubO_ (d:Int) (X Y Y':Nat) (Q:Nat→Prop) (hn:∀ w:World,(Op.unary .neg (.float .f64 Y)).run Tryz.prog w = .ok (.float .f64 Y') w) (w:World) (ha:Calls Tryz.prog 7 #[.int .i64 d,.float .f64 X,.float .f64 Y'] w fun e w'=>∃ R,e = .returned (.float .f64 R)∧Q R∧Kp w w'):Calls Tryz.prog 29 #[.int .i64 d,.float .f64 X,.float .f64 Y] w fun e w'=>∃ R,e = .returned (.float .f64 R)∧Q R∧Kp w w':=by
  go_enter Tryz.func29,Tryz.ntmps29
  go_wp2_with (first | (go_at_call 7;refine ha.mono ?_;rintro e w1 ⟨R,rfl,hq,g1⟩))
  exact bodyPost_ret (v:=.float .f64 R) (by simp [results,Tryz.results29,go_sem]) rfl ⟨R,rfl,hq,g1⟩
theorem subO_ (d:Int) (n n':Bool) (m m':Nat) (hm:m < 9223372036854775808) (hm':m' < 9223372036854775808) (hd1:-9223372036854775808≤d) (hd2:d < 9223372036854775808) (w:World) (hT:Tab w) (hQ:Fq.Tab w):Calls Tryz.prog 29 #[.int .i64 d,.float .f64 (Fq.wD n m),.float .f64 (Fq.wD n' m')] w fun e w'=>∃ R,e = .returned (.float .f64 R)∧(∀ w1:World,Calls Tryz.prog 6 #[.float .f64 R] w1 fun e w'=>e = .returned (.int .u64 ((zc (oA d n m (!n') m'):Nat):Int))∧w' = w1)∧Kp w w' :=
  psubO_ d _ _ _ _ (negW8 n' m' hm') w (addO_ d n (!n') m m' hm hm' hd1 hd2 w hT hQ)
theorem plain0 (s:Bool) (w:World):Calls Tryz.prog 40 #[.float .f64 (Fq.wD s 0)] w fun e w'=>e = .returned (.float .f64 0)∧w' = w:=by
  have hp:=Fq.plain_d s 0 (by decide) w
  rw [show Fq.wD (s && !((0:Nat) == 0)) 0 = 0 from by simp;rfl] at hp
  exact hp
theorem plainI (s:Bool) (w:World):Calls Tryz.prog 40 #[.float .f64 (Fq.wD s 9218868437227405312)] w fun e w'=>e = .returned (.float .f64 (Fq.wD s 9218868437227405312))∧w' = w:=by
  have hp:=Fq.plain_d s 9218868437227405312 (by decide) w
  rw [show (s && !((9218868437227405312:Nat) == 0)) = s from by simp] at hp
  exact hp
theorem plainN (R:Nat) (p1:9218868437227405312 < R % 9223372036854775808) (p2:R < 18446744073709551616) (w:World):Calls Tryz.prog 40 #[.float .f64 R] w fun e w'=>e = .returned (.float .f64 R)∧w' = w:=by
  obtain ⟨a,b,hb9,hR⟩:=word_of R p2
  have hp:=Fq.plain_d a b (by omega) w
  rw [show (a && !(b == 0)) = a from by simp;omega,← hR] at hp
  exact hp
theorem mulO_ (K:Nat) (hK:K = 1074) (d:Int) (n n':Bool) (m m':Nat) (hm:m < 9223372036854775808) (hm':m' < 9223372036854775808) (hd1:-9223372036854775808≤d) (hd2:d < 9223372036854775808) (w:World) (hT:Tab w) (hQ:Fq.Tab w):Calls Tryz.prog 16 #[.int .i64 d,.float .f64 (Fq.wD n m),.float .f64 (Fq.wD n' m')] w fun e w'=>∃ R,e = .returned (.float .f64 R)∧(∀ w1:World,Calls Tryz.prog 6 #[.float .f64 R] w1 fun e w'=>e = .returned (.int .u64 ((zc (oM K d n m n' m'):Nat):Int))∧w' = w1)∧Kp w w':=by
  by_cases hi:m < 9218868437227405312∧m' < 9218868437227405312
  · have e:oM K d n m n' m' = some (g53 d 1 (2 ^ K) (Iv n m * Iv n' m')):=by
      unfold oM
      rw [if_neg (by omega),if_neg (by omega)]
    rw [e]
    exact (mulG_ K hK d n n' m m' hi.1 hi.2 hd1 hd2 w hT hQ).mono fun e w' h=>⟨_,h.1,bitsP_ _ (g53_le _ _ _ _),h.2⟩
  · by_cases hb:badP m m'
    · have e:oM K d n m n' m' = none:=by
        have hb2:=hb
        unfold badP at hb2
        unfold oM
        rw [if_pos hb2]
      rw [e]
      obtain ⟨R,p1,p2,hrun⟩:=run_nan_mul _ _ (mul_bad n n' m m' hm hm' hb) w
      exact (pmulP_ d n n' m m' hm hm' (fun h=>hi ⟨h.1,h.2.1⟩) w w.drew R R hrun (Kp.refl _).drew (plainN R p1 p2 w.drew)).mono fun e w' h=>⟨R,h.1,bitsQ_ R p1 p2,h.2⟩
    · have e:oM K d n m n' m' = some (sgI (n ^^ n')):=by
        unfold oM
        unfold badP at hb
        rw [if_neg hb,if_pos (by omega)]
      rw [e]
      exact (pmulP_ d n n' m m' hm hm' (fun h=>hi ⟨h.1,h.2.1⟩) w w _ _ (run_float_arith w .mul 27 .f64 _ _ _ (mul_inf n n' m m' hb hi)) (Kp.refl _) (plainI _ w)).mono fun e w' h=>⟨_,h.1,bitsI_ _,h.2⟩
theorem divW_g2 (K:Nat) (hK:K = 1074) (d:Int) (s:Bool) (m B:Nat):divW d s (Fq.vV Ieee.double m) B = pz (g53 d (2 ^ K) B (Iv s m)):=by
  have h:=divW_g K hK d s m B
  rw [show (s ^^ false) = s from by cases s <;> rfl] at h
  exact h
theorem divO_ (K:Nat) (hK:K = 1074) (d:Int) (n n':Bool) (m m':Nat) (hm:m < 9223372036854775808) (hm':m' < 9223372036854775808) (hd1:-9223372036854775808≤d) (hd2:d < 9223372036854775808) (w:World) (hT:Tab w) (hQ:Fq.Tab w):Calls Tryz.prog 14 #[.int .i64 d,.float .f64 (Fq.wD n m),.float .f64 (Fq.wD n' m')] w fun e w'=>∃ R,e = .returned (.float .f64 R)∧(∀ w1:World,Calls Tryz.prog 6 #[.float .f64 R] w1 fun e w'=>e = .returned (.int .u64 ((zc (oD K d n m n' m'):Nat):Int))∧w' = w1)∧Kp w w':=by
  by_cases z':m' = 0
  · have h:=pdivN_ d n n' m hm w
    rw [z']
    by_cases c:m = 0∨9218868437227405312 < m
    · have e:oD K d n m n' 0 = none:=by unfold oD;rw [if_pos rfl,if_pos c]
      rw [e]
      rw [if_pos c] at h
      exact h.mono fun e w' h=>⟨_,h.1,bitsQ_ _ (by decide) (by decide),h.2⟩
    · have e:oD K d n m n' 0 = some (sgI n):=by unfold oD;rw [if_pos rfl,if_neg c]
      rw [e]
      rw [if_neg c] at h
      exact h.mono fun e w' h=>⟨_,h.1,bitsI_ _,h.2⟩
  · by_cases hb:badQ m m'
    · have e:oD K d n m n' m' = none:=by have hb2:=hb;unfold badQ at hb2;unfold oD;rw [if_neg z',if_pos hb2]
      rw [e]
      obtain ⟨R,p1,p2,hrun⟩:=run_nan_quo _ _ (div_bad n n' m m' hm hm' hb) w
      exact (pdivP_ d n n' m m' hm hm' z' (fun h=>by unfold badQ at hb;omega) w w.drew R R hrun (Kp.refl _).drew (plainN R p1 p2 w.drew)).mono fun e w' h=>⟨R,h.1,bitsQ_ R p1 p2,h.2⟩
    · unfold badQ at hb
      by_cases c1:m = 9218868437227405312
      · have e:oD K d n m n' m' = some (sgI (n ^^ n')):=by unfold oD;rw [if_neg z',if_neg hb,if_pos c1]
        rw [e]
        exact (pdivP_ d n n' m m' hm hm' z' (fun h=>by omega) w w _ _ (run_float_arith w .quo 27 .f64 _ _ _ (div_inf n n' m m' c1 (by omega))) (Kp.refl _) (plainI _ w)).mono fun e w' h=>⟨_,h.1,bitsI_ _,h.2⟩
      · by_cases c2:m' = 9218868437227405312
        · have e:oD K d n m n' m' = some 0:=by unfold oD;rw [if_neg z',if_neg hb,if_neg c1,if_pos c2]
          rw [e]
          exact (pdivP_ d n n' m m' hm hm' z' (fun h=>by omega) w w _ _ (run_float_arith w .quo 27 .f64 _ _ _ (div_zero n n' m m' (by omega) (Or.inl c2))) (Kp.refl _) (plain0 _ w)).mono fun e w' h=>⟨_,h.1,bitsP_ 0 (by decide),h.2⟩
        · have e:oD K d n m n' m' = some (g53 d (2 ^ K) (Fq.vV Ieee.double m') (Iv (n ^^ n') m)):=by unfold oD;rw [if_neg z',if_neg hb,if_neg c1,if_neg c2]
          rw [e]
          suffices h:Calls Tryz.prog 14 #[.int .i64 d,.float .f64 (Fq.wD n m),.float .f64 (Fq.wD n' m')] w fun e w'=>e = .returned (.float .f64 (divW d (n ^^ n') (Fq.vV Ieee.double m) (Fq.vV Ieee.double m')))∧Kp w w' by
            rw [divW_g2 K hK] at h
            exact h.mono fun e w' h=>⟨_,h.1,bitsP_ _ (g53_le _ _ _ _),h.2⟩
          by_cases z:m = 0
          · have h0:divW d (n ^^ n') (Fq.vV Ieee.double m) (Fq.vV Ieee.double m') = 0:=by
              unfold divW
              exact if_pos ((vV_zero m).2 z)
            rw [h0]
            exact pdivP_ d n n' m m' hm hm' z' (fun h=>by omega) w w _ _ (run_float_arith w .quo 27 .f64 _ _ _ (div_zero n n' m m' (by omega) (Or.inr ⟨z,by omega,z'⟩))) (Kp.refl _) (plain0 _ w)
          · by_cases ct:(2580562586483294208≤m∧m≤6633802251116740608)∧(2580562586483294208≤m'∧m'≤6633802251116740608)
            · exact pdivQ_ d n n' m m' ct.1 ct.2 w
            · exact pdivE_ d n n' m m' (by omega) (by omega) z z' ct w hQ hd1 hd2
theorem fmaO_ (K:Nat) (hK:K = 1074) (d:Int) (n n' nz:Bool) (m m' mz:Nat) (hm:m < 9223372036854775808) (hm':m' < 9223372036854775808) (hmz:mz < 9223372036854775808) (hd1:-9223372036854775808≤d) (hd2:d < 9223372036854775808) (w:World) (hT:Tab w) (hQ:Fq.Tab w):Calls Tryz.prog 30 #[.int .i64 d,.float .f64 (Fq.wD n m),.float .f64 (Fq.wD n' m'),.float .f64 (Fq.wD nz mz)] w fun e w'=>∃ R,e = .returned (.float .f64 R)∧(∀ w1:World,Calls Tryz.prog 6 #[.float .f64 R] w1 fun e w'=>e = .returned (.int .u64 ((zc (oF K d n m n' m' nz mz):Nat):Int))∧w' = w1)∧Kp w w':=by
  by_cases hi:m < 9218868437227405312∧m' < 9218868437227405312
  · by_cases c3:mz < 9218868437227405312
    · have e:oF K d n m n' m' nz mz = some (g53 d 1 (2 ^ K) (Iv n m * Iv n' m' + Iv nz mz * ((2 ^ K:Nat):Int))):=by unfold oF;rw [if_pos hi,if_pos c3]
      rw [e]
      exact (fmaG_ K hK d n n' nz m m' mz hi.1 hi.2 c3 hd1 hd2 w hT hQ).mono fun e w' h=>⟨_,h.1,bitsP_ _ (g53_le _ _ _ _),h.2⟩
    · have hz:=pfmaZ_ d n n' nz m m' mz hm hm' hmz hi.1 hi.2 c3 w
      by_cases c4:9218868437227405312 < mz
      · have e:oF K d n m n' m' nz mz = none:=by unfold oF;rw [if_pos hi,if_neg c3,if_pos c4]
        rw [e]
        exact hz.mono fun e w' h=>⟨_,h.1,bitsQ_ _ (by unfold Fq.wD;cases nz <;> simp <;> omega) (by unfold Fq.wD;cases nz <;> simp <;> omega),h.2⟩
      · have e:oF K d n m n' m' nz mz = some (sgI nz):=by unfold oF;rw [if_pos hi,if_neg c3,if_neg c4]
        rw [e]
        rw [show mz = 9218868437227405312 from by omega] at hz ⊢
        exact hz.mono fun e w' h=>⟨_,h.1,bitsI_ _,h.2⟩
  · by_cases hb:badP m m'
    · have e:oF K d n m n' m' nz mz = none:=by have hb2:=hb;unfold badP at hb2;unfold oF;rw [if_neg hi,if_pos hb2]
      rw [e]
      obtain ⟨RP,p1,p2,hrun⟩:=run_nan_mul _ _ (mul_bad n n' m m' hm hm' hb) w
      have hadd:FloatKind.f64.format.add RP (Fq.wD nz mz) = none:=by
        obtain ⟨a,b,hb9,hR⟩:=word_of RP p2
        rw [hR]
        exact add_bad a nz b mz (by omega) hmz (Or.inl (by omega))
      obtain ⟨RR,p3,p4,hrun2⟩:=run_nan _ _ hadd w.drew
      exact (pfmaI_ d n n' nz m m' mz hm hm' hmz hi w w.drew w.drew.drew RP RR hrun hrun2 (Kp.refl _).drew.drew).mono fun e w' h=>⟨RR,h.1,bitsQ_ RR p3 p4,h.2⟩
    · have hmi:=mul_inf n n' m m' hb hi
      by_cases hs:badS (n ^^ n') 9218868437227405312 nz mz
      · have e:oF K d n m n' m' nz mz = none:=by
          unfold oF
          unfold badP at hb
          rw [if_neg hi,if_neg hb,if_pos (by unfold badS at hs;rcases hs with h | h | h;omega;exact Or.inl h;exact Or.inr ⟨h.2.1,h.2.2⟩)]
        rw [e]
        obtain ⟨RR,p3,p4,hrun2⟩:=run_nan _ _ (add_bad (n ^^ n') nz 9218868437227405312 mz (by decide) hmz hs) w
        exact (pfmaI_ d n n' nz m m' mz hm hm' hmz hi w w w.drew _ RR (run_float_arith w .mul 27 .f64 _ _ _ hmi) hrun2 (Kp.refl _).drew).mono fun e w' h=>⟨RR,h.1,bitsQ_ RR p3 p4,h.2⟩
      · have e:oF K d n m n' m' nz mz = some (sgI (n ^^ n')):=by
          unfold oF
          unfold badP at hb
          rw [if_neg hi,if_neg hb,if_neg (fun h=>hs (by unfold badS;rcases h with h | h;exact Or.inr (Or.inl h);exact Or.inr (Or.inr ⟨rfl,h.1,h.2⟩)))]
        rw [e]
        have ha:=add_inf (n ^^ n') nz 9218868437227405312 mz hs (by omega)
        rw [if_pos rfl] at ha
        exact (pfmaI_ d n n' nz m m' mz hm hm' hmz hi w w w _ _ (run_float_arith w .mul 27 .f64 _ _ _ hmi) (run_float_arith w .add 27 .f64 _ _ _ ha) (Kp.refl _)).mono fun e w' h=>⟨_,h.1,bitsI_ _,h.2⟩
end Go.Proofs.YtoibnopiinclaaaGreatDoor
