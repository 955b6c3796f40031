import Derived.Test.YtfhcmabejagknaaGreatDoorKRT
import Derived.Test.YtfhcmabejagknaaGreatDoorKTOm
set_option maxHeartbeats 1000000
set_option maxRecDepth 20000
namespace Go.Proofs.YtfhcmabejagknaaGreatDoor
open Go.RowKit
theorem nanD9 (n:Bool) (m:Nat) (h1:9218868437227405312 < m) (h2:m < 9223372036854775808):Ieee.double.read (Fq.wD n m) = .nan n (m - 9218868437227405312):=by
  rw [Fq.read_nan Ieee.double _ Fq.binfD (by rw [Fq.rgD n m h2,Fq.infD];exact h1),Fq.rgD n m h2,Fq.ngD n m h2,Fq.infD]
theorem infD9 (n:Bool):Ieee.double.read (Fq.wD n 9218868437227405312) = .infinity n:=by
  rw [Fq.read_inf Ieee.double _ Fq.binfD (by rw [Fq.rgD n 9218868437227405312 (by decide),Fq.infD]),Fq.ngD n 9218868437227405312 (by decide)]
theorem finD9 (n:Bool) (m:Nat) (h:m < 9218868437227405312):∃ a e,Ieee.double.read (Fq.wD n m) = .number n a e∧(a = 0 ↔ m = 0):=by
  rw [Fq.read_fin _ _ (by rw [Fq.rgD n m (by omega),Fq.infD];exact h),Fq.ngD n m (by omega),Fq.rgD n m (by omega)]
  refine ⟨_,_,rfl, ?_⟩
  unfold Fq.mM
  rw [Fq.binD]
  split <;> omega
theorem wrI9 (s:Bool):Ieee.double.write (.infinity s) = Fq.wD s 9218868437227405312:=by unfold Ieee.Format.write Ieee.Format.word Fq.wD;rw [Fq.signD,Fq.infD]
def badP (m m':Nat):Prop:=9218868437227405312 < m∨9218868437227405312 < m'∨(m = 9218868437227405312∧m' = 0)∨(m = 0∧m' = 9218868437227405312)
theorem mul_bad (n n':Bool) (m m':Nat) (hm:m < 9223372036854775808) (hm':m' < 9223372036854775808) (h:badP m m'):FloatKind.f64.format.mul (Fq.wD n m) (Fq.wD n' m') = none:=by
  show Ieee.double.mul _ _ = none
  unfold Ieee.Format.mul
  by_cases c1:9218868437227405312 < m
  · rw [nanD9 n m c1 hm];rfl
  · by_cases c2:9218868437227405312 < m'
    · rw [nanD9 n' m' c2 hm']
      by_cases c3:m = 9218868437227405312
      · rw [c3,infD9];rfl
      · obtain ⟨a,e,he,_⟩:=finD9 n m (by omega)
        rw [he];rfl
    · rcases (h.resolve_left c1).resolve_left c2 with ⟨e1,e2⟩ | ⟨e1,e2⟩
      · obtain ⟨a,e,he,hz⟩:=finD9 n' m' (by omega)
        rw [e1,infD9,he]
        unfold Ieee.Datum.product
        simp only
        rw [if_pos (hz.2 e2)];rfl
      · obtain ⟨a,e,he,hz⟩:=finD9 n m (by omega)
        rw [e2,infD9,he]
        unfold Ieee.Datum.product
        simp only
        rw [if_pos (hz.2 e1)];rfl
theorem mul_inf (n n':Bool) (m m':Nat) (h:¬ badP m m') (hi:¬ (m < 9218868437227405312∧m' < 9218868437227405312)):FloatKind.f64.format.mul (Fq.wD n m) (Fq.wD n' m') = some (Fq.wD (n ^^ n') 9218868437227405312):=by
  unfold badP at h
  show Ieee.double.mul _ _ = _
  unfold Ieee.Format.mul
  by_cases c1:m = 9218868437227405312
  · rw [c1,infD9]
    by_cases c2:m' = 9218868437227405312
    · rw [c2,infD9]
      exact congrArg some (wrI9 _)
    · obtain ⟨a,e,he,hz⟩:=finD9 n' m' (by omega)
      rw [he]
      unfold Ieee.Datum.product
      simp only
      rw [if_neg (fun h0=>h (Or.inr (Or.inr (Or.inl ⟨c1,hz.1 h0⟩))))]
      exact congrArg some (wrI9 _)
  · have c2:m' = 9218868437227405312:=by omega
    obtain ⟨a,e,he,hz⟩:=finD9 n m (by omega)
    rw [c2,infD9,he]
    unfold Ieee.Datum.product
    simp only
    rw [if_neg (fun h0=>h (Or.inr (Or.inr (Or.inr ⟨hz.1 h0,c2⟩)))),show (n ^^ n') = (n' ^^ n) from by cases n <;> cases n' <;> rfl]
    exact congrArg some (wrI9 _)
theorem rU_zero9:rU 0 53 0 1 = 0:=by
  have h:=rV_zero9 0 0
  unfold rV at h
  simpa using h
theorem mul_zero (n n':Bool) (m m':Nat) (hm:m < 9218868437227405312) (hm':m' < 9218868437227405312) (h:m = 0∨m' = 0):FloatKind.f64.format.mul (Fq.wD n m) (Fq.wD n' m') = some (Fq.wD (n ^^ n') 0):=by
  obtain ⟨K,hK⟩:∃ K:Nat,K = 1074:=⟨_,rfl⟩
  have hz:Iv n m * Iv n' m' = 0:=by
    have e:∀ b:Bool,Iv b 0 = 0:=fun b=>by
      have:=iv_abs b 0
      rw [(vV_zero 0).2 rfl] at this
      omega
    rcases h with h | h
    · rw [h,e,Int.zero_mul]
    · rw [h,e,Int.mul_zero]
  rw [mul_v n n' m m' hm hm' K 0 hK (by rw [hz,Int.zero_mul]),if_pos rfl,show (0:Int).natAbs = 0 from rfl,rU_zero9]
  unfold finU
  rw [blen_zero,if_pos (by decide),rgU_zero]
theorem nan_cut9 (t:Nat):9218868437227405312 < (t % 2 * 2 ^ 63 + 0x7ff0000000000000 + 1 + t / 2 % (2 ^ 52 - 1)) % 9223372036854775808∧t % 2 * 2 ^ 63 + 0x7ff0000000000000 + 1 + t / 2 % (2 ^ 52 - 1) < 18446744073709551616:=by
  rw [show (2:Nat) ^ 63 = 9223372036854775808 from by decide,show (2:Nat) ^ 52 - 1 = 4503599627370495 from by decide]
  have h1:t % 2 = 0∨t % 2 = 1:=by omega
  have h2:t / 2 % 4503599627370495 < 4503599627370495:=Nat.mod_lt _ (by decide)
  generalize t / 2 % 4503599627370495 = b at *
  rcases h1 with h | h <;> rw [h] <;> omega
theorem run_nan_mul (X Y:Nat) (h:FloatKind.f64.format.mul X Y = none) (w:World):∃ r,9218868437227405312 < r % 9223372036854775808∧r < 18446744073709551616∧(binOp .mul 43 (.float .f64 X) (.float .f64 Y)).run Tryz.prog w = .ok (.float .f64 r) w.drew:=by
  refine ⟨Question.cut (.nanBits .f64 X Y) _, ?_, ?_,by simp [binOp,Op.floatArith,h];rfl⟩
  · simp only [Question.cut];exact (nan_cut9 _).1
  · simp only [Question.cut];exact (nan_cut9 _).2
theorem rquoO_ (sa sb:Bool) (a1 a2 b1 b2:Nat) (P1 P2 Q1 Q2:Option Addr) (C1 C2 D1 D2:Nat) (w:World) (h1:Arr w P1 (dig a1)) (l1:(dig a1).length≤C1) (h2:Arr w P2 (dig a2)) (l2:(dig a2).length≤C2) (h3:Arr w Q1 (dig b1)) (l3:(dig b1).length≤D1) (h4:Arr w Q2 (dig b2)) (l4:(dig b2).length≤D2) (k1:len32 a1≤4000) (k2:len32 a2≤4000) (k3:len32 b1≤4000) (k4:len32 b2≤4000) (z2:a2≠0) (z4:b1≠0) (X D:Nat) (hX:X = a1 * b2) (hD:D = a2 * b1) (lX:len32 X≤16000) (lD:len32 D≤16000) :
    Calls Tryz.prog 56 #[.agg #[.bool sa,.slice P1 (dig a1).length C1,.slice P2 (dig a2).length C2],.agg #[.bool sb,.slice Q1 (dig b1).length D1,.slice Q2 (dig b2).length D2]] w fun e w'=>∃ (vn vd:Value) (a' b':Nat) (ng:Bool),e = .returned (.agg #[.bool ng,vn,vd])∧Own w' w.heap.size vn (dig a')∧Own w' w.heap.size vd (dig b')∧(FracOf X D 0 a' b'∧(X≠0→ng = (sa ^^ sb)))∧Kp w w':=by
  have hz:D≠0:=by rw [hD];exact Nat.mul_ne_zero z2 z4
  obtain ⟨E1,g1⟩:∃ E,E = (dig a1).length:=⟨_,rfl⟩
  obtain ⟨E2,g2⟩:∃ E,E = (dig a2).length:=⟨_,rfl⟩
  obtain ⟨E3,g3⟩:∃ E,E = (dig b1).length:=⟨_,rfl⟩
  obtain ⟨E4,g4⟩:∃ E,E = (dig b2).length:=⟨_,rfl⟩
  rw [← g1,← g2,← g3,← g4]
  obtain ⟨B,hB⟩:∃ B,B = w.heap.size:=⟨_,rfl⟩
  obtain ⟨wA,hwA⟩:∃ wA,wA = w.alloc (.cells #[.bool sa,.slice P1 E1 C1,.slice P2 E2 C2] 27):=⟨_,rfl⟩
  obtain ⟨wB,hwB⟩:∃ wB,wB = wA.alloc (.cells #[.bool sb,.slice Q1 E3 D1,.slice Q2 E4 D2] 27):=⟨_,rfl⟩
  obtain ⟨w0,hw0⟩:∃ w0,w0 = wB.alloc (.cells #[.bool false,.slice none 0 0,.slice none 0 0] 27):=⟨_,rfl⟩
  have sA:wA.heap.size = B + 1:=by rw [hwA,hB];simp
  have sB:wB.heap.size = B + 2:=by rw [hwB];simp [sA]
  have kAB:Kp wA wB:=by rw [hwB];exact (Kp.refl wA).alloc _
  have x0:wB.cell? ⟨B,0,none⟩ = some (.bool sa):=kkeep kAB (by rw [hwA,hB];simp [go_sem])
  have x1:wB.cell? ⟨B,1,none⟩ = some (.slice P1 E1 C1):=kkeep kAB (by rw [hwA,hB];simp [go_sem])
  have x2:wB.cell? ⟨B,2,none⟩ = some (.slice P2 E2 C2):=kkeep kAB (by rw [hwA,hB];simp [go_sem])
  have y0:wB.cell? ⟨B + 1,0,none⟩ = some (.bool sb):=by rw [hwB,← sA];simp [go_sem]
  have y1:wB.cell? ⟨B + 1,1,none⟩ = some (.slice Q1 E3 D1):=by rw [hwB,← sA];simp [go_sem]
  have y2:wB.cell? ⟨B + 1,2,none⟩ = some (.slice Q2 E4 D2):=by rw [hwB,← sA];simp [go_sem]
  have r0:w0.cell? ⟨B + 2,0,none⟩ = some (.bool false):=by rw [hw0,← sB];simp [go_sem]
  have r1:w0.cell? ⟨B + 2,1,none⟩ = some (.slice none 0 0):=by rw [hw0,← sB];simp [go_sem]
  have r2:w0.cell? ⟨B + 2,2,none⟩ = some (.slice none 0 0):=by rw [hw0,← sB];simp [go_sem]
  have f0:w0.frozen? ⟨B + 2,0,none⟩ = false:=by rw [hw0,← sB];simp [go_sem]
  have f1:w0.frozen? ⟨B + 2,1,none⟩ = false:=by rw [hw0,← sB];simp [go_sem]
  have f2:w0.frozen? ⟨B + 2,2,none⟩ = false:=by rw [hw0,← sB];simp [go_sem]
  have kw:Kp w w0:=by rw [hw0,hwB,hwA];exact (((Kp.refl w).alloc _).alloc _).alloc _
  have kS:Kp wB w0:=by rw [hw0];exact (Kp.refl wB).alloc _
  have kD:Kp wB w0.drew:=kS.drew
  have hge:wB.heap.size≤(⟨B + 2,0,none⟩:Addr).block:=by simp only;omega
  have hlt:=cell_lt r0
  have HP1:Hid (∀ W:World,Kp w0 W→Calls Tryz.prog 72 #[.slice P1 E1 C1,.slice Q2 E4 D2] W fun e w'=>∃ p c,e = .returned (.slice p (dig X).length c)∧Arr w' p (dig X)∧(dig X).length≤c∧Kp W w'):=by
    show ∀ W:World,Kp w0 W→Calls Tryz.prog 72 #[.slice P1 E1 C1,.slice Q2 E4 D2] W fun e w'=>∃ p c,e = .returned (.slice p (dig X).length c)∧Arr w' p (dig X)∧(dig X).length≤c∧Kp W w'
    intro W k
    rw [hX];exact timesR _ _ a1 b2 W ⟨P1,C1,by rw [g1],h1.grown (kw.trans k),l1⟩ ⟨Q2,D2,by rw [g4],h4.grown (kw.trans k),l4⟩ (by omega) (by omega)
  have HP2:Hid (∀ W:World,Kp w0 W→Calls Tryz.prog 72 #[.slice P2 E2 C2,.slice Q1 E3 D1] W fun e w'=>∃ p c,e = .returned (.slice p (dig D).length c)∧Arr w' p (dig D)∧(dig D).length≤c∧Kp W w'):=by
    show ∀ W:World,Kp w0 W→Calls Tryz.prog 72 #[.slice P2 E2 C2,.slice Q1 E3 D1] W fun e w'=>∃ p c,e = .returned (.slice p (dig D).length c)∧Arr w' p (dig D)∧(dig D).length≤c∧Kp W w'
    intro W k
    rw [hD];exact timesR _ _ a2 b1 W ⟨P2,C2,by rw [g2],h2.grown (kw.trans k),l2⟩ ⟨Q1,D1,by rw [g3],h3.grown (kw.trans k),l3⟩ (by omega) (by omega)
  obtain ⟨NX,hNX⟩:∃ N,N = (dig X).length:=⟨_,rfl⟩
  obtain ⟨ND,hND⟩:∃ N,N = (dig D).length:=⟨_,rfl⟩
  obtain ⟨st,hst⟩:∃ st,st = (sa ^^ sb):=⟨_,rfl⟩
  have hst2:(sa != sb) = st:=by rw [hst]
  have hst3:(!decide (sa = sb)) = st:=by rw [hst];cases sa <;> cases sb <;> rfl
  have hst4:(!(sa == sb)) = st:=by rw [hst];cases sa <;> cases sb <;> rfl
  have HFR:Hid (∀ (p:Option Addr) (c:Nat) (q:Option Addr) (d:Nat) (W:World),Kp w0 W→Arr W p (dig X)→(dig X).length≤c→Arr W q (dig D)→(dig D).length≤d→Calls Tryz.prog 61 #[.bool st,.slice p (dig X).length c,.slice q (dig D).length d,.int .i64 0] W fun e w'=>∃ (vn vd:Value) (a' b':Nat) (ng:Bool),e = .returned (.agg #[.bool ng,vn,vd])∧Own w' W.heap.size vn (dig a')∧Own w' W.heap.size vd (dig b')∧(FracOf X D 0 a' b'∧(X≠0→ng = st))∧Kp W w'):=by
    show ∀ (p:Option Addr) (c:Nat) (q:Option Addr) (d:Nat) (W:World),Kp w0 W→Arr W p (dig X)→(dig X).length≤c→Arr W q (dig D)→(dig D).length≤d→Calls Tryz.prog 61 #[.bool st,.slice p (dig X).length c,.slice q (dig D).length d,.int .i64 0] W fun e w'=>∃ (vn vd:Value) (a' b':Nat) (ng:Bool),e = .returned (.agg #[.bool ng,vn,vd])∧Own w' W.heap.size vn (dig a')∧Own w' W.heap.size vd (dig b')∧(FracOf X D 0 a' b'∧(X≠0→ng = st))∧Kp W w'
    intro p c q d W kk ar ll ar' ll'
    have g:=frac_ st (.slice p (dig X).length c) (.slice q (dig D).length d) (dig X) (dig D) 0 W ⟨p,c,rfl,ar,ll⟩ ⟨q,d,rfl,ar',ll'⟩ (Wd_dig _) (Wd_dig _) (by change len32 _≤_;omega) (by change len32 _≤_;omega) (by rw [val_dig];exact hz) (by decide)
    rw [val_dig,val_dig] at g
    exact g
  rw [← hNX,← hND] at HFR
  rw [← hNX] at HP1
  rw [← hND] at HP2
  rw [← hst]
  have HW:Hid (w0 = wB.alloc (.cells #[.bool false,.slice none 0 0,.slice none 0 0] 27)∧wB = wA.alloc (.cells #[.bool sb,.slice Q1 E3 D1,.slice Q2 E4 D2] 27)∧wA = w.alloc (.cells #[.bool sa,.slice P1 E1 C1,.slice P2 E2 C2] 27)∧B = w.heap.size∧Kp w w0):=⟨hw0,hwB,hwA,hB,kw⟩
  clear hNX hND hst hw0 hwB hwA hB sA sB kw kAB h1 l1 h2 l2 h3 l3 h4 l4 k1 k2 k3 k4 z2 z4 hX hD hz lX lD g1 g2 g3 g4
  go_enter Tryz.func56,Tryz.ntmps56
  go_upto_region 1 with fail
  rw [← HW.out.2.2.2.1]
  try rw [← HW.out.2.2.1]
  try rw [← HW.out.2.1]
  try rw [← HW.out.1]
  go_region_held3 (fun w'=>w'.cell? ⟨B,0,none⟩ = some (.bool sa)∧w'.cell? ⟨B,1,none⟩ = some (.slice P1 E1 C1)∧w'.cell? ⟨B,2,none⟩ = some (.slice P2 E2 C2)∧w'.cell? ⟨B + 1,0,none⟩ = some (.bool sb)∧w'.cell? ⟨B + 1,1,none⟩ = some (.slice Q1 E3 D1)∧w'.cell? ⟨B + 1,2,none⟩ = some (.slice Q2 E4 D2)) (refine ⟨kkeep (W:=wB) ?_ x0,kkeep (W:=wB) ?_ x1,kkeep (W:=wB) ?_ x2,kkeep (W:=wB) ?_ y0,kkeep (W:=wB) ?_ y1,kkeep (W:=wB) ?_ y2⟩ <;> ((repeat (first | with_reducible exact kC | with_reducible exact kB | with_reducible exact kA | with_reducible exact kS | with_reducible exact kD | with_reducible exact Kp.refl _ | with_reducible refine Kp.drew ?_ | refine Kp.setCell ?_ hge _));done)) (first | (go_at_call 61;have hh:=ar2;refine (HFR.out pp cc pq cq _ ?q1 ?q2 ll1 ?q3 ll2).mono ?_;(case q1=>((repeat (first | with_reducible exact kk2 | with_reducible exact kk1 | with_reducible exact Kp.refl _ | with_reducible refine Kp.drew ?_));done));(case q2=>exact ar1.grown k12);(case q3=>exact ar2);rintro e v3 ⟨vn,vd,a',b',ng,rfl,o1,o2,ff,k23⟩;have kk3:Kp w0 v3:=Kp.trans ?q4 k23;(case q4=>((repeat (first | with_reducible exact kk2 | with_reducible exact kk1 | with_reducible exact Kp.refl _ | with_reducible refine Kp.drew ?_));done));have kC:Kp wB v3:=kS.trans kk3;obtain ⟨pn,cn,rfl,an,ln⟩:=o1.arr;obtain ⟨pd,cd,rfl,ad,ld⟩:=o2.arr;have R0:=kkeep kk3 r0;have R1:=kkeep kk3 r1;have R2:=kkeep kk3 r2;have F0:=(kfro kk3 hlt).trans f0;have F1:=(kfro kk3 hlt).trans f1;have F2:=(kfro kk3 hlt).trans f2) | (go_at_call 72;have hh:=ar1;refine (HP2.out _ ?q5).mono ?_;(case q5=>((repeat (first | with_reducible exact kk2 | with_reducible exact kk1 | with_reducible exact Kp.refl _ | with_reducible refine Kp.drew ?_));done));rintro e v2 ⟨pq,cq,rfl,ar2,ll2,k12⟩;have kk2:Kp w0 v2:=Kp.trans ?q7 k12;(case q7=>((repeat (first | with_reducible exact kk2 | with_reducible exact kk1 | with_reducible exact Kp.refl _ | with_reducible refine Kp.drew ?_));done));have kB:Kp wB v2:=kS.trans kk2) | (go_at_call 72;refine (HP1.out _ ?q8).mono ?_;(case q8=>((repeat (first | with_reducible exact kk2 | with_reducible exact kk1 | with_reducible exact Kp.refl _ | with_reducible refine Kp.drew ?_));done));rintro e v1 ⟨pp,cc,rfl,ar1,ll1,k01⟩;have kk1:Kp w0 v1:=Kp.trans ?q10 k01;(case q10=>((repeat (first | with_reducible exact kk2 | with_reducible exact kk1 | with_reducible exact Kp.refl _ | with_reducible refine Kp.drew ?_));done));have kA:Kp wB v1:=kS.trans kk1))
  have hs1:=Below.size kk2
  obtain ⟨wz,hwz⟩:∃ wz,wz = ((v3.setCell ⟨B + 2,0,none⟩ (.bool ng)).setCell ⟨B + 2,1,none⟩ (.slice pn (dig a').length cn)).setCell ⟨B + 2,2,none⟩ (.slice pd (dig b').length cd):=⟨_,rfl⟩
  have kb:Kb (B + 2) v3 wz:=by rw [hwz];exact (((Kb.refl (B + 2) v3).setCell 0 _).setCell 1 _).setCell 2 _
  have O1:=o1.kb kb (fun g hg=>by have:=o1.lt g hg;omega)
  have O2:=o2.kb kb (fun g hg=>by have:=o2.lt g hg;omega)
  have hkw:Kp w wz:=kb.kp (HW.out.2.2.2.2.trans kk3) (by rw [HW.out.2.2.2.1];omega)
  have HO:Hid (Own wz w.heap.size (.slice pn (dig a').length cn) (dig a')∧Own wz w.heap.size (.slice pd (dig b').length cd) (dig b')∧(FracOf X D 0 a' b'∧(X≠0→ng = st))∧Kp w wz∧wz = ((v3.setCell ⟨B + 2,0,none⟩ (.bool ng)).setCell ⟨B + 2,1,none⟩ (.slice pn (dig a').length cn)).setCell ⟨B + 2,2,none⟩ (.slice pd (dig b').length cd)):=⟨O1.mono (by have e9:=HW.out.2.2.2.1;first | omega | exact Nat.le_trans (show w.heap.size≤v1.heap.size by omega) (Nat.le_refl _)),O2.mono (by have e9:=HW.out.2.2.2.1;first | omega | exact Nat.le_trans (show w.heap.size≤v1.heap.size by omega) (Nat.le_refl _)),ff,hkw,hwz⟩
  clear hs1 hwz kb O1 O2 hkw o1 o2 ff k23 kk3 kC an ln ad ld kk2 k12 kB ar2 ll2 kk1 k01 kA ar1 ll1 HP1 HP2 HFR kS kD hge
  go_wp2
  obtain ⟨q1,q2,q3,q4,q5⟩:=HO.out
  rw [q5] at q1 q2 q4
  exact bodyPost_ret (v:=.agg #[.bool ng,.slice pn (dig a').length cn,.slice pd (dig b').length cd]) (by simp [results,Tryz.results56,go_sem,R0,R1,R2]) rfl ⟨_,_,a',b',ng,rfl,q1,q2,q3,q4⟩
end Go.Proofs.YtfhcmabejagknaaGreatDoor
