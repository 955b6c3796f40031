import Derived.Test.YtnileplkkmhdgaaGreatDoorKBGb
import Derived.Test.YtnileplkkmhdgaaGreatDoorKPMm
import Derived.Test.YtnileplkkmhdgaaGreatDoorKRW
set_option maxHeartbeats 1000000
set_option maxRecDepth 20000
namespace Go.Proofs.YtnileplkkmhdgaaGreatDoor
open Go.RowKit
set_option linter.unusedVariables false
set_option linter.unusedSimpArgs false
theorem timesW (v1 v2:Value) (a b:Nat) (w:World) (h1:Ls w v1 (dig a)) (h2:Ls w v2 (dig b)) (l1:len32 a≤16777216) (l2:len32 b≤16777216) :
    Calls Tryz.prog 36 #[v1,v2] w fun e w'=>∃ p c,e = .returned (.slice p (dig (a * b)).length c)∧Arr w' p (dig (a * b))∧(dig (a * b)).length≤c∧Kp w w':=by
  obtain ⟨p,c,rfl,hA,hc⟩:=h1
  obtain ⟨q,d,rfl,hB,hd⟩:=h2
  have h:=rtimes_ p q c d (dig a) (dig b) w hA hB (Wd_dig a) (Wd_dig b) (by change len32 a≤_;omega) (by change len32 b≤_;omega)
  rw [val_dig,val_dig] at h
  refine h.mono ?_
  rintro e w' ⟨v,h1,h2,h3⟩
  obtain ⟨p,c,rfl,h4,h5⟩:=h2.arr
  exact ⟨p,c,h1,h4,h5,h3⟩
theorem rmulB_ (sa sb:Bool) (a1 a2 b1 b2:Nat) (P1 P2 Q1 Q2:Option Addr) (C1 C2 D1 D2:Nat) (w:World) (h1:Arr w P1 (dig a1)) (l1:(dig a1).length≤C1) (h2:Arr w P2 (dig a2)) (l2:(dig a2).length≤C2) (h3:Arr w Q1 (dig b1)) (l3:(dig b1).length≤D1) (h4:Arr w Q2 (dig b2)) (l4:(dig b2).length≤D2) (k1:len32 a1≤1048576) (k2:len32 a2≤1048576) (k3:len32 b1≤1048576) (k4:len32 b2≤1048576) (z2:a2≠0) (z4:b2≠0) (X D:Nat) (hX:X = a1 * b1) (hD:D = a2 * b2) (lX:len32 X≤2097152) (lD:len32 D≤2097152) :
    Calls Tryz.prog 14 #[.agg #[.bool sa,.slice P1 (dig a1).length C1,.slice P2 (dig a2).length C2],.agg #[.bool sb,.slice Q1 (dig b1).length D1,.slice Q2 (dig b2).length D2]] w fun e w'=>∃ (vn vd:Value) (a' b':Nat) (ng:Bool),e = .returned (.agg #[.bool ng,vn,vd])∧Own w' w.heap.size vn (dig a')∧Own w' w.heap.size vd (dig b')∧(FracT X D 0 a' b'∧(X≠0→ng = (sa ^^ sb)))∧Kp w w':=by
  have hz:D≠0:=by rw [hD];exact Nat.mul_ne_zero z2 z4
  obtain ⟨E1,g1⟩:∃ E,E = (dig a1).length:=⟨_,rfl⟩
  obtain ⟨E2,g2⟩:∃ E,E = (dig a2).length:=⟨_,rfl⟩
  obtain ⟨E3,g3⟩:∃ E,E = (dig b1).length:=⟨_,rfl⟩
  obtain ⟨E4,g4⟩:∃ E,E = (dig b2).length:=⟨_,rfl⟩
  rw [← g1,← g2,← g3,← g4]
  obtain ⟨B,hB⟩:∃ B,B = w.heap.size:=⟨_,rfl⟩
  obtain ⟨wA,hwA⟩:∃ wA,wA = w.alloc (.cells #[.bool sa,.slice P1 E1 C1,.slice P2 E2 C2] 27):=⟨_,rfl⟩
  obtain ⟨wB,hwB⟩:∃ wB,wB = wA.alloc (.cells #[.bool sb,.slice Q1 E3 D1,.slice Q2 E4 D2] 27):=⟨_,rfl⟩
  obtain ⟨w0,hw0⟩:∃ w0,w0 = wB.alloc (.cells #[.bool false,.slice none 0 0,.slice none 0 0] 27):=⟨_,rfl⟩
  have sA:wA.heap.size = B + 1:=by rw [hwA,hB];simp
  have sB:wB.heap.size = B + 2:=by rw [hwB];simp [sA]
  have kAB:Kp wA wB:=by rw [hwB];exact (Kp.refl wA).alloc _
  have x0:wB.cell? ⟨B,0,none⟩ = some (.bool sa):=kkeep kAB (by rw [hwA,hB];simp [go_sem])
  have x1:wB.cell? ⟨B,1,none⟩ = some (.slice P1 E1 C1):=kkeep kAB (by rw [hwA,hB];simp [go_sem])
  have x2:wB.cell? ⟨B,2,none⟩ = some (.slice P2 E2 C2):=kkeep kAB (by rw [hwA,hB];simp [go_sem])
  have y0:wB.cell? ⟨B + 1,0,none⟩ = some (.bool sb):=by rw [hwB,← sA];simp [go_sem]
  have y1:wB.cell? ⟨B + 1,1,none⟩ = some (.slice Q1 E3 D1):=by rw [hwB,← sA];simp [go_sem]
  have y2:wB.cell? ⟨B + 1,2,none⟩ = some (.slice Q2 E4 D2):=by rw [hwB,← sA];simp [go_sem]
  have r0:w0.cell? ⟨B + 2,0,none⟩ = some (.bool false):=by rw [hw0,← sB];simp [go_sem]
  have r1:w0.cell? ⟨B + 2,1,none⟩ = some (.slice none 0 0):=by rw [hw0,← sB];simp [go_sem]
  have r2:w0.cell? ⟨B + 2,2,none⟩ = some (.slice none 0 0):=by rw [hw0,← sB];simp [go_sem]
  have f0:w0.frozen? ⟨B + 2,0,none⟩ = false:=by rw [hw0,← sB];simp [go_sem]
  have f1:w0.frozen? ⟨B + 2,1,none⟩ = false:=by rw [hw0,← sB];simp [go_sem]
  have f2:w0.frozen? ⟨B + 2,2,none⟩ = false:=by rw [hw0,← sB];simp [go_sem]
  have kw:Kp w w0:=by rw [hw0,hwB,hwA];exact (((Kp.refl w).alloc _).alloc _).alloc _
  have kS:Kp wB w0:=by rw [hw0];exact (Kp.refl wB).alloc _
  have kD:Kp wB w0.drew:=kS.drew
  have hge:wB.heap.size≤(⟨B + 2,0,none⟩:Addr).block:=by simp only;omega
  have hlt:=cell_lt r0
  have HP1:Hid (∀ W:World,Kp w0 W→Calls Tryz.prog 36 #[.slice P1 E1 C1,.slice Q1 E3 D1] W fun e w'=>∃ p c,e = .returned (.slice p (dig X).length c)∧Arr w' p (dig X)∧(dig X).length≤c∧Kp W w'):=by
    show ∀ W:World,Kp w0 W→Calls Tryz.prog 36 #[.slice P1 E1 C1,.slice Q1 E3 D1] W fun e w'=>∃ p c,e = .returned (.slice p (dig X).length c)∧Arr w' p (dig X)∧(dig X).length≤c∧Kp W w'
    intro W k
    rw [hX];exact timesW _ _ a1 b1 W ⟨P1,C1,by rw [g1],h1.grown (kw.trans k),l1⟩ ⟨Q1,D1,by rw [g3],h3.grown (kw.trans k),l3⟩ (by omega) (by omega)
  have HP2:Hid (∀ W:World,Kp w0 W→Calls Tryz.prog 36 #[.slice P2 E2 C2,.slice Q2 E4 D2] W fun e w'=>∃ p c,e = .returned (.slice p (dig D).length c)∧Arr w' p (dig D)∧(dig D).length≤c∧Kp W w'):=by
    show ∀ W:World,Kp w0 W→Calls Tryz.prog 36 #[.slice P2 E2 C2,.slice Q2 E4 D2] W fun e w'=>∃ p c,e = .returned (.slice p (dig D).length c)∧Arr w' p (dig D)∧(dig D).length≤c∧Kp W w'
    intro W k
    rw [hD];exact timesW _ _ a2 b2 W ⟨P2,C2,by rw [g2],h2.grown (kw.trans k),l2⟩ ⟨Q2,D2,by rw [g4],h4.grown (kw.trans k),l4⟩ (by omega) (by omega)
  obtain ⟨NX,hNX⟩:∃ N,N = (dig X).length:=⟨_,rfl⟩
  obtain ⟨ND,hND⟩:∃ N,N = (dig D).length:=⟨_,rfl⟩
  obtain ⟨st,hst⟩:∃ st,st = (sa ^^ sb):=⟨_,rfl⟩
  have hst2:(sa != sb) = st:=by rw [hst]
  have hst3:(!decide (sa = sb)) = st:=by rw [hst];cases sa <;> cases sb <;> rfl
  have hst4:(!(sa == sb)) = st:=by rw [hst];cases sa <;> cases sb <;> rfl
  have HFR:Hid (∀ (p:Option Addr) (c:Nat) (q:Option Addr) (d:Nat) (W:World),Kp w0 W→Arr W p (dig X)→(dig X).length≤c→Arr W q (dig D)→(dig D).length≤d→Calls Tryz.prog 27 #[.bool st,.slice p (dig X).length c,.slice q (dig D).length d,.int .i64 0] W fun e w'=>∃ (vn vd:Value) (a' b':Nat) (ng:Bool),e = .returned (.agg #[.bool ng,vn,vd])∧Own w' W.heap.size vn (dig a')∧Own w' W.heap.size vd (dig b')∧(FracT X D 0 a' b'∧(X≠0→ng = st))∧Kp W w'):=by
    show ∀ (p:Option Addr) (c:Nat) (q:Option Addr) (d:Nat) (W:World),Kp w0 W→Arr W p (dig X)→(dig X).length≤c→Arr W q (dig D)→(dig D).length≤d→Calls Tryz.prog 27 #[.bool st,.slice p (dig X).length c,.slice q (dig D).length d,.int .i64 0] W fun e w'=>∃ (vn vd:Value) (a' b':Nat) (ng:Bool),e = .returned (.agg #[.bool ng,vn,vd])∧Own w' W.heap.size vn (dig a')∧Own w' W.heap.size vd (dig b')∧(FracT X D 0 a' b'∧(X≠0→ng = st))∧Kp W w'
    intro p c q d W kk ar ll ar' ll'
    have g:=fracB_ st (.slice p (dig X).length c) (.slice q (dig D).length d) (dig X) (dig D) 0 W ⟨p,c,rfl,ar,ll⟩ ⟨q,d,rfl,ar',ll'⟩ (Wd_dig _) (Wd_dig _) (by change len32 _≤_;omega) (by change len32 _≤_;omega) (by rw [val_dig];exact hz) (by decide)
    rw [val_dig,val_dig] at g
    exact g
  rw [← hNX,← hND] at HFR
  rw [← hNX] at HP1
  rw [← hND] at HP2
  rw [← hst]
  have HW:Hid (w0 = wB.alloc (.cells #[.bool false,.slice none 0 0,.slice none 0 0] 27)∧wB = wA.alloc (.cells #[.bool sb,.slice Q1 E3 D1,.slice Q2 E4 D2] 27)∧wA = w.alloc (.cells #[.bool sa,.slice P1 E1 C1,.slice P2 E2 C2] 27)∧B = w.heap.size∧Kp w w0):=⟨hw0,hwB,hwA,hB,kw⟩
  clear hNX hND hst hw0 hwB hwA hB sA sB kw kAB h1 l1 h2 l2 h3 l3 h4 l4 k1 k2 k3 k4 z2 z4 hX hD hz lX lD g1 g2 g3 g4
  go_enter Tryz.func14,Tryz.ntmps14
  go_upto_region 1 with fail
  rw [← HW.out.2.2.2.1]
  try rw [← HW.out.2.2.1]
  try rw [← HW.out.2.1]
  try rw [← HW.out.1]
  go_region_held3 (fun w'=>w'.cell? ⟨B,0,none⟩ = some (.bool sa)∧w'.cell? ⟨B,1,none⟩ = some (.slice P1 E1 C1)∧w'.cell? ⟨B,2,none⟩ = some (.slice P2 E2 C2)∧w'.cell? ⟨B + 1,0,none⟩ = some (.bool sb)∧w'.cell? ⟨B + 1,1,none⟩ = some (.slice Q1 E3 D1)∧w'.cell? ⟨B + 1,2,none⟩ = some (.slice Q2 E4 D2)) (refine ⟨kkeep (W:=wB) ?_ x0,kkeep (W:=wB) ?_ x1,kkeep (W:=wB) ?_ x2,kkeep (W:=wB) ?_ y0,kkeep (W:=wB) ?_ y1,kkeep (W:=wB) ?_ y2⟩ <;> ((repeat (first | with_reducible exact kC | with_reducible exact kB | with_reducible exact kA | with_reducible exact kS | with_reducible exact kD | with_reducible exact Kp.refl _ | with_reducible refine Kp.drew ?_ | refine Kp.setCell ?_ hge _));done)) (first | (go_at_call 27;have hh:=ar2;refine (HFR.out pp cc pq cq _ ?q1 ?q2 ll1 ?q3 ll2).mono ?_;(case q1=>((repeat (first | with_reducible exact kk2 | with_reducible exact kk1 | with_reducible exact Kp.refl _ | with_reducible refine Kp.drew ?_));done));(case q2=>exact ar1.grown k12);(case q3=>exact ar2);rintro e v3 ⟨vn,vd,a',b',ng,rfl,o1,o2,ff,k23⟩;have kk3:Kp w0 v3:=Kp.trans ?q4 k23;(case q4=>((repeat (first | with_reducible exact kk2 | with_reducible exact kk1 | with_reducible exact Kp.refl _ | with_reducible refine Kp.drew ?_));done));have kC:Kp wB v3:=kS.trans kk3;obtain ⟨pn,cn,rfl,an,ln⟩:=o1.arr;obtain ⟨pd,cd,rfl,ad,ld⟩:=o2.arr;have R0:=kkeep kk3 r0;have R1:=kkeep kk3 r1;have R2:=kkeep kk3 r2;have F0:=(kfro kk3 hlt).trans f0;have F1:=(kfro kk3 hlt).trans f1;have F2:=(kfro kk3 hlt).trans f2) | (go_at_call 36;have hh:=ar1;refine (HP2.out _ ?q5).mono ?_;(case q5=>((repeat (first | with_reducible exact kk2 | with_reducible exact kk1 | with_reducible exact Kp.refl _ | with_reducible refine Kp.drew ?_));done));rintro e v2 ⟨pq,cq,rfl,ar2,ll2,k12⟩;have kk2:Kp w0 v2:=Kp.trans ?q7 k12;(case q7=>((repeat (first | with_reducible exact kk2 | with_reducible exact kk1 | with_reducible exact Kp.refl _ | with_reducible refine Kp.drew ?_));done));have kB:Kp wB v2:=kS.trans kk2) | (go_at_call 36;refine (HP1.out _ ?q8).mono ?_;(case q8=>((repeat (first | with_reducible exact kk2 | with_reducible exact kk1 | with_reducible exact Kp.refl _ | with_reducible refine Kp.drew ?_));done));rintro e v1 ⟨pp,cc,rfl,ar1,ll1,k01⟩;have kk1:Kp w0 v1:=Kp.trans ?q10 k01;(case q10=>((repeat (first | with_reducible exact kk2 | with_reducible exact kk1 | with_reducible exact Kp.refl _ | with_reducible refine Kp.drew ?_));done));have kA:Kp wB v1:=kS.trans kk1))
  have hs1:=Below.size kk2
  obtain ⟨wz,hwz⟩:∃ wz,wz = ((v3.setCell ⟨B + 2,0,none⟩ (.bool ng)).setCell ⟨B + 2,1,none⟩ (.slice pn (dig a').length cn)).setCell ⟨B + 2,2,none⟩ (.slice pd (dig b').length cd):=⟨_,rfl⟩
  have kb:Kb (B + 2) v3 wz:=by rw [hwz];exact (((Kb.refl (B + 2) v3).setCell 0 _).setCell 1 _).setCell 2 _
  have O1:=o1.kb kb (fun g hg=>by have:=o1.lt g hg;omega)
  have O2:=o2.kb kb (fun g hg=>by have:=o2.lt g hg;omega)
  have hkw:Kp w wz:=kb.kp (HW.out.2.2.2.2.trans kk3) (by rw [HW.out.2.2.2.1];omega)
  have HO:Hid (Own wz w.heap.size (.slice pn (dig a').length cn) (dig a')∧Own wz w.heap.size (.slice pd (dig b').length cd) (dig b')∧(FracT X D 0 a' b'∧(X≠0→ng = st))∧Kp w wz∧wz = ((v3.setCell ⟨B + 2,0,none⟩ (.bool ng)).setCell ⟨B + 2,1,none⟩ (.slice pn (dig a').length cn)).setCell ⟨B + 2,2,none⟩ (.slice pd (dig b').length cd)):=⟨O1.mono (by have e9:=HW.out.2.2.2.1;first | omega | exact Nat.le_trans (show w.heap.size≤v1.heap.size by omega) (Nat.le_refl _)),O2.mono (by have e9:=HW.out.2.2.2.1;first | omega | exact Nat.le_trans (show w.heap.size≤v1.heap.size by omega) (Nat.le_refl _)),ff,hkw,hwz⟩
  clear hs1 hwz kb O1 O2 hkw o1 o2 ff k23 kk3 kC an ln ad ld kk2 k12 kB ar2 ll2 kk1 k01 kA ar1 ll1 HP1 HP2 HFR kS kD hge
  go_wp2
  obtain ⟨q1,q2,q3,q4,q5⟩:=HO.out
  rw [q5] at q1 q2 q4
  exact bodyPost_ret (v:=.agg #[.bool ng,.slice pn (dig a').length cn,.slice pd (dig b').length cd]) (by simp [results,Tryz.results14,go_sem,R0,R1,R2]) rfl ⟨_,_,a',b',ng,rfl,q1,q2,q3,q4⟩
set_option linter.unusedVariables false
set_option linter.unusedSimpArgs false
theorem frac_ratio (x D a b:Nat) (hD:D≠0) (hF:FracOf x D 0 a b):a * D = x * b:=by
  have hb:=hF.1
  by_cases c0:x = 0
  · rw [hF.2.1.2 c0,c0,Nat.zero_mul,Nat.zero_mul]
  · have hfl:∀ t:Nat,a * 2 ^ t / b = x * 2 ^ t / D:=fun t=>by
      have h:=hF.2.2.1 (-1) (blen (a * 2 ^ t / b) + blen (x * 2 ^ t / D)) (t:Int) c0
      unfold rV at h
      rw [show ((t:Int)).toNat = t from by omega,show (-(t:Int)).toNat = 0 from by omega,show ((t:Int) + 0).toNat = t from by omega,show (-((t:Int) + 0)).toNat = 0 from by omega,Nat.pow_zero,Nat.mul_one,Nat.mul_one,rU_floor _ _ _ (by omega),rU_floor _ _ _ (by omega)] at h
      exact h
    obtain ⟨t,ht⟩:∃ t,b * D < 2 ^ t:=⟨b * D,Nat.lt_two_pow_self⟩
    have h:=hfl t
    obtain ⟨f,hf⟩:∃ f,f = a * 2 ^ t / b:=⟨_,rfl⟩
    have f1:f * b≤a * 2 ^ t:=by rw [hf];exact Nat.div_mul_le_self _ _
    have f2:a * 2 ^ t < (f + 1) * b:=by rw [hf];exact Nat.lt_mul_of_div_lt (Nat.lt_succ_self _) (by omega)
    have f3:f * D≤x * 2 ^ t:=by rw [hf,h];exact Nat.div_mul_le_self _ _
    have f4:x * 2 ^ t < (f + 1) * D:=by rw [hf,h];exact Nat.lt_mul_of_div_lt (Nat.lt_succ_self _) (by omega)
    have g1:=Nat.mul_le_mul_right D f1
    have g2:=Nat.mul_lt_mul_of_pos_right f2 (show 0 < D by omega)
    have g3:=Nat.mul_le_mul_right b f3
    have g4:=Nat.mul_lt_mul_of_pos_right f4 (show 0 < b by omega)
    rw [show f * b * D = f * (b * D) from Nat.mul_assoc _ _ _,show a * 2 ^ t * D = a * D * 2 ^ t from Nat.mul_right_comm _ _ _] at g1
    rw [show (f + 1) * b * D = f * (b * D) + b * D from by rw [Nat.mul_assoc,Nat.add_mul,Nat.one_mul],show a * 2 ^ t * D = a * D * 2 ^ t from Nat.mul_right_comm _ _ _] at g2
    rw [show f * D * b = f * (b * D) from by rw [Nat.mul_assoc,Nat.mul_comm D b],show x * 2 ^ t * b = x * b * 2 ^ t from Nat.mul_right_comm _ _ _] at g3
    rw [show (f + 1) * D * b = f * (b * D) + b * D from by rw [Nat.mul_assoc,Nat.mul_comm D b,Nat.add_mul,Nat.one_mul],show x * 2 ^ t * b = x * b * 2 ^ t from Nat.mul_right_comm _ _ _] at g4
    rcases Nat.lt_trichotomy (a * D) (x * b) with c | c | c
    · exfalso
      have h5:=Nat.mul_le_mul_right (2 ^ t) (show a * D + 1≤x * b from c)
      rw [Nat.add_mul,Nat.one_mul] at h5
      omega
    · exact c
    · exfalso
      have h5:=Nat.mul_le_mul_right (2 ^ t) (show x * b + 1≤a * D from c)
      rw [Nat.add_mul,Nat.one_mul] at h5
      omega

set_option linter.unusedVariables false
def XF (s:Bool) (a b:Nat) (V:Int) (C N:Nat):Prop:=b≠0∧C≠0∧rvI s a * (C:Int) = V * (b:Int)∧blen a≤N∧blen b≤N
def XP (base:Nat) (w:World) (s:Bool) (p:Option Addr) (l c:Nat) (q:Option Addr) (k d:Nat) (V:Int) (C N:Nat):Prop:=∃ a b,Own w base (.slice p l c) (dig a)∧Own w base (.slice q k d) (dig b)∧XF s a b V C N
theorem XP.kp {base:Nat} {w:World} {s:Bool} {p:Option Addr} {l c:Nat} {q:Option Addr} {k d:Nat} {V:Int} {C N:Nat} {w':World} (h:XP base w s p l c q k d V C N) (g:Kp w w'):XP base w' s p l c q k d V C N:=by
  obtain ⟨a,b,h1,h2,h3⟩:=h
  exact ⟨a,b,h1.kp g,h2.kp g,h3⟩
theorem XP.mono {base:Nat} {w:World} {s:Bool} {p:Option Addr} {l c:Nat} {q:Option Addr} {k d:Nat} {V:Int} {C N:Nat} {base':Nat} (h:XP base w s p l c q k d V C N) (g:base'≤base):XP base' w s p l c q k d V C N:=by
  obtain ⟨a,b,h1,h2,h3⟩:=h
  exact ⟨a,b,h1.mono g,h2.mono g,h3⟩
theorem XP.set {base:Nat} {w:World} {s:Bool} {p:Option Addr} {l c:Nat} {q:Option Addr} {k d:Nat} {V:Int} {C N:Nat} (h:XP base w s p l c q k d V C N) {x:Addr} (hx:x.block < base) (u:Value):XP base (w.setCell x u) s p l c q k d V C N:=by
  obtain ⟨a,b,h1,h2,h3⟩:=h
  exact ⟨a,b,h1.setOther hx u,h2.setOther hx u,h3⟩
theorem XP.as {base:Nat} {w:World} {s:Bool} {p:Option Addr} {l c:Nat} {q:Option Addr} {k d:Nat} {V:Int} {C N:Nat} (h:XP base w s p l c q k d V C N) (V2:Int) (C2 N2:Nat) (hc:C2≠0) (e:V * (C2:Int) = V2 * (C:Int)) (hN:N≤N2):XP base w s p l c q k d V2 C2 N2:=by
  obtain ⟨a,b,h1,h2,f1,f2,f3,f4,f5⟩:=h
  refine ⟨a,b,h1,h2,f1,hc, ?_,by omega,by omega⟩
  refine Int.eq_of_mul_eq_mul_right (show (C:Int)≠0 by omega) ?_
  have e1:rvI s a * (C2:Int) * (C:Int) = rvI s a * (C:Int) * (C2:Int):=by ac_rfl
  have e2:V2 * (b:Int) * (C:Int) = V2 * (C:Int) * (b:Int):=by ac_rfl
  rw [e1,f3,e2,← e];ac_rfl
theorem rvI_mul (s:Bool) (a b:Nat):rvI s (a * b) = rvI s a * (b:Int):=by
  unfold rvI;cases s
  · rw [if_neg (by decide),if_neg (by decide),Int.natCast_mul]
  · rw [if_pos rfl,if_pos rfl,Int.natCast_mul,Int.neg_mul]
theorem rvI_mul2 (s s':Bool) (a b:Nat):rvI (s ^^ s') (a * b) = rvI s a * rvI s' b:=by
  unfold rvI;cases s <;> cases s' <;> simp [Int.neg_mul,Int.mul_neg]
theorem frac_x (x D a' b':Nat) (ng neg:Bool) (hD:D≠0) (hF:FracOf x D 0 a' b') (hn:x≠0→ng = neg):rvI ng a' * (D:Int) = rvI neg x * (b':Int):=by
  have h:=frac_ratio x D a' b' hD hF
  by_cases z:x = 0
  · have z':=hF.2.1.2 z
    rw [z,z'];unfold rvI;simp
  · rw [hn z,← rvI_mul,← rvI_mul,h]
theorem blen_mulX (u v N1 N2:Nat) (h1:blen u≤N1) (h2:blen v≤N2):blen (u * v)≤N1 + N2:=by
  rw [blen_le_iff,Nat.pow_add]
  exact Nat.mul_lt_mul'' ((blen_le_iff u N1).1 h1) ((blen_le_iff v N2).1 h2)
theorem XF.add (s s' ng:Bool) (a1 a2 b1 b2 a' b':Nat) (V V':Int) (C C' N N' M:Nat) (h1:XF s a1 a2 V C N) (h2:XF s' b1 b2 V' C' N') (hb:b'≠0) (h:rvI ng a' * ((a2:Int) * (b2:Int)) = (rvI s a1 * (b2:Int) + rvI s' b1 * (a2:Int)) * (b':Int)) (m1:blen a'≤M) (m2:blen b'≤M):XF ng a' b' (V * (C':Int) + V' * (C:Int)) (C * C') M:=by
  obtain ⟨za,zc,i1,-,-⟩:=h1
  obtain ⟨zb,zc',i2,-,-⟩:=h2
  refine ⟨hb,Nat.mul_ne_zero zc zc', ?_,m1,m2⟩
  have pn:(a2:Int) * (b2:Int)≠0:=by have:(0:Int) < (a2:Int) * (b2:Int):=Int.mul_pos (by omega) (by omega);omega
  refine Int.eq_of_mul_eq_mul_right pn ?_
  rw [Int.natCast_mul]
  have e1:rvI ng a' * ((C:Int) * (C':Int)) * ((a2:Int) * (b2:Int)) = rvI ng a' * ((a2:Int) * (b2:Int)) * ((C:Int) * (C':Int)):=by ac_rfl
  rw [e1,h]
  simp only [Int.add_mul]
  have e2:rvI s a1 * (b2:Int) * (b':Int) * ((C:Int) * (C':Int)) = rvI s a1 * (C:Int) * ((b2:Int) * (b':Int) * (C':Int)):=by ac_rfl
  have e3:rvI s' b1 * (a2:Int) * (b':Int) * ((C:Int) * (C':Int)) = rvI s' b1 * (C':Int) * ((a2:Int) * (b':Int) * (C:Int)):=by ac_rfl
  rw [e2,e3,i1,i2]
  have e4:V * (a2:Int) * ((b2:Int) * (b':Int) * (C':Int)) = V * (C':Int) * (b':Int) * ((a2:Int) * (b2:Int)):=by ac_rfl
  have e5:V' * (b2:Int) * ((a2:Int) * (b':Int) * (C:Int)) = V' * (C:Int) * (b':Int) * ((a2:Int) * (b2:Int)):=by ac_rfl
  rw [e4,e5]
theorem XF.mul (s s' ng:Bool) (a1 a2 b1 b2 a' b':Nat) (V V':Int) (C C' N N' M:Nat) (h1:XF s a1 a2 V C N) (h2:XF s' b1 b2 V' C' N') (hb:b'≠0) (h:rvI ng a' * ((a2:Int) * (b2:Int)) = rvI s a1 * rvI s' b1 * (b':Int)) (m1:blen a'≤M) (m2:blen b'≤M):XF ng a' b' (V * V') (C * C') M:=by
  obtain ⟨za,zc,i1,-,-⟩:=h1
  obtain ⟨zb,zc',i2,-,-⟩:=h2
  refine ⟨hb,Nat.mul_ne_zero zc zc', ?_,m1,m2⟩
  have pn:(a2:Int) * (b2:Int)≠0:=by have:(0:Int) < (a2:Int) * (b2:Int):=Int.mul_pos (by omega) (by omega);omega
  refine Int.eq_of_mul_eq_mul_right pn ?_
  rw [Int.natCast_mul]
  have e1:rvI ng a' * ((C:Int) * (C':Int)) * ((a2:Int) * (b2:Int)) = rvI ng a' * ((a2:Int) * (b2:Int)) * ((C:Int) * (C':Int)):=by ac_rfl
  have e2:rvI s a1 * rvI s' b1 * (b':Int) * ((C:Int) * (C':Int)) = rvI s a1 * (C:Int) * (rvI s' b1 * (C':Int)) * (b':Int):=by ac_rfl
  rw [e1,h,e2,i1,i2];ac_rfl
theorem xmulB_ (V:Int) (V':Int) (C C' N N':Nat) (hN:N≤33554432∧N'≤33554432) s p l c q k d s2 p2 l2 c2 q2 k2 d2 (B1 B2:Nat) (w:World) (h1:XP B1 w s p l c q k d V C N) (h2:XP B2 w s2 p2 l2 c2 q2 k2 d2 (V') C' N'):Calls Tryz.prog 14 #[.agg #[.bool s,.slice p l c,.slice q k d],.agg #[.bool s2,.slice p2 l2 c2,.slice q2 k2 d2]] w fun e w'=>∃ s3 p3 l3 c3 q3 k3 d3,e = .returned (.agg #[.bool s3,.slice p3 l3 c3,.slice q3 k3 d3])∧XP w.heap.size w' s3 p3 l3 c3 q3 k3 d3 (V * V') (C * C') (2 * (N + N') + 3)∧Kp w w':=by
  obtain ⟨a1,a2,u1,u2,u3⟩:=h1
  obtain ⟨b1,b2,v1,v2,v3⟩:=h2
  obtain ⟨P1,C1,e1,x1,y1⟩:=u1.arr
  obtain ⟨P2,C2,e2,x2,y2⟩:=u2.arr
  obtain ⟨Q1,D1,e3,x3,y3⟩:=v1.arr
  obtain ⟨Q2,D2,e4,x4,y4⟩:=v2.arr
  rw [e1,e2,e3,e4]
  obtain ⟨X,hX⟩:∃ X,X = a1 * b1:=⟨_,rfl⟩
  obtain ⟨D,hD⟩:∃ D,D = a2 * b2:=⟨_,rfl⟩
  have ba1:=u3.2.2.2.1
  have ba2:=u3.2.2.2.2
  have bb1:=v3.2.2.2.1
  have bb2:=v3.2.2.2.2
  have bX:blen X≤N + N':=by rw [hX];exact blen_mulX _ _ _ _ ba1 bb1
  have bD:blen D≤N + N':=by rw [hD];exact blen_mulX _ _ _ _ ba2 bb2
  have zb:=v3.1
  have hzD:D≠0:=by rw [hD];exact Nat.mul_ne_zero u3.1 zb
  refine (rmulB_ s s2 a1 a2 b1 b2 P1 P2 Q1 Q2 C1 C2 D1 D2 w x1 y1 x2 y2 x3 y3 x4 y4 (dlen a1 1048576 (by omega)) (dlen a2 1048576 (by omega)) (dlen b1 1048576 (by omega)) (dlen b2 1048576 (by omega)) u3.1 zb X D hX hD (dlen X 2097152 (by omega)) (dlen D 2097152 (by omega))).mono ?_
  rintro e w' ⟨vn,vd,a',b',ng,rfl,o1,o2,⟨hF,hn⟩,g⟩
  obtain ⟨p3,c3,rfl,-,-⟩:=o1.arr
  obtain ⟨q3,d3,rfl,-,-⟩:=o2.arr
  exact ⟨ng,p3,_,c3,q3,_,d3,rfl,⟨a',b',o1,o2,XF.mul s s2 ng a1 a2 b1 b2 a' b' V V' C C' N N' _ u3 v3 hF.1.1 (by have h:=frac_x X D a' b' ng _ hzD hF.1 hn;rw [hD,hX,Int.natCast_mul,rvI_mul2] at h;exact h) (by have g1:=hF.1.2.2.2.1;simp at g1;omega) (by have g1:=hF.1.2.2.2.2;simp at g1;omega)⟩,g⟩
end Go.Proofs.YtnileplkkmhdgaaGreatDoor
