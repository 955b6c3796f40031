import Derived.Test.YtfhcmabejagknaaGreatDoorKTQb
set_option maxHeartbeats 1000000
set_option maxRecDepth 20000
namespace Go.Proofs.YtfhcmabejagknaaGreatDoor
open Go.RowKit
theorem rmulX_ (sa sb:Bool) (a1 a2 b1 b2:Nat) (P1 P2 Q1 Q2:Option Addr) (C1 C2 D1 D2:Nat) (w:World) (h1:Arr w P1 (dig a1)) (l1:(dig a1).length≤C1) (h2:Arr w P2 (dig a2)) (l2:(dig a2).length≤C2) (h3:Arr w Q1 (dig b1)) (l3:(dig b1).length≤D1) (h4:Arr w Q2 (dig b2)) (l4:(dig b2).length≤D2) (k1:len32 a1≤4000) (k2:len32 a2≤4000) (k3:len32 b1≤4000) (k4:len32 b2≤4000) (z2:a2≠0) (z4:b2≠0) (X D:Nat) (hX:X = a1 * b1) (hD:D = a2 * b2) (lX:len32 X≤16000) (lD:len32 D≤16000) :
    Calls Tryz.prog 42 #[.agg #[.bool sa,.slice P1 (dig a1).length C1,.slice P2 (dig a2).length C2],.agg #[.bool sb,.slice Q1 (dig b1).length D1,.slice Q2 (dig b2).length D2]] w fun e w'=>∃ (vn vd:Value) (a' b':Nat) (ng:Bool),e = .returned (.agg #[.bool ng,vn,vd])∧Own w' w.heap.size vn (dig a')∧Own w' w.heap.size vd (dig b')∧(FracX X D 0 a' b'∧(X≠0→ng = (sa ^^ sb)))∧Kp w w':=by
  have hz:D≠0:=by rw [hD];exact Nat.mul_ne_zero z2 z4
  obtain ⟨E1,g1⟩:∃ E,E = (dig a1).length:=⟨_,rfl⟩
  obtain ⟨E2,g2⟩:∃ E,E = (dig a2).length:=⟨_,rfl⟩
  obtain ⟨E3,g3⟩:∃ E,E = (dig b1).length:=⟨_,rfl⟩
  obtain ⟨E4,g4⟩:∃ E,E = (dig b2).length:=⟨_,rfl⟩
  rw [← g1,← g2,← g3,← g4]
  obtain ⟨B,hB⟩:∃ B,B = w.heap.size:=⟨_,rfl⟩
  obtain ⟨wA,hwA⟩:∃ wA,wA = w.alloc (.cells #[.bool sa,.slice P1 E1 C1,.slice P2 E2 C2] 27):=⟨_,rfl⟩
  obtain ⟨wB,hwB⟩:∃ wB,wB = wA.alloc (.cells #[.bool sb,.slice Q1 E3 D1,.slice Q2 E4 D2] 27):=⟨_,rfl⟩
  obtain ⟨w0,hw0⟩:∃ w0,w0 = wB.alloc (.cells #[.bool false,.slice none 0 0,.slice none 0 0] 27):=⟨_,rfl⟩
  have sA:wA.heap.size = B + 1:=by rw [hwA,hB];simp
  have sB:wB.heap.size = B + 2:=by rw [hwB];simp [sA]
  have kAB:Kp wA wB:=by rw [hwB];exact (Kp.refl wA).alloc _
  have x0:wB.cell? ⟨B,0,none⟩ = some (.bool sa):=kkeep kAB (by rw [hwA,hB];simp [go_sem])
  have x1:wB.cell? ⟨B,1,none⟩ = some (.slice P1 E1 C1):=kkeep kAB (by rw [hwA,hB];simp [go_sem])
  have x2:wB.cell? ⟨B,2,none⟩ = some (.slice P2 E2 C2):=kkeep kAB (by rw [hwA,hB];simp [go_sem])
  have y0:wB.cell? ⟨B + 1,0,none⟩ = some (.bool sb):=by rw [hwB,← sA];simp [go_sem]
  have y1:wB.cell? ⟨B + 1,1,none⟩ = some (.slice Q1 E3 D1):=by rw [hwB,← sA];simp [go_sem]
  have y2:wB.cell? ⟨B + 1,2,none⟩ = some (.slice Q2 E4 D2):=by rw [hwB,← sA];simp [go_sem]
  have r0:w0.cell? ⟨B + 2,0,none⟩ = some (.bool false):=by rw [hw0,← sB];simp [go_sem]
  have r1:w0.cell? ⟨B + 2,1,none⟩ = some (.slice none 0 0):=by rw [hw0,← sB];simp [go_sem]
  have r2:w0.cell? ⟨B + 2,2,none⟩ = some (.slice none 0 0):=by rw [hw0,← sB];simp [go_sem]
  have f0:w0.frozen? ⟨B + 2,0,none⟩ = false:=by rw [hw0,← sB];simp [go_sem]
  have f1:w0.frozen? ⟨B + 2,1,none⟩ = false:=by rw [hw0,← sB];simp [go_sem]
  have f2:w0.frozen? ⟨B + 2,2,none⟩ = false:=by rw [hw0,← sB];simp [go_sem]
  have kw:Kp w w0:=by rw [hw0,hwB,hwA];exact (((Kp.refl w).alloc _).alloc _).alloc _
  have kS:Kp wB w0:=by rw [hw0];exact (Kp.refl wB).alloc _
  have kD:Kp wB w0.drew:=kS.drew
  have hge:wB.heap.size≤(⟨B + 2,0,none⟩:Addr).block:=by simp only;omega
  have hlt:=cell_lt r0
  have HP1:Hid (∀ W:World,Kp w0 W→Calls Tryz.prog 72 #[.slice P1 E1 C1,.slice Q1 E3 D1] W fun e w'=>∃ p c,e = .returned (.slice p (dig X).length c)∧Arr w' p (dig X)∧(dig X).length≤c∧Kp W w'):=by
    show ∀ W:World,Kp w0 W→Calls Tryz.prog 72 #[.slice P1 E1 C1,.slice Q1 E3 D1] W fun e w'=>∃ p c,e = .returned (.slice p (dig X).length c)∧Arr w' p (dig X)∧(dig X).length≤c∧Kp W w'
    intro W k
    rw [hX];exact timesR _ _ a1 b1 W ⟨P1,C1,by rw [g1],h1.grown (kw.trans k),l1⟩ ⟨Q1,D1,by rw [g3],h3.grown (kw.trans k),l3⟩ (by omega) (by omega)
  have HP2:Hid (∀ W:World,Kp w0 W→Calls Tryz.prog 72 #[.slice P2 E2 C2,.slice Q2 E4 D2] W fun e w'=>∃ p c,e = .returned (.slice p (dig D).length c)∧Arr w' p (dig D)∧(dig D).length≤c∧Kp W w'):=by
    show ∀ W:World,Kp w0 W→Calls Tryz.prog 72 #[.slice P2 E2 C2,.slice Q2 E4 D2] W fun e w'=>∃ p c,e = .returned (.slice p (dig D).length c)∧Arr w' p (dig D)∧(dig D).length≤c∧Kp W w'
    intro W k
    rw [hD];exact timesR _ _ a2 b2 W ⟨P2,C2,by rw [g2],h2.grown (kw.trans k),l2⟩ ⟨Q2,D2,by rw [g4],h4.grown (kw.trans k),l4⟩ (by omega) (by omega)
  obtain ⟨NX,hNX⟩:∃ N,N = (dig X).length:=⟨_,rfl⟩
  obtain ⟨ND,hND⟩:∃ N,N = (dig D).length:=⟨_,rfl⟩
  obtain ⟨st,hst⟩:∃ st,st = (sa ^^ sb):=⟨_,rfl⟩
  have hst2:(sa != sb) = st:=by rw [hst]
  have hst3:(!decide (sa = sb)) = st:=by rw [hst];cases sa <;> cases sb <;> rfl
  have hst4:(!(sa == sb)) = st:=by rw [hst];cases sa <;> cases sb <;> rfl
  have HFR:Hid (∀ (p:Option Addr) (c:Nat) (q:Option Addr) (d:Nat) (W:World),Kp w0 W→Arr W p (dig X)→(dig X).length≤c→Arr W q (dig D)→(dig D).length≤d→Calls Tryz.prog 61 #[.bool st,.slice p (dig X).length c,.slice q (dig D).length d,.int .i64 0] W fun e w'=>∃ (vn vd:Value) (a' b':Nat) (ng:Bool),e = .returned (.agg #[.bool ng,vn,vd])∧Own w' W.heap.size vn (dig a')∧Own w' W.heap.size vd (dig b')∧(FracX X D 0 a' b'∧(X≠0→ng = st))∧Kp W w'):=by
    show ∀ (p:Option Addr) (c:Nat) (q:Option Addr) (d:Nat) (W:World),Kp w0 W→Arr W p (dig X)→(dig X).length≤c→Arr W q (dig D)→(dig D).length≤d→Calls Tryz.prog 61 #[.bool st,.slice p (dig X).length c,.slice q (dig D).length d,.int .i64 0] W fun e w'=>∃ (vn vd:Value) (a' b':Nat) (ng:Bool),e = .returned (.agg #[.bool ng,vn,vd])∧Own w' W.heap.size vn (dig a')∧Own w' W.heap.size vd (dig b')∧(FracX X D 0 a' b'∧(X≠0→ng = st))∧Kp W w'
    intro p c q d W kk ar ll ar' ll'
    have g:=fracX_ st (.slice p (dig X).length c) (.slice q (dig D).length d) (dig X) (dig D) 0 W ⟨p,c,rfl,ar,ll⟩ ⟨q,d,rfl,ar',ll'⟩ (Wd_dig _) (Wd_dig _) (by change len32 _≤_;omega) (by change len32 _≤_;omega) (by rw [val_dig];exact hz) (by decide)
    rw [val_dig,val_dig] at g
    exact g
  rw [← hNX,← hND] at HFR
  rw [← hNX] at HP1
  rw [← hND] at HP2
  rw [← hst]
  have HW:Hid (w0 = wB.alloc (.cells #[.bool false,.slice none 0 0,.slice none 0 0] 27)∧wB = wA.alloc (.cells #[.bool sb,.slice Q1 E3 D1,.slice Q2 E4 D2] 27)∧wA = w.alloc (.cells #[.bool sa,.slice P1 E1 C1,.slice P2 E2 C2] 27)∧B = w.heap.size∧Kp w w0):=⟨hw0,hwB,hwA,hB,kw⟩
  clear hNX hND hst hw0 hwB hwA hB sA sB kw kAB h1 l1 h2 l2 h3 l3 h4 l4 k1 k2 k3 k4 z2 z4 hX hD hz lX lD g1 g2 g3 g4
  go_enter Tryz.func42,Tryz.ntmps42
  go_upto_region 1 with fail
  rw [← HW.out.2.2.2.1]
  try rw [← HW.out.2.2.1]
  try rw [← HW.out.2.1]
  try rw [← HW.out.1]
  go_region_held3 (fun w'=>w'.cell? ⟨B,0,none⟩ = some (.bool sa)∧w'.cell? ⟨B,1,none⟩ = some (.slice P1 E1 C1)∧w'.cell? ⟨B,2,none⟩ = some (.slice P2 E2 C2)∧w'.cell? ⟨B + 1,0,none⟩ = some (.bool sb)∧w'.cell? ⟨B + 1,1,none⟩ = some (.slice Q1 E3 D1)∧w'.cell? ⟨B + 1,2,none⟩ = some (.slice Q2 E4 D2)) (refine ⟨kkeep (W:=wB) ?_ x0,kkeep (W:=wB) ?_ x1,kkeep (W:=wB) ?_ x2,kkeep (W:=wB) ?_ y0,kkeep (W:=wB) ?_ y1,kkeep (W:=wB) ?_ y2⟩ <;> ((repeat (first | with_reducible exact kC | with_reducible exact kB | with_reducible exact kA | with_reducible exact kS | with_reducible exact kD | with_reducible exact Kp.refl _ | with_reducible refine Kp.drew ?_ | refine Kp.setCell ?_ hge _));done)) (first | (go_at_call 61;have hh:=ar2;refine (HFR.out pp cc pq cq _ ?q1 ?q2 ll1 ?q3 ll2).mono ?_;(case q1=>((repeat (first | with_reducible exact kk2 | with_reducible exact kk1 | with_reducible exact Kp.refl _ | with_reducible refine Kp.drew ?_));done));(case q2=>exact ar1.grown k12);(case q3=>exact ar2);rintro e v3 ⟨vn,vd,a',b',ng,rfl,o1,o2,ff,k23⟩;have kk3:Kp w0 v3:=Kp.trans ?q4 k23;(case q4=>((repeat (first | with_reducible exact kk2 | with_reducible exact kk1 | with_reducible exact Kp.refl _ | with_reducible refine Kp.drew ?_));done));have kC:Kp wB v3:=kS.trans kk3;obtain ⟨pn,cn,rfl,an,ln⟩:=o1.arr;obtain ⟨pd,cd,rfl,ad,ld⟩:=o2.arr;have R0:=kkeep kk3 r0;have R1:=kkeep kk3 r1;have R2:=kkeep kk3 r2;have F0:=(kfro kk3 hlt).trans f0;have F1:=(kfro kk3 hlt).trans f1;have F2:=(kfro kk3 hlt).trans f2) | (go_at_call 72;have hh:=ar1;refine (HP2.out _ ?q5).mono ?_;(case q5=>((repeat (first | with_reducible exact kk2 | with_reducible exact kk1 | with_reducible exact Kp.refl _ | with_reducible refine Kp.drew ?_));done));rintro e v2 ⟨pq,cq,rfl,ar2,ll2,k12⟩;have kk2:Kp w0 v2:=Kp.trans ?q7 k12;(case q7=>((repeat (first | with_reducible exact kk2 | with_reducible exact kk1 | with_reducible exact Kp.refl _ | with_reducible refine Kp.drew ?_));done));have kB:Kp wB v2:=kS.trans kk2) | (go_at_call 72;refine (HP1.out _ ?q8).mono ?_;(case q8=>((repeat (first | with_reducible exact kk2 | with_reducible exact kk1 | with_reducible exact Kp.refl _ | with_reducible refine Kp.drew ?_));done));rintro e v1 ⟨pp,cc,rfl,ar1,ll1,k01⟩;have kk1:Kp w0 v1:=Kp.trans ?q10 k01;(case q10=>((repeat (first | with_reducible exact kk2 | with_reducible exact kk1 | with_reducible exact Kp.refl _ | with_reducible refine Kp.drew ?_));done));have kA:Kp wB v1:=kS.trans kk1))
  have hs1:=Below.size kk2
  obtain ⟨wz,hwz⟩:∃ wz,wz = ((v3.setCell ⟨B + 2,0,none⟩ (.bool ng)).setCell ⟨B + 2,1,none⟩ (.slice pn (dig a').length cn)).setCell ⟨B + 2,2,none⟩ (.slice pd (dig b').length cd):=⟨_,rfl⟩
  have kb:Kb (B + 2) v3 wz:=by rw [hwz];exact (((Kb.refl (B + 2) v3).setCell 0 _).setCell 1 _).setCell 2 _
  have O1:=o1.kb kb (fun g hg=>by have:=o1.lt g hg;omega)
  have O2:=o2.kb kb (fun g hg=>by have:=o2.lt g hg;omega)
  have hkw:Kp w wz:=kb.kp (HW.out.2.2.2.2.trans kk3) (by rw [HW.out.2.2.2.1];omega)
  have HO:Hid (Own wz w.heap.size (.slice pn (dig a').length cn) (dig a')∧Own wz w.heap.size (.slice pd (dig b').length cd) (dig b')∧(FracX X D 0 a' b'∧(X≠0→ng = st))∧Kp w wz∧wz = ((v3.setCell ⟨B + 2,0,none⟩ (.bool ng)).setCell ⟨B + 2,1,none⟩ (.slice pn (dig a').length cn)).setCell ⟨B + 2,2,none⟩ (.slice pd (dig b').length cd)):=⟨O1.mono (by have e9:=HW.out.2.2.2.1;first | omega | exact Nat.le_trans (show w.heap.size≤v1.heap.size by omega) (Nat.le_refl _)),O2.mono (by have e9:=HW.out.2.2.2.1;first | omega | exact Nat.le_trans (show w.heap.size≤v1.heap.size by omega) (Nat.le_refl _)),ff,hkw,hwz⟩
  clear hs1 hwz kb O1 O2 hkw o1 o2 ff k23 kk3 kC an ln ad ld kk2 k12 kB ar2 ll2 kk1 k01 kA ar1 ll1 HP1 HP2 HFR kS kD hge
  go_wp2
  obtain ⟨q1,q2,q3,q4,q5⟩:=HO.out
  rw [q5] at q1 q2 q4
  exact bodyPost_ret (v:=.agg #[.bool ng,.slice pn (dig a').length cn,.slice pd (dig b').length cd]) (by simp [results,Tryz.results42,go_sem,R0,R1,R2]) rfl ⟨_,_,a',b',ng,rfl,q1,q2,q3,q4⟩
theorem fromBitsX_ (n:Bool) (m:Nat) (hm:m < 9218868437227405312) (w:World) :
    Calls Tryz.prog 39 #[.int .u64 ((Fb.wD n m:Nat):Int)] w fun e w'=>∃ (vn vd:Value) (a b:Nat) (ng:Bool),e = .returned (.agg #[.bool ng,vn,vd])∧Own w' w.heap.size vn (dig a)∧Own w' w.heap.size vd (dig b)∧(FracX (Fb.sgD m) 1 (Fb.epD m) a b∧(Fb.sgD m≠0→ng = n))∧Kp w w':=by
  obtain ⟨w0,hw0⟩:∃ w0,w0 = w.alloc (.cells #[.bool false,.slice none 0 0,.slice none 0 0] 27):=⟨_,rfl⟩
  have Hw0:Hid (w0 = w.alloc (.cells #[.bool false,.slice none 0 0,.slice none 0 0] 27)):=hw0
  obtain ⟨X,hX⟩:∃ X,X = Fb.wD n m:=⟨_,rfl⟩
  obtain ⟨Q,hQ⟩:∃ Q,Q = X / 4503599627370496:=⟨_,rfl⟩
  obtain ⟨eN,heN⟩:∃ eN,eN = m / 4503599627370496:=⟨_,rfl⟩
  obtain ⟨fN,hfN⟩:∃ fN,fN = m % 4503599627370496:=⟨_,rfl⟩
  obtain ⟨f2,f3,f4,b1,b2,b3⟩:=fb_bits n m X Q eN fN hm hX hQ heN hfN
  have f1:(X:Int) / 4503599627370496 = (Q:Int):=by rw [hQ];exact (Int.natCast_ediv _ _).symm
  obtain ⟨s63,hs63⟩:∃ s63:Int,s63 = if n = true then 1 else 0:=⟨_,rfl⟩
  rw [← hs63] at f4
  have hsn:(s63 == 1) = n:=by rw [hs63];cases n <;> rfl
  have hsn2:decide (s63 = 1) = n:=by rw [hs63];cases n <;> rfl
  rw [← hX]
  obtain ⟨ge,ge2⟩:=fb_e eN b1
  clear hX hQ hs63 b3
  by_cases ce:eN = 0
  · obtain ⟨f,hf⟩:∃ f,f = fN:=⟨_,rfl⟩
    obtain ⟨x,hx⟩:∃ x:Int,x = -1074:=⟨_,rfl⟩
    have hse:=sgep0 m (by rw [← heN];exact ce)
    rw [← hfN,← hf,← hx] at hse
    have HS:Hid (Fb.sgD m = f∧Fb.epD m = x):=hse
    have hbf:f < 18446744073709551616:=by rw [hf];exact Nat.lt_trans b2 (by decide)
    have hbx:x.natAbs≤4096:=by rw [hx];decide
    have HF:Hid (f < 18446744073709551616∧blen f≤64∧x.natAbs≤1048576):=small64 f x hbf hbx
    clear hse hbf hbx
    have HXX:Hid (x = -1074):=hx
    subst ce
    rw [← hf] at f3
    clear b1 b2 heN hfN hf hx hm
    go_enter Tryz.func39,Tryz.ntmps39
    have hc:=rsmall_ f HF.out.1 w0
    go_wp2_with fail
    rw [← hw0]
    refine hc.mono ?_;rintro e w1 ⟨v1,rfl,hO,hk⟩
    have H1:Hid (Ls w1 v1 (dig f)):=hO.ls
    have K0:Hid (Kp w0 w1):=hk
    clear hc hO hk hw0
    obtain ⟨gl,hgl⟩:∃ gl,gl = w1.heap.size:=⟨_,rfl⟩
    obtain ⟨wl,hwl⟩:∃ wl,wl = w1.alloc (.cells #[.int .u32 1] 86):=⟨_,rfl⟩
    have O1:=own1 w1
    rw [← hwl,← hgl] at O1
    have kl:Kp w1 wl:=by rw [hwl];exact (Kp.refl _).alloc _
    replace H1:Hid (Ls wl v1 (dig f)):=H1.out.kp kl
    replace K0:Hid (Kp w0 wl):=K0.out.trans kl
    have hc:=fracX_ n v1 (.slice (some ⟨gl,0,none⟩) 1 1) (dig f) [1] x wl H1.out O1.ls (Wd_dig f) (wd1 1 (by decide)) (Nat.le_trans (dlen f 2 HF.out.2.1) (by decide)) (by simp) (by decide) HF.out.2.2
    rw [val_dig,show val [1] = 1 from by decide] at hc
    rw [HXX.out] at hc
    clear O1 kl H1
    go_wp2_with fail
    try rw [hsn]
    rw [← hgl,← hwl]
    refine hc.mono ?_;rintro e w2 ⟨vn,vd,a,b,ng,rfl,hN,hD,hF,hk⟩
    clear hgl hwl hc
    have hsz:=K0.out.size
    replace K0:Hid (Kp w0 w2):=K0.out.trans hk
    have ON:Hid (Own w2 w0.heap.size vn (dig a)):=hN.mono hsz
    have OD:Hid (Own w2 w0.heap.size vd (dig b)):=hD.mono hsz
    clear hN hD hk hsz
    obtain ⟨pN,cN,hvN,_⟩:=ON.out.len
    obtain ⟨NN,hNN⟩:∃ NN,NN = (dig (a)).length:=⟨_,rfl⟩
    rw [← hNN] at hvN
    subst hvN
    clear hNN
    obtain ⟨pD,cD,hvD,_⟩:=OD.out.len
    obtain ⟨ND,hND⟩:∃ ND,ND = (dig (b)).length:=⟨_,rfl⟩
    rw [← hND] at hvD
    subst hvD
    clear hND
    have hlt:w.heap.size < w0.heap.size:=by rw [Hw0.out];simp
    have k0:=kkeep K0.out (b:=w.heap.size) (o:=0) (v:=.bool false) (by rw [Hw0.out];simp [go_sem])
    have z0:w2.frozen? ⟨w.heap.size,0,none⟩ = false:=by rw [Below.frozen K0.out hlt,Hw0.out];simp [go_sem]
    have k1:=kkeep K0.out (b:=w.heap.size) (o:=1) (v:=.slice none 0 0) (by rw [Hw0.out];simp [go_sem])
    have z1:w2.frozen? ⟨w.heap.size,1,none⟩ = false:=by rw [Below.frozen K0.out hlt,Hw0.out];simp [go_sem]
    have k2:=kkeep K0.out (b:=w.heap.size) (o:=2) (v:=.slice none 0 0) (by rw [Hw0.out];simp [go_sem])
    have z2:w2.frozen? ⟨w.heap.size,2,none⟩ = false:=by rw [Below.frozen K0.out hlt,Hw0.out];simp [go_sem]
    have hk9:Kp w w0:=by rw [Hw0.out];exact (Kp.refl w).alloc _
    have hk0:Kp w w2:=hk9.trans K0.out
    have HZ:Hid (Own (((w2.setCell ⟨w.heap.size,0,none⟩ (.bool ng)).setCell ⟨w.heap.size,1,none⟩ (.slice pN NN cN)).setCell ⟨w.heap.size,2,none⟩ (.slice pD ND cD)) w.heap.size (.slice pN NN cN) (dig a)∧Own (((w2.setCell ⟨w.heap.size,0,none⟩ (.bool ng)).setCell ⟨w.heap.size,1,none⟩ (.slice pN NN cN)).setCell ⟨w.heap.size,2,none⟩ (.slice pD ND cD)) w.heap.size (.slice pD ND cD) (dig b)∧Kp w (((w2.setCell ⟨w.heap.size,0,none⟩ (.bool ng)).setCell ⟨w.heap.size,1,none⟩ (.slice pN NN cN)).setCell ⟨w.heap.size,2,none⟩ (.slice pD ND cD))):=⟨((((ON.out.setOther hlt (.bool ng)).setOther hlt (.slice pN NN cN)).setOther hlt (.slice pD ND cD))).mono (Nat.le_of_lt hlt),((((OD.out.setOther hlt (.bool ng)).setOther hlt (.slice pN NN cN)).setOther hlt (.slice pD ND cD))).mono (Nat.le_of_lt hlt),(((hk0.setCell (Nat.le_refl _) (.bool ng)).setCell (Nat.le_refl _) (.slice pN NN cN)).setCell (Nat.le_refl _) (.slice pD ND cD))⟩
    have HFF:Hid (FracX (Fb.sgD m) 1 (Fb.epD m) a b∧(Fb.sgD m≠0→ng = n)):=by rw [HS.out.1,HS.out.2,HXX.out];exact hF
    clear hk0 hlt hk9 hF
    go_wp2
    exact bodyPost_ret (v:=.agg #[.bool ng,.slice pN NN cN,.slice pD ND cD]) (by simp [results,Tryz.results39,go_sem] <;> simp [go_sem, *]) rfl ⟨_,_,a,b,ng,rfl,HZ.out.1,HZ.out.2.1,HFF.out,HZ.out.2.2⟩
  · obtain ⟨f,hf⟩:∃ f,f = fN + 4503599627370496:=⟨_,rfl⟩
    obtain ⟨e1,he1⟩:∃ e1:Int,e1 = (eN:Int) - 1:=⟨_,rfl⟩
    obtain ⟨x,hx⟩:∃ x:Int,x = e1 - 1074:=⟨_,rfl⟩
    have hse:=sgep1 m hm (by rw [← heN];exact ce)
    rw [← hfN,← hf,← heN,← he1,← hx] at hse
    have HS:Hid (Fb.sgD m = f∧Fb.epD m = x):=hse
    obtain ⟨t1,g3,g4',g5',hbf,hbx⟩:=fb_nums eN fN f e1 x b1 b2 ce hf he1 hx
    have b9:eN≤2047:=Nat.le_of_lt b1
    have HXX:Hid ((eN:Int) - 1 - 1074 = x):=by show _ = _;clear f1 f2 f3 f4;omega
    clear g4' g5' ge ge2
    have HF:Hid (f < 18446744073709551616∧blen f≤64∧x.natAbs≤1048576):=small64 f x hbf hbx
    clear hse hbf hbx
    clear b1 b2 heN hfN hf hx hm ce he1
    go_enter Tryz.func39,Tryz.ntmps39
    have hc:=rsmall_ f HF.out.1 w0
    go_wp2_with fail
    rw [← hw0]
    refine hc.mono ?_;rintro e w1 ⟨v1,rfl,hO,hk⟩
    have H1:Hid (Ls w1 v1 (dig f)):=hO.ls
    have K0:Hid (Kp w0 w1):=hk
    clear hc hO hk hw0
    obtain ⟨gl,hgl⟩:∃ gl,gl = w1.heap.size:=⟨_,rfl⟩
    obtain ⟨wl,hwl⟩:∃ wl,wl = w1.alloc (.cells #[.int .u32 1] 86):=⟨_,rfl⟩
    have O1:=own1 w1
    rw [← hwl,← hgl] at O1
    have kl:Kp w1 wl:=by rw [hwl];exact (Kp.refl _).alloc _
    replace H1:Hid (Ls wl v1 (dig f)):=H1.out.kp kl
    replace K0:Hid (Kp w0 wl):=K0.out.trans kl
    have hc:=fracX_ n v1 (.slice (some ⟨gl,0,none⟩) 1 1) (dig f) [1] x wl H1.out O1.ls (Wd_dig f) (wd1 1 (by decide)) (Nat.le_trans (dlen f 2 HF.out.2.1) (by decide)) (by simp) (by decide) HF.out.2.2
    rw [val_dig,show val [1] = 1 from by decide] at hc
    skip
    clear O1 kl H1
    go_wp2_with fail
    try rw [hsn]
    rw [HXX.out]
    rw [← hgl,← hwl]
    refine hc.mono ?_;rintro e w2 ⟨vn,vd,a,b,ng,rfl,hN,hD,hF,hk⟩
    clear hgl hwl hc
    have hsz:=K0.out.size
    replace K0:Hid (Kp w0 w2):=K0.out.trans hk
    have ON:Hid (Own w2 w0.heap.size vn (dig a)):=hN.mono hsz
    have OD:Hid (Own w2 w0.heap.size vd (dig b)):=hD.mono hsz
    clear hN hD hk hsz
    obtain ⟨pN,cN,hvN,_⟩:=ON.out.len
    obtain ⟨NN,hNN⟩:∃ NN,NN = (dig (a)).length:=⟨_,rfl⟩
    rw [← hNN] at hvN
    subst hvN
    clear hNN
    obtain ⟨pD,cD,hvD,_⟩:=OD.out.len
    obtain ⟨ND,hND⟩:∃ ND,ND = (dig (b)).length:=⟨_,rfl⟩
    rw [← hND] at hvD
    subst hvD
    clear hND
    have hlt:w.heap.size < w0.heap.size:=by rw [Hw0.out];simp
    have k0:=kkeep K0.out (b:=w.heap.size) (o:=0) (v:=.bool false) (by rw [Hw0.out];simp [go_sem])
    have z0:w2.frozen? ⟨w.heap.size,0,none⟩ = false:=by rw [Below.frozen K0.out hlt,Hw0.out];simp [go_sem]
    have k1:=kkeep K0.out (b:=w.heap.size) (o:=1) (v:=.slice none 0 0) (by rw [Hw0.out];simp [go_sem])
    have z1:w2.frozen? ⟨w.heap.size,1,none⟩ = false:=by rw [Below.frozen K0.out hlt,Hw0.out];simp [go_sem]
    have k2:=kkeep K0.out (b:=w.heap.size) (o:=2) (v:=.slice none 0 0) (by rw [Hw0.out];simp [go_sem])
    have z2:w2.frozen? ⟨w.heap.size,2,none⟩ = false:=by rw [Below.frozen K0.out hlt,Hw0.out];simp [go_sem]
    have hk9:Kp w w0:=by rw [Hw0.out];exact (Kp.refl w).alloc _
    have hk0:Kp w w2:=hk9.trans K0.out
    have HZ:Hid (Own (((w2.setCell ⟨w.heap.size,0,none⟩ (.bool ng)).setCell ⟨w.heap.size,1,none⟩ (.slice pN NN cN)).setCell ⟨w.heap.size,2,none⟩ (.slice pD ND cD)) w.heap.size (.slice pN NN cN) (dig a)∧Own (((w2.setCell ⟨w.heap.size,0,none⟩ (.bool ng)).setCell ⟨w.heap.size,1,none⟩ (.slice pN NN cN)).setCell ⟨w.heap.size,2,none⟩ (.slice pD ND cD)) w.heap.size (.slice pD ND cD) (dig b)∧Kp w (((w2.setCell ⟨w.heap.size,0,none⟩ (.bool ng)).setCell ⟨w.heap.size,1,none⟩ (.slice pN NN cN)).setCell ⟨w.heap.size,2,none⟩ (.slice pD ND cD))):=⟨((((ON.out.setOther hlt (.bool ng)).setOther hlt (.slice pN NN cN)).setOther hlt (.slice pD ND cD))).mono (Nat.le_of_lt hlt),((((OD.out.setOther hlt (.bool ng)).setOther hlt (.slice pN NN cN)).setOther hlt (.slice pD ND cD))).mono (Nat.le_of_lt hlt),(((hk0.setCell (Nat.le_refl _) (.bool ng)).setCell (Nat.le_refl _) (.slice pN NN cN)).setCell (Nat.le_refl _) (.slice pD ND cD))⟩
    have HFF:Hid (FracX (Fb.sgD m) 1 (Fb.epD m) a b∧(Fb.sgD m≠0→ng = n)):=by rw [HS.out.1,HS.out.2];exact hF
    clear hk0 hlt hk9 hF
    go_wp2
    exact bodyPost_ret (v:=.agg #[.bool ng,.slice pN NN cN,.slice pD ND cD]) (by simp [results,Tryz.results39,go_sem] <;> simp [go_sem, *]) rfl ⟨_,_,a,b,ng,rfl,HZ.out.1,HZ.out.2.1,HFF.out,HZ.out.2.2⟩

theorem odd_one (o t k:Nat) (ho:o % 2 = 1) (h:2 ^ t = o * 2 ^ k):o = 1∧k = t:=by
  rcases Nat.lt_or_ge t k with c | c
  · have e:2 ^ k = 2 ^ t * 2 ^ (k - t):=by rw [← Nat.pow_add];congr 1;omega
    rw [e,← Nat.mul_assoc,Nat.mul_comm o,Nat.mul_assoc] at h
    have hp:=Nat.two_pow_pos t
    have h2:o * 2 ^ (k - t) = 1:=by
      have:2 ^ t * (o * 2 ^ (k - t)) = 2 ^ t * 1:=by rw [← h,Nat.mul_one]
      exact Nat.eq_of_mul_eq_mul_left hp this
    have h3:=Nat.eq_one_of_mul_eq_one_left h2
    have:2 ^ 1≤2 ^ (k - t):=Nat.pow_le_pow_right (by decide) (by omega)
    omega
  · have e:2 ^ t = 2 ^ (t - k) * 2 ^ k:=by rw [← Nat.pow_add];congr 1;omega
    rw [e] at h
    have h2:=Nat.eq_of_mul_eq_mul_right (Nat.two_pow_pos k) h
    cases hd:t - k with
    | zero=>rw [hd] at h2;simp at h2;omega
    | succ u=>rw [hd,Nat.pow_succ] at h2;omega
def Dv (a j E U:Nat):Prop:=j≤E∧(a % 2 = 1∨j = 0)∧a * 2 ^ (E - j) = U
theorem dy_frac (X t E U a' b':Nat) (h:FracX X (2 ^ t) 0 a' b') (hU:X * 2 ^ E = U * 2 ^ t):∃ j,b' = 2 ^ j∧Dv a' j E U:=by
  by_cases c:X = 0
  · obtain ⟨h1,h2⟩:=h.2.1 c
    refine ⟨0,by rw [h2],Nat.zero_le _,Or.inr rfl, ?_⟩
    rw [c,Nat.zero_mul] at hU
    rcases Nat.mul_eq_zero.1 hU.symm with z | z
    · rw [h1,z,Nat.zero_mul]
    · have:=Nat.two_pow_pos t;omega
  · obtain ⟨oa,ob,ka,kb,x,y,g1,g2,g3,g4,g5,g6,g7,g8⟩:=h.2.2 c
    obtain ⟨r1,r2⟩:=odd_one ob t kb g2 g4
    subst r1 r2
    rw [Nat.one_mul] at g6
    have hp:=Nat.two_pow_pos kb
    rw [g3] at hU
    refine ⟨y,g6, ?_⟩
    rcases g7 with z | z
    · subst z
      rw [Nat.pow_zero,Nat.mul_one] at g5
      have e:kb = y + ka:=by omega
      rw [e,Nat.pow_add,Nat.mul_right_comm,← Nat.mul_assoc] at hU
      have hU:=Nat.eq_of_mul_eq_mul_right (Nat.two_pow_pos ka) hU
      have hy:y≤E:=by
        apply Classical.byContradiction
        intro n
        have e2:2 ^ y = 2 ^ (y - E) * 2 ^ E:=by rw [← Nat.pow_add];congr 1;omega
        rw [e2,← Nat.mul_assoc] at hU
        have hU:=Nat.eq_of_mul_eq_mul_right (Nat.two_pow_pos E) hU
        have e3:2 ^ (y - E) = 2 * 2 ^ (y - E - 1):=by rw [← Nat.pow_succ'];congr 1;omega
        rw [e3,← Nat.mul_assoc,Nat.mul_comm U 2,Nat.mul_assoc] at hU
        omega
      refine ⟨hy,Or.inl (by rw [g5];exact g1), ?_⟩
      rw [g5]
      have e4:2 ^ E = 2 ^ (E - y) * 2 ^ y:=by rw [← Nat.pow_add];congr 1;omega
      rw [e4,← Nat.mul_assoc] at hU
      exact Nat.eq_of_mul_eq_mul_right (Nat.two_pow_pos y) hU
    · subst z
      have e:ka = x + kb:=by omega
      rw [e,Nat.pow_add,← Nat.mul_assoc,Nat.mul_right_comm] at hU
      have hU:=Nat.eq_of_mul_eq_mul_right hp hU
      exact ⟨Nat.zero_le _,Or.inr rfl,by rw [g5,Nat.sub_zero];exact hU⟩
def Dy (base:Nat) (w:World) (s1:Bool) (p1:Option Addr) (l1 c1:Nat) (q1:Option Addr) (k1 d1:Nat) (V:Int) (E:Nat):Prop:=∃ a j,Own w base (.slice p1 l1 c1) (dig a)∧Own w base (.slice q1 k1 d1) (dig (2 ^ j))∧Dv a j E V.natAbs∧(V≠0→s1 = decide (V < 0))
theorem Dy.kp {base:Nat} {w w':World} {s1:Bool} {p1:Option Addr} {l1 c1:Nat} {q1:Option Addr} {k1 d1:Nat} {V:Int} {E:Nat} (h:Dy base w s1 p1 l1 c1 q1 k1 d1 V E) (g:Kp w w'):Dy base w' s1 p1 l1 c1 q1 k1 d1 V E:=by
  obtain ⟨a,j,h1,h2,h3⟩:=h
  exact ⟨a,j,h1.kp g,h2.kp g,h3⟩
theorem Dy.mono {base b2:Nat} {w:World} {s1:Bool} {p1:Option Addr} {l1 c1:Nat} {q1:Option Addr} {k1 d1:Nat} {V:Int} {E:Nat} (h:Dy base w s1 p1 l1 c1 q1 k1 d1 V E) (g:b2≤base):Dy b2 w s1 p1 l1 c1 q1 k1 d1 V E:=by
  obtain ⟨a,j,h1,h2,h3⟩:=h
  exact ⟨a,j,h1.mono g,h2.mono g,h3⟩
theorem len_le (n k:Nat) (h:n < 2 ^ (32 * k)):len32 n≤k:=by
  apply Classical.byContradiction
  intro c
  have:=len32_lt n k (by omega)
  rw [show (4294967296:Nat) = 2 ^ 32 from rfl,← Nat.pow_mul] at this
  omega
theorem Dv.lt {a j E U:Nat} (h:Dv a j E U) (B:Nat) (hU:U < 2 ^ B):a < 2 ^ B:=by
  obtain ⟨h1,h2,h3⟩:=h
  have:=Nat.two_pow_pos (E - j)
  have:a * 1≤a * 2 ^ (E - j):=Nat.mul_le_mul_left a this
  omega
end Go.Proofs.YtfhcmabejagknaaGreatDoor
