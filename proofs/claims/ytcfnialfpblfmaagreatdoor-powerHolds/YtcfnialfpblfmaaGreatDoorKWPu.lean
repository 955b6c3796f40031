import Derived.Test.YtcfnialfpblfmaaGreatDoorKPZc
import Derived.Test.YtcfnialfpblfmaaGreatDoorKWPj
set_option maxHeartbeats 1000000
set_option maxRecDepth 20000
namespace Go.Proofs.YtcfnialfpblfmaaGreatDoor
open Go.RowKit
set_option linter.unusedVariables false
theorem xqn_ (K:Nat) (Ki cm bt:Int) (hw:Wn K Ki cm bt) (V:Int) (C N:Nat) (hN:N≤15000) s p l c q k d (B1:Nat) (w:World) (h:XP B1 w s p l c q k d V C N) (ng:V<0) (cc:cm = -1∧2*(V.natAbs % C)<C∨cm=0∧2*(V.natAbs % C)=C∨cm=1∧C<2*(V.natAbs % C)) (hb:((V.natAbs / C % 2:Nat):Int)=bt):Calls Tryz.prog 37 #[.int .i64 Ki,.agg #[.bool s,.slice p l c,.slice q k d]] w fun e w'=>∃ s3 p3 l3 c3 q3 k3 d3,e=.returned (.agg #[.bool s3,.slice p3 l3 c3,.slice q3 k3 d3])∧XP w.heap.size w' s3 p3 l3 c3 q3 k3 d3 (stV K C V) C (5*N+4000)∧Kp w w':=by
 have h0:K≠0:=by unfold Wn at hw;omega
 have h12:K≠1∧K≠2:=by unfold Wn at hw;omega
 have hc:C≠0:=by obtain ⟨a,b,-,-,hx⟩:=h;exact hx.2.1
 obtain ⟨A,rfl⟩:∃ A:Nat,V = -(A:Int):=⟨(-V).toNat,by omega⟩
 have eN:(-(A:Int)).natAbs=A:=by omega
 have eN':(A:Int).natAbs=A:=by omega
 rw [eN] at cc hb
 have eQ:(A:Int) / (C:Int)=((A / C:Nat):Int):=rfl
 have eD:(A:Int)=(C:Int)*((A / C:Nat):Int)+((A % C:Nat):Int):=by rw [← Int.natCast_mul,← Int.natCast_add,Nat.div_add_mod]
 have eR:(A:Int)*((1:Nat):Int) - (A:Int) / (C:Int)*(C:Int)=((A % C:Nat):Int):=by
  rw [eQ,Int.mul_comm ((A / C:Nat):Int)]
  have e1:(A:Int)*((1:Nat):Int)=(A:Int):=by simp
  rw [e1];omega
 have hbm:bmp K false (A / C) (A % C) C=false:=by
  clear eR eD eQ
  rcases hw with ⟨rfl,-,rfl,rfl⟩ | ⟨rfl,-,rfl,rfl⟩ | ⟨rfl,-,rfl,rfl⟩ | ⟨rfl,-,rfl,rfl⟩ | ⟨rfl,-,rfl,rfl⟩ <;> (unfold bmp upw;simp <;> omega)
 have eS:stV K C (A:Int)=((A / C+0:Nat):Int)*(C:Int):=by
  unfold stV cutN
  rw [if_neg h0,if_neg (by omega),eN',hbm,Int.natCast_mul];rfl
 have ecm:cmI (((A:Int)*((1:Nat):Int) - (A:Int) / (C:Int)*(C:Int))*((2:Nat):Int)) (1*((C*1:Nat):Int))=cm:=by
  rw [eR]
  have cc':=cc
  clear eD eR eS hbm eQ h hb
  obtain ⟨r,hr⟩:∃ r,r=A % C:=⟨_,rfl⟩
  rw [← hr] at cc' ⊢
  clear hr cc
  have e2:((C*1:Nat):Int)=(C:Int):=by rw [Nat.mul_one]
  have e3:((2:Nat):Int)=2:=rfl
  rw [e2,e3]
  unfold cmI
  rcases cc' with ⟨rfl,c9⟩ | ⟨rfl,c9⟩ | ⟨rfl,c9⟩
  ·rw [if_pos (by omega)]
  ·rw [if_neg (by omega),if_neg (by omega)]
  ·rw [if_neg (by omega),if_pos (by omega)]
 have eT:stV K C (-(A:Int)) = -(((A / C+0:Nat):Int)*(C:Int)):=by rw [stV_neg K C (by omega) h12,eS]
 have sg:sgV (-(A:Int))<0:=by unfold sgV;rw [if_pos ng];decide
 have ha:∀ (B:Nat) (W:World) s6 p6 l6 c6 q6 k6 d6,FP B W s6 p6 l6 c6 q6 k6 d6 ((A:Int) / (C:Int)) (N+1)→Ls W (.slice p6 l6 c6) (dig (A / C))∧blen (A / C)≤N+1:=by
  rintro B W s6 p6 l6 c6 q6 k6 d6 ⟨a,o1,o2,e,bl⟩
  have:a=A / C:=by
   rw [eQ] at e;unfold rvI at e
   clear hb eQ eD eR hbm eS ecm cc
   generalize A / C=Q at e ⊢
   cases s6
   ·rw [if_neg (by decide)] at e;omega
   ·rw [if_pos rfl] at e;omega
  subst this
  exact ⟨o1.ls,bl⟩
 refine (stMn_ K Ki cm bt hw (sgV (-(A:Int))) sg (blen (A / C):Int) (fun hb1=>by have:=blen_spec (A / C) (by intro z;rw [z,hb1] at hb;simp at hb);omega) s p l c q k d (fun W w' s5 p5 l5 c5 q5 k5 d5=>XP W.heap.size w' s5 p5 l5 c5 q5 k5 d5 (A:Int) C N) (fun w' s6 p6 l6 c6 q6 k6 d6=>FP 0 w' s6 p6 l6 c6 q6 k6 d6 ((A:Int) / (C:Int)) (N+1)) (fun w' s7 p7 l7 c7 q7 k7 d7=>XP 0 w' s7 p7 l7 c7 q7 k7 d7 ((A:Int)*((1:Nat):Int) - (A:Int) / (C:Int)*(C:Int)) (C*1) (2*(N+(N+2))+3)) (fun w' s8 p8 l8 c8 q8 k8 d8=>XP 0 w' s8 p8 l8 c8 q8 k8 d8 1 2 20)  (fun W w' s4 p4 l4 c4 q4 k4 d4=>XP W.heap.size w' s4 p4 l4 c4 q4 k4 d4 (stV K C (-(A:Int))) C (5*N+4000)) w (fun W g=>xsign_ _ C N (by omega) s p l c q k d B1 W (h.kp g)) (fun W g=>?_) (fun W W' b s5 p5 l5 c5 q5 k5 d5 g h5 hb=>?_) (fun W W' b s5 p5 l5 c5 q5 k5 d5 U Y s6 p6 l6 c6 q6 k6 d6 h5 hb gp g h6 gu=>?_) (fun W=>?_) (fun U W s7 p7 l7 c7 q7 k7 d7 s8 p8 l8 c8 q8 k8 d8 h7 gu h8=>?_) (fun U W s6 p6 l6 c6 q6 k6 d6 h6 gu=>?_) (fun U W s6 p6 l6 c6 q6 k6 d6 h6 gu=>?_) (fun U W s6 p6 l6 c6 q6 k6 d6 g h6 gu=>?_)).mono ?_
 ·refine (xneg_ _ C N (by omega) s p l c q k d B1 W (h.kp g)).mono ?_
  rintro e w' ⟨s5,p5,l5,c5,q5,k5,d5,rfl,hp,g1⟩
  rw [Int.neg_neg] at hp
  exact ⟨s5,p5,l5,c5,q5,k5,d5,rfl,hp,g1⟩
 ·have h5':=(((h5).set (x:=⟨b,0,none⟩) hb (.bool s5)).set (x:=⟨b,1,none⟩) hb (.slice p5 l5 c5)).set (x:=⟨b,2,none⟩) hb (.slice q5 k5 d5)
  refine (floorX_ _ C N (by omega) s5 p5 l5 c5 q5 k5 d5 W.heap.size _ h5').mono ?_
  rintro e w' ⟨s6,p6,l6,c6,q6,k6,d6,rfl,hf,g1⟩
  exact ⟨s6,p6,l6,c6,q6,k6,d6,rfl,hf.mono (Nat.zero_le _),g1⟩
 ·have h5':=(((h5).set (x:=⟨b,0,none⟩) hb (.bool s5)).set (x:=⟨b,1,none⟩) hb (.slice p5 l5 c5)).set (x:=⟨b,2,none⟩) hb (.slice q5 k5 d5)
  refine (xsub_ _ _ C 1 N (N+2) (by omega) s5 p5 l5 c5 q5 k5 d5 s6 p6 l6 c6 q6 k6 d6 W.heap.size _ Y (h5'.kp gp) (h6.kp gu).xp).mono ?_
  rintro e w' ⟨s7,p7,l7,c7,q7,k7,d7,rfl,hp,g1⟩
  exact ⟨s7,p7,l7,c7,q7,k7,d7,rfl,hp.mono (Nat.zero_le _),g1⟩
 ·refine (halfX_ W).mono ?_
  rintro e w' ⟨s8,p8,l8,c8,q8,k8,d8,rfl,hp,g1⟩
  exact ⟨s8,p8,l8,c8,q8,k8,d8,rfl,hp.mono (Nat.zero_le _),g1⟩
 ·have hx:=xcmp_ 0 0 _ _ _ _ _ _ (by omega) (by omega) s7 p7 l7 c7 q7 k7 d7 s8 p8 l8 c8 q8 k8 d8 W (h7.kp gu) h8
  rw [ecm] at hx
  exact hx
 ·obtain ⟨z1,z2⟩:=ha _ W s6 p6 l6 c6 q6 k6 d6 (h6.kp gu)
  have hx:=bitX_ p6 l6 c6 (A / C) W z1 (by omega)
  rw [hb] at hx
  exact hx
 ·obtain ⟨z1,z2⟩:=ha _ W s6 p6 l6 c6 q6 k6 d6 (h6.kp gu)
  refine (lenR _ (A / C) W z1 (by omega)).mono ?_
  rintro e w' ⟨rfl,rfl⟩
  exact ⟨rfl,Kp.refl _⟩
 ·refine (xneg_ _ 1 (N+2) (by omega) s6 p6 l6 c6 q6 k6 d6 0 W (h6.kp gu).xp).mono ?_
  rintro e w' ⟨s4,p4,l4,c4,q4,k4,d4,rfl,hp,g1⟩
  exact ⟨s4,p4,l4,c4,q4,k4,d4,rfl,hp.as _ C _ hc (by rw [eT,eQ];simp [Int.neg_mul]) (by omega),g1⟩
 ·rintro e w' ⟨W,wh,s4,p4,l4,c4,q4,k4,d4,rfl,hq,rfl,hlt,g⟩
  exact ⟨s4,p4,l4,c4,q4,k4,d4,rfl,XP.mono ((((hq).set (x:=⟨w.heap.size+1,0,none⟩) hlt (.bool s4)).set (x:=⟨w.heap.size+1,1,none⟩) hlt (.slice p4 l4 c4)).set (x:=⟨w.heap.size+1,2,none⟩) hlt (.slice q4 k4 d4)) (by omega),KS3 (g) (by first | omega | (simp <;> omega))⟩
theorem stX4_ (V:Int) (C N:Nat) (hN:N≤15000) s p l c q k d (B1:Nat) (w:World) (h:XP B1 w s p l c q k d V C N):Calls Tryz.prog 37 #[.int .i64 4,.agg #[.bool s,.slice p l c,.slice q k d]] w fun e w'=>∃ s3 p3 l3 c3 q3 k3 d3,e=.returned (.agg #[.bool s3,.slice p3 l3 c3,.slice q3 k3 d3])∧XP w.heap.size w' s3 p3 l3 c3 q3 k3 d3 (stV 4 C V) C (5*N+4000)∧Kp w w':=by
 by_cases ng:V<0
 ·rcases Nat.lt_trichotomy (2*(V.natAbs % C)) C with cc | cc | cc
  ·rcases Nat.mod_two_eq_zero_or_one (V.natAbs / C) with hb | hb
   ·exact xqn_ 4 4 (-1) 0 (by unfold Wn;omega) V C N (by omega) s p l c q k d B1 w h ng (.inl ⟨rfl,cc⟩) (by rw [hb];rfl)
   ·exact xqn_ 4 4 (-1) 1 (by unfold Wn;omega) V C N (by omega) s p l c q k d B1 w h ng (.inl ⟨rfl,cc⟩) (by rw [hb];rfl)
  ·rcases Nat.mod_two_eq_zero_or_one (V.natAbs / C) with hb | hb
   ·exact xqn_ 4 4 0 0 (by unfold Wn;omega) V C N (by omega) s p l c q k d B1 w h ng (.inr (.inl ⟨rfl,cc⟩)) (by rw [hb];rfl)
   ·exact xqa_ 4 4 0 1 (by unfold Wa;omega) V C N (by omega) s p l c q k d B1 w h ng (.inr (.inl ⟨rfl,cc⟩)) (by rw [hb];rfl)
  ·rcases Nat.mod_two_eq_zero_or_one (V.natAbs / C) with hb | hb
   ·exact xqa_ 4 4 1 0 (by unfold Wa;omega) V C N (by omega) s p l c q k d B1 w h ng (.inr (.inr ⟨rfl,cc⟩)) (by rw [hb];rfl)
   ·exact xqa_ 4 4 1 1 (by unfold Wa;omega) V C N (by omega) s p l c q k d B1 w h ng (.inr (.inr ⟨rfl,cc⟩)) (by rw [hb];rfl)
 ·rcases Nat.lt_trichotomy (2*(V.natAbs % C)) C with cc | cc | cc
  ·rcases Nat.mod_two_eq_zero_or_one (V.natAbs / C) with hb | hb
   ·exact xpn_ 4 4 (-1) 0 (by unfold Wn;omega) V C N (by omega) s p l c q k d B1 w h ng (.inl ⟨rfl,cc⟩) (by rw [hb];rfl)
   ·exact xpn_ 4 4 (-1) 1 (by unfold Wn;omega) V C N (by omega) s p l c q k d B1 w h ng (.inl ⟨rfl,cc⟩) (by rw [hb];rfl)
  ·rcases Nat.mod_two_eq_zero_or_one (V.natAbs / C) with hb | hb
   ·exact xpn_ 4 4 0 0 (by unfold Wn;omega) V C N (by omega) s p l c q k d B1 w h ng (.inr (.inl ⟨rfl,cc⟩)) (by rw [hb];rfl)
   ·exact xpa_ 4 4 0 1 (by unfold Wa;omega) V C N (by omega) s p l c q k d B1 w h ng (.inr (.inl ⟨rfl,cc⟩)) (by rw [hb];rfl)
  ·rcases Nat.mod_two_eq_zero_or_one (V.natAbs / C) with hb | hb
   ·exact xpa_ 4 4 1 0 (by unfold Wa;omega) V C N (by omega) s p l c q k d B1 w h ng (.inr (.inr ⟨rfl,cc⟩)) (by rw [hb];rfl)
   ·exact xpa_ 4 4 1 1 (by unfold Wa;omega) V C N (by omega) s p l c q k d B1 w h ng (.inr (.inr ⟨rfl,cc⟩)) (by rw [hb];rfl)
theorem stX5_ (V:Int) (C N:Nat) (hN:N≤15000) s p l c q k d (B1:Nat) (w:World) (h:XP B1 w s p l c q k d V C N):Calls Tryz.prog 37 #[.int .i64 5,.agg #[.bool s,.slice p l c,.slice q k d]] w fun e w'=>∃ s3 p3 l3 c3 q3 k3 d3,e=.returned (.agg #[.bool s3,.slice p3 l3 c3,.slice q3 k3 d3])∧XP w.heap.size w' s3 p3 l3 c3 q3 k3 d3 (stV 5 C V) C (5*N+4000)∧Kp w w':=by
 by_cases ng:V<0
 ·rcases Nat.lt_trichotomy (2*(V.natAbs % C)) C with cc | cc | cc
  ·rcases Nat.mod_two_eq_zero_or_one (V.natAbs / C) with hb | hb
   ·exact xqn_ 5 5 (-1) 0 (by unfold Wn;omega) V C N (by omega) s p l c q k d B1 w h ng (.inl ⟨rfl,cc⟩) (by rw [hb];rfl)
   ·exact xqn_ 5 5 (-1) 1 (by unfold Wn;omega) V C N (by omega) s p l c q k d B1 w h ng (.inl ⟨rfl,cc⟩) (by rw [hb];rfl)
  ·rcases Nat.mod_two_eq_zero_or_one (V.natAbs / C) with hb | hb
   ·exact xqa_ 5 5 0 0 (by unfold Wa;omega) V C N (by omega) s p l c q k d B1 w h ng (.inr (.inl ⟨rfl,cc⟩)) (by rw [hb];rfl)
   ·exact xqa_ 5 5 0 1 (by unfold Wa;omega) V C N (by omega) s p l c q k d B1 w h ng (.inr (.inl ⟨rfl,cc⟩)) (by rw [hb];rfl)
  ·rcases Nat.mod_two_eq_zero_or_one (V.natAbs / C) with hb | hb
   ·exact xqa_ 5 5 1 0 (by unfold Wa;omega) V C N (by omega) s p l c q k d B1 w h ng (.inr (.inr ⟨rfl,cc⟩)) (by rw [hb];rfl)
   ·exact xqa_ 5 5 1 1 (by unfold Wa;omega) V C N (by omega) s p l c q k d B1 w h ng (.inr (.inr ⟨rfl,cc⟩)) (by rw [hb];rfl)
 ·rcases Nat.lt_trichotomy (2*(V.natAbs % C)) C with cc | cc | cc
  ·rcases Nat.mod_two_eq_zero_or_one (V.natAbs / C) with hb | hb
   ·exact xpn_ 5 5 (-1) 0 (by unfold Wn;omega) V C N (by omega) s p l c q k d B1 w h ng (.inl ⟨rfl,cc⟩) (by rw [hb];rfl)
   ·exact xpn_ 5 5 (-1) 1 (by unfold Wn;omega) V C N (by omega) s p l c q k d B1 w h ng (.inl ⟨rfl,cc⟩) (by rw [hb];rfl)
  ·rcases Nat.mod_two_eq_zero_or_one (V.natAbs / C) with hb | hb
   ·exact xpa_ 5 5 0 0 (by unfold Wa;omega) V C N (by omega) s p l c q k d B1 w h ng (.inr (.inl ⟨rfl,cc⟩)) (by rw [hb];rfl)
   ·exact xpa_ 5 5 0 1 (by unfold Wa;omega) V C N (by omega) s p l c q k d B1 w h ng (.inr (.inl ⟨rfl,cc⟩)) (by rw [hb];rfl)
  ·rcases Nat.mod_two_eq_zero_or_one (V.natAbs / C) with hb | hb
   ·exact xpa_ 5 5 1 0 (by unfold Wa;omega) V C N (by omega) s p l c q k d B1 w h ng (.inr (.inr ⟨rfl,cc⟩)) (by rw [hb];rfl)
   ·exact xpa_ 5 5 1 1 (by unfold Wa;omega) V C N (by omega) s p l c q k d B1 w h ng (.inr (.inr ⟨rfl,cc⟩)) (by rw [hb];rfl)
set_option linter.unusedVariables false
theorem intMX_ (w:World):Calls Tryz.prog 32 #[.int .i64 (-1)] w fun e w'=>∃ s p l c q k d,e=.returned (.agg #[.bool s,.slice p l c,.slice q k d])∧XP w.heap.size w' s p l c q k d (-1) 1 1500∧Kp w w':=by
 obtain ⟨B,hB⟩:∃ B,B=w.heap.size:=⟨_,rfl⟩
 obtain ⟨w0,hw0⟩:∃ w0,w0=w.alloc (.cells #[.bool false,.slice none 0 0,.slice none 0 0] 43):=⟨_,rfl⟩
 have kw:Kp w w0:=by rw [hw0];exact (Kp.refl w).alloc _
 obtain ⟨r0,r1,r2,f0,f1,f2⟩:w0.cell? ⟨B,0,none⟩=some (.bool false)∧w0.cell? ⟨B,1,none⟩=some (.slice none 0 0)∧w0.cell? ⟨B,2,none⟩=some (.slice none 0 0)∧w0.frozen? ⟨B,0,none⟩=false∧w0.frozen? ⟨B,1,none⟩=false∧w0.frozen? ⟨B,2,none⟩=false:=by rw [hw0,hB];simp [go_sem]
 have hlt:=cell_lt r0
 have hs:=rsmall_ 1 (by decide) w0
 have HW:Hid (w0=w.alloc (.cells #[.bool false,.slice none 0 0,.slice none 0 0] 43)∧B=w.heap.size∧Kp w w0):=⟨hw0,hB,kw⟩
 clear hw0 hB kw
 go_enter Tryz.func32,Tryz.ntmps32
 go_wp2_with fail
 rw [← HW.out.2.1]
 try rw [← HW.out.1]
 refine hs.mono ?_;rintro e w1 ⟨v,rfl,ho,k1⟩
 obtain ⟨pv,cv,rfl,hav,hcv⟩:=ho.arr
 obtain ⟨L,hL⟩:∃ L,L=(dig 1).length:=⟨_,rfl⟩
 rw [← hL]
 obtain ⟨g4,hg4⟩:∃ g4,g4=w1.heap.size:=⟨_,rfl⟩
 obtain ⟨w4,hw4⟩:∃ w4,w4=w1.alloc (.cells #[.int .u32 1] 81):=⟨_,rfl⟩
 have k4:Kp w1 w4:=by rw [hw4];exact (Kp.refl _).alloc _
 have ar4:Arr w4 (some ⟨g4,0,none⟩) (dig 1):=by
  have h:=(row1 w1 1).all rfl
  rw [← hw4,← hg4] at h
  rw [dig_one6]
  exact h
 have h:=frac_ true (.slice pv (dig 1).length cv) (.slice (some ⟨g4,0,none⟩) (dig 1).length 1) (dig 1) (dig 1) 0 w4 ⟨pv,cv,rfl,hav.grown k4,hcv⟩ ⟨some ⟨g4,0,none⟩,1,rfl,ar4,by rw [dig_one6];decide⟩ (Wd_dig _) (Wd_dig _) (by rw [dig_one6];decide) (by rw [dig_one6];decide) (by rw [val_dig];decide) (by decide)
 simp only [val_dig] at h
 rw [show (dig 1).length=1 from by rw [dig_one6];rfl] at h
 have hL1:L=1:=by rw [hL,dig_one6];rfl
 subst hL1
 have k04:=k1.trans k4
 have HG:Hid (g4=w1.heap.size∧w4=w1.alloc (.cells #[.int .u32 1] 81)):=⟨hg4,hw4⟩
 replace r0:=kkeep k04 r0
 replace r1:=kkeep k04 r1
 replace r2:=kkeep k04 r2
 replace f0:=(kfro k04 hlt).trans f0
 replace f1:=(kfro k04 hlt).trans f1
 replace f2:=(kfro k04 hlt).trans f2
 have HK:Hid (Kp w0 w4∧B<w0.heap.size):=⟨k04,hlt⟩
 have hlt4:=cell_lt r0
 clear hs ho hav hcv hL hg4 hw4 k4 ar4 k1 k04 hlt
 go_wp2_with fail
 rw [← HG.out.1,← HG.out.2]
 refine h.mono ?_;rintro e w5 ⟨vn,vd,a',b',ng,rfl,o1,o2,ff,k5⟩
 obtain ⟨pn,cn,rfl,an,ln⟩:=o1.arr
 obtain ⟨pd,cd,rfl,ad,ld⟩:=o2.arr
 replace r0:=kkeep k5 r0
 replace r1:=kkeep k5 r1
 replace r2:=kkeep k5 r2
 replace f0:=(kfro k5 hlt4).trans f0
 replace f1:=(kfro k5 hlt4).trans f1
 replace f2:=(kfro k5 hlt4).trans f2
 have hp:XP w4.heap.size w5 ng pn (dig a').length cn pd (dig b').length cd (-1) 1 1500:=by
  have e:=frac_x 1 1 a' b' ng true (by decide) ff.1 (fun h=>ff.2 h)
  have b1:=ff.1.2.2.2.1
  have b2:=ff.1.2.2.2.2
  have h2:blen 1=1:=blen_uniq 1 0 (by decide) (by decide)
  refine ⟨a',b',o1,o2,ff.1.1,by decide, ?_,by simp at b1;omega,by simp at b2;omega⟩
  simpa [rvI] using e
 have hq:=(((hp.set (x:=⟨B,0,none⟩) hlt4 (.bool ng)).set (x:=⟨B,1,none⟩) hlt4 (.slice pn (dig a').length cn)).set (x:=⟨B,2,none⟩) hlt4 (.slice pd (dig b').length cd)).mono (base':=w.heap.size) (by have h1:=Below.size HW.out.2.2;have h2:=Below.size HK.out.1;omega)
 have hkw:Kp w (((w5.setCell ⟨B,0,none⟩ (.bool ng)).setCell ⟨B,1,none⟩ (.slice pn (dig a').length cn)).setCell ⟨B,2,none⟩ (.slice pd (dig b').length cd)):=by
  have hB:=HW.out.2.1
  exact ((((HW.out.2.2.trans HK.out.1).trans k5).setCell (by rw [hB];exact Nat.le_refl _) _).setCell (by rw [hB];exact Nat.le_refl _) _).setCell (by rw [hB];exact Nat.le_refl _) _
 generalize (dig a').length=La at hq hkw ⊢
 generalize (dig b').length=Lb at hq hkw ⊢
 have HO:Hid (_∧_):=⟨hq,hkw⟩
 clear h hp hq hkw o1 o2 ff k5 an ln ad ld hlt4 HG
 go_wp2
 exact BR (v:=.agg #[.bool ng,.slice pn La cn,.slice pd Lb cd]) (by simp [results,Tryz.results32,go_sem,r0,r1,r2]) rfl ⟨ng,pn,La,cn,pd,Lb,cd,rfl,HO.out.1,HO.out.2⟩
set_option linter.unusedVariables false

theorem intX_ (z:Int) (hz:z = -1∨z=0∨z=1) (w:World):Calls Tryz.prog 32 #[.int .i64 z] w fun e w'=>∃ s p l c q k d,e=.returned (.agg #[.bool s,.slice p l c,.slice q k d])∧XP w.heap.size w' s p l c q k d z 1 1500∧Kp w w':=by
 rcases hz with rfl | rfl | rfl
 ·exact intMX_ w
 ·refine (int0_ w).mono ?_
  rintro e w' ⟨s,p,l,c,q,k,d,rfl,h,g⟩
  exact ⟨s,p,l,c,q,k,d,rfl,h.x0,g⟩
 ·exact int1X_ w
set_option linter.unusedVariables false

theorem sgV_st (C:Nat) (V:Int):stV 0 C V=sgV V*(C:Int):=by
 unfold stV sgV
 rw [if_pos rfl]
 by_cases a:V<0
 ·rw [if_pos a,if_pos a];simp
 ·rw [if_neg a,if_neg a]
  by_cases b:V=0
  ·rw [if_pos b,if_pos b];simp
  ·rw [if_neg b,if_neg b];simp
theorem sgV_3 (V:Int):sgV V = -1∨sgV V=0∨sgV V=1:=by
 unfold sgV;split
 ·exact Or.inl rfl
 ·split
  ·exact Or.inr (Or.inl rfl)
  ·exact Or.inr (Or.inr rfl)
theorem stX0_ (V:Int) (C N:Nat) (hN:N≤15000) s p l c q k d (B1:Nat) (w:World) (h:XP B1 w s p l c q k d V C N):Calls Tryz.prog 37 #[.int .i64 0,.agg #[.bool s,.slice p l c,.slice q k d]] w fun e w'=>∃ s3 p3 l3 c3 q3 k3 d3,e=.returned (.agg #[.bool s3,.slice p3 l3 c3,.slice q3 k3 d3])∧XP w.heap.size w' s3 p3 l3 c3 q3 k3 d3 (stV 0 C V) C (5*N+4000)∧Kp w w':=by
 have hc:C≠0:=by obtain ⟨a,b,-,-,hx⟩:=h;exact hx.2.1
 refine (stA0_ (sgV V) s p l c q k d (fun W w' s3 p3 l3 c3 q3 k3 d3=>XP W.heap.size w' s3 p3 l3 c3 q3 k3 d3 (stV 0 C V) C (5*N+4000)) w (fun W g=>xsign_ V C N (by omega) s p l c q k d B1 W (h.kp g)) (fun W g=>?_)).mono ?_
 ·refine (intX_ (sgV V) (sgV_3 V) W).mono ?_
  rintro e w' ⟨s3,p3,l3,c3,q3,k3,d3,rfl,hp,g1⟩
  exact ⟨s3,p3,l3,c3,q3,k3,d3,rfl,hp.as _ C _ hc (by rw [sgV_st];simp) (by omega),g1⟩
 ·rintro e w' ⟨W,wh,s3,p3,l3,c3,q3,k3,d3,rfl,hq,rfl,hlt,g⟩
  exact ⟨s3,p3,l3,c3,q3,k3,d3,rfl,XP.mono ((((hq).set (x:=⟨w.heap.size+1,0,none⟩) hlt (.bool s3)).set (x:=⟨w.heap.size+1,1,none⟩) hlt (.slice p3 l3 c3)).set (x:=⟨w.heap.size+1,2,none⟩) hlt (.slice q3 k3 d3)) (by omega),KS3 (g) (by first | omega | (simp <;> omega))⟩
theorem stXk_ (kd:Nat) (hk:kd<6) (V:Int) (C N:Nat) (hN:N≤15000) s p l c q k d (B1:Nat) (w:World) (h:XP B1 w s p l c q k d V C N):Calls Tryz.prog 37 #[.int .i64 (kd:Int),.agg #[.bool s,.slice p l c,.slice q k d]] w fun e w'=>∃ s3 p3 l3 c3 q3 k3 d3,e=.returned (.agg #[.bool s3,.slice p3 l3 c3,.slice q3 k3 d3])∧XP w.heap.size w' s3 p3 l3 c3 q3 k3 d3 (stV kd C V) C (5*N+4000)∧Kp w w':=by
 have hc:C≠0:=by obtain ⟨a,b,-,-,hx⟩:=h;exact hx.2.1
 by_cases c0:kd=0
 ·subst c0;exact stX0_ V C N hN s p l c q k d B1 w h
 by_cases c1:kd=1
 ·subst c1
  refine (stX1_ V C N (by omega) s p l c q k d B1 w h).mono ?_
  rintro e w' ⟨s3,p3,l3,c3,q3,k3,d3,rfl,hp,g1⟩
  exact ⟨s3,p3,l3,c3,q3,k3,d3,rfl,hp.as _ C _ hc rfl (by omega),g1⟩
 by_cases c2:kd=2
 ·subst c2
  refine (stX2_ V C N (by omega) s p l c q k d B1 w h).mono ?_
  rintro e w' ⟨s3,p3,l3,c3,q3,k3,d3,rfl,hp,g1⟩
  exact ⟨s3,p3,l3,c3,q3,k3,d3,rfl,hp.as _ C _ hc rfl (by omega),g1⟩
 by_cases c3:kd=3
 ·subst c3
  refine (stX3_ V C N (by omega) s p l c q k d B1 w h).mono ?_
  rintro e w' ⟨s3,p3,l3,c3,q3,k3,d3,rfl,hp,g1⟩
  exact ⟨s3,p3,l3,c3,q3,k3,d3,rfl,hp.as _ C _ hc rfl (by omega),g1⟩
 by_cases c4:kd=4
 ·subst c4;exact stX4_ V C N hN s p l c q k d B1 w h
 by_cases c5:kd=5
 ·subst c5;exact stX5_ V C N hN s p l c q k d B1 w h
 omega
set_option linter.unusedVariables false

theorem fromW_ (K:Nat) (hK:K=1074) (n:Bool) (m:Nat) (hm:m<9218868437227405312) (w:World):Calls Tryz.prog 26 #[.int .u64 ((Fq.wD n m:Nat):Int)] w fun e w'=>∃ s1 p1 l1 c1 q1 k1 d1,e=.returned (.agg #[.bool s1,.slice p1 l1 c1,.slice q1 k1 d1])∧XP 0 w' s1 p1 l1 c1 q1 k1 d1 (vZ (Fq.plz n m)) (2 ^ K) 1500∧Kp w w':=by
 refine (fromR_ n m hm w).mono ?_
 rintro e w' ⟨s1,p1,l1,c1,q1,k1,d1,rfl,h,g⟩
 exact ⟨s1,p1,l1,c1,q1,k1,d1,rfl,Iv_plz n m ▸ (h.xp K hK).mono (Nat.zero_le _),g⟩
theorem wrapEq9 (x:Int) (h:-64≤x∧x≤64):IntKind.i64.wrap x=x:=by
 rw [IntKind.wrap_i64]
 omega
theorem limZ_bb (n:Int):-64≤limZ n∧limZ n≤64:=by unfold limZ;split <;> omega
theorem sgV_lt (z:Int):sgV (vZ z)<0 ↔ z<0:=by
 have e0:vZ 0=0:=by decide
 unfold sgV
 rcases Int.lt_or_le z 0 with c | c
 ·have:=vZ_lt7 z 0 c
  rw [if_pos (by omega)];simp;exact c
 ·have:=(vZ_iff 0 z).2 c
  rw [if_neg (by omega)]
  split <;> omega
theorem sgV_0 (z:Int) (h:sgV (vZ z)≠0):z≠0:=by
 intro e
 apply h
 rw [e];decide
theorem bs_vd (L H z:Int) (d:VdZ L H) (nI:L≠9218868437227405312) (h:L≤z∧z≤H) (f:-9218868437227405312<z∧z<9218868437227405312):VdZ (bsLo L H) (bsHi L H)∧bsLo L H≠9218868437227405312∧bsLo L H≤(z.natAbs:Int)∧(z.natAbs:Int)≤bsHi L H:=by
 unfold VdZ at d
 have d9:=d.resolve_left (fun h=>nI h.1)
 have s:=sM_in L H z (by omega) h
 have b:sMh L H≤9218868437227405312:=by unfold sMh;omega
 unfold bsLo bsHi
 rw [if_neg nI,if_neg nI]
 exact ⟨Or.inr ⟨by omega,by omega,by omega,by omega,by omega⟩,by omega,s.2.1,s.2.2⟩
theorem pholdsB_ (K:Nat) (hK:K=1074) (a b c d p q:Nat) (N:Int) (L1 H1 L2 H2:Int) (hx:Rd a b L1 H1) (hy:Rd c d L2 H2) (hp:p<18446744073709551616) (hq:q<18446744073709551616) (nI1:L1≠9218868437227405312) (nI2:L2≠9218868437227405312) (w:World) (hT:TU7 w):Calls Tryz.prog 5 #[.agg #[.int .u64 ((a:Nat):Int),.int .u64 ((b:Nat):Int)],.agg #[.int .u64 ((c:Nat):Int),.int .u64 ((d:Nat):Int)],.int .u64 ((p:Nat):Int),.int .u64 ((q:Nat):Int),.int .i64 N] w fun e w'=>e=.returned (.bool true)∧Kp w w':=by
 have d1:=hx.vd
 have d2:=hy.vd
 obtain ⟨n1,m1,hm1,l1,u1,hI1⟩:=inside9_ L1 H1 d1 nI1 p hp
 obtain ⟨n2,m2,hm2,l2,u2,hI2⟩:=inside9_ L2 H2 d2 nI2 q hq
 have hF1:=fun W=>fromW_ K hK n1 m1 hm1 W
 have hF2:=fun W=>fromW_ K hK n2 m2 hm2 W
 have f1:-9218868437227405312<Fq.plz n1 m1∧Fq.plz n1 m1<9218868437227405312:=by unfold Fq.plz;split <;> omega
 have f2:-9218868437227405312<Fq.plz n2 m2∧Fq.plz n2 m2<9218868437227405312:=by unfold Fq.plz;split <;> omega
 generalize Fq.plz n1 m1=za at *
 generalize Fq.plz n2 m2=zb at *
 have bM:=limZ_bb N
 have hL:=fun W=>lim_ N W
 generalize limZ N=M at *
 obtain ⟨k,hk⟩:∃ k:Nat,k=M.natAbs:=⟨_,rfl⟩
 have v1:VdZ (nLo K M L1 H1) (nHi K M L1 H1):=(n_all K M L1 H1 L1 H1 d1 d1 nI1 nI1 (Int.le_refl _) (Int.le_refl _)).1
 have hP9:(0:Int)<((2 ^ K:Nat):Int):=by have:=Nat.two_pow_pos K;omega
 have tI:∀ L H,VdZ L H→L≠9218868437227405312→(pI L == 9218868437227405312)=false:=fun L H dd nn=>by
  have h:=pI_eq L 9218868437227405312 dd.lo (by unfold BdZ;omega)
  rw [show pI 9218868437227405312=9218868437227405312 by decide,decide_eq_false nn] at h
  exact h
 have dm:=vd_minP L1 H1 L2 H2 d1 d2
 have dx:=vd_maxP L1 H1 L2 H2 d1 d2
 have em:minLo L1 H1 L2 H2=min L1 L2∧minHi L1 H1 L2 H2=min H1 H2:=by unfold minLo minHi;rw [if_neg (by omega),if_neg (by omega)];exact ⟨rfl,rfl⟩
 have ex:maxLo L1 H1 L2 H2=max L1 L2∧maxHi L1 H1 L2 H2=max H1 H2:=by unfold maxLo maxHi;rw [if_neg (by omega),if_neg (by omega)];exact ⟨rfl,rfl⟩
 have bs:=bs_vd L1 H1 za d1 nI1 ⟨l1,u1⟩ f1
 have bL1:=d1.lo
 have bH1:=d1.hi
 have bL2:=d2.lo
 have bH2:=d2.hi
 have cp:=cm_pos K za zb
 have PLh:=fun (lo hi z:Int) (dd:VdZ lo hi) (nn:lo≠9218868437227405312) (h1:lo≤z) (h2:z≤hi) (W:World) s1 p1 l1 c1 q1 k1 d1 (hz:XP 0 W s1 p1 l1 c1 q1 k1 d1 (vZ z) (2 ^ K) 1500)=>holds9_ K hK lo hi dd nn (vZ z) (2 ^ K) 1500 (by decide) s1 p1 l1 c1 q1 k1 d1 0 W hz (pl_holds K lo hi z h1 h2).1 (pl_holds K lo hi z h1 h2).2
 refine phB_ ((a:Nat):Int) ((b:Nat):Int) ((c:Nat):Int) ((d:Nat):Int) (pI L1) (pI H1) (pI L2) (pI H2) ((p:Nat):Int) ((q:Nat):Int) N M w hT (fun W=>rread9_ a b L1 H1 hx W) (fun W=>rread9_ c d L2 H2 hy W) hL
  (pw L1) (pw H1) (pw L2) (pw H2) (pw (minLo L1 H1 L2 H2)) (pw (minHi L1 H1 L2 H2)) (pw (maxLo L1 H1 L2 H2)) (pw (maxHi L1 H1 L2 H2)) (in9_ _ _) (in9_ _ _)
  (fun W=>minP9_ _ _ _ _ L1 H1 L2 H2 (Rd.of d1) (Rd.of d2) W) (fun W=>maxP9_ _ _ _ _ L1 H1 L2 H2 (Rd.of d1) (Rd.of d2) W) (fun W h=>lives7_ W h)
  (tI L1 H1 d1 nI1) (tI L2 H2 d2 nI2) _ _ hI1 hI2
  (fun w' sx px lx cx qx kx dx=>XP 0 w' sx px lx cx qx kx dx (vZ za) (2 ^ K) 1500) (fun w' sx px lx cx qx kx dx=>XP 0 w' sx px lx cx qx kx dx (vZ zb) (2 ^ K) 1500) (fun U W s1 p1 l1 c1 q1 k1 d1 h g=>h.kp g) (fun U W s2 p2 l2 c2 q2 k2 d2 h g=>h.kp g) hF1 hF2
  (pw (nLo K M L1 H1)) (pw (nHi K M L1 H1)) (fun W h=>pown9_ K hK _ _ L1 H1 M (Rd.of d1) W h)
  (fun w' sx px lx cx qx kx dx=>XP 0 w' sx px lx cx qx kx dx (vZ za ^ k) ((2 ^ K) ^ k) 1540000) (fun w' sx px lx cx qx kx dx=>XP 0 w' sx px lx cx qx kx dx (1) (1) 1500) (fun w' sx px lx cx qx kx dx=>XP 0 w' sx px lx cx qx kx dx (rvI (decide (vZ za<0∧k % 2=1)) 1*1*(((2 ^ K) ^ k:Nat):Int)) (1*(vZ za).natAbs ^ k) 3083003) (fun w' sx px lx cx qx kx dx=>XP 0 w' sx px lx cx qx kx dx (vZ (za.natAbs:Int)) (2 ^ K) 1500)
  (fun W=>fun w' sx px lx cx qx kx dx=>XP W.heap.size w' sx px lx cx qx kx dx (vZ (za.natAbs:Int)) (2 ^ K) 1500)
  (sgV (vZ za)) (cmI (vZ za*((2 ^ K:Nat):Int)) (vZ zb*((2 ^ K:Nat):Int))) (by rcases sgV_3 (vZ za) with h | h | h <;> simp [h])
  ?h8p ?h8h (fun W s1 p1 l1 c1 q1 k1 d1 h=>xsign_ (vZ za) (2 ^ K) 1500 (by decide) s1 p1 l1 c1 q1 k1 d1 0 W h) ?h10i (-M) (wrapEq9 _ (by omega)) ?h10p ?h10q ?h10h
  (fun W s1 p1 l1 c1 q1 k1 d1 s2 p2 l2 c2 q2 k2 d2 h g=>xcmp_ 0 0 (vZ za) (vZ zb) (2 ^ K) (2 ^ K) 1500 1500 (by decide) (by decide) s1 p1 l1 c1 q1 k1 d1 s2 p2 l2 c2 q2 k2 d2 W h g)
  (pw (bsLo L1 H1)) (pw (bsHi L1 H1)) (fun W=>absP9_ _ _ L1 H1 (Rd.of d1) W)
  (fun hh W s2 p2 l2 c2 q2 k2 d2 h=>PLh _ _ zb dm (by rw [em.1];omega) (by rw [em.1];omega) (by rw [em.2];have:=cp.1 hh;omega) W s2 p2 l2 c2 q2 k2 d2 h)
  (fun hh W s1 p1 l1 c1 q1 k1 d1 h=>PLh _ _ za dm (by rw [em.1];omega) (by rw [em.1];omega) (by rw [em.2];have:¬ zb<za:=fun g=>hh (cp.2 g);omega) W s1 p1 l1 c1 q1 k1 d1 h)
  (fun hh W s1 p1 l1 c1 q1 k1 d1 h=>PLh _ _ za dx (by rw [ex.1];omega) (by rw [ex.1];have:=cp.1 hh;omega) (by rw [ex.2];omega) W s1 p1 l1 c1 q1 k1 d1 h)
  (fun hh W s2 p2 l2 c2 q2 k2 d2 h=>PLh _ _ zb dx (by rw [ex.1];omega) (by rw [ex.1];have:¬ zb<za:=fun g=>hh (cp.2 g);omega) (by rw [ex.2];omega) W s2 p2 l2 c2 q2 k2 d2 h)
  (fun U W s6 p6 l6 c6 q6 k6 d6 h g=>h.kp g) ?hNg ?hNs ?hNp
  (fun W s6 p6 l6 c6 q6 k6 d6 h=>PLh _ _ _ bs.1 bs.2.1 bs.2.2.1 bs.2.2.2 W s6 p6 l6 c6 q6 k6 d6 h)
  (fun j=>pw (gLo K j L1 H1)) (fun j=>pw (gHi K j L1 H1)) (fun j=>fun w' sx px lx cx qx kx dx=>XP 0 w' sx px lx cx qx kx dx (stV j (2 ^ K) (vZ za)) (2 ^ K) 11500)
  (fun j hj W=>step9_ K hK j hj _ _ L1 H1 (Rd.of d1) W) ?hSp ?hSh
 case h8p =>
  intro h0 W s1 p1 l1 c1 q1 k1 d1 hz
  have hh:=xpow_ (vZ za) (2 ^ K) k (by omega) s1 p1 l1 c1 q1 k1 d1 0 W hz
  rw [show ((k:Nat):Int)=M by omega] at hh
  refine hh.mono ?_
  rintro e w' ⟨s3,p3,l3,c3,q3,k3,d3,rfl,g1,g2⟩
  exact ⟨s3,p3,l3,c3,q3,k3,d3,rfl,g1.mono (Nat.zero_le _),g2⟩
 case h8h =>
  intro h0 U W s3 p3 l3 c3 q3 k3 d3 hz g
  have ph:=pos_holds K hK k (by omega) L1 H1 za d1 nI1 ⟨l1,u1⟩ f1
  rw [show ((k:Nat):Int)=M by omega] at ph
  exact holds9_ K hK _ _ v1 ph.1 _ _ 1540000 (by decide) s3 p3 l3 c3 q3 k3 d3 0 W (hz.kp g) ph.2.1 ph.2.2
 case h10i =>
  intro W
  refine (int1X_ W).mono ?_
  rintro e w' ⟨s4,p4,l4,c4,q4,k4,d4,rfl,g1,g2⟩
  exact ⟨s4,p4,l4,c4,q4,k4,d4,rfl,g1.mono (Nat.zero_le _),g2⟩
 case h10p =>
  intro h0 hs W s1 p1 l1 c1 q1 k1 d1 hz
  have hh:=xpow_ (vZ za) (2 ^ K) k (by omega) s1 p1 l1 c1 q1 k1 d1 0 W hz
  rw [show ((k:Nat):Int) = -M by omega] at hh
  refine hh.mono ?_
  rintro e w' ⟨s3,p3,l3,c3,q3,k3,d3,rfl,g1,g2⟩
  exact ⟨s3,p3,l3,c3,q3,k3,d3,rfl,g1.mono (Nat.zero_le _),g2⟩
 case h10q =>
  intro h0 hs U4 U3 W s4 p4 l4 c4 q4 k4 d4 s3 p3 l3 c3 q3 k3 d3 h4 g4 h3 g3
  have hv:=vZ_n0 za (sgV_0 za hs)
  have e3:=sg_pow k (vZ za) hv
  replace h3:=h3.kp g3
  rw [e3] at h3
  refine (xquoW_ 1 ((vZ za).natAbs ^ k) _ (by have:=Nat.pow_pos (n:=k) (show 0<(vZ za).natAbs by omega);omega) 1 ((2 ^ K) ^ k) 1500 1540000 (by decide) s4 p4 l4 c4 q4 k4 d4 s3 p3 l3 c3 q3 k3 d3 0 0 W (h4.kp g4) h3).mono ?_
  rintro e w' ⟨s5,p5,l5,c5,q5,k5,d5,rfl,g1,g2⟩
  exact ⟨s5,p5,l5,c5,q5,k5,d5,rfl,g1.mono (Nat.zero_le _),g2⟩
 case h10h =>
  intro h0 hs U W s5 p5 l5 c5 q5 k5 d5 hz g
  have ph:=neg_holds K k (by omega) (by omega) L1 H1 za d1 nI1 ⟨l1,u1⟩ f1 (sgV_0 za hs)
  rw [show -((k:Nat):Int)=M by omega] at ph
  exact holds9_ K hK _ _ v1 ph.1 _ _ 3083003 (by decide) s5 p5 l5 c5 q5 k5 d5 0 W (hz.kp g) ph.2.1 ph.2.2
 case hNg =>
  intro hs W s1 p1 l1 c1 q1 k1 d1 hz
  have hz0:=(sgV_lt za).1 hs
  refine (xneg_ (vZ za) (2 ^ K) 1500 (by decide) s1 p1 l1 c1 q1 k1 d1 0 W hz).mono ?_
  rintro e w' ⟨s6,p6,l6,c6,q6,k6,d6,rfl,g1,g2⟩
  rw [← vZ_neg,show -za=(za.natAbs:Int) by omega] at g1
  exact ⟨s6,p6,l6,c6,q6,k6,d6,rfl,g1,g2⟩
 case hNs =>
  intro W W' s6 p6 l6 c6 q6 k6 d6 b0 hz hb0
  exact (((hz.set (x:=⟨b0,0,none⟩) hb0 _).set (x:=⟨b0,1,none⟩) hb0 _).set (x:=⟨b0,2,none⟩) hb0 _).mono (Nat.zero_le _)
 case hNp =>
  intro hs W s1 p1 l1 c1 q1 k1 d1 hz
  have hz0:¬ za<0:=fun h=>hs ((sgV_lt za).2 h)
  show XP 0 W s1 p1 l1 c1 q1 k1 d1 (vZ (za.natAbs:Int)) (2 ^ K) 1500
  rw [show (za.natAbs:Int)=za by omega]
  exact hz
 case hSp =>
  intro j hj W s1 p1 l1 c1 q1 k1 d1 hz
  refine (stXk_ j hj (vZ za) (2 ^ K) 1500 (by decide) s1 p1 l1 c1 q1 k1 d1 0 W hz).mono ?_
  rintro e w' ⟨s7,p7,l7,c7,q7,k7,d7,rfl,g1,g2⟩
  exact ⟨s7,p7,l7,c7,q7,k7,d7,rfl,g1.mono (Nat.zero_le _),g2⟩
 case hSh =>
  intro j hj U W s7 p7 l7 c7 q7 k7 d7 hz g
  have sa:=st_all K hK j za f1
  have eg:gLo K j L1 H1=stZ K j L1∧gHi K j L1 H1=stZ K j H1:=by unfold gLo gHi;rw [if_neg nI1,if_neg nI1];exact ⟨rfl,rfl⟩
  have bz:BdZ za:=by unfold BdZ;omega
  have mo1:=stZ_mono K hK j L1 za bL1 bz l1
  have mo2:=stZ_mono K hK j za H1 bz bH1 u1
  have dv:=stZ_vd K hK j L1 H1 d1 nI1
  have ph:=pl_holds K (stZ K j L1) (stZ K j H1) (stZ K j za) mo1 mo2
  rw [sa.1] at ph
  show Calls Tryz.prog _ #[.agg #[.float .f64 (pw (gLo K j L1 H1)),.float .f64 (pw (gHi K j L1 H1))],_] W _
  rw [eg.1,eg.2]
  exact holds9_ K hK _ _ dv (by omega) _ _ 11500 (by decide) s7 p7 l7 c7 q7 k7 d7 0 W (hz.kp g) ph.1 ph.2
theorem pholdsA_ (a b c d p q:Nat) (N:Int) (L1 H1 L2 H2:Int) (hx:Rd a b L1 H1) (hy:Rd c d L2 H2) (e:L1=9218868437227405312∨L2=9218868437227405312) (w:World) (hT:TU7 w):Calls Tryz.prog 5 #[.agg #[.int .u64 ((a:Nat):Int),.int .u64 ((b:Nat):Int)],.agg #[.int .u64 ((c:Nat):Int),.int .u64 ((d:Nat):Int)],.int .u64 ((p:Nat):Int),.int .u64 ((q:Nat):Int),.int .i64 N] w fun e w'=>e=.returned (.bool true)∧Kp w w':=by
 have d1:=hx.vd
 have d2:=hy.vd
 have em:minLo L1 H1 L2 H2=9218868437227405312∧minHi L1 H1 L2 H2 = -9218868437227405312:=by unfold minLo minHi;rw [if_pos e,if_pos e];exact ⟨rfl,rfl⟩
 have ex:maxLo L1 H1 L2 H2=9218868437227405312∧maxHi L1 H1 L2 H2 = -9218868437227405312:=by unfold maxLo maxHi;rw [if_pos e,if_pos e];exact ⟨rfl,rfl⟩
 have ho:=fun W=>out9_ (pw 9218868437227405312) (pw (-9218868437227405312)) W
 rw [show ((pw 9218868437227405312:Nat):Int)=9218868437227405312 by decide,show ((pw (-9218868437227405312):Nat):Int)=18442240474082181120 by decide] at ho
 have hMi:=fun W=>minP9_ _ _ _ _ L1 H1 L2 H2 (Rd.of d1) (Rd.of d2) W
 have hMa:=fun W=>maxP9_ _ _ _ _ L1 H1 L2 H2 (Rd.of d1) (Rd.of d2) W
 rw [em.1,em.2] at hMi
 rw [ex.1,ex.2] at hMa
 refine phA_ ((a:Nat):Int) ((b:Nat):Int) ((c:Nat):Int) ((d:Nat):Int) (pI L1) (pI H1) (pI L2) (pI H2) ((p:Nat):Int) ((q:Nat):Int) N (limZ N) w hT (fun W=>rread9_ a b L1 H1 hx W) (fun W=>rread9_ c d L2 H2 hy W) (fun W=>lim_ N W)
  (pw L1) (pw H1) (pw L2) (pw H2) (pw 9218868437227405312) (pw (-9218868437227405312)) (pw 9218868437227405312) (pw (-9218868437227405312)) (in9_ _ _) (in9_ _ _) hMi hMa (fun W h=>lives7_ W h) ?_ ho ho
 have tI:∀ L H,VdZ L H→L≠9218868437227405312→(pI L == 9218868437227405312)=false:=fun L H dd nn=>by
  have h:=pI_eq L 9218868437227405312 dd.lo (by unfold BdZ;omega)
  rw [show pI 9218868437227405312=9218868437227405312 by decide,decide_eq_false nn] at h
  exact h
 by_cases c1:L1=9218868437227405312
 ·left
  have h1:H1 = -9218868437227405312:=by unfold VdZ at d1;omega
  rw [c1,h1];decide
 ·right
  have c2:L2=9218868437227405312:=e.resolve_left c1
  have h2:H2 = -9218868437227405312:=by unfold VdZ at d2;omega
  refine ⟨tI L1 H1 d1 c1, ?_⟩
  rw [c2,h2];decide
theorem pholds_ (a b c d p q:Nat) (N:Int) (ha:a<18446744073709551616) (hb:b<18446744073709551616) (hc:c<18446744073709551616) (hd:d<18446744073709551616) (hp:p<18446744073709551616) (hq:q<18446744073709551616) (w:World) (hT:Tab w) (hQ:Fq.Tab w):Calls Tryz.prog 5 #[.agg #[.int .u64 ((a:Nat):Int),.int .u64 ((b:Nat):Int)],.agg #[.int .u64 ((c:Nat):Int),.int .u64 ((d:Nat):Int)],.int .u64 ((p:Nat):Int),.int .u64 ((q:Nat):Int),.int .i64 N] w fun e w'=>e=.returned (.bool true)∧Kp w w':=by
 obtain ⟨L1,H1,hx⟩:=Rd.ex a b ha hb
 obtain ⟨L2,H2,hy⟩:=Rd.ex c d hc hd
 by_cases e:L1=9218868437227405312∨L2=9218868437227405312
 ·exact pholdsA_ a b c d p q N L1 H1 L2 H2 hx hy e w ⟨hT,hQ⟩
 ·exact pholdsB_ 1074 rfl a b c d p q N L1 H1 L2 H2 hx hy hp hq (fun h=>e (Or.inl h)) (fun h=>e (Or.inr h)) w ⟨hT,hQ⟩
end Go.Proofs.YtcfnialfpblfmaaGreatDoor
