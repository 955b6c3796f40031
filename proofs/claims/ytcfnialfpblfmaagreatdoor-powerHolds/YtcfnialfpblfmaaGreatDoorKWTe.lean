import Derived.Test.YtcfnialfpblfmaaGreatDoorKWTa
import Derived.Test.YtcfnialfpblfmaaGreatDoorKWTd
import Derived.Deep.CutRange
set_option maxHeartbeats 4000000
set_option maxRecDepth 20000
namespace Go.Proofs.YtcfnialfpblfmaaGreatDoor
open Go.RowKit
set_option linter.unusedVariables false

theorem round5_ (K:Nat) (hK:K=1074) (n:Bool) (m:Nat) (hm:m≤9218868437227405312) (w:World):Calls Tryz.prog 57 #[.float .f64 (Fq.wD n m)] w fun e w'=>e=.returned (.float .f64 (Fq.wD n (cR K 5 n m)))∧w'=w:=by
 rw [away_rung K hK n m hm]
 exact roundP_ n m hm w
theorem eq0_pw7 (x:Int) (hx:BdZ x):(FloatKind.f64.format.order (pw x) 0 == some Ordering.eq)=decide (x=0):=peq9 x 0 hx (by unfold BdZ;omega)
theorem lt0_pw7 (x:Int) (hx:BdZ x):(FloatKind.f64.format.order (pw x) 0 == some Ordering.lt)=decide (x<0):=plt9 x 0 hx (by unfold BdZ;omega)
theorem gt0_pw7 (x:Int) (hx:BdZ x):(FloatKind.f64.format.order (pw x) 0 == some Ordering.gt)=decide (0<x):=pgt9 x 0 hx (by unfold BdZ;omega)
theorem Rd.wd (n n':Bool) (m m':Nat) (L H:Int) (hm:m≤9218868437227405312) (hm':m'≤9218868437227405312) (eL:Fq.plz n m=L) (eH:Fq.plz n' m'=H) (hv:VdZ L H) (h:L≤H):Rd (Fq.wD n m) (Fq.wD n' m') L H:=by
 have key:∀ (g:Bool) (r:Nat) (z:Int),r≤9218868437227405312→Fq.plz g r=z→pw z=Fq.pla (Fq.wD g r)∧BdZ z:=by
  intro g r z hr hz
  rw [← hz]
  by_cases c2:Fq.wD g r=9223372036854775808
  ·have hg:g=true∧r=0:=by
    unfold Fq.wD at c2
    cases g
    ·simp at c2;omega
    ·simp at c2;exact ⟨rfl,c2⟩
   rw [c2,hg.1,hg.2]
   exact ⟨by decide,by unfold BdZ Fq.plz;simp⟩
  ·have h:=pw_plz g r c2 hr
   rw [show Fq.pla (Fq.wD g r)=Fq.wD g r from by simp [Fq.pla,c2]]
   exact h
 have k1:=key n m L hm eL
 have k2:=key n' m' H hm' eH
 have w1:Fq.wD n m<18446744073709551616:=by unfold Fq.wD;split <;> omega
 have w2:Fq.wD n' m'<18446744073709551616:=by unfold Fq.wD;split <;> omega
 have s:Fq.snd (Fq.wD n m) (Fq.wD n' m')=true:=by
  rw [Fq.snd_w n n' m m' (by omega) (by omega)]
  apply decide_eq_true
  unfold VdZ at hv
  refine ⟨hm,hm',by rw [eL,eH];exact h, ?_, ?_⟩
  ·rintro ⟨rfl,rfl⟩;unfold Fq.plz at eL;simp at eL;omega
  ·rintro ⟨rfl,rfl⟩;unfold Fq.plz at eH;simp at eH;omega
 refine ⟨w1,w2,hv, ?_, ?_⟩
 ·rw [k1.1];simp [Fq.rlo,s]
 ·rw [k2.1];simp [Fq.rhi,s]
theorem stZ_rd (K:Nat) (hK:K=1074) (k:Nat) (hk:k≠0) (L H:Int) (h:VdZ L H) (n:L≠9218868437227405312):Rd (Fq.wD (decide (L<0)) (cR K k (decide (L<0)) L.natAbs)) (Fq.wD (decide (H<0)) (cR K k (decide (H<0)) H.natAbs)) (stZ K k L) (stZ K k H):=by
 refine Rd.wd _ _ _ _ _ _ (cR_le K hK k _ _ (abs_pw L h.lo)) (cR_le K hK k _ _ (abs_pw H h.hi)) (stZ_word K k hk L h.lo) (stZ_word K k hk H h.hi) (stZ_vd K hK k L H h n) ?_
 exact stZ_mono K hK k L H h.lo h.hi (by unfold VdZ at h;omega)
def gLo (K k:Nat) (L H:Int):Int:=if L=9218868437227405312 then 9218868437227405312 else stZ K k L
def gHi (K k:Nat) (L H:Int):Int:=if L=9218868437227405312 then -9218868437227405312 else stZ K k H
theorem voidP9_ (L H:Int) (h:VdZ L H) (w:World):Calls Tryz.prog 47 #[.agg #[.float .f64 (pw L),.float .f64 (pw H)]] w fun e w'=>e=.returned (.bool (decide (L=9218868437227405312)))∧Kp w w':=by
 have g:=Fq.voidP_ (pw L) (pw H) (pw_lt L h.lo) (pw_lt H h.hi) w
 rw [emp9 L H h] at g
 exact g
theorem sign_pw (z:Int) (hz:BdZ z) (w:World):Calls Tryz.prog 52 #[.float .f64 (pw z)] w fun e w'=>e=.returned (.float .f64 (pw (stZ 1074 0 z)))∧w'=w:=by
 have h:=signA_ (pw z) _ _ (lt0_pw7 z hz) (gt0_pw7 z hz) w
 have e:(if decide (z<0)=true then 13830554455654793216 else if decide (0<z)=true then 4607182418800017408 else 0)=pw (stZ 1074 0 z):=by
  have e2:stZ 1074 0 z=(if z<0 then -4607182418800017408 else if z=0 then 0 else 4607182418800017408):=by unfold stZ;rw [if_pos rfl]
  rw [e2]
  by_cases a:z<0
  ·rw [if_pos (decide_eq_true a),if_pos a];decide
  ·rw [if_neg (by simpa using a),if_neg a]
   by_cases b:z=0
   ·rw [if_neg (by simp;omega),if_pos b];decide
   ·rw [if_pos (by simp;omega),if_neg b];decide
 rw [e] at h
 exact h
theorem stZ_any (K K':Nat) (z:Int):stZ K 0 z=stZ K' 0 z:=by unfold stZ;rw [if_pos rfl,if_pos rfl]
theorem climb91_ (K:Nat) (hK:K=1074) (a b:Nat) (L H:Int) (hx:Rd a b L H) (w:World):Calls Tryz.prog 51 #[.agg #[.float .f64 a,.float .f64 b],.agg #[.func (.func 53) #[] #[]]] w fun e w'=>e=.returned (.agg #[.float .f64 (pw (gLo K 1 L H)),.float .f64 (pw (gHi K 1 L H))])∧Kp w w':=by
 have hv:=fun w=>voidP9_ L H hx.vd w
 by_cases c:L=9218868437227405312
 ·have eH:H = -9218868437227405312:=by have:=hx.vd;unfold VdZ at this;omega
  rw [decide_eq_true c] at hv
  have h:=climbV_ 53 a b _ _ hx.call hv w
  unfold gLo gHi
  rw [if_pos c,if_pos c]
  rw [c,eH] at h
  exact h
 ·rw [decide_eq_false c] at hv
  unfold gLo gHi
  rw [if_neg c,if_neg c]
  exact climbS1_ a b _ _ hx.call hv _ _ _ _ (step1_ K hK (decide (L<0)) L.natAbs (abs_pw L hx.vd.lo)) (step1_ K hK (decide (H<0)) H.natAbs (abs_pw H hx.vd.hi)) ((stZ_rd K hK 1 (by decide) L H hx.vd c).call) w
theorem stepA1_ (a b X Y:Nat) (w:World) (h:∀ W:World,Kp w W→Calls Tryz.prog 51 #[.agg #[.float .f64 a,.float .f64 b],.agg #[.func (.func 53) #[] #[]]] W fun e w'=>e=.returned (.agg #[.float .f64 X,.float .f64 Y])∧Kp W w'):Calls Tryz.prog 13 #[.agg #[.float .f64 a,.float .f64 b]] w fun e w'=>e=.returned (.agg #[.float .f64 X,.float .f64 Y])∧Kp w w':=by
 have kv:Kp w ((w.alloc (.cells #[.float .f64 a,.float .f64 b] 25)).alloc (.cells #[.float .f64 0,.float .f64 0] 25)):=((Kp.refl w).alloc _).alloc _
 have qy:=Fq.H2.two0 w (.float .f64 a) (.float .f64 b) (.float .f64 0) (.float .f64 0) 25 25
 go_enter Tryz.func13,Tryz.ntmps13
 go_wp2_with (first | (go_at_call 51;refine (h _ kv).mono ?_;rintro e w3 ⟨rfl,g3⟩;have k3:Kp w w3:=Kp.trans kv g3;obtain ⟨z0,z1,z2,z3⟩:=Fq.H2.keep qy g3))
 exact BR (v:=.agg #[.float .f64 X,.float .f64 Y]) (by simp [results,Tryz.results13,go_sem,z0,z1]) rfl ⟨rfl,(k3.setCell (by simp) _).setCell (by simp) _⟩
theorem stepB1_ (K:Nat) (hK:K=1074) (a b:Nat) (L H:Int) (hx:Rd a b L H) (w:World):Calls Tryz.prog 13 #[.agg #[.float .f64 a,.float .f64 b]] w fun e w'=>e=.returned (.agg #[.float .f64 (pw (gLo K 1 L H)),.float .f64 (pw (gHi K 1 L H))])∧Kp w w':=stepA1_ a b _ _ w (fun W _=>climb91_ K hK a b L H hx W)
theorem climb92_ (K:Nat) (hK:K=1074) (a b:Nat) (L H:Int) (hx:Rd a b L H) (w:World):Calls Tryz.prog 51 #[.agg #[.float .f64 a,.float .f64 b],.agg #[.func (.func 54) #[] #[]]] w fun e w'=>e=.returned (.agg #[.float .f64 (pw (gLo K 2 L H)),.float .f64 (pw (gHi K 2 L H))])∧Kp w w':=by
 have hv:=fun w=>voidP9_ L H hx.vd w
 by_cases c:L=9218868437227405312
 ·have eH:H = -9218868437227405312:=by have:=hx.vd;unfold VdZ at this;omega
  rw [decide_eq_true c] at hv
  have h:=climbV_ 54 a b _ _ hx.call hv w
  unfold gLo gHi
  rw [if_pos c,if_pos c]
  rw [c,eH] at h
  exact h
 ·rw [decide_eq_false c] at hv
  unfold gLo gHi
  rw [if_neg c,if_neg c]
  exact climbS2_ a b _ _ hx.call hv _ _ _ _ (step2_ K hK (decide (L<0)) L.natAbs (abs_pw L hx.vd.lo)) (step2_ K hK (decide (H<0)) H.natAbs (abs_pw H hx.vd.hi)) ((stZ_rd K hK 2 (by decide) L H hx.vd c).call) w
theorem stepA2_ (a b X Y:Nat) (w:World) (h:∀ W:World,Kp w W→Calls Tryz.prog 51 #[.agg #[.float .f64 a,.float .f64 b],.agg #[.func (.func 54) #[] #[]]] W fun e w'=>e=.returned (.agg #[.float .f64 X,.float .f64 Y])∧Kp W w'):Calls Tryz.prog 14 #[.agg #[.float .f64 a,.float .f64 b]] w fun e w'=>e=.returned (.agg #[.float .f64 X,.float .f64 Y])∧Kp w w':=by
 have kv:Kp w ((w.alloc (.cells #[.float .f64 a,.float .f64 b] 25)).alloc (.cells #[.float .f64 0,.float .f64 0] 25)):=((Kp.refl w).alloc _).alloc _
 have qy:=Fq.H2.two0 w (.float .f64 a) (.float .f64 b) (.float .f64 0) (.float .f64 0) 25 25
 go_enter Tryz.func14,Tryz.ntmps14
 go_wp2_with (first | (go_at_call 51;refine (h _ kv).mono ?_;rintro e w3 ⟨rfl,g3⟩;have k3:Kp w w3:=Kp.trans kv g3;obtain ⟨z0,z1,z2,z3⟩:=Fq.H2.keep qy g3))
 exact BR (v:=.agg #[.float .f64 X,.float .f64 Y]) (by simp [results,Tryz.results14,go_sem,z0,z1]) rfl ⟨rfl,(k3.setCell (by simp) _).setCell (by simp) _⟩
theorem stepB2_ (K:Nat) (hK:K=1074) (a b:Nat) (L H:Int) (hx:Rd a b L H) (w:World):Calls Tryz.prog 14 #[.agg #[.float .f64 a,.float .f64 b]] w fun e w'=>e=.returned (.agg #[.float .f64 (pw (gLo K 2 L H)),.float .f64 (pw (gHi K 2 L H))])∧Kp w w':=stepA2_ a b _ _ w (fun W _=>climb92_ K hK a b L H hx W)
theorem climb93_ (K:Nat) (hK:K=1074) (a b:Nat) (L H:Int) (hx:Rd a b L H) (w:World):Calls Tryz.prog 51 #[.agg #[.float .f64 a,.float .f64 b],.agg #[.func (.func 55) #[] #[]]] w fun e w'=>e=.returned (.agg #[.float .f64 (pw (gLo K 3 L H)),.float .f64 (pw (gHi K 3 L H))])∧Kp w w':=by
 have hv:=fun w=>voidP9_ L H hx.vd w
 by_cases c:L=9218868437227405312
 ·have eH:H = -9218868437227405312:=by have:=hx.vd;unfold VdZ at this;omega
  rw [decide_eq_true c] at hv
  have h:=climbV_ 55 a b _ _ hx.call hv w
  unfold gLo gHi
  rw [if_pos c,if_pos c]
  rw [c,eH] at h
  exact h
 ·rw [decide_eq_false c] at hv
  unfold gLo gHi
  rw [if_neg c,if_neg c]
  exact climbS3_ a b _ _ hx.call hv _ _ _ _ (step3_ K hK (decide (L<0)) L.natAbs (abs_pw L hx.vd.lo)) (step3_ K hK (decide (H<0)) H.natAbs (abs_pw H hx.vd.hi)) ((stZ_rd K hK 3 (by decide) L H hx.vd c).call) w
theorem stepA3_ (a b X Y:Nat) (w:World) (h:∀ W:World,Kp w W→Calls Tryz.prog 51 #[.agg #[.float .f64 a,.float .f64 b],.agg #[.func (.func 55) #[] #[]]] W fun e w'=>e=.returned (.agg #[.float .f64 X,.float .f64 Y])∧Kp W w'):Calls Tryz.prog 15 #[.agg #[.float .f64 a,.float .f64 b]] w fun e w'=>e=.returned (.agg #[.float .f64 X,.float .f64 Y])∧Kp w w':=by
 have kv:Kp w ((w.alloc (.cells #[.float .f64 a,.float .f64 b] 25)).alloc (.cells #[.float .f64 0,.float .f64 0] 25)):=((Kp.refl w).alloc _).alloc _
 have qy:=Fq.H2.two0 w (.float .f64 a) (.float .f64 b) (.float .f64 0) (.float .f64 0) 25 25
 go_enter Tryz.func15,Tryz.ntmps15
 go_wp2_with (first | (go_at_call 51;refine (h _ kv).mono ?_;rintro e w3 ⟨rfl,g3⟩;have k3:Kp w w3:=Kp.trans kv g3;obtain ⟨z0,z1,z2,z3⟩:=Fq.H2.keep qy g3))
 exact BR (v:=.agg #[.float .f64 X,.float .f64 Y]) (by simp [results,Tryz.results15,go_sem,z0,z1]) rfl ⟨rfl,(k3.setCell (by simp) _).setCell (by simp) _⟩
theorem stepB3_ (K:Nat) (hK:K=1074) (a b:Nat) (L H:Int) (hx:Rd a b L H) (w:World):Calls Tryz.prog 15 #[.agg #[.float .f64 a,.float .f64 b]] w fun e w'=>e=.returned (.agg #[.float .f64 (pw (gLo K 3 L H)),.float .f64 (pw (gHi K 3 L H))])∧Kp w w':=stepA3_ a b _ _ w (fun W _=>climb93_ K hK a b L H hx W)
theorem climb95_ (K:Nat) (hK:K=1074) (a b:Nat) (L H:Int) (hx:Rd a b L H) (w:World):Calls Tryz.prog 51 #[.agg #[.float .f64 a,.float .f64 b],.agg #[.func (.func 57) #[] #[]]] w fun e w'=>e=.returned (.agg #[.float .f64 (pw (gLo K 5 L H)),.float .f64 (pw (gHi K 5 L H))])∧Kp w w':=by
 have hv:=fun w=>voidP9_ L H hx.vd w
 by_cases c:L=9218868437227405312
 ·have eH:H = -9218868437227405312:=by have:=hx.vd;unfold VdZ at this;omega
  rw [decide_eq_true c] at hv
  have h:=climbV_ 57 a b _ _ hx.call hv w
  unfold gLo gHi
  rw [if_pos c,if_pos c]
  rw [c,eH] at h
  exact h
 ·rw [decide_eq_false c] at hv
  unfold gLo gHi
  rw [if_neg c,if_neg c]
  exact climbS5_ a b _ _ hx.call hv _ _ _ _ (round5_ K hK (decide (L<0)) L.natAbs (abs_pw L hx.vd.lo)) (round5_ K hK (decide (H<0)) H.natAbs (abs_pw H hx.vd.hi)) ((stZ_rd K hK 5 (by decide) L H hx.vd c).call) w
theorem stepA5_ (a b X Y:Nat) (w:World) (h:∀ W:World,Kp w W→Calls Tryz.prog 51 #[.agg #[.float .f64 a,.float .f64 b],.agg #[.func (.func 57) #[] #[]]] W fun e w'=>e=.returned (.agg #[.float .f64 X,.float .f64 Y])∧Kp W w'):Calls Tryz.prog 17 #[.agg #[.float .f64 a,.float .f64 b]] w fun e w'=>e=.returned (.agg #[.float .f64 X,.float .f64 Y])∧Kp w w':=by
 have kv:Kp w ((w.alloc (.cells #[.float .f64 a,.float .f64 b] 25)).alloc (.cells #[.float .f64 0,.float .f64 0] 25)):=((Kp.refl w).alloc _).alloc _
 have qy:=Fq.H2.two0 w (.float .f64 a) (.float .f64 b) (.float .f64 0) (.float .f64 0) 25 25
 go_enter Tryz.func17,Tryz.ntmps17
 go_wp2_with (first | (go_at_call 51;refine (h _ kv).mono ?_;rintro e w3 ⟨rfl,g3⟩;have k3:Kp w w3:=Kp.trans kv g3;obtain ⟨z0,z1,z2,z3⟩:=Fq.H2.keep qy g3))
 exact BR (v:=.agg #[.float .f64 X,.float .f64 Y]) (by simp [results,Tryz.results17,go_sem,z0,z1]) rfl ⟨rfl,(k3.setCell (by simp) _).setCell (by simp) _⟩
theorem stepB5_ (K:Nat) (hK:K=1074) (a b:Nat) (L H:Int) (hx:Rd a b L H) (w:World):Calls Tryz.prog 17 #[.agg #[.float .f64 a,.float .f64 b]] w fun e w'=>e=.returned (.agg #[.float .f64 (pw (gLo K 5 L H)),.float .f64 (pw (gHi K 5 L H))])∧Kp w w':=stepA5_ a b _ _ w (fun W _=>climb95_ K hK a b L H hx W)
theorem climb90_ (K:Nat) (hK:K=1074) (a b:Nat) (L H:Int) (hx:Rd a b L H) (w:World):Calls Tryz.prog 51 #[.agg #[.float .f64 a,.float .f64 b],.agg #[.func (.func 52) #[] #[]]] w fun e w'=>e=.returned (.agg #[.float .f64 (pw (gLo K 0 L H)),.float .f64 (pw (gHi K 0 L H))])∧Kp w w':=by
 have hv:=fun w=>voidP9_ L H hx.vd w
 by_cases c:L=9218868437227405312
 ·have eH:H = -9218868437227405312:=by have:=hx.vd;unfold VdZ at this;omega
  rw [decide_eq_true c] at hv
  have h:=climbV_ 52 a b _ _ hx.call hv w
  unfold gLo gHi
  rw [if_pos c,if_pos c]
  rw [c,eH] at h
  exact h
 ·rw [decide_eq_false c] at hv
  unfold gLo gHi
  rw [if_neg c,if_neg c]
  rw [stZ_any K 1074 L,stZ_any K 1074 H]
  exact climbS0_ a b _ _ hx.call hv _ _ _ _ (sign_pw L hx.vd.lo) (sign_pw H hx.vd.hi) ((Rd.of (stZ_vd 1074 rfl 0 L H hx.vd c)).call) w
theorem stepA0_ (a b X Y:Nat) (w:World) (h:∀ W:World,Kp w W→Calls Tryz.prog 51 #[.agg #[.float .f64 a,.float .f64 b],.agg #[.func (.func 52) #[] #[]]] W fun e w'=>e=.returned (.agg #[.float .f64 X,.float .f64 Y])∧Kp W w'):Calls Tryz.prog 12 #[.agg #[.float .f64 a,.float .f64 b]] w fun e w'=>e=.returned (.agg #[.float .f64 X,.float .f64 Y])∧Kp w w':=by
 have kv:Kp w ((w.alloc (.cells #[.float .f64 a,.float .f64 b] 25)).alloc (.cells #[.float .f64 0,.float .f64 0] 25)):=((Kp.refl w).alloc _).alloc _
 have qy:=Fq.H2.two0 w (.float .f64 a) (.float .f64 b) (.float .f64 0) (.float .f64 0) 25 25
 go_enter Tryz.func12,Tryz.ntmps12
 go_wp2_with (first | (go_at_call 51;refine (h _ kv).mono ?_;rintro e w3 ⟨rfl,g3⟩;have k3:Kp w w3:=Kp.trans kv g3;obtain ⟨z0,z1,z2,z3⟩:=Fq.H2.keep qy g3))
 exact BR (v:=.agg #[.float .f64 X,.float .f64 Y]) (by simp [results,Tryz.results12,go_sem,z0,z1]) rfl ⟨rfl,(k3.setCell (by simp) _).setCell (by simp) _⟩
theorem stepB0_ (K:Nat) (hK:K=1074) (a b:Nat) (L H:Int) (hx:Rd a b L H) (w:World):Calls Tryz.prog 12 #[.agg #[.float .f64 a,.float .f64 b]] w fun e w'=>e=.returned (.agg #[.float .f64 (pw (gLo K 0 L H)),.float .f64 (pw (gHi K 0 L H))])∧Kp w w':=stepA0_ a b _ _ w (fun W _=>climb90_ K hK a b L H hx W)
theorem climb94_ (K:Nat) (hK:K=1074) (a b:Nat) (L H:Int) (hx:Rd a b L H) (w:World):Calls Tryz.prog 51 #[.agg #[.float .f64 a,.float .f64 b],.agg #[.func (.func 58) #[] #[]]] w fun e w'=>e=.returned (.agg #[.float .f64 (pw (gLo K 4 L H)),.float .f64 (pw (gHi K 4 L H))])∧Kp w w':=by
 have hv:=fun w=>voidP9_ L H hx.vd w
 by_cases c:L=9218868437227405312
 ·have eH:H = -9218868437227405312:=by have:=hx.vd;unfold VdZ at this;omega
  rw [decide_eq_true c] at hv
  have h:=climbV_ 58 a b _ _ hx.call hv w
  unfold gLo gHi
  rw [if_pos c,if_pos c]
  rw [c,eH] at h
  exact h
 ·rw [decide_eq_false c] at hv
  unfold gLo gHi
  rw [if_neg c,if_neg c]
  exact climbS4_ a b _ _ hx.call hv _ _ _ _ (step4_ K hK (decide (L<0)) L.natAbs (abs_pw L hx.vd.lo)) (step4_ K hK (decide (H<0)) H.natAbs (abs_pw H hx.vd.hi)) ((stZ_rd K hK 4 (by decide) L H hx.vd c).call) w
theorem stepA4_ (a b X Y:Nat) (w:World) (h:∀ W:World,Kp w W→Calls Tryz.prog 51 #[.agg #[.float .f64 a,.float .f64 b],.agg #[.func (.func 58) #[] #[]]] W fun e w'=>e=.returned (.agg #[.float .f64 X,.float .f64 Y])∧Kp W w'):Calls Tryz.prog 18 #[.agg #[.float .f64 a,.float .f64 b]] w fun e w'=>e=.returned (.agg #[.float .f64 X,.float .f64 Y])∧Kp w w':=by
 have kv:Kp w ((w.alloc (.cells #[.float .f64 a,.float .f64 b] 25)).alloc (.cells #[.float .f64 0,.float .f64 0] 25)):=((Kp.refl w).alloc _).alloc _
 have qy:=Fq.H2.two0 w (.float .f64 a) (.float .f64 b) (.float .f64 0) (.float .f64 0) 25 25
 go_enter Tryz.func18,Tryz.ntmps18
 go_wp2_with (first | (go_at_call 51;refine (h _ kv).mono ?_;rintro e w3 ⟨rfl,g3⟩;have k3:Kp w w3:=Kp.trans kv g3;obtain ⟨z0,z1,z2,z3⟩:=Fq.H2.keep qy g3))
 exact BR (v:=.agg #[.float .f64 X,.float .f64 Y]) (by simp [results,Tryz.results18,go_sem,z0,z1]) rfl ⟨rfl,(k3.setCell (by simp) _).setCell (by simp) _⟩
theorem stepB4_ (K:Nat) (hK:K=1074) (a b:Nat) (L H:Int) (hx:Rd a b L H) (w:World):Calls Tryz.prog 18 #[.agg #[.float .f64 a,.float .f64 b]] w fun e w'=>e=.returned (.agg #[.float .f64 (pw (gLo K 4 L H)),.float .f64 (pw (gHi K 4 L H))])∧Kp w w':=stepA4_ a b _ _ w (fun W _=>climb94_ K hK a b L H hx W)
theorem absV_ (a b LO HI:Nat) (hr:KC 46 #[.agg #[.float .f64 a,.float .f64 b]] (.agg #[.float .f64 LO,.float .f64 HI])) (hv:KC 47 #[.agg #[.float .f64 LO,.float .f64 HI]] (.bool true)) (w:World):Calls Tryz.prog 35 #[.agg #[.float .f64 a,.float .f64 b]] w fun e w'=>e=.returned (.agg #[.float .f64 LO,.float .f64 HI])∧Kp w w':=by
 go_enter Tryz.func35,Tryz.ntmps35
 go_wp2_with (first | (go_at_call 46;refine (hr _).mono ?_;rintro e w1 ⟨rfl,g1⟩;have q0:=Fq.H2.keep (Fq.H2.past (Fq.H2.new w (.float .f64 a) (.float .f64 b) 25) #[.float .f64 0,.float .f64 0] 25) g1;have q1:Fq.H2 w1 (w.heap.size+1) (.float .f64 0) (.float .f64 0):=Fq.H2.keep (Fq.H2.two0 w (.float .f64 a) (.float .f64 b) (.float .f64 0) (.float .f64 0) 25 25) g1;have kw:Kp w w1:=Kp.trans (((Kp.refl w).alloc _).alloc _) g1;obtain ⟨x0,x1,x2,x3⟩:=id q0;obtain ⟨y0,y1,y2,y3⟩:=id q1) | (go_at_call 47;refine (hv _).mono ?_;rintro e w2 ⟨rfl,g2⟩;have qx:=Fq.H2.keep (Fq.H2.put q0 (.float .f64 LO) (.float .f64 HI)) g2;have qy:=Fq.H2.keep (Fq.H2.far q1 (show w.heap.size≠w.heap.size+1 by omega) (.float .f64 LO) (.float .f64 HI)) g2;have kv:Kp w w2:=Kp.trans ((kw.setCell (Nat.le_refl _) _).setCell (Nat.le_refl _) _) g2;obtain ⟨u0,u1,u2,u3⟩:=id qx;obtain ⟨v0,v1,v2,v3⟩:=id qy))
 exact BR (v:=.agg #[.float .f64 LO,.float .f64 HI]) (by simp [results,Tryz.results35,go_sem,v0,v1]) rfl ⟨rfl,(kv.setCell (by simp) _).setCell (by simp) _⟩
theorem absS_ (a b LO HI:Nat) (hr:KC 46 #[.agg #[.float .f64 a,.float .f64 b]] (.agg #[.float .f64 LO,.float .f64 HI])) (hv:KC 47 #[.agg #[.float .f64 LO,.float .f64 HI]] (.bool false)) (TL TH NL NH:Nat) (hn:KC 44 #[.agg #[.float .f64 LO,.float .f64 HI]] (.agg #[.float .f64 TL,.float .f64 TH])) (hm1:∀ (ts:Array TypeId) (t:TypeId) (w:World),(Builtin.max_ ts t #[.float .f64 LO,.float .f64 TL,.float .f64 0]).run Tryz.prog w=.ok (.float .f64 NL) w) (hm2:∀ (ts:Array TypeId) (t:TypeId) (w:World),(Builtin.max_ ts t #[.float .f64 HI,.float .f64 TH]).run Tryz.prog w=.ok (.float .f64 NH) w) (w:World):Calls Tryz.prog 35 #[.agg #[.float .f64 a,.float .f64 b]] w fun e w'=>e=.returned (.agg #[.float .f64 NL,.float .f64 NH])∧Kp w w':=by
 go_enter Tryz.func35,Tryz.ntmps35
 go_wp2_with (first | (go_at_call 46;refine (hr _).mono ?_;rintro e w1 ⟨rfl,g1⟩;have q0:=Fq.H2.keep (Fq.H2.past (Fq.H2.new w (.float .f64 a) (.float .f64 b) 25) #[.float .f64 0,.float .f64 0] 25) g1;have q1:Fq.H2 w1 (w.heap.size+1) (.float .f64 0) (.float .f64 0):=Fq.H2.keep (Fq.H2.two0 w (.float .f64 a) (.float .f64 b) (.float .f64 0) (.float .f64 0) 25 25) g1;have kw:Kp w w1:=Kp.trans (((Kp.refl w).alloc _).alloc _) g1;obtain ⟨x0,x1,x2,x3⟩:=id q0;obtain ⟨y0,y1,y2,y3⟩:=id q1) | (go_at_call 47;refine (hv _).mono ?_;rintro e w2 ⟨rfl,g2⟩;have qx:=Fq.H2.keep (Fq.H2.put q0 (.float .f64 LO) (.float .f64 HI)) g2;have qy:=Fq.H2.keep (Fq.H2.far q1 (show w.heap.size≠w.heap.size+1 by omega) (.float .f64 LO) (.float .f64 HI)) g2;have kv:Kp w w2:=Kp.trans ((kw.setCell (Nat.le_refl _) _).setCell (Nat.le_refl _) _) g2;obtain ⟨u0,u1,u2,u3⟩:=id qx;obtain ⟨v0,v1,v2,v3⟩:=id qy) | (go_at_call 44;refine (hn _).mono ?_;rintro e w3 ⟨rfl,g3⟩;have k3:Kp w w3:=Kp.trans kv g3;have qa:=Fq.H2.keep qx g3;have qb:=Fq.H2.keep qy g3;have qc:=Fq.H2.past qa #[.float .f64 TL,.float .f64 TH] 25;have qd:=Fq.H2.past qb #[.float .f64 TL,.float .f64 TH] 25;obtain ⟨c0,c1,c2,c3⟩:=id qc;obtain ⟨d0,d1,d2,d3⟩:=id qd))
 exact BR (v:=.agg #[.float .f64 NL,.float .f64 NH]) (by simp [results,Tryz.results35,go_sem,d0,d1]) rfl ⟨rfl,KS2 ((k3.alloc _)) (by first | omega | (simp <;> omega))⟩
set_option linter.unusedVariables false
set_option linter.unusedVariables false

theorem opP_pw (x:Int) (h:BdZ x):opP (pw x)=pw (-x):=by
 have h2:=abs_pw x h
 unfold opP pw Fq.wD
 rcases Int.lt_trichotomy x 0 with c | c | c
 ·rw [decide_eq_true c,decide_eq_false (show ¬ -x<0 by omega),Int.natAbs_neg]
  simp;repeat' split
  all_goals omega
 ·subst c;rfl
 ·rw [decide_eq_false (show ¬ x<0 by omega),decide_eq_true (show -x<0 by omega),Int.natAbs_neg]
  simp;repeat' split
  all_goals omega
theorem bd_neg (x:Int) (h:BdZ x):BdZ (-x):=by unfold BdZ at *;omega
theorem minus9_ (x:Int) (h:BdZ x) (w:World):Calls Tryz.prog 83 #[.float .f64 (pw x)] w fun e w'=>e=.returned (.float .f64 (pw (-x)))∧w'=w:=by
 have g:=minus6_ (decide (x<0)) x.natAbs (abs_pw x h) w
 have e:=opP_pw x h
 unfold pw at e ⊢
 rw [e] at g
 exact g
theorem neg9_ (a b:Nat) (L H:Int) (hx:Rd a b L H) (w:World):Calls Tryz.prog 44 #[.agg #[.float .f64 a,.float .f64 b]] w fun e w'=>e=.returned (.agg #[.float .f64 (pw (-H)),.float .f64 (pw (-L))])∧Kp w w' :=
 neg6c_ a b _ _ _ _ hx.call (minus9_ L hx.vd.lo) (minus9_ H hx.vd.hi) w
theorem empty9_ (w:World):Calls Tryz.prog 56 #[] w fun e w'=>e=.returned (.agg #[.float .f64 9218868437227405312,.float .f64 18442240474082181120])∧Kp w w':=by
 refine (Fq.empty6_ w).mono ?_
 exact fun e w' h=>⟨h.1,by first | exact h.2 | (rw [h.2];exact (Kp.refl _).alloc _)⟩
theorem max3A_ (X Y R S:Nat) (ho:(FloatKind.f64.format.order X Y=some .lt∧R=Y)∨(FloatKind.f64.format.order X Y=some .gt∧R=X)∨(X=Y∧R=X∧FloatKind.f64.format.order X X=some .eq)) (hz:(FloatKind.f64.format.order R 0=some .lt∧S=0)∨(FloatKind.f64.format.order R 0=some .gt∧S=R)∨(R=0∧S=0∧FloatKind.f64.format.order 0 0=some .eq)) (ts:Array TypeId) (t:TypeId) (w:World):(Builtin.max_ ts t #[.float .f64 X,.float .f64 Y,.float .f64 0]).run Tryz.prog w=.ok (.float .f64 S) w:=by
 rcases ho with ⟨h,rfl⟩ | ⟨h,rfl⟩ | ⟨rfl,rfl,h⟩ <;> rcases hz with ⟨h2,rfl⟩ | ⟨h2,rfl⟩ | ⟨rfl,rfl,h2⟩ <;> simp [Builtin.max_,Builtin.max2,h,h2]

def sMl (L H:Int):Int:=if L≤0∧0≤H then 0 else min (L.natAbs:Int) (H.natAbs:Int)
def sMh (L H:Int):Int:=max (L.natAbs:Int) (H.natAbs:Int)
theorem max3_9 (x y:Int) (hx:BdZ x) (hy:BdZ y) (ts:Array TypeId) (t:TypeId) (w:World):(Builtin.max_ ts t #[.float .f64 (pw x),.float .f64 (pw y),.float .f64 0]).run Tryz.prog w=.ok (.float .f64 (pw (max (max x y) 0))) w:=by
 have h0:BdZ 0:=by unfold BdZ;omega
 have p0:pw 0=0:=by decide
 refine max3A_ (pw x) (pw y) (pw (max x y)) _ ?_ ?_ ts t w
 ·have o:=ord_pw x y hx hy
  rcases Int.lt_trichotomy x y with g | g | g
  ·rw [Fq.cmp_lt g] at o;exact Or.inl ⟨o,by rw [show max x y=y from by omega]⟩
  ·rw [Fq.cmp_eq g] at o;exact Or.inr (Or.inr ⟨by rw [g],by rw [show max x y=x from by omega],by rw [← g] at o;exact o⟩)
  ·rw [Fq.cmp_gt g] at o;exact Or.inr (Or.inl ⟨o,by rw [show max x y=x from by omega]⟩)
 ·have o:=ord_pw (max x y) 0 (bd_max x y hx hy) h0
  rw [p0] at o
  generalize max x y=z at *
  rcases Int.lt_trichotomy z 0 with g | g | g
  ·rw [Fq.cmp_lt g] at o;exact Or.inl ⟨o,by rw [show max z 0=0 from by omega,p0]⟩
  ·rw [Fq.cmp_eq g] at o;rw [g,p0] at o;exact Or.inr (Or.inr ⟨by rw [g,p0],by rw [show max z 0=0 from by omega,p0],o⟩)
  ·rw [Fq.cmp_gt g] at o;exact Or.inr (Or.inl ⟨o,by rw [show max z 0=z from by omega]⟩)
def bsLo (L H:Int):Int:=if L=9218868437227405312 then 9218868437227405312 else sMl L H
def bsHi (L H:Int):Int:=if L=9218868437227405312 then -9218868437227405312 else sMh L H
theorem absP9_ (a b:Nat) (L H:Int) (hx:Rd a b L H) (w:World):Calls Tryz.prog 35 #[.agg #[.float .f64 a,.float .f64 b]] w fun e w'=>e=.returned (.agg #[.float .f64 (pw (bsLo L H)),.float .f64 (pw (bsHi L H))])∧Kp w w':=by
 have hv:=fun w=>voidP9_ L H hx.vd w
 have hd:=hx.vd
 unfold bsLo bsHi
 by_cases c:L=9218868437227405312
 ·have eH:H = -9218868437227405312:=by unfold VdZ at hd;omega
  rw [decide_eq_true c] at hv
  rw [if_pos c,if_pos c]
  have h:=absV_ a b _ _ hx.call hv w
  rw [c,eH] at h
  exact h
 ·rw [decide_eq_false c] at hv
  rw [if_neg c,if_neg c]
  have e1:max (max L (-H)) 0=sMl L H:=by unfold sMl;unfold VdZ at hd;split <;> omega
  have e2:max H (-L)=sMh L H:=by unfold sMh;unfold VdZ at hd;omega
  have m1:=fun ts t w=>max3_9 L (-H) hd.lo (bd_neg H hd.hi) ts t w
  have m2:=fun ts t w=>max9_ H (-L) hd.hi (bd_neg L hd.lo) ts t w
  rw [e1] at m1
  rw [e2] at m2
  exact absS_ a b _ _ hx.call hv _ _ _ _ (neg9_ _ _ L H (Rd.of hd)) m1 m2 w
theorem mmv1_ (f9:Nat) (hf9:f9=16∨f9=25) (a b c d L1 H1 L2 H2:Nat) (hx:KC 46 #[.agg #[.float .f64 a,.float .f64 b]] (.agg #[.float .f64 L1,.float .f64 H1])) (hy:KC 46 #[.agg #[.float .f64 c,.float .f64 d]] (.agg #[.float .f64 L2,.float .f64 H2])) (hv1:KC 47 #[.agg #[.float .f64 L1,.float .f64 H1]] (.bool true)) (hE:KC 56 #[] (.agg #[.float .f64 9218868437227405312,.float .f64 18442240474082181120])) (w:World):Calls Tryz.prog f9 #[.agg #[.float .f64 a,.float .f64 b],.agg #[.float .f64 c,.float .f64 d]] w fun e w'=>e=.returned (.agg #[.float .f64 9218868437227405312,.float .f64 18442240474082181120])∧Kp w w':=by
  rcases hf9 with rfl | rfl
  go_enter Tryz.func16,Tryz.ntmps16
  rotate_left
  go_enter Tryz.func25,Tryz.ntmps25
  all_goals
   go_wp2
   go_region_with (first | (go_at_call_of 46 (Value.agg #[.float .f64 a,.float .f64 b]);refine (hx _).mono ?_;rintro e wx ⟨rfl,gx⟩;first | (have kx:=Kp.trans ky gx;have sx:=H6.keep sy gx;obtain ⟨⟨p0,p1,p2,p3⟩,⟨p4,p5,p6,p7⟩,⟨p8,p9,pa,pb⟩⟩:=id sx) | (have kx:Kp w wx:=Kp.trans (((((Kp.refl w).alloc _).alloc _).alloc _).drew) gx;have sx:=H6.keep (H6.new w (.float .f64 a) (.float .f64 b) (.float .f64 c) (.float .f64 d) (.float .f64 0) (.float .f64 0) 25 25 25) (Kp.trans (Kp.drew (Kp.refl _)) gx);obtain ⟨⟨p0,p1,p2,p3⟩,⟨p4,p5,p6,p7⟩,⟨p8,p9,pa,pb⟩⟩:=id sx)) | (go_at_call_of 46 (Value.agg #[.float .f64 c,.float .f64 d]);refine (hy _).mono ?_;rintro e wy ⟨rfl,gy⟩;first | (have ky:=Kp.trans kx gy;have sy:=H6.keep sx gy;obtain ⟨⟨p0,p1,p2,p3⟩,⟨p4,p5,p6,p7⟩,⟨p8,p9,pa,pb⟩⟩:=id sy) | (have ky:Kp w wy:=Kp.trans (((((Kp.refl w).alloc _).alloc _).alloc _).drew) gy;have sy:=H6.keep (H6.new w (.float .f64 a) (.float .f64 b) (.float .f64 c) (.float .f64 d) (.float .f64 0) (.float .f64 0) 25 25 25) (Kp.trans (Kp.drew (Kp.refl _)) gy);obtain ⟨⟨p0,p1,p2,p3⟩,⟨p4,p5,p6,p7⟩,⟨p8,p9,pa,pb⟩⟩:=id sy)))
   all_goals (first
    | skip
      have sw:=H6.put (id sy:H6 wy w.heap.size (.float .f64 a) (.float .f64 b) (.float .f64 c) (.float .f64 d) (.float .f64 0) (.float .f64 0)) (.float .f64 L1) (.float .f64 H1) (.float .f64 L2) (.float .f64 H2)
      have kw:Kp w ((((wy.setCell ⟨w.heap.size,0,none⟩ (.float .f64 L1)).setCell ⟨w.heap.size,1,none⟩ (.float .f64 H1)).setCell ⟨w.heap.size+1,0,none⟩ (.float .f64 L2)).setCell ⟨w.heap.size+1,1,none⟩ (.float .f64 H2)):=(((ky.setCell (Nat.le_refl _) _).setCell (Nat.le_refl _) _).setCell (Nat.le_succ _) _).setCell (Nat.le_succ _) _
      generalize hW:((((wy.setCell ⟨w.heap.size,0,none⟩ (.float .f64 L1)).setCell ⟨w.heap.size,1,none⟩ (.float .f64 H1)).setCell ⟨w.heap.size+1,0,none⟩ (.float .f64 L2)).setCell ⟨w.heap.size+1,1,none⟩ (.float .f64 H2))=W at sw kw ⊢
      clear hW
    | skip
      have sw:=H6.put (id sx:H6 wx w.heap.size (.float .f64 a) (.float .f64 b) (.float .f64 c) (.float .f64 d) (.float .f64 0) (.float .f64 0)) (.float .f64 L1) (.float .f64 H1) (.float .f64 L2) (.float .f64 H2)
      have kw:Kp w ((((wx.setCell ⟨w.heap.size,0,none⟩ (.float .f64 L1)).setCell ⟨w.heap.size,1,none⟩ (.float .f64 H1)).setCell ⟨w.heap.size+1,0,none⟩ (.float .f64 L2)).setCell ⟨w.heap.size+1,1,none⟩ (.float .f64 H2)):=(((kx.setCell (Nat.le_refl _) _).setCell (Nat.le_refl _) _).setCell (Nat.le_succ _) _).setCell (Nat.le_succ _) _
      generalize hW:((((wx.setCell ⟨w.heap.size,0,none⟩ (.float .f64 L1)).setCell ⟨w.heap.size,1,none⟩ (.float .f64 H1)).setCell ⟨w.heap.size+1,0,none⟩ (.float .f64 L2)).setCell ⟨w.heap.size+1,1,none⟩ (.float .f64 H2))=W at sw kw ⊢
      clear hW)
   all_goals (
    obtain ⟨⟨p0,p1,p2,p3⟩,⟨p4,p5,p6,p7⟩,⟨p8,p9,pa,pb⟩⟩:=id sw
    go_wp2_with (first | (go_at_call_of 47 (Value.agg #[.float .f64 L1,.float .f64 H1]);refine (hv1 _).mono ?_;rintro e wv ⟨rfl,gv⟩;have kv:=Kp.trans kw gv;have sv:=H6.keep sw gv;obtain ⟨⟨u0,u1,u2,u3⟩,⟨u4,u5,u6,u7⟩,⟨u8,u9,ua,ub⟩⟩:=id sv) | (go_at_call 56;refine (hE _).mono ?_;rintro e we ⟨rfl,ge⟩;obtain ⟨⟨e0,e1,e2,e3⟩,⟨e4,e5,e6,e7⟩,⟨e8,e9,ea,eb⟩⟩:=H6.keep sv ge;have ke:=Kp.trans kv ge))
    exact BR (v:=.agg #[.float .f64 9218868437227405312,.float .f64 18442240474082181120]) (by simp [results,Tryz.results16,Tryz.results25,go_sem,e8,e9]) rfl ⟨rfl,(ke.setCell (by simp;omega) _).setCell (by simp;omega) _⟩)

theorem mmv2_ (f9:Nat) (hf9:f9=16∨f9=25) (a b c d L1 H1 L2 H2:Nat) (hx:KC 46 #[.agg #[.float .f64 a,.float .f64 b]] (.agg #[.float .f64 L1,.float .f64 H1])) (hy:KC 46 #[.agg #[.float .f64 c,.float .f64 d]] (.agg #[.float .f64 L2,.float .f64 H2])) (hv1:KC 47 #[.agg #[.float .f64 L1,.float .f64 H1]] (.bool false)) (hv2:KC 47 #[.agg #[.float .f64 L2,.float .f64 H2]] (.bool true)) (hE:KC 56 #[] (.agg #[.float .f64 9218868437227405312,.float .f64 18442240474082181120])) (w:World):Calls Tryz.prog f9 #[.agg #[.float .f64 a,.float .f64 b],.agg #[.float .f64 c,.float .f64 d]] w fun e w'=>e=.returned (.agg #[.float .f64 9218868437227405312,.float .f64 18442240474082181120])∧Kp w w':=by
  rcases hf9 with rfl | rfl
  go_enter Tryz.func16,Tryz.ntmps16
  rotate_left
  go_enter Tryz.func25,Tryz.ntmps25
  all_goals
   go_wp2
   go_region_with (first | (go_at_call_of 46 (Value.agg #[.float .f64 a,.float .f64 b]);refine (hx _).mono ?_;rintro e wx ⟨rfl,gx⟩;first | (have kx:=Kp.trans ky gx;have sx:=H6.keep sy gx;obtain ⟨⟨p0,p1,p2,p3⟩,⟨p4,p5,p6,p7⟩,⟨p8,p9,pa,pb⟩⟩:=id sx) | (have kx:Kp w wx:=Kp.trans (((((Kp.refl w).alloc _).alloc _).alloc _).drew) gx;have sx:=H6.keep (H6.new w (.float .f64 a) (.float .f64 b) (.float .f64 c) (.float .f64 d) (.float .f64 0) (.float .f64 0) 25 25 25) (Kp.trans (Kp.drew (Kp.refl _)) gx);obtain ⟨⟨p0,p1,p2,p3⟩,⟨p4,p5,p6,p7⟩,⟨p8,p9,pa,pb⟩⟩:=id sx)) | (go_at_call_of 46 (Value.agg #[.float .f64 c,.float .f64 d]);refine (hy _).mono ?_;rintro e wy ⟨rfl,gy⟩;first | (have ky:=Kp.trans kx gy;have sy:=H6.keep sx gy;obtain ⟨⟨p0,p1,p2,p3⟩,⟨p4,p5,p6,p7⟩,⟨p8,p9,pa,pb⟩⟩:=id sy) | (have ky:Kp w wy:=Kp.trans (((((Kp.refl w).alloc _).alloc _).alloc _).drew) gy;have sy:=H6.keep (H6.new w (.float .f64 a) (.float .f64 b) (.float .f64 c) (.float .f64 d) (.float .f64 0) (.float .f64 0) 25 25 25) (Kp.trans (Kp.drew (Kp.refl _)) gy);obtain ⟨⟨p0,p1,p2,p3⟩,⟨p4,p5,p6,p7⟩,⟨p8,p9,pa,pb⟩⟩:=id sy)))
   all_goals (first
    | skip
      have sw:=H6.put (id sy:H6 wy w.heap.size (.float .f64 a) (.float .f64 b) (.float .f64 c) (.float .f64 d) (.float .f64 0) (.float .f64 0)) (.float .f64 L1) (.float .f64 H1) (.float .f64 L2) (.float .f64 H2)
      have kw:Kp w ((((wy.setCell ⟨w.heap.size,0,none⟩ (.float .f64 L1)).setCell ⟨w.heap.size,1,none⟩ (.float .f64 H1)).setCell ⟨w.heap.size+1,0,none⟩ (.float .f64 L2)).setCell ⟨w.heap.size+1,1,none⟩ (.float .f64 H2)):=(((ky.setCell (Nat.le_refl _) _).setCell (Nat.le_refl _) _).setCell (Nat.le_succ _) _).setCell (Nat.le_succ _) _
      generalize hW:((((wy.setCell ⟨w.heap.size,0,none⟩ (.float .f64 L1)).setCell ⟨w.heap.size,1,none⟩ (.float .f64 H1)).setCell ⟨w.heap.size+1,0,none⟩ (.float .f64 L2)).setCell ⟨w.heap.size+1,1,none⟩ (.float .f64 H2))=W at sw kw ⊢
      clear hW
    | skip
      have sw:=H6.put (id sx:H6 wx w.heap.size (.float .f64 a) (.float .f64 b) (.float .f64 c) (.float .f64 d) (.float .f64 0) (.float .f64 0)) (.float .f64 L1) (.float .f64 H1) (.float .f64 L2) (.float .f64 H2)
      have kw:Kp w ((((wx.setCell ⟨w.heap.size,0,none⟩ (.float .f64 L1)).setCell ⟨w.heap.size,1,none⟩ (.float .f64 H1)).setCell ⟨w.heap.size+1,0,none⟩ (.float .f64 L2)).setCell ⟨w.heap.size+1,1,none⟩ (.float .f64 H2)):=(((kx.setCell (Nat.le_refl _) _).setCell (Nat.le_refl _) _).setCell (Nat.le_succ _) _).setCell (Nat.le_succ _) _
      generalize hW:((((wx.setCell ⟨w.heap.size,0,none⟩ (.float .f64 L1)).setCell ⟨w.heap.size,1,none⟩ (.float .f64 H1)).setCell ⟨w.heap.size+1,0,none⟩ (.float .f64 L2)).setCell ⟨w.heap.size+1,1,none⟩ (.float .f64 H2))=W at sw kw ⊢
      clear hW)
   all_goals (
    obtain ⟨⟨p0,p1,p2,p3⟩,⟨p4,p5,p6,p7⟩,⟨p8,p9,pa,pb⟩⟩:=id sw
    go_wp2_with (first | (go_at_call_of 47 (Value.agg #[.float .f64 L1,.float .f64 H1]);refine (hv1 _).mono ?_;rintro e wv ⟨rfl,gv⟩;have kv:=Kp.trans kw gv;have sv:=H6.keep sw gv;obtain ⟨⟨u0,u1,u2,u3⟩,⟨u4,u5,u6,u7⟩,⟨u8,u9,ua,ub⟩⟩:=id sv) | (go_at_call_of 47 (Value.agg #[.float .f64 L2,.float .f64 H2]);refine (hv2 _).mono ?_;rintro e wz ⟨rfl,gz⟩;have kz:=Kp.trans kv gz;have sz:=H6.keep sv gz;obtain ⟨⟨t0,t1,t2,t3⟩,⟨t4,t5,t6,t7⟩,⟨t8,t9,ta,tb⟩⟩:=id sz) | (go_at_call 56;refine (hE _).mono ?_;rintro e we ⟨rfl,ge⟩;obtain ⟨⟨e0,e1,e2,e3⟩,⟨e4,e5,e6,e7⟩,⟨e8,e9,ea,eb⟩⟩:=H6.keep sz ge;have ke:=Kp.trans kz ge))
    exact BR (v:=.agg #[.float .f64 9218868437227405312,.float .f64 18442240474082181120]) (by simp [results,Tryz.results16,Tryz.results25,go_sem,e8,e9]) rfl ⟨rfl,(ke.setCell (by simp;omega) _).setCell (by simp;omega) _⟩)

theorem mmn_ (f9:Nat) (bm:Array TypeId→TypeId→Array Value→Sem Value) (hf9:(f9=16∧bm=Builtin.min_)∨(f9=25∧bm=Builtin.max_)) (a b c d L1 H1 L2 H2 NL NH:Nat) (hx:KC 46 #[.agg #[.float .f64 a,.float .f64 b]] (.agg #[.float .f64 L1,.float .f64 H1])) (hy:KC 46 #[.agg #[.float .f64 c,.float .f64 d]] (.agg #[.float .f64 L2,.float .f64 H2])) (hv1:KC 47 #[.agg #[.float .f64 L1,.float .f64 H1]] (.bool false)) (hv2:KC 47 #[.agg #[.float .f64 L2,.float .f64 H2]] (.bool false)) (hm1:∀ (ts:Array TypeId) (t:TypeId) (w:World),(bm ts t #[.float .f64 L1,.float .f64 L2]).run Tryz.prog w=.ok (.float .f64 NL) w) (hm2:∀ (ts:Array TypeId) (t:TypeId) (w:World),(bm ts t #[.float .f64 H1,.float .f64 H2]).run Tryz.prog w=.ok (.float .f64 NH) w) (w:World):Calls Tryz.prog f9 #[.agg #[.float .f64 a,.float .f64 b],.agg #[.float .f64 c,.float .f64 d]] w fun e w'=>e=.returned (.agg #[.float .f64 NL,.float .f64 NH])∧Kp w w':=by
  rcases hf9 with ⟨rfl,rfl⟩ | ⟨rfl,rfl⟩
  go_enter Tryz.func16,Tryz.ntmps16
  rotate_left
  go_enter Tryz.func25,Tryz.ntmps25
  all_goals
   go_wp2
   go_region_with (first | (go_at_call_of 46 (Value.agg #[.float .f64 a,.float .f64 b]);refine (hx _).mono ?_;rintro e wx ⟨rfl,gx⟩;first | (have kx:=Kp.trans ky gx;have sx:=H6.keep sy gx;obtain ⟨⟨p0,p1,p2,p3⟩,⟨p4,p5,p6,p7⟩,⟨p8,p9,pa,pb⟩⟩:=id sx) | (have kx:Kp w wx:=Kp.trans (((((Kp.refl w).alloc _).alloc _).alloc _).drew) gx;have sx:=H6.keep (H6.new w (.float .f64 a) (.float .f64 b) (.float .f64 c) (.float .f64 d) (.float .f64 0) (.float .f64 0) 25 25 25) (Kp.trans (Kp.drew (Kp.refl _)) gx);obtain ⟨⟨p0,p1,p2,p3⟩,⟨p4,p5,p6,p7⟩,⟨p8,p9,pa,pb⟩⟩:=id sx)) | (go_at_call_of 46 (Value.agg #[.float .f64 c,.float .f64 d]);refine (hy _).mono ?_;rintro e wy ⟨rfl,gy⟩;first | (have ky:=Kp.trans kx gy;have sy:=H6.keep sx gy;obtain ⟨⟨p0,p1,p2,p3⟩,⟨p4,p5,p6,p7⟩,⟨p8,p9,pa,pb⟩⟩:=id sy) | (have ky:Kp w wy:=Kp.trans (((((Kp.refl w).alloc _).alloc _).alloc _).drew) gy;have sy:=H6.keep (H6.new w (.float .f64 a) (.float .f64 b) (.float .f64 c) (.float .f64 d) (.float .f64 0) (.float .f64 0) 25 25 25) (Kp.trans (Kp.drew (Kp.refl _)) gy);obtain ⟨⟨p0,p1,p2,p3⟩,⟨p4,p5,p6,p7⟩,⟨p8,p9,pa,pb⟩⟩:=id sy)))
   all_goals (first
    | skip
      have sw:=H6.put (id sy:H6 wy w.heap.size (.float .f64 a) (.float .f64 b) (.float .f64 c) (.float .f64 d) (.float .f64 0) (.float .f64 0)) (.float .f64 L1) (.float .f64 H1) (.float .f64 L2) (.float .f64 H2)
      have kw:Kp w ((((wy.setCell ⟨w.heap.size,0,none⟩ (.float .f64 L1)).setCell ⟨w.heap.size,1,none⟩ (.float .f64 H1)).setCell ⟨w.heap.size+1,0,none⟩ (.float .f64 L2)).setCell ⟨w.heap.size+1,1,none⟩ (.float .f64 H2)):=(((ky.setCell (Nat.le_refl _) _).setCell (Nat.le_refl _) _).setCell (Nat.le_succ _) _).setCell (Nat.le_succ _) _
      generalize hW:((((wy.setCell ⟨w.heap.size,0,none⟩ (.float .f64 L1)).setCell ⟨w.heap.size,1,none⟩ (.float .f64 H1)).setCell ⟨w.heap.size+1,0,none⟩ (.float .f64 L2)).setCell ⟨w.heap.size+1,1,none⟩ (.float .f64 H2))=W at sw kw ⊢
      clear hW
    | skip
      have sw:=H6.put (id sx:H6 wx w.heap.size (.float .f64 a) (.float .f64 b) (.float .f64 c) (.float .f64 d) (.float .f64 0) (.float .f64 0)) (.float .f64 L1) (.float .f64 H1) (.float .f64 L2) (.float .f64 H2)
      have kw:Kp w ((((wx.setCell ⟨w.heap.size,0,none⟩ (.float .f64 L1)).setCell ⟨w.heap.size,1,none⟩ (.float .f64 H1)).setCell ⟨w.heap.size+1,0,none⟩ (.float .f64 L2)).setCell ⟨w.heap.size+1,1,none⟩ (.float .f64 H2)):=(((kx.setCell (Nat.le_refl _) _).setCell (Nat.le_refl _) _).setCell (Nat.le_succ _) _).setCell (Nat.le_succ _) _
      generalize hW:((((wx.setCell ⟨w.heap.size,0,none⟩ (.float .f64 L1)).setCell ⟨w.heap.size,1,none⟩ (.float .f64 H1)).setCell ⟨w.heap.size+1,0,none⟩ (.float .f64 L2)).setCell ⟨w.heap.size+1,1,none⟩ (.float .f64 H2))=W at sw kw ⊢
      clear hW)
   all_goals (
    obtain ⟨⟨p0,p1,p2,p3⟩,⟨p4,p5,p6,p7⟩,⟨p8,p9,pa,pb⟩⟩:=id sw
    go_wp2_with (first | (go_at_call_of 47 (Value.agg #[.float .f64 L1,.float .f64 H1]);refine (hv1 _).mono ?_;rintro e wv ⟨rfl,gv⟩;have kv:=Kp.trans kw gv;have sv:=H6.keep sw gv;obtain ⟨⟨u0,u1,u2,u3⟩,⟨u4,u5,u6,u7⟩,⟨u8,u9,ua,ub⟩⟩:=id sv) | (go_at_call_of 47 (Value.agg #[.float .f64 L2,.float .f64 H2]);refine (hv2 _).mono ?_;rintro e wz ⟨rfl,gz⟩;have kz:=Kp.trans kv gz;have sz:=H6.keep sv gz;obtain ⟨⟨t0,t1,t2,t3⟩,⟨t4,t5,t6,t7⟩,⟨t8,t9,ta,tb⟩⟩:=id sz))
    exact BR (v:=.agg #[.float .f64 NL,.float .f64 NH]) (by simp [results,Tryz.results16,Tryz.results25,go_sem,t8,t9]) rfl ⟨rfl,(kz.setCell (by simp;omega) _).setCell (by simp;omega) _⟩)

set_option linter.unusedVariables false
def minLo (L1 H1 L2 H2:Int):Int:=if L1=9218868437227405312∨L2=9218868437227405312 then 9218868437227405312 else min L1 L2
def minHi (L1 H1 L2 H2:Int):Int:=if L1=9218868437227405312∨L2=9218868437227405312 then -9218868437227405312 else min H1 H2
theorem minP9_ (a b c d:Nat) (L1 H1 L2 H2:Int) (hx:Rd a b L1 H1) (hy:Rd c d L2 H2) (w:World):Calls Tryz.prog 16 #[.agg #[.float .f64 a,.float .f64 b],.agg #[.float .f64 c,.float .f64 d]] w fun e w'=>e=.returned (.agg #[.float .f64 (pw (minLo L1 H1 L2 H2)),.float .f64 (pw (minHi L1 H1 L2 H2))])∧Kp w w':=by
 have v1:=fun w=>voidP9_ L1 H1 hx.vd w
 have v2:=fun w=>voidP9_ L2 H2 hy.vd w
 unfold minLo minHi
 by_cases c1:L1=9218868437227405312
 ·rw [decide_eq_true c1] at v1
  rw [if_pos (Or.inl c1),if_pos (Or.inl c1),pw_I,pw_MI]
  exact mmv1_ 16 (.inl rfl) a b c d _ _ _ _ hx.call hy.call v1 empty9_ w
 rw [decide_eq_false c1] at v1
 by_cases c2:L2=9218868437227405312
 ·rw [decide_eq_true c2] at v2
  rw [if_pos (Or.inr c2),if_pos (Or.inr c2),pw_I,pw_MI]
  exact mmv2_ 16 (.inl rfl) a b c d _ _ _ _ hx.call hy.call v1 v2 empty9_ w
 rw [decide_eq_false c2] at v2
 rw [if_neg (by omega),if_neg (by omega)]
 exact mmn_ 16 _ (.inl ⟨rfl,rfl⟩) a b c d _ _ _ _ _ _ hx.call hy.call v1 v2 (min9_ L1 L2 hx.vd.lo hy.vd.lo) (min9_ H1 H2 hx.vd.hi hy.vd.hi) w
theorem vd_minP (L1 H1 L2 H2:Int) (h1:VdZ L1 H1) (h2:VdZ L2 H2):VdZ (minLo L1 H1 L2 H2) (minHi L1 H1 L2 H2):=by
 unfold minLo minHi VdZ at *
 split <;> omega
def maxLo (L1 H1 L2 H2:Int):Int:=if L1=9218868437227405312∨L2=9218868437227405312 then 9218868437227405312 else max L1 L2
def maxHi (L1 H1 L2 H2:Int):Int:=if L1=9218868437227405312∨L2=9218868437227405312 then -9218868437227405312 else max H1 H2
theorem maxP9_ (a b c d:Nat) (L1 H1 L2 H2:Int) (hx:Rd a b L1 H1) (hy:Rd c d L2 H2) (w:World):Calls Tryz.prog 25 #[.agg #[.float .f64 a,.float .f64 b],.agg #[.float .f64 c,.float .f64 d]] w fun e w'=>e=.returned (.agg #[.float .f64 (pw (maxLo L1 H1 L2 H2)),.float .f64 (pw (maxHi L1 H1 L2 H2))])∧Kp w w':=by
 have v1:=fun w=>voidP9_ L1 H1 hx.vd w
 have v2:=fun w=>voidP9_ L2 H2 hy.vd w
 unfold maxLo maxHi
 by_cases c1:L1=9218868437227405312
 ·rw [decide_eq_true c1] at v1
  rw [if_pos (Or.inl c1),if_pos (Or.inl c1),pw_I,pw_MI]
  exact mmv1_ 25 (.inr rfl) a b c d _ _ _ _ hx.call hy.call v1 empty9_ w
 rw [decide_eq_false c1] at v1
 by_cases c2:L2=9218868437227405312
 ·rw [decide_eq_true c2] at v2
  rw [if_pos (Or.inr c2),if_pos (Or.inr c2),pw_I,pw_MI]
  exact mmv2_ 25 (.inr rfl) a b c d _ _ _ _ hx.call hy.call v1 v2 empty9_ w
 rw [decide_eq_false c2] at v2
 rw [if_neg (by omega),if_neg (by omega)]
 exact mmn_ 25 _ (.inr ⟨rfl,rfl⟩) a b c d _ _ _ _ _ _ hx.call hy.call v1 v2 (max9_ L1 L2 hx.vd.lo hy.vd.lo) (max9_ H1 H2 hx.vd.hi hy.vd.hi) w
theorem vd_maxP (L1 H1 L2 H2:Int) (h1:VdZ L1 H1) (h2:VdZ L2 H2):VdZ (maxLo L1 H1 L2 H2) (maxHi L1 H1 L2 H2):=by
 unfold maxLo maxHi VdZ at *
 split <;> omega

def pI (x:Int):Int:=((pw x:Nat):Int)
theorem rread9_ (a b:Nat) (L H:Int) (h:Rd a b L H) (w:World):Calls Tryz.prog 22 #[.agg #[.int .u64 ((a:Nat):Int),.int .u64 ((b:Nat):Int)]] w fun e w'=>e=.returned (.agg #[.int .u64 (pI L),.int .u64 (pI H)])∧Kp w w':=by
 have e1:=h.2.2.2.1
 have e2:=h.2.2.2.2
 unfold pI
 rw [← e1,← e2]
 obtain ⟨n,m,hm,rfl⟩:=Fq.exD a h.1
 obtain ⟨n',m',hm',rfl⟩:=Fq.exD b h.2.1
 exact Fq.rread_ n n' m m' hm hm' w
theorem rempty9_ (w:World):Calls Tryz.prog 24 #[] w fun e w'=>e=.returned (.agg #[.int .u64 9218868437227405312,.int .u64 18442240474082181120])∧Kp w w':=by
 refine (Fq.rempty_ w).mono ?_
 rintro e w' ⟨rfl,rfl⟩
 exact ⟨rfl,(Kp.refl w).alloc _⟩
theorem valid9_ (L H:Int) (d:VdZ L H) (w:World):Calls Tryz.prog 40 #[.agg #[.int .u64 (pI L),.int .u64 (pI H)]] w fun e w'=>e=.returned (.bool true)∧Kp w w':=by
 have al:=abs_pw L d.lo
 have ah:=abs_pw H d.hi
 have g:=Fq.rvalid_ (decide (L<0)) (decide (H<0)) L.natAbs H.natAbs (by omega) (by omega) w
 have hv:Fq.vld (pw L) (pw H)=true:=by
  unfold Fq.vld
  rcases d with ⟨rfl,rfl⟩ | d'
  ·decide
  ·rw [snd_pw L H (by unfold BdZ;omega) (by unfold BdZ;omega),decide_eq_true (show L≤H∧L≠9218868437227405312∧H≠-9218868437227405312 by omega),decide_eq_false (pw_ne L (by unfold BdZ;omega)),decide_eq_false (pw_ne H (by unfold BdZ;omega))]
   simp
 rw [show Fq.vld (Fq.wD (decide (L<0)) L.natAbs) (Fq.wD (decide (H<0)) H.natAbs)=true from hv] at g
 exact g
theorem in9_ (a b:Nat) (w:World):Calls Tryz.prog 20 #[.agg #[.int .u64 ((a:Nat):Int),.int .u64 ((b:Nat):Int)]] w fun e w'=>e=.returned (.agg #[.float .f64 a,.float .f64 b])∧Kp w w':=by
 have h1:=Fq.ff64 a
 have h2:=Fq.ff64 b
 generalize (a:Int)=X at h1 ⊢
 generalize (b:Int)=Y at h2 ⊢
 go_enter Tryz.func20,Tryz.ntmps20
 go_wp2
 go_region_held3 (fun w'=>w'.cell? ⟨w.heap.size,0,none⟩=some (.int .u64 X)∧w'.cell? ⟨w.heap.size,1,none⟩=some (.int .u64 Y)) (simp [go_sem]) (fail)
 go_wp2
 exact BR (v:=.agg #[.float .f64 a,.float .f64 b]) (by simp [results,Tryz.results20,go_sem]) rfl ⟨rfl,(by repeat (with_reducible (first | assumption | exact Kp.refl _ | apply Kp.drew | apply Kp.alloc | apply Kp.drewN | (refine Kp.setCell ?_ (by first | omega | (simp <;> omega)) _) | (refine Kp.trans ?_ (by assumption)))))⟩
theorem out9_ (a b:Nat) (w:World):Calls Tryz.prog 19 #[.agg #[.float .f64 a,.float .f64 b]] w fun e w'=>e=.returned (.agg #[.int .u64 ((a:Nat):Int),.int .u64 ((b:Nat):Int)])∧Kp w w':=by
 have h1:=Fq.fb64 a
 have h2:=Fq.fb64 b
 generalize (a:Int)=X at h1 ⊢
 generalize (b:Int)=Y at h2 ⊢
 go_enter Tryz.func19,Tryz.ntmps19
 go_wp2
 go_region_held3 (fun w'=>w'.cell? ⟨w.heap.size,0,none⟩=some (.float .f64 a)∧w'.cell? ⟨w.heap.size,1,none⟩=some (.float .f64 b)) (simp [go_sem,World.cell?_alloc_past]) (fail)
 go_wp2
 exact BR (v:=.agg #[.int .u64 X,.int .u64 Y]) (by simp [results,Tryz.results19,go_sem]) rfl ⟨rfl,(by repeat (with_reducible (first | assumption | exact Kp.refl _ | apply Kp.drew | apply Kp.alloc | apply Kp.drewN | (refine Kp.setCell ?_ (by first | omega | (simp <;> omega)) _) | (refine Kp.trans ?_ (by assumption)))))⟩
theorem odd_i (N:Int) (k:Nat) (hk:N=(k:Int)∨N = -(k:Int)):(N.tmod 2 != 0)=decide (k % 2=1)∧(N.tmod 2 == 0) = !decide (k % 2=1):=by
 have h:N.tmod 2=0 ↔ k % 2=0:=by
  rcases hk with h | h
  ·rw [h,Int.tmod_eq_emod_of_nonneg (by omega)];omega
  ·rw [h,Int.neg_tmod,Int.tmod_eq_emod_of_nonneg (by omega)];omega
 by_cases c:k % 2=1
 ·rw [decide_eq_true c]
  have:N.tmod 2≠0:=fun h0=>by have:=h.1 h0;omega
  simp [this]
 ·rw [decide_eq_false c]
  have:N.tmod 2=0:=h.2 (by omega)
  simp [this]
end Go.Proofs.YtcfnialfpblfmaaGreatDoor
