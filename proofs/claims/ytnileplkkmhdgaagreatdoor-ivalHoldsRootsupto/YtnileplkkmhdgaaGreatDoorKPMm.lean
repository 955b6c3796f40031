import Derived.Test.YtnileplkkmhdgaaGreatDoorKES
set_option maxHeartbeats 1000000
set_option maxRecDepth 20000
namespace Go.Proofs.YtnileplkkmhdgaaGreatDoor
open Go.RowKit
theorem max7_ (n n':Bool) (m m':Nat) (hm:m≤9218868437227405312) (hm':m'≤9218868437227405312) (h1:Fq.wD n m≠9223372036854775808) (h2:Fq.wD n' m'≠9223372036854775808) (ts:Array TypeId) (t:TypeId) (w:World):(Builtin.max_ ts t #[.float .f64 (Fq.wD n m),.float .f64 (Fq.wD n' m')]).run Tryz.prog w = .ok (.float .f64 (if Fq.plz n' m' > Fq.plz n m then Fq.wD n' m' else Fq.wD n m)) w:=by
  have ho:=Fq.ordD n n' m m' hm hm'
  rcases Int.lt_trichotomy (Fq.plz n m) (Fq.plz n' m') with g | g | g
  · rw [Fq.cmp_lt g] at ho
    rw [if_pos (by omega)]
    generalize Fq.wD n m = X at ho ⊢
    generalize Fq.wD n' m' = Y at ho ⊢
    simp [Builtin.max_,Builtin.max2,ho]
  · rw [Fq.cmp_eq g] at ho
    have e:Fq.wD n m = Fq.wD n' m':=by
      have z1:n = true→m≠0:=fun h z=>h1 (by rw [h,z];rfl)
      have z2:n' = true→m'≠0:=fun h z=>h2 (by rw [h,z];rfl)
      unfold Fq.wD
      unfold Fq.plz at g
      cases n <;> cases n' <;> simp at z1 z2 g ⊢ <;> omega
    rw [if_neg (by omega)]
    rw [← e] at ho ⊢
    generalize Fq.wD n m = X at ho ⊢
    simp [Builtin.max_,Builtin.max2,ho]
  · rw [Fq.cmp_gt g] at ho
    rw [if_neg (by omega)]
    generalize Fq.wD n m = X at ho ⊢
    generalize Fq.wD n' m' = Y at ho ⊢
    simp [Builtin.max_,Builtin.max2,ho]

def Rd (a b:Nat) (L H:Int):Prop:=a < 18446744073709551616∧b < 18446744073709551616∧VdZ L H∧Fq.rlo a b = pw L∧Fq.rhi a b = pw H
theorem Rd.ex (a b:Nat) (ha:a < 18446744073709551616) (hb:b < 18446744073709551616):∃ L H,Rd a b L H:=by
  obtain ⟨L,H,h1,h2,h3⟩:=read_pw a b ha hb
  exact ⟨L,H,ha,hb,h1,h2,h3⟩
theorem Rd.of {L H:Int} (h:VdZ L H):Rd (pw L) (pw H) L H:=⟨pw_lt L h.lo,pw_lt H h.hi,h,(reread9 L H h).1,(reread9 L H h).2⟩
theorem Rd.vd {a b:Nat} {L H:Int} (h:Rd a b L H):VdZ L H:=h.2.2.1
theorem Rd.call {a b:Nat} {L H:Int} (h:Rd a b L H) (w:World):Calls Tryz.prog 32 #[.agg #[.float .f64 a,.float .f64 b]] w fun e w'=>e = .returned (.agg #[.float .f64 (pw L),.float .f64 (pw H)])∧Kp w w':=by
  have g:=Fq.read_ a b h.1 h.2.1 w
  rw [h.2.2.2.1,h.2.2.2.2] at g
  exact g
theorem emp9 (L H:Int) (h:VdZ L H):decide (pw L = 9218868437227405312∧pw H = 18442240474082181120) = decide (L = 9218868437227405312):=by
  congr 1;apply propext
  have e1:=pw_inj L 9218868437227405312 h.lo (by unfold BdZ;omega)
  have e2:=pw_inj H (-9218868437227405312) h.hi (by unfold BdZ;omega)
  rw [pw_I] at e1
  rw [pw_MI] at e2
  rw [e1,e2]
  unfold VdZ at h
  omega
theorem void9_ (L H:Int) (h:VdZ L H) (w:World):Calls Tryz.prog 33 #[.agg #[.float .f64 (pw L),.float .f64 (pw H)]] w fun e w'=>e = .returned (.bool (decide (L = 9218868437227405312)))∧Kp w w':=by
  have g:=Fq.void_ (pw L) (pw H) (pw_lt L h.lo) (pw_lt H h.hi) w
  rw [emp9 L H h] at g
  exact g
theorem max9_ (x y:Int) (hx:BdZ x) (hy:BdZ y) (ts:Array TypeId) (t:TypeId) (w:World):(Builtin.max_ ts t #[.float .f64 (pw x),.float .f64 (pw y)]).run Tryz.prog w = .ok (.float .f64 (pw (max x y))) w:=by
  have h:=max7_ (decide (x < 0)) (decide (y < 0)) x.natAbs y.natAbs (abs_pw x hx) (abs_pw y hy) (pw_ne x hx) (pw_ne y hy) ts t w
  rw [plz_pw,plz_pw] at h
  have e:(if y > x then pw y else pw x) = pw (max x y):=by
    by_cases c:y > x
    · rw [if_pos c,show max x y = y from by omega]
    · rw [if_neg c,show max x y = x from by omega]
  exact e ▸ h
theorem endL_ (i j:Int) s p l c q k d s2 p2 l2 c2 q2 k2 d2 (t1:(i != j) = true) (t2:i < j) (w:World):Calls Tryz.prog 29 #[.agg #[.int .i64 i,.bool s,.slice p l c,.slice q k d],.agg #[.int .i64 j,.bool s2,.slice p2 l2 c2,.slice q2 k2 d2]] w fun e w'=>e = .returned (.int .i64 (-1))∧Kp w w':=by
  go_enter Tryz.func29,Tryz.ntmps29
  go_wp2
  exact bodyPost_ret (v:=.int .i64 (-1)) (by simp [results,Tryz.results29,go_sem]) rfl ⟨rfl,(by repeat (with_reducible (first | assumption | exact Kp.refl _ | apply Kp.drew | apply Kp.alloc | apply Kp.drewN | (refine Kp.setCell ?_ (by first | omega | (simp <;> omega)) _) | (refine Kp.trans ?_ (by assumption)))))⟩
theorem endG_ (i j:Int) s p l c q k d s2 p2 l2 c2 q2 k2 d2 (t1:(i != j) = true) (t2:¬ (i < j)) (w:World):Calls Tryz.prog 29 #[.agg #[.int .i64 i,.bool s,.slice p l c,.slice q k d],.agg #[.int .i64 j,.bool s2,.slice p2 l2 c2,.slice q2 k2 d2]] w fun e w'=>e = .returned (.int .i64 1)∧Kp w w':=by
  go_enter Tryz.func29,Tryz.ntmps29
  go_wp2
  exact bodyPost_ret (v:=.int .i64 1) (by simp [results,Tryz.results29,go_sem]) rfl ⟨rfl,(by repeat (with_reducible (first | assumption | exact Kp.refl _ | apply Kp.drew | apply Kp.alloc | apply Kp.drewN | (refine Kp.setCell ?_ (by first | omega | (simp <;> omega)) _) | (refine Kp.trans ?_ (by assumption)))))⟩
theorem endZ_ (X:Int) s p l c q k d s2 p2 l2 c2 q2 k2 d2 (w:World) (hs:∀ W:World,Kp w W→Calls Tryz.prog 60 #[.agg #[.bool s,.slice p l c,.slice q k d],.agg #[.bool s2,.slice p2 l2 c2,.slice q2 k2 d2]] W fun e w'=>e = .returned (.int .i64 X)∧Kp W w'):Calls Tryz.prog 29 #[.agg #[.int .i64 0,.bool s,.slice p l c,.slice q k d],.agg #[.int .i64 0,.bool s2,.slice p2 l2 c2,.slice q2 k2 d2]] w fun e w'=>e = .returned (.int .i64 X)∧Kp w w':=by
  go_enter Tryz.func29,Tryz.ntmps29
  go_wp2_with (first | (go_at_call 60;refine (hs _ ?q0).mono ?_;(case q0=>exact ((Kp.refl w).alloc _).alloc _);rintro e w1 ⟨rfl,g1⟩;have k1:Kp w w1:=Kp.trans (((Kp.refl w).alloc _).alloc _) g1))
  exact bodyPost_ret (v:=.int .i64 X) (by simp [results,Tryz.results29,go_sem]) rfl ⟨rfl,k1⟩

def RF (s:Bool) (a b:Nat) (n:Bool) (m:Nat):Prop:=∀ K:Nat,K = 1074→b≠0∧a * 2 ^ K = Fq.vV Ieee.double m * b∧Iv n m = (if s then -((Fq.vV Ieee.double m:Nat):Int) else ((Fq.vV Ieee.double m:Nat):Int))∧blen a≤1500∧blen b≤1500
def RP (base:Nat) (w:World) (s:Bool) (p:Option Addr) (l c:Nat) (q:Option Addr) (k d:Nat) (n:Bool) (m:Nat):Prop:=∃ a b,Own w base (.slice p l c) (dig a)∧Own w base (.slice q k d) (dig b)∧RF s a b n m
theorem RP.kp {base:Nat} {w w':World} {s:Bool} {p:Option Addr} {l c:Nat} {q:Option Addr} {k d:Nat} {n:Bool} {m:Nat} (h:RP base w s p l c q k d n m) (g:Kp w w'):RP base w' s p l c q k d n m:=by
  obtain ⟨a,b,h1,h2,h3⟩:=h
  exact ⟨a,b,h1.kp g,h2.kp g,h3⟩
theorem RP.mono {base base':Nat} {w:World} {s:Bool} {p:Option Addr} {l c:Nat} {q:Option Addr} {k d:Nat} {n:Bool} {m:Nat} (h:RP base w s p l c q k d n m) (g:base'≤base):RP base' w s p l c q k d n m:=by
  obtain ⟨a,b,h1,h2,h3⟩:=h
  exact ⟨a,b,h1.mono g,h2.mono g,h3⟩
theorem RP.set {base:Nat} {w:World} {s:Bool} {p:Option Addr} {l c:Nat} {q:Option Addr} {k d:Nat} {n:Bool} {m:Nat} (h:RP base w s p l c q k d n m) {x:Addr} (hx:x.block < base) (u:Value):RP base (w.setCell x u) s p l c q k d n m:=by
  obtain ⟨a,b,h1,h2,h3⟩:=h
  exact ⟨a,b,h1.setOther hx u,h2.setOther hx u,h3⟩
theorem fromR_ (n:Bool) (m:Nat) (hm:m < 9218868437227405312) (w:World):Calls Tryz.prog 88 #[.int .u64 ((Fq.wD n m:Nat):Int)] w fun e w'=>∃ s p l c q k d,e = .returned (.agg #[.bool s,.slice p l c,.slice q k d])∧RP w.heap.size w' s p l c q k d n m∧Kp w w':=by
  have h:=fromBits_ n m hm w
  refine Calls.mono (show Calls Tryz.prog 88 #[.int .u64 ((Fq.wD n m:Nat):Int)] w _ from h) ?_
  rintro e w' ⟨vn,vd,a,b,s,rfl,o1,o2,⟨hF,hs⟩,g⟩
  obtain ⟨p,c,rfl,-,-⟩:=o1.arr
  obtain ⟨q,d,rfl,-,-⟩:=o2.arr
  obtain ⟨v1,v2,v3,v4,v5⟩:=Fq.vlsgD m hm
  have hF':FracOf (Fq.sgD m) 1 (Fq.epD m) a b:=hF
  have hs':Fq.sgD m≠0→s = n:=hs
  have hval:Fq.vV Ieee.double m = Fq.sgD m * 2 ^ (Fq.epD m + 1074).toNat:=v1.symm
  refine ⟨s,p,_,c,q,_,d,rfl,⟨a,b,o1,o2,fun K hK=>⟨hF'.1, ?_, ?_, ?_, ?_⟩⟩,g⟩
  · by_cases c0:Fq.sgD m = 0
    · rw [hval,c0,hF'.2.1.2 c0];simp
    · rw [hval]
      exact frac_exact (Fq.sgD m) (Fq.epD m) a b K (Fq.epD m + 1074).toNat hF' c0 (by omega)
  · unfold Iv
    by_cases c0:Fq.sgD m = 0
    · have:Fq.vV Ieee.double m = 0:=by rw [hval,c0];simp
      rw [this];cases n <;> cases s <;> simp
    · rw [hs' c0]
  · have h1:=hF'.2.2.2.1
    have h2:blen (Fq.sgD m)≤53:=by rw [blen_le_iff,show (2:Nat) ^ 53 = 9007199254740992 from by decide];exact v2
    omega
  · have h1:=hF'.2.2.2.2
    have h2:blen 1 = 1:=blen_uniq 1 0 (by decide) (by decide)
    omega
theorem dig_zero6:dig 0 = []:=by decide +kernel
theorem dig_one6:dig 1 = [1]:=by decide +kernel
theorem int0_ (w:World):Calls Tryz.prog 23 #[.int .i64 0] w fun e w'=>∃ s p l c q k d,e = .returned (.agg #[.bool s,.slice p l c,.slice q k d])∧RP w.heap.size w' s p l c q k d false 0∧Kp w w':=by
  obtain ⟨B,hB⟩:∃ B,B = w.heap.size:=⟨_,rfl⟩
  obtain ⟨w0,hw0⟩:∃ w0,w0 = w.alloc (.cells #[.bool false,.slice none 0 0,.slice none 0 0] 27):=⟨_,rfl⟩
  have kw:Kp w w0:=by rw [hw0];exact (Kp.refl w).alloc _
  have r0:w0.cell? ⟨B,0,none⟩ = some (.bool false):=by rw [hw0,hB];simp [go_sem]
  have r1:w0.cell? ⟨B,1,none⟩ = some (.slice none 0 0):=by rw [hw0,hB];simp [go_sem]
  have r2:w0.cell? ⟨B,2,none⟩ = some (.slice none 0 0):=by rw [hw0,hB];simp [go_sem]
  have f0:w0.frozen? ⟨B,0,none⟩ = false:=by rw [hw0,hB];simp [go_sem]
  have f1:w0.frozen? ⟨B,1,none⟩ = false:=by rw [hw0,hB];simp [go_sem]
  have f2:w0.frozen? ⟨B,2,none⟩ = false:=by rw [hw0,hB];simp [go_sem]
  have hlt:=cell_lt r0
  have hs:=rsmall_ 0 (by decide) w0
  have HW:Hid (w0 = w.alloc (.cells #[.bool false,.slice none 0 0,.slice none 0 0] 27)∧B = w.heap.size∧Kp w w0):=⟨hw0,hB,kw⟩
  clear hw0 hB kw
  go_enter Tryz.func23,Tryz.ntmps23
  go_wp2_with fail
  rw [← HW.out.2.1]
  try rw [← HW.out.1]
  refine hs.mono ?_;rintro e w1 ⟨v,rfl,ho,k1⟩
  obtain ⟨pv,cv,rfl,hav,hcv⟩:=ho.arr
  obtain ⟨L,hL⟩:∃ L,L = (dig 0).length:=⟨_,rfl⟩
  rw [← hL]
  obtain ⟨g4,hg4⟩:∃ g4,g4 = w1.heap.size:=⟨_,rfl⟩
  obtain ⟨w4,hw4⟩:∃ w4,w4 = w1.alloc (.cells #[.int .u32 1] 72):=⟨_,rfl⟩
  have k4:Kp w1 w4:=by rw [hw4];exact (Kp.refl _).alloc _
  have ar4:Arr w4 (some ⟨g4,0,none⟩) (dig 1):=by
    have h:=(row1 w1 1).all rfl
    rw [← hw4,← hg4] at h
    rw [dig_one6]
    exact h
  have h:=frac_ false (.slice pv (dig 0).length cv) (.slice (some ⟨g4,0,none⟩) (dig 1).length 1) (dig 0) (dig 1) 0 w4 ⟨pv,cv,rfl,hav.grown k4,hcv⟩ ⟨some ⟨g4,0,none⟩,1,rfl,ar4,by rw [dig_one6];decide⟩ (Wd_dig _) (Wd_dig _) (by rw [dig_zero6];decide) (by rw [dig_one6];decide) (by rw [val_dig];decide) (by decide)
  rw [val_dig,val_dig] at h
  rw [show (dig 1).length = 1 from by rw [dig_one6];rfl] at h
  rw [← hL] at h
  have k04:=k1.trans k4
  have HG:Hid (g4 = w1.heap.size∧w4 = w1.alloc (.cells #[.int .u32 1] 72)):=⟨hg4,hw4⟩
  replace r0:=kkeep k04 r0
  replace r1:=kkeep k04 r1
  replace r2:=kkeep k04 r2
  replace f0:=(kfro k04 hlt).trans f0
  replace f1:=(kfro k04 hlt).trans f1
  replace f2:=(kfro k04 hlt).trans f2
  have HK:Hid (Kp w0 w4∧B < w0.heap.size):=⟨k04,hlt⟩
  have hlt4:=cell_lt r0
  clear hs ho hav hcv hL hg4 hw4 k4 ar4 k1 k04 hlt
  go_wp2_with fail
  rw [← HG.out.1,← HG.out.2]
  refine h.mono ?_;rintro e w5 ⟨vn,vd,a',b',ng,rfl,o1,o2,ff,k5⟩
  obtain ⟨pn,cn,rfl,an,ln⟩:=o1.arr
  obtain ⟨pd,cd,rfl,ad,ld⟩:=o2.arr
  replace r0:=kkeep k5 r0
  replace r1:=kkeep k5 r1
  replace r2:=kkeep k5 r2
  replace f0:=(kfro k5 hlt4).trans f0
  replace f1:=(kfro k5 hlt4).trans f1
  replace f2:=(kfro k5 hlt4).trans f2
  have hp:RP w4.heap.size w5 ng pn (dig a').length cn pd (dig b').length cd false 0:=by
    refine ⟨a',b',o1,o2,fun K hK=>⟨ff.1.1, ?_, ?_, ?_, ?_⟩⟩
    · rw [ff.1.2.1.2 rfl,Fq.vV_zero];simp
    · unfold Iv;rw [Fq.vV_zero];cases ng <;> rfl
    · have:=ff.1.2.2.2.1;rw [ff.1.2.1.2 rfl];rw [blen_zero];omega
    · have:=ff.1.2.2.2.2
      have h2:blen 1 = 1:=blen_uniq 1 0 (by decide) (by decide)
      simp at this;omega
  have hq:=(((hp.set (x:=⟨B,0,none⟩) hlt4 (.bool ng)).set (x:=⟨B,1,none⟩) hlt4 (.slice pn (dig a').length cn)).set (x:=⟨B,2,none⟩) hlt4 (.slice pd (dig b').length cd)).mono (base':=w.heap.size) (by have h1:=Below.size HW.out.2.2;have h2:=Below.size HK.out.1;omega)
  have hkw:Kp w (((w5.setCell ⟨B,0,none⟩ (.bool ng)).setCell ⟨B,1,none⟩ (.slice pn (dig a').length cn)).setCell ⟨B,2,none⟩ (.slice pd (dig b').length cd)):=by
    have hB:=HW.out.2.1
    exact ((((HW.out.2.2.trans HK.out.1).trans k5).setCell (by rw [hB];exact Nat.le_refl _) _).setCell (by rw [hB];exact Nat.le_refl _) _).setCell (by rw [hB];exact Nat.le_refl _) _
  generalize (dig a').length = La at hq hkw ⊢
  generalize (dig b').length = Lb at hq hkw ⊢
  have HO:Hid (_∧_):=⟨hq,hkw⟩
  clear h hp hq hkw o1 o2 ff k5 an ln ad ld hlt4 HG
  go_wp2
  exact bodyPost_ret (v:=.agg #[.bool ng,.slice pn La cn,.slice pd Lb cd]) (by simp [results,Tryz.results23,go_sem,r0,r1,r2]) rfl ⟨ng,pn,La,cn,pd,Lb,cd,rfl,HO.out.1,HO.out.2⟩
theorem boundI_ (w:World):Calls Tryz.prog 59 #[.int .u64 9218868437227405312] w fun e w'=>∃ s p l c q k d,e = .returned (.agg #[.int .i64 1,.bool s,.slice p l c,.slice q k d])∧RP w.heap.size w' s p l c q k d false 0∧Kp w w':=by
  go_enter Tryz.func59,Tryz.ntmps59
  go_wp2_with (first | (go_at_call 23;refine (int0_ _).mono ?_;rintro e w1 ⟨s,p,l,c,q,k,d,rfl,hp,g1⟩;have r0:=kkeep g1 (b:=w.heap.size) (o:=0) (v:=.int .i64 0) (by simp [go_sem]);have rz0:w1.frozen? ⟨w.heap.size,0,none⟩ = false:=(kfro g1 (by simp <;> omega)).trans (by simp [go_sem]);have r1:=kkeep g1 (b:=w.heap.size) (o:=1) (v:=.bool false) (by simp [go_sem]);have rz1:w1.frozen? ⟨w.heap.size,1,none⟩ = false:=(kfro g1 (by simp <;> omega)).trans (by simp [go_sem]);have r2:=kkeep g1 (b:=w.heap.size) (o:=2) (v:=.slice none 0 0) (by simp [go_sem]);have rz2:w1.frozen? ⟨w.heap.size,2,none⟩ = false:=(kfro g1 (by simp <;> omega)).trans (by simp [go_sem]);have r3:=kkeep g1 (b:=w.heap.size) (o:=3) (v:=.slice none 0 0) (by simp [go_sem]);have rz3:w1.frozen? ⟨w.heap.size,3,none⟩ = false:=(kfro g1 (by simp <;> omega)).trans (by simp [go_sem])))
  exact bodyPost_ret (v:=.agg #[.int .i64 1,.bool s,.slice p l c,.slice q k d]) (by simp [results,Tryz.results59,go_sem,r0,r1,r2,r3]) rfl ⟨s,p,l,c,q,k,d,rfl,RP.mono (((((hp).set (x:=⟨w.heap.size,0,none⟩) (by simp) (.int .i64 1)).set (x:=⟨w.heap.size,1,none⟩) (by simp) (.bool s)).set (x:=⟨w.heap.size,2,none⟩) (by simp) (.slice p l c)).set (x:=⟨w.heap.size,3,none⟩) (by simp) (.slice q k d)) (by simp),(((((Kp.trans ((Kp.refl w).alloc _) g1)).setCell (Nat.le_refl _) _).setCell (Nat.le_refl _) _).setCell (Nat.le_refl _) _).setCell (Nat.le_refl _) _⟩
theorem boundM_ (w:World):Calls Tryz.prog 59 #[.int .u64 18442240474082181120] w fun e w'=>∃ s p l c q k d,e = .returned (.agg #[.int .i64 (-1),.bool s,.slice p l c,.slice q k d])∧RP w.heap.size w' s p l c q k d false 0∧Kp w w':=by
  go_enter Tryz.func59,Tryz.ntmps59
  go_wp2_with (first | (go_at_call 23;refine (int0_ _).mono ?_;rintro e w1 ⟨s,p,l,c,q,k,d,rfl,hp,g1⟩;have r0:=kkeep g1 (b:=w.heap.size) (o:=0) (v:=.int .i64 0) (by simp [go_sem]);have rz0:w1.frozen? ⟨w.heap.size,0,none⟩ = false:=(kfro g1 (by simp <;> omega)).trans (by simp [go_sem]);have r1:=kkeep g1 (b:=w.heap.size) (o:=1) (v:=.bool false) (by simp [go_sem]);have rz1:w1.frozen? ⟨w.heap.size,1,none⟩ = false:=(kfro g1 (by simp <;> omega)).trans (by simp [go_sem]);have r2:=kkeep g1 (b:=w.heap.size) (o:=2) (v:=.slice none 0 0) (by simp [go_sem]);have rz2:w1.frozen? ⟨w.heap.size,2,none⟩ = false:=(kfro g1 (by simp <;> omega)).trans (by simp [go_sem]);have r3:=kkeep g1 (b:=w.heap.size) (o:=3) (v:=.slice none 0 0) (by simp [go_sem]);have rz3:w1.frozen? ⟨w.heap.size,3,none⟩ = false:=(kfro g1 (by simp <;> omega)).trans (by simp [go_sem])))
  exact bodyPost_ret (v:=.agg #[.int .i64 (-1),.bool s,.slice p l c,.slice q k d]) (by simp [results,Tryz.results59,go_sem,r0,r1,r2,r3]) rfl ⟨s,p,l,c,q,k,d,rfl,RP.mono (((((hp).set (x:=⟨w.heap.size,0,none⟩) (by simp) (.int .i64 (-1))).set (x:=⟨w.heap.size,1,none⟩) (by simp) (.bool s)).set (x:=⟨w.heap.size,2,none⟩) (by simp) (.slice p l c)).set (x:=⟨w.heap.size,3,none⟩) (by simp) (.slice q k d)) (by simp),(((((Kp.trans ((Kp.refl w).alloc _) g1)).setCell (Nat.le_refl _) _).setCell (Nat.le_refl _) _).setCell (Nat.le_refl _) _).setCell (Nat.le_refl _) _⟩
theorem boundF_ (n:Bool) (m:Nat) (hm:m < 9218868437227405312) (ht:Fq.wD n m≠9223372036854775808) (w:World):Calls Tryz.prog 59 #[.int .u64 ((Fq.wD n m:Nat):Int)] w fun e w'=>∃ s p l c q k d,e = .returned (.agg #[.int .i64 0,.bool s,.slice p l c,.slice q k d])∧RP w.heap.size w' s p l c q k d n m∧Kp w w':=by
  have hf:=fromR_ n m hm
  have hq:=Fq.rplain6_ n m (by omega)
  rw [show Fq.pla (Fq.wD n m) = Fq.wD n m from by unfold Fq.pla;rw [if_neg ht]] at hq
  have t1:(((Fq.wD n m:Nat):Int) == 9218868437227405312) = false:=by
    have:Fq.wD n m≠9218868437227405312:=by unfold Fq.wD;cases n <;> simp <;> omega
    simp;omega
  have t2:(((Fq.wD n m:Nat):Int) == 18442240474082181120) = false:=by
    have:Fq.wD n m≠18442240474082181120:=by unfold Fq.wD;cases n <;> simp <;> omega
    simp;omega
  generalize ((Fq.wD n m:Nat):Int) = X at hf hq t1 t2 ⊢
  clear hm ht
  go_enter Tryz.func59,Tryz.ntmps59
  go_wp2_with (first | (go_at_call 87;refine (hq _).mono ?_;rintro e w' ⟨rfl,rfl⟩) | (go_at_call 88;refine (hf _).mono ?_;rintro e w1 ⟨s,p,l,c,q,k,d,rfl,hp,g1⟩;have r0:=kkeep g1 (b:=w.heap.size) (o:=0) (v:=.int .i64 0) (by simp [go_sem]);have rz0:w1.frozen? ⟨w.heap.size,0,none⟩ = false:=(kfro g1 (by simp <;> omega)).trans (by simp [go_sem]);have r1:=kkeep g1 (b:=w.heap.size) (o:=1) (v:=.bool false) (by simp [go_sem]);have rz1:w1.frozen? ⟨w.heap.size,1,none⟩ = false:=(kfro g1 (by simp <;> omega)).trans (by simp [go_sem]);have r2:=kkeep g1 (b:=w.heap.size) (o:=2) (v:=.slice none 0 0) (by simp [go_sem]);have rz2:w1.frozen? ⟨w.heap.size,2,none⟩ = false:=(kfro g1 (by simp <;> omega)).trans (by simp [go_sem]);have r3:=kkeep g1 (b:=w.heap.size) (o:=3) (v:=.slice none 0 0) (by simp [go_sem]);have rz3:w1.frozen? ⟨w.heap.size,3,none⟩ = false:=(kfro g1 (by simp <;> omega)).trans (by simp [go_sem])))
  exact bodyPost_ret (v:=.agg #[.int .i64 0,.bool s,.slice p l c,.slice q k d]) (by simp [results,Tryz.results59,go_sem,r0,r1,r2,r3]) rfl ⟨s,p,l,c,q,k,d,rfl,RP.mono (((((hp).set (x:=⟨w.heap.size,0,none⟩) (by simp) (.int .i64 0)).set (x:=⟨w.heap.size,1,none⟩) (by simp) (.bool s)).set (x:=⟨w.heap.size,2,none⟩) (by simp) (.slice p l c)).set (x:=⟨w.heap.size,3,none⟩) (by simp) (.slice q k d)) (by simp),(((((Kp.trans ((Kp.refl w).alloc _) g1)).setCell (Nat.le_refl _) _).setCell (Nat.le_refl _) _).setCell (Nat.le_refl _) _).setCell (Nat.le_refl _) _⟩
def infS (n:Bool) (m:Nat):Int:=if m = 9218868437227405312 then (if n then -1 else 1) else 0
def fN (n:Bool) (m:Nat):Bool:=if m = 9218868437227405312 then false else n
def fM (m:Nat):Nat:=if m = 9218868437227405312 then 0 else m
theorem bound_ (n:Bool) (m:Nat) (hm:m≤9218868437227405312) (ht:Fq.wD n m≠9223372036854775808) (w:World):Calls Tryz.prog 59 #[.int .u64 ((Fq.wD n m:Nat):Int)] w fun e w'=>∃ s p l c q k d,e = .returned (.agg #[.int .i64 (infS n m),.bool s,.slice p l c,.slice q k d])∧RP w.heap.size w' s p l c q k d (fN n m) (fM m)∧Kp w w':=by
  unfold infS fN fM
  by_cases c:m = 9218868437227405312
  · rw [if_pos c,if_pos c,if_pos c,c]
    cases n
    · exact boundI_ w
    · exact boundM_ w
  · rw [if_neg c,if_neg c,if_neg c]
    exact boundF_ n m (by omega) ht w
end Go.Proofs.YtnileplkkmhdgaaGreatDoor
