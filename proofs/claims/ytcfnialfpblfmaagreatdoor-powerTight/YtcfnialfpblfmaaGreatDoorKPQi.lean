import Derived.Test.YtcfnialfpblfmaaGreatDoorKPTa
set_option maxHeartbeats 4000000
set_option maxRecDepth 20000
namespace Go.Proofs.YtcfnialfpblfmaaGreatDoor
open Go.RowKit
set_option linter.unusedVariables false
def TX (b N:Nat) (i1 V1:Int) (C1:Nat) (i2 V2:Int) (C2:Nat) (W:World) (v:Value):Prop:=∃ (s:Bool) (p:Option Addr) (l c:Nat) (q:Option Addr) (k d:Nat) (s2:Bool) (p2:Option Addr) (l2 c2:Nat) (q2:Option Addr) (k2 d2:Nat),v = .agg #[.bool false,.int .i64 i1,.bool s,.slice p l c,.slice q k d,.int .i64 i2,.bool s2,.slice p2 l2 c2,.slice q2 k2 d2]∧XP b W s p l c q k d V1 C1 N∧XP b W s2 p2 l2 c2 q2 k2 d2 V2 C2 N
set_option linter.unusedVariables false
theorem nxB_ (b r:Nat) (hb:b < 18446744073709551616) (hr:r = if b = 9223372036854775809∨b = 9223372036854775808 then 0 else if 9223372036854775808 < b then b - 1 else b + 1) (hb2:b + 1 < 18446744073709551616) (w:World):Calls Tryz.prog 41 #[.int .u64 ((b:Nat):Int)] w fun e w'=>e = .returned (.int .u64 ((r:Nat):Int))∧w' = w:=by
  by_cases c1:b = 9223372036854775809∨b = 9223372036854775808
  · rw [if_pos c1] at hr
    rcases c1 with c | c <;> subst c <;> subst hr
    · go_enter Tryz.func41,Tryz.ntmps41
      go_wp2
      exact bodyPost_ret (v:=.int .u64 0) (by simp [results,Tryz.results41,go_sem]) rfl ⟨rfl,rfl⟩
    · go_enter Tryz.func41,Tryz.ntmps41
      go_wp2
      exact bodyPost_ret (v:=.int .u64 0) (by simp [results,Tryz.results41,go_sem]) rfl ⟨rfl,rfl⟩
  · rw [if_neg c1] at hr
    have e1:((b:Int) == (9223372036854775809:Int)) = false:=by simp;omega
    have e2:((b:Int) == (9223372036854775808:Int)) = false:=by simp;omega
    have n1:¬ ((b:Int) = (9223372036854775809:Int)):=by omega
    have n2:¬ ((b:Int) = (9223372036854775808:Int)):=by omega
    by_cases c2:9223372036854775808 < b
    · rw [if_pos c2] at hr
      have e3:(9223372036854775808:Int) < (b:Int):=by omega
      rw [show ((r:Nat):Int) = (b:Int) - 1 from by omega]
      go_enter Tryz.func41,Tryz.ntmps41
      go_wp2
      exact bodyPost_ret (v:=.int .u64 ((b:Int) - 1)) (by simp [results,Tryz.results41,go_sem]) rfl ⟨rfl,rfl⟩
    · rw [if_neg c2] at hr
      have e3:¬ ((9223372036854775808:Int) < (b:Int)):=by omega
      rw [show ((r:Nat):Int) = (b:Int) + 1 from by omega]
      go_enter Tryz.func41,Tryz.ntmps41
      go_wp2
      exact bodyPost_ret (v:=.int .u64 ((b:Int) + 1)) (by simp [results,Tryz.results41,go_sem]) rfl ⟨rfl,rfl⟩

def limZ (n:Int):Int:=if n < -64∨64 < n then 3 else n
theorem limA_ (n:Int) (h:n < -64) (w:World):Calls Tryz.prog 23 #[.int .i64 n] w fun e w'=>e = .returned (.int .i64 3)∧Kp w w':=by
  go_enter Tryz.func23,Tryz.ntmps23
  go_wp2
  exact bodyPost_ret (v:=.int .i64 3) (by simp [results,Tryz.results23,go_sem]) rfl ⟨rfl,(by repeat (with_reducible (first | assumption | exact Kp.refl _ | apply Kp.drew | apply Kp.alloc | apply Kp.drewN | (refine Kp.setCell ?_ (by first | omega | (simp <;> omega)) _) | (refine Kp.trans ?_ (by assumption)))))⟩
theorem limB_ (n:Int) (h:¬ (n < -64)) (h2:64 < n) (w:World):Calls Tryz.prog 23 #[.int .i64 n] w fun e w'=>e = .returned (.int .i64 3)∧Kp w w':=by
  go_enter Tryz.func23,Tryz.ntmps23
  go_wp2
  exact bodyPost_ret (v:=.int .i64 3) (by simp [results,Tryz.results23,go_sem]) rfl ⟨rfl,(by repeat (with_reducible (first | assumption | exact Kp.refl _ | apply Kp.drew | apply Kp.alloc | apply Kp.drewN | (refine Kp.setCell ?_ (by first | omega | (simp <;> omega)) _) | (refine Kp.trans ?_ (by assumption)))))⟩
theorem limC_ (n:Int) (h:¬ (n < -64)) (h2:¬ (64 < n)) (w:World):Calls Tryz.prog 23 #[.int .i64 n] w fun e w'=>e = .returned (.int .i64 n)∧Kp w w':=by
  go_enter Tryz.func23,Tryz.ntmps23
  go_wp2
  exact bodyPost_ret (v:=.int .i64 n) (by simp [results,Tryz.results23,go_sem]) rfl ⟨rfl,(by repeat (with_reducible (first | assumption | exact Kp.refl _ | apply Kp.drew | apply Kp.alloc | apply Kp.drewN | (refine Kp.setCell ?_ (by first | omega | (simp <;> omega)) _) | (refine Kp.trans ?_ (by assumption)))))⟩
theorem lim_ (n:Int) (w:World):Calls Tryz.prog 23 #[.int .i64 n] w fun e w'=>e = .returned (.int .i64 (limZ n))∧Kp w w':=by
  unfold limZ
  by_cases a:n < -64
  · rw [if_pos (Or.inl a)];exact limA_ n a w
  · by_cases b:64 < n
    · rw [if_pos (Or.inr b)];exact limB_ n a b w
    · rw [if_neg (by omega)];exact limC_ n a b w
theorem pw_v (z:Int):pw z = if z < 0 then 9223372036854775808 + z.natAbs else z.natAbs:=by
  unfold pw Fq.wD
  by_cases c:z < 0
  · rw [if_pos (decide_eq_true c),if_pos c]
  · rw [if_neg (by simpa using c),if_neg c]
theorem nx9_ (z:Int) (h1:-9218868437227405312≤z) (h2:z < 9218868437227405312) (w:World):Calls Tryz.prog 41 #[.int .u64 (pI z)] w fun e w'=>e = .returned (.int .u64 (pI (z + 1)))∧w' = w:=by
  have e1:=pw_v z
  have e2:=pw_v (z + 1)
  refine nxB_ (pw z) (pw (z + 1)) ?_ ?_ ?_ w
  · rw [e1];split <;> omega
  · rw [e1,e2]
    by_cases c:z < 0
    · rw [if_pos c]
      by_cases d:z = -1
      · subst d;decide
      · rw [if_pos (show z + 1 < 0 by omega),if_neg (by omega),if_pos (by omega)];omega
    · rw [if_neg c,if_neg (show ¬ z + 1 < 0 by omega),if_neg (by omega),if_neg (by omega)];omega
  · rw [e1];split <;> omega
theorem fromZ_ (K:Nat) (hK:K = 1074) (z:Int) (f:-9218868437227405312 < z∧z < 9218868437227405312) (w:World):Calls Tryz.prog 26 #[.int .u64 (pI z)] w fun e w'=>∃ s2 p2 l2 c2 q2 k2 d2,e = .returned (.agg #[.bool s2,.slice p2 l2 c2,.slice q2 k2 d2])∧XP 0 w' s2 p2 l2 c2 q2 k2 d2 (vZ z) (2 ^ K) 1500∧Kp w w':=by
  refine (fromR_ (decide (z < 0)) z.natAbs (by omega) w).mono ?_
  rintro e w' ⟨s2,p2,l2,c2,q2,k2,d2,rfl,h,g⟩
  exact ⟨s2,p2,l2,c2,q2,k2,d2,rfl,(h.xp K hK).mono (Nat.zero_le _),g⟩
theorem holds9_ (K:Nat) (hK:K = 1074) (lo hi:Int) (d:VdZ lo hi) (nI:lo≠9218868437227405312) (V:Int) (C N:Nat) (hN:N≤3100000) (s:Bool) (p:Option Addr) (l c:Nat) (q:Option Addr) (k d9:Nat) (B1:Nat) (w:World) (h:XP B1 w s p l c q k d9 V C N) (c1:lo = -9218868437227405312∨vZ lo * (C:Int)≤V * ((2 ^ K:Nat):Int)) (c2:hi = 9218868437227405312∨V * ((2 ^ K:Nat):Int)≤vZ hi * (C:Int)):Calls Tryz.prog 28 #[.agg #[.float .f64 (pw lo),.float .f64 (pw hi)],.agg #[.bool s,.slice p l c,.slice q k d9]] w fun e w'=>e = .returned (.bool true)∧Kp w w':=by
  have b1:=d.lo
  have b2:=d.hi
  have hv:=d
  unfold VdZ at hv
  unfold BdZ at b1 b2
  have e1:=pw_v lo
  have e2:=pw_v hi
  have tE:(pI lo == 9218868437227405312) = false:=by
    unfold pI;rw [e1,beq_eq_false_iff_ne];split <;> omega
  have tL:∀ x:Bool,decide (lo = -9218868437227405312) = x→(pI lo == 18442240474082181120) = x:=fun x hx=>by
    rw [← hx];unfold pI;rw [e1,Bool.eq_iff_iff,beq_iff_eq,decide_eq_true_iff];split <;> omega
  have tH:∀ x:Bool,decide (hi = 9218868437227405312) = x→(pI hi == 9218868437227405312) = x:=fun x hx=>by
    rw [← hx];unfold pI;rw [e2,Bool.eq_iff_iff,beq_iff_eq,decide_eq_true_iff];split <;> omega
  have hO:=fun (W:World)=>out9_ (pw lo) (pw hi) W
  have hV:=fun (W:World)=>valid9_ lo hi d W
  have cL:=fun (hl:vZ lo * (C:Int)≤V * ((2 ^ K:Nat):Int)) (W:World) s2 p2 l2 c2 q2 k2 d2 (g:Kp w W) (hx:XP 0 W s2 p2 l2 c2 q2 k2 d2 (vZ lo) (2 ^ K) 1500)=>xcmp_ 0 B1 (vZ lo) V (2 ^ K) C 1500 N (by decide) hN s2 p2 l2 c2 q2 k2 d2 s p l c q k d9 W hx (h.kp g)
  have cH:=fun (hl:V * ((2 ^ K:Nat):Int)≤vZ hi * (C:Int)) (W:World) s2 p2 l2 c2 q2 k2 d2 (g:Kp w W) (hx:XP 0 W s2 p2 l2 c2 q2 k2 d2 (vZ hi) (2 ^ K) 1500)=>xcmp_ B1 0 V (vZ hi) C (2 ^ K) N 1500 hN (by decide) s p l c q k d9 s2 p2 l2 c2 q2 k2 d2 W (h.kp g) hx
  by_cases a:lo = -9218868437227405312
  · by_cases b:hi = 9218868437227405312
    · exact holdsII_ _ _ _ _ s p l c q k d9 w hO hV tE (tL true (decide_eq_true a)) (tH true (decide_eq_true b))
    · have q9:=c2.resolve_left b
      exact holdsIF_ _ _ _ _ _ s p l c q k d9 (fun w' s2 p2 l2 c2 q2 k2 d2=>XP 0 w' s2 p2 l2 c2 q2 k2 d2 (vZ hi) (2 ^ K) 1500) w hO hV tE (tL true (decide_eq_true a)) (tH false (decide_eq_false b)) (fun W=>fromZ_ K hK hi (by omega) W) (cH q9) ((cmI_le0 _ _).2 q9)
  · have p9:=c1.resolve_left a
    by_cases b:hi = 9218868437227405312
    · exact holdsFI_ _ _ _ _ _ s p l c q k d9 (fun w' s2 p2 l2 c2 q2 k2 d2=>XP 0 w' s2 p2 l2 c2 q2 k2 d2 (vZ lo) (2 ^ K) 1500) w hO hV tE (tL false (decide_eq_false a)) (tH true (decide_eq_true b)) (fun W=>fromZ_ K hK lo (by omega) W) (cL p9) ((cmI_le0 _ _).2 p9)
    · have q9:=c2.resolve_left b
      exact holdsFF_ _ _ _ _ _ _ s p l c q k d9 (fun w' s2 p2 l2 c2 q2 k2 d2=>XP 0 w' s2 p2 l2 c2 q2 k2 d2 (vZ lo) (2 ^ K) 1500) (fun w' s2 p2 l2 c2 q2 k2 d2=>XP 0 w' s2 p2 l2 c2 q2 k2 d2 (vZ hi) (2 ^ K) 1500) w hO hV tE (tL false (decide_eq_false a)) (tH false (decide_eq_false b)) (fun W=>fromZ_ K hK lo (by omega) W) (cL p9) ((cmI_le0 _ _).2 p9) (fun W=>fromZ_ K hK hi (by omega) W) (cH q9) ((cmI_le0 _ _).2 q9)
set_option linter.unusedVariables false
theorem eq7n (x:Nat) (h:(FloatKind.f64.format.order x x == some Ordering.eq) = true) (w:World):(Op.equalIn 9999 22 (.float .f64 x) (.float .f64 x)).run Tryz.prog w = .ok true w:=by
  have g:=Fq.eqIn6 x x w
  rw [h] at g
  exact g
theorem of7P_ (x y:Nat) (w:World):Calls Tryz.prog 9 #[.float .f64 x,.float .f64 y] w fun e w'=>e = .returned (.agg #[.float .f64 x,.float .f64 y])∧Kp w w':=by
  go_enter Tryz.func9,Tryz.ntmps9
  go_wp2
  exact bodyPost_ret (v:=.agg #[.float .f64 x,.float .f64 y]) (by simp [results,Tryz.results9,go_sem]) rfl ⟨rfl,(Kp.refl w).alloc _⟩
theorem livesA_ (PP:Nat→Nat→Int→Nat→Nat→Prop) (PI:Nat→Nat→Nat→Nat→Nat→Nat→Nat→Prop) (PU:Nat→Nat→Nat→Nat→Nat→Prop) (hP:∀ x1 x2 N z1 z2,PP x1 x2 N z1 z2→∀ w:World,TU7 w→Calls Tryz.prog 11 #[.agg #[.float .f64 x1,.float .f64 x2],.int .i64 N] w fun e w'=>e = .returned (.agg #[.float .f64 z1,.float .f64 z2])∧Kp w w') (hI:∀ f x1 x2 y1 y2 z1 z2,PI f x1 x2 y1 y2 z1 z2→∀ w:World,TU7 w→Calls Tryz.prog f #[.agg #[.float .f64 x1,.float .f64 x2],.agg #[.float .f64 y1,.float .f64 y2]] w fun e w'=>e = .returned (.agg #[.float .f64 z1,.float .f64 z2])∧Kp w w') (hU:∀ f x1 x2 z1 z2,PU f x1 x2 z1 z2→∀ w:World,TU7 w→Calls Tryz.prog f #[.agg #[.float .f64 x1,.float .f64 x2]] w fun e w'=>e = .returned (.agg #[.float .f64 z1,.float .f64 z2])∧Kp w w') (hof:∀ (x y:Nat) (w:World),Calls Tryz.prog 9 #[.float .f64 x,.float .f64 y] w fun e w'=>e = .returned (.agg #[.float .f64 x,.float .f64 y])∧Kp w w') (fp0:PP 13835058055282163712 4613937818241073152 (3) 13844065254536904704 4628293042053316608) (fi0:PI 25 4607182418800017408 4616189618054758400 4611686018427387904 4613937818241073152 4611686018427387904 4616189618054758400) (fu0:PU 35 13837309855095848960 4611686018427387904 0 4613937818241073152) (fu1:PU 18 4602678819172646912 4612811918334230528 0 4611686018427387904) (w:World) (hTW:TU7 w):Calls Tryz.prog 10 #[] w fun e w'=>e = .returned (.bool true)∧Kp w w':=by
  have gq:=Kp.refl w
  have e0:=eq7n 0 (by decide +kernel)
  have e4611686018427387904:=eq7n 4611686018427387904 (by decide +kernel)
  have e4613937818241073152:=eq7n 4613937818241073152 (by decide +kernel)
  have e4616189618054758400:=eq7n 4616189618054758400 (by decide +kernel)
  have e4628293042053316608:=eq7n 4628293042053316608 (by decide +kernel)
  have e13844065254536904704:=eq7n 13844065254536904704 (by decide +kernel)
  go_enter Tryz.func10,Tryz.ntmps10
  go_wp2_with (first | (go_at_call 11;refine (hP _ _ _ _ _ (by first | exact fp0) _ hTW).mono ?_;rintro e wx ⟨rfl,gx⟩;replace gq:=Kp.trans gq gx;replace hTW:=hTW.kp gx;clear gx) | (go_at_call 25;refine (hI 25 _ _ _ _ _ _ (by first | exact fi0) _ hTW).mono ?_;rintro e wx ⟨rfl,gx⟩;replace gq:=Kp.trans gq gx;replace hTW:=hTW.kp gx;clear gx) | (go_at_call 18;refine (hU 18 _ _ _ _ (by first | exact fu0 | exact fu1) _ hTW).mono ?_;rintro e wx ⟨rfl,gx⟩;replace gq:=Kp.trans gq gx;replace hTW:=hTW.kp gx;clear gx) | (go_at_call 35;refine (hU 35 _ _ _ _ (by first | exact fu0 | exact fu1) _ hTW).mono ?_;rintro e wx ⟨rfl,gx⟩;replace gq:=Kp.trans gq gx;replace hTW:=hTW.kp gx;clear gx) | (go_at_call 9;refine (hof _ _ _).mono ?_;rintro e wx ⟨rfl,gx⟩;replace gq:=Kp.trans gq gx;replace hTW:=hTW.kp gx;clear gx))
  exact bodyPost_ret (v:=.bool true) (by simp [results,Tryz.results10,go_sem]) rfl ⟨rfl,gq⟩
set_option linter.unusedVariables false
theorem Rd.lit (a b:Nat) (L H:Int) (ea:pw L = a) (eb:pw H = b) (h:decide ((L = 9218868437227405312∧H = -9218868437227405312)∨(-9218868437227405312≤L∧L < 9218868437227405312∧-9218868437227405312 < H∧H≤9218868437227405312∧L≤H)) = true):Rd a b L H:=by
  have v:VdZ L H:=by unfold VdZ;exact of_decide_eq_true h
  have r:=Rd.of v
  rw [ea,eb] at r
  exact r
theorem lvp0_ (w:World) (hT:TU7 w):Calls Tryz.prog 11 #[.agg #[.float .f64 13835058055282163712,.float .f64 4613937818241073152],.int .i64 (3)] w fun e w'=>e = .returned (.agg #[.float .f64 13844065254536904704,.float .f64 4628293042053316608])∧Kp w w':=by
  have h:=pown9_ 1074 rfl 13835058055282163712 4613937818241073152 (-4611686018427387904:Int) (4613937818241073152:Int) (3) (Rd.lit 13835058055282163712 4613937818241073152 (-4611686018427387904:Int) (4613937818241073152:Int) (by decide) (by decide) (by decide)) w hT
  rw [show pw (nLo 1074 (3) (-4611686018427387904:Int) (4613937818241073152:Int)) = 13844065254536904704 from by decide +kernel,show pw (nHi 1074 (3) (-4611686018427387904:Int) (4613937818241073152:Int)) = 4628293042053316608 from by decide +kernel] at h
  exact h
theorem lvi0_ (w:World) (hT:TU7 w):Calls Tryz.prog 25 #[.agg #[.float .f64 4607182418800017408,.float .f64 4616189618054758400],.agg #[.float .f64 4611686018427387904,.float .f64 4613937818241073152]] w fun e w'=>e = .returned (.agg #[.float .f64 4611686018427387904,.float .f64 4616189618054758400])∧Kp w w':=by
  have h:=maxP9_ 4607182418800017408 4616189618054758400 4611686018427387904 4613937818241073152 (4607182418800017408:Int) (4616189618054758400:Int) (4611686018427387904:Int) (4613937818241073152:Int) (Rd.lit 4607182418800017408 4616189618054758400 (4607182418800017408:Int) (4616189618054758400:Int) (by decide) (by decide) (by decide)) (Rd.lit 4611686018427387904 4613937818241073152 (4611686018427387904:Int) (4613937818241073152:Int) (by decide) (by decide) (by decide)) w
  rw [show pw (maxLo (4607182418800017408:Int) (4616189618054758400:Int) (4611686018427387904:Int) (4613937818241073152:Int)) = 4611686018427387904 from by decide +kernel,show pw (maxHi (4607182418800017408:Int) (4616189618054758400:Int) (4611686018427387904:Int) (4613937818241073152:Int)) = 4616189618054758400 from by decide +kernel] at h
  exact h
theorem lvu0_ (w:World) (hT:TU7 w):Calls Tryz.prog 35 #[.agg #[.float .f64 13837309855095848960,.float .f64 4611686018427387904]] w fun e w'=>e = .returned (.agg #[.float .f64 0,.float .f64 4613937818241073152])∧Kp w w':=by
  have h:=absP9_ 13837309855095848960 4611686018427387904 (-4613937818241073152:Int) (4611686018427387904:Int) (Rd.lit 13837309855095848960 4611686018427387904 (-4613937818241073152:Int) (4611686018427387904:Int) (by decide) (by decide) (by decide)) w
  rw [show pw (bsLo (-4613937818241073152:Int) (4611686018427387904:Int)) = 0 from by decide +kernel,show pw (bsHi (-4613937818241073152:Int) (4611686018427387904:Int)) = 4613937818241073152 from by decide +kernel] at h
  exact h
theorem lvu1_ (w:World) (hT:TU7 w):Calls Tryz.prog 18 #[.agg #[.float .f64 4602678819172646912,.float .f64 4612811918334230528]] w fun e w'=>e = .returned (.agg #[.float .f64 0,.float .f64 4611686018427387904])∧Kp w w':=by
  have h:=stepB4_ 1074 rfl 4602678819172646912 4612811918334230528 (4602678819172646912:Int) (4612811918334230528:Int) (Rd.lit 4602678819172646912 4612811918334230528 (4602678819172646912:Int) (4612811918334230528:Int) (by decide) (by decide) (by decide)) w
  rw [show pw (gLo 1074 4 (4602678819172646912:Int) (4612811918334230528:Int)) = 0 from by decide +kernel,show pw (gHi 1074 4 (4602678819172646912:Int) (4612811918334230528:Int)) = 4611686018427387904 from by decide +kernel] at h
  exact h
theorem lives7_ (w:World) (hT:TU7 w):Calls Tryz.prog 10 #[] w fun e w'=>e = .returned (.bool true)∧Kp w w':=livesA_ (fun x1 x2 N z1 z2=>∀ w:World,TU7 w→Calls Tryz.prog 11 #[.agg #[.float .f64 x1,.float .f64 x2],.int .i64 N] w fun e w'=>e = .returned (.agg #[.float .f64 z1,.float .f64 z2])∧Kp w w') (fun f x1 x2 y1 y2 z1 z2=>∀ w:World,TU7 w→Calls Tryz.prog f #[.agg #[.float .f64 x1,.float .f64 x2],.agg #[.float .f64 y1,.float .f64 y2]] w fun e w'=>e = .returned (.agg #[.float .f64 z1,.float .f64 z2])∧Kp w w') (fun f x1 x2 z1 z2=>∀ w:World,TU7 w→Calls Tryz.prog f #[.agg #[.float .f64 x1,.float .f64 x2]] w fun e w'=>e = .returned (.agg #[.float .f64 z1,.float .f64 z2])∧Kp w w') (fun _ _ _ _ _ h=>h) (fun _ _ _ _ _ _ _ h=>h) (fun _ _ _ _ _ h=>h) of7P_ lvp0_ lvi0_ lvu0_ lvu1_ w hT
end Go.Proofs.YtcfnialfpblfmaaGreatDoor
