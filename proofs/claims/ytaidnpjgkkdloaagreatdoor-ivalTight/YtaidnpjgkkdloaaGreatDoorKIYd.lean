import Derived.Test.YtaidnpjgkkdloaaGreatDoorKTXn
set_option maxHeartbeats 1000000
set_option maxRecDepth 20000
namespace Go.Proofs.YtaidnpjgkkdloaaGreatDoor
open Go.RowKit
set_option linter.unusedVariables false
theorem sub6c_ (a b c d NL NH RL RH:Nat) (w:World) (hN:∀ w:World,Calls Tryz.prog 35 #[.agg #[.float .f64 c,.float .f64 d]] w fun e w'=>e = .returned (.agg #[.float .f64 NL,.float .f64 NH])∧Kp w w') (hA:∀ W:World,Kp w W→Calls Tryz.prog 8 #[.agg #[.float .f64 a,.float .f64 b],.agg #[.float .f64 NL,.float .f64 NH]] W fun e w'=>e = .returned (.agg #[.float .f64 RL,.float .f64 RH])∧Kp W w'):Calls Tryz.prog 11 #[.agg #[.float .f64 a,.float .f64 b],.agg #[.float .f64 c,.float .f64 d]] w fun e w'=>e = .returned (.agg #[.float .f64 RL,.float .f64 RH])∧Kp w w':=by
  go_enter Tryz.func11,Tryz.ntmps11
  go_wp2
  generalize hW:(((w.alloc (.cells #[.float .f64 a,.float .f64 b] 32)).alloc (.cells #[.float .f64 c,.float .f64 d] 32)).alloc (.cells #[.float .f64 0,.float .f64 0] 32)) = W
  have kw:Kp w W:=by rw [← hW];exact (((Kp.refl w).alloc _).alloc _).alloc _
  have xw0:W.cell? ⟨w.heap.size,0,none⟩ = some (.float .f64 a):=by rw [← hW];simp [go_sem]
  have dw0:W.drew.cell? ⟨w.heap.size,0,none⟩ = some (.float .f64 a):=xw0
  have xw1:W.cell? ⟨w.heap.size,1,none⟩ = some (.float .f64 b):=by rw [← hW];simp [go_sem]
  have dw1:W.drew.cell? ⟨w.heap.size,1,none⟩ = some (.float .f64 b):=xw1
  have xw2:W.cell? ⟨w.heap.size + 1,0,none⟩ = some (.float .f64 c):=by rw [← hW];simp [go_sem]
  have dw2:W.drew.cell? ⟨w.heap.size + 1,0,none⟩ = some (.float .f64 c):=xw2
  have xw3:W.cell? ⟨w.heap.size + 1,1,none⟩ = some (.float .f64 d):=by rw [← hW];simp [go_sem]
  have dw3:W.drew.cell? ⟨w.heap.size + 1,1,none⟩ = some (.float .f64 d):=xw3
  have r0:W.cell? ⟨w.heap.size + 2,0,none⟩ = some (.float .f64 0):=by rw [← hW];simp [go_sem]
  have rz0:W.frozen? ⟨w.heap.size + 2,0,none⟩ = false:=by rw [← hW];simp [go_sem]
  have r1:W.cell? ⟨w.heap.size + 2,1,none⟩ = some (.float .f64 0):=by rw [← hW];simp [go_sem]
  have rz1:W.frozen? ⟨w.heap.size + 2,1,none⟩ = false:=by rw [← hW];simp [go_sem]
  have hn1:w.heap.size + 2≠w.heap.size:=by omega
  have hn2:w.heap.size + 2≠w.heap.size + 1:=by omega
  clear hW
  go_region_held3 (fun w'=>w'.cell? ⟨w.heap.size,0,none⟩ = some (.float .f64 a)∧w'.cell? ⟨w.heap.size,1,none⟩ = some (.float .f64 b)∧w'.cell? ⟨w.heap.size + 1,0,none⟩ = some (.float .f64 c)∧w'.cell? ⟨w.heap.size + 1,1,none⟩ = some (.float .f64 d)) (first | (with_reducible exact ⟨xw0,xw1,xw2,xw3⟩) | (with_reducible exact ⟨dw0,dw1,dw2,dw3⟩) | (with_reducible exact ⟨aw0,aw1,aw2,aw3⟩) | (with_reducible exact ⟨bw0,bw1,bw2,bw3⟩) | (exact ⟨((World.cell?_setCell_far _ _ _ _ hn1).trans ((World.cell?_setCell_far _ _ _ _ hn1).trans bw0)),((World.cell?_setCell_far _ _ _ _ hn1).trans ((World.cell?_setCell_far _ _ _ _ hn1).trans bw1)),((World.cell?_setCell_far _ _ _ _ hn2).trans ((World.cell?_setCell_far _ _ _ _ hn2).trans bw2)),((World.cell?_setCell_far _ _ _ _ hn2).trans ((World.cell?_setCell_far _ _ _ _ hn2).trans bw3))⟩)) (first | (go_at_call 35;refine (hN _).mono ?_;rintro e wl ⟨rfl,gl⟩;have kl:Kp W wl:=Kp.trans (Kp.drew (Kp.refl _)) gl;have aw0:=kkeep kl xw0;have aw1:=kkeep kl xw1;have aw2:=kkeep kl xw2;have aw3:=kkeep kl xw3) | (go_at_call 8;refine (hA _ ?q0).mono ?_;(case q0=>exact kw.trans kl);rintro e wh ⟨rfl,gh⟩;have kh:Kp W wh:=Kp.trans kl gh;have bw0:=kkeep kh xw0;have bw1:=kkeep kh xw1;have bw2:=kkeep kh xw2;have bw3:=kkeep kh xw3;have R0:=kkeep kh r0;have Rz0:wh.frozen? ⟨w.heap.size + 2,0,none⟩ = false:=(kfro kh (cell_lt r0)).trans rz0;have R1:=kkeep kh r1;have Rz1:wh.frozen? ⟨w.heap.size + 2,1,none⟩ = false:=(kfro kh (cell_lt r1)).trans rz1))
  go_wp2
  exact bodyPost_ret (v:=.agg #[.float .f64 RL,.float .f64 RH]) (by simp [results,Tryz.results11,go_sem,R0,R1]) rfl ⟨rfl,(((Kp.trans kw kh)).setCell (by simp <;> omega) _).setCell (by simp <;> omega) _⟩

def aLo (L1 H1 L2 H2:Int):Int:=if L1 = 9218868437227405312∨L2 = 9218868437227405312 then 9218868437227405312 else adZ (-1) L1 L2
def aHi (L1 H1 L2 H2:Int):Int:=if L1 = 9218868437227405312∨L2 = 9218868437227405312 then -9218868437227405312 else adZ 1 H1 H2
theorem add9_ (a b c d:Nat) (L1 H1 L2 H2:Int) (hx:Rd a b L1 H1) (hy:Rd c d L2 H2) (w:World) (hT:TT w):Calls Tryz.prog 8 #[.agg #[.float .f64 a,.float .f64 b],.agg #[.float .f64 c,.float .f64 d]] w fun e w'=>e = .returned (.agg #[.float .f64 (pw (aLo L1 H1 L2 H2)),.float .f64 (pw (aHi L1 H1 L2 H2))])∧Kp w w':=by
  have v1:=void9_ L1 H1 hx.vd
  have v2:=void9_ L2 H2 hy.vd
  unfold aLo aHi
  by_cases c1:L1 = 9218868437227405312
  · rw [if_pos (Or.inl c1),if_pos (Or.inl c1),pw_I,pw_MI]
    rw [decide_eq_true c1] at v1
    exact add6v1_ a b c d _ _ _ _ hx.call hy.call v1 empty9_ w
  rw [decide_eq_false c1] at v1
  by_cases c2:L2 = 9218868437227405312
  · rw [if_pos (Or.inr c2),if_pos (Or.inr c2),pw_I,pw_MI]
    rw [decide_eq_true c2] at v2
    exact add6v2_ a b c d _ _ _ _ hx.call hy.call v1 v2 empty9_ w
  rw [decide_eq_false c2] at v2
  rw [if_neg (by omega),if_neg (by omega)]
  have d1:=hx.vd
  have d2:=hy.vd
  have b1:=d1.lo;have b2:=d1.hi;have b3:=d2.lo;have b4:=d2.hi
  unfold VdZ at d1 d2
  exact add6n_ a b c d _ _ _ _ _ _ hx.call hy.call v1 v2 w (fun W k=>addP_ (-1) L1 L2 (by omega) (by omega) b1 b3 (by omega) W (hT.kp k)) (fun W k=>addP_ 1 H1 H2 (by omega) (by omega) b2 b4 (by omega) W (hT.kp k))
theorem sub9_ (a b c d:Nat) (L1 H1 L2 H2:Int) (hx:Rd a b L1 H1) (hy:Rd c d L2 H2) (w:World) (hT:TT w):Calls Tryz.prog 11 #[.agg #[.float .f64 a,.float .f64 b],.agg #[.float .f64 c,.float .f64 d]] w fun e w'=>e = .returned (.agg #[.float .f64 (pw (aLo L1 H1 (-H2) (-L2))),.float .f64 (pw (aHi L1 H1 (-H2) (-L2)))])∧Kp w w' :=
  sub6c_ a b c d _ _ _ _ w (neg9_ c d L2 H2 hy) (fun W k=>add9_ a b _ _ L1 H1 (-H2) (-L2) hx (Rd.of (vd_neg _ _ hy.vd)) W (hT.kp k))

set_option linter.unusedVariables false
theorem adZ_fin (d x y:Int) (hx:-9218868437227405312 < x∧x < 9218868437227405312) (hy:-9218868437227405312 < y∧y < 9218868437227405312):adZ d x y = g53 d 1 1 (vZ x + vZ y):=by
  unfold adZ oA
  rw [if_neg (by omega),if_neg (by omega),if_neg (by omega),vZ_sn,vZ_sn];rfl
theorem iv_lt9 (n n':Bool) (m m':Nat) (h:Fq.plz n m < Fq.plz n' m'):Iv n m < Iv n' m':=by
  have h1:=Fq.vV_lt_iff Ieee.double m m'
  have h2:=Fq.vV_lt_iff Ieee.double m' m
  have h3:=vV_zero m
  have h4:=vV_zero m'
  unfold Iv
  unfold Fq.plz at h
  cases n <;> cases n' <;> simp at h ⊢ <;> omega
theorem vZ_lt (x y:Int) (h:x < y):vZ x < vZ y:=iv_lt9 _ _ _ _ (by rw [plz_pw,plz_pw];exact h)
theorem vZ_inj (x y:Int) (h:vZ x = vZ y):x = y:=by
  rcases Int.lt_trichotomy x y with c | c | c
  · have:=vZ_lt x y c;omega
  · exact c
  · have:=vZ_lt y x c;omega
theorem g53_exact (K:Nat) (d e:Int) (he:-9218868437227405312 < e∧e < 9218868437227405312) (hd:d = -1∨d = 1):g53 d 1 (2 ^ K) (vZ e * ((2 ^ K:Nat):Int)) = e:=by
  have t:=g53_tight 1 (2 ^ K) (Nat.two_pow_pos K) (vZ e * ((2 ^ K:Nat):Int)) vZ vZ_pos vZ_neg
  have P:(0:Int) < ((2 ^ K:Nat):Int):=by have:=Nat.two_pow_pos K;omega
  generalize ((2 ^ K:Nat):Int) = Q at t P ⊢
  rw [show vZ e * Q * ((1:Nat):Int) = vZ e * Q from by simp] at t
  have low:-9218868437227405312 < g53 (-1) 1 (2 ^ K) (vZ e * Q)→vZ (g53 (-1) 1 (2 ^ K) (vZ e * Q)) * Q < vZ e * Q→g53 (-1) 1 (2 ^ K) (vZ e * Q) < e:=fun _ h=>by
    have h6:=Int.lt_of_mul_lt_mul_right h (by omega)
    rcases Int.lt_or_le (g53 (-1) 1 (2 ^ K) (vZ e * Q)) e with c | c
    · exact c
    · have:=vZ_le _ _ c
      omega
  have hig:vZ e * Q < vZ (g53 1 1 (2 ^ K) (vZ e * Q)) * Q→e < g53 1 1 (2 ^ K) (vZ e * Q):=fun h=>by
    have h6:=Int.lt_of_mul_lt_mul_right h (by omega)
    rcases Int.lt_or_le e (g53 1 1 (2 ^ K) (vZ e * Q)) with c | c
    · exact c
    · have:=vZ_le _ _ c
      omega
  rcases t with ⟨h1,_,h3,h4,h5⟩ | ⟨h1,h2,h3,h4,h5,_⟩
  · have h6:vZ (g53 (-1) 1 (2 ^ K) (vZ e * Q)) = vZ e:=Int.eq_of_mul_eq_mul_right (by omega) h5
    have h7:=vZ_inj _ _ h6
    rcases hd with rfl | rfl
    · exact h7
    · rw [← h1];exact h7
  · exfalso
    have h6:g53 (-1) 1 (2 ^ K) (vZ e * Q) < e:=by
      by_cases c:-9218868437227405312 < g53 (-1) 1 (2 ^ K) (vZ e * Q)
      · exact low c (h4 c)
      · omega
    have h7:e < g53 1 1 (2 ^ K) (vZ e * Q):=by
      by_cases c:g53 1 1 (2 ^ K) (vZ e * Q) < 9218868437227405312
      · exact hig (h5 c)
      · omega
    omega
theorem fmZ_fin (K:Nat) (e x y:Int) (hx:-9218868437227405312 < x∧x < 9218868437227405312) (hy:-9218868437227405312 < y∧y < 9218868437227405312) (he:-9218868437227405312 < e∧e < 9218868437227405312):fmZ K e x y = g53 (-1) 1 (2 ^ K) (vZ x * vZ y + vZ e * ((2 ^ K:Nat):Int)):=by
  unfold fmZ
  by_cases c:x = 0∨y = 0
  · rw [if_pos c]
    have z:vZ x * vZ y = 0:=by
      rcases c with c | c
      · rw [c,vZ_zero,Int.zero_mul]
      · rw [c,vZ_zero,Int.mul_zero]
    rw [z,Int.zero_add,g53_exact K (-1) e he (Or.inl rfl)]
  · rw [if_neg c]
    unfold fuZ oF
    rw [if_pos (by omega),if_pos (by omega),vZ_sn,vZ_sn,vZ_sn];rfl
set_option linter.unusedVariables false
theorem magnT_ (X Y M R LO HI:Nat) (ha1:∀ w:World,Calls Tryz.prog 69 #[.float .f64 X] w fun e w'=>e = .returned (.float .f64 M)∧w' = w) (ha2:∀ w:World,Calls Tryz.prog 69 #[.float .f64 Y] w fun e w'=>e = .returned (.float .f64 R)∧w' = w) (hm1:∀ (ts:Array TypeId) (t:TypeId) (w:World),(Builtin.max_ ts t #[.float .f64 M,.float .f64 R]).run Tryz.prog w = .ok (.float .f64 HI) w) (hm2:∀ (ts:Array TypeId) (t:TypeId) (w:World),(Builtin.min_ ts t #[.float .f64 M,.float .f64 R]).run Tryz.prog w = .ok (.float .f64 LO) w) (hh:∀ w:World,Calls Tryz.prog 42 #[.agg #[.float .f64 X,.float .f64 Y]] w fun e w'=>e = .returned (.bool true)∧Kp w w') (w:World):Calls Tryz.prog 39 #[.agg #[.float .f64 X,.float .f64 Y]] w fun e w'=>e = .returned (.tuple #[.float .f64 0,.float .f64 HI])∧Kp w w':=by
  go_enter Tryz.func39,Tryz.ntmps39
  go_wp2
  refine Fq.wp_region_grow (by kernel_rfl) (by kernel_rfl) (fun ι _ G hG hall=>?_)
  have cc0:∀ n,(G n).cell? ⟨w.heap.size,0,none⟩ = some (.float .f64 X):=fun n=>Fq.gkeep (hG n) (by simp [go_sem])
  have cc1:∀ n,(G n).cell? ⟨w.heap.size,1,none⟩ = some (.float .f64 Y):=fun n=>Fq.gkeep (hG n) (by simp [go_sem])
  repeat (go_big_quiet_step (first | (go_at_call_of 69 (Value.float .f64 X);exact (ha1 _).mono (fun e w' h=>⟨h.1,hall _ (by rw [h.2];exact hG _)⟩)) | (go_at_call_of 69 (Value.float .f64 Y);exact (ha2 _).mono (fun e w' h=>⟨h.1,hall _ (by rw [h.2];exact hG _)⟩))))
  refine wpQuiet_nil ?_
  rintro _ ⟨nq,rfl⟩
  have gq:Kp _ (G nq):=hG nq
  have y0:=cc0 nq
  have y1:=cc1 nq
  clear cc0 cc1 hall hG
  have kG:Kp w (G nq):=Kp.trans ((Kp.refl w).alloc _) gq
  clear gq
  generalize G nq = W at y0 y1 kG ⊢
  go_wp2_with (first | (go_at_call 42;refine (hh _).mono ?_;rintro e w2 ⟨rfl,g2⟩;have k2:Kp w w2:=Kp.trans kG g2))
  exact bodyPost_ret (v:=.tuple #[.float .f64 0,.float .f64 HI]) (by simp [results,Tryz.results39,go_sem]) rfl ⟨rfl,k2⟩
theorem magnF_ (X Y M R LO HI:Nat) (ha1:∀ w:World,Calls Tryz.prog 69 #[.float .f64 X] w fun e w'=>e = .returned (.float .f64 M)∧w' = w) (ha2:∀ w:World,Calls Tryz.prog 69 #[.float .f64 Y] w fun e w'=>e = .returned (.float .f64 R)∧w' = w) (hm1:∀ (ts:Array TypeId) (t:TypeId) (w:World),(Builtin.max_ ts t #[.float .f64 M,.float .f64 R]).run Tryz.prog w = .ok (.float .f64 HI) w) (hm2:∀ (ts:Array TypeId) (t:TypeId) (w:World),(Builtin.min_ ts t #[.float .f64 M,.float .f64 R]).run Tryz.prog w = .ok (.float .f64 LO) w) (hh:∀ w:World,Calls Tryz.prog 42 #[.agg #[.float .f64 X,.float .f64 Y]] w fun e w'=>e = .returned (.bool false)∧Kp w w') (w:World):Calls Tryz.prog 39 #[.agg #[.float .f64 X,.float .f64 Y]] w fun e w'=>e = .returned (.tuple #[.float .f64 LO,.float .f64 HI])∧Kp w w':=by
  go_enter Tryz.func39,Tryz.ntmps39
  go_wp2
  refine Fq.wp_region_grow (by kernel_rfl) (by kernel_rfl) (fun ι _ G hG hall=>?_)
  have cc0:∀ n,(G n).cell? ⟨w.heap.size,0,none⟩ = some (.float .f64 X):=fun n=>Fq.gkeep (hG n) (by simp [go_sem])
  have cc1:∀ n,(G n).cell? ⟨w.heap.size,1,none⟩ = some (.float .f64 Y):=fun n=>Fq.gkeep (hG n) (by simp [go_sem])
  repeat (go_big_quiet_step (first | (go_at_call_of 69 (Value.float .f64 X);exact (ha1 _).mono (fun e w' h=>⟨h.1,hall _ (by rw [h.2];exact hG _)⟩)) | (go_at_call_of 69 (Value.float .f64 Y);exact (ha2 _).mono (fun e w' h=>⟨h.1,hall _ (by rw [h.2];exact hG _)⟩))))
  refine wpQuiet_nil ?_
  rintro _ ⟨nq,rfl⟩
  have gq:Kp _ (G nq):=hG nq
  have y0:=cc0 nq
  have y1:=cc1 nq
  clear cc0 cc1 hall hG
  have kG:Kp w (G nq):=Kp.trans ((Kp.refl w).alloc _) gq
  clear gq
  generalize G nq = W at y0 y1 kG ⊢
  go_wp2_with (first | (go_at_call 42;refine (hh _).mono ?_;rintro e w2 ⟨rfl,g2⟩;have k2:Kp w w2:=Kp.trans kG g2))
  exact bodyPost_ret (v:=.tuple #[.float .f64 LO,.float .f64 HI]) (by simp [results,Tryz.results39,go_sem]) rfl ⟨rfl,k2⟩
theorem sqrV_ (a b LO HI:Nat) (hr:∀ w:World,Calls Tryz.prog 26 #[.agg #[.float .f64 a,.float .f64 b]] w fun e w'=>e = .returned (.agg #[.float .f64 LO,.float .f64 HI])∧Kp w w') (hv:∀ w:World,Calls Tryz.prog 27 #[.agg #[.float .f64 LO,.float .f64 HI]] w fun e w'=>e = .returned (.bool true)∧Kp w w') (hE:∀ w:World,Calls Tryz.prog 28 #[] w fun e w'=>e = .returned (.agg #[.float .f64 9218868437227405312,.float .f64 18442240474082181120])∧Kp w w') (w:World):Calls Tryz.prog 15 #[.agg #[.float .f64 a,.float .f64 b]] w fun e w'=>e = .returned (.agg #[.float .f64 9218868437227405312,.float .f64 18442240474082181120])∧Kp w w':=by
  go_enter Tryz.func15,Tryz.ntmps15
  go_wp2_with (first | (go_at_call 26;refine (hr _).mono ?_;rintro e w1 ⟨rfl,g1⟩;have q0:=Fq.H2.keep (Fq.H2.past (Fq.H2.new w (.float .f64 a) (.float .f64 b) 32) #[.float .f64 0,.float .f64 0] 32) g1;have q1:Fq.H2 w1 (w.heap.size + 1) (.float .f64 0) (.float .f64 0):=Fq.H2.keep (Fq.H2.two0 w (.float .f64 a) (.float .f64 b) (.float .f64 0) (.float .f64 0) 32 32) g1;have kw:Kp w w1:=Kp.trans (((Kp.refl w).alloc _).alloc _) g1;obtain ⟨x0,x1,x2,x3⟩:=id q0;obtain ⟨y0,y1,y2,y3⟩:=id q1) | (go_at_call 27;refine (hv _).mono ?_;rintro e w2 ⟨rfl,g2⟩;have qx:=Fq.H2.keep (Fq.H2.put q0 (.float .f64 LO) (.float .f64 HI)) g2;have qy:=Fq.H2.keep (Fq.H2.far q1 (show w.heap.size≠w.heap.size + 1 by omega) (.float .f64 LO) (.float .f64 HI)) g2;have kv:Kp w w2:=Kp.trans ((kw.setCell (Nat.le_refl _) _).setCell (Nat.le_refl _) _) g2;obtain ⟨u0,u1,u2,u3⟩:=id qx;obtain ⟨v0,v1,v2,v3⟩:=id qy) | (go_at_call 28;refine (hE _).mono ?_;rintro e w3 ⟨rfl,g3⟩;have ke:=Kp.trans kv g3;obtain ⟨e0,e1,e2,e3⟩:=Fq.H2.keep qy g3))
  exact bodyPost_ret (v:=.agg #[.float .f64 9218868437227405312,.float .f64 18442240474082181120]) (by simp [results,Tryz.results15,go_sem,e0,e1]) rfl ⟨rfl,(ke.setCell (by simp) _).setCell (by simp) _⟩
theorem sqrS_ (a b LO HI:Nat) (hr:∀ w:World,Calls Tryz.prog 26 #[.agg #[.float .f64 a,.float .f64 b]] w fun e w'=>e = .returned (.agg #[.float .f64 LO,.float .f64 HI])∧Kp w w') (hv:∀ w:World,Calls Tryz.prog 27 #[.agg #[.float .f64 LO,.float .f64 HI]] w fun e w'=>e = .returned (.bool false)∧Kp w w') (ML MH NL NH:Nat) (hmg:∀ w:World,Calls Tryz.prog 39 #[.agg #[.float .f64 LO,.float .f64 HI]] w fun e w'=>e = .returned (.tuple #[.float .f64 ML,.float .f64 MH])∧Kp w w') (w:World) (hA1:∀ W:World,Kp w W→Calls Tryz.prog 40 #[.int .i64 (-1),.float .f64 ML,.float .f64 ML] W fun e w'=>e = .returned (.float .f64 NL)∧Kp W w') (hA2:∀ W:World,Kp w W→Calls Tryz.prog 40 #[.int .i64 1,.float .f64 MH,.float .f64 MH] W fun e w'=>e = .returned (.float .f64 NH)∧Kp W w'):Calls Tryz.prog 15 #[.agg #[.float .f64 a,.float .f64 b]] w fun e w'=>e = .returned (.agg #[.float .f64 NL,.float .f64 NH])∧Kp w w':=by
  go_enter Tryz.func15,Tryz.ntmps15
  go_wp2_with (first | (go_at_call 26;refine (hr _).mono ?_;rintro e w1 ⟨rfl,g1⟩;have q0:=Fq.H2.keep (Fq.H2.past (Fq.H2.new w (.float .f64 a) (.float .f64 b) 32) #[.float .f64 0,.float .f64 0] 32) g1;have q1:Fq.H2 w1 (w.heap.size + 1) (.float .f64 0) (.float .f64 0):=Fq.H2.keep (Fq.H2.two0 w (.float .f64 a) (.float .f64 b) (.float .f64 0) (.float .f64 0) 32 32) g1;have kw:Kp w w1:=Kp.trans (((Kp.refl w).alloc _).alloc _) g1;obtain ⟨x0,x1,x2,x3⟩:=id q0;obtain ⟨y0,y1,y2,y3⟩:=id q1) | (go_at_call 27;refine (hv _).mono ?_;rintro e w2 ⟨rfl,g2⟩;have qx:=Fq.H2.keep (Fq.H2.put q0 (.float .f64 LO) (.float .f64 HI)) g2;have qy:=Fq.H2.keep (Fq.H2.far q1 (show w.heap.size≠w.heap.size + 1 by omega) (.float .f64 LO) (.float .f64 HI)) g2;have kv:Kp w w2:=Kp.trans ((kw.setCell (Nat.le_refl _) _).setCell (Nat.le_refl _) _) g2;obtain ⟨u0,u1,u2,u3⟩:=id qx;obtain ⟨v0,v1,v2,v3⟩:=id qy) | (go_at_call 39;refine (hmg _).mono ?_;rintro e w3 ⟨rfl,g3⟩;have k3:=Kp.trans kv g3) | (go_at_call_of 40 (Value.float .f64 ML);refine (hA1 _ k3).mono ?_;rintro e w4 ⟨rfl,g4⟩;have k4:=Kp.trans k3 g4) | (go_at_call_of 40 (Value.float .f64 MH);refine (hA2 _ k4).mono ?_;rintro e w5 ⟨rfl,g5⟩;have k5:=Kp.trans k4 g5;obtain ⟨e0,e1,e2,e3⟩:=Fq.H2.keep (Fq.H2.keep (Fq.H2.keep qy g3) g4) g5))
  exact bodyPost_ret (v:=.agg #[.float .f64 NL,.float .f64 NH]) (by simp [results,Tryz.results15,go_sem,e0,e1]) rfl ⟨rfl,(k5.setCell (by simp) _).setCell (by simp) _⟩
set_option linter.unusedVariables false
theorem mulS_ (K:Nat) (hK:K = 1074) (d x:Int) (hd1:-9223372036854775808≤d) (hd2:d < 9223372036854775808) (hx:BdZ x) (w:World) (hT:TT w):Calls Tryz.prog 40 #[.int .i64 d,.float .f64 (pw x),.float .f64 (pw x)] w fun e w'=>e = .returned (.float .f64 (pw (muZ K d x x)))∧Kp w w':=by
  have h:=mulO_ K hK d (sN x) (sN x) x.natAbs x.natAbs (aI x hx) (aI x hx) hd1 hd2 w hT.1 hT.2
  refine h.mono ?_
  rintro e w' ⟨R,rfl,hR,k⟩
  have hz:∃ z,oM K d (sN x) x.natAbs (sN x) x.natAbs = some z:=by
    unfold oM
    rw [if_neg (by unfold BdZ at hx;omega)]
    repeat' split
    all_goals exact ⟨_,rfl⟩
  obtain ⟨z,hz⟩:=hz
  refine ⟨?_,k⟩
  rw [hR z hz]
  unfold muZ
  rw [hz];rfl
theorem abs9_ (x:Int) (h:BdZ x) (w:World):Calls Tryz.prog 69 #[.float .f64 (pw x)] w fun e w'=>e = .returned (.float .f64 (pw (x.natAbs:Int)))∧w' = w:=by
  have g:=abs_ (decide (x < 0)) x.natAbs (by have:=abs_pw x h;omega) w
  rw [pw_of x.natAbs (abs_pw x h)]
  exact g
def sMl (L H:Int):Int:=if L≤0∧0≤H then 0 else min (L.natAbs:Int) (H.natAbs:Int)
def sMh (L H:Int):Int:=max (L.natAbs:Int) (H.natAbs:Int)
def sLo (K:Nat) (L H:Int):Int:=if L = 9218868437227405312 then 9218868437227405312 else muZ K (-1) (sMl L H) (sMl L H)
def sHi (K:Nat) (L H:Int):Int:=if L = 9218868437227405312 then -9218868437227405312 else muZ K 1 (sMh L H) (sMh L H)
theorem bd_abs (x:Int) (h:BdZ x):BdZ (x.natAbs:Int):=by unfold BdZ at *;omega
theorem sMl_bd (L H:Int) (h1:BdZ L) (h2:BdZ H):BdZ (sMl L H):=by
  unfold sMl
  split
  · unfold BdZ;omega
  · exact bd_min _ _ (bd_abs _ h1) (bd_abs _ h2)
theorem magn9_ (L H:Int) (h1:BdZ L) (h2:BdZ H) (w:World):Calls Tryz.prog 39 #[.agg #[.float .f64 (pw L),.float .f64 (pw H)]] w fun e w'=>e = .returned (.tuple #[.float .f64 (pw (sMl L H)),.float .f64 (pw (sMh L H))])∧Kp w w':=by
  have hh:=holdsN_ (pw L) (pw H) _ _ (le0_pw L h1) (ge0_pw H h2)
  have hM:=max9_ _ _ (bd_abs _ h1) (bd_abs _ h2)
  have hm:=min9_ _ _ (bd_abs _ h1) (bd_abs _ h2)
  unfold sMl sMh
  by_cases c:L≤0∧0≤H
  · rw [if_pos c]
    rw [and2 _ _ c] at hh
    exact magnT_ _ _ _ _ _ _ (abs9_ L h1) (abs9_ H h2) hM hm hh w
  · rw [if_neg c]
    rw [nand2 _ _ c] at hh
    exact magnF_ _ _ _ _ _ _ (abs9_ L h1) (abs9_ H h2) hM hm hh w
theorem sqr9_ (K:Nat) (hK:K = 1074) (a b:Nat) (L H:Int) (hx:Rd a b L H) (w:World) (hT:TT w):Calls Tryz.prog 15 #[.agg #[.float .f64 a,.float .f64 b]] w fun e w'=>e = .returned (.agg #[.float .f64 (pw (sLo K L H)),.float .f64 (pw (sHi K L H))])∧Kp w w':=by
  have v:=void9_ L H hx.vd
  unfold sLo sHi
  by_cases c:L = 9218868437227405312
  · rw [if_pos c,if_pos c,pw_I,pw_MI]
    rw [decide_eq_true c] at v
    exact sqrV_ a b _ _ hx.call v empty9_ w
  rw [decide_eq_false c] at v
  rw [if_neg c,if_neg c]
  exact sqrS_ a b _ _ hx.call v _ _ _ _ (magn9_ L H hx.vd.lo hx.vd.hi) w (fun W k=>mulS_ K hK (-1) _ (by omega) (by omega) (sMl_bd L H hx.vd.lo hx.vd.hi) W (hT.kp k)) (fun W k=>mulS_ K hK 1 _ (by omega) (by omega) (bd_max _ _ (bd_abs _ hx.vd.lo) (bd_abs _ hx.vd.hi)) W (hT.kp k))

set_option linter.unusedVariables false
theorem lst_pt (f:Int→Int→Int) (x y:Int):lst f x x y y = f x y:=by
  unfold lst
  repeat' split
  all_goals first | rfl | (exfalso;omega)
def PT (K:Nat) (L H V:Int) (C:Nat):Prop:=VdZ L H∧L≠9218868437227405312∧(-9218868437227405312 < L→vZ L * (C:Int)≤V * ((2 ^ K:Nat):Int))∧(L + 1 < 9218868437227405312→V * ((2 ^ K:Nat):Int) < vZ (L + 1) * (C:Int))∧(H < 9218868437227405312→V * ((2 ^ K:Nat):Int)≤vZ H * (C:Int))∧(-9218868437227405312 < H - 1→vZ (H - 1) * (C:Int) < V * ((2 ^ K:Nat):Int))
theorem sc_le (X A V Q c C:Int) (hc:0 < c) (hC:0 < C) (e:V * Q * c = A * C) (h:X * c≤A):X * C≤V * Q:=by
  refine Int.le_of_mul_le_mul_right ?_ hc
  rw [e,show X * C * c = X * c * C from by ac_rfl]
  exact Int.mul_le_mul_of_nonneg_right h (by omega)
theorem sc_ge (X A V Q c C:Int) (hc:0 < c) (hC:0 < C) (e:V * Q * c = A * C) (h:A≤X * c):V * Q≤X * C:=by
  refine Int.le_of_mul_le_mul_right ?_ hc
  rw [e,show X * C * c = X * c * C from by ac_rfl]
  exact Int.mul_le_mul_of_nonneg_right h (by omega)
theorem sc_lt (X A V Q c C:Int) (hc:0 < c) (hC:0 < C) (e:V * Q * c = A * C) (h:X * c < A):X * C < V * Q:=by
  refine Int.lt_of_mul_lt_mul_right ?_ (Int.le_of_lt hc)
  rw [e,show X * C * c = X * c * C from by ac_rfl]
  exact Int.mul_lt_mul_of_pos_right h hC
theorem sc_gt (X A V Q c C:Int) (hc:0 < c) (hC:0 < C) (e:V * Q * c = A * C) (h:A < X * c):V * Q < X * C:=by
  refine Int.lt_of_mul_lt_mul_right ?_ (Int.le_of_lt hc)
  rw [e,show X * C * c = X * c * C from by ac_rfl]
  exact Int.mul_lt_mul_of_pos_right h hC
theorem pt_of (K c1 c2:Nat) (V0 V:Int) (C:Nat) (hc:0 < c2) (hC:0 < C) (e:V * ((2 ^ K:Nat):Int) * (c2:Int) = V0 * (c1:Int) * (C:Int)):PT K (g53 (-1) c1 c2 V0) (g53 1 c1 c2 V0) V C:=by
  have t:=g53_tight c1 c2 hc V0 vZ vZ_pos vZ_neg
  have hc':(0:Int) < (c2:Int):=by omega
  have hC':(0:Int) < (C:Int):=by omega
  generalize g53 (-1) c1 c2 V0 = lo at t ⊢
  generalize g53 1 c1 c2 V0 = hi at t ⊢
  generalize g53 0 c1 c2 V0 = ne at t
  generalize V0 * (c1:Int) = A0 at t e
  unfold PT
  generalize ((2 ^ K:Nat):Int) = Q at e ⊢
  have cI:((9218868437227405312:Nat):Int) = 9218868437227405312:=rfl
  rw [cI] at t
  rcases t with ⟨h1,_,h3,h4,h5⟩ | ⟨h1,h2,h3,h4,h5,_⟩
  · subst h1
    refine ⟨Or.inr (by omega),by omega,fun _=>sc_le _ A0 _ _ _ _ hc' hC' e (by omega),fun _=>sc_gt _ A0 _ _ _ _ hc' hC' e ?_,fun _=>sc_ge _ A0 _ _ _ _ hc' hC' e (by omega),fun _=>sc_lt _ A0 _ _ _ _ hc' hC' e ?_⟩
    · rw [← h5];exact Int.mul_lt_mul_of_pos_right (vZ_lt _ _ (by omega)) hc'
    · rw [← h5];exact Int.mul_lt_mul_of_pos_right (vZ_lt _ _ (by omega)) hc'
  · refine ⟨Or.inr (by omega),by omega,fun c=>sc_le _ A0 _ _ _ _ hc' hC' e (Int.le_of_lt (h4 c)),fun c=>sc_gt _ A0 _ _ _ _ hc' hC' e ?_,fun c=>sc_ge _ A0 _ _ _ _ hc' hC' e (Int.le_of_lt (h5 c)),fun c=>sc_lt _ A0 _ _ _ _ hc' hC' e ?_⟩
    · rw [← h1];exact h5 (by omega)
    · rw [show hi - 1 = lo from by omega];exact h4 (by omega)
def FinZ (x:Int):Prop:=-9218868437227405312 < x∧x < 9218868437227405312
theorem ptA (x y:Int) (hx:FinZ x) (hy:FinZ y):aLo x x y y = g53 (-1) 1 1 (vZ x + vZ y)∧aHi x x y y = g53 1 1 1 (vZ x + vZ y):=by
  unfold FinZ at hx hy
  unfold aLo aHi
  rw [if_neg (by omega),if_neg (by omega),adZ_fin _ _ _ hx hy,adZ_fin _ _ _ hx hy]
  exact ⟨rfl,rfl⟩
theorem ptM (K:Nat) (x y:Int) (hx:FinZ x) (hy:FinZ y):mLo K x x y y = g53 (-1) 1 (2 ^ K) (vZ x * vZ y)∧mHi K x x y y = g53 1 1 (2 ^ K) (vZ x * vZ y):=by
  unfold FinZ at hx hy
  unfold mLo mHi
  rw [if_neg (by omega),if_neg (by omega),lst_pt,lst_pt,prZ_fin K _ _ hx hy,prZ_fin K _ _ (by omega) hy,vZ_neg,Int.neg_mul]
  have h:=g53_neg 1 1 (2 ^ K) (vZ x * vZ y)
  rw [h]
  exact ⟨rfl,by omega⟩
theorem muZ_fin (K:Nat) (d x y:Int) (hx:FinZ x) (hy:FinZ y):muZ K d x y = g53 d 1 (2 ^ K) (vZ x * vZ y):=by
  unfold FinZ at hx hy
  unfold muZ oM
  rw [if_neg (by omega),if_neg (by omega),vZ_sn,vZ_sn];rfl
theorem vZ_abs (x:Int):vZ (x.natAbs:Int) * vZ (x.natAbs:Int) = vZ x * vZ x:=by
  rcases Int.natAbs_eq x with h | h
  · rw [← h]
  · have e:vZ x = -vZ (x.natAbs:Int):=by rw [← vZ_neg,← h]
    rw [e,Int.neg_mul_neg]
theorem ptS (K:Nat) (x:Int) (hx:FinZ x):sLo K x x = g53 (-1) 1 (2 ^ K) (vZ x * vZ x)∧sHi K x x = g53 1 1 (2 ^ K) (vZ x * vZ x):=by
  have h0:=hx
  unfold FinZ at hx
  have e1:sMl x x = (x.natAbs:Int):=by unfold sMl;split <;> omega
  have e2:sMh x x = (x.natAbs:Int):=by unfold sMh;omega
  have f:FinZ (x.natAbs:Int):=by unfold FinZ;omega
  unfold sLo sHi
  rw [if_neg (by omega),if_neg (by omega),e1,e2,muZ_fin K _ _ _ f f,muZ_fin K _ _ _ f f,vZ_abs]
  exact ⟨rfl,rfl⟩
theorem diZ_all (K:Nat) (d x y:Int) (hx:FinZ x) (hy:FinZ y) (h0:y≠0):diZ K d x y = g53 d (2 ^ K) (Fq.vV Ieee.double y.natAbs) (if y < 0 then -vZ x else vZ x):=by
  unfold FinZ at hx hy
  unfold diZ oD
  rw [if_neg (by omega),if_neg (by omega),if_neg (by omega),if_neg (by omega)]
  show g53 d _ _ _ = _
  congr 1
  unfold vZ sN
  by_cases c:y < 0
  · rw [if_pos c,decide_eq_true c,Bool.xor_true,iv_nt]
  · rw [if_neg c,decide_eq_false c,Bool.xor_false]
theorem ptD (K:Nat) (x y:Int) (hx:FinZ x) (hy:FinZ y) (h0:y≠0):dLo K x x y y = g53 (-1) (2 ^ K) (Fq.vV Ieee.double y.natAbs) (if y < 0 then -vZ x else vZ x)∧dHi K x x y y = g53 1 (2 ^ K) (Fq.vV Ieee.double y.natAbs) (if y < 0 then -vZ x else vZ x):=by
  have hx':=hx
  have hy':=hy
  unfold FinZ at hx' hy'
  have hn:FinZ (-x):=by unfold FinZ;omega
  unfold dLo dHi
  rw [if_neg (show ¬ (x = 9218868437227405312∨y = 9218868437227405312) by omega),if_neg (show ¬ (x = 9218868437227405312∨y = 9218868437227405312) by omega),if_neg (show ¬ (y≤0∧0≤y) by omega),if_neg (show ¬ (y≤0∧0≤y) by omega),lst_pt,lst_pt,diZ_all K _ _ _ hx hy h0,diZ_all K _ _ _ hn hy h0]
  have h:=g53_neg 1 (2 ^ K) (Fq.vV Ieee.double y.natAbs) (if y < 0 then -vZ x else vZ x)
  have e:(if y < 0 then -vZ (-x) else vZ (-x)) = -(if y < 0 then -vZ x else vZ x):=by
    rw [vZ_neg];split <;> omega
  rw [e,h]
  exact ⟨rfl,by omega⟩
theorem ptF (K:Nat) (x y z:Int) (hx:FinZ x) (hy:FinZ y) (hz:FinZ z):fLo K x x y y z z = g53 (-1) 1 (2 ^ K) (vZ x * vZ y + vZ z * ((2 ^ K:Nat):Int))∧fHi K x x y y z z = g53 1 1 (2 ^ K) (vZ x * vZ y + vZ z * ((2 ^ K:Nat):Int)):=by
  unfold FinZ at hx hy hz
  unfold fLo fHi
  rw [if_neg (by omega),if_neg (by omega),lst_pt,lst_pt,fmZ_fin K z x y hx hy hz,fmZ_fin K (-z) (-x) y (by omega) hy (by omega),vZ_neg,vZ_neg,Int.neg_mul,Int.neg_mul]
  have h:=g53_neg 1 1 (2 ^ K) (vZ x * vZ y + vZ z * ((2 ^ K:Nat):Int))
  rw [show -(vZ x * vZ y) + -(vZ z * ((2 ^ K:Nat):Int)) = -(vZ x * vZ y + vZ z * ((2 ^ K:Nat):Int)) from by omega,h]
  exact ⟨rfl,by omega⟩
end Go.Proofs.YtaidnpjgkkdloaaGreatDoor
