import Derived.Test.YtnileplkkmhdgaaGreatDoorKBGh
import Derived.Test.YtnileplkkmhdgaaGreatDoorKVR
set_option maxHeartbeats 1000000
set_option maxRecDepth 20000
namespace Go.Proofs.YtnileplkkmhdgaaGreatDoor
open Go.RowKit
theorem sqv_ (a b LO HI:Nat) (hr:∀ w:World,Calls Tryz.prog 32 #[.agg #[.float .f64 a,.float .f64 b]] w fun e w'=>e = .returned (.agg #[.float .f64 LO,.float .f64 HI])∧Kp w w') (hv:∀ w:World,Calls Tryz.prog 33 #[.agg #[.float .f64 LO,.float .f64 HI]] w fun e w'=>e = .returned (.bool true)∧Kp w w') (hE:∀ w:World,Calls Tryz.prog 34 #[] w fun e w'=>e = .returned (.agg #[.float .f64 9218868437227405312,.float .f64 18442240474082181120])∧Kp w w') (w:World):Calls Tryz.prog 24 #[.agg #[.float .f64 a,.float .f64 b]] w fun e w'=>e = .returned (.agg #[.float .f64 9218868437227405312,.float .f64 18442240474082181120])∧Kp w w':=by
  go_enter Tryz.func24,Tryz.ntmps24
  go_wp2_with (first | (go_at_call 32;refine (hr _).mono ?_;rintro e w1 ⟨rfl,g1⟩;have q0:=Fq.H2.keep (Fq.H2.past (Fq.H2.new w (.float .f64 a) (.float .f64 b) 36) #[.float .f64 0,.float .f64 0] 36) g1;have q1:Fq.H2 w1 (w.heap.size + 1) (.float .f64 0) (.float .f64 0):=Fq.H2.keep (Fq.H2.two0 w (.float .f64 a) (.float .f64 b) (.float .f64 0) (.float .f64 0) 36 36) g1;have kw:Kp w w1:=Kp.trans (((Kp.refl w).alloc _).alloc _) g1;obtain ⟨x0,x1,x2,x3⟩:=id q0;obtain ⟨y0,y1,y2,y3⟩:=id q1) | (go_at_call 33;refine (hv _).mono ?_;rintro e w2 ⟨rfl,g2⟩;have qx:=Fq.H2.keep (Fq.H2.put q0 (.float .f64 LO) (.float .f64 HI)) g2;have qy:=Fq.H2.keep (Fq.H2.far q1 (show w.heap.size≠w.heap.size + 1 by omega) (.float .f64 LO) (.float .f64 HI)) g2;have kv:Kp w w2:=Kp.trans ((kw.setCell (Nat.le_refl _) _).setCell (Nat.le_refl _) _) g2;obtain ⟨u0,u1,u2,u3⟩:=id qx;obtain ⟨v0,v1,v2,v3⟩:=id qy) | (go_at_call 34;refine (hE _).mono ?_;rintro e w3 ⟨rfl,g3⟩;have ke:=Kp.trans kv g3;obtain ⟨e0,e1,e2,e3⟩:=Fq.H2.keep qy g3))
  exact bodyPost_ret (v:=.agg #[.float .f64 9218868437227405312,.float .f64 18442240474082181120]) (by simp [results,Tryz.results24,go_sem,e0,e1]) rfl ⟨rfl,(ke.setCell (by simp) _).setCell (by simp) _⟩
theorem sqn_ (a b LO HI:Nat) (hr:∀ w:World,Calls Tryz.prog 32 #[.agg #[.float .f64 a,.float .f64 b]] w fun e w'=>e = .returned (.agg #[.float .f64 LO,.float .f64 HI])∧Kp w w') (hv:∀ w:World,Calls Tryz.prog 33 #[.agg #[.float .f64 LO,.float .f64 HI]] w fun e w'=>e = .returned (.bool false)∧Kp w w') (hE:∀ w:World,Calls Tryz.prog 34 #[] w fun e w'=>e = .returned (.agg #[.float .f64 9218868437227405312,.float .f64 18442240474082181120])∧Kp w w') (t1:(FloatKind.f64.format.order HI 0 == some Ordering.lt) = true) (w:World):Calls Tryz.prog 24 #[.agg #[.float .f64 a,.float .f64 b]] w fun e w'=>e = .returned (.agg #[.float .f64 9218868437227405312,.float .f64 18442240474082181120])∧Kp w w':=by
  go_enter Tryz.func24,Tryz.ntmps24
  go_wp2_with (first | (go_at_call 32;refine (hr _).mono ?_;rintro e w1 ⟨rfl,g1⟩;have q0:=Fq.H2.keep (Fq.H2.past (Fq.H2.new w (.float .f64 a) (.float .f64 b) 36) #[.float .f64 0,.float .f64 0] 36) g1;have q1:Fq.H2 w1 (w.heap.size + 1) (.float .f64 0) (.float .f64 0):=Fq.H2.keep (Fq.H2.two0 w (.float .f64 a) (.float .f64 b) (.float .f64 0) (.float .f64 0) 36 36) g1;have kw:Kp w w1:=Kp.trans (((Kp.refl w).alloc _).alloc _) g1;obtain ⟨x0,x1,x2,x3⟩:=id q0;obtain ⟨y0,y1,y2,y3⟩:=id q1) | (go_at_call 33;refine (hv _).mono ?_;rintro e w2 ⟨rfl,g2⟩;have qx:=Fq.H2.keep (Fq.H2.put q0 (.float .f64 LO) (.float .f64 HI)) g2;have qy:=Fq.H2.keep (Fq.H2.far q1 (show w.heap.size≠w.heap.size + 1 by omega) (.float .f64 LO) (.float .f64 HI)) g2;have kv:Kp w w2:=Kp.trans ((kw.setCell (Nat.le_refl _) _).setCell (Nat.le_refl _) _) g2;obtain ⟨u0,u1,u2,u3⟩:=id qx;obtain ⟨v0,v1,v2,v3⟩:=id qy) | (go_at_call 34;refine (hE _).mono ?_;rintro e w3 ⟨rfl,g3⟩;have ke:=Kp.trans kv g3;obtain ⟨e0,e1,e2,e3⟩:=Fq.H2.keep qy g3))
  exact bodyPost_ret (v:=.agg #[.float .f64 9218868437227405312,.float .f64 18442240474082181120]) (by simp [results,Tryz.results24,go_sem,e0,e1]) rfl ⟨rfl,(ke.setCell (by simp) _).setCell (by simp) _⟩
theorem sqs_ (a b LO HI:Nat) (hr:∀ w:World,Calls Tryz.prog 32 #[.agg #[.float .f64 a,.float .f64 b]] w fun e w'=>e = .returned (.agg #[.float .f64 LO,.float .f64 HI])∧Kp w w') (MX NL NH:Nat) (hv:∀ w:World,Calls Tryz.prog 33 #[.agg #[.float .f64 LO,.float .f64 HI]] w fun e w'=>e = .returned (.bool false)∧Kp w w') (t1:(FloatKind.f64.format.order HI 0 == some Ordering.lt) = false) (hm:∀ (ts:Array TypeId) (t:TypeId) (w:World),(Builtin.max_ ts t #[.float .f64 LO,.float .f64 0]).run Tryz.prog w = .ok (.float .f64 MX) w) (w:World) (hA1:∀ W:World,Kp w W→Calls Tryz.prog 50 #[.int .i64 (-1),.float .f64 MX] W fun e w'=>e = .returned (.float .f64 NL)∧Kp W w') (hA2:∀ W:World,Kp w W→Calls Tryz.prog 50 #[.int .i64 1,.float .f64 HI] W fun e w'=>e = .returned (.float .f64 NH)∧Kp W w'):Calls Tryz.prog 24 #[.agg #[.float .f64 a,.float .f64 b]] w fun e w'=>e = .returned (.agg #[.float .f64 NL,.float .f64 NH])∧Kp w w':=by
  go_enter Tryz.func24,Tryz.ntmps24
  go_wp2_with (first | (go_at_call 32;refine (hr _).mono ?_;rintro e w1 ⟨rfl,g1⟩;have q0:=Fq.H2.keep (Fq.H2.past (Fq.H2.new w (.float .f64 a) (.float .f64 b) 36) #[.float .f64 0,.float .f64 0] 36) g1;have q1:Fq.H2 w1 (w.heap.size + 1) (.float .f64 0) (.float .f64 0):=Fq.H2.keep (Fq.H2.two0 w (.float .f64 a) (.float .f64 b) (.float .f64 0) (.float .f64 0) 36 36) g1;have kw:Kp w w1:=Kp.trans (((Kp.refl w).alloc _).alloc _) g1;obtain ⟨x0,x1,x2,x3⟩:=id q0;obtain ⟨y0,y1,y2,y3⟩:=id q1) | (go_at_call 33;refine (hv _).mono ?_;rintro e w2 ⟨rfl,g2⟩;have qx:=Fq.H2.keep (Fq.H2.put q0 (.float .f64 LO) (.float .f64 HI)) g2;have qy:=Fq.H2.keep (Fq.H2.far q1 (show w.heap.size≠w.heap.size + 1 by omega) (.float .f64 LO) (.float .f64 HI)) g2;have kv:Kp w w2:=Kp.trans ((kw.setCell (Nat.le_refl _) _).setCell (Nat.le_refl _) _) g2;obtain ⟨u0,u1,u2,u3⟩:=id qx;obtain ⟨v0,v1,v2,v3⟩:=id qy))
  have d0:w2.drew.cell? ⟨w.heap.size,0,none⟩ = some (.float .f64 LO):=u0
  have d1:w2.drew.cell? ⟨w.heap.size,1,none⟩ = some (.float .f64 HI):=u1
  have hn1:w.heap.size + 1≠w.heap.size:=by omega
  go_region_held3 (fun w'=>w'.cell? ⟨w.heap.size,0,none⟩ = some (.float .f64 LO)∧w'.cell? ⟨w.heap.size,1,none⟩ = some (.float .f64 HI)) (first | (with_reducible exact ⟨d0,d1⟩) | (with_reducible exact ⟨u0,u1⟩) | (with_reducible exact ⟨a0,a1⟩) | (with_reducible exact ⟨b0,b1⟩) | (exact ⟨((World.cell?_setCell_far _ _ _ _ hn1).trans ((World.cell?_setCell_far _ _ _ _ hn1).trans b0)),((World.cell?_setCell_far _ _ _ _ hn1).trans ((World.cell?_setCell_far _ _ _ _ hn1).trans b1))⟩)) (first | (go_at_call_of 50 (Value.float .f64 MX);refine (hA1 _ ?q0).mono ?_;(case q0=>exact kv.drew);rintro e wl ⟨rfl,gl⟩;have kl:Kp w2 wl:=Kp.trans (Kp.drew (Kp.refl _)) gl;have a0:=kkeep kl u0;have a1:=kkeep kl u1) | (go_at_call_of 50 (Value.float .f64 HI);refine (hA2 _ ?q0).mono ?_;(case q0=>exact kv.trans kl);rintro e wh ⟨rfl,gh⟩;have kh:Kp w2 wh:=Kp.trans kl gh;have b0:=kkeep kh u0;have b1:=kkeep kh u1;obtain ⟨R0,R1,R2,R3⟩:=Fq.H2.keep qy kh))
  go_wp2
  exact bodyPost_ret (v:=.agg #[.float .f64 NL,.float .f64 NH]) (by simp [results,Tryz.results24,go_sem,R0,R1]) rfl ⟨rfl,((kv.trans kh).setCell (by simp) _).setCell (by simp) _⟩
set_option linter.unusedVariables false
def sqW (d:Int) (m:Nat):Nat:=if m = 9218868437227405312 then 9218868437227405312 else if m = 0 then 0 else rootW d (Fq.vV Ieee.double m)
theorem sqP_ (d:Int) (m:Nat) (hm:m≤9218868437227405312) (w:World) (hQ:Fq.Tab w) (hd1:-9223372036854775808≤d) (hd2:d < 9223372036854775808):Calls Tryz.prog 50 #[.int .i64 d,.float .f64 (Fq.wD false m)] w fun e w'=>e = .returned (.float .f64 (sqW d m))∧Kp w w':=by
  unfold sqW
  by_cases c1:m = 9218868437227405312
  · rw [if_pos c1]
    subst c1
    have hp:=Fq.plain_d false 9218868437227405312 (by decide) w
    rw [Bool.false_and] at hp
    exact psqrtP_ d false 9218868437227405312 (by decide) (fun h=>by omega) w w _ _ (msqrt_ _ _ sqrt_inf w) (Kp.refl _) hp
  · rw [if_neg c1]
    by_cases z:m = 0
    · rw [if_pos z]
      subst z
      have hp:=Fq.plain_d false 0 (by decide) w
      rw [show Fq.wD (false && !((0:Nat) == 0)) 0 = 0 from by simp;rfl] at hp
      exact psqrtP_ d false 0 (by decide) (fun h=>h.2.2 rfl) w w _ _ (msqrt_ _ _ (sqrt_zero false) w) (Kp.refl _) hp
    · rw [if_neg z]
      by_cases ct:2580562586483294208≤m∧m≤6633802251116740608
      · exact psqrtQ_ d m ct w
      · exact psqrtE_ d m (by omega) z ct w hQ hd1 hd2
def rLo (L H:Int):Nat:=if L = 9218868437227405312∨H < 0 then 9218868437227405312 else sqW (-1) (max L 0).natAbs
def rHi (L H:Int):Nat:=if L = 9218868437227405312∨H < 0 then 18442240474082181120 else sqW 1 H.natAbs
theorem rsq9_ (d x:Int) (hd1:-9223372036854775808≤d) (hd2:d < 9223372036854775808) (h:BdZ x) (x0:0≤x) (w:World) (hT:TT w):Calls Tryz.prog 50 #[.int .i64 d,.float .f64 (pw x)] w fun e w'=>e = .returned (.float .f64 (sqW d x.natAbs))∧Kp w w':=by
  have g:=sqP_ d x.natAbs (abs_pw x h) w hT.2 hd1 hd2
  unfold pw
  rw [decide_eq_false (show ¬ x < 0 by omega)]
  exact g
theorem sqrt9_ (a b:Nat) (L H:Int) (hx:Rd a b L H) (w:World) (hT:TT w):Calls Tryz.prog 24 #[.agg #[.float .f64 a,.float .f64 b]] w fun e w'=>e = .returned (.agg #[.float .f64 (rLo L H),.float .f64 (rHi L H)])∧Kp w w':=by
  have v:=void9_ L H hx.vd
  have t:=lt0_pw H hx.vd.hi
  unfold rLo rHi
  by_cases c:L = 9218868437227405312
  · rw [if_pos (Or.inl c),if_pos (Or.inl c)]
    rw [decide_eq_true c] at v
    exact sqv_ a b _ _ hx.call v empty9_ w
  rw [decide_eq_false c] at v
  by_cases c2:H < 0
  · rw [if_pos (Or.inr c2),if_pos (Or.inr c2)]
    rw [decide_eq_true c2] at t
    exact sqn_ a b _ _ hx.call v empty9_ t w
  rw [decide_eq_false c2] at t
  have cE:¬ (L = 9218868437227405312∨H < 0):=by omega
  rw [if_neg cE,if_neg cE]
  have b0:BdZ 0:=by unfold BdZ;omega
  exact sqs_ a b _ _ hx.call _ _ _ v t (max9_ L 0 hx.vd.lo b0) w (fun W k=>rsq9_ (-1) _ (by omega) (by omega) (bd_max _ _ hx.vd.lo b0) (by omega) W (hT.kp k)) (fun W k=>rsq9_ 1 H (by omega) (by omega) hx.vd.hi (by omega) W (hT.kp k))
set_option linter.unusedVariables false
set_option linter.unusedSimpArgs false
theorem rtN_mono (a b:Nat) (h:a≤b):rtN a≤rtN b:=by
  have h1:=rtN_is a
  have h2:=rtN_is b
  unfold IsRt at h1 h2
  rcases Nat.lt_or_ge (rtN b) (rtN a) with c | c
  · have:=Nat.mul_le_mul (show rtN b + 1≤rtN a from c) (show rtN b + 1≤rtN a from c)
    omega
  · exact c
theorem rtH_mono (A B:Nat) (h:A≤B):rtH A≤rtH B:=by
  have h0:=Nat.mul_le_mul_right (4 ^ 536) h
  unfold rtH
  generalize A * 4 ^ 536 = a at *
  generalize B * 4 ^ 536 = b at *
  have h1:=rtN_mono a b h0
  have h2:=rtN_is a
  have h3:=rtN_is b
  unfold IsRt at h2 h3
  rcases Nat.lt_or_ge (rtN a) (rtN b) with c | c
  · split <;> split <;> omega
  · have e:rtN a = rtN b:=by omega
    rw [e] at h2 ⊢
    split <;> split <;> omega
def sqZ (d m:Int):Int:=if m = 9218868437227405312 then 9218868437227405312 else if m = 0 then 0 else g53 d 1 1 ((rtH (Fq.vV Ieee.double m.natAbs):Nat):Int)
theorem sqW_z (d m:Int) (h:0≤m∧m≤9218868437227405312):sqW d m.natAbs = pw (sqZ d m):=by
  unfold sqW sqZ
  by_cases c1:m = 9218868437227405312
  · rw [if_pos (by omega),if_pos c1];rfl
  · rw [if_neg (by omega),if_neg c1]
    by_cases c2:m = 0
    · rw [if_pos (by omega),if_pos c2];rfl
    · rw [if_neg (by omega),if_neg c2]
      unfold rootW
      rw [sumW_g];rfl
theorem sqZ_bd (d m:Int):BdZ (sqZ d m):=by
  unfold sqZ
  repeat' split
  · unfold BdZ;omega
  · unfold BdZ;omega
  · exact g53_le _ _ _ _
theorem sqZ_nn (d m:Int):0≤sqZ d m:=by
  unfold sqZ
  repeat' split
  · omega
  · omega
  · exact g53_nn _ _ _ _ (by omega)
theorem sqZ_mono (d m m':Int) (h:0≤m∧m≤m'∧m'≤9218868437227405312):sqZ d m≤sqZ d m':=by
  by_cases c1:m' = 9218868437227405312
  · have e:sqZ d m' = 9218868437227405312:=by unfold sqZ;rw [if_pos c1]
    rw [e];exact (sqZ_bd d m).2
  by_cases c2:m = 0
  · have e:sqZ d m = 0:=by unfold sqZ;rw [if_neg (by omega),if_pos c2]
    rw [e];exact sqZ_nn d m'
  unfold sqZ
  rw [if_neg (by omega),if_neg c2,if_neg c1,if_neg (by omega)]
  refine g53_mono _ _ _ (by decide) _ _ ?_
  have:=rtH_mono _ _ (vV_le9 m m' (by omega) h.2.1)
  omega
def rL (L H:Int):Int:=if L = 9218868437227405312∨H < 0 then 9218868437227405312 else sqZ (-1) (max L 0)
def rH (L H:Int):Int:=if L = 9218868437227405312∨H < 0 then -9218868437227405312 else sqZ 1 H
theorem r_z (L H:Int) (d:VdZ L H):rLo L H = pw (rL L H)∧rHi L H = pw (rH L H):=by
  unfold VdZ at d
  unfold rLo rHi rL rH
  by_cases c:L = 9218868437227405312∨H < 0
  · rw [if_pos c,if_pos c,if_pos c,if_pos c,pw_I,pw_MI];exact ⟨rfl,rfl⟩
  · rw [if_neg c,if_neg c,if_neg c,if_neg c]
    exact ⟨sqW_z _ _ (by omega),sqW_z _ _ (by omega)⟩
theorem vd_sqrt (L H:Int) (d:VdZ L H):VdZ (rL L H) (rH L H):=by
  unfold VdZ at d
  unfold rL rH
  by_cases c:L = 9218868437227405312∨H < 0
  · rw [if_pos c,if_pos c];exact Or.inl ⟨rfl,rfl⟩
  rw [if_neg c,if_neg c]
  have a0:sqZ (-1) (max L 0) < 9218868437227405312:=by
    unfold sqZ
    rw [if_neg (by omega)]
    split
    · omega
    · exact (g53_lohi 1 1 (by decide) _).2.1
  have a1:sqZ (-1) (max L 0)≤sqZ 1 (max L 0):=by
    unfold sqZ
    repeat' split
    · omega
    · omega
    · exact (g53_lohi 1 1 (by decide) _).1
  have a2:=sqZ_mono 1 (max L 0) H (by omega)
  have b1:=sqZ_bd (-1) (max L 0)
  have b2:=sqZ_bd 1 H
  have b3:=sqZ_nn 1 H
  unfold BdZ at b1 b2
  exact Or.inr (by omega)
set_option linter.unusedVariables false
set_option linter.unusedSimpArgs false

theorem g_dn (c1 c2:Nat) (hc:0 < c2) (V z:Int) (hz:-9218868437227405312 < z∧z < 9218868437227405312):z≤g53 (-1) c1 c2 V ↔ vZ z * (c2:Int)≤V * (c1:Int):=by
  have t:=g53_tight c1 c2 hc V vZ vZ_pos vZ_neg
  have P:(0:Int) < (c2:Int):=by omega
  generalize (c2:Int) = B at t P ⊢
  generalize V * (c1:Int) = A at t ⊢
  generalize g53 (-1) c1 c2 V = lo at t ⊢
  generalize g53 1 c1 c2 V = hi at t
  clear hc
  constructor
  · intro h
    have m:=Int.mul_le_mul_of_nonneg_right (vZ_le z lo h) (by omega:(0:Int)≤B)
    rcases t with ⟨h1,_,h3,h4,h5⟩ | ⟨h1,h2,h3,h4,h5,_⟩
    · omega
    · have:=h4 (by omega);omega
  · intro h
    rcases Int.lt_or_le lo z with c | c
    · exfalso
      rcases t with ⟨h1,_,h3,h4,h5⟩ | ⟨h1,h2,h3,h4,h5,_⟩
      · have m:=Int.mul_lt_mul_of_pos_right (vZ_lt lo z c) P
        omega
      · have m:=Int.mul_le_mul_of_nonneg_right (vZ_le hi z (by omega)) (by omega:(0:Int)≤B)
        have:=h5 (by omega);omega
    · exact c
theorem g_up (c1 c2:Nat) (hc:0 < c2) (V z:Int) (hz:-9218868437227405312 < z∧z < 9218868437227405312):g53 1 c1 c2 V≤z ↔ V * (c1:Int)≤vZ z * (c2:Int):=by
  have t:=g53_tight c1 c2 hc V vZ vZ_pos vZ_neg
  have P:(0:Int) < (c2:Int):=by omega
  generalize (c2:Int) = B at t P ⊢
  generalize V * (c1:Int) = A at t ⊢
  generalize g53 (-1) c1 c2 V = lo at t
  generalize g53 1 c1 c2 V = hi at t ⊢
  clear hc
  constructor
  · intro h
    have m:=Int.mul_le_mul_of_nonneg_right (vZ_le hi z h) (by omega:(0:Int)≤B)
    rcases t with ⟨h1,_,h3,h4,h5⟩ | ⟨h1,h2,h3,h4,h5,_⟩
    · rw [h1] at h5;omega
    · have:=h5 (by omega);omega
  · intro h
    rcases Int.lt_or_le z hi with c | c
    · exfalso
      rcases t with ⟨h1,_,h3,h4,h5⟩ | ⟨h1,h2,h3,h4,h5,_⟩
      · have m:=Int.mul_lt_mul_of_pos_right (vZ_lt z hi c) P
        rw [h1] at h5;omega
      · have m:=Int.mul_le_mul_of_nonneg_right (vZ_le z lo (by omega)) (by omega:(0:Int)≤B)
        have:=h4 (by omega);omega
    · exact c
theorem g1_dn (V z:Int) (hz:-9218868437227405312 < z∧z < 9218868437227405312):z≤g53 (-1) 1 1 V ↔ vZ z≤V:=by
  have:=g_dn 1 1 (by decide) V z hz
  simpa using this
theorem g1_up (V z:Int) (hz:-9218868437227405312 < z∧z < 9218868437227405312):g53 1 1 1 V≤z ↔ V≤vZ z:=by
  have:=g_up 1 1 (by decide) V z hz
  simpa using this

theorem cm_le9 (x y:Int):cmI x y≤0 ↔ x≤y:=by
  unfold cmI
  rcases Int.lt_trichotomy x y with h | h | h
  · rw [if_pos h];omega
  · rw [if_neg (by omega),if_neg (by omega)];omega
  · rw [if_neg (by omega),if_pos h];omega
theorem vV_even (m:Nat) (h:18014398509481984≤Fq.vV Ieee.double m):Fq.vV Ieee.double m % 2 = 0:=by
  unfold Fq.vV Fq.mM Fq.eE at h ⊢
  rw [Fq.binD] at h ⊢
  by_cases c:m < 4503599627370496
  · rw [if_pos c,if_pos c,Nat.pow_zero,Nat.mul_one] at h
    omega
  · rw [if_neg c,if_neg c] at h ⊢
    rcases Nat.eq_zero_or_pos (m / 4503599627370496 - 1) with z | z
    · rw [z,Nat.pow_zero,Nat.mul_one] at h
      have:=Nat.mod_lt m (show 0 < 4503599627370496 by decide)
      omega
    · obtain ⟨j,hj⟩:∃ j,m / 4503599627370496 - 1 = j + 1:=⟨m / 4503599627370496 - 1 - 1,by omega⟩
      rw [hj,Nat.pow_succ,← Nat.mul_assoc]
      exact Nat.mul_mod_left _ 2
theorem rt_cmp (m A K:Nat) (hK:K = 1074) (hA:A≠0):(Fq.vV Ieee.double m≤rtH A ↔ Fq.vV Ieee.double m * Fq.vV Ieee.double m≤A * 2 ^ K)∧(rtH A≤Fq.vV Ieee.double m ↔ A * 2 ^ K≤Fq.vV Ieee.double m * Fq.vV Ieee.double m):=by
  have ev:=vV_even m
  generalize Fq.vV Ieee.double m = v at ev ⊢
  obtain ⟨J,hJ⟩:∃ J,J = 536:=⟨_,rfl⟩
  have e4:A * 2 ^ K = 4 * (A * 4 ^ J):=by
    rw [show K = 2 * (J + 1) from by omega,Nat.pow_mul,show (2:Nat) ^ 2 = 4 from rfl,Nat.pow_succ]
    ac_rfl
  have hr:rtH A = 2 * rtN (A * 4 ^ J) + (if rtN (A * 4 ^ J) * rtN (A * 4 ^ J) = A * 4 ^ J then 0 else 1):=by rw [hJ];rfl
  rw [hr,e4]
  have hi:=rtN_is (A * 4 ^ J)
  have hb:81129638414606681695789005144064≤A * 4 ^ J:=by
    have h1:(4:Nat) ^ 53≤4 ^ J:=Nat.pow_le_pow_right (by decide) (by omega)
    have h2:(4:Nat) ^ 53 = 81129638414606681695789005144064:=by decide
    have h3:1 * 4 ^ J≤A * 4 ^ J:=Nat.mul_le_mul_right _ (by omega)
    omega
  generalize A * 4 ^ J = n at hi hb ⊢
  unfold IsRt at hi
  generalize rtN n = s at hi ⊢
  have sb:9007199254740992≤s:=by
    rcases Nat.lt_or_ge s 9007199254740992 with c | c
    · exfalso
      have:=Nat.mul_le_mul (show s + 1≤9007199254740992 from c) (show s + 1≤9007199254740992 from c)
      omega
    · exact c
  have le2:v≤2 * s ↔ v * v≤4 * (s * s):=by
    constructor
    · intro h;have:=Nat.mul_le_mul h h
      rw [show 2 * s * (2 * s) = 4 * (s * s) from by rw [show (4:Nat) = 2 * 2 from rfl];ac_rfl] at this;exact this
    · intro h
      rcases Nat.lt_or_ge (2 * s) v with c | c
      · exfalso
        have:=Nat.mul_le_mul (show 2 * s + 1≤v from c) (show 2 * s + 1≤v from c)
        have e:(2 * s + 1) * (2 * s + 1) = 4 * (s * s) + 4 * s + 1:=by
          rw [Nat.add_mul,Nat.mul_add,show 2 * s * (2 * s) = 4 * (s * s) from by rw [show (4:Nat) = 2 * 2 from rfl];ac_rfl];omega
        omega
      · exact c
  have ge2:2 * s≤v ↔ 4 * (s * s)≤v * v:=by
    constructor
    · intro h;have:=Nat.mul_le_mul h h
      rw [show 2 * s * (2 * s) = 4 * (s * s) from by rw [show (4:Nat) = 2 * 2 from rfl];ac_rfl] at this;exact this
    · intro h
      rcases Nat.lt_or_ge v (2 * s) with c | c
      · exfalso
        have h1:=Nat.mul_le_mul (show v≤2 * s - 1 by omega) (show v≤2 * s - 1 by omega)
        obtain ⟨u,hu⟩:∃ u,2 * s = u + 1:=⟨2 * s - 1,by omega⟩
        have e:4 * (s * s) = (u + 1) * (u + 1):=by rw [← hu,show (4:Nat) = 2 * 2 from rfl];ac_rfl
        rw [show 2 * s - 1 = u by omega] at h1
        rw [Nat.add_mul,Nat.mul_add] at e
        omega
      · exact c
  have up2:2 * s + 2≤v→4 * n < v * v:=by
    intro h
    have h1:=Nat.mul_le_mul h h
    rw [show (2 * s + 2) * (2 * s + 2) = 4 * ((s + 1) * (s + 1)) from by rw [show 2 * s + 2 = 2 * (s + 1) by omega,show (4:Nat) = 2 * 2 from rfl];ac_rfl] at h1
    omega
  by_cases c:s * s = n
  · rw [if_pos c,Nat.add_zero,← c]
    exact ⟨le2,ge2⟩
  · rw [if_neg c]
    have odd:v≠2 * s + 1:=fun h=>by have:=ev (by omega);omega
    constructor
    · constructor
      · intro h
        have:=le2.1 (by omega);omega
      · intro h
        rcases Nat.lt_or_ge (2 * s + 1) v with q | q
        · have:=up2 (by omega);omega
        · exact q
    · constructor
      · intro h
        have:=up2 (by omega);omega
      · intro h
        rcases Nat.lt_or_ge v (2 * s + 1) with q | q
        · have:=le2.1 (by omega);omega
        · exact q
theorem sq_le9 (x y:Nat) (h:x * x≤y * y):x≤y:=by
  rcases Nat.lt_or_ge y x with c | c
  · have:=Nat.mul_le_mul (show y + 1≤x from c) (show y + 1≤x from c)
    have e:(y + 1) * (y + 1) = y * y + 2 * y + 1:=by rw [Nat.add_mul,Nat.mul_add];omega
    omega
  · exact c
theorem root_lo9 (a A P V C:Nat) (h1:a * a≤A * P) (h2:A * (C * C)≤V * V * P):a * C≤V * P:=by
  refine sq_le9 _ _ ?_
  have k1:=Nat.mul_le_mul_right (C * C) h1
  have k2:=Nat.mul_le_mul_right P h2
  rw [show a * C * (a * C) = a * a * (C * C) from by ac_rfl,show V * P * (V * P) = V * V * P * P from by ac_rfl]
  rw [show A * P * (C * C) = A * (C * C) * P from by ac_rfl] at k1
  omega
theorem root_hi9 (a A P V C:Nat) (h1:A * P≤a * a) (h2:V * V * P≤A * (C * C)):V * P≤a * C:=by
  refine sq_le9 _ _ ?_
  have k1:=Nat.mul_le_mul_right (C * C) h1
  have k2:=Nat.mul_le_mul_right P h2
  rw [show a * C * (a * C) = a * a * (C * C) from by ac_rfl,show V * P * (V * P) = V * V * P * P from by ac_rfl]
  rw [show A * P * (C * C) = A * (C * C) * P from by ac_rfl] at k1
  omega
theorem vI_vZ (z:Int):vI z = vZ z:=rfl
theorem sq_low (K:Nat) (rc:∀ m A:Nat,A≠0→(Fq.vV Ieee.double m≤rtH A ↔ Fq.vV Ieee.double m * Fq.vV Ieee.double m≤A * 2 ^ K)∧(rtH A≤Fq.vV Ieee.double m ↔ A * 2 ^ K≤Fq.vV Ieee.double m * Fq.vV Ieee.double m)) (L:Int) (h0:0 < L) (hf:L < 9218868437227405312) (v C:Nat) (h1:Fq.vV Ieee.double L.natAbs * (C * C)≤v * v * 2 ^ K):sqZ (-1) L < 9218868437227405312∧Fq.vV Ieee.double (sqZ (-1) L).natAbs * C≤v * 2 ^ K:=by
  have e:sqZ (-1) L = g53 (-1) 1 1 ((rtH (Fq.vV Ieee.double L.natAbs):Nat):Int):=by unfold sqZ;rw [if_neg (by omega),if_neg (by omega)]
  have lt:=(g53_lohi 1 1 (by decide) ((rtH (Fq.vV Ieee.double L.natAbs):Nat):Int)).2.1
  have nn:=sqZ_nn (-1) L
  have hA:Fq.vV Ieee.double L.natAbs≠0:=fun q=>by have:=(vV_zero L.natAbs).1 q;omega
  have g:=g1_dn ((rtH (Fq.vV Ieee.double L.natAbs):Nat):Int) (sqZ (-1) L)
  rw [← e] at lt g
  have k1:=(g (by omega)).1 (Int.le_refl _)
  rw [vZ_pos _ nn] at k1
  exact ⟨lt,root_lo9 _ _ _ v C ((rc (sqZ (-1) L).natAbs (Fq.vV Ieee.double L.natAbs) hA).1.1 (Int.ofNat_le.1 k1)) h1⟩
theorem sq_high (K:Nat) (rc:∀ m A:Nat,A≠0→(Fq.vV Ieee.double m≤rtH A ↔ Fq.vV Ieee.double m * Fq.vV Ieee.double m≤A * 2 ^ K)∧(rtH A≤Fq.vV Ieee.double m ↔ A * 2 ^ K≤Fq.vV Ieee.double m * Fq.vV Ieee.double m)) (H:Int) (h0:0 < H) (hf:H < 9218868437227405312) (v C:Nat) (h1:v * v * 2 ^ K≤Fq.vV Ieee.double H.natAbs * (C * C)) (t:sqZ 1 H < 9218868437227405312):v * 2 ^ K≤Fq.vV Ieee.double (sqZ 1 H).natAbs * C:=by
  have e:sqZ 1 H = g53 1 1 1 ((rtH (Fq.vV Ieee.double H.natAbs):Nat):Int):=by unfold sqZ;rw [if_neg (by omega),if_neg (by omega)]
  have nn:=sqZ_nn 1 H
  have hA:Fq.vV Ieee.double H.natAbs≠0:=fun q=>by have:=(vV_zero H.natAbs).1 q;omega
  have g:=g1_up ((rtH (Fq.vV Ieee.double H.natAbs):Nat):Int) (sqZ 1 H)
  rw [← e] at g
  have k1:=(g (by omega)).1 (Int.le_refl _)
  rw [vZ_pos _ nn] at k1
  exact root_hi9 _ _ _ v C ((rc (sqZ 1 H).natAbs (Fq.vV Ieee.double H.natAbs) hA).2.1 (Int.ofNat_le.1 k1)) h1
theorem vv9 (a b c:Nat):(((a * b * c:Nat):Int)) = (a:Int) * (b:Int) * (c:Int):=by rw [Int.natCast_mul,Int.natCast_mul]
theorem root_neg (K L H V:Int) (KK:Nat) (C:Nat) (hC:C≠0) (hV:V < 0):¬ loX KK V C (rL L H)≤0:=by
  have PKi:(0:Int) < ((2 ^ KK:Nat):Int):=by have:=Nat.two_pow_pos KK;omega
  have hCi:(0:Int) < (C:Int):=by omega
  unfold loX rL
  by_cases c:L = 9218868437227405312∨H < 0
  · rw [if_pos c,if_neg (by decide),if_pos rfl];decide
  · rw [if_neg c]
    have h1:=sqZ_nn (-1) (max L 0)
    generalize sqZ (-1) (max L 0) = z at h1 ⊢
    rw [if_neg (by omega)]
    split
    · decide
    · rw [cm_le9,vI_vZ]
      have h3:=Int.mul_nonneg (vZ_nn _ h1) (Int.le_of_lt hCi)
      have h4:=Int.mul_neg_of_neg_of_pos hV PKi
      exact fun q=>absurd (Int.lt_of_lt_of_le h4 h3) (Int.not_lt.2 q)
theorem root_some (K:Nat) (L H:Int) (v C:Nat) (hC:C≠0) (dx:VdZ L H) (h1:loX K ((v:Int) * (v:Int)) (C * C) L≤0) (h2:hiX K ((v:Int) * (v:Int)) (C * C) H≤0):¬ (L = 9218868437227405312∨H < 0):=by
  unfold VdZ at dx
  have hCi:(0:Int) < (C:Int):=by omega
  rintro (c | c)
  · unfold loX at h1
    rw [if_neg (by omega),if_pos c] at h1;omega
  · unfold hiX at h2
    rw [if_neg (by omega)] at h2
    split at h2
    · omega
    · rw [cm_le9,vI_vZ,← vv9] at h2
      have k1:vZ H < 0:=by have:=vZ_lt H 0 c;rw [vZ_zero] at this;exact this
      have k2:(0:Int) < ((C * C:Nat):Int):=by rw [Int.natCast_mul];exact Int.mul_pos hCi hCi
      have k3:=Int.mul_neg_of_neg_of_pos k1 k2
      exact absurd (Int.lt_of_le_of_lt h2 k3) (Int.not_lt.2 (Int.natCast_nonneg _))
theorem root_pos (K:Nat) (hK:K = 1074) (L H:Int) (v C:Nat) (hC:C≠0) (dx:VdZ L H) (h1:loX K ((v:Int) * (v:Int)) (C * C) L≤0) (h2:hiX K ((v:Int) * (v:Int)) (C * C) H≤0):loX K (v:Int) C (rL L H)≤0∧hiX K (v:Int) C (rH L H)≤0:=by
  have ne:=root_some K L H v C hC dx h1 h2
  have rc:=fun (m A:Nat) (hA:A≠0)=>rt_cmp m A K hK hA
  clear hK
  have PK:0 < 2 ^ K:=Nat.two_pow_pos K
  unfold VdZ at dx
  unfold rL rH
  rw [if_neg ne,if_neg ne]
  have b1:=sqZ_bd (-1) (max L 0)
  have b2:=sqZ_bd 1 H
  have n1:=sqZ_nn (-1) (max L 0)
  have n2:=sqZ_nn 1 H
  unfold BdZ at b1 b2
  constructor
  · clear h2 n2 b2
    unfold loX
    rw [if_neg (by omega)]
    by_cases z:max L 0 = 0
    · have e:sqZ (-1) (max L 0) = 0:=by unfold sqZ;rw [if_neg (by omega),if_pos z]
      rw [e,if_neg (by decide),cm_le9,vI_vZ,vZ_zero,Int.zero_mul,← Int.natCast_mul]
      exact Int.natCast_nonneg _
    · have hm:max L 0 = L:=by omega
      rw [hm] at n1 b1 ⊢
      unfold loX at h1
      rw [if_neg (by omega),if_neg (by omega),cm_le9,vI_vZ,vZ_pos L (by omega),← vv9,← Int.natCast_mul] at h1
      have k:=sq_low K rc L (by omega) (by omega) v C (Int.ofNat_le.1 h1)
      rw [if_neg (by omega),cm_le9,vI_vZ,vZ_pos _ n1,← Int.natCast_mul,← Int.natCast_mul]
      exact Int.ofNat_le.2 k.2
  · clear h1 n1 b1
    unfold hiX
    by_cases t:sqZ 1 H = 9218868437227405312
    · rw [if_pos t];decide
    · have hf:H≠9218868437227405312:=fun q=>t (by unfold sqZ;rw [if_pos q])
      have h0:0≤H:=by omega
      unfold hiX at h2
      rw [if_neg hf,if_neg (by omega),cm_le9,vI_vZ,vZ_pos H h0,← vv9,← Int.natCast_mul] at h2
      rw [if_neg t,if_neg (by omega),cm_le9,vI_vZ,vZ_pos _ n2,← Int.natCast_mul,← Int.natCast_mul]
      have h3:=Int.ofNat_le.1 h2
      by_cases z:H = 0
      · have e0:Fq.vV Ieee.double H.natAbs = 0:=by rw [z];exact vV0X
        rw [e0,Nat.zero_mul] at h3
        have hv0:v = 0:=by
          rcases Nat.eq_zero_or_pos v with q | q
          · exact q
          · exact absurd (Nat.mul_pos (Nat.mul_pos q q) PK) (Nat.not_lt.2 h3)
        rw [hv0,Nat.zero_mul];exact Int.natCast_nonneg _
      · exact Int.ofNat_le.2 (sq_high K rc H (by omega) (by omega) v C h3 (by omega))
theorem root_math (K:Nat) (hK:K = 1074) (L H V:Int) (C:Nat) (dx:VdZ L H) (hC:C≠0) :
    (V < 0→(decide (loX K V C (rL L H)≤0) && decide (hiX K V C (rH L H)≤0)) = false)∧(0≤V→loX K (V * V) (C * C) L≤0→hiX K (V * V) (C * C) H≤0→loX K V C (rL L H)≤0∧hiX K V C (rH L H)≤0):=by
  constructor
  · intro hV
    rw [decide_eq_false (root_neg 0 L H V K C hC hV)];rfl
  · intro hV h1 h2
    obtain ⟨v,rfl⟩:=Int.eq_ofNat_of_zero_le hV
    exact root_pos K hK L H v C hC dx h1 h2
end Go.Proofs.YtnileplkkmhdgaaGreatDoor
