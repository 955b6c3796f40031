import Derived.Test.YtnileplkkmhdgaaGreatDoorKBGw
import Derived.Test.YtnileplkkmhdgaaGreatDoorKFA6
set_option maxHeartbeats 4000000
set_option maxRecDepth 20000
namespace Go.Proofs.YtnileplkkmhdgaaGreatDoor
open Go.RowKit
theorem add6n_ (a b c d L1 H1 L2 H2 NL NH:Nat) (hx:∀ w:World,Calls Tryz.prog 32 #[.agg #[.float .f64 a,.float .f64 b]] w fun e w'=>e = .returned (.agg #[.float .f64 L1,.float .f64 H1])∧Kp w w') (hy:∀ w:World,Calls Tryz.prog 32 #[.agg #[.float .f64 c,.float .f64 d]] w fun e w'=>e = .returned (.agg #[.float .f64 L2,.float .f64 H2])∧Kp w w') (hv1:∀ w:World,Calls Tryz.prog 33 #[.agg #[.float .f64 L1,.float .f64 H1]] w fun e w'=>e = .returned (.bool false)∧Kp w w') (hv2:∀ w:World,Calls Tryz.prog 33 #[.agg #[.float .f64 L2,.float .f64 H2]] w fun e w'=>e = .returned (.bool false)∧Kp w w') (w:World) (hA1:∀ W:World,Kp w W→Calls Tryz.prog 35 #[.int .i64 (-1),.float .f64 L1,.float .f64 L2] W fun e w'=>e = .returned (.float .f64 NL)∧Kp W w') (hA2:∀ W:World,Kp w W→Calls Tryz.prog 35 #[.int .i64 1,.float .f64 H1,.float .f64 H2] W fun e w'=>e = .returned (.float .f64 NH)∧Kp W w'):Calls Tryz.prog 10 #[.agg #[.float .f64 a,.float .f64 b],.agg #[.float .f64 c,.float .f64 d]] w fun e w'=>e = .returned (.agg #[.float .f64 NL,.float .f64 NH])∧Kp w w':=by
    go_enter Tryz.func10,Tryz.ntmps10
    go_wp2
    go_region_with (first | (go_at_call_of 32 (Value.agg #[.float .f64 a,.float .f64 b]);refine (hx _).mono ?_;rintro e wx ⟨rfl,gx⟩;first | (have kx:=Kp.trans ky gx;have sx:=H6.keep sy gx;obtain ⟨⟨p0,p1,p2,p3⟩,⟨p4,p5,p6,p7⟩,⟨p8,p9,pa,pb⟩⟩:=id sx) | (have kx:Kp w wx:=Kp.trans (((((Kp.refl w).alloc _).alloc _).alloc _).drew) gx;have sx:=H6.keep (H6.new w (.float .f64 a) (.float .f64 b) (.float .f64 c) (.float .f64 d) (.float .f64 0) (.float .f64 0) 36 36 36) (Kp.trans (Kp.drew (Kp.refl _)) gx);obtain ⟨⟨p0,p1,p2,p3⟩,⟨p4,p5,p6,p7⟩,⟨p8,p9,pa,pb⟩⟩:=id sx)) | (go_at_call_of 32 (Value.agg #[.float .f64 c,.float .f64 d]);refine (hy _).mono ?_;rintro e wy ⟨rfl,gy⟩;first | (have ky:=Kp.trans kx gy;have sy:=H6.keep sx gy;obtain ⟨⟨p0,p1,p2,p3⟩,⟨p4,p5,p6,p7⟩,⟨p8,p9,pa,pb⟩⟩:=id sy) | (have ky:Kp w wy:=Kp.trans (((((Kp.refl w).alloc _).alloc _).alloc _).drew) gy;have sy:=H6.keep (H6.new w (.float .f64 a) (.float .f64 b) (.float .f64 c) (.float .f64 d) (.float .f64 0) (.float .f64 0) 36 36 36) (Kp.trans (Kp.drew (Kp.refl _)) gy);obtain ⟨⟨p0,p1,p2,p3⟩,⟨p4,p5,p6,p7⟩,⟨p8,p9,pa,pb⟩⟩:=id sy)))
    all_goals (first
      | skip
        have sw:=H6.put (id sy:H6 wy w.heap.size (.float .f64 a) (.float .f64 b) (.float .f64 c) (.float .f64 d) (.float .f64 0) (.float .f64 0)) (.float .f64 L1) (.float .f64 H1) (.float .f64 L2) (.float .f64 H2)
        have kw:Kp w ((((wy.setCell ⟨w.heap.size,0,none⟩ (.float .f64 L1)).setCell ⟨w.heap.size,1,none⟩ (.float .f64 H1)).setCell ⟨w.heap.size + 1,0,none⟩ (.float .f64 L2)).setCell ⟨w.heap.size + 1,1,none⟩ (.float .f64 H2)):=(((ky.setCell (Nat.le_refl _) _).setCell (Nat.le_refl _) _).setCell (Nat.le_succ _) _).setCell (Nat.le_succ _) _
        generalize hW:((((wy.setCell ⟨w.heap.size,0,none⟩ (.float .f64 L1)).setCell ⟨w.heap.size,1,none⟩ (.float .f64 H1)).setCell ⟨w.heap.size + 1,0,none⟩ (.float .f64 L2)).setCell ⟨w.heap.size + 1,1,none⟩ (.float .f64 H2)) = W at sw kw ⊢
        clear hW
      | skip
        have sw:=H6.put (id sx:H6 wx w.heap.size (.float .f64 a) (.float .f64 b) (.float .f64 c) (.float .f64 d) (.float .f64 0) (.float .f64 0)) (.float .f64 L1) (.float .f64 H1) (.float .f64 L2) (.float .f64 H2)
        have kw:Kp w ((((wx.setCell ⟨w.heap.size,0,none⟩ (.float .f64 L1)).setCell ⟨w.heap.size,1,none⟩ (.float .f64 H1)).setCell ⟨w.heap.size + 1,0,none⟩ (.float .f64 L2)).setCell ⟨w.heap.size + 1,1,none⟩ (.float .f64 H2)):=(((kx.setCell (Nat.le_refl _) _).setCell (Nat.le_refl _) _).setCell (Nat.le_succ _) _).setCell (Nat.le_succ _) _
        generalize hW:((((wx.setCell ⟨w.heap.size,0,none⟩ (.float .f64 L1)).setCell ⟨w.heap.size,1,none⟩ (.float .f64 H1)).setCell ⟨w.heap.size + 1,0,none⟩ (.float .f64 L2)).setCell ⟨w.heap.size + 1,1,none⟩ (.float .f64 H2)) = W at sw kw ⊢
        clear hW)
    all_goals (
      obtain ⟨⟨p0,p1,p2,p3⟩,⟨p4,p5,p6,p7⟩,⟨p8,p9,pa,pb⟩⟩:=id sw
      go_wp2_with (first | (go_at_call_of 33 (Value.agg #[.float .f64 L1,.float .f64 H1]);refine (hv1 _).mono ?_;rintro e wv ⟨rfl,gv⟩;have kv:=Kp.trans kw gv;have sv:=H6.keep sw gv;obtain ⟨⟨u0,u1,u2,u3⟩,⟨u4,u5,u6,u7⟩,⟨u8,u9,ua,ub⟩⟩:=id sv) | (go_at_call_of 33 (Value.agg #[.float .f64 L2,.float .f64 H2]);refine (hv2 _).mono ?_;rintro e wz ⟨rfl,gz⟩;have kz:=Kp.trans kv gz;have sz:=H6.keep sv gz;obtain ⟨⟨t0,t1,t2,t3⟩,⟨t4,t5,t6,t7⟩,⟨t8,t9,ta,tb⟩⟩:=id sz))
      go_region_held3 (fun w'=>w'.cell? ⟨w.heap.size,0,none⟩ = some (.float .f64 L1)∧w'.cell? ⟨w.heap.size,1,none⟩ = some (.float .f64 H1)∧w'.cell? ⟨w.heap.size + 1,0,none⟩ = some (.float .f64 L2)∧w'.cell? ⟨w.heap.size + 1,1,none⟩ = some (.float .f64 H2)) (first | (exact ⟨sz.1.1,sz.1.2.1,sz.2.1.1,sz.2.1.2.1⟩) | (exact ⟨sA.1.1,sA.1.2.1,sA.2.1.1,sA.2.1.2.1⟩) | (exact ⟨sC.1.1,sC.1.2.1,sC.2.1.1,sC.2.1.2.1⟩) | (exact ⟨(World.cell?_setCell_far _ _ _ _ (by simp <;> omega)).trans ((World.cell?_setCell_far _ _ _ _ (by simp <;> omega)).trans sA.1.1),(World.cell?_setCell_far _ _ _ _ (by simp <;> omega)).trans ((World.cell?_setCell_far _ _ _ _ (by simp <;> omega)).trans sA.1.2.1),(World.cell?_setCell_far _ _ _ _ (by simp <;> omega)).trans ((World.cell?_setCell_far _ _ _ _ (by simp <;> omega)).trans sA.2.1.1),(World.cell?_setCell_far _ _ _ _ (by simp <;> omega)).trans ((World.cell?_setCell_far _ _ _ _ (by simp <;> omega)).trans sA.2.1.2.1)⟩) | (exact ⟨(World.cell?_setCell_far _ _ _ _ (by simp <;> omega)).trans ((World.cell?_setCell_far _ _ _ _ (by simp <;> omega)).trans sC.1.1),(World.cell?_setCell_far _ _ _ _ (by simp <;> omega)).trans ((World.cell?_setCell_far _ _ _ _ (by simp <;> omega)).trans sC.1.2.1),(World.cell?_setCell_far _ _ _ _ (by simp <;> omega)).trans ((World.cell?_setCell_far _ _ _ _ (by simp <;> omega)).trans sC.2.1.1),(World.cell?_setCell_far _ _ _ _ (by simp <;> omega)).trans ((World.cell?_setCell_far _ _ _ _ (by simp <;> omega)).trans sC.2.1.2.1)⟩)) (first | (go_at_call_of 35 (Value.float .f64 L1);first | (refine (hA1 _ (Kp.trans kC (Kp.refl _))).mono ?_;rintro e wA ⟨rfl,gA⟩;have kA:=Kp.trans kC gA;have sA:=H6.keep sC gA;obtain ⟨⟨r0,r1,r2,r3⟩,⟨r4,r5,r6,r7⟩,⟨r8,r9,ra,rb⟩⟩:=id sA) | (refine (hA1 _ (Kp.drew kz)).mono ?_;rintro e wA ⟨rfl,gA⟩;have kA:=Kp.trans (Kp.drew kz) gA;have sA:=H6.keep sz (Kp.trans (Kp.drew (Kp.refl _)) gA);obtain ⟨⟨r0,r1,r2,r3⟩,⟨r4,r5,r6,r7⟩,⟨r8,r9,ra,rb⟩⟩:=id sA)) | (go_at_call_of 35 (Value.float .f64 H1);first | (refine (hA2 _ (Kp.trans kA (Kp.refl _))).mono ?_;rintro e wC ⟨rfl,gC⟩;have kC:=Kp.trans kA gC;have sC:=H6.keep sA gC;obtain ⟨⟨r0,r1,r2,r3⟩,⟨r4,r5,r6,r7⟩,⟨r8,r9,ra,rb⟩⟩:=id sC) | (refine (hA2 _ (Kp.drew kz)).mono ?_;rintro e wC ⟨rfl,gC⟩;have kC:=Kp.trans (Kp.drew kz) gC;have sC:=H6.keep sz (Kp.trans (Kp.drew (Kp.refl _)) gC);obtain ⟨⟨r0,r1,r2,r3⟩,⟨r4,r5,r6,r7⟩,⟨r8,r9,ra,rb⟩⟩:=id sC)))
      all_goals go_wp2
      all_goals first
        | exact bodyPost_ret (v:=.agg #[.float .f64 NL,.float .f64 NH]) (by simp [results,Tryz.results10,go_sem,r8,r9]) rfl ⟨rfl,(kA.setCell (by simp;omega) _).setCell (by simp;omega) _⟩
        | exact bodyPost_ret (v:=.agg #[.float .f64 NL,.float .f64 NH]) (by simp [results,Tryz.results10,go_sem,r8,r9]) rfl ⟨rfl,(kC.setCell (by simp;omega) _).setCell (by simp;omega) _⟩)
set_option linter.unusedVariables false
def aLo (L1 H1 L2 H2:Int):Int:=if L1 = 9218868437227405312∨L2 = 9218868437227405312 then 9218868437227405312 else adZ (-1) L1 L2
def aHi (L1 H1 L2 H2:Int):Int:=if L1 = 9218868437227405312∨L2 = 9218868437227405312 then -9218868437227405312 else adZ 1 H1 H2
theorem add9_ (a b c d:Nat) (L1 H1 L2 H2:Int) (hx:Rd a b L1 H1) (hy:Rd c d L2 H2) (w:World) (hT:TT w):Calls Tryz.prog 10 #[.agg #[.float .f64 a,.float .f64 b],.agg #[.float .f64 c,.float .f64 d]] w fun e w'=>e = .returned (.agg #[.float .f64 (pw (aLo L1 H1 L2 H2)),.float .f64 (pw (aHi L1 H1 L2 H2))])∧Kp w w':=by
  have v1:=void9_ L1 H1 hx.vd
  have v2:=void9_ L2 H2 hy.vd
  unfold aLo aHi
  by_cases c1:L1 = 9218868437227405312
  · rw [if_pos (Or.inl c1),if_pos (Or.inl c1),pw_I,pw_MI]
    rw [decide_eq_true c1] at v1
    exact add6v1_ a b c d _ _ _ _ hx.call hy.call v1 empty9_ w
  rw [decide_eq_false c1] at v1
  by_cases c2:L2 = 9218868437227405312
  · rw [if_pos (Or.inr c2),if_pos (Or.inr c2),pw_I,pw_MI]
    rw [decide_eq_true c2] at v2
    exact add6v2_ a b c d _ _ _ _ hx.call hy.call v1 v2 empty9_ w
  rw [decide_eq_false c2] at v2
  rw [if_neg (by omega),if_neg (by omega)]
  have d1:=hx.vd
  have d2:=hy.vd
  have b1:=d1.lo;have b2:=d1.hi;have b3:=d2.lo;have b4:=d2.hi
  unfold VdZ at d1 d2
  exact add6n_ a b c d _ _ _ _ _ _ hx.call hy.call v1 v2 w (fun W k=>addP_ (-1) L1 L2 (by omega) (by omega) b1 b3 (by omega) W (hT.kp k)) (fun W k=>addP_ 1 H1 H2 (by omega) (by omega) b2 b4 (by omega) W (hT.kp k))
theorem pw_of (x:Nat) (h:x≤9218868437227405312):pw (x:Int) = x:=by
  unfold pw
  rw [show decide ((x:Int) < 0) = false from decide_eq_false (by omega),show ((x:Int)).natAbs = x from by omega];rfl
theorem Rd.num (x y:Nat) (hx:x < 9218868437227405312) (hy:y≤9218868437227405312) (h:x≤y):Rd x y x y:=by
  have g:VdZ (x:Int) (y:Int):=Or.inr (by omega)
  have r:=Rd.of g
  rw [pw_of x (by omega),pw_of y hy] at r
  exact r
theorem in9_ (a b:Nat) (w:World):Calls Tryz.prog 8 #[.agg #[.int .u64 ((a:Nat):Int),.int .u64 ((b:Nat):Int)]] w fun e w'=>e = .returned (.agg #[.float .f64 a,.float .f64 b])∧Kp w w':=by
  have h1:=Fq.ff64 a
  have h2:=Fq.ff64 b
  generalize (a:Int) = X at h1 ⊢
  generalize (b:Int) = Y at h2 ⊢
  go_enter Tryz.func8,Tryz.ntmps8
  go_wp2
  go_region_held3 (fun w'=>w'.cell? ⟨w.heap.size,0,none⟩ = some (.int .u64 X)∧w'.cell? ⟨w.heap.size,1,none⟩ = some (.int .u64 Y)) (simp [go_sem]) (fail)
  go_wp2
  exact bodyPost_ret (v:=.agg #[.float .f64 a,.float .f64 b]) (by simp [results,Tryz.results8,go_sem]) rfl ⟨rfl,(by repeat (with_reducible (first | assumption | exact Kp.refl _ | apply Kp.drew | apply Kp.alloc | apply Kp.drewN | (refine Kp.setCell ?_ (by first | omega | (simp <;> omega)) _) | (refine Kp.trans ?_ (by assumption)))))⟩
theorem out9_ (a b:Nat) (w:World):Calls Tryz.prog 9 #[.agg #[.float .f64 a,.float .f64 b]] w fun e w'=>e = .returned (.agg #[.int .u64 ((a:Nat):Int),.int .u64 ((b:Nat):Int)])∧Kp w w':=by
  have h1:=Fq.fb64 a
  have h2:=Fq.fb64 b
  generalize (a:Int) = X at h1 ⊢
  generalize (b:Int) = Y at h2 ⊢
  go_enter Tryz.func9,Tryz.ntmps9
  go_wp2
  go_region_held3 (fun w'=>w'.cell? ⟨w.heap.size,0,none⟩ = some (.float .f64 a)∧w'.cell? ⟨w.heap.size,1,none⟩ = some (.float .f64 b)) (simp [go_sem,World.cell?_alloc_past]) (fail)
  go_wp2
  exact bodyPost_ret (v:=.agg #[.int .u64 X,.int .u64 Y]) (by simp [results,Tryz.results9,go_sem]) rfl ⟨rfl,(by repeat (with_reducible (first | assumption | exact Kp.refl _ | apply Kp.drew | apply Kp.alloc | apply Kp.drewN | (refine Kp.setCell ?_ (by first | omega | (simp <;> omega)) _) | (refine Kp.trans ?_ (by assumption)))))⟩
theorem awakeA_ (w:World) (h:Calls Tryz.prog 10 #[.agg #[.float .f64 4591870180066957722,.float .f64 4591870180066957722],.agg #[.float .f64 4596373779694328218,.float .f64 4596373779694328218]] w fun e w'=>e = .returned (.agg #[.float .f64 4599075939470750515,.float .f64 4599075939470750516])∧Kp w w'):Calls Tryz.prog 5 #[] w fun e w'=>e = .returned (.bool true)∧Kp w w':=by
  have q1:=Fq.eqIn6 4599075939470750515 4599075939470750515
  have q2:=Fq.eqIn6 4599075939470750516 4599075939470750516
  rw [show (FloatKind.f64.format.order 4599075939470750515 4599075939470750515 == some Ordering.eq) = true from by decide +kernel] at q1
  rw [show (FloatKind.f64.format.order 4599075939470750516 4599075939470750516 == some Ordering.eq) = true from by decide +kernel] at q2
  go_enter Tryz.func5,Tryz.ntmps5
  go_wp2_with (first | (go_at_call 10;refine h.mono ?_;rintro e w1 ⟨rfl,g1⟩))
  exact bodyPost_ret (v:=.bool true) (by simp [results,Tryz.results5,go_sem]) rfl ⟨rfl,g1⟩
theorem awake6_ (w:World) (hT:TT w):Calls Tryz.prog 5 #[] w fun e w'=>e = .returned (.bool true)∧Kp w w':=by
  refine awakeA_ w ?_
  have h:=add9_ 4591870180066957722 4591870180066957722 4596373779694328218 4596373779694328218 _ _ _ _ (Rd.num 4591870180066957722 4591870180066957722 (by decide) (by decide) (by decide)) (Rd.num 4596373779694328218 4596373779694328218 (by decide) (by decide) (by decide)) w hT
  rw [show pw (aLo ((4591870180066957722:Nat):Int) ((4591870180066957722:Nat):Int) ((4596373779694328218:Nat):Int) ((4596373779694328218:Nat):Int)) = 4599075939470750515 from by decide +kernel,show pw (aHi ((4591870180066957722:Nat):Int) ((4591870180066957722:Nat):Int) ((4596373779694328218:Nat):Int) ((4596373779694328218:Nat):Int)) = 4599075939470750516 from by decide +kernel] at h
  exact h
set_option linter.unusedVariables false
set_option linter.unusedSimpArgs false

theorem blen_list (xs:List Int) (hw:Wd xs) (M:Nat) (h:xs.length≤M):blen (val xs)≤32 * M:=by
  rw [blen_le_iff]
  have h1:=val_lt xs hw
  have h2:(4294967296:Nat) ^ xs.length≤4294967296 ^ M:=Nat.pow_le_pow_right (by decide) h
  rw [Nat.pow_mul,show (2:Nat) ^ 32 = 4294967296 from by decide]
  omega
def sg9 (V:Int):Int:=if V = 0 then 0 else if V < 0 then -1 else 1
theorem sgx_ (V:Int) (C N:Nat) (hN:N≤268435456) s5 p5 l5 c5 q5 k5 d5 (W:World) (h:XP 0 W s5 p5 l5 c5 q5 k5 d5 V C N):Calls Tryz.prog 19 #[.agg #[.bool s5,.slice p5 l5 c5,.slice q5 k5 d5]] W fun e w'=>e = .returned (.int .i64 (sg9 V))∧Kp W w':=by
  obtain ⟨a,b,o1,o2,f1,f2,f3,f4,f5⟩:=h
  have g:=rsignA_ s5 _ (.slice q5 k5 d5) (dig a) a W o1.ls (Wd_dig a) (dlen a 8388608 (by omega)) (val_dig a)
  have e:(if a = 0 then (0:Int) else if s5 then -1 else 1) = sg9 V:=by
    have pb:(0:Int) < (b:Int):=by omega
    have pc:(0:Int) < (C:Int):=by omega
    unfold sg9
    unfold rvI at f3
    by_cases z:a = 0
    · rw [z] at f3 ⊢
      have:V * (b:Int) = 0:=by rw [← f3];cases s5 <;> simp
      rcases Int.mul_eq_zero.1 this with q | q
      · rw [if_pos rfl,if_pos q]
      · omega
    · have pa:=Int.mul_pos (show (0:Int) < (a:Int) by omega) pc
      rw [if_neg z]
      cases s5
      · rw [if_neg (by decide)] at f3
        have hv:0 < V:=by
          rcases Int.lt_or_le 0 V with q | q
          · exact q
          · exfalso
            have:=Int.mul_nonneg (show 0≤-V by omega) (Int.le_of_lt pb)
            rw [Int.neg_mul] at this
            omega
        rw [if_neg (by decide),if_neg (by omega),if_neg (by omega)]
      · rw [if_pos rfl,Int.neg_mul] at f3
        have hv:V < 0:=by
          rcases Int.lt_or_le V 0 with q | q
          · exact q
          · exfalso
            have:=Int.mul_nonneg q (Int.le_of_lt pb)
            omega
        rw [if_pos rfl,if_neg (by omega),if_pos hv]
  rw [e] at g
  exact g
theorem fracX9_ (s:Bool) (p q:Option Addr) (c d:Nat) (xs ys:List Int) (W:World) (ax:Arr W p xs) (wx:Wd xs) (kx:xs.length≤c) (lx:xs.length≤1048576) (ay:Arr W q ys) (wy:Wd ys) (ky:ys.length≤d) (ly:ys.length≤1048576) (hy:val ys≠0):Calls Tryz.prog 27 #[.bool s,.slice p xs.length c,.slice q ys.length d,.int .i64 0] W fun e w'=>∃ (s5:Bool) (p5:Option Addr) (l5 c5:Nat) (q5:Option Addr) (k5 d5:Nat) (V5:Int) (C5:Nat),e = .returned (.agg #[.bool s5,.slice p5 l5 c5,.slice q5 k5 d5])∧(XP 0 w' s5 p5 l5 c5 q5 k5 d5 V5 C5 33554432∧V5 = rvI s (val xs)∧C5 = val ys)∧Kp W w':=by
  refine (fracB_ s _ _ xs ys 0 W ⟨p,c,rfl,ax,kx⟩ ⟨q,d,rfl,ay,ky⟩ wx wy (by omega) (by omega) hy (by decide)).mono ?_
  rintro e w' ⟨vn,vd,a',b',ng,rfl,o1,o2,⟨hF,hn⟩,g⟩
  obtain ⟨p3,c3,rfl,-,-⟩:=o1.arr
  obtain ⟨q3,d3,rfl,-,-⟩:=o2.arr
  have hl:=hF.2 rfl
  have b1:=blen_list xs wx 1048576 lx
  have b2:=blen_list ys wy 1048576 ly
  exact ⟨ng,p3,_,c3,q3,_,d3,_,_,rfl,⟨⟨a',b',o1.mono (Nat.zero_le _),o2.mono (Nat.zero_le _),hF.1.1,hy,frac_x (val xs) (val ys) a' b' ng s hy hF.1 hn,by omega,by omega⟩,rfl,rfl⟩,g⟩
theorem holdsroots_ (a b:Nat) (s:Bool) (p q:Option Addr) (c d:Nat) (xs ys:List Int) (W:World) (la:a < 18446744073709551616) (lb:b < 18446744073709551616) (ax:Arr W p xs) (wx:Wd xs) (kx:xs.length≤c) (lx:xs.length≤1048576) (ay:Arr W q ys) (wy:Wd ys) (ky:ys.length≤d) (ly:ys.length≤1048576) (hT0:Tab W) (hQ0:Fq.Tab W):Calls Tryz.prog 4 #[.agg #[.int .u64 ((a:Nat):Int),.int .u64 ((b:Nat):Int),.bool s,.slice p xs.length c,.slice q ys.length d]] W fun e w'=>e = .returned (.bool true)∧Kp W w':=by
  obtain ⟨K,hK⟩:∃ K:Nat,K = 1074:=⟨_,rfl⟩
  have hT:TT W:=⟨hT0,hQ0⟩
  obtain ⟨L,H,r⟩:=Rd.ex a b la lb
  have hawk:=fun (W1:World) (k:Kp W W1)=>awake6_ W1 (hT.kp k)
  have hlen:=fun (W1:World) (k:Kp W W1)=>rlen_ q d ys W1 (ay.grown k) wy (by omega)
  by_cases hy:val ys = 0
  · rw [hy,blen_zero] at hlen
    refine rootN_ _ _ s p _ c q _ d W hawk (fun W1 k=>ratioN_ s p _ c q _ d W1 (fun W2 k2=>hlen W2 (Kp.trans k k2)) (fun W2=>(int0_ W2).mono ?_))
    rintro e w' ⟨s5,p5,l5,c5,q5,k5,d5,rfl,-,g⟩
    exact ⟨s5,p5,l5,c5,q5,k5,d5,rfl,g⟩
  · have hb0:blen (val ys)≠0:=fun h=>by
      have:=(blen_le_iff (val ys) 0).1 (by omega)
      rw [Nat.pow_zero] at this;omega
    have hrat:∀ W1:World,Kp W W1→Calls Tryz.prog 6 #[.agg #[.bool s,.slice p xs.length c,.slice q ys.length d]] W1 fun e w'=>∃ (s5:Bool) (p5:Option Addr) (l5 c5:Nat) (q5:Option Addr) (k5 d5:Nat) (V5:Int) (C5:Nat),e = .returned (.tuple #[.agg #[.bool s5,.slice p5 l5 c5,.slice q5 k5 d5],.bool true])∧(XP 0 w' s5 p5 l5 c5 q5 k5 d5 V5 C5 33554432∧V5 = rvI s (val xs)∧C5 = val ys)∧Kp W1 w':=fun W1 k=>by
      refine (ratioY_ s p _ c q _ d ((blen (val ys):Nat):Int) 33554432 (rvI s (val xs)) (val ys) (by simp;omega) W1 (fun W2 k2=>hlen W2 (Kp.trans k k2)) (fun W2 k2=>(fracX9_ s p q c d xs ys W2 (ax.grown (Kp.trans k k2)) wx kx lx (ay.grown (Kp.trans k k2)) wy ky ly hy).mono ?_)).mono ?_
      · rintro e w' ⟨s5,p5,l5,c5,q5,k5,d5,V5,C5,rfl,⟨h1,rfl,rfl⟩,g⟩
        exact ⟨s5,p5,l5,c5,q5,k5,d5,rfl,h1,g⟩
      · rintro e w' ⟨s5,p5,l5,c5,q5,k5,d5,rfl,h1,g⟩
        exact ⟨s5,p5,l5,c5,q5,k5,d5,_,_,rfl,⟨h1,rfl,rfl⟩,g⟩
    obtain ⟨V,hV⟩:∃ V,V = rvI s (val xs):=⟨_,rfl⟩
    obtain ⟨C,hC⟩:∃ C,C = val ys:=⟨_,rfl⟩
    rw [← hV,← hC] at hrat
    have hC0:C≠0:=by rw [hC];exact hy
    have hz:=r_z L H r.vd
    have hsq:=fun (W1:World) (k:Kp W W1)=>sqrt9_ a b L H r W1 (hT.kp k)
    rw [hz.1,hz.2] at hsq
    have hsg:=fun (W1:World) s5 p5 l5 c5 q5 k5 d5 (h:XP 0 W1 s5 p5 l5 c5 q5 k5 d5 V C 33554432)=>sgx_ V C 33554432 (by decide) s5 p5 l5 c5 q5 k5 d5 W1 h
    have hh3:=fun (W1:World) s5 p5 l5 c5 q5 k5 d5 (h:XP 0 W1 s5 p5 l5 c5 q5 k5 d5 V C 33554432)=>holdsX_ K hK _ _ _ _ (Rd.of (vd_sqrt L H r.vd)) s5 p5 l5 c5 q5 k5 d5 V C 33554432 (by decide) W1 h
    have hh2:=fun (W1:World) s5 p5 l5 c5 q5 k5 d5 (h:XP 0 W1 s5 p5 l5 c5 q5 k5 d5 (V * V) (C * C) 134217731)=>holdsX_ K hK a b L H r s5 p5 l5 c5 q5 k5 d5 (V * V) (C * C) 134217731 (by decide) W1 h
    obtain ⟨m1,m2⟩:=root_math K hK L H V C r.vd hC0
    by_cases v0:V < 0
    · rw [m1 v0] at hh3
      have e:sg9 V < 0:=by unfold sg9;rw [if_neg (by omega),if_pos v0];decide
      exact rootF_ _ _ _ _ _ a b _ _ V C 0 s p _ c q _ d W hawk 33554432 hrat (in9_ a b) hsq (out9_ _ _) hsg e hh3
    · have e:¬ sg9 V < 0:=by
        unfold sg9
        by_cases z0:V = 0
        · rw [if_pos z0];decide
        · rw [if_neg z0,if_neg v0];decide
      have hmu:=fun (W1:World) s5 p5 l5 c5 q5 k5 d5 (h:XP 0 W1 s5 p5 l5 c5 q5 k5 d5 V C 33554432)=>(xmulB_ V V C C 33554432 33554432 (by decide) s5 p5 l5 c5 q5 k5 d5 s5 p5 l5 c5 q5 k5 d5 0 0 W1 h h)
      have hmu2:∀ (W1:World) s5 p5 l5 c5 q5 k5 d5,XP 0 W1 s5 p5 l5 c5 q5 k5 d5 V C 33554432→Calls Tryz.prog 14 #[.agg #[.bool s5,.slice p5 l5 c5,.slice q5 k5 d5],.agg #[.bool s5,.slice p5 l5 c5,.slice q5 k5 d5]] W1 fun e w'=>∃ s6 p6 l6 c6 q6 k6 d6,e = .returned (.agg #[.bool s6,.slice p6 l6 c6,.slice q6 k6 d6])∧XP 0 w' s6 p6 l6 c6 q6 k6 d6 (V * V) (C * C) 134217731∧Kp W1 w':=fun W1 s5 p5 l5 c5 q5 k5 d5 h=>(hmu W1 s5 p5 l5 c5 q5 k5 d5 h).mono (fun e w' ⟨s6,p6,l6,c6,q6,k6,d6,h1,h2,h3⟩=>⟨s6,p6,l6,c6,q6,k6,d6,h1,h2.mono (Nat.zero_le _),h3⟩)
      by_cases q1:loX K (V * V) (C * C) L≤0∧hiX K (V * V) (C * C) H≤0
      · have m3:=m2 (by omega) q1.1 q1.2
        rw [decide_eq_true q1.1,decide_eq_true q1.2] at hh2
        rw [decide_eq_true m3.1,decide_eq_true m3.2] at hh3
        exact rootT_ _ _ _ _ _ a b _ _ V C 134217731 s p _ c q _ d W hawk 33554432 hrat (in9_ a b) hsq (out9_ _ _) hsg e hmu2 hh2 hh3
      · have eb:(decide (loX K (V * V) (C * C) L≤0) && decide (hiX K (V * V) (C * C) H≤0)) = false:=by
          by_cases q2:loX K (V * V) (C * C) L≤0
          · rw [decide_eq_false (fun h=>q1 ⟨q2,h⟩),Bool.and_false]
          · rw [decide_eq_false q2,Bool.false_and]
        rw [eb] at hh2
        exact rootU_ _ _ _ _ _ a b _ _ V C 134217731 s p _ c q _ d W hawk 33554432 hrat (in9_ a b) hsq (out9_ _ _) hsg e hmu2 hh2
end Go.Proofs.YtnileplkkmhdgaaGreatDoor
