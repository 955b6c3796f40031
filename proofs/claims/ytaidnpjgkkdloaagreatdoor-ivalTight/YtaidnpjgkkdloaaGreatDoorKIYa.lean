import Derived.Test.YtaidnpjgkkdloaaGreatDoorKIYl
set_option maxHeartbeats 4000000
set_option maxRecDepth 20000
namespace Go.Proofs.YtaidnpjgkkdloaaGreatDoor
open Go.RowKit
set_option linter.unusedVariables false
theorem mul6v1_ (a b c d L1 H1 L2 H2:Nat) (hx:∀ w:World,Calls Tryz.prog 26 #[.agg #[.float .f64 a,.float .f64 b]] w fun e w'=>e = .returned (.agg #[.float .f64 L1,.float .f64 H1])∧Kp w w') (hy:∀ w:World,Calls Tryz.prog 26 #[.agg #[.float .f64 c,.float .f64 d]] w fun e w'=>e = .returned (.agg #[.float .f64 L2,.float .f64 H2])∧Kp w w') (hv1:∀ w:World,Calls Tryz.prog 27 #[.agg #[.float .f64 L1,.float .f64 H1]] w fun e w'=>e = .returned (.bool true)∧Kp w w') (hE:∀ w:World,Calls Tryz.prog 28 #[] w fun e w'=>e = .returned (.agg #[.float .f64 9218868437227405312,.float .f64 18442240474082181120])∧Kp w w') (w:World):Calls Tryz.prog 13 #[.agg #[.float .f64 a,.float .f64 b],.agg #[.float .f64 c,.float .f64 d]] w fun e w'=>e = .returned (.agg #[.float .f64 9218868437227405312,.float .f64 18442240474082181120])∧Kp w w':=by
    go_enter Tryz.func13,Tryz.ntmps13
    go_wp2
    go_region_with (first | (go_at_call_of 26 (Value.agg #[.float .f64 a,.float .f64 b]);refine (hx _).mono ?_;rintro e wx ⟨rfl,gx⟩;first | (have kx:=Kp.trans ky gx;have sx:=H6.keep sy gx;obtain ⟨⟨p0,p1,p2,p3⟩,⟨p4,p5,p6,p7⟩,⟨p8,p9,pa,pb⟩⟩:=id sx) | (have kx:Kp w wx:=Kp.trans (((((Kp.refl w).alloc _).alloc _).alloc _).drew) gx;have sx:=H6.keep (H6.new w (.float .f64 a) (.float .f64 b) (.float .f64 c) (.float .f64 d) (.float .f64 0) (.float .f64 0) 32 32 32) (Kp.trans (Kp.drew (Kp.refl _)) gx);obtain ⟨⟨p0,p1,p2,p3⟩,⟨p4,p5,p6,p7⟩,⟨p8,p9,pa,pb⟩⟩:=id sx)) | (go_at_call_of 26 (Value.agg #[.float .f64 c,.float .f64 d]);refine (hy _).mono ?_;rintro e wy ⟨rfl,gy⟩;first | (have ky:=Kp.trans kx gy;have sy:=H6.keep sx gy;obtain ⟨⟨p0,p1,p2,p3⟩,⟨p4,p5,p6,p7⟩,⟨p8,p9,pa,pb⟩⟩:=id sy) | (have ky:Kp w wy:=Kp.trans (((((Kp.refl w).alloc _).alloc _).alloc _).drew) gy;have sy:=H6.keep (H6.new w (.float .f64 a) (.float .f64 b) (.float .f64 c) (.float .f64 d) (.float .f64 0) (.float .f64 0) 32 32 32) (Kp.trans (Kp.drew (Kp.refl _)) gy);obtain ⟨⟨p0,p1,p2,p3⟩,⟨p4,p5,p6,p7⟩,⟨p8,p9,pa,pb⟩⟩:=id sy)))
    all_goals (first
      | skip
        have sw:=H6.put (id sy:H6 wy w.heap.size (.float .f64 a) (.float .f64 b) (.float .f64 c) (.float .f64 d) (.float .f64 0) (.float .f64 0)) (.float .f64 L1) (.float .f64 H1) (.float .f64 L2) (.float .f64 H2)
        have kw:Kp w ((((wy.setCell ⟨w.heap.size,0,none⟩ (.float .f64 L1)).setCell ⟨w.heap.size,1,none⟩ (.float .f64 H1)).setCell ⟨w.heap.size + 1,0,none⟩ (.float .f64 L2)).setCell ⟨w.heap.size + 1,1,none⟩ (.float .f64 H2)):=(((ky.setCell (Nat.le_refl _) _).setCell (Nat.le_refl _) _).setCell (Nat.le_succ _) _).setCell (Nat.le_succ _) _
        generalize hW:((((wy.setCell ⟨w.heap.size,0,none⟩ (.float .f64 L1)).setCell ⟨w.heap.size,1,none⟩ (.float .f64 H1)).setCell ⟨w.heap.size + 1,0,none⟩ (.float .f64 L2)).setCell ⟨w.heap.size + 1,1,none⟩ (.float .f64 H2)) = W at sw kw ⊢
        clear hW
      | skip
        have sw:=H6.put (id sx:H6 wx w.heap.size (.float .f64 a) (.float .f64 b) (.float .f64 c) (.float .f64 d) (.float .f64 0) (.float .f64 0)) (.float .f64 L1) (.float .f64 H1) (.float .f64 L2) (.float .f64 H2)
        have kw:Kp w ((((wx.setCell ⟨w.heap.size,0,none⟩ (.float .f64 L1)).setCell ⟨w.heap.size,1,none⟩ (.float .f64 H1)).setCell ⟨w.heap.size + 1,0,none⟩ (.float .f64 L2)).setCell ⟨w.heap.size + 1,1,none⟩ (.float .f64 H2)):=(((kx.setCell (Nat.le_refl _) _).setCell (Nat.le_refl _) _).setCell (Nat.le_succ _) _).setCell (Nat.le_succ _) _
        generalize hW:((((wx.setCell ⟨w.heap.size,0,none⟩ (.float .f64 L1)).setCell ⟨w.heap.size,1,none⟩ (.float .f64 H1)).setCell ⟨w.heap.size + 1,0,none⟩ (.float .f64 L2)).setCell ⟨w.heap.size + 1,1,none⟩ (.float .f64 H2)) = W at sw kw ⊢
        clear hW)
    all_goals (
      obtain ⟨⟨p0,p1,p2,p3⟩,⟨p4,p5,p6,p7⟩,⟨p8,p9,pa,pb⟩⟩:=id sw
      go_wp2_with (first | (go_at_call_of 27 (Value.agg #[.float .f64 L1,.float .f64 H1]);refine (hv1 _).mono ?_;rintro e wv ⟨rfl,gv⟩;have kv:=Kp.trans kw gv;have sv:=H6.keep sw gv;obtain ⟨⟨u0,u1,u2,u3⟩,⟨u4,u5,u6,u7⟩,⟨u8,u9,ua,ub⟩⟩:=id sv) | (go_at_call 28;refine (hE _).mono ?_;rintro e we ⟨rfl,ge⟩;obtain ⟨⟨e0,e1,e2,e3⟩,⟨e4,e5,e6,e7⟩,⟨e8,e9,ea,eb⟩⟩:=H6.keep sv ge;have ke:=Kp.trans kv ge))
      exact bodyPost_ret (v:=.agg #[.float .f64 9218868437227405312,.float .f64 18442240474082181120]) (by simp [results,Tryz.results13,go_sem,e8,e9]) rfl ⟨rfl,(ke.setCell (by simp;omega) _).setCell (by simp;omega) _⟩)
theorem mul6v2_ (a b c d L1 H1 L2 H2:Nat) (hx:∀ w:World,Calls Tryz.prog 26 #[.agg #[.float .f64 a,.float .f64 b]] w fun e w'=>e = .returned (.agg #[.float .f64 L1,.float .f64 H1])∧Kp w w') (hy:∀ w:World,Calls Tryz.prog 26 #[.agg #[.float .f64 c,.float .f64 d]] w fun e w'=>e = .returned (.agg #[.float .f64 L2,.float .f64 H2])∧Kp w w') (hv1:∀ w:World,Calls Tryz.prog 27 #[.agg #[.float .f64 L1,.float .f64 H1]] w fun e w'=>e = .returned (.bool false)∧Kp w w') (hv2:∀ w:World,Calls Tryz.prog 27 #[.agg #[.float .f64 L2,.float .f64 H2]] w fun e w'=>e = .returned (.bool true)∧Kp w w') (hE:∀ w:World,Calls Tryz.prog 28 #[] w fun e w'=>e = .returned (.agg #[.float .f64 9218868437227405312,.float .f64 18442240474082181120])∧Kp w w') (w:World):Calls Tryz.prog 13 #[.agg #[.float .f64 a,.float .f64 b],.agg #[.float .f64 c,.float .f64 d]] w fun e w'=>e = .returned (.agg #[.float .f64 9218868437227405312,.float .f64 18442240474082181120])∧Kp w w':=by
    go_enter Tryz.func13,Tryz.ntmps13
    go_wp2
    go_region_with (first | (go_at_call_of 26 (Value.agg #[.float .f64 a,.float .f64 b]);refine (hx _).mono ?_;rintro e wx ⟨rfl,gx⟩;first | (have kx:=Kp.trans ky gx;have sx:=H6.keep sy gx;obtain ⟨⟨p0,p1,p2,p3⟩,⟨p4,p5,p6,p7⟩,⟨p8,p9,pa,pb⟩⟩:=id sx) | (have kx:Kp w wx:=Kp.trans (((((Kp.refl w).alloc _).alloc _).alloc _).drew) gx;have sx:=H6.keep (H6.new w (.float .f64 a) (.float .f64 b) (.float .f64 c) (.float .f64 d) (.float .f64 0) (.float .f64 0) 32 32 32) (Kp.trans (Kp.drew (Kp.refl _)) gx);obtain ⟨⟨p0,p1,p2,p3⟩,⟨p4,p5,p6,p7⟩,⟨p8,p9,pa,pb⟩⟩:=id sx)) | (go_at_call_of 26 (Value.agg #[.float .f64 c,.float .f64 d]);refine (hy _).mono ?_;rintro e wy ⟨rfl,gy⟩;first | (have ky:=Kp.trans kx gy;have sy:=H6.keep sx gy;obtain ⟨⟨p0,p1,p2,p3⟩,⟨p4,p5,p6,p7⟩,⟨p8,p9,pa,pb⟩⟩:=id sy) | (have ky:Kp w wy:=Kp.trans (((((Kp.refl w).alloc _).alloc _).alloc _).drew) gy;have sy:=H6.keep (H6.new w (.float .f64 a) (.float .f64 b) (.float .f64 c) (.float .f64 d) (.float .f64 0) (.float .f64 0) 32 32 32) (Kp.trans (Kp.drew (Kp.refl _)) gy);obtain ⟨⟨p0,p1,p2,p3⟩,⟨p4,p5,p6,p7⟩,⟨p8,p9,pa,pb⟩⟩:=id sy)))
    all_goals (first
      | skip
        have sw:=H6.put (id sy:H6 wy w.heap.size (.float .f64 a) (.float .f64 b) (.float .f64 c) (.float .f64 d) (.float .f64 0) (.float .f64 0)) (.float .f64 L1) (.float .f64 H1) (.float .f64 L2) (.float .f64 H2)
        have kw:Kp w ((((wy.setCell ⟨w.heap.size,0,none⟩ (.float .f64 L1)).setCell ⟨w.heap.size,1,none⟩ (.float .f64 H1)).setCell ⟨w.heap.size + 1,0,none⟩ (.float .f64 L2)).setCell ⟨w.heap.size + 1,1,none⟩ (.float .f64 H2)):=(((ky.setCell (Nat.le_refl _) _).setCell (Nat.le_refl _) _).setCell (Nat.le_succ _) _).setCell (Nat.le_succ _) _
        generalize hW:((((wy.setCell ⟨w.heap.size,0,none⟩ (.float .f64 L1)).setCell ⟨w.heap.size,1,none⟩ (.float .f64 H1)).setCell ⟨w.heap.size + 1,0,none⟩ (.float .f64 L2)).setCell ⟨w.heap.size + 1,1,none⟩ (.float .f64 H2)) = W at sw kw ⊢
        clear hW
      | skip
        have sw:=H6.put (id sx:H6 wx w.heap.size (.float .f64 a) (.float .f64 b) (.float .f64 c) (.float .f64 d) (.float .f64 0) (.float .f64 0)) (.float .f64 L1) (.float .f64 H1) (.float .f64 L2) (.float .f64 H2)
        have kw:Kp w ((((wx.setCell ⟨w.heap.size,0,none⟩ (.float .f64 L1)).setCell ⟨w.heap.size,1,none⟩ (.float .f64 H1)).setCell ⟨w.heap.size + 1,0,none⟩ (.float .f64 L2)).setCell ⟨w.heap.size + 1,1,none⟩ (.float .f64 H2)):=(((kx.setCell (Nat.le_refl _) _).setCell (Nat.le_refl _) _).setCell (Nat.le_succ _) _).setCell (Nat.le_succ _) _
        generalize hW:((((wx.setCell ⟨w.heap.size,0,none⟩ (.float .f64 L1)).setCell ⟨w.heap.size,1,none⟩ (.float .f64 H1)).setCell ⟨w.heap.size + 1,0,none⟩ (.float .f64 L2)).setCell ⟨w.heap.size + 1,1,none⟩ (.float .f64 H2)) = W at sw kw ⊢
        clear hW)
    all_goals (
      obtain ⟨⟨p0,p1,p2,p3⟩,⟨p4,p5,p6,p7⟩,⟨p8,p9,pa,pb⟩⟩:=id sw
      go_wp2_with (first | (go_at_call_of 27 (Value.agg #[.float .f64 L1,.float .f64 H1]);refine (hv1 _).mono ?_;rintro e wv ⟨rfl,gv⟩;have kv:=Kp.trans kw gv;have sv:=H6.keep sw gv;obtain ⟨⟨u0,u1,u2,u3⟩,⟨u4,u5,u6,u7⟩,⟨u8,u9,ua,ub⟩⟩:=id sv) | (go_at_call_of 27 (Value.agg #[.float .f64 L2,.float .f64 H2]);refine (hv2 _).mono ?_;rintro e wz ⟨rfl,gz⟩;have kz:=Kp.trans kv gz;have sz:=H6.keep sv gz;obtain ⟨⟨t0,t1,t2,t3⟩,⟨t4,t5,t6,t7⟩,⟨t8,t9,ta,tb⟩⟩:=id sz) | (go_at_call 28;refine (hE _).mono ?_;rintro e we ⟨rfl,ge⟩;obtain ⟨⟨e0,e1,e2,e3⟩,⟨e4,e5,e6,e7⟩,⟨e8,e9,ea,eb⟩⟩:=H6.keep sz ge;have ke:=Kp.trans kz ge))
      exact bodyPost_ret (v:=.agg #[.float .f64 9218868437227405312,.float .f64 18442240474082181120]) (by simp [results,Tryz.results13,go_sem,e8,e9]) rfl ⟨rfl,(ke.setCell (by simp;omega) _).setCell (by simp;omega) _⟩)
set_option linter.unusedVariables false
theorem mul6n_ (a b c d L1 H1 L2 H2:Nat) (hx:∀ w:World,Calls Tryz.prog 26 #[.agg #[.float .f64 a,.float .f64 b]] w fun e w'=>e = .returned (.agg #[.float .f64 L1,.float .f64 H1])∧Kp w w') (hy:∀ w:World,Calls Tryz.prog 26 #[.agg #[.float .f64 c,.float .f64 d]] w fun e w'=>e = .returned (.agg #[.float .f64 L2,.float .f64 H2])∧Kp w w') (hv1:∀ w:World,Calls Tryz.prog 27 #[.agg #[.float .f64 L1,.float .f64 H1]] w fun e w'=>e = .returned (.bool false)∧Kp w w') (hv2:∀ w:World,Calls Tryz.prog 27 #[.agg #[.float .f64 L2,.float .f64 H2]] w fun e w'=>e = .returned (.bool false)∧Kp w w') (Z1 Z2:Nat) (w:World) (hs:∀ W:World,Kp w W→Calls Tryz.prog 37 #[.agg #[.float .f64 L1,.float .f64 H1],.agg #[.float .f64 L2,.float .f64 H2],.func (.func 38) #[] #[]] W fun e w'=>e = .returned (.agg #[.float .f64 Z1,.float .f64 Z2])∧Kp W w'):Calls Tryz.prog 13 #[.agg #[.float .f64 a,.float .f64 b],.agg #[.float .f64 c,.float .f64 d]] w fun e w'=>e = .returned (.agg #[.float .f64 Z1,.float .f64 Z2])∧Kp w w':=by
    go_enter Tryz.func13,Tryz.ntmps13
    go_upto_region 1 with fail
    go_cut [] (fun wx=>H6 wx w.heap.size (.float .f64 L1) (.float .f64 H1) (.float .f64 L2) (.float .f64 H2) (.float .f64 0) (.float .f64 0)∧Kp w wx)
    case first =>
      go_region_with (first | (go_at_call_of 26 (Value.agg #[.float .f64 a,.float .f64 b]);refine (hx _).mono ?_;rintro e wx ⟨rfl,gx⟩;first | (have kx:=Kp.trans ky gx;have sx:=H6.keep sy gx;obtain ⟨⟨p0,p1,p2,p3⟩,⟨p4,p5,p6,p7⟩,⟨p8,p9,pa,pb⟩⟩:=id sx) | (have kx:Kp w wx:=Kp.trans ((((Kp.refl w).alloc _).alloc _).alloc _).drew gx;have sx:=H6.keep (H6.new w (.float .f64 a) (.float .f64 b) (.float .f64 c) (.float .f64 d) (.float .f64 0) (.float .f64 0) 32 32 32) (Kp.trans (Kp.drew (Kp.refl _)) gx);obtain ⟨⟨p0,p1,p2,p3⟩,⟨p4,p5,p6,p7⟩,⟨p8,p9,pa,pb⟩⟩:=id sx)) | (go_at_call_of 26 (Value.agg #[.float .f64 c,.float .f64 d]);refine (hy _).mono ?_;rintro e wy ⟨rfl,gy⟩;first | (have ky:=Kp.trans kx gy;have sy:=H6.keep sx gy;obtain ⟨⟨p0,p1,p2,p3⟩,⟨p4,p5,p6,p7⟩,⟨p8,p9,pa,pb⟩⟩:=id sy) | (have ky:Kp w wy:=Kp.trans ((((Kp.refl w).alloc _).alloc _).alloc _).drew gy;have sy:=H6.keep (H6.new w (.float .f64 a) (.float .f64 b) (.float .f64 c) (.float .f64 d) (.float .f64 0) (.float .f64 0) 32 32 32) (Kp.trans (Kp.drew (Kp.refl _)) gy);obtain ⟨⟨p0,p1,p2,p3⟩,⟨p4,p5,p6,p7⟩,⟨p8,p9,pa,pb⟩⟩:=id sy)))
      all_goals (
        go_wp2_with fail
        go_meet
        first | (exact ⟨H6.put (id sy:H6 wy w.heap.size (.float .f64 a) (.float .f64 b) (.float .f64 c) (.float .f64 d) (.float .f64 0) (.float .f64 0)) (.float .f64 L1) (.float .f64 H1) (.float .f64 L2) (.float .f64 H2),(((ky.setCell (Nat.le_refl _) _).setCell (Nat.le_refl _) _).setCell (Nat.le_succ _) _).setCell (Nat.le_succ _) _⟩) | (exact ⟨H6.put (id sx:H6 wx w.heap.size (.float .f64 a) (.float .f64 b) (.float .f64 c) (.float .f64 d) (.float .f64 0) (.float .f64 0)) (.float .f64 L1) (.float .f64 H1) (.float .f64 L2) (.float .f64 H2),(((kx.setCell (Nat.le_refl _) _).setCell (Nat.le_refl _) _).setCell (Nat.le_succ _) _).setCell (Nat.le_succ _) _⟩))
    case rest =>
    obtain ⟨sw,kw⟩:=hcut
    obtain ⟨⟨p0,p1,p2,p3⟩,⟨p4,p5,p6,p7⟩,⟨p8,p9,pa,pb⟩⟩:=id sw
    go_wp2_with (first | (go_at_call_of 27 (Value.agg #[.float .f64 L1,.float .f64 H1]);refine (hv1 _).mono ?_;rintro e wv ⟨rfl,gv⟩;have kv:=Kp.trans kw gv;have sv:=H6.keep sw gv;obtain ⟨⟨u0,u1,u2,u3⟩,⟨u4,u5,u6,u7⟩,⟨u8,u9,ua,ub⟩⟩:=id sv) | (go_at_call_of 27 (Value.agg #[.float .f64 L2,.float .f64 H2]);refine (hv2 _).mono ?_;rintro e wz ⟨rfl,gz⟩;have kz:=Kp.trans kv gz;have sz:=H6.keep sv gz;obtain ⟨⟨v0,v1,v2,v3⟩,⟨v4,v5,v6,v7⟩,⟨v8,v9,va,vb⟩⟩:=id sz) | (go_at_call 37;refine (hs _ kz).mono ?_;rintro e ws ⟨rfl,gs⟩;have ks:=Kp.trans kz gs;have ss:=H6.keep sz gs;obtain ⟨⟨i0,i1,i2,i3⟩,⟨i4,i5,i6,i7⟩,⟨i8,i9,ia,ib⟩⟩:=id ss))
    exact bodyPost_ret (v:=.agg #[.float .f64 Z1,.float .f64 Z2]) (by simp [results,Tryz.results13,go_sem,i8,i9]) rfl ⟨rfl,(ks.setCell (by simp <;> omega) _).setCell (by simp <;> omega) _⟩
set_option linter.unusedVariables false

theorem opP_pw (x:Int) (h:BdZ x):opP (pw x) = pw (-x):=by
  have h2:=abs_pw x h
  unfold opP pw Fq.wD
  rcases Int.lt_trichotomy x 0 with c | c | c
  · rw [decide_eq_true c,decide_eq_false (show ¬ -x < 0 by omega),Int.natAbs_neg]
    simp;repeat' split
    all_goals omega
  · subst c;rfl
  · rw [decide_eq_false (show ¬ x < 0 by omega),decide_eq_true (show -x < 0 by omega),Int.natAbs_neg]
    simp;repeat' split
    all_goals omega
theorem bd_neg (x:Int) (h:BdZ x):BdZ (-x):=by unfold BdZ at *;omega
theorem vd_neg (L H:Int) (h:VdZ L H):VdZ (-H) (-L):=by unfold VdZ at *;omega
theorem minus9_ (x:Int) (h:BdZ x) (w:World):Calls Tryz.prog 46 #[.float .f64 (pw x)] w fun e w'=>e = .returned (.float .f64 (pw (-x)))∧w' = w:=by
  have g:=minus6_ (decide (x < 0)) x.natAbs (abs_pw x h) w
  have e:=opP_pw x h
  unfold pw at e ⊢
  rw [e] at g
  exact g
theorem neg9_ (a b:Nat) (L H:Int) (hx:Rd a b L H) (w:World):Calls Tryz.prog 35 #[.agg #[.float .f64 a,.float .f64 b]] w fun e w'=>e = .returned (.agg #[.float .f64 (pw (-H)),.float .f64 (pw (-L))])∧Kp w w' :=
  neg6c_ a b _ _ _ _ hx.call (minus9_ L hx.vd.lo) (minus9_ H hx.vd.hi) w
theorem empty9_ (w:World):Calls Tryz.prog 28 #[] w fun e w'=>e = .returned (.agg #[.float .f64 9218868437227405312,.float .f64 18442240474082181120])∧Kp w w':=by
  refine (Fq.empty6_ w).mono ?_
  exact fun e w' h=>⟨h.1,by first | exact h.2 | (rw [h.2];exact (Kp.refl _).alloc _)⟩
def mLo (K:Nat) (L1 H1 L2 H2:Int):Int:=if L1 = 9218868437227405312∨L2 = 9218868437227405312 then 9218868437227405312 else lst (prZ K) L1 H1 L2 H2
def mHi (K:Nat) (L1 H1 L2 H2:Int):Int:=if L1 = 9218868437227405312∨L2 = 9218868437227405312 then -9218868437227405312 else -(lst (prZ K) (-H1) (-L1) L2 H2)
theorem mul9_ (K:Nat) (hK:K = 1074) (a b c d:Nat) (L1 H1 L2 H2:Int) (hx:Rd a b L1 H1) (hy:Rd c d L2 H2) (w:World) (hT:TT w):Calls Tryz.prog 13 #[.agg #[.float .f64 a,.float .f64 b],.agg #[.float .f64 c,.float .f64 d]] w fun e w'=>e = .returned (.agg #[.float .f64 (pw (mLo K L1 H1 L2 H2)),.float .f64 (pw (mHi K L1 H1 L2 H2))])∧Kp w w':=by
  have v1:=void9_ L1 H1 hx.vd
  have v2:=void9_ L2 H2 hy.vd
  unfold mLo mHi
  by_cases c1:L1 = 9218868437227405312
  · rw [if_pos (Or.inl c1),if_pos (Or.inl c1),pw_I,pw_MI]
    rw [decide_eq_true c1] at v1
    exact mul6v1_ a b c d _ _ _ _ hx.call hy.call v1 empty9_ w
  rw [decide_eq_false c1] at v1
  by_cases c2:L2 = 9218868437227405312
  · rw [if_pos (Or.inr c2),if_pos (Or.inr c2),pw_I,pw_MI]
    rw [decide_eq_true c2] at v2
    exact mul6v2_ a b c d _ _ _ _ hx.call hy.call v1 v2 empty9_ w
  rw [decide_eq_false c2] at v2
  rw [if_neg (by omega),if_neg (by omega)]
  have b1:=hx.vd.lo;have b2:=hx.vd.hi;have b3:=hy.vd.lo;have b4:=hy.vd.hi
  have lo:∀ (x y:Int),BdZ x→BdZ y→∀ W0:World,TT W0→∀ W:World,Kp W0 W→Calls Tryz.prog 38 #[.float .f64 (pw x),.float .f64 (pw y)] W fun e w'=>e = .returned (.float .f64 (pw (prZ K x y)))∧Kp W w':=fun x y g1 g2 W0 t W k=>prodP_ K hK x y g1 g2 W (t.kp k)
  refine mul6n_ a b c d _ _ _ _ hx.call hy.call v1 v2 _ _ w (fun W k=>?_)
  have hT:=hT.kp k
  exact spreadA_ _ _ _ _ _ _ _ _ _ _ W (fun W' k'=>lsP9_ (prZ K) L1 H1 L2 H2 b1 b2 b3 b4 W' (fun _ _=>lo _ _ b2 b3 W' (hT.kp k')) (fun _ _=>lo _ _ b1 b4 W' (hT.kp k')) (fun _ _ _=>lo _ _ b2 b4 W' (hT.kp k')) (fun _ _ _=>lo _ _ b1 b3 W' (hT.kp k')) (prZ_bd _ _ _) (prZ_bd _ _ _)) (neg9_ _ _ _ _ (Rd.of hx.vd)) (fun W' k'=>lsP9_ (prZ K) (-H1) (-L1) L2 H2 (bd_neg _ b2) (bd_neg _ b1) b3 b4 W' (fun _ _=>lo _ _ (bd_neg _ b1) b3 W' (hT.kp k')) (fun _ _=>lo _ _ (bd_neg _ b2) b4 W' (hT.kp k')) (fun _ _ _=>lo _ _ (bd_neg _ b1) b4 W' (hT.kp k')) (fun _ _ _=>lo _ _ (bd_neg _ b2) b3 W' (hT.kp k')) (prZ_bd _ _ _) (prZ_bd _ _ _)) (minus9_ _ (lst_bd _ (prZ_bd K) _ _ _ _))
set_option linter.unusedVariables false
theorem holdsN_ (a b:Nat) (B1 B2:Bool) (t1:(FloatKind.f64.format.order a 0 == some Ordering.lt || FloatKind.f64.format.order a 0 == some Ordering.eq) = B1) (t2:(FloatKind.f64.format.order b 0 == some Ordering.gt || FloatKind.f64.format.order b 0 == some Ordering.eq) = B2) (w:World):Calls Tryz.prog 42 #[.agg #[.float .f64 a,.float .f64 b]] w fun e w'=>e = .returned (.bool (B1 && B2))∧Kp w w':=by
  cases B1 <;> cases B2
  all_goals (
    go_enter Tryz.func42,Tryz.ntmps42
    go_wp2
    exact bodyPost_ret (v:=.bool _) (by simp [results,Tryz.results42,go_sem]) rfl ⟨rfl,(by repeat (with_reducible (first | assumption | exact Kp.refl _ | apply Kp.drew | apply Kp.alloc | apply Kp.drewN | (refine Kp.setCell ?_ (by first | omega | (simp <;> omega)) _) | (refine Kp.trans ?_ (by assumption)))))⟩)
set_option linter.unusedVariables false
theorem div6n_ (a b c d L1 H1 L2 H2:Nat) (hx:∀ w:World,Calls Tryz.prog 26 #[.agg #[.float .f64 a,.float .f64 b]] w fun e w'=>e = .returned (.agg #[.float .f64 L1,.float .f64 H1])∧Kp w w') (hy:∀ w:World,Calls Tryz.prog 26 #[.agg #[.float .f64 c,.float .f64 d]] w fun e w'=>e = .returned (.agg #[.float .f64 L2,.float .f64 H2])∧Kp w w') (hv1:∀ w:World,Calls Tryz.prog 27 #[.agg #[.float .f64 L1,.float .f64 H1]] w fun e w'=>e = .returned (.bool false)∧Kp w w') (hv2:∀ w:World,Calls Tryz.prog 27 #[.agg #[.float .f64 L2,.float .f64 H2]] w fun e w'=>e = .returned (.bool false)∧Kp w w') (hh:∀ w:World,Calls Tryz.prog 42 #[.agg #[.float .f64 L2,.float .f64 H2]] w fun e w'=>e = .returned (.bool false)∧Kp w w') (Z1 Z2:Nat) (w:World) (hs:∀ W:World,Kp w W→Calls Tryz.prog 37 #[.agg #[.float .f64 L1,.float .f64 H1],.agg #[.float .f64 H2,.float .f64 L2],.func (.func 44) #[] #[]] W fun e w'=>e = .returned (.agg #[.float .f64 Z1,.float .f64 Z2])∧Kp W w'):Calls Tryz.prog 17 #[.agg #[.float .f64 a,.float .f64 b],.agg #[.float .f64 c,.float .f64 d]] w fun e w'=>e = .returned (.agg #[.float .f64 Z1,.float .f64 Z2])∧Kp w w':=by
    go_enter Tryz.func17,Tryz.ntmps17
    go_upto_region 1 with fail
    go_cut [] (fun wx=>H6 wx w.heap.size (.float .f64 L1) (.float .f64 H1) (.float .f64 L2) (.float .f64 H2) (.float .f64 0) (.float .f64 0)∧Kp w wx)
    case first =>
      go_region_with (first | (go_at_call_of 26 (Value.agg #[.float .f64 a,.float .f64 b]);refine (hx _).mono ?_;rintro e wx ⟨rfl,gx⟩;first | (have kx:=Kp.trans ky gx;have sx:=H6.keep sy gx;obtain ⟨⟨p0,p1,p2,p3⟩,⟨p4,p5,p6,p7⟩,⟨p8,p9,pa,pb⟩⟩:=id sx) | (have kx:Kp w wx:=Kp.trans ((((Kp.refl w).alloc _).alloc _).alloc _).drew gx;have sx:=H6.keep (H6.new w (.float .f64 a) (.float .f64 b) (.float .f64 c) (.float .f64 d) (.float .f64 0) (.float .f64 0) 32 32 32) (Kp.trans (Kp.drew (Kp.refl _)) gx);obtain ⟨⟨p0,p1,p2,p3⟩,⟨p4,p5,p6,p7⟩,⟨p8,p9,pa,pb⟩⟩:=id sx)) | (go_at_call_of 26 (Value.agg #[.float .f64 c,.float .f64 d]);refine (hy _).mono ?_;rintro e wy ⟨rfl,gy⟩;first | (have ky:=Kp.trans kx gy;have sy:=H6.keep sx gy;obtain ⟨⟨p0,p1,p2,p3⟩,⟨p4,p5,p6,p7⟩,⟨p8,p9,pa,pb⟩⟩:=id sy) | (have ky:Kp w wy:=Kp.trans ((((Kp.refl w).alloc _).alloc _).alloc _).drew gy;have sy:=H6.keep (H6.new w (.float .f64 a) (.float .f64 b) (.float .f64 c) (.float .f64 d) (.float .f64 0) (.float .f64 0) 32 32 32) (Kp.trans (Kp.drew (Kp.refl _)) gy);obtain ⟨⟨p0,p1,p2,p3⟩,⟨p4,p5,p6,p7⟩,⟨p8,p9,pa,pb⟩⟩:=id sy)))
      all_goals (
        go_wp2_with fail
        go_meet
        first | (exact ⟨H6.put (id sy:H6 wy w.heap.size (.float .f64 a) (.float .f64 b) (.float .f64 c) (.float .f64 d) (.float .f64 0) (.float .f64 0)) (.float .f64 L1) (.float .f64 H1) (.float .f64 L2) (.float .f64 H2),(((ky.setCell (Nat.le_refl _) _).setCell (Nat.le_refl _) _).setCell (Nat.le_succ _) _).setCell (Nat.le_succ _) _⟩) | (exact ⟨H6.put (id sx:H6 wx w.heap.size (.float .f64 a) (.float .f64 b) (.float .f64 c) (.float .f64 d) (.float .f64 0) (.float .f64 0)) (.float .f64 L1) (.float .f64 H1) (.float .f64 L2) (.float .f64 H2),(((kx.setCell (Nat.le_refl _) _).setCell (Nat.le_refl _) _).setCell (Nat.le_succ _) _).setCell (Nat.le_succ _) _⟩))
    case rest =>
    obtain ⟨sw,kw⟩:=hcut
    obtain ⟨⟨p0,p1,p2,p3⟩,⟨p4,p5,p6,p7⟩,⟨p8,p9,pa,pb⟩⟩:=id sw
    go_wp2_with (first | (go_at_call_of 27 (Value.agg #[.float .f64 L1,.float .f64 H1]);refine (hv1 _).mono ?_;rintro e wx ⟨rfl,gx⟩;replace kw:=Kp.trans kw gx;replace sw:=H6.keep sw gx;clear gx;obtain ⟨⟨p0,p1,p2,p3⟩,⟨p4,p5,p6,p7⟩,⟨p8,p9,pa,pb⟩⟩:=id sw) | (go_at_call_of 27 (Value.agg #[.float .f64 L2,.float .f64 H2]);refine (hv2 _).mono ?_;rintro e wx ⟨rfl,gx⟩;replace kw:=Kp.trans kw gx;replace sw:=H6.keep sw gx;clear gx;obtain ⟨⟨p0,p1,p2,p3⟩,⟨p4,p5,p6,p7⟩,⟨p8,p9,pa,pb⟩⟩:=id sw) | (go_at_call 42;refine (hh _).mono ?_;rintro e wx ⟨rfl,gx⟩;replace kw:=Kp.trans kw gx;replace sw:=H6.keep sw gx;clear gx;obtain ⟨⟨p0,p1,p2,p3⟩,⟨p4,p5,p6,p7⟩,⟨p8,p9,pa,pb⟩⟩:=id sw) | (go_at_call 37;refine (hs _ kw).mono ?_;rintro e wx ⟨rfl,gx⟩;replace kw:=Kp.trans kw gx;replace sw:=H6.keep sw gx;clear gx;obtain ⟨⟨p0,p1,p2,p3⟩,⟨p4,p5,p6,p7⟩,⟨p8,p9,pa,pb⟩⟩:=id sw))
    exact bodyPost_ret (v:=.agg #[.float .f64 Z1,.float .f64 Z2]) (by simp [results,Tryz.results17,go_sem,p8,p9]) rfl ⟨rfl,(kw.setCell (by simp <;> omega) _).setCell (by simp <;> omega) _⟩
set_option linter.unusedVariables false
theorem lsQ1_ (a b c d Z1 Z2 Z:Nat) (A1 B1 C1 D1:Bool) (tA1:(FloatKind.f64.format.order a 0 == some Ordering.lt) = A1) (tB1:(FloatKind.f64.format.order b 0 == some Ordering.gt) = B1) (tC1:(FloatKind.f64.format.order c 0 == some Ordering.lt) = C1) (tD1:(FloatKind.f64.format.order d 0 == some Ordering.gt) = D1) (q:(A1 && B1 && C1 && D1) = true) (w:World) (PL:Nat→Nat→Nat→Prop) (hL:∀ x y z,PL x y z→∀ W:World,Kp w W→Calls Tryz.prog 44 #[.float .f64 x,.float .f64 y] W fun e w'=>e = .returned (.float .f64 z)∧Kp W w') (f1:PL b c Z1) (f2:PL a d Z2) (hm:∀ (ts:Array TypeId) (t:TypeId) (w:World),(Builtin.min_ ts t #[.float .f64 Z1,.float .f64 Z2]).run Tryz.prog w = .ok (.float .f64 Z) w):Calls Tryz.prog 68 #[.agg #[.float .f64 a,.float .f64 b],.agg #[.float .f64 c,.float .f64 d],.func (.func 44) #[] #[]] w fun e w'=>e = .returned (.float .f64 Z)∧Kp w w':=by
  go_enter Tryz.func68,Tryz.ntmps68
  go_upto_region 2 with (first | (go_at_call 57;refine (Fq.inf1_ _).mono ?_;rintro e w1 ⟨rfl,g1⟩;have kw:Kp w w1:=(by rw [g1];exact (((Kp.refl w).alloc _).alloc _));have sw:H48 w1 w.heap.size (.float .f64 a) (.float .f64 b) (.float .f64 c) (.float .f64 d):=(by rw [g1];exact H48.new w (.float .f64 a) (.float .f64 b) (.float .f64 c) (.float .f64 d) 32 32);clear g1;obtain ⟨⟨p0,p1,p2,p3⟩,⟨p4,p5,p6,p7⟩⟩:=id sw))
  go_cut [9] (fun s9 wx=>s9 = .bool true∧wx = w1)
  case first =>
    cases A1 <;> cases B1 <;> cases C1 <;> cases D1 <;> first | (exfalso;revert q;decide) | skip
    all_goals (
      go_wp2_with fail
      go_meet
      exact ⟨rfl,rfl⟩)
  case rest =>
  obtain ⟨rfl,hwc⟩:=hcut
  replace kw:Kp w wc:=(by rw [hwc];exact kw)
  replace sw:=(show H48 wc w.heap.size (.float .f64 a) (.float .f64 b) (.float .f64 c) (.float .f64 d) by rw [hwc];exact sw)
  clear hwc
  generalize wc = w1 at kw sw ⊢
  obtain ⟨⟨p0,p1,p2,p3⟩,⟨p4,p5,p6,p7⟩⟩:=id sw
  go_wp2_with (first | (go_at_call 44;refine (hL _ _ _ (by with_reducible first | exact f1 | exact f2) _ kw).mono ?_;rintro e wx ⟨rfl,gx⟩;replace kw:=Kp.trans kw gx;replace sw:=H48.keep sw gx;clear gx;obtain ⟨⟨p0,p1,p2,p3⟩,⟨p4,p5,p6,p7⟩⟩:=id sw))
  exact bodyPost_ret (v:=.float .f64 Z) (by simp [results,Tryz.results68,go_sem]) rfl ⟨rfl,kw⟩
theorem lsQ2_ (a b c d Z2 Z:Nat) (A1 B1 C1 D1:Bool) (tA1:(FloatKind.f64.format.order a 0 == some Ordering.lt) = A1) (tB1:(FloatKind.f64.format.order b 0 == some Ordering.gt) = B1) (tC1:(FloatKind.f64.format.order c 0 == some Ordering.lt) = C1) (tD1:(FloatKind.f64.format.order d 0 == some Ordering.gt) = D1) (q:(A1 && B1 && C1 && D1) = false) (q2:(A1 && D1) = true) (w:World) (PL:Nat→Nat→Nat→Prop) (hL:∀ x y z,PL x y z→∀ W:World,Kp w W→Calls Tryz.prog 44 #[.float .f64 x,.float .f64 y] W fun e w'=>e = .returned (.float .f64 z)∧Kp W w') (f1:PL a d Z2) (f2:True) (hm:∀ (ts:Array TypeId) (t:TypeId) (w:World),(Builtin.min_ ts t #[.float .f64 9218868437227405312,.float .f64 Z2]).run Tryz.prog w = .ok (.float .f64 Z) w):Calls Tryz.prog 68 #[.agg #[.float .f64 a,.float .f64 b],.agg #[.float .f64 c,.float .f64 d],.func (.func 44) #[] #[]] w fun e w'=>e = .returned (.float .f64 Z)∧Kp w w':=by
  go_enter Tryz.func68,Tryz.ntmps68
  go_upto_region 2 with (first | (go_at_call 57;refine (Fq.inf1_ _).mono ?_;rintro e w1 ⟨rfl,g1⟩;have kw:Kp w w1:=(by rw [g1];exact (((Kp.refl w).alloc _).alloc _));have sw:H48 w1 w.heap.size (.float .f64 a) (.float .f64 b) (.float .f64 c) (.float .f64 d):=(by rw [g1];exact H48.new w (.float .f64 a) (.float .f64 b) (.float .f64 c) (.float .f64 d) 32 32);clear g1;obtain ⟨⟨p0,p1,p2,p3⟩,⟨p4,p5,p6,p7⟩⟩:=id sw))
  go_cut [9] (fun s9 wx=>s9 = .bool false∧wx = w1)
  case first =>
    cases A1 <;> cases B1 <;> cases C1 <;> cases D1 <;> first | (exfalso;revert q;decide) | skip
    all_goals (
      go_wp2_with fail
      go_meet
      exact ⟨rfl,rfl⟩)
  case rest =>
  obtain ⟨rfl,hwc⟩:=hcut
  replace kw:Kp w wc:=(by rw [hwc];exact kw)
  replace sw:=(show H48 wc w.heap.size (.float .f64 a) (.float .f64 b) (.float .f64 c) (.float .f64 d) by rw [hwc];exact sw)
  clear hwc
  generalize wc = w1 at kw sw ⊢
  obtain ⟨⟨p0,p1,p2,p3⟩,⟨p4,p5,p6,p7⟩⟩:=id sw
  go_upto_region 3 with (first | fail)
  go_cut [28] (fun s28 wx=>s28 = .bool true∧wx = w1)
  case first =>
    cases A1 <;> cases D1 <;> first | (exfalso;revert q2;decide) | skip
    all_goals (
      go_wp2_with fail
      go_meet
      exact ⟨rfl,rfl⟩)
  case rest =>
  obtain ⟨rfl,hwc⟩:=hcut
  replace kw:Kp w wc:=(by rw [hwc];exact kw)
  replace sw:=(show H48 wc w.heap.size (.float .f64 a) (.float .f64 b) (.float .f64 c) (.float .f64 d) by rw [hwc];exact sw)
  clear hwc
  generalize wc = w1 at kw sw ⊢
  obtain ⟨⟨p0,p1,p2,p3⟩,⟨p4,p5,p6,p7⟩⟩:=id sw
  go_wp2_with (first | (go_at_call 44;refine (hL _ _ _ (by with_reducible first | exact f1 | exact f2) _ kw).mono ?_;rintro e wx ⟨rfl,gx⟩;replace kw:=Kp.trans kw gx;replace sw:=H48.keep sw gx;clear gx;obtain ⟨⟨p0,p1,p2,p3⟩,⟨p4,p5,p6,p7⟩⟩:=id sw))
  exact bodyPost_ret (v:=.float .f64 Z) (by simp [results,Tryz.results68,go_sem]) rfl ⟨rfl,kw⟩
theorem lsQ3_ (a b c d Z:Nat) (A1 B1 C1 D1:Bool) (tA1:(FloatKind.f64.format.order a 0 == some Ordering.lt) = A1) (tB1:(FloatKind.f64.format.order b 0 == some Ordering.gt) = B1) (tC1:(FloatKind.f64.format.order c 0 == some Ordering.lt) = C1) (tD1:(FloatKind.f64.format.order d 0 == some Ordering.gt) = D1) (q:(A1 && B1 && C1 && D1) = false) (q2:(A1 && D1) = false) (q3:(B1 && C1) = true) (w:World) (PL:Nat→Nat→Nat→Prop) (hL:∀ x y z,PL x y z→∀ W:World,Kp w W→Calls Tryz.prog 44 #[.float .f64 x,.float .f64 y] W fun e w'=>e = .returned (.float .f64 z)∧Kp W w') (f1:PL b c Z) (f2:True):Calls Tryz.prog 68 #[.agg #[.float .f64 a,.float .f64 b],.agg #[.float .f64 c,.float .f64 d],.func (.func 44) #[] #[]] w fun e w'=>e = .returned (.float .f64 Z)∧Kp w w':=by
  go_enter Tryz.func68,Tryz.ntmps68
  go_upto_region 2 with (first | (go_at_call 57;refine (Fq.inf1_ _).mono ?_;rintro e w1 ⟨rfl,g1⟩;have kw:Kp w w1:=(by rw [g1];exact (((Kp.refl w).alloc _).alloc _));have sw:H48 w1 w.heap.size (.float .f64 a) (.float .f64 b) (.float .f64 c) (.float .f64 d):=(by rw [g1];exact H48.new w (.float .f64 a) (.float .f64 b) (.float .f64 c) (.float .f64 d) 32 32);clear g1;obtain ⟨⟨p0,p1,p2,p3⟩,⟨p4,p5,p6,p7⟩⟩:=id sw))
  go_cut [9] (fun s9 wx=>s9 = .bool false∧wx = w1)
  case first =>
    cases A1 <;> cases B1 <;> cases C1 <;> cases D1 <;> first | (exfalso;revert q;decide) | skip
    all_goals (
      go_wp2_with fail
      go_meet
      exact ⟨rfl,rfl⟩)
  case rest =>
  obtain ⟨rfl,hwc⟩:=hcut
  replace kw:Kp w wc:=(by rw [hwc];exact kw)
  replace sw:=(show H48 wc w.heap.size (.float .f64 a) (.float .f64 b) (.float .f64 c) (.float .f64 d) by rw [hwc];exact sw)
  clear hwc
  generalize wc = w1 at kw sw ⊢
  obtain ⟨⟨p0,p1,p2,p3⟩,⟨p4,p5,p6,p7⟩⟩:=id sw
  go_upto_region 3 with (first | fail)
  go_cut [28] (fun s28 wx=>s28 = .bool false∧wx = w1)
  case first =>
    cases A1 <;> cases D1 <;> first | (exfalso;revert q2;decide) | skip
    all_goals (
      go_wp2_with fail
      go_meet
      exact ⟨rfl,rfl⟩)
  case rest =>
  obtain ⟨rfl,hwc⟩:=hcut
  replace kw:Kp w wc:=(by rw [hwc];exact kw)
  replace sw:=(show H48 wc w.heap.size (.float .f64 a) (.float .f64 b) (.float .f64 c) (.float .f64 d) by rw [hwc];exact sw)
  clear hwc
  generalize wc = w1 at kw sw ⊢
  obtain ⟨⟨p0,p1,p2,p3⟩,⟨p4,p5,p6,p7⟩⟩:=id sw
  go_upto_region 4 with (first | fail)
  go_cut [37] (fun s37 wx=>s37 = .bool true∧wx = w1)
  case first =>
    cases B1 <;> cases C1 <;> first | (exfalso;revert q3;decide) | skip
    all_goals (
      go_wp2_with fail
      go_meet
      exact ⟨rfl,rfl⟩)
  case rest =>
  obtain ⟨rfl,hwc⟩:=hcut
  replace kw:Kp w wc:=(by rw [hwc];exact kw)
  replace sw:=(show H48 wc w.heap.size (.float .f64 a) (.float .f64 b) (.float .f64 c) (.float .f64 d) by rw [hwc];exact sw)
  clear hwc
  generalize wc = w1 at kw sw ⊢
  obtain ⟨⟨p0,p1,p2,p3⟩,⟨p4,p5,p6,p7⟩⟩:=id sw
  go_wp2_with (first | (go_at_call 44;refine (hL _ _ _ (by with_reducible first | exact f1 | exact f2) _ kw).mono ?_;rintro e wx ⟨rfl,gx⟩;replace kw:=Kp.trans kw gx;replace sw:=H48.keep sw gx;clear gx;obtain ⟨⟨p0,p1,p2,p3⟩,⟨p4,p5,p6,p7⟩⟩:=id sw))
  exact bodyPost_ret (v:=.float .f64 Z) (by simp [results,Tryz.results68,go_sem]) rfl ⟨rfl,kw⟩
theorem lsQ4_ (a b c d Z:Nat) (A1 B1 C1 D1 B2 D2:Bool) (tA1:(FloatKind.f64.format.order a 0 == some Ordering.lt) = A1) (tB1:(FloatKind.f64.format.order b 0 == some Ordering.gt) = B1) (tC1:(FloatKind.f64.format.order c 0 == some Ordering.lt) = C1) (tD1:(FloatKind.f64.format.order d 0 == some Ordering.gt) = D1) (tB2:(FloatKind.f64.format.order b 0 == some Ordering.lt || FloatKind.f64.format.order b 0 == some Ordering.eq) = B2) (tD2:(FloatKind.f64.format.order d 0 == some Ordering.lt || FloatKind.f64.format.order d 0 == some Ordering.eq) = D2) (q:(A1 && B1 && C1 && D1) = false) (q2:(A1 && D1) = false) (q3:(B1 && C1) = false) (q4:(B2 && D2) = true) (w:World) (PL:Nat→Nat→Nat→Prop) (hL:∀ x y z,PL x y z→∀ W:World,Kp w W→Calls Tryz.prog 44 #[.float .f64 x,.float .f64 y] W fun e w'=>e = .returned (.float .f64 z)∧Kp W w') (f1:PL b d Z) (f2:True):Calls Tryz.prog 68 #[.agg #[.float .f64 a,.float .f64 b],.agg #[.float .f64 c,.float .f64 d],.func (.func 44) #[] #[]] w fun e w'=>e = .returned (.float .f64 Z)∧Kp w w':=by
  go_enter Tryz.func68,Tryz.ntmps68
  go_upto_region 2 with (first | (go_at_call 57;refine (Fq.inf1_ _).mono ?_;rintro e w1 ⟨rfl,g1⟩;have kw:Kp w w1:=(by rw [g1];exact (((Kp.refl w).alloc _).alloc _));have sw:H48 w1 w.heap.size (.float .f64 a) (.float .f64 b) (.float .f64 c) (.float .f64 d):=(by rw [g1];exact H48.new w (.float .f64 a) (.float .f64 b) (.float .f64 c) (.float .f64 d) 32 32);clear g1;obtain ⟨⟨p0,p1,p2,p3⟩,⟨p4,p5,p6,p7⟩⟩:=id sw))
  go_cut [9] (fun s9 wx=>s9 = .bool false∧wx = w1)
  case first =>
    cases A1 <;> cases B1 <;> cases C1 <;> cases D1 <;> first | (exfalso;revert q;decide) | skip
    all_goals (
      go_wp2_with fail
      go_meet
      exact ⟨rfl,rfl⟩)
  case rest =>
  obtain ⟨rfl,hwc⟩:=hcut
  replace kw:Kp w wc:=(by rw [hwc];exact kw)
  replace sw:=(show H48 wc w.heap.size (.float .f64 a) (.float .f64 b) (.float .f64 c) (.float .f64 d) by rw [hwc];exact sw)
  clear hwc
  generalize wc = w1 at kw sw ⊢
  obtain ⟨⟨p0,p1,p2,p3⟩,⟨p4,p5,p6,p7⟩⟩:=id sw
  go_upto_region 3 with (first | fail)
  go_cut [28] (fun s28 wx=>s28 = .bool false∧wx = w1)
  case first =>
    cases A1 <;> cases D1 <;> first | (exfalso;revert q2;decide) | skip
    all_goals (
      go_wp2_with fail
      go_meet
      exact ⟨rfl,rfl⟩)
  case rest =>
  obtain ⟨rfl,hwc⟩:=hcut
  replace kw:Kp w wc:=(by rw [hwc];exact kw)
  replace sw:=(show H48 wc w.heap.size (.float .f64 a) (.float .f64 b) (.float .f64 c) (.float .f64 d) by rw [hwc];exact sw)
  clear hwc
  generalize wc = w1 at kw sw ⊢
  obtain ⟨⟨p0,p1,p2,p3⟩,⟨p4,p5,p6,p7⟩⟩:=id sw
  go_upto_region 4 with (first | fail)
  go_cut [37] (fun s37 wx=>s37 = .bool false∧wx = w1)
  case first =>
    cases B1 <;> cases C1 <;> first | (exfalso;revert q3;decide) | skip
    all_goals (
      go_wp2_with fail
      go_meet
      exact ⟨rfl,rfl⟩)
  case rest =>
  obtain ⟨rfl,hwc⟩:=hcut
  replace kw:Kp w wc:=(by rw [hwc];exact kw)
  replace sw:=(show H48 wc w.heap.size (.float .f64 a) (.float .f64 b) (.float .f64 c) (.float .f64 d) by rw [hwc];exact sw)
  clear hwc
  generalize wc = w1 at kw sw ⊢
  obtain ⟨⟨p0,p1,p2,p3⟩,⟨p4,p5,p6,p7⟩⟩:=id sw
  go_upto_region 5 with (first | fail)
  go_cut [46] (fun s46 wx=>s46 = .bool true∧wx = w1)
  case first =>
    cases B2 <;> cases D2 <;> first | (exfalso;revert q4;decide) | skip
    all_goals (
      go_wp2_with fail
      go_meet
      exact ⟨rfl,rfl⟩)
  case rest =>
  obtain ⟨rfl,hwc⟩:=hcut
  replace kw:Kp w wc:=(by rw [hwc];exact kw)
  replace sw:=(show H48 wc w.heap.size (.float .f64 a) (.float .f64 b) (.float .f64 c) (.float .f64 d) by rw [hwc];exact sw)
  clear hwc
  generalize wc = w1 at kw sw ⊢
  obtain ⟨⟨p0,p1,p2,p3⟩,⟨p4,p5,p6,p7⟩⟩:=id sw
  go_wp2_with (first | (go_at_call 44;refine (hL _ _ _ (by with_reducible first | exact f1 | exact f2) _ kw).mono ?_;rintro e wx ⟨rfl,gx⟩;replace kw:=Kp.trans kw gx;replace sw:=H48.keep sw gx;clear gx;obtain ⟨⟨p0,p1,p2,p3⟩,⟨p4,p5,p6,p7⟩⟩:=id sw))
  exact bodyPost_ret (v:=.float .f64 Z) (by simp [results,Tryz.results68,go_sem]) rfl ⟨rfl,kw⟩
theorem lsQ5_ (a b c d Z:Nat) (A1 B1 C1 D1 B2 D2:Bool) (tA1:(FloatKind.f64.format.order a 0 == some Ordering.lt) = A1) (tB1:(FloatKind.f64.format.order b 0 == some Ordering.gt) = B1) (tC1:(FloatKind.f64.format.order c 0 == some Ordering.lt) = C1) (tD1:(FloatKind.f64.format.order d 0 == some Ordering.gt) = D1) (tB2:(FloatKind.f64.format.order b 0 == some Ordering.lt || FloatKind.f64.format.order b 0 == some Ordering.eq) = B2) (tD2:(FloatKind.f64.format.order d 0 == some Ordering.lt || FloatKind.f64.format.order d 0 == some Ordering.eq) = D2) (q:(A1 && B1 && C1 && D1) = false) (q2:(A1 && D1) = false) (q3:(B1 && C1) = false) (q4:(B2 && D2) = false) (w:World) (PL:Nat→Nat→Nat→Prop) (hL:∀ x y z,PL x y z→∀ W:World,Kp w W→Calls Tryz.prog 44 #[.float .f64 x,.float .f64 y] W fun e w'=>e = .returned (.float .f64 z)∧Kp W w') (f1:PL a c Z) (f2:True):Calls Tryz.prog 68 #[.agg #[.float .f64 a,.float .f64 b],.agg #[.float .f64 c,.float .f64 d],.func (.func 44) #[] #[]] w fun e w'=>e = .returned (.float .f64 Z)∧Kp w w':=by
  go_enter Tryz.func68,Tryz.ntmps68
  go_upto_region 2 with (first | (go_at_call 57;refine (Fq.inf1_ _).mono ?_;rintro e w1 ⟨rfl,g1⟩;have kw:Kp w w1:=(by rw [g1];exact (((Kp.refl w).alloc _).alloc _));have sw:H48 w1 w.heap.size (.float .f64 a) (.float .f64 b) (.float .f64 c) (.float .f64 d):=(by rw [g1];exact H48.new w (.float .f64 a) (.float .f64 b) (.float .f64 c) (.float .f64 d) 32 32);clear g1;obtain ⟨⟨p0,p1,p2,p3⟩,⟨p4,p5,p6,p7⟩⟩:=id sw))
  go_cut [9] (fun s9 wx=>s9 = .bool false∧wx = w1)
  case first =>
    cases A1 <;> cases B1 <;> cases C1 <;> cases D1 <;> first | (exfalso;revert q;decide) | skip
    all_goals (
      go_wp2_with fail
      go_meet
      exact ⟨rfl,rfl⟩)
  case rest =>
  obtain ⟨rfl,hwc⟩:=hcut
  replace kw:Kp w wc:=(by rw [hwc];exact kw)
  replace sw:=(show H48 wc w.heap.size (.float .f64 a) (.float .f64 b) (.float .f64 c) (.float .f64 d) by rw [hwc];exact sw)
  clear hwc
  generalize wc = w1 at kw sw ⊢
  obtain ⟨⟨p0,p1,p2,p3⟩,⟨p4,p5,p6,p7⟩⟩:=id sw
  go_upto_region 3 with (first | fail)
  go_cut [28] (fun s28 wx=>s28 = .bool false∧wx = w1)
  case first =>
    cases A1 <;> cases D1 <;> first | (exfalso;revert q2;decide) | skip
    all_goals (
      go_wp2_with fail
      go_meet
      exact ⟨rfl,rfl⟩)
  case rest =>
  obtain ⟨rfl,hwc⟩:=hcut
  replace kw:Kp w wc:=(by rw [hwc];exact kw)
  replace sw:=(show H48 wc w.heap.size (.float .f64 a) (.float .f64 b) (.float .f64 c) (.float .f64 d) by rw [hwc];exact sw)
  clear hwc
  generalize wc = w1 at kw sw ⊢
  obtain ⟨⟨p0,p1,p2,p3⟩,⟨p4,p5,p6,p7⟩⟩:=id sw
  go_upto_region 4 with (first | fail)
  go_cut [37] (fun s37 wx=>s37 = .bool false∧wx = w1)
  case first =>
    cases B1 <;> cases C1 <;> first | (exfalso;revert q3;decide) | skip
    all_goals (
      go_wp2_with fail
      go_meet
      exact ⟨rfl,rfl⟩)
  case rest =>
  obtain ⟨rfl,hwc⟩:=hcut
  replace kw:Kp w wc:=(by rw [hwc];exact kw)
  replace sw:=(show H48 wc w.heap.size (.float .f64 a) (.float .f64 b) (.float .f64 c) (.float .f64 d) by rw [hwc];exact sw)
  clear hwc
  generalize wc = w1 at kw sw ⊢
  obtain ⟨⟨p0,p1,p2,p3⟩,⟨p4,p5,p6,p7⟩⟩:=id sw
  go_upto_region 5 with (first | fail)
  go_cut [46] (fun s46 wx=>s46 = .bool false∧wx = w1)
  case first =>
    cases B2 <;> cases D2 <;> first | (exfalso;revert q4;decide) | skip
    all_goals (
      go_wp2_with fail
      go_meet
      exact ⟨rfl,rfl⟩)
  case rest =>
  obtain ⟨rfl,hwc⟩:=hcut
  replace kw:Kp w wc:=(by rw [hwc];exact kw)
  replace sw:=(show H48 wc w.heap.size (.float .f64 a) (.float .f64 b) (.float .f64 c) (.float .f64 d) by rw [hwc];exact sw)
  clear hwc
  generalize wc = w1 at kw sw ⊢
  obtain ⟨⟨p0,p1,p2,p3⟩,⟨p4,p5,p6,p7⟩⟩:=id sw
  go_wp2_with (first | (go_at_call 44;refine (hL _ _ _ (by with_reducible first | exact f1 | exact f2) _ kw).mono ?_;rintro e wx ⟨rfl,gx⟩;replace kw:=Kp.trans kw gx;replace sw:=H48.keep sw gx;clear gx;obtain ⟨⟨p0,p1,p2,p3⟩,⟨p4,p5,p6,p7⟩⟩:=id sw))
  exact bodyPost_ret (v:=.float .f64 Z) (by simp [results,Tryz.results68,go_sem]) rfl ⟨rfl,kw⟩
end Go.Proofs.YtaidnpjgkkdloaaGreatDoor
