import Derived.Test.YtmpjcknaelgnoaaGreatDoorKRXf
set_option maxHeartbeats 4000000
set_option maxRecDepth 20000
namespace Go.Proofs.YtmpjcknaelgnoaaGreatDoor
open Go.RowKit
set_option linter.unusedVariables false
set_option linter.unusedSimpArgs false
theorem addrev9_ (b1 b2 c1 c2 x1 x2 LB HB LC HC S1 S2 Z1 Z2:Nat) (w:World)
  (hb9:∀ W:World,Calls Tryz.prog 38 #[.agg #[.float .f64 b1,.float .f64 b2]] W fun e w'=>e=.returned (.agg #[.float .f64 LB,.float .f64 HB])∧Kp W w') (hc9:∀ W:World,Calls Tryz.prog 38 #[.agg #[.float .f64 c1,.float .f64 c2]] W fun e w'=>e=.returned (.agg #[.float .f64 LC,.float .f64 HC])∧Kp W w')
  (hsub:∀ W:World,Kp w W→Calls Tryz.prog 43 #[.agg #[.float .f64 LC,.float .f64 HC],.agg #[.float .f64 LB,.float .f64 HB]] W fun e w'=>e=.returned (.agg #[.float .f64 S1,.float .f64 S2])∧Kp W w')
  (hlf:∀ (W:World) (g:Nat),Kp w W→BK W w.heap.size #[.float .f64 LB,.float .f64 HB] 29→BK W (w.heap.size+1) #[.float .f64 LC,.float .f64 HC] 29→BK W g #[.float .f64 S1,.float .f64 S2] 29→Calls Tryz.prog 42 #[.agg #[.float .f64 x1,.float .f64 x2],.func (.func 39) #[] #[.pointer (some ⟨w.heap.size,0,none⟩),.pointer (some ⟨w.heap.size+1,0,none⟩)],.slice (some ⟨g,0,none⟩) 1 1] W fun e w'=>e=.returned (.agg #[.float .f64 Z1,.float .f64 Z2])∧Kp W w') :
  Calls Tryz.prog 11 #[.agg #[.float .f64 b1,.float .f64 b2],.agg #[.float .f64 c1,.float .f64 c2],.agg #[.float .f64 x1,.float .f64 x2]] w fun e w'=>e=.returned (.agg #[.float .f64 Z1,.float .f64 Z2])∧Kp w w':=by
 have hmf:∀ (fn:Fn) (first cap:Array Value) (w:World),(Instr.makeFunc fn first cap).run Tryz.prog w=.ok (.func fn first cap) w:=fun _ _ _ _=>rfl
 go_enter Tryz.func11,Tryz.ntmps11
 go_upto_region 1 with fail
 have kw:Kp w ((((w.alloc (.cells #[.float .f64 b1,.float .f64 b2] 29)).alloc (.cells #[.float .f64 c1,.float .f64 c2] 29)).alloc (.cells #[.float .f64 x1,.float .f64 x2] 29)).alloc (.cells #[.float .f64 0,.float .f64 0] 29)):=((((Kp.refl w).alloc _).alloc _).alloc _).alloc _
 have hb:BK ((((w.alloc (.cells #[.float .f64 b1,.float .f64 b2] 29)).alloc (.cells #[.float .f64 c1,.float .f64 c2] 29)).alloc (.cells #[.float .f64 x1,.float .f64 x2] 29)).alloc (.cells #[.float .f64 0,.float .f64 0] 29)) (w.heap.size) #[.float .f64 b1,.float .f64 b2] 29:=((((BK.new w _ _).kp ((Kp.refl _).alloc _)).kp ((Kp.refl _).alloc _)).kp ((Kp.refl _).alloc _))
 have hc:BK ((((w.alloc (.cells #[.float .f64 b1,.float .f64 b2] 29)).alloc (.cells #[.float .f64 c1,.float .f64 c2] 29)).alloc (.cells #[.float .f64 x1,.float .f64 x2] 29)).alloc (.cells #[.float .f64 0,.float .f64 0] 29)) (w.heap.size+1) #[.float .f64 c1,.float .f64 c2] 29:=(((BK.newAt (by simp) _ _).kp ((Kp.refl _).alloc _)).kp ((Kp.refl _).alloc _))
 have hx:BK ((((w.alloc (.cells #[.float .f64 b1,.float .f64 b2] 29)).alloc (.cells #[.float .f64 c1,.float .f64 c2] 29)).alloc (.cells #[.float .f64 x1,.float .f64 x2] 29)).alloc (.cells #[.float .f64 0,.float .f64 0] 29)) (w.heap.size+2) #[.float .f64 x1,.float .f64 x2] 29:=((BK.newAt (by simp) _ _).kp ((Kp.refl _).alloc _))
 have hr:BK ((((w.alloc (.cells #[.float .f64 b1,.float .f64 b2] 29)).alloc (.cells #[.float .f64 c1,.float .f64 c2] 29)).alloc (.cells #[.float .f64 x1,.float .f64 x2] 29)).alloc (.cells #[.float .f64 0,.float .f64 0] 29)) (w.heap.size+3) #[.float .f64 0,.float .f64 0] 29:=(BK.newAt (by simp) _ _)
 generalize ((((w.alloc (.cells #[.float .f64 b1,.float .f64 b2] 29)).alloc (.cells #[.float .f64 c1,.float .f64 c2] 29)).alloc (.cells #[.float .f64 x1,.float .f64 x2] 29)).alloc (.cells #[.float .f64 0,.float .f64 0] 29))=W at kw hb hc hx hr ⊢
 go_cut [] (fun wx=>BK wx w.heap.size #[.float .f64 LB,.float .f64 HB] 29∧BK wx (w.heap.size+1) #[.float .f64 LC,.float .f64 HC] 29∧BK wx (w.heap.size+2) #[.float .f64 x1,.float .f64 x2] 29∧BK wx (w.heap.size+3) #[.float .f64 0,.float .f64 0] 29∧Kp w wx)
 case first =>
  obtain ⟨pp0,ppz0,pp1,ppz1⟩:=(show BK W (w.heap.size) #[.float .f64 b1,.float .f64 b2] _ from hb).c2;obtain ⟨qq0,qqz0,qq1,qqz1⟩:=(show BK W (w.heap.size+1) #[.float .f64 c1,.float .f64 c2] _ from hc).c2;skip
  have dp0:W.drew.cell? ⟨w.heap.size,0,none⟩=some (.float .f64 b1):=pp0;have dp1:W.drew.cell? ⟨w.heap.size,1,none⟩=some (.float .f64 b2):=pp1;have dq0:W.drew.cell? ⟨w.heap.size+1,0,none⟩=some (.float .f64 c1):=qq0;have dq1:W.drew.cell? ⟨w.heap.size+1,1,none⟩=some (.float .f64 c2):=qq1
  go_region_with (first | (go_at_call_of 38 (Value.agg #[.float .f64 b1,.float .f64 b2]);refine (hb9 _).mono ?_;rintro e wm ⟨rfl,gm⟩;first | (have km:=Kp.trans kn gm;have hbm:=hb.kp km;have hcm:=hc.kp km;obtain ⟨pm0,pmz0,pm1,pmz1⟩:=(show BK wm (w.heap.size) #[.float .f64 b1,.float .f64 b2] _ from hbm).c2;obtain ⟨qm0,qmz0,qm1,qmz1⟩:=(show BK wm (w.heap.size+1) #[.float .f64 c1,.float .f64 c2] _ from hcm).c2;skip) | (have km:Kp W wm:=Kp.trans (Kp.drew (Kp.refl _)) gm;have hbm:=hb.kp km;have hcm:=hc.kp km;obtain ⟨pm0,pmz0,pm1,pmz1⟩:=(show BK wm (w.heap.size) #[.float .f64 b1,.float .f64 b2] _ from hbm).c2;obtain ⟨qm0,qmz0,qm1,qmz1⟩:=(show BK wm (w.heap.size+1) #[.float .f64 c1,.float .f64 c2] _ from hcm).c2;skip)) | (go_at_call_of 38 (Value.agg #[.float .f64 c1,.float .f64 c2]);refine (hc9 _).mono ?_;rintro e wn ⟨rfl,gn⟩;first | (have kn:=Kp.trans km gn;have hbn:=hb.kp kn;have hcn:=hc.kp kn;obtain ⟨pn0,pnz0,pn1,pnz1⟩:=(show BK wn (w.heap.size) #[.float .f64 b1,.float .f64 b2] _ from hbn).c2;obtain ⟨qn0,qnz0,qn1,qnz1⟩:=(show BK wn (w.heap.size+1) #[.float .f64 c1,.float .f64 c2] _ from hcn).c2;skip) | (have kn:Kp W wn:=Kp.trans (Kp.drew (Kp.refl _)) gn;have hbn:=hb.kp kn;have hcn:=hc.kp kn;obtain ⟨pn0,pnz0,pn1,pnz1⟩:=(show BK wn (w.heap.size) #[.float .f64 b1,.float .f64 b2] _ from hbn).c2;obtain ⟨qn0,qnz0,qn1,qnz1⟩:=(show BK wn (w.heap.size+1) #[.float .f64 c1,.float .f64 c2] _ from hcn).c2;skip)))
  all_goals (
   go_wp2_with fail
   go_meet
   first | (exact ⟨((((hb.kp kn).put 0 (.float .f64 LB)).put 1 (.float .f64 HB)).far ⟨w.heap.size+1,0,none⟩ (.float .f64 LC) (by simp <;> omega)).far ⟨w.heap.size+1,1,none⟩ (.float .f64 HC) (by simp <;> omega),((((hc.kp kn).far ⟨w.heap.size,0,none⟩ (.float .f64 LB) (by simp <;> omega)).far ⟨w.heap.size,1,none⟩ (.float .f64 HB) (by simp <;> omega)).put 0 (.float .f64 LC)).put 1 (.float .f64 HC),((((hx.kp kn).far ⟨w.heap.size,0,none⟩ (.float .f64 LB) (by simp <;> omega)).far ⟨w.heap.size,1,none⟩ (.float .f64 HB) (by simp <;> omega)).far ⟨w.heap.size+1,0,none⟩ (.float .f64 LC) (by simp <;> omega)).far ⟨w.heap.size+1,1,none⟩ (.float .f64 HC) (by simp <;> omega),((((hr.kp kn).far ⟨w.heap.size,0,none⟩ (.float .f64 LB) (by simp <;> omega)).far ⟨w.heap.size,1,none⟩ (.float .f64 HB) (by simp <;> omega)).far ⟨w.heap.size+1,0,none⟩ (.float .f64 LC) (by simp <;> omega)).far ⟨w.heap.size+1,1,none⟩ (.float .f64 HC) (by simp <;> omega),((((Kp.trans kw kn).setCell (p:=⟨w.heap.size,0,none⟩) (Nat.le_refl _) (.float .f64 LB)).setCell (p:=⟨w.heap.size,1,none⟩) (Nat.le_refl _) (.float .f64 HB)).setCell (p:=⟨w.heap.size+1,0,none⟩) (Nat.le_succ _) (.float .f64 LC)).setCell (p:=⟨w.heap.size+1,1,none⟩) (Nat.le_succ _) (.float .f64 HC)⟩) | (exact ⟨((((hb.kp km).put 0 (.float .f64 LB)).put 1 (.float .f64 HB)).far ⟨w.heap.size+1,0,none⟩ (.float .f64 LC) (by simp <;> omega)).far ⟨w.heap.size+1,1,none⟩ (.float .f64 HC) (by simp <;> omega),((((hc.kp km).far ⟨w.heap.size,0,none⟩ (.float .f64 LB) (by simp <;> omega)).far ⟨w.heap.size,1,none⟩ (.float .f64 HB) (by simp <;> omega)).put 0 (.float .f64 LC)).put 1 (.float .f64 HC),((((hx.kp km).far ⟨w.heap.size,0,none⟩ (.float .f64 LB) (by simp <;> omega)).far ⟨w.heap.size,1,none⟩ (.float .f64 HB) (by simp <;> omega)).far ⟨w.heap.size+1,0,none⟩ (.float .f64 LC) (by simp <;> omega)).far ⟨w.heap.size+1,1,none⟩ (.float .f64 HC) (by simp <;> omega),((((hr.kp km).far ⟨w.heap.size,0,none⟩ (.float .f64 LB) (by simp <;> omega)).far ⟨w.heap.size,1,none⟩ (.float .f64 HB) (by simp <;> omega)).far ⟨w.heap.size+1,0,none⟩ (.float .f64 LC) (by simp <;> omega)).far ⟨w.heap.size+1,1,none⟩ (.float .f64 HC) (by simp <;> omega),((((Kp.trans kw km).setCell (p:=⟨w.heap.size,0,none⟩) (Nat.le_refl _) (.float .f64 LB)).setCell (p:=⟨w.heap.size,1,none⟩) (Nat.le_refl _) (.float .f64 HB)).setCell (p:=⟨w.heap.size+1,0,none⟩) (Nat.le_succ _) (.float .f64 LC)).setCell (p:=⟨w.heap.size+1,1,none⟩) (Nat.le_succ _) (.float .f64 HC)⟩))
 case rest =>
 obtain ⟨hb,hc,hx,hr,kw⟩:=hcut
 generalize wc=W at hb hc hx hr kw ⊢
 go_upto_region 3 with fail
 have xw0:W.cell? ⟨w.heap.size,0,none⟩=some (.float .f64 LB):=(hb.cell 0).trans rfl
 have dw0:W.drew.cell? ⟨w.heap.size,0,none⟩=some (.float .f64 LB):=xw0
 have xw1:W.cell? ⟨w.heap.size,1,none⟩=some (.float .f64 HB):=(hb.cell 1).trans rfl
 have dw1:W.drew.cell? ⟨w.heap.size,1,none⟩=some (.float .f64 HB):=xw1
 have xw2:W.cell? ⟨w.heap.size+1,0,none⟩=some (.float .f64 LC):=(hc.cell 0).trans rfl
 have dw2:W.drew.cell? ⟨w.heap.size+1,0,none⟩=some (.float .f64 LC):=xw2
 have xw3:W.cell? ⟨w.heap.size+1,1,none⟩=some (.float .f64 HC):=(hc.cell 1).trans rfl
 have dw3:W.drew.cell? ⟨w.heap.size+1,1,none⟩=some (.float .f64 HC):=xw3
 have xw4:W.cell? ⟨w.heap.size+2,0,none⟩=some (.float .f64 x1):=(hx.cell 0).trans rfl
 have dw4:W.drew.cell? ⟨w.heap.size+2,0,none⟩=some (.float .f64 x1):=xw4
 have xw5:W.cell? ⟨w.heap.size+2,1,none⟩=some (.float .f64 x2):=(hx.cell 1).trans rfl
 have dw5:W.drew.cell? ⟨w.heap.size+2,1,none⟩=some (.float .f64 x2):=xw5
 go_region_held3 (fun w'=>w'.cell? ⟨w.heap.size,0,none⟩=some (.float .f64 LB)∧w'.cell? ⟨w.heap.size,1,none⟩=some (.float .f64 HB)∧w'.cell? ⟨w.heap.size+1,0,none⟩=some (.float .f64 LC)∧w'.cell? ⟨w.heap.size+1,1,none⟩=some (.float .f64 HC)∧w'.cell? ⟨w.heap.size+2,0,none⟩=some (.float .f64 x1)∧w'.cell? ⟨w.heap.size+2,1,none⟩=some (.float .f64 x2)) (first | (with_reducible exact ⟨xw0,xw1,xw2,xw3,xw4,xw5⟩) | (with_reducible exact ⟨dw0,dw1,dw2,dw3,dw4,dw5⟩) | (with_reducible exact ⟨c50,c51,c52,c53,c54,c55⟩) | (with_reducible exact ⟨ca0,ca1,ca2,ca3,ca4,ca5⟩) | (with_reducible exact ⟨c60,c61,c62,c63,c64,c65⟩) | (exact ⟨((CF _ _ _ _ (by simp <;> omega)).trans ((CF _ _ _ _ (by simp <;> omega)).trans c60)),((CF _ _ _ _ (by simp <;> omega)).trans ((CF _ _ _ _ (by simp <;> omega)).trans c61)),((CF _ _ _ _ (by simp <;> omega)).trans ((CF _ _ _ _ (by simp <;> omega)).trans c62)),((CF _ _ _ _ (by simp <;> omega)).trans ((CF _ _ _ _ (by simp <;> omega)).trans c63)),((CF _ _ _ _ (by simp <;> omega)).trans ((CF _ _ _ _ (by simp <;> omega)).trans c64)),((CF _ _ _ _ (by simp <;> omega)).trans ((CF _ _ _ _ (by simp <;> omega)).trans c65))⟩)) (first | (have z9:=kq;clear z9;go_at_call 42;refine (hlf _ w5.heap.size (Kp.trans kw kq) (hb.kp kq) (hc.kp kq) (BK.new _ _ _)).mono ?_;rintro e w6 ⟨rfl,g6⟩;have k6:Kp W w6:=Kp.trans kq g6;have hr6:=hr.kp k6;obtain ⟨r0,rz0,r1,rz1⟩:=(show BK w6 (w.heap.size+3) #[.float .f64 0,.float .f64 0] _ from hr6).c2;skip;have c60:=kkeep k6 xw0;have c61:=kkeep k6 xw1;have c62:=kkeep k6 xw2;have c63:=kkeep k6 xw3;have c64:=kkeep k6 xw4;have c65:=kkeep k6 xw5) | (go_at_call 43;refine (hsub _ (Kp.trans kw (Kp.drew (Kp.refl _)))).mono ?_;rintro e w5 ⟨rfl,g5⟩;have k5:Kp W w5:=Kp.trans (Kp.drew (Kp.refl _)) g5;have c50:=kkeep k5 xw0;have c51:=kkeep k5 xw1;have c52:=kkeep k5 xw2;have c53:=kkeep k5 xw3;have c54:=kkeep k5 xw4;have c55:=kkeep k5 xw5;have kq:Kp W (w5.alloc (.cells #[.float .f64 S1,.float .f64 S2] 29)):=k5.alloc _;have ca0:=kkeep kq xw0;have ca1:=kkeep kq xw1;have ca2:=kkeep kq xw2;have ca3:=kkeep kq xw3;have ca4:=kkeep kq xw4;have ca5:=kkeep kq xw5))
 go_wp2
 exact BR (v:=.agg #[.float .f64 Z1,.float .f64 Z2]) (by simp [results,Tryz.results11,go_sem,r0,r1]) rfl ⟨rfl,(((Kp.trans kw k6).setCell (by first | omega | (simp <;> omega)) _).setCell (by first | omega | (simp <;> omega)) _)⟩
set_option linter.unusedVariables false
set_option linter.unusedSimpArgs false

theorem an_prog (L H Lc Hc Lb Hb:Int) (dx:VdZ L H) (dc:VdZ Lc Hc) (db:VdZ Lb Hb) :
  VdZ (iL L H (aLo Lc Hc (-Hb) (-Lb)) (aHi Lc Hc (-Hb) (-Lb))) (iH L H (aLo Lc Hc (-Hb) (-Lb)) (aHi Lc Hc (-Hb) (-Lb))) ∧
  (iL L H (aLo Lc Hc (-Hb) (-Lb)) (aHi Lc Hc (-Hb) (-Lb))=iH L H (aLo Lc Hc (-Hb) (-Lb)) (aHi Lc Hc (-Hb) (-Lb))→Lb≠9218868437227405312∧-9218868437227405312<iL L H (aLo Lc Hc (-Hb) (-Lb)) (aHi Lc Hc (-Hb) (-Lb))∧iL L H (aLo Lc Hc (-Hb) (-Lb)) (aHi Lc Hc (-Hb) (-Lb))<9218868437227405312) ∧
  ((iL L H (aLo Lc Hc (-Hb) (-Lb)) (aHi Lc Hc (-Hb) (-Lb))=iH L H (aLo Lc Hc (-Hb) (-Lb)) (aHi Lc Hc (-Hb) (-Lb))∧¬ hasP (iL L H (aLo Lc Hc (-Hb) (-Lb)) (aHi Lc Hc (-Hb) (-Lb))) Lb Hb Lc Hc→anL L H Lc Hc (-Hb) (-Lb)=9218868437227405312∧anH L H Lc Hc (-Hb) (-Lb) = -9218868437227405312) ∧
  (¬ (iL L H (aLo Lc Hc (-Hb) (-Lb)) (aHi Lc Hc (-Hb) (-Lb))=iH L H (aLo Lc Hc (-Hb) (-Lb)) (aHi Lc Hc (-Hb) (-Lb))∧¬ hasP (iL L H (aLo Lc Hc (-Hb) (-Lb)) (aHi Lc Hc (-Hb) (-Lb))) Lb Hb Lc Hc)→anL L H Lc Hc (-Hb) (-Lb)=iL L H (aLo Lc Hc (-Hb) (-Lb)) (aHi Lc Hc (-Hb) (-Lb))∧anH L H Lc Hc (-Hb) (-Lb)=iH L H (aLo Lc Hc (-Hb) (-Lb)) (aHi Lc Hc (-Hb) (-Lb)))):=by
 have dn:=vd_neg Lb Hb db
 by_cases c:anN L Lc (-Hb)
 ·have e:iL L H (aLo Lc Hc (-Hb) (-Lb)) (aHi Lc Hc (-Hb) (-Lb))=9218868437227405312∧iH L H (aLo Lc Hc (-Hb) (-Lb)) (aHi Lc Hc (-Hb) (-Lb)) = -9218868437227405312:=by
   have hno:¬ max L (aLo Lc Hc (-Hb) (-Lb))≤min H (aHi Lc Hc (-Hb) (-Lb)):=by
    unfold anN at c
    by_cases c2:Lc=9218868437227405312∨-Hb=9218868437227405312
    ·unfold aLo aHi
     rw [if_pos c2,if_pos c2]
     omega
    ·unfold VdZ at dx
     omega
   unfold iL iH
   rw [if_neg hno,if_neg hno]
   exact ⟨rfl,rfl⟩
  have a1:anL L H Lc Hc (-Hb) (-Lb)=9218868437227405312:=by unfold anL;rw [if_pos c]
  have a2:anH L H Lc Hc (-Hb) (-Lb) = -9218868437227405312:=by unfold anH;rw [if_pos c]
  rw [e.1,e.2,a1,a2]
  exact ⟨Or.inl ⟨rfl,rfl⟩,fun h=>absurd h (by decide),fun h=>absurd h.1 (by decide),fun _=>⟨rfl,rfl⟩⟩
 ·have c1:=c
  unfold anN at c1
  have DX:=dx
  have DC:=dc
  have DB:=db
  unfold VdZ at DX DC DB
  have hx:-9218868437227405312≤L∧L<9218868437227405312∧-9218868437227405312<H∧H≤9218868437227405312∧L≤H:=by omega
  have hB:=b_ok Lc Hc (-Hb) (-Lb) dc dn (by omega) (by omega)
  have k1:=b_lo Lc (-Hb) (by omega) (by omega)
  have k2:=b_hi Hc (-Lb) (by omega) (by omega)
  have e1:aLo Lc Hc (-Hb) (-Lb)=lwB (bI Lc (-Hb)) (bV Lc (-Hb)):=by unfold aLo;rw [if_neg (by omega),k1.1]
  have e2:aHi Lc Hc (-Hb) (-Lb)=upB (bI Hc (-Lb)) (bV Hc (-Lb)):=by unfold aHi;rw [if_neg (by omega),k2.1]
  have a1:anL L H Lc Hc (-Hb) (-Lb)=wiL L H (bI Lc (-Hb)) (bV Lc (-Hb)) (bI Hc (-Lb)) (bV Hc (-Lb)):=by unfold anL;rw [if_neg c]
  have a2:anH L H Lc Hc (-Hb) (-Lb)=wiH L H (bI Lc (-Hb)) (bV Lc (-Hb)) (bI Hc (-Lb)) (bV Hc (-Lb)):=by unfold anH;rw [if_neg c]
  have hp:∀ v,-9218868437227405312<v→v<9218868437227405312→(hasP v Lb Hb Lc Hc ↔ cB v (bI Hc (-Lb)) (bV Hc (-Lb))≤0∧0≤cB v (bI Lc (-Hb)) (bV Lc (-Hb))):=fun v q1 q2 =>
   ⟨fun h=>⟨(has_up v Lb Hc ⟨q1,q2⟩ (by omega) (by omega)).1 h.1,(has_dn v Hb Lc ⟨q1,q2⟩ (by omega) (by omega)).1 h.2⟩,fun h=>⟨(has_up v Lb Hc ⟨q1,q2⟩ (by omega) (by omega)).2 h.1,(has_dn v Hb Lc ⟨q1,q2⟩ (by omega) (by omega)).2 h.2⟩⟩
  have g1:=wi_good L H _ _ _ _ hB hx
  have g2:=wi_bad L H _ _ _ _ hB hx
  have b1:=hB.lw
  have b2:=hB.up
  rw [e1,e2,a1,a2]
  unfold wiL wiH iL iH
  generalize lwB (bI Lc (-Hb)) (bV Lc (-Hb))=P at *
  generalize upB (bI Hc (-Lb)) (bV Hc (-Lb))=Q at *
  by_cases m:max L P≤min H Q
  ·rw [if_pos m,if_pos m]
   have hf:max L P=min H Q→-9218868437227405312<max L P∧max L P<9218868437227405312:=by omega
   refine ⟨by unfold VdZ;omega,fun h=>⟨by omega,hf h⟩,fun h=>?_,fun h=>?_⟩
   ·have f9:=hf h.1
    by_cases w9:wiB L H (bI Lc (-Hb)) (bV Lc (-Hb)) (bI Hc (-Lb)) (bV Hc (-Lb))
    ·rw [if_pos w9,if_pos w9];exact ⟨rfl,rfl⟩
    ·exact absurd ((hp _ f9.1 f9.2).2 ((g1 w9).2 h.1)) h.2
   ·by_cases w9:wiB L H (bI Lc (-Hb)) (bV Lc (-Hb)) (bI Hc (-Lb)) (bV Hc (-Lb))
    ·exfalso
     have g3:=g2 w9 m
     have f9:=hf g3.1
     refine h ⟨g3.1,fun h2=>?_⟩
     have h3:=(hp _ f9.1 f9.2).1 h2
     omega
    ·rw [if_neg w9,if_neg w9];exact ⟨rfl,rfl⟩
  ·rw [if_neg m,if_neg m]
   have w9:wiB L H (bI Lc (-Hb)) (bV Lc (-Hb)) (bI Hc (-Lb)) (bV Hc (-Lb)):=Decidable.byContradiction (fun q=>m (g1 q).1)
   rw [if_pos w9,if_pos w9]
   exact ⟨Or.inl ⟨rfl,rfl⟩,fun h=>absurd h (by decide),fun h=>absurd h.1 (by decide),fun _=>⟨rfl,rfl⟩⟩
theorem paddrev9_ (K:Nat) (hK:K=1074) (a b c d e f:Nat) (Lb Hb Lc Hc L H:Int) (rb:Rd a b Lb Hb) (rc:Rd c d Lc Hc) (rx:Rd e f L H) (w:World) (hT:TT w):Calls Tryz.prog 11 #[.agg #[.float .f64 a,.float .f64 b],.agg #[.float .f64 c,.float .f64 d],.agg #[.float .f64 e,.float .f64 f]] w fun r w'=>r=.returned (.agg #[.float .f64 (pw (anL L H Lc Hc (-Hb) (-Lb))),.float .f64 (pw (anH L H Lc Hc (-Hb) (-Lb)))])∧Kp w w':=by
 have db:=rb.vd
 have dc:=rc.vd
 obtain ⟨hy,h1,h2,h3⟩:=an_prog L H Lc Hc Lb Hb rx.vd dc db
 refine addrev9_ a b c d e f (pw Lb) (pw Hb) (pw Lc) (pw Hc) (pw (aLo Lc Hc (-Hb) (-Lb))) (pw (aHi Lc Hc (-Hb) (-Lb))) _ _ w rb.call rc.call (fun W k=>sub9_ _ _ _ _ Lc Hc Lb Hb (Rd.of dc) (Rd.of db) W (hT.kp k)) (fun W g k hB hC hP=>?_)
 have hp:VdZ (aLo Lc Hc (-Hb) (-Lb)) (aHi Lc Hc (-Hb) (-Lb)):=by
  have dn:=vd_neg Lb Hb db
  unfold VdZ at dc dn
  unfold aLo aHi
  by_cases c2:Lc=9218868437227405312∨-Hb=9218868437227405312
  ·rw [if_pos c2,if_pos c2];exact Or.inl ⟨rfl,rfl⟩
  ·rw [if_neg c2,if_neg c2]
   have k1:=b_lo Lc (-Hb) (by omega) (by omega)
   have k2:=b_hi Hc (-Lb) (by omega) (by omega)
   have hB:=b_ok Lc Hc (-Hb) (-Lb) rc.vd (vd_neg Lb Hb db) (by omega) (by omega)
   have b1:=hB.lw
   have b2:=hB.up
   have b3:=lw_up _ _ _ _ hB
   rw [k1.1] at b1 b3
   rw [k2.1] at b2 b3
   unfold VdZ
   omega
 have vE:VdZ 9218868437227405312 (-9218868437227405312):=Or.inl ⟨rfl,rfl⟩
 have YB:=hy
 unfold VdZ at YB
 have q:=left9_ e f w.heap.size (w.heap.size+1) (some ⟨g,0,none⟩) 1 1 (by decide) (fun _=>pw (aLo Lc Hc (-Hb) (-Lb))) (fun _=>pw (aHi Lc Hc (-Hb) (-Lb))) (fun _=>pw (iL L H (aLo Lc Hc (-Hb) (-Lb)) (aHi Lc Hc (-Hb) (-Lb)))) (fun _=>pw (iH L H (aLo Lc Hc (-Hb) (-Lb)) (aHi Lc Hc (-Hb) (-Lb)))) (fun j=>match j with | 0=>9218868437227405312 | _=>pw (anL L H Lc Hc (-Hb) (-Lb))) (fun j=>match j with | 0=>18442240474082181120 | _=>pw (anH L H Lc Hc (-Hb) (-Lb))) (fun _=>decide ((iL L H (aLo Lc Hc (-Hb) (-Lb)) (aHi Lc Hc (-Hb) (-Lb)))=(iH L H (aLo Lc Hc (-Hb) (-Lb)) (aHi Lc Hc (-Hb) (-Lb))))) (fun _=>decide (hasP (iL L H (aLo Lc Hc (-Hb) (-Lb)) (aHi Lc Hc (-Hb) (-Lb))) Lb Hb Lc Hc)) W
  (Or.inr ⟨g,0,rfl,hP.lt,fun j hj=>by obtain rfl:j=0:=(by omega);exact ⟨(hP.cell 0).trans rfl,(hP.cell 1).trans rfl⟩⟩) ⟨rfl,rfl⟩ empty9_
  (fun j hj W2=>meet9_ e f _ _ L H _ _ rx (Rd.of hp) W2) (fun j hj W2=>single9_ _ _ _ _ (Rd.of hy) W2)
  (fun j hj hk W2 k2=>by
   have hs:=h1 (of_decide_eq_true hk)
   exact has9_ _ _ _ _ _ _ _ _ W2 (hB.kp k2) (hC.kp k2) (fun W3 k3=>meets9_ K hK (iL L H (aLo Lc Hc (-Hb) (-Lb)) (aHi Lc Hc (-Hb) (-Lb))) Lb Hb Lc Hc hs.2 db dc hs.1 W3 (((hT.kp k).kp k2).kp k3)))
  (fun j hj=>by
   obtain rfl:j=0:=by omega
   by_cases s9:(iL L H (aLo Lc Hc (-Hb) (-Lb)) (aHi Lc Hc (-Hb) (-Lb)))=(iH L H (aLo Lc Hc (-Hb) (-Lb)) (aHi Lc Hc (-Hb) (-Lb)))∧¬ hasP (iL L H (aLo Lc Hc (-Hb) (-Lb)) (aHi Lc Hc (-Hb) (-Lb))) Lb Hb Lc Hc
   ·have e9:=h2 s9
    exact Or.inr ⟨decide_eq_true s9.1,decide_eq_false s9.2,by show pw (anL L H Lc Hc (-Hb) (-Lb))=9218868437227405312;rw [e9.1];exact pw_I,by show pw (anH L H Lc Hc (-Hb) (-Lb))=18442240474082181120;rw [e9.2];exact pw_MI⟩
   ·have e9:=h3 s9
    refine Or.inl ⟨?_,fun W2=>?_⟩
    ·by_cases s8:(iL L H (aLo Lc Hc (-Hb) (-Lb)) (aHi Lc Hc (-Hb) (-Lb)))=(iH L H (aLo Lc Hc (-Hb) (-Lb)) (aHi Lc Hc (-Hb) (-Lb)))
     ·exact Or.inr (decide_eq_true (Decidable.byContradiction (fun h=>s9 ⟨s8,h⟩)))
     ·exact Or.inl (decide_eq_false s8)
    ·have hh:=hull9_ (pw 9218868437227405312) (pw (-9218868437227405312)) _ _ _ _ _ _ (Rd.of vE) (Rd.of hy) W2
     rw [show min 9218868437227405312 (iL L H (aLo Lc Hc (-Hb) (-Lb)) (aHi Lc Hc (-Hb) (-Lb)))=(iL L H (aLo Lc Hc (-Hb) (-Lb)) (aHi Lc Hc (-Hb) (-Lb))) from by omega,show max (-9218868437227405312) (iH L H (aLo Lc Hc (-Hb) (-Lb)) (aHi Lc Hc (-Hb) (-Lb)))=(iH L H (aLo Lc Hc (-Hb) (-Lb)) (aHi Lc Hc (-Hb) (-Lb))) from by omega,pw_I,pw_MI,← e9.1,← e9.2] at hh
     rw [← e9.1,← e9.2]
     exact hh)
 exact q
set_option linter.unusedVariables false
set_option linter.unusedSimpArgs false
theorem piece9_ (ia Va ib Vb:Int) (hia:ia=0∨Va=0) (hib:ib=0∨Vb=0) s p l c q k d s2 p2 l2 c2 q2 k2 d2 (w:World) (h1:VP 0 w s p l c q k d Va) (h2:VP 0 w s2 p2 l2 c2 q2 k2 d2 Vb):Calls Tryz.prog 45 #[.agg #[.bool false,.int .i64 ia,.bool s,.slice p l c,.slice q k d,.int .i64 ib,.bool s2,.slice p2 l2 c2,.slice q2 k2 d2]] w fun e w'=>∃ v,e=.returned v∧PCv ia Va (decide (ia≠0)) ib Vb (decide (ib≠0)) w' v∧Kp w w':=by
 go_enter Tryz.func45,Tryz.ntmps45
 go_upto_region 3 with fail
 have kw:Kp w ((w.alloc (.cells #[.bool false,.int .i64 ia,.bool s,.slice p l c,.slice q k d,.int .i64 ib,.bool s2,.slice p2 l2 c2,.slice q2 k2 d2] 66)).alloc (.cells #[.bool false,.int .i64 0,.bool false,.slice none 0 0,.slice none 0 0,.int .i64 0,.bool false,.int .i64 0,.bool false,.slice none 0 0,.slice none 0 0,.int .i64 0,.bool false] 61)):=((Kp.refl w).alloc _).alloc _
 have hS:BK ((w.alloc (.cells #[.bool false,.int .i64 ia,.bool s,.slice p l c,.slice q k d,.int .i64 ib,.bool s2,.slice p2 l2 c2,.slice q2 k2 d2] 66)).alloc (.cells #[.bool false,.int .i64 0,.bool false,.slice none 0 0,.slice none 0 0,.int .i64 0,.bool false,.int .i64 0,.bool false,.slice none 0 0,.slice none 0 0,.int .i64 0,.bool false] 61)) w.heap.size #[.bool false,.int .i64 ia,.bool s,.slice p l c,.slice q k d,.int .i64 ib,.bool s2,.slice p2 l2 c2,.slice q2 k2 d2] 66:=(BK.new w #[.bool false,.int .i64 ia,.bool s,.slice p l c,.slice q k d,.int .i64 ib,.bool s2,.slice p2 l2 c2,.slice q2 k2 d2] 66).kp ((Kp.refl _).alloc _)
 have hP:BK ((w.alloc (.cells #[.bool false,.int .i64 ia,.bool s,.slice p l c,.slice q k d,.int .i64 ib,.bool s2,.slice p2 l2 c2,.slice q2 k2 d2] 66)).alloc (.cells #[.bool false,.int .i64 0,.bool false,.slice none 0 0,.slice none 0 0,.int .i64 0,.bool false,.int .i64 0,.bool false,.slice none 0 0,.slice none 0 0,.int .i64 0,.bool false] 61)) (w.heap.size+1) #[.bool false,.int .i64 0,.bool false,.slice none 0 0,.slice none 0 0,.int .i64 0,.bool false,.int .i64 0,.bool false,.slice none 0 0,.slice none 0 0,.int .i64 0,.bool false] 61:=BK.newAt (by simp) _ _
 generalize hW:((w.alloc (.cells #[.bool false,.int .i64 ia,.bool s,.slice p l c,.slice q k d,.int .i64 ib,.bool s2,.slice p2 l2 c2,.slice q2 k2 d2] 66)).alloc (.cells #[.bool false,.int .i64 0,.bool false,.slice none 0 0,.slice none 0 0,.int .i64 0,.bool false,.int .i64 0,.bool false,.slice none 0 0,.slice none 0 0,.int .i64 0,.bool false] 61))=W at kw hS hP ⊢
 clear hW
 have xw0:W.cell? ⟨w.heap.size,1,none⟩=some (.int .i64 ia):=(hS.cell 1).trans rfl
 have dw0:W.drew.cell? ⟨w.heap.size,1,none⟩=some (.int .i64 ia):=xw0
 have xw1:W.cell? ⟨w.heap.size,2,none⟩=some (.bool s):=(hS.cell 2).trans rfl
 have dw1:W.drew.cell? ⟨w.heap.size,2,none⟩=some (.bool s):=xw1
 have xw2:W.cell? ⟨w.heap.size,3,none⟩=some (.slice p l c):=(hS.cell 3).trans rfl
 have dw2:W.drew.cell? ⟨w.heap.size,3,none⟩=some (.slice p l c):=xw2
 have xw3:W.cell? ⟨w.heap.size,4,none⟩=some (.slice q k d):=(hS.cell 4).trans rfl
 have dw3:W.drew.cell? ⟨w.heap.size,4,none⟩=some (.slice q k d):=xw3
 have xw4:W.cell? ⟨w.heap.size,5,none⟩=some (.int .i64 ib):=(hS.cell 5).trans rfl
 have dw4:W.drew.cell? ⟨w.heap.size,5,none⟩=some (.int .i64 ib):=xw4
 have xw5:W.cell? ⟨w.heap.size,6,none⟩=some (.bool s2):=(hS.cell 6).trans rfl
 have dw5:W.drew.cell? ⟨w.heap.size,6,none⟩=some (.bool s2):=xw5
 have xw6:W.cell? ⟨w.heap.size,7,none⟩=some (.slice p2 l2 c2):=(hS.cell 7).trans rfl
 have dw6:W.drew.cell? ⟨w.heap.size,7,none⟩=some (.slice p2 l2 c2):=xw6
 have xw7:W.cell? ⟨w.heap.size,8,none⟩=some (.slice q2 k2 d2):=(hS.cell 8).trans rfl
 have dw7:W.drew.cell? ⟨w.heap.size,8,none⟩=some (.slice q2 k2 d2):=xw7
 have hn1:w.heap.size+1≠w.heap.size:=by omega
 go_region_held3 (fun w'=>w'.cell? ⟨w.heap.size,1,none⟩=some (.int .i64 ia)∧w'.cell? ⟨w.heap.size,2,none⟩=some (.bool s)∧w'.cell? ⟨w.heap.size,3,none⟩=some (.slice p l c)∧w'.cell? ⟨w.heap.size,4,none⟩=some (.slice q k d)∧w'.cell? ⟨w.heap.size,5,none⟩=some (.int .i64 ib)∧w'.cell? ⟨w.heap.size,6,none⟩=some (.bool s2)∧w'.cell? ⟨w.heap.size,7,none⟩=some (.slice p2 l2 c2)∧w'.cell? ⟨w.heap.size,8,none⟩=some (.slice q2 k2 d2)) (first | (with_reducible exact ⟨xw0,xw1,xw2,xw3,xw4,xw5,xw6,xw7⟩) | (with_reducible exact ⟨dw0,dw1,dw2,dw3,dw4,dw5,dw6,dw7⟩) | (with_reducible exact ⟨wA0,wA1,wA2,wA3,wA4,wA5,wA6,wA7⟩) | (with_reducible exact ⟨wB0,wB1,wB2,wB3,wB4,wB5,wB6,wB7⟩) | (exact ⟨(CF13 hn1 wB0),(CF13 hn1 wB1),(CF13 hn1 wB2),(CF13 hn1 wB3),(CF13 hn1 wB4),(CF13 hn1 wB5),(CF13 hn1 wB6),(CF13 hn1 wB7)⟩)) (first | (have z9:=kA;go_at_call 102;refine (bnd9_ ib Vb s2 p2 l2 c2 q2 k2 d2 hib 0 _ (h2.kp (Kp.trans kw kA))).mono ?_;rintro e wB ⟨s6,p6,l6,c6,q6,k6,d6,rfl,hB,gB⟩;have kB:Kp W wB:=Kp.trans kA gB;have hR:=hP.kp kB;obtain ⟨r0,rz0,r1,rz1,r2,rz2,r3,rz3,r4,rz4,r5,rz5,r6,rz6,r7,rz7,r8,rz8,r9,rz9,r10,rz10,r11,rz11,r12,rz12⟩:=(show BK wB (w.heap.size+1) #[.bool false,.int .i64 0,.bool false,.slice none 0 0,.slice none 0 0,.int .i64 0,.bool false,.int .i64 0,.bool false,.slice none 0 0,.slice none 0 0,.int .i64 0,.bool false] _ from hR).c13;skip;have wB0:=kkeep kB xw0;have wB1:=kkeep kB xw1;have wB2:=kkeep kB xw2;have wB3:=kkeep kB xw3;have wB4:=kkeep kB xw4;have wB5:=kkeep kB xw5;have wB6:=kkeep kB xw6;have wB7:=kkeep kB xw7) | (go_at_call 102;refine (bnd9_ ia Va s p l c q k d hia 0 _ (h1.kp kw.drew)).mono ?_;rintro e wA ⟨s5,p5,l5,c5,q5,k5,d5,rfl,hA,gA⟩;have kA:Kp W wA:=Kp.trans (Kp.drew (Kp.refl _)) gA;have wA0:=kkeep kA xw0;have wA1:=kkeep kA xw1;have wA2:=kkeep kA xw2;have wA3:=kkeep kA xw3;have wA4:=kkeep kA xw4;have wA5:=kkeep kA xw5;have wA6:=kkeep kA xw6;have wA7:=kkeep kA xw7))
 all_goals (
  go_wp2
  have hA2:=hA.kp gB
  exact BR (v:=.agg #[.bool false,.int .i64 ia,.bool s5,.slice p5 l5 c5,.slice q5 k5 d5,.int .i64 1,.bool (decide (ia≠0)),.int .i64 ib,.bool s6,.slice p6 l6 c6,.slice q6 k6 d6,.int .i64 1,.bool (decide (ib≠0))]) (by simp [results,Tryz.results45,go_sem,r0,r1,r2,r3,r4,r5,r6,r7,r8,r9,r10,r11,r12]) rfl ⟨_,rfl,⟨s5,p5,l5,c5,q5,k5,d5,s6,p6,l6,c6,q6,k6,d6,rfl,(((((((((((((hA2.setB hR (by decide) 0 _).setB (hR.put 0 _) (by decide) 1 _).setB ((hR.put 0 _).put 1 _) (by decide) 2 _).setB (((hR.put 0 _).put 1 _).put 2 _) (by decide) 3 _).setB ((((hR.put 0 _).put 1 _).put 2 _).put 3 _) (by decide) 4 _).setB (((((hR.put 0 _).put 1 _).put 2 _).put 3 _).put 4 _) (by decide) 5 _).setB ((((((hR.put 0 _).put 1 _).put 2 _).put 3 _).put 4 _).put 5 _) (by decide) 6 _).setB (((((((hR.put 0 _).put 1 _).put 2 _).put 3 _).put 4 _).put 5 _).put 6 _) (by decide) 7 _).setB ((((((((hR.put 0 _).put 1 _).put 2 _).put 3 _).put 4 _).put 5 _).put 6 _).put 7 _) (by decide) 8 _).setB (((((((((hR.put 0 _).put 1 _).put 2 _).put 3 _).put 4 _).put 5 _).put 6 _).put 7 _).put 8 _) (by decide) 9 _).setB ((((((((((hR.put 0 _).put 1 _).put 2 _).put 3 _).put 4 _).put 5 _).put 6 _).put 7 _).put 8 _).put 9 _) (by decide) 10 _).setB (((((((((((hR.put 0 _).put 1 _).put 2 _).put 3 _).put 4 _).put 5 _).put 6 _).put 7 _).put 8 _).put 9 _).put 10 _) (by decide) 11 _).setB ((((((((((((hR.put 0 _).put 1 _).put 2 _).put 3 _).put 4 _).put 5 _).put 6 _).put 7 _).put 8 _).put 9 _).put 10 _).put 11 _) (by decide) 12 _),(((((((((((((hB.setB hR (by decide) 0 _).setB (hR.put 0 _) (by decide) 1 _).setB ((hR.put 0 _).put 1 _) (by decide) 2 _).setB (((hR.put 0 _).put 1 _).put 2 _) (by decide) 3 _).setB ((((hR.put 0 _).put 1 _).put 2 _).put 3 _) (by decide) 4 _).setB (((((hR.put 0 _).put 1 _).put 2 _).put 3 _).put 4 _) (by decide) 5 _).setB ((((((hR.put 0 _).put 1 _).put 2 _).put 3 _).put 4 _).put 5 _) (by decide) 6 _).setB (((((((hR.put 0 _).put 1 _).put 2 _).put 3 _).put 4 _).put 5 _).put 6 _) (by decide) 7 _).setB ((((((((hR.put 0 _).put 1 _).put 2 _).put 3 _).put 4 _).put 5 _).put 6 _).put 7 _) (by decide) 8 _).setB (((((((((hR.put 0 _).put 1 _).put 2 _).put 3 _).put 4 _).put 5 _).put 6 _).put 7 _).put 8 _) (by decide) 9 _).setB ((((((((((hR.put 0 _).put 1 _).put 2 _).put 3 _).put 4 _).put 5 _).put 6 _).put 7 _).put 8 _).put 9 _) (by decide) 10 _).setB (((((((((((hR.put 0 _).put 1 _).put 2 _).put 3 _).put 4 _).put 5 _).put 6 _).put 7 _).put 8 _).put 9 _).put 10 _) (by decide) 11 _).setB ((((((((((((hR.put 0 _).put 1 _).put 2 _).put 3 _).put 4 _).put 5 _).put 6 _).put 7 _).put 8 _).put 9 _).put 10 _).put 11 _) (by decide) 12 _)⟩,KS13 ((Kp.trans kw kB)) (by first | omega | (simp <;> omega))⟩)
set_option linter.unusedVariables false
set_option linter.unusedSimpArgs false
theorem whole9_ (o9:Bool) (w:World):Calls Tryz.prog 61 #[.int .i64 0,.bool o9] w fun e w'=>∃ s p l c q k d,e=.returned (.agg #[.int .i64 0,.bool s,.slice p l c,.slice q k d,.int .i64 1,.bool o9])∧VP 0 w' s p l c q k d 0∧Kp w w':=by
 go_enter Tryz.func61,Tryz.ntmps61
 go_wp2_with (first | (go_at_call 118;refine (int0_ _).mono ?_;rintro e w1 ⟨s,p,l,c,q,k,d,rfl,hp,g1⟩;have hB:=(BK.new w #[.int .i64 0,.bool false,.slice none 0 0,.slice none 0 0,.int .i64 0,.bool false] 59).kp g1;obtain ⟨r0,rz0,r1,rz1,r2,rz2,r3,rz3,r4,rz4,r5,rz5⟩:=(show BK w1 (w.heap.size) #[.int .i64 0,.bool false,.slice none 0 0,.slice none 0 0,.int .i64 0,.bool false] _ from hB).c6;skip))
 have hv:VP 0 w1 s p l c q k d 0:=iv0_ ▸ (hp.vp).mono (Nat.zero_le _)
 exact BR (v:=.agg #[.int .i64 0,.bool s,.slice p l c,.slice q k d,.int .i64 1,.bool o9]) (by simp [results,Tryz.results61,go_sem,r0,r1,r2,r3,r4,r5]) rfl ⟨s,p,l,c,q,k,d,rfl,((((((hv.setB hB (by decide) 0 _).setB (hB.put 0 _) (by decide) 1 _).setB ((hB.put 0 _).put 1 _) (by decide) 2 _).setB (((hB.put 0 _).put 1 _).put 2 _) (by decide) 3 _).setB ((((hB.put 0 _).put 1 _).put 2 _).put 3 _) (by decide) 4 _).setB (((((hB.put 0 _).put 1 _).put 2 _).put 3 _).put 4 _) (by decide) 5 _),KS6 ((Kp.trans ((Kp.refl w).alloc _) g1)) (Nat.le_refl _)⟩
theorem nothing9_ (w:World):Calls Tryz.prog 101 #[] w fun e w'=>∃ (s5:Bool) (p5:Option Addr) (l5 c5:Nat) (q5:Option Addr) (k5 d5:Nat) (s6:Bool) (p6:Option Addr) (l6 c6:Nat) (q6:Option Addr) (k6 d6:Nat),e=.returned (.agg #[.bool true,.int .i64 0,.bool s5,.slice p5 l5 c5,.slice q5 k5 d5,.int .i64 1,.bool false,.int .i64 0,.bool s6,.slice p6 l6 c6,.slice q6 k6 d6,.int .i64 1,.bool false])∧Kp w w':=by
 go_enter Tryz.func101,Tryz.ntmps101
 go_upto_region 1 with fail
 have kw:Kp w (w.alloc (.cells #[.bool false,.int .i64 0,.bool false,.slice none 0 0,.slice none 0 0,.int .i64 0,.bool false,.int .i64 0,.bool false,.slice none 0 0,.slice none 0 0,.int .i64 0,.bool false] 61)):=(Kp.refl w).alloc _
 have hB:BK (w.alloc (.cells #[.bool false,.int .i64 0,.bool false,.slice none 0 0,.slice none 0 0,.int .i64 0,.bool false,.int .i64 0,.bool false,.slice none 0 0,.slice none 0 0,.int .i64 0,.bool false] 61)) w.heap.size #[.bool false,.int .i64 0,.bool false,.slice none 0 0,.slice none 0 0,.int .i64 0,.bool false,.int .i64 0,.bool false,.slice none 0 0,.slice none 0 0,.int .i64 0,.bool false] 61:=BK.new _ _ _
 generalize (w.alloc (.cells #[.bool false,.int .i64 0,.bool false,.slice none 0 0,.slice none 0 0,.int .i64 0,.bool false,.int .i64 0,.bool false,.slice none 0 0,.slice none 0 0,.int .i64 0,.bool false] 61))=W at kw hB ⊢
 obtain ⟨q0,qz0,q1,qz1,q2,qz2,q3,qz3,q4,qz4,q5,qz5,q6,qz6,q7,qz7,q8,qz8,q9,qz9,q10,qz10,q11,qz11,q12,qz12⟩:=(show BK W (w.heap.size) #[.bool false,.int .i64 0,.bool false,.slice none 0 0,.slice none 0 0,.int .i64 0,.bool false,.int .i64 0,.bool false,.slice none 0 0,.slice none 0 0,.int .i64 0,.bool false] _ from hB).c13;skip
 go_wp2_with (first | (have z9:=k1;clear z9;go_at_call 61;refine (whole9_ false _).mono ?_;rintro e w2 ⟨s6,p6,l6,c6,q6,k6,d6,rfl,v2,g2⟩;have k2:Kp W w2:=Kp.trans k1 g2;have hB2:=hB.kp k2;obtain ⟨r0,rz0,r1,rz1,r2,rz2,r3,rz3,r4,rz4,r5,rz5,r6,rz6,r7,rz7,r8,rz8,r9,rz9,r10,rz10,r11,rz11,r12,rz12⟩:=(show BK w2 (w.heap.size) #[.bool false,.int .i64 0,.bool false,.slice none 0 0,.slice none 0 0,.int .i64 0,.bool false,.int .i64 0,.bool false,.slice none 0 0,.slice none 0 0,.int .i64 0,.bool false] _ from hB2).c13;skip) | (go_at_call 61;refine (whole9_ false _).mono ?_;rintro e w1 ⟨s5,p5,l5,c5,q5,k5,d5,rfl,v1,g1⟩;have hB1:=hB.kp g1;have k1:Kp W w1:=g1;obtain ⟨r0,rz0,r1,rz1,r2,rz2,r3,rz3,r4,rz4,r5,rz5,r6,rz6,r7,rz7,r8,rz8,r9,rz9,r10,rz10,r11,rz11,r12,rz12⟩:=(show BK w1 (w.heap.size) #[.bool false,.int .i64 0,.bool false,.slice none 0 0,.slice none 0 0,.int .i64 0,.bool false,.int .i64 0,.bool false,.slice none 0 0,.slice none 0 0,.int .i64 0,.bool false] _ from hB1).c13;skip))
 exact BR (v:=.agg #[.bool true,.int .i64 0,.bool s5,.slice p5 l5 c5,.slice q5 k5 d5,.int .i64 1,.bool false,.int .i64 0,.bool s6,.slice p6 l6 c6,.slice q6 k6 d6,.int .i64 1,.bool false]) (by simp [results,Tryz.results101,go_sem,r0,r1,r2,r3,r4,r5,r6,r7,r8,r9,r10,r11,r12]) rfl ⟨s5,p5,l5,c5,q5,k5,d5,s6,p6,l6,c6,q6,k6,d6,rfl,KS13 ((Kp.trans kw k2)) (by first | omega | (simp <;> omega))⟩
theorem pieceN9_ (a1 a2 a3 a4 a5 a6 a7 a8:Value) (w:World):Calls Tryz.prog 45 #[.agg #[.bool true,a1,a2,a3,a4,a5,a6,a7,a8]] w fun e w'=>∃ (s5:Bool) (p5:Option Addr) (l5 c5:Nat) (q5:Option Addr) (k5 d5:Nat) (s6:Bool) (p6:Option Addr) (l6 c6:Nat) (q6:Option Addr) (k6 d6:Nat),e=.returned (.agg #[.bool true,.int .i64 0,.bool s5,.slice p5 l5 c5,.slice q5 k5 d5,.int .i64 1,.bool false,.int .i64 0,.bool s6,.slice p6 l6 c6,.slice q6 k6 d6,.int .i64 1,.bool false])∧Kp w w':=by
 go_enter Tryz.func45,Tryz.ntmps45
 go_upto_region 1 with fail
 have kw:Kp w ((w.alloc (.cells #[.bool true,a1,a2,a3,a4,a5,a6,a7,a8] 66)).alloc (.cells #[.bool false,.int .i64 0,.bool false,.slice none 0 0,.slice none 0 0,.int .i64 0,.bool false,.int .i64 0,.bool false,.slice none 0 0,.slice none 0 0,.int .i64 0,.bool false] 61)):=((Kp.refl w).alloc _).alloc _
 have hS:BK ((w.alloc (.cells #[.bool true,a1,a2,a3,a4,a5,a6,a7,a8] 66)).alloc (.cells #[.bool false,.int .i64 0,.bool false,.slice none 0 0,.slice none 0 0,.int .i64 0,.bool false,.int .i64 0,.bool false,.slice none 0 0,.slice none 0 0,.int .i64 0,.bool false] 61)) w.heap.size #[.bool true,a1,a2,a3,a4,a5,a6,a7,a8] 66:=(BK.new w _ _).kp ((Kp.refl _).alloc _)
 have hB:BK ((w.alloc (.cells #[.bool true,a1,a2,a3,a4,a5,a6,a7,a8] 66)).alloc (.cells #[.bool false,.int .i64 0,.bool false,.slice none 0 0,.slice none 0 0,.int .i64 0,.bool false,.int .i64 0,.bool false,.slice none 0 0,.slice none 0 0,.int .i64 0,.bool false] 61)) (w.heap.size+1) #[.bool false,.int .i64 0,.bool false,.slice none 0 0,.slice none 0 0,.int .i64 0,.bool false,.int .i64 0,.bool false,.slice none 0 0,.slice none 0 0,.int .i64 0,.bool false] 61:=BK.newAt (by simp) _ _
 generalize ((w.alloc (.cells #[.bool true,a1,a2,a3,a4,a5,a6,a7,a8] 66)).alloc (.cells #[.bool false,.int .i64 0,.bool false,.slice none 0 0,.slice none 0 0,.int .i64 0,.bool false,.int .i64 0,.bool false,.slice none 0 0,.slice none 0 0,.int .i64 0,.bool false] 61))=W at kw hS hB ⊢
 have s0:W.cell? ⟨w.heap.size,0,none⟩=some (.bool true):=(hS.cell 0).trans rfl;have sz0:=hS.frozen 0;obtain ⟨q0,qz0,q1,qz1,q2,qz2,q3,qz3,q4,qz4,q5,qz5,q6,qz6,q7,qz7,q8,qz8,q9,qz9,q10,qz10,q11,qz11,q12,qz12⟩:=(show BK W (w.heap.size+1) #[.bool false,.int .i64 0,.bool false,.slice none 0 0,.slice none 0 0,.int .i64 0,.bool false,.int .i64 0,.bool false,.slice none 0 0,.slice none 0 0,.int .i64 0,.bool false] _ from hB).c13;skip
 go_wp2_with (first | (go_at_call 101;refine (nothing9_ _).mono ?_;rintro e w1 ⟨s5,p5,l5,c5,q5,k5,d5,s6,p6,l6,c6,q6,k6,d6,rfl,g1⟩;have hB1:=hB.kp g1;obtain ⟨r0,rz0,r1,rz1,r2,rz2,r3,rz3,r4,rz4,r5,rz5,r6,rz6,r7,rz7,r8,rz8,r9,rz9,r10,rz10,r11,rz11,r12,rz12⟩:=(show BK w1 (w.heap.size+1) #[.bool false,.int .i64 0,.bool false,.slice none 0 0,.slice none 0 0,.int .i64 0,.bool false,.int .i64 0,.bool false,.slice none 0 0,.slice none 0 0,.int .i64 0,.bool false] _ from hB1).c13;skip))
 exact BR (v:=.agg #[.bool true,.int .i64 0,.bool s5,.slice p5 l5 c5,.slice q5 k5 d5,.int .i64 1,.bool false,.int .i64 0,.bool s6,.slice p6 l6 c6,.slice q6 k6 d6,.int .i64 1,.bool false]) (by simp [results,Tryz.results45,go_sem,r0,r1,r2,r3,r4,r5,r6,r7,r8,r9,r10,r11,r12]) rfl ⟨s5,p5,l5,c5,q5,k5,d5,s6,p6,l6,c6,q6,k6,d6,rfl,KS13 ((Kp.trans kw g1)) (by first | omega | (simp <;> omega))⟩
set_option linter.unusedVariables false
set_option linter.unusedSimpArgs false
theorem if_no {c:Bool} {p q:Prop} (h:c=false) (hq:q):if c=true then p else q:=by subst h;exact hq
theorem withN_ (x0 x1 y1 y2 y3 y4 y5 y6 y7 y8 y9 y10 y11 y12:Value) (w:World):Calls Tryz.prog 92 #[.agg #[x0,x1],.agg #[.bool true,y1,y2,y3,y4,y5,y6,y7,y8,y9,y10,y11,y12]] w fun e w'=>e=.returned (.agg #[.int .u64 9218868437227405312,.int .u64 18442240474082181120])∧Kp w w':=by
 go_enter Tryz.func92,Tryz.ntmps92
 go_upto_region 1 with fail
 have kw:Kp w (((w.alloc (.cells #[x0,x1] 24)).alloc (.cells #[.bool true,y1,y2,y3,y4,y5,y6,y7,y8,y9,y10,y11,y12] 61)).alloc (.cells #[.int .u64 0,.int .u64 0] 24)):=(((Kp.refl w).alloc _).alloc _).alloc _
 have hP:BK (((w.alloc (.cells #[x0,x1] 24)).alloc (.cells #[.bool true,y1,y2,y3,y4,y5,y6,y7,y8,y9,y10,y11,y12] 61)).alloc (.cells #[.int .u64 0,.int .u64 0] 24)) (w.heap.size+1) #[.bool true,y1,y2,y3,y4,y5,y6,y7,y8,y9,y10,y11,y12] 61:=(BK.newAt (by simp) _ _).kp ((Kp.refl _).alloc _)
 have hR:BK (((w.alloc (.cells #[x0,x1] 24)).alloc (.cells #[.bool true,y1,y2,y3,y4,y5,y6,y7,y8,y9,y10,y11,y12] 61)).alloc (.cells #[.int .u64 0,.int .u64 0] 24)) (w.heap.size+2) #[.int .u64 0,.int .u64 0] 24:=BK.newAt (by simp) _ _
 generalize (((w.alloc (.cells #[x0,x1] 24)).alloc (.cells #[.bool true,y1,y2,y3,y4,y5,y6,y7,y8,y9,y10,y11,y12] 61)).alloc (.cells #[.int .u64 0,.int .u64 0] 24))=W at kw hP hR ⊢
 have n0:W.cell? ⟨w.heap.size+1,0,none⟩=some (.bool true):=(hP.cell 0).trans rfl
 have jd:Kp W W.drew:=(Kp.refl _).drew
 refine wp_region_held_drew (S:=(fun w':World=>w'.cell? ⟨w.heap.size+1,0,none⟩=some (.bool true))) (by kernel_rfl) (kkeep jd n0) (fun _=>?_)
 refine wpAnyH_take (i:=0) (v:=.pointer (some ⟨w.heap.size+1,0,none⟩)) rfl (by kernel_rfl) (by kernel_rfl) (by kernel_rfl) (fun _ _ _ h=>h) (Or.inl ⟨by rfl,fun w _hS=>rfl⟩) (kkeep jd n0) ?_
 try simp only [Act.put,List.getElem_toArray,List.getElem_cons_zero,List.getElem_cons_succ,List.setIfInBounds_toArray,List.set_cons_zero,List.set_cons_succ]
 refine wpAnyH_take (i:=1) (v:=.bool true) rfl (by kernel_rfl) (by kernel_rfl) (by kernel_rfl) (fun _ _ _ h=>h) (Or.inl ⟨by rfl,fun w _hS=>by simp [go_sem,_hS]⟩) (kkeep jd n0) ?_
 try simp only [Act.put,List.getElem_toArray,List.getElem_cons_zero,List.getElem_cons_succ,List.setIfInBounds_toArray,List.set_cons_zero,List.set_cons_succ]
 refine wpAnyH_take (i:=2) (v:=.bool true) rfl (by kernel_rfl) (by kernel_rfl) (by kernel_rfl) (fun _ _ _ h=>h) (Or.inl ⟨by rfl,fun w _hS=>rfl⟩) (kkeep jd n0) ?_
 try simp only [Act.put,List.getElem_toArray,List.getElem_cons_zero,List.getElem_cons_succ,List.setIfInBounds_toArray,List.set_cons_zero,List.set_cons_succ]
 refine wpAnyH_take (i:=3) (v:=undef) rfl (by kernel_rfl) (by kernel_rfl) (by kernel_rfl) (fun _ _ _ h=>h) (Or.inr ⟨by rfl,rfl⟩) (kkeep jd n0) ?_
 try simp only [Act.put,List.getElem_toArray,List.getElem_cons_zero,List.getElem_cons_succ,List.setIfInBounds_toArray,List.set_cons_zero,List.set_cons_succ]
 refine wpAnyH_ready (rs:=[4]) (by kernel_rfl) (by simp) ?_
 refine AllReadyH.cons rfl (fun K hK=>?_) AllReadyH.nil
 refine if_no (by rfl) ?_
 refine hK.out _ _ (kkeep jd n0) (fun _=>?_)
 clear hK K
 try simp only [Act.put,List.getElem_toArray,List.getElem_cons_zero,List.getElem_cons_succ,List.setIfInBounds_toArray,List.set_cons_zero,List.set_cons_succ]
 refine wpAnyH_take (i:=5) (v:=undef) rfl (by kernel_rfl) (by kernel_rfl) (by kernel_rfl) (fun _ _ _ h=>h) (Or.inr ⟨by rfl,rfl⟩) (kkeep jd n0) ?_
 try simp only [Act.put,List.getElem_toArray,List.getElem_cons_zero,List.getElem_cons_succ,List.setIfInBounds_toArray,List.set_cons_zero,List.set_cons_succ]
 refine wpAnyH_take (i:=6) (v:=.bool true) rfl (by kernel_rfl) (by kernel_rfl) (by kernel_rfl) (fun _ _ _ h=>h) (Or.inl ⟨by rfl,fun w _hS=>rfl⟩) (kkeep jd n0) ?_
 try simp only [Act.put,List.getElem_toArray,List.getElem_cons_zero,List.getElem_cons_succ,List.setIfInBounds_toArray,List.set_cons_zero,List.set_cons_succ]
 refine wpAnyH_done (by kernel_rfl) ?_ _
 replace hR:=hR.kp jd
 replace kw:=Kp.trans kw jd
 obtain ⟨z0,zz0,z1,zz1⟩:=(show BK W.drew (w.heap.size+2) #[.int .u64 0,.int .u64 0] _ from hR).c2;skip
 go_wp2_with (first | (go_at_call 72;refine (rempty9_ _).mono ?_;rintro e w2 ⟨rfl,g2⟩;replace hR:=hR.kp g2;obtain ⟨r0,rz0,r1,rz1⟩:=(show BK w2 (w.heap.size+2) #[.int .u64 0,.int .u64 0] _ from hR).c2;skip))
 exact BR (v:=.agg #[.int .u64 9218868437227405312,.int .u64 18442240474082181120]) (by simp [results,Tryz.results92,go_sem,r0,r1]) rfl ⟨rfl,(((Kp.trans kw g2).setCell (by first | omega | (simp <;> omega)) _).setCell (by first | omega | (simp <;> omega)) _)⟩
end Go.Proofs.YtmpjcknaelgnoaaGreatDoor
