import Derived.Test.YtcfnialfpblfmaaGreatDoorKPQa
set_option maxHeartbeats 1000000
set_option maxRecDepth 20000
namespace Go.Proofs.YtcfnialfpblfmaaGreatDoor
open Go.RowKit
set_option linter.unusedVariables false

def H1c (w:World) (b:Nat) (v0:Value):Prop:=w.cell? ⟨b,0,none⟩=some v0∧w.frozen? ⟨b,0,none⟩=false
theorem H1c.keep {W w:World} {b:Nat} {v0:Value} (h:H1c W b v0) (g:Kp W w):H1c w b v0:=by
 obtain ⟨h0,h1⟩:=h
 exact ⟨kkeep g h0,(kfro g (cell_lt h0)).trans h1⟩
theorem H1c.far1 {w:World} {b:Nat} {v0:Value} (h:H1c w b v0) (x:Addr) (hne:x.block≠b) (u:Value):H1c (w.setCell x u) b v0:=by
 obtain ⟨h0,h1⟩:=h
 exact ⟨(CF _ _ _ _ hne).trans h0,(World.frozen?_setCell _ _ _ _).trans h1⟩

theorem three0 (w:World) (a b s c d:Value) (t u v:TypeId):Fq.H2 (((w.alloc (.cells #[a,b] t)).alloc (.cells #[s] u)).alloc (.cells #[c,d] v)) w.heap.size a b∧H1c (((w.alloc (.cells #[a,b] t)).alloc (.cells #[s] u)).alloc (.cells #[c,d] v)) (w.heap.size+1) s∧Fq.H2 (((w.alloc (.cells #[a,b] t)).alloc (.cells #[s] u)).alloc (.cells #[c,d] v)) (w.heap.size+2) c d:=by
 refine ⟨?_, ?_, ?_⟩
 ·unfold Fq.H2;simp [go_sem]
 ·unfold H1c;simp [go_sem]
 ·unfold Fq.H2;simp [go_sem]
theorem cvK {w w1 w2:World} {a b s c d LO HI:Value} (q0:Fq.H2 w1 w.heap.size a b) (qs:H1c w1 (w.heap.size+1) s) (q1:Fq.H2 w1 (w.heap.size+2) c d) (kw:Kp w w1) (g2:Kp ((w1.setCell ⟨w.heap.size,0,none⟩ LO).setCell ⟨w.heap.size,1,none⟩ HI) w2):Fq.H2 w2 w.heap.size LO HI∧H1c w2 (w.heap.size+1) s∧Fq.H2 w2 (w.heap.size+2) c d∧Kp w w2 :=
 ⟨Fq.H2.keep (Fq.H2.put q0 LO HI) g2,H1c.keep (H1c.far1 (H1c.far1 qs ⟨w.heap.size,0,none⟩ (show w.heap.size≠w.heap.size+1 by omega) _) ⟨w.heap.size,1,none⟩ (show w.heap.size≠w.heap.size+1 by omega) _) g2,Fq.H2.keep (Fq.H2.far q1 (show w.heap.size≠w.heap.size+2 by omega) LO HI) g2,Kp.trans ((kw.setCell (p:=⟨w.heap.size,0,none⟩) (Nat.le_refl _) _).setCell (p:=⟨w.heap.size,1,none⟩) (Nat.le_refl _) _) g2⟩
theorem climbV_ (kk:Nat) (a b LO HI:Nat) (hr:KC 46 #[.agg #[.float .f64 a,.float .f64 b]] (.agg #[.float .f64 LO,.float .f64 HI])) (hv:KC 47 #[.agg #[.float .f64 LO,.float .f64 HI]] (.bool true)) (w:World):Calls Tryz.prog 51 #[.agg #[.float .f64 a,.float .f64 b],.agg #[.func (.func kk) #[] #[]]] w fun e w'=>e=.returned (.agg #[.float .f64 LO,.float .f64 HI])∧Kp w w':=by
 go_enter Tryz.func51,Tryz.ntmps51
 go_wp2_with (first | (go_at_call 46;refine (hr _).mono ?_;rintro e w1 ⟨rfl,g1⟩;have T0:=three0 w (.float .f64 a) (.float .f64 b) (.func (.func kk) #[] #[]) (.float .f64 0) (.float .f64 0) 25 69 25;have q0:=Fq.H2.keep T0.1 g1;have qs:=H1c.keep T0.2.1 g1;have q1:=Fq.H2.keep T0.2.2 g1;have kw:Kp w w1:=Kp.trans ((((Kp.refl w).alloc _).alloc _).alloc _) g1;obtain ⟨x0,x1,x2,x3⟩:=id q0;obtain ⟨s0,s1⟩:=id qs;obtain ⟨y0,y1,y2,y3⟩:=id q1) | (go_at_call 47;refine (hv _).mono ?_;rintro e w2 ⟨rfl,g2⟩;obtain ⟨qx,qt,qy,kv⟩:=cvK q0 qs q1 kw g2;obtain ⟨u0,u1,u2,u3⟩:=id qx;obtain ⟨t0,t1⟩:=id qt;obtain ⟨v0,v1,v2,v3⟩:=id qy))
 exact BR (v:=.agg #[.float .f64 LO,.float .f64 HI]) (by simp [results,Tryz.results51,go_sem,v0,v1]) rfl ⟨rfl,(kv.setCell (by simp <;> omega) _).setCell (by simp <;> omega) _⟩
theorem climbS1_ (a b LO HI:Nat) (hr:KC 46 #[.agg #[.float .f64 a,.float .f64 b]] (.agg #[.float .f64 LO,.float .f64 HI])) (hv:KC 47 #[.agg #[.float .f64 LO,.float .f64 HI]] (.bool false)) (X Y RL RH:Nat) (h1:SC 53 #[.float .f64 LO] (.float .f64 X)) (h2:SC 53 #[.float .f64 HI] (.float .f64 Y)) (hr2:KC 46 #[.agg #[.float .f64 X,.float .f64 Y]] (.agg #[.float .f64 RL,.float .f64 RH])) (w:World):Calls Tryz.prog 51 #[.agg #[.float .f64 a,.float .f64 b],.agg #[.func (.func 53) #[] #[]]] w fun e w'=>e=.returned (.agg #[.float .f64 RL,.float .f64 RH])∧Kp w w':=by
 go_enter Tryz.func51,Tryz.ntmps51
 go_wp2_with (first | (go_at_call 46;refine (hr _).mono ?_;rintro e w1 ⟨rfl,g1⟩;have T0:=three0 w (.float .f64 a) (.float .f64 b) (.func (.func 53) #[] #[]) (.float .f64 0) (.float .f64 0) 25 69 25;have q0:=Fq.H2.keep T0.1 g1;have qs:=H1c.keep T0.2.1 g1;have q1:=Fq.H2.keep T0.2.2 g1;have kw:Kp w w1:=Kp.trans ((((Kp.refl w).alloc _).alloc _).alloc _) g1;obtain ⟨x0,x1,x2,x3⟩:=id q0;obtain ⟨s0,s1⟩:=id qs;obtain ⟨y0,y1,y2,y3⟩:=id q1) | (go_at_call 47;refine (hv _).mono ?_;rintro e w2 ⟨rfl,g2⟩;obtain ⟨qx,qt,qy,kv⟩:=cvK q0 qs q1 kw g2;obtain ⟨u0,u1,u2,u3⟩:=id qx;obtain ⟨t0,t1⟩:=id qt;obtain ⟨v0,v1,v2,v3⟩:=id qy))
 go_region_held3 (fun w'=>w'.cell? ⟨w.heap.size,0,none⟩=some (.float .f64 LO)∧w'.cell? ⟨w.heap.size,1,none⟩=some (.float .f64 HI)∧w'.cell? ⟨w.heap.size+1,0,none⟩=some (.func (.func 53) #[] #[])) (first | (with_reducible exact ⟨c0,c1,c2⟩) | (exact ⟨u0,u1,t0⟩) | (exact ⟨(CF _ _ _ _ (by simp <;> omega)).trans ((CF _ _ _ _ (by simp <;> omega)).trans c0),(CF _ _ _ _ (by simp <;> omega)).trans ((CF _ _ _ _ (by simp <;> omega)).trans c1),(CF _ _ _ _ (by simp <;> omega)).trans ((CF _ _ _ _ (by simp <;> omega)).trans c2)⟩)) (first | (go_at_call_of 53 (Value.float .f64 HI);refine (h2 _).mono ?_;rintro e w' ⟨rfl,rfl⟩) | (go_at_call_of 53 (Value.float .f64 LO);refine (h1 _).mono ?_;rintro e w' ⟨rfl,rfl⟩) | (go_at_call 46;refine (hr2 _).mono ?_;rintro e w3 ⟨rfl,g3⟩;have k3:Kp w2 w3:=Kp.trans (Kp.drew (Kp.refl _)) g3;have r0:=kkeep k3 v0;have r1:=kkeep k3 v1;have r2:=(kfro k3 (cell_lt v0)).trans v2;have r3:=(kfro k3 (cell_lt v1)).trans v3;have c0:=kkeep k3 u0;have c1:=kkeep k3 u1;have c2:=kkeep k3 t0))
 go_wp2
 exact BR (v:=.agg #[.float .f64 RL,.float .f64 RH]) (by simp [results,Tryz.results51,go_sem,r0,r1]) rfl ⟨rfl,KS2 (Kp.trans kv k3) (by first | omega | (simp <;> omega))⟩
theorem climbS2_ (a b LO HI:Nat) (hr:KC 46 #[.agg #[.float .f64 a,.float .f64 b]] (.agg #[.float .f64 LO,.float .f64 HI])) (hv:KC 47 #[.agg #[.float .f64 LO,.float .f64 HI]] (.bool false)) (X Y RL RH:Nat) (h1:SC 54 #[.float .f64 LO] (.float .f64 X)) (h2:SC 54 #[.float .f64 HI] (.float .f64 Y)) (hr2:KC 46 #[.agg #[.float .f64 X,.float .f64 Y]] (.agg #[.float .f64 RL,.float .f64 RH])) (w:World):Calls Tryz.prog 51 #[.agg #[.float .f64 a,.float .f64 b],.agg #[.func (.func 54) #[] #[]]] w fun e w'=>e=.returned (.agg #[.float .f64 RL,.float .f64 RH])∧Kp w w':=by
 go_enter Tryz.func51,Tryz.ntmps51
 go_wp2_with (first | (go_at_call 46;refine (hr _).mono ?_;rintro e w1 ⟨rfl,g1⟩;have T0:=three0 w (.float .f64 a) (.float .f64 b) (.func (.func 54) #[] #[]) (.float .f64 0) (.float .f64 0) 25 69 25;have q0:=Fq.H2.keep T0.1 g1;have qs:=H1c.keep T0.2.1 g1;have q1:=Fq.H2.keep T0.2.2 g1;have kw:Kp w w1:=Kp.trans ((((Kp.refl w).alloc _).alloc _).alloc _) g1;obtain ⟨x0,x1,x2,x3⟩:=id q0;obtain ⟨s0,s1⟩:=id qs;obtain ⟨y0,y1,y2,y3⟩:=id q1) | (go_at_call 47;refine (hv _).mono ?_;rintro e w2 ⟨rfl,g2⟩;obtain ⟨qx,qt,qy,kv⟩:=cvK q0 qs q1 kw g2;obtain ⟨u0,u1,u2,u3⟩:=id qx;obtain ⟨t0,t1⟩:=id qt;obtain ⟨v0,v1,v2,v3⟩:=id qy))
 go_region_held3 (fun w'=>w'.cell? ⟨w.heap.size,0,none⟩=some (.float .f64 LO)∧w'.cell? ⟨w.heap.size,1,none⟩=some (.float .f64 HI)∧w'.cell? ⟨w.heap.size+1,0,none⟩=some (.func (.func 54) #[] #[])) (first | (with_reducible exact ⟨c0,c1,c2⟩) | (exact ⟨u0,u1,t0⟩) | (exact ⟨(CF _ _ _ _ (by simp <;> omega)).trans ((CF _ _ _ _ (by simp <;> omega)).trans c0),(CF _ _ _ _ (by simp <;> omega)).trans ((CF _ _ _ _ (by simp <;> omega)).trans c1),(CF _ _ _ _ (by simp <;> omega)).trans ((CF _ _ _ _ (by simp <;> omega)).trans c2)⟩)) (first | (go_at_call_of 54 (Value.float .f64 HI);refine (h2 _).mono ?_;rintro e w' ⟨rfl,rfl⟩) | (go_at_call_of 54 (Value.float .f64 LO);refine (h1 _).mono ?_;rintro e w' ⟨rfl,rfl⟩) | (go_at_call 46;refine (hr2 _).mono ?_;rintro e w3 ⟨rfl,g3⟩;have k3:Kp w2 w3:=Kp.trans (Kp.drew (Kp.refl _)) g3;have r0:=kkeep k3 v0;have r1:=kkeep k3 v1;have r2:=(kfro k3 (cell_lt v0)).trans v2;have r3:=(kfro k3 (cell_lt v1)).trans v3;have c0:=kkeep k3 u0;have c1:=kkeep k3 u1;have c2:=kkeep k3 t0))
 go_wp2
 exact BR (v:=.agg #[.float .f64 RL,.float .f64 RH]) (by simp [results,Tryz.results51,go_sem,r0,r1]) rfl ⟨rfl,KS2 (Kp.trans kv k3) (by first | omega | (simp <;> omega))⟩
theorem climbS3_ (a b LO HI:Nat) (hr:KC 46 #[.agg #[.float .f64 a,.float .f64 b]] (.agg #[.float .f64 LO,.float .f64 HI])) (hv:KC 47 #[.agg #[.float .f64 LO,.float .f64 HI]] (.bool false)) (X Y RL RH:Nat) (h1:SC 55 #[.float .f64 LO] (.float .f64 X)) (h2:SC 55 #[.float .f64 HI] (.float .f64 Y)) (hr2:KC 46 #[.agg #[.float .f64 X,.float .f64 Y]] (.agg #[.float .f64 RL,.float .f64 RH])) (w:World):Calls Tryz.prog 51 #[.agg #[.float .f64 a,.float .f64 b],.agg #[.func (.func 55) #[] #[]]] w fun e w'=>e=.returned (.agg #[.float .f64 RL,.float .f64 RH])∧Kp w w':=by
 go_enter Tryz.func51,Tryz.ntmps51
 go_wp2_with (first | (go_at_call 46;refine (hr _).mono ?_;rintro e w1 ⟨rfl,g1⟩;have T0:=three0 w (.float .f64 a) (.float .f64 b) (.func (.func 55) #[] #[]) (.float .f64 0) (.float .f64 0) 25 69 25;have q0:=Fq.H2.keep T0.1 g1;have qs:=H1c.keep T0.2.1 g1;have q1:=Fq.H2.keep T0.2.2 g1;have kw:Kp w w1:=Kp.trans ((((Kp.refl w).alloc _).alloc _).alloc _) g1;obtain ⟨x0,x1,x2,x3⟩:=id q0;obtain ⟨s0,s1⟩:=id qs;obtain ⟨y0,y1,y2,y3⟩:=id q1) | (go_at_call 47;refine (hv _).mono ?_;rintro e w2 ⟨rfl,g2⟩;obtain ⟨qx,qt,qy,kv⟩:=cvK q0 qs q1 kw g2;obtain ⟨u0,u1,u2,u3⟩:=id qx;obtain ⟨t0,t1⟩:=id qt;obtain ⟨v0,v1,v2,v3⟩:=id qy))
 go_region_held3 (fun w'=>w'.cell? ⟨w.heap.size,0,none⟩=some (.float .f64 LO)∧w'.cell? ⟨w.heap.size,1,none⟩=some (.float .f64 HI)∧w'.cell? ⟨w.heap.size+1,0,none⟩=some (.func (.func 55) #[] #[])) (first | (with_reducible exact ⟨c0,c1,c2⟩) | (exact ⟨u0,u1,t0⟩) | (exact ⟨(CF _ _ _ _ (by simp <;> omega)).trans ((CF _ _ _ _ (by simp <;> omega)).trans c0),(CF _ _ _ _ (by simp <;> omega)).trans ((CF _ _ _ _ (by simp <;> omega)).trans c1),(CF _ _ _ _ (by simp <;> omega)).trans ((CF _ _ _ _ (by simp <;> omega)).trans c2)⟩)) (first | (go_at_call_of 55 (Value.float .f64 HI);refine (h2 _).mono ?_;rintro e w' ⟨rfl,rfl⟩) | (go_at_call_of 55 (Value.float .f64 LO);refine (h1 _).mono ?_;rintro e w' ⟨rfl,rfl⟩) | (go_at_call 46;refine (hr2 _).mono ?_;rintro e w3 ⟨rfl,g3⟩;have k3:Kp w2 w3:=Kp.trans (Kp.drew (Kp.refl _)) g3;have r0:=kkeep k3 v0;have r1:=kkeep k3 v1;have r2:=(kfro k3 (cell_lt v0)).trans v2;have r3:=(kfro k3 (cell_lt v1)).trans v3;have c0:=kkeep k3 u0;have c1:=kkeep k3 u1;have c2:=kkeep k3 t0))
 go_wp2
 exact BR (v:=.agg #[.float .f64 RL,.float .f64 RH]) (by simp [results,Tryz.results51,go_sem,r0,r1]) rfl ⟨rfl,KS2 (Kp.trans kv k3) (by first | omega | (simp <;> omega))⟩
theorem climbS5_ (a b LO HI:Nat) (hr:KC 46 #[.agg #[.float .f64 a,.float .f64 b]] (.agg #[.float .f64 LO,.float .f64 HI])) (hv:KC 47 #[.agg #[.float .f64 LO,.float .f64 HI]] (.bool false)) (X Y RL RH:Nat) (h1:SC 57 #[.float .f64 LO] (.float .f64 X)) (h2:SC 57 #[.float .f64 HI] (.float .f64 Y)) (hr2:KC 46 #[.agg #[.float .f64 X,.float .f64 Y]] (.agg #[.float .f64 RL,.float .f64 RH])) (w:World):Calls Tryz.prog 51 #[.agg #[.float .f64 a,.float .f64 b],.agg #[.func (.func 57) #[] #[]]] w fun e w'=>e=.returned (.agg #[.float .f64 RL,.float .f64 RH])∧Kp w w':=by
 go_enter Tryz.func51,Tryz.ntmps51
 go_wp2_with (first | (go_at_call 46;refine (hr _).mono ?_;rintro e w1 ⟨rfl,g1⟩;have T0:=three0 w (.float .f64 a) (.float .f64 b) (.func (.func 57) #[] #[]) (.float .f64 0) (.float .f64 0) 25 69 25;have q0:=Fq.H2.keep T0.1 g1;have qs:=H1c.keep T0.2.1 g1;have q1:=Fq.H2.keep T0.2.2 g1;have kw:Kp w w1:=Kp.trans ((((Kp.refl w).alloc _).alloc _).alloc _) g1;obtain ⟨x0,x1,x2,x3⟩:=id q0;obtain ⟨s0,s1⟩:=id qs;obtain ⟨y0,y1,y2,y3⟩:=id q1) | (go_at_call 47;refine (hv _).mono ?_;rintro e w2 ⟨rfl,g2⟩;obtain ⟨qx,qt,qy,kv⟩:=cvK q0 qs q1 kw g2;obtain ⟨u0,u1,u2,u3⟩:=id qx;obtain ⟨t0,t1⟩:=id qt;obtain ⟨v0,v1,v2,v3⟩:=id qy))
 go_region_held3 (fun w'=>w'.cell? ⟨w.heap.size,0,none⟩=some (.float .f64 LO)∧w'.cell? ⟨w.heap.size,1,none⟩=some (.float .f64 HI)∧w'.cell? ⟨w.heap.size+1,0,none⟩=some (.func (.func 57) #[] #[])) (first | (with_reducible exact ⟨c0,c1,c2⟩) | (exact ⟨u0,u1,t0⟩) | (exact ⟨(CF _ _ _ _ (by simp <;> omega)).trans ((CF _ _ _ _ (by simp <;> omega)).trans c0),(CF _ _ _ _ (by simp <;> omega)).trans ((CF _ _ _ _ (by simp <;> omega)).trans c1),(CF _ _ _ _ (by simp <;> omega)).trans ((CF _ _ _ _ (by simp <;> omega)).trans c2)⟩)) (first | (go_at_call_of 57 (Value.float .f64 HI);refine (h2 _).mono ?_;rintro e w' ⟨rfl,rfl⟩) | (go_at_call_of 57 (Value.float .f64 LO);refine (h1 _).mono ?_;rintro e w' ⟨rfl,rfl⟩) | (go_at_call 46;refine (hr2 _).mono ?_;rintro e w3 ⟨rfl,g3⟩;have k3:Kp w2 w3:=Kp.trans (Kp.drew (Kp.refl _)) g3;have r0:=kkeep k3 v0;have r1:=kkeep k3 v1;have r2:=(kfro k3 (cell_lt v0)).trans v2;have r3:=(kfro k3 (cell_lt v1)).trans v3;have c0:=kkeep k3 u0;have c1:=kkeep k3 u1;have c2:=kkeep k3 t0))
 go_wp2
 exact BR (v:=.agg #[.float .f64 RL,.float .f64 RH]) (by simp [results,Tryz.results51,go_sem,r0,r1]) rfl ⟨rfl,KS2 (Kp.trans kv k3) (by first | omega | (simp <;> omega))⟩
theorem climbS0_ (a b LO HI:Nat) (hr:KC 46 #[.agg #[.float .f64 a,.float .f64 b]] (.agg #[.float .f64 LO,.float .f64 HI])) (hv:KC 47 #[.agg #[.float .f64 LO,.float .f64 HI]] (.bool false)) (X Y RL RH:Nat) (h1:SC 52 #[.float .f64 LO] (.float .f64 X)) (h2:SC 52 #[.float .f64 HI] (.float .f64 Y)) (hr2:KC 46 #[.agg #[.float .f64 X,.float .f64 Y]] (.agg #[.float .f64 RL,.float .f64 RH])) (w:World):Calls Tryz.prog 51 #[.agg #[.float .f64 a,.float .f64 b],.agg #[.func (.func 52) #[] #[]]] w fun e w'=>e=.returned (.agg #[.float .f64 RL,.float .f64 RH])∧Kp w w':=by
 go_enter Tryz.func51,Tryz.ntmps51
 go_wp2_with (first | (go_at_call 46;refine (hr _).mono ?_;rintro e w1 ⟨rfl,g1⟩;have T0:=three0 w (.float .f64 a) (.float .f64 b) (.func (.func 52) #[] #[]) (.float .f64 0) (.float .f64 0) 25 69 25;have q0:=Fq.H2.keep T0.1 g1;have qs:=H1c.keep T0.2.1 g1;have q1:=Fq.H2.keep T0.2.2 g1;have kw:Kp w w1:=Kp.trans ((((Kp.refl w).alloc _).alloc _).alloc _) g1;obtain ⟨x0,x1,x2,x3⟩:=id q0;obtain ⟨s0,s1⟩:=id qs;obtain ⟨y0,y1,y2,y3⟩:=id q1) | (go_at_call 47;refine (hv _).mono ?_;rintro e w2 ⟨rfl,g2⟩;obtain ⟨qx,qt,qy,kv⟩:=cvK q0 qs q1 kw g2;obtain ⟨u0,u1,u2,u3⟩:=id qx;obtain ⟨t0,t1⟩:=id qt;obtain ⟨v0,v1,v2,v3⟩:=id qy))
 go_region_held3 (fun w'=>w'.cell? ⟨w.heap.size,0,none⟩=some (.float .f64 LO)∧w'.cell? ⟨w.heap.size,1,none⟩=some (.float .f64 HI)∧w'.cell? ⟨w.heap.size+1,0,none⟩=some (.func (.func 52) #[] #[])) (first | (with_reducible exact ⟨c0,c1,c2⟩) | (exact ⟨u0,u1,t0⟩) | (exact ⟨(CF _ _ _ _ (by simp <;> omega)).trans ((CF _ _ _ _ (by simp <;> omega)).trans c0),(CF _ _ _ _ (by simp <;> omega)).trans ((CF _ _ _ _ (by simp <;> omega)).trans c1),(CF _ _ _ _ (by simp <;> omega)).trans ((CF _ _ _ _ (by simp <;> omega)).trans c2)⟩)) (first | (go_at_call_of 52 (Value.float .f64 HI);refine (h2 _).mono ?_;rintro e w' ⟨rfl,rfl⟩) | (go_at_call_of 52 (Value.float .f64 LO);refine (h1 _).mono ?_;rintro e w' ⟨rfl,rfl⟩) | (go_at_call 46;refine (hr2 _).mono ?_;rintro e w3 ⟨rfl,g3⟩;have k3:Kp w2 w3:=Kp.trans (Kp.drew (Kp.refl _)) g3;have r0:=kkeep k3 v0;have r1:=kkeep k3 v1;have r2:=(kfro k3 (cell_lt v0)).trans v2;have r3:=(kfro k3 (cell_lt v1)).trans v3;have c0:=kkeep k3 u0;have c1:=kkeep k3 u1;have c2:=kkeep k3 t0))
 go_wp2
 exact BR (v:=.agg #[.float .f64 RL,.float .f64 RH]) (by simp [results,Tryz.results51,go_sem,r0,r1]) rfl ⟨rfl,KS2 (Kp.trans kv k3) (by first | omega | (simp <;> omega))⟩
theorem climbS4_ (a b LO HI:Nat) (hr:KC 46 #[.agg #[.float .f64 a,.float .f64 b]] (.agg #[.float .f64 LO,.float .f64 HI])) (hv:KC 47 #[.agg #[.float .f64 LO,.float .f64 HI]] (.bool false)) (X Y RL RH:Nat) (h1:∀ w:World,(callFunc 58 #[.float .f64 LO]).run Tryz.prog w=.ok (.value (.float .f64 X)) w) (h2:∀ w:World,(callFunc 58 #[.float .f64 HI]).run Tryz.prog w=.ok (.value (.float .f64 Y)) w) (hr2:KC 46 #[.agg #[.float .f64 X,.float .f64 Y]] (.agg #[.float .f64 RL,.float .f64 RH])) (w:World):Calls Tryz.prog 51 #[.agg #[.float .f64 a,.float .f64 b],.agg #[.func (.func 58) #[] #[]]] w fun e w'=>e=.returned (.agg #[.float .f64 RL,.float .f64 RH])∧Kp w w':=by
 go_enter Tryz.func51,Tryz.ntmps51
 go_wp2_with (first | (go_at_call 46;refine (hr _).mono ?_;rintro e w1 ⟨rfl,g1⟩;have T0:=three0 w (.float .f64 a) (.float .f64 b) (.func (.func 58) #[] #[]) (.float .f64 0) (.float .f64 0) 25 69 25;have q0:=Fq.H2.keep T0.1 g1;have qs:=H1c.keep T0.2.1 g1;have q1:=Fq.H2.keep T0.2.2 g1;have kw:Kp w w1:=Kp.trans ((((Kp.refl w).alloc _).alloc _).alloc _) g1;obtain ⟨x0,x1,x2,x3⟩:=id q0;obtain ⟨s0,s1⟩:=id qs;obtain ⟨y0,y1,y2,y3⟩:=id q1) | (go_at_call 47;refine (hv _).mono ?_;rintro e w2 ⟨rfl,g2⟩;obtain ⟨qx,qt,qy,kv⟩:=cvK q0 qs q1 kw g2;obtain ⟨u0,u1,u2,u3⟩:=id qx;obtain ⟨t0,t1⟩:=id qt;obtain ⟨v0,v1,v2,v3⟩:=id qy))
 go_region_held3 (fun w'=>w'.cell? ⟨w.heap.size,0,none⟩=some (.float .f64 LO)∧w'.cell? ⟨w.heap.size,1,none⟩=some (.float .f64 HI)∧w'.cell? ⟨w.heap.size+1,0,none⟩=some (.func (.func 58) #[] #[])) (first | (with_reducible exact ⟨c0,c1,c2⟩) | (exact ⟨u0,u1,t0⟩) | (exact ⟨(CF _ _ _ _ (by simp <;> omega)).trans ((CF _ _ _ _ (by simp <;> omega)).trans c0),(CF _ _ _ _ (by simp <;> omega)).trans ((CF _ _ _ _ (by simp <;> omega)).trans c1),(CF _ _ _ _ (by simp <;> omega)).trans ((CF _ _ _ _ (by simp <;> omega)).trans c2)⟩)) (first | (go_at_call 46;refine (hr2 _).mono ?_;rintro e w3 ⟨rfl,g3⟩;have k3:Kp w2 w3:=Kp.trans (Kp.drew (Kp.refl _)) g3;have r0:=kkeep k3 v0;have r1:=kkeep k3 v1;have r2:=(kfro k3 (cell_lt v0)).trans v2;have r3:=(kfro k3 (cell_lt v1)).trans v3;have c0:=kkeep k3 u0;have c1:=kkeep k3 u1;have c2:=kkeep k3 t0))
 go_wp2
 exact BR (v:=.agg #[.float .f64 RL,.float .f64 RH]) (by simp [results,Tryz.results51,go_sem,r0,r1]) rfl ⟨rfl,KS2 (Kp.trans kv k3) (by first | omega | (simp <;> omega))⟩
set_option linter.unusedVariables false

theorem run_bindA {α β:Type} (P:Program) (a:Sem α) (g:α→Sem β) (w:World) (v:α) (w1:World) (h:a.run P w=.ok v w1):(a >>= g).run P w=(g v).run P w1:=by
 rw [Sem.run_bind,h];rfl
theorem toInt_ok (P:Program) (nm:String) (K:Nat) (hK:K=1074) (k:Nat) (hk:1≤k∧k≤4) (n:Bool) (m:Nat) (hm:m≤9218868437227405312) (w:World):(Extern.MathFloor.toIntegral nm (wayOf k) #[.float .f64 (Fq.wD n m)]).run P w=.ok (.float .f64 (Fq.wD n (cR K k n m))) w:=by
 have h:=int_w K hK k hk n m hm
 have hd:(∃ s a i,FloatKind.f64.decode (Fq.wD n m)=.number s a i)∨(∃ s,FloatKind.f64.decode (Fq.wD n m)=.infinity s):=by
  by_cases ci:m=9218868437227405312
  ·right
   refine ⟨n, ?_⟩
   show Ieee.double.read _=_
   rw [ci,Fq.read_inf _ _ Fq.binfD (by rw [Fq.rgD n _ (by omega),Fq.infD]),Fq.ngD n _ (by omega)]
  ·left
   exact ⟨_,_,_,Fq.read_fin Ieee.double (Fq.wD n m) (by rw [Fq.rgD n m (by omega),Fq.infD];omega)⟩
 conv=>lhs;arg 2;whnf
 rcases hd with ⟨s,a,i,hd⟩ | ⟨s,hd⟩ <;> (rw [hd] at h ⊢;rw [← h];rfl)
theorem arch1_run (X : Nat) (w : World) : (callFunc 86 #[.float .f64 X]).run Tryz.prog w = ((Extern.MathFloor.toIntegral "math.archFloor" Ieee.Toward.down #[.float .f64 X]) >>= fun v => (pure (.value v) : Sem _)).run Tryz.prog w := by kernel_rfl
theorem arch1_ok (K:Nat) (hK:K=1074) (n:Bool) (m:Nat) (hm:m≤9218868437227405312) (w:World):(callFunc 86 #[.float .f64 (Fq.wD n m)]).run Tryz.prog w=.ok (.value (.float .f64 (Fq.wD n (cR K 1 n m)))) w:=by
 rw [arch1_run]
 have h := toInt_ok Tryz.prog "math.archFloor" K hK 1 (by decide) n m hm w
 rw [show wayOf 1=Ieee.Toward.down from rfl] at h
 rw [run_bindA _ _ _ _ _ _ h]
 rfl
theorem step1_ (K:Nat) (hK:K=1074) (n:Bool) (m:Nat) (hm:m≤9218868437227405312) (w:World):Calls Tryz.prog 53 #[.float .f64 (Fq.wD n m)] w fun e w'=>e=.returned (.float .f64 (Fq.wD n (cR K 1 n m)))∧w'=w:=by
 have h1:=arch1_ok K hK n m hm
 generalize Fq.wD n (cR K 1 n m)=Z at h1 ⊢
 generalize Fq.wD n m=X at h1 ⊢
 clear hK hm
 go_enter Tryz.func53,Tryz.ntmps53
 go_wp2
 exact BR (v:=.float .f64 Z) (by simp [results,Tryz.results53,go_sem]) rfl ⟨rfl,rfl⟩
theorem arch2_run (X : Nat) (w : World) : (callFunc 88 #[.float .f64 X]).run Tryz.prog w = ((Extern.MathFloor.toIntegral "math.archCeil" Ieee.Toward.up #[.float .f64 X]) >>= fun v => (pure (.value v) : Sem _)).run Tryz.prog w := by kernel_rfl
theorem arch2_ok (K:Nat) (hK:K=1074) (n:Bool) (m:Nat) (hm:m≤9218868437227405312) (w:World):(callFunc 88 #[.float .f64 (Fq.wD n m)]).run Tryz.prog w=.ok (.value (.float .f64 (Fq.wD n (cR K 2 n m)))) w:=by
 rw [arch2_run]
 have h := toInt_ok Tryz.prog "math.archCeil" K hK 2 (by decide) n m hm w
 rw [show wayOf 2=Ieee.Toward.up from rfl] at h
 rw [run_bindA _ _ _ _ _ _ h]
 rfl
theorem step2_ (K:Nat) (hK:K=1074) (n:Bool) (m:Nat) (hm:m≤9218868437227405312) (w:World):Calls Tryz.prog 54 #[.float .f64 (Fq.wD n m)] w fun e w'=>e=.returned (.float .f64 (Fq.wD n (cR K 2 n m)))∧w'=w:=by
 have h1:=arch2_ok K hK n m hm
 generalize Fq.wD n (cR K 2 n m)=Z at h1 ⊢
 generalize Fq.wD n m=X at h1 ⊢
 clear hK hm
 go_enter Tryz.func54,Tryz.ntmps54
 go_wp2
 exact BR (v:=.float .f64 Z) (by simp [results,Tryz.results54,go_sem]) rfl ⟨rfl,rfl⟩
theorem arch3_run (X : Nat) (w : World) : (callFunc 90 #[.float .f64 X]).run Tryz.prog w = ((Extern.MathFloor.toIntegral "math.archTrunc" Ieee.Toward.zero #[.float .f64 X]) >>= fun v => (pure (.value v) : Sem _)).run Tryz.prog w := by kernel_rfl
theorem arch3_ok (K:Nat) (hK:K=1074) (n:Bool) (m:Nat) (hm:m≤9218868437227405312) (w:World):(callFunc 90 #[.float .f64 (Fq.wD n m)]).run Tryz.prog w=.ok (.value (.float .f64 (Fq.wD n (cR K 3 n m)))) w:=by
 rw [arch3_run]
 have h := toInt_ok Tryz.prog "math.archTrunc" K hK 3 (by decide) n m hm w
 rw [show wayOf 3=Ieee.Toward.zero from rfl] at h
 rw [run_bindA _ _ _ _ _ _ h]
 rfl
theorem step3_ (K:Nat) (hK:K=1074) (n:Bool) (m:Nat) (hm:m≤9218868437227405312) (w:World):Calls Tryz.prog 55 #[.float .f64 (Fq.wD n m)] w fun e w'=>e=.returned (.float .f64 (Fq.wD n (cR K 3 n m)))∧w'=w:=by
 have h1:=arch3_ok K hK n m hm
 generalize Fq.wD n (cR K 3 n m)=Z at h1 ⊢
 generalize Fq.wD n m=X at h1 ⊢
 clear hK hm
 go_enter Tryz.func55,Tryz.ntmps55
 go_wp2
 exact BR (v:=.float .f64 Z) (by simp [results,Tryz.results55,go_sem]) rfl ⟨rfl,rfl⟩
theorem even_run (X : Nat) (w : World) : (callFunc 58 #[.float .f64 X]).run Tryz.prog w = ((Extern.MathFloor.toIntegral "math.RoundToEven" Ieee.Toward.even #[.float .f64 X]) >>= fun v => (pure (.value v) : Sem _)).run Tryz.prog w := by kernel_rfl
theorem step4_ (K:Nat) (hK:K=1074) (n:Bool) (m:Nat) (hm:m≤9218868437227405312) (w:World):(callFunc 58 #[.float .f64 (Fq.wD n m)]).run Tryz.prog w=.ok (.value (.float .f64 (Fq.wD n (cR K 4 n m)))) w:=by
 rw [even_run]
 have h := toInt_ok Tryz.prog "math.RoundToEven" K hK 4 (by decide) n m hm w
 rw [show wayOf 4=Ieee.Toward.even from rfl] at h
 rw [run_bindA _ _ _ _ _ _ h]
 rfl
theorem signA_ (X:Nat) (B1 B2:Bool) (t1:(FloatKind.f64.format.order X 0 == some Ordering.lt)=B1) (t2:(FloatKind.f64.format.order X 0 == some Ordering.gt)=B2) (w:World):Calls Tryz.prog 52 #[.float .f64 X] w fun e w'=>e=.returned (.float .f64 (if B1 then 13830554455654793216 else if B2 then 4607182418800017408 else 0))∧w'=w:=by
 cases B1 <;> cases B2
 all_goals (
  go_enter Tryz.func52,Tryz.ntmps52
  go_wp2
  exact BR (v:=.float .f64 _) (by simp [results,Tryz.results52,go_sem] <;> rfl) rfl ⟨rfl,rfl⟩)

theorem high_and (Y s:Nat) (hY:Y<18446744073709551616) (hs:s≤64):Y &&& (18446744073709551616 - 2 ^ s)=Y / 2 ^ s*2 ^ s:=by
 have e:18446744073709551616 - 2 ^ s=(2 ^ (64 - s) - 1) <<< s:=by
  rw [Nat.shiftLeft_eq,Nat.sub_mul,← Nat.pow_add,show 64 - s+s=64 from by omega,Nat.one_mul]
 rw [e,← Nat.shiftRight_eq_div_pow,← Nat.shiftLeft_eq]
 apply Nat.eq_of_testBit_eq
 intro i
 rw [Nat.testBit_and,Nat.testBit_shiftLeft,Nat.testBit_shiftLeft,Nat.testBit_shiftRight,Nat.testBit_two_pow_sub_one]
 by_cases c:s≤i
 ·rw [show s+(i - s)=i from by omega]
  by_cases c2:i - s<64 - s
  ·simp [c,c2]
  ·have hz:Y.testBit i=false:=Nat.testBit_lt_two_pow (Nat.lt_of_lt_of_le hY (show 2 ^ 64≤2 ^ i from Nat.pow_le_pow_right (by decide) (by omega)))
   simp [hz]
 ·simp [c]
theorem rb_e (n:Bool) (m X:Nat) (hm:m≤9218868437227405312) (hX:X=Fq.wD n m):bits BinOp.and IntKind.u64 ((X:Int) / 4503599627370496) 2047=((m / 4503599627370496:Nat):Int):=by
 have h:X<18446744073709551616:=by rw [hX];unfold Fq.wD;split <;> omega
 have e:=u64_and_nat (X / 4503599627370496) 2047 (by omega) (by decide)
 have e2:X / 4503599627370496 &&& 2047=m / 4503599627370496:=by
  rw [show (2047:Nat)=2 ^ 11 - 1 from by decide,Nat.and_two_pow_sub_one_eq_mod,hX]
  unfold Fq.wD;split <;> omega
 rw [e2] at e
 exact e
theorem rb_s (n:Bool) (m X:Nat) (hm:m≤9218868437227405312) (hX:X=Fq.wD n m):bits BinOp.and IntKind.u64 (X:Int) 9223372036854775808=((Fq.wD n 0:Nat):Int):=by
 have h:X<18446744073709551616:=by rw [hX];unfold Fq.wD;split <;> omega
 have e:=u64_and_nat X 9223372036854775808 h (by decide)
 have e2:X &&& 9223372036854775808=Fq.wD n 0:=by
  have g:=high_and X 63 h (by decide)
  rw [show 18446744073709551616 - 2 ^ 63=9223372036854775808 from by decide,show (2:Nat) ^ 63=9223372036854775808 from by decide] at g
  rw [g,hX]
  unfold Fq.wD;cases n <;> simp <;> omega
 rw [e2] at e
 exact e
theorem rb_o (n:Bool):bits BinOp.or IntKind.u64 ((Fq.wD n 0:Nat):Int) 4607182418800017408=((Fq.wD n 4607182418800017408:Nat):Int):=by
 have e:=u64_or_nat (Fq.wD n 0) 4607182418800017408 (by unfold Fq.wD;cases n <;> decide) (by decide)
 rw [show Fq.wD n 0 ||| 4607182418800017408=Fq.wD n 4607182418800017408 from by cases n <;> decide] at e
 exact e
theorem rb_b (n:Bool) (m X e:Nat) (hm:m≤9218868437227405312) (hX:X=Fq.wD n m) (he:e=m / 4503599627370496) (h1:1023≤e) (h2:e<1075):bits BinOp.andNot IntKind.u64 (IntKind.u64.wrap ((X:Int)+2251799813685248 / 2 ^ (e - 1023))) (4503599627370495 / 2 ^ (e - 1023))=((Fq.wD n (awR m):Nat):Int):=by
 have h:X<18446744073709551616:=by rw [hX];unfold Fq.wD;split <;> omega
 obtain ⟨s,hs⟩:∃ s,s=1075 - e:=⟨_,rfl⟩
 obtain ⟨q,hq⟩:∃ q,q=e - 1023:=⟨_,rfl⟩
 rw [← hq]
 obtain ⟨T,hT⟩:∃ T,T=2 ^ s:=⟨_,rfl⟩
 obtain ⟨g,hg⟩:∃ g,g=2 ^ (s - 1):=⟨_,rfl⟩
 obtain ⟨P,hP⟩:∃ P,P=2 ^ q:=⟨_,rfl⟩
 have hPp:0<P:=by rw [hP];exact Nat.two_pow_pos _
 have hTg:T=2*g:=by rw [hT,hg,show s=s - 1+1 from by omega,Nat.pow_succ,Nat.add_sub_cancel,Nat.mul_comm]
 have hTP:T*P=4503599627370496:=by rw [hT,hP,← Nat.pow_add,show s+q=52 from by omega]
 have hgP:g*P=2251799813685248:=by rw [hg,hP,← Nat.pow_add,show s - 1+q=51 from by omega]
 have d1:2251799813685248 / P=g:=by rw [← hgP,Nat.mul_div_cancel _ hPp]
 have d2:4503599627370495 / P=T - 1:=by
  have hTp:0<T:=by rw [hT];exact Nat.two_pow_pos _
  apply Nat.div_eq_of_lt_le
  ·rw [Nat.sub_mul,hTP];omega
  ·rw [show T - 1+1=T from by omega,hTP];omega
 have hTl:T≤4503599627370496:=by rw [← hTP];exact Nat.le_mul_of_pos_right _ hPp
 have hTp:0<T:=by rw [hT];exact Nat.two_pow_pos _
 have c1:(2251799813685248:Int) / 2 ^ q=((g:Nat):Int):=by
  rw [← d1,hP];simp [Int.natCast_pow]
 have c2:(4503599627370495:Int) / 2 ^ q=((T - 1:Nat):Int):=by
  rw [← d2,hP];simp [Int.natCast_pow]
 rw [c1,c2]
 have hXl:X+g<18446744073709551616:=by rw [hX];unfold Fq.wD;split <;> omega
 rw [show IntKind.u64.wrap ((X:Int)+(g:Int))=((X+g:Nat):Int) from by rw [IntKind.wrap_u64];omega]
 have e1:=u64_andNot_nat (X+g) (T - 1) hXl (by omega)
 rw [e1]
 congr 1
 rw [show 18446744073709551615 - (T - 1)=18446744073709551616 - 2 ^ s from by rw [← hT];omega,high_and (X+g) s hXl (by omega),← hT]
 have hr:awR m=(m+g) / T*T:=by
  unfold awR
  rw [← he,if_neg (by omega),if_pos h2,← hs,show 1074 - e=s - 1 from by omega,← hT,← hg]
 rw [hr,hX]
 unfold Fq.wD
 cases n
 ·simp
 ·simp only [if_true]
  have hd:9223372036854775808=T*(2048*P):=by rw [Nat.mul_left_comm,hTP]
  rw [show 9223372036854775808+m+g=(m+g)+T*(2048*P) from by rw [← hd];omega,Nat.add_mul_div_left _ _ hTp,Nat.add_mul,Nat.mul_comm (2048*P) T,← hd]
  omega
theorem roundP_ (n:Bool) (m:Nat) (hm:m≤9218868437227405312) (w:World):Calls Tryz.prog 57 #[.float .f64 (Fq.wD n m)] w fun e w'=>e=.returned (.float .f64 (Fq.wD n (awR m)))∧w'=w:=by
 obtain ⟨X,hX⟩:∃ X,X=Fq.wD n m:=⟨_,rfl⟩
 obtain ⟨e,he⟩:∃ e,e=m / 4503599627370496:=⟨_,rfl⟩
 have hE:=rb_e n m X hm hX
 have hS:=rb_s n m X hm hX
 have hO:=rb_o n
 have hB:=rb_b n m X e hm hX he
 have hR:awR m=if e<1023 then (if e=1022 then 4607182418800017408 else 0) else if e<1075 then awR m else m:=by
  unfold awR;rw [← he]
  by_cases c:e<1023
  ·rw [if_pos c,if_pos c]
  ·rw [if_neg c,if_neg c]
   by_cases c2:e<1075
   ·rw [if_pos c2,if_pos c2]
   ·rw [if_neg c2,if_neg c2]
 rw [← he] at hE
 rw [← hX]
 have h1:∀ w:World,(callFunc 59 #[.float .f64 X]).run Tryz.prog w=.ok (.value (.int .u64 (X:Int))) w:=Fq.fb64 X
 have hl:e≤2047:=by omega
 by_cases c1:e<1023
 ·rw [if_pos c1] at hR
  by_cases c2:e=1022
  ·rw [if_pos c2] at hR
   rw [hR]
   have h2:∀ w:World,(callFunc 45 #[.int .u64 ((Fq.wD n 4607182418800017408:Nat):Int)]).run Tryz.prog w=.ok (.value (.float .f64 (Fq.wD n 4607182418800017408))) w:=Fq.ff64 _
   generalize Fq.wD n 4607182418800017408=O at hO h2 ⊢
   generalize Fq.wD n 0=S at hS hO
   have t1:(e:Int)<1023:=by omega
   have t2:((e:Int) == 1022)=true:=by simp;omega
   clear hB hR he hX hm hl c1 c2
   go_enter Tryz.func57,Tryz.ntmps57
   go_wp2
   exact BR (v:=.float .f64 O) (by simp [results,Tryz.results57,go_sem]) rfl ⟨rfl,rfl⟩
  ·rw [if_neg c2] at hR
   rw [hR]
   have h2:∀ w:World,(callFunc 45 #[.int .u64 ((Fq.wD n 0:Nat):Int)]).run Tryz.prog w=.ok (.value (.float .f64 (Fq.wD n 0))) w:=Fq.ff64 _
   clear hO
   generalize Fq.wD n 0=S at hS h2 ⊢
   have t1:(e:Int)<1023:=by omega
   have t2:((e:Int) == 1022)=false:=by simp;omega
   clear hB hR he hX hm hl c1 c2
   go_enter Tryz.func57,Tryz.ntmps57
   go_wp2
   exact BR (v:=.float .f64 S) (by simp [results,Tryz.results57,go_sem]) rfl ⟨rfl,rfl⟩
 ·rw [if_neg c1] at hR
  by_cases c2:e<1075
  ·replace hB:=hB (by omega) c2
   have h2:∀ w:World,(callFunc 45 #[.int .u64 ((Fq.wD n (awR m):Nat):Int)]).run Tryz.prog w=.ok (.value (.float .f64 (Fq.wD n (awR m)))) w:=Fq.ff64 _
   clear hR
   generalize Fq.wD n (awR m)=O at hB h2 ⊢
   have t1:¬ ((e:Int)<1023):=by omega
   have t2:(e:Int)<1075:=by omega
   clear hO hS he hX hm hl c1 c2
   go_enter Tryz.func57,Tryz.ntmps57
   go_wp2
   exact BR (v:=.float .f64 O) (by simp [results,Tryz.results57,go_sem]) rfl ⟨rfl,rfl⟩
  ·rw [if_neg c2] at hR
   rw [hR,← hX]
   have h2:∀ w:World,(callFunc 45 #[.int .u64 (X:Int)]).run Tryz.prog w=.ok (.value (.float .f64 X)) w:=Fq.ff64 _
   have t1:¬ ((e:Int)<1023):=by omega
   have t2:¬ ((e:Int)<1075):=by omega
   clear hO hS hB hR he hX hm hl c1 c2
   go_enter Tryz.func57,Tryz.ntmps57
   go_wp2
   exact BR (v:=.float .f64 X) (by simp [results,Tryz.results57,go_sem]) rfl ⟨rfl,rfl⟩
end Go.Proofs.YtcfnialfpblfmaaGreatDoor
