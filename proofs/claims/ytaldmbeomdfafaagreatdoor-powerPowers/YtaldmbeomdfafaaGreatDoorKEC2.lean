import Derived.Test.YtaldmbeomdfafaaGreatDoorKEA
import Derived.Test.YtaldmbeomdfafaaGreatDoorKYA
set_option maxHeartbeats 1000000
set_option maxRecDepth 20000
namespace Go.Proofs.YtaldmbeomdfafaaGreatDoor
open Go.RowKit
theorem rcmpL_ (S T9:Int) s p l c q k d s2 p2 l2 c2 q2 k2 d2 (w:World) (hs1:∀ W:World,Kp w W→Calls Tryz.prog 30 #[.agg #[.bool s,.slice p l c,.slice q k d]] W fun e w'=>e = .returned (.int .i64 S)∧Kp W w') (hs2:∀ W:World,Kp w W→Calls Tryz.prog 30 #[.agg #[.bool s2,.slice p2 l2 c2,.slice q2 k2 d2]] W fun e w'=>e = .returned (.int .i64 T9)∧Kp W w') (t1:S < T9):Calls Tryz.prog 33 #[.agg #[.bool s,.slice p l c,.slice q k d],.agg #[.bool s2,.slice p2 l2 c2,.slice q2 k2 d2]] w fun e w'=>e = .returned (.int .i64 (-1))∧Kp w w':=by
 go_enter Tryz.func33,Tryz.ntmps33
 go_wp2_with (first | (go_at_call_of 30 (Value.slice p l c);refine (hs1 _ ?q0).mono ?_;(case q0=>exact ((Kp.refl w).alloc _).alloc _);rintro e wa ⟨rfl,ga⟩;have ka:Kp w wa:=Kp.trans (((Kp.refl w).alloc _).alloc _) ga;have x0:=kkeep ga (b:=w.heap.size) (o:=0) (v:=.bool s) (by simp [go_sem]);have x1:=kkeep ga (b:=w.heap.size) (o:=1) (v:=.slice p l c) (by simp [go_sem]);have x2:=kkeep ga (b:=w.heap.size) (o:=2) (v:=.slice q k d) (by simp [go_sem]);have x3:=kkeep ga (b:=w.heap.size + 1) (o:=0) (v:=.bool s2) (by simp [go_sem]);have x4:=kkeep ga (b:=w.heap.size + 1) (o:=1) (v:=.slice p2 l2 c2) (by simp [go_sem]);have x5:=kkeep ga (b:=w.heap.size + 1) (o:=2) (v:=.slice q2 k2 d2) (by simp [go_sem])) | (go_at_call_of 30 (Value.slice p2 l2 c2);refine (hs2 _ ?q0).mono ?_;(case q0=>exact ka);rintro e wb ⟨rfl,gb⟩;have kb:Kp w wb:=Kp.trans ka gb;have y0:=kkeep gb x0;have y1:=kkeep gb x1;have y2:=kkeep gb x2;have y3:=kkeep gb x3;have y4:=kkeep gb x4;have y5:=kkeep gb x5))
 exact bodyPost_ret (v:=.int .i64 (-1)) (by simp [results,Tryz.results33,go_sem]) rfl ⟨rfl,kb⟩
theorem rcmpG_ (S T9:Int) s p l c q k d s2 p2 l2 c2 q2 k2 d2 (w:World) (hs1:∀ W:World,Kp w W→Calls Tryz.prog 30 #[.agg #[.bool s,.slice p l c,.slice q k d]] W fun e w'=>e = .returned (.int .i64 S)∧Kp W w') (hs2:∀ W:World,Kp w W→Calls Tryz.prog 30 #[.agg #[.bool s2,.slice p2 l2 c2,.slice q2 k2 d2]] W fun e w'=>e = .returned (.int .i64 T9)∧Kp W w') (t2:T9 < S):Calls Tryz.prog 33 #[.agg #[.bool s,.slice p l c,.slice q k d],.agg #[.bool s2,.slice p2 l2 c2,.slice q2 k2 d2]] w fun e w'=>e = .returned (.int .i64 1)∧Kp w w':=by
 go_enter Tryz.func33,Tryz.ntmps33
 go_wp2_with (first | (go_at_call_of 30 (Value.slice p l c);refine (hs1 _ ?q0).mono ?_;(case q0=>exact ((Kp.refl w).alloc _).alloc _);rintro e wa ⟨rfl,ga⟩;have ka:Kp w wa:=Kp.trans (((Kp.refl w).alloc _).alloc _) ga;have x0:=kkeep ga (b:=w.heap.size) (o:=0) (v:=.bool s) (by simp [go_sem]);have x1:=kkeep ga (b:=w.heap.size) (o:=1) (v:=.slice p l c) (by simp [go_sem]);have x2:=kkeep ga (b:=w.heap.size) (o:=2) (v:=.slice q k d) (by simp [go_sem]);have x3:=kkeep ga (b:=w.heap.size + 1) (o:=0) (v:=.bool s2) (by simp [go_sem]);have x4:=kkeep ga (b:=w.heap.size + 1) (o:=1) (v:=.slice p2 l2 c2) (by simp [go_sem]);have x5:=kkeep ga (b:=w.heap.size + 1) (o:=2) (v:=.slice q2 k2 d2) (by simp [go_sem])) | (go_at_call_of 30 (Value.slice p2 l2 c2);refine (hs2 _ ?q0).mono ?_;(case q0=>exact ka);rintro e wb ⟨rfl,gb⟩;have kb:Kp w wb:=Kp.trans ka gb;have y0:=kkeep gb x0;have y1:=kkeep gb x1;have y2:=kkeep gb x2;have y3:=kkeep gb x3;have y4:=kkeep gb x4;have y5:=kkeep gb x5))
 exact bodyPost_ret (v:=.int .i64 1) (by simp [results,Tryz.results33,go_sem]) rfl ⟨rfl,kb⟩
theorem rcmpZ_ (S C9:Int) (P1 P2:World→Value→Prop) s p l c q k d s2 p2 l2 c2 q2 k2 d2 (w:World) (hk1:∀ (W W':World) (v:Value),Kp W W'→P1 W v→P1 W' v) (hs1:∀ W:World,Kp w W→Calls Tryz.prog 30 #[.agg #[.bool s,.slice p l c,.slice q k d]] W fun e w'=>e = .returned (.int .i64 S)∧Kp W w') (hs2:∀ W:World,Kp w W→Calls Tryz.prog 30 #[.agg #[.bool s2,.slice p2 l2 c2,.slice q2 k2 d2]] W fun e w'=>e = .returned (.int .i64 S)∧Kp W w') (hT1:∀ W:World,Kp w W→Calls Tryz.prog 70 #[.slice p l c,.slice q2 k2 d2] W fun e w'=>∃ v,e = .returned v∧P1 w' v∧Kp W w') (hT2:∀ W:World,Kp w W→Calls Tryz.prog 70 #[.slice p2 l2 c2,.slice q k d] W fun e w'=>∃ v,e = .returned v∧P2 w' v∧Kp W w') (hC:∀ (W:World) (u v:Value),Kp w W→P1 W u→P2 W v→Calls Tryz.prog 71 #[u,v] W fun e w'=>e = .returned (.int .i64 C9)∧Kp W w') (t3:(S == 0) = true):Calls Tryz.prog 33 #[.agg #[.bool s,.slice p l c,.slice q k d],.agg #[.bool s2,.slice p2 l2 c2,.slice q2 k2 d2]] w fun e w'=>e = .returned (.int .i64 0)∧Kp w w':=by
 cases s
 ·skip
  go_enter Tryz.func33,Tryz.ntmps33
  go_wp2_with (first | (go_at_call_of 30 (Value.slice p l c);refine (hs1 _ ?q0).mono ?_;(case q0=>exact ((Kp.refl w).alloc _).alloc _);rintro e wa ⟨rfl,ga⟩;have ka:Kp w wa:=Kp.trans (((Kp.refl w).alloc _).alloc _) ga;have x0:=kkeep ga (b:=w.heap.size) (o:=0) (v:=.bool false) (by simp [go_sem]);have x1:=kkeep ga (b:=w.heap.size) (o:=1) (v:=.slice p l c) (by simp [go_sem]);have x2:=kkeep ga (b:=w.heap.size) (o:=2) (v:=.slice q k d) (by simp [go_sem]);have x3:=kkeep ga (b:=w.heap.size + 1) (o:=0) (v:=.bool s2) (by simp [go_sem]);have x4:=kkeep ga (b:=w.heap.size + 1) (o:=1) (v:=.slice p2 l2 c2) (by simp [go_sem]);have x5:=kkeep ga (b:=w.heap.size + 1) (o:=2) (v:=.slice q2 k2 d2) (by simp [go_sem])) | (go_at_call_of 30 (Value.slice p2 l2 c2);refine (hs2 _ ?q0).mono ?_;(case q0=>exact ka);rintro e wb ⟨rfl,gb⟩;have kb:Kp w wb:=Kp.trans ka gb;have y0:=kkeep gb x0;have y1:=kkeep gb x1;have y2:=kkeep gb x2;have y3:=kkeep gb x3;have y4:=kkeep gb x4;have y5:=kkeep gb x5))
  have dd0:True:=trivial
  have dw0:wb.drew.cell? ⟨w.heap.size,0,none⟩ = some (.bool false):=y0
  have dw1:wb.drew.cell? ⟨w.heap.size,1,none⟩ = some (.slice p l c):=y1
  have dw2:wb.drew.cell? ⟨w.heap.size,2,none⟩ = some (.slice q k d):=y2
  have dw3:wb.drew.cell? ⟨w.heap.size + 1,0,none⟩ = some (.bool s2):=y3
  have dw4:wb.drew.cell? ⟨w.heap.size + 1,1,none⟩ = some (.slice p2 l2 c2):=y4
  have dw5:wb.drew.cell? ⟨w.heap.size + 1,2,none⟩ = some (.slice q2 k2 d2):=y5
  go_region_held3 (fun w'=>w'.cell? ⟨w.heap.size,0,none⟩ = some (.bool false)∧w'.cell? ⟨w.heap.size,1,none⟩ = some (.slice p l c)∧w'.cell? ⟨w.heap.size,2,none⟩ = some (.slice q k d)∧w'.cell? ⟨w.heap.size + 1,0,none⟩ = some (.bool s2)∧w'.cell? ⟨w.heap.size + 1,1,none⟩ = some (.slice p2 l2 c2)∧w'.cell? ⟨w.heap.size + 1,2,none⟩ = some (.slice q2 k2 d2)) (first | (with_reducible exact ⟨dw0,dw1,dw2,dw3,dw4,dw5⟩) | (with_reducible exact ⟨y0,y1,y2,y3,y4,y5⟩) | (with_reducible exact ⟨a0,a1,a2,a3,a4,a5⟩) | (with_reducible exact ⟨b0,b1,b2,b3,b4,b5⟩) | (with_reducible exact ⟨e0,e1,e2,e3,e4,e5⟩)) (first | (go_at_call_of 70 (Value.slice p l c);refine (hT1 _ ?q0).mono ?_;(case q0=>exact kb.drew);rintro e wc ⟨u9,rfl,hu,gc⟩;have kc:Kp w wc:=Kp.trans kb.drew gc;have a0:=kkeep (Kp.trans (Kp.drew (Kp.refl _)) gc) y0;have a1:=kkeep (Kp.trans (Kp.drew (Kp.refl _)) gc) y1;have a2:=kkeep (Kp.trans (Kp.drew (Kp.refl _)) gc) y2;have a3:=kkeep (Kp.trans (Kp.drew (Kp.refl _)) gc) y3;have a4:=kkeep (Kp.trans (Kp.drew (Kp.refl _)) gc) y4;have a5:=kkeep (Kp.trans (Kp.drew (Kp.refl _)) gc) y5) | (go_at_call_of 70 (Value.slice p2 l2 c2);refine (hT2 _ ?q0).mono ?_;(case q0=>exact kc);rintro e wd ⟨v9,rfl,hv,gd⟩;have kd:Kp w wd:=Kp.trans kc gd;have hu2:=hk1 _ _ _ gd hu;have b0:=kkeep gd a0;have b1:=kkeep gd a1;have b2:=kkeep gd a2;have b3:=kkeep gd a3;have b4:=kkeep gd a4;have b5:=kkeep gd a5) | (go_at_call 71;refine (hC _ u9 v9 kd hu2 hv).mono ?_;rintro e we ⟨rfl,ge⟩;have ke:Kp w we:=Kp.trans kd ge;have e0:=kkeep ge b0;have e1:=kkeep ge b1;have e2:=kkeep ge b2;have e3:=kkeep ge b3;have e4:=kkeep ge b4;have e5:=kkeep ge b5))
  go_wp2
  exact bodyPost_ret (v:=.int .i64 0) (by simp [results,Tryz.results33,go_sem]) rfl ⟨rfl,ke⟩
 ·skip
  go_enter Tryz.func33,Tryz.ntmps33
  go_wp2_with (first | (go_at_call_of 30 (Value.slice p l c);refine (hs1 _ ?q0).mono ?_;(case q0=>exact ((Kp.refl w).alloc _).alloc _);rintro e wa ⟨rfl,ga⟩;have ka:Kp w wa:=Kp.trans (((Kp.refl w).alloc _).alloc _) ga;have x0:=kkeep ga (b:=w.heap.size) (o:=0) (v:=.bool true) (by simp [go_sem]);have x1:=kkeep ga (b:=w.heap.size) (o:=1) (v:=.slice p l c) (by simp [go_sem]);have x2:=kkeep ga (b:=w.heap.size) (o:=2) (v:=.slice q k d) (by simp [go_sem]);have x3:=kkeep ga (b:=w.heap.size + 1) (o:=0) (v:=.bool s2) (by simp [go_sem]);have x4:=kkeep ga (b:=w.heap.size + 1) (o:=1) (v:=.slice p2 l2 c2) (by simp [go_sem]);have x5:=kkeep ga (b:=w.heap.size + 1) (o:=2) (v:=.slice q2 k2 d2) (by simp [go_sem])) | (go_at_call_of 30 (Value.slice p2 l2 c2);refine (hs2 _ ?q0).mono ?_;(case q0=>exact ka);rintro e wb ⟨rfl,gb⟩;have kb:Kp w wb:=Kp.trans ka gb;have y0:=kkeep gb x0;have y1:=kkeep gb x1;have y2:=kkeep gb x2;have y3:=kkeep gb x3;have y4:=kkeep gb x4;have y5:=kkeep gb x5))
  have dd0:True:=trivial
  have dw0:wb.drew.cell? ⟨w.heap.size,0,none⟩ = some (.bool true):=y0
  have dw1:wb.drew.cell? ⟨w.heap.size,1,none⟩ = some (.slice p l c):=y1
  have dw2:wb.drew.cell? ⟨w.heap.size,2,none⟩ = some (.slice q k d):=y2
  have dw3:wb.drew.cell? ⟨w.heap.size + 1,0,none⟩ = some (.bool s2):=y3
  have dw4:wb.drew.cell? ⟨w.heap.size + 1,1,none⟩ = some (.slice p2 l2 c2):=y4
  have dw5:wb.drew.cell? ⟨w.heap.size + 1,2,none⟩ = some (.slice q2 k2 d2):=y5
  go_region_held3 (fun w'=>w'.cell? ⟨w.heap.size,0,none⟩ = some (.bool true)∧w'.cell? ⟨w.heap.size,1,none⟩ = some (.slice p l c)∧w'.cell? ⟨w.heap.size,2,none⟩ = some (.slice q k d)∧w'.cell? ⟨w.heap.size + 1,0,none⟩ = some (.bool s2)∧w'.cell? ⟨w.heap.size + 1,1,none⟩ = some (.slice p2 l2 c2)∧w'.cell? ⟨w.heap.size + 1,2,none⟩ = some (.slice q2 k2 d2)) (first | (with_reducible exact ⟨dw0,dw1,dw2,dw3,dw4,dw5⟩) | (with_reducible exact ⟨y0,y1,y2,y3,y4,y5⟩) | (with_reducible exact ⟨a0,a1,a2,a3,a4,a5⟩) | (with_reducible exact ⟨b0,b1,b2,b3,b4,b5⟩) | (with_reducible exact ⟨e0,e1,e2,e3,e4,e5⟩)) (first | (go_at_call_of 70 (Value.slice p l c);refine (hT1 _ ?q0).mono ?_;(case q0=>exact kb.drew);rintro e wc ⟨u9,rfl,hu,gc⟩;have kc:Kp w wc:=Kp.trans kb.drew gc;have a0:=kkeep (Kp.trans (Kp.drew (Kp.refl _)) gc) y0;have a1:=kkeep (Kp.trans (Kp.drew (Kp.refl _)) gc) y1;have a2:=kkeep (Kp.trans (Kp.drew (Kp.refl _)) gc) y2;have a3:=kkeep (Kp.trans (Kp.drew (Kp.refl _)) gc) y3;have a4:=kkeep (Kp.trans (Kp.drew (Kp.refl _)) gc) y4;have a5:=kkeep (Kp.trans (Kp.drew (Kp.refl _)) gc) y5) | (go_at_call_of 70 (Value.slice p2 l2 c2);refine (hT2 _ ?q0).mono ?_;(case q0=>exact kc);rintro e wd ⟨v9,rfl,hv,gd⟩;have kd:Kp w wd:=Kp.trans kc gd;have hu2:=hk1 _ _ _ gd hu;have b0:=kkeep gd a0;have b1:=kkeep gd a1;have b2:=kkeep gd a2;have b3:=kkeep gd a3;have b4:=kkeep gd a4;have b5:=kkeep gd a5) | (go_at_call 71;refine (hC _ u9 v9 kd hu2 hv).mono ?_;rintro e we ⟨rfl,ge⟩;have ke:Kp w we:=Kp.trans kd ge;have e0:=kkeep ge b0;have e1:=kkeep ge b1;have e2:=kkeep ge b2;have e3:=kkeep ge b3;have e4:=kkeep ge b4;have e5:=kkeep ge b5))
  go_wp2
  exact bodyPost_ret (v:=.int .i64 0) (by simp [results,Tryz.results33,go_sem]) rfl ⟨rfl,ke⟩
theorem rcmpP_ (S C9:Int) (P1 P2:World→Value→Prop) (p:Option Addr) (l c:Nat) (q:Option Addr) (k d:Nat) s2 p2 l2 c2 q2 k2 d2 (w:World) (hk1:∀ (W W':World) (v:Value),Kp W W'→P1 W v→P1 W' v) (hs1:∀ W:World,Kp w W→Calls Tryz.prog 30 #[.agg #[.bool false,.slice p l c,.slice q k d]] W fun e w'=>e = .returned (.int .i64 S)∧Kp W w') (hs2:∀ W:World,Kp w W→Calls Tryz.prog 30 #[.agg #[.bool s2,.slice p2 l2 c2,.slice q2 k2 d2]] W fun e w'=>e = .returned (.int .i64 S)∧Kp W w') (hT1:∀ W:World,Kp w W→Calls Tryz.prog 70 #[.slice p l c,.slice q2 k2 d2] W fun e w'=>∃ v,e = .returned v∧P1 w' v∧Kp W w') (hT2:∀ W:World,Kp w W→Calls Tryz.prog 70 #[.slice p2 l2 c2,.slice q k d] W fun e w'=>∃ v,e = .returned v∧P2 w' v∧Kp W w') (hC:∀ (W:World) (u v:Value),Kp w W→P1 W u→P2 W v→Calls Tryz.prog 71 #[u,v] W fun e w'=>e = .returned (.int .i64 C9)∧Kp W w') (t3:(S == 0) = false):Calls Tryz.prog 33 #[.agg #[.bool false,.slice p l c,.slice q k d],.agg #[.bool s2,.slice p2 l2 c2,.slice q2 k2 d2]] w fun e w'=>e = .returned (.int .i64 C9)∧Kp w w':=by
 go_enter Tryz.func33,Tryz.ntmps33
 go_wp2_with (first | (go_at_call_of 30 (Value.slice p l c);refine (hs1 _ ?q0).mono ?_;(case q0=>exact ((Kp.refl w).alloc _).alloc _);rintro e wa ⟨rfl,ga⟩;have ka:Kp w wa:=Kp.trans (((Kp.refl w).alloc _).alloc _) ga;have x0:=kkeep ga (b:=w.heap.size) (o:=0) (v:=.bool false) (by simp [go_sem]);have x1:=kkeep ga (b:=w.heap.size) (o:=1) (v:=.slice p l c) (by simp [go_sem]);have x2:=kkeep ga (b:=w.heap.size) (o:=2) (v:=.slice q k d) (by simp [go_sem]);have x3:=kkeep ga (b:=w.heap.size + 1) (o:=0) (v:=.bool s2) (by simp [go_sem]);have x4:=kkeep ga (b:=w.heap.size + 1) (o:=1) (v:=.slice p2 l2 c2) (by simp [go_sem]);have x5:=kkeep ga (b:=w.heap.size + 1) (o:=2) (v:=.slice q2 k2 d2) (by simp [go_sem])) | (go_at_call_of 30 (Value.slice p2 l2 c2);refine (hs2 _ ?q0).mono ?_;(case q0=>exact ka);rintro e wb ⟨rfl,gb⟩;have kb:Kp w wb:=Kp.trans ka gb;have y0:=kkeep gb x0;have y1:=kkeep gb x1;have y2:=kkeep gb x2;have y3:=kkeep gb x3;have y4:=kkeep gb x4;have y5:=kkeep gb x5))
 have dd0:True:=trivial
 have dw0:wb.drew.cell? ⟨w.heap.size,0,none⟩ = some (.bool false):=y0
 have dw1:wb.drew.cell? ⟨w.heap.size,1,none⟩ = some (.slice p l c):=y1
 have dw2:wb.drew.cell? ⟨w.heap.size,2,none⟩ = some (.slice q k d):=y2
 have dw3:wb.drew.cell? ⟨w.heap.size + 1,0,none⟩ = some (.bool s2):=y3
 have dw4:wb.drew.cell? ⟨w.heap.size + 1,1,none⟩ = some (.slice p2 l2 c2):=y4
 have dw5:wb.drew.cell? ⟨w.heap.size + 1,2,none⟩ = some (.slice q2 k2 d2):=y5
 go_region_held3 (fun w'=>w'.cell? ⟨w.heap.size,0,none⟩ = some (.bool false)∧w'.cell? ⟨w.heap.size,1,none⟩ = some (.slice p l c)∧w'.cell? ⟨w.heap.size,2,none⟩ = some (.slice q k d)∧w'.cell? ⟨w.heap.size + 1,0,none⟩ = some (.bool s2)∧w'.cell? ⟨w.heap.size + 1,1,none⟩ = some (.slice p2 l2 c2)∧w'.cell? ⟨w.heap.size + 1,2,none⟩ = some (.slice q2 k2 d2)) (first | (with_reducible exact ⟨dw0,dw1,dw2,dw3,dw4,dw5⟩) | (with_reducible exact ⟨y0,y1,y2,y3,y4,y5⟩) | (with_reducible exact ⟨a0,a1,a2,a3,a4,a5⟩) | (with_reducible exact ⟨b0,b1,b2,b3,b4,b5⟩) | (with_reducible exact ⟨e0,e1,e2,e3,e4,e5⟩)) (first | (go_at_call_of 70 (Value.slice p l c);refine (hT1 _ ?q0).mono ?_;(case q0=>exact kb.drew);rintro e wc ⟨u9,rfl,hu,gc⟩;have kc:Kp w wc:=Kp.trans kb.drew gc;have a0:=kkeep (Kp.trans (Kp.drew (Kp.refl _)) gc) y0;have a1:=kkeep (Kp.trans (Kp.drew (Kp.refl _)) gc) y1;have a2:=kkeep (Kp.trans (Kp.drew (Kp.refl _)) gc) y2;have a3:=kkeep (Kp.trans (Kp.drew (Kp.refl _)) gc) y3;have a4:=kkeep (Kp.trans (Kp.drew (Kp.refl _)) gc) y4;have a5:=kkeep (Kp.trans (Kp.drew (Kp.refl _)) gc) y5) | (go_at_call_of 70 (Value.slice p2 l2 c2);refine (hT2 _ ?q0).mono ?_;(case q0=>exact kc);rintro e wd ⟨v9,rfl,hv,gd⟩;have kd:Kp w wd:=Kp.trans kc gd;have hu2:=hk1 _ _ _ gd hu;have b0:=kkeep gd a0;have b1:=kkeep gd a1;have b2:=kkeep gd a2;have b3:=kkeep gd a3;have b4:=kkeep gd a4;have b5:=kkeep gd a5) | (go_at_call 71;refine (hC _ u9 v9 kd hu2 hv).mono ?_;rintro e we ⟨rfl,ge⟩;have ke:Kp w we:=Kp.trans kd ge;have e0:=kkeep ge b0;have e1:=kkeep ge b1;have e2:=kkeep ge b2;have e3:=kkeep ge b3;have e4:=kkeep ge b4;have e5:=kkeep ge b5))
 go_wp2
 exact bodyPost_ret (v:=.int .i64 C9) (by simp [results,Tryz.results33,go_sem]) rfl ⟨rfl,ke⟩
theorem rcmpN_ (S C9:Int) (P1 P2:World→Value→Prop) (p:Option Addr) (l c:Nat) (q:Option Addr) (k d:Nat) s2 p2 l2 c2 q2 k2 d2 (w:World) (hk1:∀ (W W':World) (v:Value),Kp W W'→P1 W v→P1 W' v) (hs1:∀ W:World,Kp w W→Calls Tryz.prog 30 #[.agg #[.bool true,.slice p l c,.slice q k d]] W fun e w'=>e = .returned (.int .i64 S)∧Kp W w') (hs2:∀ W:World,Kp w W→Calls Tryz.prog 30 #[.agg #[.bool s2,.slice p2 l2 c2,.slice q2 k2 d2]] W fun e w'=>e = .returned (.int .i64 S)∧Kp W w') (hT1:∀ W:World,Kp w W→Calls Tryz.prog 70 #[.slice p l c,.slice q2 k2 d2] W fun e w'=>∃ v,e = .returned v∧P1 w' v∧Kp W w') (hT2:∀ W:World,Kp w W→Calls Tryz.prog 70 #[.slice p2 l2 c2,.slice q k d] W fun e w'=>∃ v,e = .returned v∧P2 w' v∧Kp W w') (hC:∀ (W:World) (u v:Value),Kp w W→P1 W u→P2 W v→Calls Tryz.prog 71 #[u,v] W fun e w'=>e = .returned (.int .i64 C9)∧Kp W w') (t3:(S == 0) = false) (t4:IntKind.i64.wrap (-C9) = -C9):Calls Tryz.prog 33 #[.agg #[.bool true,.slice p l c,.slice q k d],.agg #[.bool s2,.slice p2 l2 c2,.slice q2 k2 d2]] w fun e w'=>e = .returned (.int .i64 (-C9))∧Kp w w':=by
 go_enter Tryz.func33,Tryz.ntmps33
 go_wp2_with (first | (go_at_call_of 30 (Value.slice p l c);refine (hs1 _ ?q0).mono ?_;(case q0=>exact ((Kp.refl w).alloc _).alloc _);rintro e wa ⟨rfl,ga⟩;have ka:Kp w wa:=Kp.trans (((Kp.refl w).alloc _).alloc _) ga;have x0:=kkeep ga (b:=w.heap.size) (o:=0) (v:=.bool true) (by simp [go_sem]);have x1:=kkeep ga (b:=w.heap.size) (o:=1) (v:=.slice p l c) (by simp [go_sem]);have x2:=kkeep ga (b:=w.heap.size) (o:=2) (v:=.slice q k d) (by simp [go_sem]);have x3:=kkeep ga (b:=w.heap.size + 1) (o:=0) (v:=.bool s2) (by simp [go_sem]);have x4:=kkeep ga (b:=w.heap.size + 1) (o:=1) (v:=.slice p2 l2 c2) (by simp [go_sem]);have x5:=kkeep ga (b:=w.heap.size + 1) (o:=2) (v:=.slice q2 k2 d2) (by simp [go_sem])) | (go_at_call_of 30 (Value.slice p2 l2 c2);refine (hs2 _ ?q0).mono ?_;(case q0=>exact ka);rintro e wb ⟨rfl,gb⟩;have kb:Kp w wb:=Kp.trans ka gb;have y0:=kkeep gb x0;have y1:=kkeep gb x1;have y2:=kkeep gb x2;have y3:=kkeep gb x3;have y4:=kkeep gb x4;have y5:=kkeep gb x5))
 have dd0:True:=trivial
 have dw0:wb.drew.cell? ⟨w.heap.size,0,none⟩ = some (.bool true):=y0
 have dw1:wb.drew.cell? ⟨w.heap.size,1,none⟩ = some (.slice p l c):=y1
 have dw2:wb.drew.cell? ⟨w.heap.size,2,none⟩ = some (.slice q k d):=y2
 have dw3:wb.drew.cell? ⟨w.heap.size + 1,0,none⟩ = some (.bool s2):=y3
 have dw4:wb.drew.cell? ⟨w.heap.size + 1,1,none⟩ = some (.slice p2 l2 c2):=y4
 have dw5:wb.drew.cell? ⟨w.heap.size + 1,2,none⟩ = some (.slice q2 k2 d2):=y5
 go_region_held3 (fun w'=>w'.cell? ⟨w.heap.size,0,none⟩ = some (.bool true)∧w'.cell? ⟨w.heap.size,1,none⟩ = some (.slice p l c)∧w'.cell? ⟨w.heap.size,2,none⟩ = some (.slice q k d)∧w'.cell? ⟨w.heap.size + 1,0,none⟩ = some (.bool s2)∧w'.cell? ⟨w.heap.size + 1,1,none⟩ = some (.slice p2 l2 c2)∧w'.cell? ⟨w.heap.size + 1,2,none⟩ = some (.slice q2 k2 d2)) (first | (with_reducible exact ⟨dw0,dw1,dw2,dw3,dw4,dw5⟩) | (with_reducible exact ⟨y0,y1,y2,y3,y4,y5⟩) | (with_reducible exact ⟨a0,a1,a2,a3,a4,a5⟩) | (with_reducible exact ⟨b0,b1,b2,b3,b4,b5⟩) | (with_reducible exact ⟨e0,e1,e2,e3,e4,e5⟩)) (first | (go_at_call_of 70 (Value.slice p l c);refine (hT1 _ ?q0).mono ?_;(case q0=>exact kb.drew);rintro e wc ⟨u9,rfl,hu,gc⟩;have kc:Kp w wc:=Kp.trans kb.drew gc;have a0:=kkeep (Kp.trans (Kp.drew (Kp.refl _)) gc) y0;have a1:=kkeep (Kp.trans (Kp.drew (Kp.refl _)) gc) y1;have a2:=kkeep (Kp.trans (Kp.drew (Kp.refl _)) gc) y2;have a3:=kkeep (Kp.trans (Kp.drew (Kp.refl _)) gc) y3;have a4:=kkeep (Kp.trans (Kp.drew (Kp.refl _)) gc) y4;have a5:=kkeep (Kp.trans (Kp.drew (Kp.refl _)) gc) y5) | (go_at_call_of 70 (Value.slice p2 l2 c2);refine (hT2 _ ?q0).mono ?_;(case q0=>exact kc);rintro e wd ⟨v9,rfl,hv,gd⟩;have kd:Kp w wd:=Kp.trans kc gd;have hu2:=hk1 _ _ _ gd hu;have b0:=kkeep gd a0;have b1:=kkeep gd a1;have b2:=kkeep gd a2;have b3:=kkeep gd a3;have b4:=kkeep gd a4;have b5:=kkeep gd a5) | (go_at_call 71;refine (hC _ u9 v9 kd hu2 hv).mono ?_;rintro e we ⟨rfl,ge⟩;have ke:Kp w we:=Kp.trans kd ge;have e0:=kkeep ge b0;have e1:=kkeep ge b1;have e2:=kkeep ge b2;have e3:=kkeep ge b3;have e4:=kkeep ge b4;have e5:=kkeep ge b5))
 go_wp2
 exact bodyPost_ret (v:=.int .i64 (-C9)) (by simp [results,Tryz.results33,go_sem]) rfl ⟨rfl,ke⟩
theorem timesR (v1 v2:Value) (a b:Nat) (w:World) (h1:Ls w v1 (dig a)) (h2:Ls w v2 (dig b)) (l1:len32 a≤16384) (l2:len32 b≤16384) :
  Calls Tryz.prog 70 #[v1,v2] w fun e w'=>∃ p c,e = .returned (.slice p (dig (a * b)).length c)∧Arr w' p (dig (a * b))∧(dig (a * b)).length≤c∧Kp w w':=by
 obtain ⟨p,c,rfl,hA,hc⟩:=h1
 obtain ⟨q,d,rfl,hB,hd⟩:=h2
 have h:=rtimes_ p q c d (dig a) (dig b) w hA hB (Wd_dig a) (Wd_dig b) (by change len32 a≤_;omega) (by change len32 b≤_;omega)
 rw [val_dig,val_dig] at h
 refine h.mono ?_
 rintro e w' ⟨v,h1,h2,h3⟩
 obtain ⟨p,c,rfl,h4,h5⟩:=h2.arr
 exact ⟨p,c,h1,h4,h5,h3⟩

def rvI (s:Bool) (a:Nat):Int:=if s then -(a:Int) else a
def cmI (x y:Int):Int:=if x < y then -1 else if y < x then 1 else 0
theorem rcmp6_ s p l c q k d s2 p2 l2 c2 q2 k2 d2 (a b x y:Nat) (B1 B2:Nat) (w:World) (h1:Own w B1 (.slice p l c) (dig a)) (h2:Own w B1 (.slice q k d) (dig b)) (h3:Own w B2 (.slice p2 l2 c2) (dig x)) (h4:Own w B2 (.slice q2 k2 d2) (dig y)) (zb:b≠0) (zy:y≠0) (la:blen a≤200000) (lb:blen b≤200000) (lx:blen x≤200000) (ly:blen y≤200000):Calls Tryz.prog 33 #[.agg #[.bool s,.slice p l c,.slice q k d],.agg #[.bool s2,.slice p2 l2 c2,.slice q2 k2 d2]] w fun e w'=>e = .returned (.int .i64 (cmI (rvI s a * y) (rvI s2 x * b)))∧Kp w w':=by
 have hs1:∀ W:World,Kp w W→Calls Tryz.prog 30 #[.agg #[.bool s,.slice p l c,.slice q k d]] W fun e w'=>e = .returned (.int .i64 (if a = 0 then 0 else if s then -1 else 1))∧Kp W w':=fun W g=>rsign_ s _ _ a W (h1.kp g).ls (by omega)
 have hs2:∀ W:World,Kp w W→Calls Tryz.prog 30 #[.agg #[.bool s2,.slice p2 l2 c2,.slice q2 k2 d2]] W fun e w'=>e = .returned (.int .i64 (if x = 0 then 0 else if s2 then -1 else 1))∧Kp W w':=fun W g=>rsign_ s2 _ _ x W (h3.kp g).ls (by omega)
 have len:∀ z:Nat,blen z≤200000→len32 z≤16384:=fun z hz=>dlen z 16384 (by omega)
 have hT1:∀ W:World,Kp w W→Calls Tryz.prog 70 #[.slice p l c,.slice q2 k2 d2] W fun e w'=>∃ v,e = .returned v∧Ls w' v (dig (a * y))∧Kp W w':=fun W g=>(timesR _ _ a y W (h1.kp g).ls (h4.kp g).ls (len a la) (len y ly)).mono (fun e w' ⟨pp,cc,e1,ar,ll,g2⟩=>⟨_,e1,⟨pp,cc,rfl,ar,ll⟩,g2⟩)
 have hT2:∀ W:World,Kp w W→Calls Tryz.prog 70 #[.slice p2 l2 c2,.slice q k d] W fun e w'=>∃ v,e = .returned v∧Ls w' v (dig (x * b))∧Kp W w':=fun W g=>(timesR _ _ x b W (h3.kp g).ls (h2.kp g).ls (len x lx) (len b lb)).mono (fun e w' ⟨pp,cc,e1,ar,ll,g2⟩=>⟨_,e1,⟨pp,cc,rfl,ar,ll⟩,g2⟩)
 have bl:∀ u v:Nat,blen u≤200000→blen v≤200000→blen (u * v)≤33554432:=fun u v h1 h2=>by
  obtain ⟨T5,hT5⟩:∃ T5:Nat,T5 = 200000:=⟨_,rfl⟩
  have g:blen (u * v)≤T5 + T5:=by
   rw [blen_le_iff,Nat.pow_add]
   exact Nat.mul_lt_mul'' ((blen_le_iff u T5).1 (by omega)) ((blen_le_iff v T5).1 (by omega))
  omega
 have hC:∀ (W:World) (u v:Value),Kp w W→Ls W u (dig (a * y))→Ls W v (dig (x * b))→Calls Tryz.prog 71 #[u,v] W fun e w'=>e = .returned (.int .i64 (cmpN (a * y) (x * b)))∧Kp W w':=fun W u v _ g1 g2=>cmpR u v (a * y) (x * b) W g1 g2 (bl a y la ly) (bl x b lx lb)
 have hk:∀ (W W':World) (v:Value),Kp W W'→Ls W v (dig (a * y))→Ls W' v (dig (a * y)):=fun W W' v g h=>h.kp g
 have py:0 < y:=by omega
 have pb:0 < b:=by omega
 have key:∀ u v:Nat,0 < v→0 < u→0 < u * v:=fun u v h1 h2=>Nat.mul_pos h2 h1
 obtain ⟨A9,hA9⟩:∃ A9,A9 = a * y:=⟨_,rfl⟩
 obtain ⟨X9,hX9⟩:∃ X9,X9 = x * b:=⟨_,rfl⟩
 have eA:rvI s a * (y:Int) = rvI s A9:=by unfold rvI;rw [hA9];cases s <;> simp [Int.neg_mul]
 have eX:rvI s2 x * (b:Int) = rvI s2 X9:=by unfold rvI;rw [hX9];cases s2 <;> simp [Int.neg_mul]
 have zA:a = 0 ↔ A9 = 0:=by rw [hA9];constructor <;> intro h;rw [h];simp;rcases Nat.mul_eq_zero.1 h with h | h;exact h;omega
 have zX:x = 0 ↔ X9 = 0:=by rw [hX9];constructor <;> intro h;rw [h];simp;rcases Nat.mul_eq_zero.1 h with h | h;exact h;omega
 rw [eA,eX]
 rw [← hA9] at hT1 hC hk
 rw [← hX9] at hT2 hC
 simp only [zA] at hs1
 simp only [zX] at hs2
 obtain ⟨S,hS⟩:∃ S:Int,S = if A9 = 0 then 0 else if s then -1 else 1:=⟨_,rfl⟩
 obtain ⟨U,hU⟩:∃ U:Int,U = if X9 = 0 then 0 else if s2 then -1 else 1:=⟨_,rfl⟩
 rw [← hS] at hs1
 rw [← hU] at hs2
 have hcm:cmpN A9 X9 = cmI (A9:Int) X9:=by
  unfold cmpN cmI
  by_cases c1:A9 < X9
  ·rw [if_pos c1,if_pos (show (A9:Int) < X9 by omega)]
  ·rw [if_neg c1,if_neg (show ¬ (A9:Int) < X9 by omega)]
   by_cases c2:X9 < A9
   ·rw [if_pos c2,if_pos (show (X9:Int) < A9 by omega)]
   ·rw [if_neg c2,if_neg (show ¬ (X9:Int) < A9 by omega)]
 clear eA eX zA zX hA9 hX9 h1 h2 h3 h4
 have e1:S < U→cmI (rvI s A9) (rvI s2 X9) = -1:=fun g=>by
  rw [hS,hU] at g
  unfold cmI rvI
  rw [if_pos]
  by_cases c1:A9 = 0 <;> by_cases c2:X9 = 0 <;> cases s <;> cases s2 <;> simp [c1,c2] at g ⊢ <;> omega
 have e2:U < S→cmI (rvI s A9) (rvI s2 X9) = 1:=fun g=>by
  rw [hS,hU] at g
  have:rvI s2 X9 < rvI s A9:=by
   unfold rvI
   by_cases c1:A9 = 0 <;> by_cases c2:X9 = 0 <;> cases s <;> cases s2 <;> simp [c1,c2] at g ⊢ <;> omega
  unfold cmI
  rw [if_neg (by omega),if_pos this]
 rcases Int.lt_trichotomy S U with g | g | g
 ·rw [e1 g]
  exact rcmpL_ S U s p l c q k d s2 p2 l2 c2 q2 k2 d2 w hs1 hs2 g
 ·rw [← g] at hs2
  by_cases z:A9 = 0
  ·have zU:X9 = 0:=by
    rw [hS,hU,if_pos z] at g
    by_cases c2:X9 = 0
    ·exact c2
    ·rw [if_neg c2] at g;cases s2 <;> simp at g
   have e3:cmI (rvI s A9) (rvI s2 X9) = 0:=by rw [z,zU];cases s <;> cases s2 <;> rfl
   rw [e3]
   exact rcmpZ_ S _ _ _ s p l c q k d s2 p2 l2 c2 q2 k2 d2 w hk hs1 hs2 hT1 hT2 hC (by rw [hS,if_pos z];rfl)
  ·have zS:(S == 0) = false:=by rw [hS,if_neg z];cases s <;> rfl
   have ss:s = s2:=by
    rw [hS,hU,if_neg z] at g
    by_cases c2:X9 = 0
    ·rw [if_pos c2] at g;cases s <;> simp at g
    ·rw [if_neg c2] at g;cases s <;> cases s2 <;> simp at g ⊢
   subst ss
   cases s
   ·have e3:cmI (rvI false A9) (rvI false X9) = cmpN A9 X9:=hcm.symm
    rw [e3]
    exact rcmpP_ S _ _ _ p l c q k d false p2 l2 c2 q2 k2 d2 w hk hs1 hs2 hT1 hT2 hC zS
   ·have e3:cmI (rvI true A9) (rvI true X9) = - cmpN A9 X9:=by
     rw [hcm];unfold cmI rvI
     by_cases c1:A9 < X9
     ·rw [if_neg (by simp;omega),if_pos (by simp;omega),if_pos (by omega)];rfl
     ·by_cases c2:X9 < A9
      ·rw [if_pos (by simp;omega),if_neg (by omega),if_pos (by omega)]
      ·rw [if_neg (by simp;omega),if_neg (by simp;omega),if_neg (by omega),if_neg (by omega)];rfl
    have wr:IntKind.i64.wrap (-(cmpN A9 X9)) = -(cmpN A9 X9):=by
     rw [hcm];unfold cmI
     by_cases c1:(A9:Int) < X9
     ·rw [if_pos c1];decide +kernel
     ·rw [if_neg c1]
      by_cases c2:(X9:Int) < A9
      ·rw [if_pos c2];decide +kernel
      ·rw [if_neg c2];decide +kernel
    rw [e3]
    exact rcmpN_ S _ _ _ p l c q k d true p2 l2 c2 q2 k2 d2 w hk hs1 hs2 hT1 hT2 hC zS wr
 ·rw [e2 g]
  exact rcmpG_ S U s p l c q k d s2 p2 l2 c2 q2 k2 d2 w hs1 hs2 g

def RF (s:Bool) (a b:Nat) (n:Bool) (m:Nat):Prop:=∀ K:Nat,K = 1074→b≠0∧a * 2 ^ K = Fq.vV Ieee.double m * b∧Iv n m = (if s then -((Fq.vV Ieee.double m:Nat):Int) else ((Fq.vV Ieee.double m:Nat):Int))∧blen a≤1500∧blen b≤1500
def RP (base:Nat) (w:World) (s:Bool) (p:Option Addr) (l c:Nat) (q:Option Addr) (k d:Nat) (n:Bool) (m:Nat):Prop:=∃ a b,Own w base (.slice p l c) (dig a)∧Own w base (.slice q k d) (dig b)∧RF s a b n m
theorem RP.kp {base:Nat} {w w':World} {s:Bool} {p:Option Addr} {l c:Nat} {q:Option Addr} {k d:Nat} {n:Bool} {m:Nat} (h:RP base w s p l c q k d n m) (g:Kp w w'):RP base w' s p l c q k d n m:=by
 obtain ⟨a,b,h1,h2,h3⟩:=h
 exact ⟨a,b,h1.kp g,h2.kp g,h3⟩
theorem RP.mono {base base':Nat} {w:World} {s:Bool} {p:Option Addr} {l c:Nat} {q:Option Addr} {k d:Nat} {n:Bool} {m:Nat} (h:RP base w s p l c q k d n m) (g:base'≤base):RP base' w s p l c q k d n m:=by
 obtain ⟨a,b,h1,h2,h3⟩:=h
 exact ⟨a,b,h1.mono g,h2.mono g,h3⟩
theorem RP.set {base:Nat} {w:World} {s:Bool} {p:Option Addr} {l c:Nat} {q:Option Addr} {k d:Nat} {n:Bool} {m:Nat} (h:RP base w s p l c q k d n m) {x:Addr} (hx:x.block < base) (u:Value):RP base (w.setCell x u) s p l c q k d n m:=by
 obtain ⟨a,b,h1,h2,h3⟩:=h
 exact ⟨a,b,h1.setOther hx u,h2.setOther hx u,h3⟩
theorem fromR_ (n:Bool) (m:Nat) (hm:m < 9218868437227405312) (w:World):Calls Tryz.prog 26 #[.int .u64 ((Fq.wD n m:Nat):Int)] w fun e w'=>∃ s p l c q k d,e = .returned (.agg #[.bool s,.slice p l c,.slice q k d])∧RP w.heap.size w' s p l c q k d n m∧Kp w w':=by
 have h:=fromBits_ n m hm w
 refine Calls.mono (show Calls Tryz.prog 26 #[.int .u64 ((Fq.wD n m:Nat):Int)] w _ from h) ?_
 rintro e w' ⟨vn,vd,a,b,s,rfl,o1,o2,⟨hF,hs⟩,g⟩
 obtain ⟨p,c,rfl,-,-⟩:=o1.arr
 obtain ⟨q,d,rfl,-,-⟩:=o2.arr
 obtain ⟨v1,v2,v3,v4,v5⟩:=Fq.vlsgD m hm
 have hF':FracOf (Fq.sgD m) 1 (Fq.epD m) a b:=hF
 have hs':Fq.sgD m≠0→s = n:=hs
 have hval:Fq.vV Ieee.double m = Fq.sgD m * 2 ^ (Fq.epD m + 1074).toNat:=v1.symm
 refine ⟨s,p,_,c,q,_,d,rfl,⟨a,b,o1,o2,fun K hK=>⟨hF'.1, ?_, ?_, ?_, ?_⟩⟩,g⟩
 ·by_cases c0:Fq.sgD m = 0
  ·rw [hval,c0,hF'.2.1.2 c0];simp
  ·rw [hval]
   exact frac_exact (Fq.sgD m) (Fq.epD m) a b K (Fq.epD m + 1074).toNat hF' c0 (by omega)
 ·unfold Iv
  by_cases c0:Fq.sgD m = 0
  ·have:Fq.vV Ieee.double m = 0:=by rw [hval,c0];simp
   rw [this];cases n <;> cases s <;> simp
  ·rw [hs' c0]
 ·have h1:=hF'.2.2.2.1
  have h2:blen (Fq.sgD m)≤53:=by rw [blen_le_iff,show (2:Nat) ^ 53 = 9007199254740992 from by decide];exact v2
  omega
 ·have h1:=hF'.2.2.2.2
  have h2:blen 1 = 1:=blen_uniq 1 0 (by decide) (by decide)
  omega
theorem dig_zero6:dig 0 = []:=by decide +kernel
theorem dig_one6:dig 1 = [1]:=by decide +kernel
theorem int0_ (w:World):Calls Tryz.prog 32 #[.int .i64 0] w fun e w'=>∃ s p l c q k d,e = .returned (.agg #[.bool s,.slice p l c,.slice q k d])∧RP w.heap.size w' s p l c q k d false 0∧Kp w w':=by
 obtain ⟨B,hB⟩:∃ B,B = w.heap.size:=⟨_,rfl⟩
 obtain ⟨w0,hw0⟩:∃ w0,w0 = w.alloc (.cells #[.bool false,.slice none 0 0,.slice none 0 0] 43):=⟨_,rfl⟩
 have kw:Kp w w0:=by rw [hw0];exact (Kp.refl w).alloc _
 obtain ⟨r0,r1,r2,f0,f1,f2⟩:w0.cell? ⟨B,0,none⟩ = some (.bool false)∧w0.cell? ⟨B,1,none⟩ = some (.slice none 0 0)∧w0.cell? ⟨B,2,none⟩ = some (.slice none 0 0)∧w0.frozen? ⟨B,0,none⟩ = false∧w0.frozen? ⟨B,1,none⟩ = false∧w0.frozen? ⟨B,2,none⟩ = false:=by rw [hw0,hB];simp [go_sem]
 have hlt:=cell_lt r0
 have hs:=rsmall_ 0 (by decide) w0
 have HW:Hid (w0 = w.alloc (.cells #[.bool false,.slice none 0 0,.slice none 0 0] 43)∧B = w.heap.size∧Kp w w0):=⟨hw0,hB,kw⟩
 clear hw0 hB kw
 go_enter Tryz.func32,Tryz.ntmps32
 go_wp2_with fail
 rw [← HW.out.2.1]
 try rw [← HW.out.1]
 refine hs.mono ?_;rintro e w1 ⟨v,rfl,ho,k1⟩
 obtain ⟨pv,cv,rfl,hav,hcv⟩:=ho.arr
 obtain ⟨L,hL⟩:∃ L,L = (dig 0).length:=⟨_,rfl⟩
 rw [← hL]
 obtain ⟨g4,hg4⟩:∃ g4,g4 = w1.heap.size:=⟨_,rfl⟩
 obtain ⟨w4,hw4⟩:∃ w4,w4 = w1.alloc (.cells #[.int .u32 1] 81):=⟨_,rfl⟩
 have k4:Kp w1 w4:=by rw [hw4];exact (Kp.refl _).alloc _
 have ar4:Arr w4 (some ⟨g4,0,none⟩) (dig 1):=by
  have h:=(row1 w1 1).all rfl
  rw [← hw4,← hg4] at h
  rw [dig_one6]
  exact h
 have h:=frac_ false (.slice pv (dig 0).length cv) (.slice (some ⟨g4,0,none⟩) (dig 1).length 1) (dig 0) (dig 1) 0 w4 ⟨pv,cv,rfl,hav.grown k4,hcv⟩ ⟨some ⟨g4,0,none⟩,1,rfl,ar4,by rw [dig_one6];decide⟩ (Wd_dig _) (Wd_dig _) (by rw [dig_zero6];decide) (by rw [dig_one6];decide) (by rw [val_dig];decide) (by decide)
 rw [val_dig,val_dig] at h
 rw [show (dig 1).length = 1 from by rw [dig_one6];rfl] at h
 rw [← hL] at h
 have k04:=k1.trans k4
 have HG:Hid (g4 = w1.heap.size∧w4 = w1.alloc (.cells #[.int .u32 1] 81)):=⟨hg4,hw4⟩
 replace r0:=kkeep k04 r0
 replace r1:=kkeep k04 r1
 replace r2:=kkeep k04 r2
 replace f0:=(kfro k04 hlt).trans f0
 replace f1:=(kfro k04 hlt).trans f1
 replace f2:=(kfro k04 hlt).trans f2
 have HK:Hid (Kp w0 w4∧B < w0.heap.size):=⟨k04,hlt⟩
 have hlt4:=cell_lt r0
 clear hs ho hav hcv hL hg4 hw4 k4 ar4 k1 k04 hlt
 go_wp2_with fail
 rw [← HG.out.1,← HG.out.2]
 refine h.mono ?_;rintro e w5 ⟨vn,vd,a',b',ng,rfl,o1,o2,ff,k5⟩
 obtain ⟨pn,cn,rfl,an,ln⟩:=o1.arr
 obtain ⟨pd,cd,rfl,ad,ld⟩:=o2.arr
 replace r0:=kkeep k5 r0
 replace r1:=kkeep k5 r1
 replace r2:=kkeep k5 r2
 replace f0:=(kfro k5 hlt4).trans f0
 replace f1:=(kfro k5 hlt4).trans f1
 replace f2:=(kfro k5 hlt4).trans f2
 have hp:RP w4.heap.size w5 ng pn (dig a').length cn pd (dig b').length cd false 0:=by
  refine ⟨a',b',o1,o2,fun K hK=>⟨ff.1.1, ?_, ?_, ?_, ?_⟩⟩
  ·rw [ff.1.2.1.2 rfl,Fq.vV_zero];simp
  ·unfold Iv;rw [Fq.vV_zero];cases ng <;> rfl
  ·have:=ff.1.2.2.2.1;rw [ff.1.2.1.2 rfl];rw [blen_zero];omega
  ·have:=ff.1.2.2.2.2
   have h2:blen 1 = 1:=blen_uniq 1 0 (by decide) (by decide)
   simp at this;omega
 have hq:=(((hp.set (x:=⟨B,0,none⟩) hlt4 (.bool ng)).set (x:=⟨B,1,none⟩) hlt4 (.slice pn (dig a').length cn)).set (x:=⟨B,2,none⟩) hlt4 (.slice pd (dig b').length cd)).mono (base':=w.heap.size) (by have h1:=Below.size HW.out.2.2;have h2:=Below.size HK.out.1;omega)
 have hkw:Kp w (((w5.setCell ⟨B,0,none⟩ (.bool ng)).setCell ⟨B,1,none⟩ (.slice pn (dig a').length cn)).setCell ⟨B,2,none⟩ (.slice pd (dig b').length cd)):=by
  have hB:=HW.out.2.1
  exact ((((HW.out.2.2.trans HK.out.1).trans k5).setCell (by rw [hB];exact Nat.le_refl _) _).setCell (by rw [hB];exact Nat.le_refl _) _).setCell (by rw [hB];exact Nat.le_refl _) _
 generalize (dig a').length = La at hq hkw ⊢
 generalize (dig b').length = Lb at hq hkw ⊢
 have HO:Hid (_∧_):=⟨hq,hkw⟩
 clear h hp hq hkw o1 o2 ff k5 an ln ad ld hlt4 HG
 go_wp2
 exact bodyPost_ret (v:=.agg #[.bool ng,.slice pn La cn,.slice pd Lb cd]) (by simp [results,Tryz.results32,go_sem,r0,r1,r2]) rfl ⟨ng,pn,La,cn,pd,Lb,cd,rfl,HO.out.1,HO.out.2⟩
theorem boundI_ (w:World):Calls Tryz.prog 93 #[.int .u64 9218868437227405312] w fun e w'=>∃ s p l c q k d,e = .returned (.agg #[.int .i64 1,.bool s,.slice p l c,.slice q k d])∧RP w.heap.size w' s p l c q k d false 0∧Kp w w':=by
 go_enter Tryz.func93,Tryz.ntmps93
 go_wp2_with (first | (go_at_call 32;refine (int0_ _).mono ?_;rintro e w1 ⟨s,p,l,c,q,k,d,rfl,hp,g1⟩;obtain ⟨r0,rz0,r1,rz1,r2,rz2,r3,rz3⟩:=FK4 g1 (w.heap.size) (.int .i64 0) (.bool false) (.slice none 0 0) (.slice none 0 0) (by simp [go_sem])))
 exact bodyPost_ret (v:=.agg #[.int .i64 1,.bool s,.slice p l c,.slice q k d]) (by simp [results,Tryz.results93,go_sem,r0,r1,r2,r3]) rfl ⟨s,p,l,c,q,k,d,rfl,RP.mono (((((hp).set (x:=⟨w.heap.size,0,none⟩) (by simp) (.int .i64 1)).set (x:=⟨w.heap.size,1,none⟩) (by simp) (.bool s)).set (x:=⟨w.heap.size,2,none⟩) (by simp) (.slice p l c)).set (x:=⟨w.heap.size,3,none⟩) (by simp) (.slice q k d)) (by simp),KS4 ((Kp.trans ((Kp.refl w).alloc _) g1)) (Nat.le_refl _)⟩
theorem boundM_ (w:World):Calls Tryz.prog 93 #[.int .u64 18442240474082181120] w fun e w'=>∃ s p l c q k d,e = .returned (.agg #[.int .i64 (-1),.bool s,.slice p l c,.slice q k d])∧RP w.heap.size w' s p l c q k d false 0∧Kp w w':=by
 go_enter Tryz.func93,Tryz.ntmps93
 go_wp2_with (first | (go_at_call 32;refine (int0_ _).mono ?_;rintro e w1 ⟨s,p,l,c,q,k,d,rfl,hp,g1⟩;obtain ⟨r0,rz0,r1,rz1,r2,rz2,r3,rz3⟩:=FK4 g1 (w.heap.size) (.int .i64 0) (.bool false) (.slice none 0 0) (.slice none 0 0) (by simp [go_sem])))
 exact bodyPost_ret (v:=.agg #[.int .i64 (-1),.bool s,.slice p l c,.slice q k d]) (by simp [results,Tryz.results93,go_sem,r0,r1,r2,r3]) rfl ⟨s,p,l,c,q,k,d,rfl,RP.mono (((((hp).set (x:=⟨w.heap.size,0,none⟩) (by simp) (.int .i64 (-1))).set (x:=⟨w.heap.size,1,none⟩) (by simp) (.bool s)).set (x:=⟨w.heap.size,2,none⟩) (by simp) (.slice p l c)).set (x:=⟨w.heap.size,3,none⟩) (by simp) (.slice q k d)) (by simp),KS4 ((Kp.trans ((Kp.refl w).alloc _) g1)) (Nat.le_refl _)⟩
theorem boundF_ (n:Bool) (m:Nat) (hm:m < 9218868437227405312) (ht:Fq.wD n m≠9223372036854775808) (w:World):Calls Tryz.prog 93 #[.int .u64 ((Fq.wD n m:Nat):Int)] w fun e w'=>∃ s p l c q k d,e = .returned (.agg #[.int .i64 0,.bool s,.slice p l c,.slice q k d])∧RP w.heap.size w' s p l c q k d n m∧Kp w w':=by
 have hf:=fromR_ n m hm
 have hq:=Fq.rplain6_ n m (by omega)
 rw [show Fq.pla (Fq.wD n m) = Fq.wD n m from by unfold Fq.pla;rw [if_neg ht]] at hq
 have t1:(((Fq.wD n m:Nat):Int) == 9218868437227405312) = false:=by
  have:Fq.wD n m≠9218868437227405312:=by unfold Fq.wD;cases n <;> simp <;> omega
  simp;omega
 have t2:(((Fq.wD n m:Nat):Int) == 18442240474082181120) = false:=by
  have:Fq.wD n m≠18442240474082181120:=by unfold Fq.wD;cases n <;> simp <;> omega
  simp;omega
 generalize ((Fq.wD n m:Nat):Int) = X at hf hq t1 t2 ⊢
 clear hm ht
 go_enter Tryz.func93,Tryz.ntmps93
 go_wp2_with (first | (go_at_call 65;refine (hq _).mono ?_;rintro e w' ⟨rfl,rfl⟩) | (go_at_call 26;refine (hf _).mono ?_;rintro e w1 ⟨s,p,l,c,q,k,d,rfl,hp,g1⟩;obtain ⟨r0,rz0,r1,rz1,r2,rz2,r3,rz3⟩:=FK4 g1 (w.heap.size) (.int .i64 0) (.bool false) (.slice none 0 0) (.slice none 0 0) (by simp [go_sem])))
 exact bodyPost_ret (v:=.agg #[.int .i64 0,.bool s,.slice p l c,.slice q k d]) (by simp [results,Tryz.results93,go_sem,r0,r1,r2,r3]) rfl ⟨s,p,l,c,q,k,d,rfl,RP.mono (((((hp).set (x:=⟨w.heap.size,0,none⟩) (by simp) (.int .i64 0)).set (x:=⟨w.heap.size,1,none⟩) (by simp) (.bool s)).set (x:=⟨w.heap.size,2,none⟩) (by simp) (.slice p l c)).set (x:=⟨w.heap.size,3,none⟩) (by simp) (.slice q k d)) (by simp),KS4 ((Kp.trans ((Kp.refl w).alloc _) g1)) (Nat.le_refl _)⟩
def infS (n:Bool) (m:Nat):Int:=if m = 9218868437227405312 then (if n then -1 else 1) else 0
def fN (n:Bool) (m:Nat):Bool:=if m = 9218868437227405312 then false else n
def fM (m:Nat):Nat:=if m = 9218868437227405312 then 0 else m
theorem bound_ (n:Bool) (m:Nat) (hm:m≤9218868437227405312) (ht:Fq.wD n m≠9223372036854775808) (w:World):Calls Tryz.prog 93 #[.int .u64 ((Fq.wD n m:Nat):Int)] w fun e w'=>∃ s p l c q k d,e = .returned (.agg #[.int .i64 (infS n m),.bool s,.slice p l c,.slice q k d])∧RP w.heap.size w' s p l c q k d (fN n m) (fM m)∧Kp w w':=by
 unfold infS fN fM
 by_cases c:m = 9218868437227405312
 ·rw [if_pos c,if_pos c,if_pos c,c]
  cases n
  ·exact boundI_ w
  ·exact boundM_ w
 ·rw [if_neg c,if_neg c,if_neg c]
  exact boundF_ n m (by omega) ht w
end Go.Proofs.YtaldmbeomdfafaaGreatDoor
