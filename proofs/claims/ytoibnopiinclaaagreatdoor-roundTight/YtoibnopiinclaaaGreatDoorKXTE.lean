import Derived.Test.YtoibnopiinclaaaGreatDoorKXS2
set_option maxHeartbeats 1000000
set_option maxRecDepth 20000
namespace Go.Proofs.YtoibnopiinclaaaGreatDoor
open Go.RowKit
theorem stepB_ (b r:Nat) (hb:b < 18446744073709551616) (hr:r = if b = 9223372036854775809∨b = 9223372036854775808 then 0 else if 9223372036854775808 < b then b - 1 else b + 1) (hb2:b + 1 < 18446744073709551616) (w:World):Calls Tryz.prog 32 #[.int .u64 ((b:Nat):Int)] w fun e w'=>e = .returned (.int .u64 ((r:Nat):Int))∧w' = w:=by
  by_cases c1:b = 9223372036854775809∨b = 9223372036854775808
  · rw [if_pos c1] at hr
    rcases c1 with c | c <;> subst c <;> subst hr
    · go_enter Tryz.func32,Tryz.ntmps32
      go_wp2
      exact bodyPost_ret (v:=.int .u64 0) (by simp [results,Tryz.results32,go_sem]) rfl ⟨rfl,rfl⟩
    · go_enter Tryz.func32,Tryz.ntmps32
      go_wp2
      exact bodyPost_ret (v:=.int .u64 0) (by simp [results,Tryz.results32,go_sem]) rfl ⟨rfl,rfl⟩
  · rw [if_neg c1] at hr
    have e1:((b:Int) == (9223372036854775809:Int)) = false:=by simp;omega
    have e2:((b:Int) == (9223372036854775808:Int)) = false:=by simp;omega
    have n1:¬ ((b:Int) = (9223372036854775809:Int)):=by omega
    have n2:¬ ((b:Int) = (9223372036854775808:Int)):=by omega
    by_cases c2:9223372036854775808 < b
    · rw [if_pos c2] at hr
      have e3:(9223372036854775808:Int) < (b:Int):=by omega
      rw [show ((r:Nat):Int) = (b:Int) - 1 from by omega]
      go_enter Tryz.func32,Tryz.ntmps32
      go_wp2
      exact bodyPost_ret (v:=.int .u64 ((b:Int) - 1)) (by simp [results,Tryz.results32,go_sem]) rfl ⟨rfl,rfl⟩
    · rw [if_neg c2] at hr
      have e3:¬ ((9223372036854775808:Int) < (b:Int)):=by omega
      rw [show ((r:Nat):Int) = (b:Int) + 1 from by omega]
      go_enter Tryz.func32,Tryz.ntmps32
      go_wp2
      exact bodyPost_ret (v:=.int .u64 ((b:Int) + 1)) (by simp [results,Tryz.results32,go_sem]) rfl ⟨rfl,rfl⟩
theorem tightE_ (lo:Nat) s p l c q k d (w:World) (P:World→Value→Prop) (g1:lo≠9221120237041090561) (g2:lo≠9218868437227405312) (g3:lo≠18442240474082181120) (g4:lo≠9223372036854775808) (hF:∀ W:World,Calls Tryz.prog 4 #[.int .u64 (lo:Int)] W fun e w'=>e = .returned (.bool true)∧w' = W) (hB:∀ W:World,Kp w W→Calls Tryz.prog 9 #[.int .u64 (lo:Int)] W fun e w'=>∃ s2 p2 l2 c2 q2 k2 d2,e = .returned (.agg #[.bool s2,.slice p2 l2 c2,.slice q2 k2 d2])∧P w' (.agg #[.bool s2,.slice p2 l2 c2,.slice q2 k2 d2])∧Kp W w') (hC:∀ (W:World) s2 p2 l2 c2 q2 k2 d2,Kp w W→P W (.agg #[.bool s2,.slice p2 l2 c2,.slice q2 k2 d2])→Calls Tryz.prog 31 #[.agg #[.bool s2,.slice p2 l2 c2,.slice q2 k2 d2],.agg #[.bool s,.slice p l c,.slice q k d]] W fun e w'=>e = .returned (.int .i64 0)∧Kp W w'):Calls Tryz.prog 12 #[.agg #[.bool s,.slice p l c,.slice q k d],.int .u64 (lo:Int),.int .u64 (lo:Int),.int .u64 (lo:Int)] w fun e w'=>e = .returned (.bool true)∧Kp w w':=by
  have i1:¬ ((lo:Int) = 9221120237041090561):=by omega
  have i2:¬ ((lo:Int) = 9218868437227405312):=by omega
  have i3:¬ ((lo:Int) = 18442240474082181120):=by omega
  have i4:¬ ((lo:Int) = 9223372036854775808):=by omega
  have j1:((lo:Int) == 9221120237041090561) = false:=beq_eq_false_iff_ne.2 i1
  have j2:((lo:Int) == 9218868437227405312) = false:=beq_eq_false_iff_ne.2 i2
  have j3:((lo:Int) == 18442240474082181120) = false:=beq_eq_false_iff_ne.2 i3
  have j4:((lo:Int) == 9223372036854775808) = false:=beq_eq_false_iff_ne.2 i4
  go_enter Tryz.func12,Tryz.ntmps12
  go_wp2_with fail
  generalize hW:(w.alloc (.cells #[.bool s,.slice p l c,.slice q k d] 32)) = W
  have kw:Kp w W:=by rw [← hW];exact (Kp.refl w).alloc _
  have xw0:W.cell? ⟨w.heap.size,0,none⟩ = some (.bool s):=by rw [← hW];simp [go_sem]
  have dw0:W.drew.cell? ⟨w.heap.size,0,none⟩ = some (.bool s):=xw0
  have xw1:W.cell? ⟨w.heap.size,1,none⟩ = some (.slice p l c):=by rw [← hW];simp [go_sem]
  have dw1:W.drew.cell? ⟨w.heap.size,1,none⟩ = some (.slice p l c):=xw1
  have xw2:W.cell? ⟨w.heap.size,2,none⟩ = some (.slice q k d):=by rw [← hW];simp [go_sem]
  have dw2:W.drew.cell? ⟨w.heap.size,2,none⟩ = some (.slice q k d):=xw2
  clear hW
  go_region_held3 (fun w'=>w'.cell? ⟨w.heap.size,0,none⟩ = some (.bool s)∧w'.cell? ⟨w.heap.size,1,none⟩ = some (.slice p l c)∧w'.cell? ⟨w.heap.size,2,none⟩ = some (.slice q k d)) (first | (with_reducible exact ⟨xw0,xw1,xw2⟩) | (with_reducible exact ⟨dw0,dw1,dw2⟩) | (with_reducible exact ⟨aw0,aw1,aw2⟩) | (with_reducible exact ⟨bw0,bw1,bw2⟩)) (first | (go_at_call 4;refine (hF _).mono ?_;rintro e w' ⟨rfl,hw'⟩;obtain rfl:=hw'.symm;clear hw') | (go_at_call 9;refine (hB _ ?q0).mono ?_;(case q0=>exact kw.drew);rintro e wl ⟨s2,p2,l2,c2,q2,k2,d2,rfl,hp,gl⟩;have kl:Kp W wl:=Kp.trans (Kp.drew (Kp.refl _)) gl;have aw0:=kkeep kl xw0;have aw1:=kkeep kl xw1;have aw2:=kkeep kl xw2) | (go_at_call 31;refine (hC _ s2 p2 l2 c2 q2 k2 d2 (kw.trans kl) hp).mono ?_;rintro e wh ⟨rfl,gh⟩;have kh:Kp W wh:=Kp.trans kl gh;have bw0:=kkeep kh xw0;have bw1:=kkeep kh xw1;have bw2:=kkeep kh xw2))
  go_wp2
  exact bodyPost_ret (v:=.bool true) (by simp [results,Tryz.results12,go_sem]) rfl ⟨rfl,(Kp.trans kw kh)⟩
theorem exac2_ (Q:World→World→Value→Prop) s p l c q k d s2 p2 l2 c2 q2 k2 d2 s4 p4 l4 c4 q4 k4 d4 (w:World) (hC:∀ W:World,Kp w W→Calls Tryz.prog 35 #[.agg #[.bool s,.slice p l c,.slice q k d],.agg #[.bool s2,.slice p2 l2 c2,.slice q2 k2 d2]] W fun e w'=>∃ s3 p3 l3 c3 q3 k3 d3,e = .returned (.agg #[.bool s3,.slice p3 l3 c3,.slice q3 k3 d3])∧Q W w' (.agg #[.bool s3,.slice p3 l3 c3,.slice q3 k3 d3])∧Kp W w'):Calls Tryz.prog 13 #[.int .i64 2,.agg #[.bool s,.slice p l c,.slice q k d],.agg #[.bool s2,.slice p2 l2 c2,.slice q2 k2 d2],.agg #[.bool s4,.slice p4 l4 c4,.slice q4 k4 d4]] w fun e w'=>∃ (W wh:World) (s3:Bool) (p3:Option Addr) (l3 c3:Nat) (q3:Option Addr) (k3 d3:Nat),e = .returned (.agg #[.bool s3,.slice p3 l3 c3,.slice q3 k3 d3])∧Q W wh (.agg #[.bool s3,.slice p3 l3 c3,.slice q3 k3 d3])∧w' = (((wh).setCell ⟨w.heap.size + 3,0,none⟩ (.bool s3)).setCell ⟨w.heap.size + 3,1,none⟩ (.slice p3 l3 c3)).setCell ⟨w.heap.size + 3,2,none⟩ (.slice q3 k3 d3)∧w.heap.size + 3 < W.heap.size∧Kp w wh:=by
  go_enter Tryz.func13,Tryz.ntmps13
  go_wp2_with fail
  generalize hW:((((w.alloc (.cells #[.bool s,.slice p l c,.slice q k d] 32)).alloc (.cells #[.bool s2,.slice p2 l2 c2,.slice q2 k2 d2] 32)).alloc (.cells #[.bool s4,.slice p4 l4 c4,.slice q4 k4 d4] 32)).alloc (.cells #[.bool false,.slice none 0 0,.slice none 0 0] 32)) = W
  have kw:Kp w W:=by rw [← hW];exact ((((Kp.refl w).alloc _).alloc _).alloc _).alloc _
  have xw0:W.cell? ⟨w.heap.size,0,none⟩ = some (.bool s):=by rw [← hW];simp [go_sem]
  have dw0:W.drew.cell? ⟨w.heap.size,0,none⟩ = some (.bool s):=xw0
  have xw1:W.cell? ⟨w.heap.size,1,none⟩ = some (.slice p l c):=by rw [← hW];simp [go_sem]
  have dw1:W.drew.cell? ⟨w.heap.size,1,none⟩ = some (.slice p l c):=xw1
  have xw2:W.cell? ⟨w.heap.size,2,none⟩ = some (.slice q k d):=by rw [← hW];simp [go_sem]
  have dw2:W.drew.cell? ⟨w.heap.size,2,none⟩ = some (.slice q k d):=xw2
  have xw3:W.cell? ⟨w.heap.size + 1,0,none⟩ = some (.bool s2):=by rw [← hW];simp [go_sem]
  have dw3:W.drew.cell? ⟨w.heap.size + 1,0,none⟩ = some (.bool s2):=xw3
  have xw4:W.cell? ⟨w.heap.size + 1,1,none⟩ = some (.slice p2 l2 c2):=by rw [← hW];simp [go_sem]
  have dw4:W.drew.cell? ⟨w.heap.size + 1,1,none⟩ = some (.slice p2 l2 c2):=xw4
  have xw5:W.cell? ⟨w.heap.size + 1,2,none⟩ = some (.slice q2 k2 d2):=by rw [← hW];simp [go_sem]
  have dw5:W.drew.cell? ⟨w.heap.size + 1,2,none⟩ = some (.slice q2 k2 d2):=xw5
  have xw6:W.cell? ⟨w.heap.size + 2,0,none⟩ = some (.bool s4):=by rw [← hW];simp [go_sem]
  have dw6:W.drew.cell? ⟨w.heap.size + 2,0,none⟩ = some (.bool s4):=xw6
  have xw7:W.cell? ⟨w.heap.size + 2,1,none⟩ = some (.slice p4 l4 c4):=by rw [← hW];simp [go_sem]
  have dw7:W.drew.cell? ⟨w.heap.size + 2,1,none⟩ = some (.slice p4 l4 c4):=xw7
  have xw8:W.cell? ⟨w.heap.size + 2,2,none⟩ = some (.slice q4 k4 d4):=by rw [← hW];simp [go_sem]
  have dw8:W.drew.cell? ⟨w.heap.size + 2,2,none⟩ = some (.slice q4 k4 d4):=xw8
  have r0:W.cell? ⟨w.heap.size + 3,0,none⟩ = some (.bool false):=by rw [← hW];simp [go_sem]
  have rz0:W.frozen? ⟨w.heap.size + 3,0,none⟩ = false:=by rw [← hW];simp [go_sem]
  have r1:W.cell? ⟨w.heap.size + 3,1,none⟩ = some (.slice none 0 0):=by rw [← hW];simp [go_sem]
  have rz1:W.frozen? ⟨w.heap.size + 3,1,none⟩ = false:=by rw [← hW];simp [go_sem]
  have r2:W.cell? ⟨w.heap.size + 3,2,none⟩ = some (.slice none 0 0):=by rw [← hW];simp [go_sem]
  have rz2:W.frozen? ⟨w.heap.size + 3,2,none⟩ = false:=by rw [← hW];simp [go_sem]
  have hBW:w.heap.size + 3 < W.heap.size:=cell_lt r0
  have hn1:w.heap.size + 3≠w.heap.size:=by omega
  have hn2:w.heap.size + 3≠w.heap.size + 1:=by omega
  have hn3:w.heap.size + 3≠w.heap.size + 2:=by omega
  clear hW
  refine (hC _ kw).mono ?_;rintro e wh ⟨s3,p3,l3,c3,q3,k3,d3,rfl,hp3,gh⟩;have kh:Kp W wh:=Kp.trans (Kp.refl _) gh;have bw0:=kkeep kh xw0;have bw1:=kkeep kh xw1;have bw2:=kkeep kh xw2;have bw3:=kkeep kh xw3;have bw4:=kkeep kh xw4;have bw5:=kkeep kh xw5;have bw6:=kkeep kh xw6;have bw7:=kkeep kh xw7;have bw8:=kkeep kh xw8;have R0:=kkeep kh r0;have Rz0:wh.frozen? ⟨w.heap.size + 3,0,none⟩ = false:=(kfro kh (cell_lt r0)).trans rz0;have R1:=kkeep kh r1;have Rz1:wh.frozen? ⟨w.heap.size + 3,1,none⟩ = false:=(kfro kh (cell_lt r1)).trans rz1;have R2:=kkeep kh r2;have Rz2:wh.frozen? ⟨w.heap.size + 3,2,none⟩ = false:=(kfro kh (cell_lt r2)).trans rz2
  go_wp2
  exact bodyPost_ret (v:=.agg #[.bool s3,.slice p3 l3 c3,.slice q3 k3 d3]) (by simp [results,Tryz.results13,go_sem,R0,R1,R2]) rfl ⟨W,wh,s3,p3,l3,c3,q3,k3,d3,rfl,hp3,rfl,hBW,Kp.trans kw kh⟩
theorem exac3_ (Q:World→World→Value→Prop) s p l c q k d s2 p2 l2 c2 q2 k2 d2 s4 p4 l4 c4 q4 k4 d4 (w:World) (hC:∀ W:World,Kp w W→Calls Tryz.prog 36 #[.agg #[.bool s,.slice p l c,.slice q k d],.agg #[.bool s2,.slice p2 l2 c2,.slice q2 k2 d2]] W fun e w'=>∃ s3 p3 l3 c3 q3 k3 d3,e = .returned (.agg #[.bool s3,.slice p3 l3 c3,.slice q3 k3 d3])∧Q W w' (.agg #[.bool s3,.slice p3 l3 c3,.slice q3 k3 d3])∧Kp W w'):Calls Tryz.prog 13 #[.int .i64 3,.agg #[.bool s,.slice p l c,.slice q k d],.agg #[.bool s2,.slice p2 l2 c2,.slice q2 k2 d2],.agg #[.bool s4,.slice p4 l4 c4,.slice q4 k4 d4]] w fun e w'=>∃ (W wh:World) (s3:Bool) (p3:Option Addr) (l3 c3:Nat) (q3:Option Addr) (k3 d3:Nat),e = .returned (.agg #[.bool s3,.slice p3 l3 c3,.slice q3 k3 d3])∧Q W wh (.agg #[.bool s3,.slice p3 l3 c3,.slice q3 k3 d3])∧w' = (((wh).setCell ⟨w.heap.size + 3,0,none⟩ (.bool s3)).setCell ⟨w.heap.size + 3,1,none⟩ (.slice p3 l3 c3)).setCell ⟨w.heap.size + 3,2,none⟩ (.slice q3 k3 d3)∧w.heap.size + 3 < W.heap.size∧Kp w wh:=by
  go_enter Tryz.func13,Tryz.ntmps13
  go_wp2_with fail
  generalize hW:((((w.alloc (.cells #[.bool s,.slice p l c,.slice q k d] 32)).alloc (.cells #[.bool s2,.slice p2 l2 c2,.slice q2 k2 d2] 32)).alloc (.cells #[.bool s4,.slice p4 l4 c4,.slice q4 k4 d4] 32)).alloc (.cells #[.bool false,.slice none 0 0,.slice none 0 0] 32)) = W
  have kw:Kp w W:=by rw [← hW];exact ((((Kp.refl w).alloc _).alloc _).alloc _).alloc _
  have xw0:W.cell? ⟨w.heap.size,0,none⟩ = some (.bool s):=by rw [← hW];simp [go_sem]
  have dw0:W.drew.cell? ⟨w.heap.size,0,none⟩ = some (.bool s):=xw0
  have xw1:W.cell? ⟨w.heap.size,1,none⟩ = some (.slice p l c):=by rw [← hW];simp [go_sem]
  have dw1:W.drew.cell? ⟨w.heap.size,1,none⟩ = some (.slice p l c):=xw1
  have xw2:W.cell? ⟨w.heap.size,2,none⟩ = some (.slice q k d):=by rw [← hW];simp [go_sem]
  have dw2:W.drew.cell? ⟨w.heap.size,2,none⟩ = some (.slice q k d):=xw2
  have xw3:W.cell? ⟨w.heap.size + 1,0,none⟩ = some (.bool s2):=by rw [← hW];simp [go_sem]
  have dw3:W.drew.cell? ⟨w.heap.size + 1,0,none⟩ = some (.bool s2):=xw3
  have xw4:W.cell? ⟨w.heap.size + 1,1,none⟩ = some (.slice p2 l2 c2):=by rw [← hW];simp [go_sem]
  have dw4:W.drew.cell? ⟨w.heap.size + 1,1,none⟩ = some (.slice p2 l2 c2):=xw4
  have xw5:W.cell? ⟨w.heap.size + 1,2,none⟩ = some (.slice q2 k2 d2):=by rw [← hW];simp [go_sem]
  have dw5:W.drew.cell? ⟨w.heap.size + 1,2,none⟩ = some (.slice q2 k2 d2):=xw5
  have xw6:W.cell? ⟨w.heap.size + 2,0,none⟩ = some (.bool s4):=by rw [← hW];simp [go_sem]
  have dw6:W.drew.cell? ⟨w.heap.size + 2,0,none⟩ = some (.bool s4):=xw6
  have xw7:W.cell? ⟨w.heap.size + 2,1,none⟩ = some (.slice p4 l4 c4):=by rw [← hW];simp [go_sem]
  have dw7:W.drew.cell? ⟨w.heap.size + 2,1,none⟩ = some (.slice p4 l4 c4):=xw7
  have xw8:W.cell? ⟨w.heap.size + 2,2,none⟩ = some (.slice q4 k4 d4):=by rw [← hW];simp [go_sem]
  have dw8:W.drew.cell? ⟨w.heap.size + 2,2,none⟩ = some (.slice q4 k4 d4):=xw8
  have r0:W.cell? ⟨w.heap.size + 3,0,none⟩ = some (.bool false):=by rw [← hW];simp [go_sem]
  have rz0:W.frozen? ⟨w.heap.size + 3,0,none⟩ = false:=by rw [← hW];simp [go_sem]
  have r1:W.cell? ⟨w.heap.size + 3,1,none⟩ = some (.slice none 0 0):=by rw [← hW];simp [go_sem]
  have rz1:W.frozen? ⟨w.heap.size + 3,1,none⟩ = false:=by rw [← hW];simp [go_sem]
  have r2:W.cell? ⟨w.heap.size + 3,2,none⟩ = some (.slice none 0 0):=by rw [← hW];simp [go_sem]
  have rz2:W.frozen? ⟨w.heap.size + 3,2,none⟩ = false:=by rw [← hW];simp [go_sem]
  have hBW:w.heap.size + 3 < W.heap.size:=cell_lt r0
  have hn1:w.heap.size + 3≠w.heap.size:=by omega
  have hn2:w.heap.size + 3≠w.heap.size + 1:=by omega
  have hn3:w.heap.size + 3≠w.heap.size + 2:=by omega
  clear hW
  refine (hC _ kw).mono ?_;rintro e wh ⟨s3,p3,l3,c3,q3,k3,d3,rfl,hp3,gh⟩;have kh:Kp W wh:=Kp.trans (Kp.refl _) gh;have bw0:=kkeep kh xw0;have bw1:=kkeep kh xw1;have bw2:=kkeep kh xw2;have bw3:=kkeep kh xw3;have bw4:=kkeep kh xw4;have bw5:=kkeep kh xw5;have bw6:=kkeep kh xw6;have bw7:=kkeep kh xw7;have bw8:=kkeep kh xw8;have R0:=kkeep kh r0;have Rz0:wh.frozen? ⟨w.heap.size + 3,0,none⟩ = false:=(kfro kh (cell_lt r0)).trans rz0;have R1:=kkeep kh r1;have Rz1:wh.frozen? ⟨w.heap.size + 3,1,none⟩ = false:=(kfro kh (cell_lt r1)).trans rz1;have R2:=kkeep kh r2;have Rz2:wh.frozen? ⟨w.heap.size + 3,2,none⟩ = false:=(kfro kh (cell_lt r2)).trans rz2
  go_wp2
  exact bodyPost_ret (v:=.agg #[.bool s3,.slice p3 l3 c3,.slice q3 k3 d3]) (by simp [results,Tryz.results13,go_sem,R0,R1,R2]) rfl ⟨W,wh,s3,p3,l3,c3,q3,k3,d3,rfl,hp3,rfl,hBW,Kp.trans kw kh⟩
theorem exac4_ (Q:World→World→Value→Prop) s p l c q k d s2 p2 l2 c2 q2 k2 d2 s4 p4 l4 c4 q4 k4 d4 (w:World) (P:World→World→Value→Prop) (hM:∀ W:World,Kp w W→Calls Tryz.prog 35 #[.agg #[.bool s,.slice p l c,.slice q k d],.agg #[.bool s2,.slice p2 l2 c2,.slice q2 k2 d2]] W fun e w'=>∃ s5 p5 l5 c5 q5 k5 d5,e = .returned (.agg #[.bool s5,.slice p5 l5 c5,.slice q5 k5 d5])∧P w w' (.agg #[.bool s5,.slice p5 l5 c5,.slice q5 k5 d5])∧Kp W w') (hC:∀ (W:World) s5 p5 l5 c5 q5 k5 d5,Kp w W→P w W (.agg #[.bool s5,.slice p5 l5 c5,.slice q5 k5 d5])→Calls Tryz.prog 34 #[.agg #[.bool s5,.slice p5 l5 c5,.slice q5 k5 d5],.agg #[.bool s4,.slice p4 l4 c4,.slice q4 k4 d4]] W fun e w'=>∃ s3 p3 l3 c3 q3 k3 d3,e = .returned (.agg #[.bool s3,.slice p3 l3 c3,.slice q3 k3 d3])∧Q W w' (.agg #[.bool s3,.slice p3 l3 c3,.slice q3 k3 d3])∧Kp W w'):Calls Tryz.prog 13 #[.int .i64 4,.agg #[.bool s,.slice p l c,.slice q k d],.agg #[.bool s2,.slice p2 l2 c2,.slice q2 k2 d2],.agg #[.bool s4,.slice p4 l4 c4,.slice q4 k4 d4]] w fun e w'=>∃ (W wh:World) (s3:Bool) (p3:Option Addr) (l3 c3:Nat) (q3:Option Addr) (k3 d3:Nat),e = .returned (.agg #[.bool s3,.slice p3 l3 c3,.slice q3 k3 d3])∧Q W wh (.agg #[.bool s3,.slice p3 l3 c3,.slice q3 k3 d3])∧w' = (((wh).setCell ⟨w.heap.size + 3,0,none⟩ (.bool s3)).setCell ⟨w.heap.size + 3,1,none⟩ (.slice p3 l3 c3)).setCell ⟨w.heap.size + 3,2,none⟩ (.slice q3 k3 d3)∧w.heap.size + 3 < W.heap.size∧Kp w wh:=by
  go_enter Tryz.func13,Tryz.ntmps13
  go_wp2
  generalize hW:((((w.alloc (.cells #[.bool s,.slice p l c,.slice q k d] 32)).alloc (.cells #[.bool s2,.slice p2 l2 c2,.slice q2 k2 d2] 32)).alloc (.cells #[.bool s4,.slice p4 l4 c4,.slice q4 k4 d4] 32)).alloc (.cells #[.bool false,.slice none 0 0,.slice none 0 0] 32)) = W
  have kw:Kp w W:=by rw [← hW];exact ((((Kp.refl w).alloc _).alloc _).alloc _).alloc _
  have xw0:W.cell? ⟨w.heap.size,0,none⟩ = some (.bool s):=by rw [← hW];simp [go_sem]
  have dw0:W.drew.cell? ⟨w.heap.size,0,none⟩ = some (.bool s):=xw0
  have xw1:W.cell? ⟨w.heap.size,1,none⟩ = some (.slice p l c):=by rw [← hW];simp [go_sem]
  have dw1:W.drew.cell? ⟨w.heap.size,1,none⟩ = some (.slice p l c):=xw1
  have xw2:W.cell? ⟨w.heap.size,2,none⟩ = some (.slice q k d):=by rw [← hW];simp [go_sem]
  have dw2:W.drew.cell? ⟨w.heap.size,2,none⟩ = some (.slice q k d):=xw2
  have xw3:W.cell? ⟨w.heap.size + 1,0,none⟩ = some (.bool s2):=by rw [← hW];simp [go_sem]
  have dw3:W.drew.cell? ⟨w.heap.size + 1,0,none⟩ = some (.bool s2):=xw3
  have xw4:W.cell? ⟨w.heap.size + 1,1,none⟩ = some (.slice p2 l2 c2):=by rw [← hW];simp [go_sem]
  have dw4:W.drew.cell? ⟨w.heap.size + 1,1,none⟩ = some (.slice p2 l2 c2):=xw4
  have xw5:W.cell? ⟨w.heap.size + 1,2,none⟩ = some (.slice q2 k2 d2):=by rw [← hW];simp [go_sem]
  have dw5:W.drew.cell? ⟨w.heap.size + 1,2,none⟩ = some (.slice q2 k2 d2):=xw5
  have xw6:W.cell? ⟨w.heap.size + 2,0,none⟩ = some (.bool s4):=by rw [← hW];simp [go_sem]
  have dw6:W.drew.cell? ⟨w.heap.size + 2,0,none⟩ = some (.bool s4):=xw6
  have xw7:W.cell? ⟨w.heap.size + 2,1,none⟩ = some (.slice p4 l4 c4):=by rw [← hW];simp [go_sem]
  have dw7:W.drew.cell? ⟨w.heap.size + 2,1,none⟩ = some (.slice p4 l4 c4):=xw7
  have xw8:W.cell? ⟨w.heap.size + 2,2,none⟩ = some (.slice q4 k4 d4):=by rw [← hW];simp [go_sem]
  have dw8:W.drew.cell? ⟨w.heap.size + 2,2,none⟩ = some (.slice q4 k4 d4):=xw8
  have r0:W.cell? ⟨w.heap.size + 3,0,none⟩ = some (.bool false):=by rw [← hW];simp [go_sem]
  have rz0:W.frozen? ⟨w.heap.size + 3,0,none⟩ = false:=by rw [← hW];simp [go_sem]
  have r1:W.cell? ⟨w.heap.size + 3,1,none⟩ = some (.slice none 0 0):=by rw [← hW];simp [go_sem]
  have rz1:W.frozen? ⟨w.heap.size + 3,1,none⟩ = false:=by rw [← hW];simp [go_sem]
  have r2:W.cell? ⟨w.heap.size + 3,2,none⟩ = some (.slice none 0 0):=by rw [← hW];simp [go_sem]
  have rz2:W.frozen? ⟨w.heap.size + 3,2,none⟩ = false:=by rw [← hW];simp [go_sem]
  have hBW:w.heap.size + 3 < W.heap.size:=cell_lt r0
  have hn1:w.heap.size + 3≠w.heap.size:=by omega
  have hn2:w.heap.size + 3≠w.heap.size + 1:=by omega
  have hn3:w.heap.size + 3≠w.heap.size + 2:=by omega
  clear hW
  go_region_held3 (fun w'=>w'.cell? ⟨w.heap.size,0,none⟩ = some (.bool s)∧w'.cell? ⟨w.heap.size,1,none⟩ = some (.slice p l c)∧w'.cell? ⟨w.heap.size,2,none⟩ = some (.slice q k d)∧w'.cell? ⟨w.heap.size + 1,0,none⟩ = some (.bool s2)∧w'.cell? ⟨w.heap.size + 1,1,none⟩ = some (.slice p2 l2 c2)∧w'.cell? ⟨w.heap.size + 1,2,none⟩ = some (.slice q2 k2 d2)∧w'.cell? ⟨w.heap.size + 2,0,none⟩ = some (.bool s4)∧w'.cell? ⟨w.heap.size + 2,1,none⟩ = some (.slice p4 l4 c4)∧w'.cell? ⟨w.heap.size + 2,2,none⟩ = some (.slice q4 k4 d4)) (first | (with_reducible exact ⟨xw0,xw1,xw2,xw3,xw4,xw5,xw6,xw7,xw8⟩) | (with_reducible exact ⟨dw0,dw1,dw2,dw3,dw4,dw5,dw6,dw7,dw8⟩) | (with_reducible exact ⟨aw0,aw1,aw2,aw3,aw4,aw5,aw6,aw7,aw8⟩) | (with_reducible exact ⟨bw0,bw1,bw2,bw3,bw4,bw5,bw6,bw7,bw8⟩) | (exact ⟨((World.cell?_setCell_far _ _ _ _ hn1).trans ((World.cell?_setCell_far _ _ _ _ hn1).trans ((World.cell?_setCell_far _ _ _ _ hn1).trans bw0))),((World.cell?_setCell_far _ _ _ _ hn1).trans ((World.cell?_setCell_far _ _ _ _ hn1).trans ((World.cell?_setCell_far _ _ _ _ hn1).trans bw1))),((World.cell?_setCell_far _ _ _ _ hn1).trans ((World.cell?_setCell_far _ _ _ _ hn1).trans ((World.cell?_setCell_far _ _ _ _ hn1).trans bw2))),((World.cell?_setCell_far _ _ _ _ hn2).trans ((World.cell?_setCell_far _ _ _ _ hn2).trans ((World.cell?_setCell_far _ _ _ _ hn2).trans bw3))),((World.cell?_setCell_far _ _ _ _ hn2).trans ((World.cell?_setCell_far _ _ _ _ hn2).trans ((World.cell?_setCell_far _ _ _ _ hn2).trans bw4))),((World.cell?_setCell_far _ _ _ _ hn2).trans ((World.cell?_setCell_far _ _ _ _ hn2).trans ((World.cell?_setCell_far _ _ _ _ hn2).trans bw5))),((World.cell?_setCell_far _ _ _ _ hn3).trans ((World.cell?_setCell_far _ _ _ _ hn3).trans ((World.cell?_setCell_far _ _ _ _ hn3).trans bw6))),((World.cell?_setCell_far _ _ _ _ hn3).trans ((World.cell?_setCell_far _ _ _ _ hn3).trans ((World.cell?_setCell_far _ _ _ _ hn3).trans bw7))),((World.cell?_setCell_far _ _ _ _ hn3).trans ((World.cell?_setCell_far _ _ _ _ hn3).trans ((World.cell?_setCell_far _ _ _ _ hn3).trans bw8)))⟩)) (first | (go_at_call 35;refine (hM _ ?q0).mono ?_;(case q0=>exact kw.drew);rintro e wl ⟨s5,p5,l5,c5,q5,k5,d5,rfl,hp5,gl⟩;have kl:Kp W wl:=Kp.trans (Kp.drew (Kp.refl _)) gl;have aw0:=kkeep kl xw0;have aw1:=kkeep kl xw1;have aw2:=kkeep kl xw2;have aw3:=kkeep kl xw3;have aw4:=kkeep kl xw4;have aw5:=kkeep kl xw5;have aw6:=kkeep kl xw6;have aw7:=kkeep kl xw7;have aw8:=kkeep kl xw8) | (go_at_call 34;refine (hC _ s5 p5 l5 c5 q5 k5 d5 (kw.trans kl) hp5).mono ?_;rintro e wh ⟨s3,p3,l3,c3,q3,k3,d3,rfl,hp3,gh⟩;have kh:Kp W wh:=Kp.trans kl gh;have bw0:=kkeep kh xw0;have bw1:=kkeep kh xw1;have bw2:=kkeep kh xw2;have bw3:=kkeep kh xw3;have bw4:=kkeep kh xw4;have bw5:=kkeep kh xw5;have bw6:=kkeep kh xw6;have bw7:=kkeep kh xw7;have bw8:=kkeep kh xw8;have R0:=kkeep kh r0;have Rz0:wh.frozen? ⟨w.heap.size + 3,0,none⟩ = false:=(kfro kh (cell_lt r0)).trans rz0;have R1:=kkeep kh r1;have Rz1:wh.frozen? ⟨w.heap.size + 3,1,none⟩ = false:=(kfro kh (cell_lt r1)).trans rz1;have R2:=kkeep kh r2;have Rz2:wh.frozen? ⟨w.heap.size + 3,2,none⟩ = false:=(kfro kh (cell_lt r2)).trans rz2))
  go_wp2
  exact bodyPost_ret (v:=.agg #[.bool s3,.slice p3 l3 c3,.slice q3 k3 d3]) (by simp [results,Tryz.results13,go_sem,R0,R1,R2]) rfl ⟨wl,wh,s3,p3,l3,c3,q3,k3,d3,rfl,hp3,rfl,Nat.lt_of_lt_of_le hBW (Below.size kl),Kp.trans kw kh⟩
end Go.Proofs.YtoibnopiinclaaaGreatDoor
