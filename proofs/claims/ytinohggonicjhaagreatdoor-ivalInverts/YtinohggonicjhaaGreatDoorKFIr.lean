import Derived.Test.YtinohggonicjhaaGreatDoorKFIa
set_option maxHeartbeats 2000000
set_option maxRecDepth 20000
namespace Go.Proofs.YtinohggonicjhaaGreatDoor
open Go.RowKit
set_option linter.unusedVariables false
theorem ref_div (d:Int) (ng neg:Bool) (x D a b A B:Nat) (hD:D≠0) (hB:B≠0) (hF:FracOf x D 0 a b) (hg:x≠0→ng = neg) (hx:x * B = A * D):refW 53 1074 2098 9218868437227405311 0 d ng a b = divW d neg A B:=by
  have h:=refW_fin d ng neg x D a b 0 hF hg 1074 rfl
  rw [h]
  unfold divW
  by_cases c:x = 0
  · have h0:A = 0:=by
      rw [c,Nat.zero_mul] at hx
      rcases Nat.mul_eq_zero.1 hx.symm with h1 | h1
      · exact h1
      · exact absurd h1 hD
    rw [if_pos c,if_pos h0]
  · have h0:A≠0:=fun h1=>by
      rw [h1,Nat.zero_mul] at hx
      rcases Nat.mul_eq_zero.1 hx with h2 | h2
      · exact c h2
      · exact hB h2
    rw [if_neg c,if_neg h0,rV_ratio _ _ x D A B _ (by omega) (by omega) hx]
    rfl

theorem XP.qg {base:Nat} {w:World} {s:Bool} {p:Option Addr} {l c:Nat} {q:Option Addr} {k d:Nat} {m C N:Nat} {t:Bool} {K:Nat} (hK:K = 1074) (hN:N≤4194304) (h:XP base w s p l c q k d (Iv t m) C N):QP base w s p l c q k d (fun dd=>pz (g53 dd (2 ^ K) C (Iv t m))):=by
  obtain ⟨a,b,h1,h2,f1,f0,f3,f4,f5⟩:=h
  refine ⟨a,b,h1,h2,f1,by omega,by omega,fun dd=>?_⟩
  show _ = pz (g53 dd (2 ^ K) C (Iv t m))
  rw [← divW_g2 K hK]
  have pc:(0:Int) < (C:Int):=by omega
  have pb:(0:Int) < (b:Int):=by omega
  have ei:Iv t m = rvI t (Fq.vV Ieee.double m):=by unfold Iv rvI;cases t <;> rfl
  rw [ei] at f3
  refine ref_div dd s t a b a b (Fq.vV Ieee.double m) C f1 f0 ⟨f1,Iff.rfl,fun d' p' t' _=>by rw [Int.add_zero],by omega,by omega⟩ (fun hx=>?_) ?_
  · have pa:(0:Int) < (a:Int):=by omega
    have k1:=Int.mul_pos pa pc
    generalize Fq.vV Ieee.double m = v at f3
    have k2:=Int.mul_nonneg (show (0:Int)≤(v:Int) by omega) (Int.le_of_lt pb)
    unfold rvI at f3
    cases s <;> cases t <;> simp [Int.neg_mul] at f3 ⊢ <;> omega
  · have k:=congrArg Int.natAbs f3
    rw [Int.natAbs_mul,Int.natAbs_mul,Int.natAbs_natCast,Int.natAbs_natCast,show (rvI s a).natAbs = a from by unfold rvI;cases s <;> simp,show (rvI t (Fq.vV Ieee.double m)).natAbs = Fq.vV Ieee.double m from by unfold rvI;cases t <;> simp] at k
    exact k
set_option linter.unusedVariables false
theorem invI_ (i:Int) s p l c q k d (t:(i != 0) = true) (w:World):Calls Tryz.prog 67 #[.agg #[.int .i64 i,.bool s,.slice p l c,.slice q k d]] w fun e w'=>∃ s3 p3 l3 c3 q3 k3 d3,e = .returned (.agg #[.int .i64 0,.bool s3,.slice p3 l3 c3,.slice q3 k3 d3])∧XP w.heap.size w' s3 p3 l3 c3 q3 k3 d3 0 1 1500∧Kp w w':=by
  go_enter Tryz.func67,Tryz.ntmps67
  go_wp2_with (first | (go_at_call 47;refine (fin0_ _).mono ?_;rintro e wf ⟨s3,p3,l3,c3,q3,k3,d3,rfl,hp0,gf⟩;have hp:=hp0.x0;clear hp0;have r0:=kkeep gf (b:=w.heap.size + 1) (o:=0) (v:=.int .i64 0) (by simp [go_sem]);have rz0:wf.frozen? ⟨w.heap.size + 1,0,none⟩ = false:=(kfro gf (by simp <;> omega)).trans (by simp [go_sem]);have r1:=kkeep gf (b:=w.heap.size + 1) (o:=1) (v:=.bool false) (by simp [go_sem]);have rz1:wf.frozen? ⟨w.heap.size + 1,1,none⟩ = false:=(kfro gf (by simp <;> omega)).trans (by simp [go_sem]);have r2:=kkeep gf (b:=w.heap.size + 1) (o:=2) (v:=.slice none 0 0) (by simp [go_sem]);have rz2:wf.frozen? ⟨w.heap.size + 1,2,none⟩ = false:=(kfro gf (by simp <;> omega)).trans (by simp [go_sem]);have r3:=kkeep gf (b:=w.heap.size + 1) (o:=3) (v:=.slice none 0 0) (by simp [go_sem]);have rz3:wf.frozen? ⟨w.heap.size + 1,3,none⟩ = false:=(kfro gf (by simp <;> omega)).trans (by simp [go_sem])))
  exact bodyPost_ret (v:=.agg #[.int .i64 0,.bool s3,.slice p3 l3 c3,.slice q3 k3 d3]) (by simp [results,Tryz.results67,go_sem,r0,r1,r2,r3]) rfl ⟨s3,p3,l3,c3,q3,k3,d3,rfl,XP.mono (((((hp).set (x:=⟨w.heap.size + 1,0,none⟩) (by simp <;> omega) (.int .i64 0)).set (x:=⟨w.heap.size + 1,1,none⟩) (by simp <;> omega) (.bool s3)).set (x:=⟨w.heap.size + 1,2,none⟩) (by simp <;> omega) (.slice p3 l3 c3)).set (x:=⟨w.heap.size + 1,3,none⟩) (by simp <;> omega) (.slice q3 k3 d3)) (by simp <;> omega),(((((Kp.trans (((Kp.refl w).alloc _).alloc _) gf)).setCell (by simp <;> omega) _).setCell (by simp <;> omega) _).setCell (by simp <;> omega) _).setCell (by simp <;> omega) _⟩
theorem invF_ (V:Int) (C N:Nat) s p l c q k d (w:World) (hs:∀ (W:World) s4 p4 l4 c4 q4 k4 d4,Kp w W→XP 0 W s4 p4 l4 c4 q4 k4 d4 1 1 1500→Calls Tryz.prog 103 #[.agg #[.bool s4,.slice p4 l4 c4,.slice q4 k4 d4],.agg #[.bool s,.slice p l c,.slice q k d]] W fun e w'=>∃ s3 p3 l3 c3 q3 k3 d3,e = .returned (.agg #[.bool s3,.slice p3 l3 c3,.slice q3 k3 d3])∧XP W.heap.size w' s3 p3 l3 c3 q3 k3 d3 V C N∧Kp W w'):Calls Tryz.prog 67 #[.agg #[.int .i64 0,.bool s,.slice p l c,.slice q k d]] w fun e w'=>∃ s3 p3 l3 c3 q3 k3 d3,e = .returned (.agg #[.int .i64 0,.bool s3,.slice p3 l3 c3,.slice q3 k3 d3])∧XP w.heap.size w' s3 p3 l3 c3 q3 k3 d3 V C N∧Kp w w':=by
  go_enter Tryz.func67,Tryz.ntmps67
  go_wp2
  generalize hW:((w.alloc (.cells #[.int .i64 0,.bool s,.slice p l c,.slice q k d] 50)).alloc (.cells #[.int .i64 0,.bool false,.slice none 0 0,.slice none 0 0] 50)) = W
  have kw:Kp w W:=by rw [← hW];exact ((Kp.refl w).alloc _).alloc _
  have xw0:W.cell? ⟨w.heap.size,0,none⟩ = some (.int .i64 0):=by rw [← hW];simp [go_sem]
  have dw0:W.drew.cell? ⟨w.heap.size,0,none⟩ = some (.int .i64 0):=xw0
  have xw1:W.cell? ⟨w.heap.size,1,none⟩ = some (.bool s):=by rw [← hW];simp [go_sem]
  have dw1:W.drew.cell? ⟨w.heap.size,1,none⟩ = some (.bool s):=xw1
  have xw2:W.cell? ⟨w.heap.size,2,none⟩ = some (.slice p l c):=by rw [← hW];simp [go_sem]
  have dw2:W.drew.cell? ⟨w.heap.size,2,none⟩ = some (.slice p l c):=xw2
  have xw3:W.cell? ⟨w.heap.size,3,none⟩ = some (.slice q k d):=by rw [← hW];simp [go_sem]
  have dw3:W.drew.cell? ⟨w.heap.size,3,none⟩ = some (.slice q k d):=xw3
  have r0:W.cell? ⟨w.heap.size + 1,0,none⟩ = some (.int .i64 0):=by rw [← hW];simp [go_sem]
  have rz0:W.frozen? ⟨w.heap.size + 1,0,none⟩ = false:=by rw [← hW];simp [go_sem]
  have r1:W.cell? ⟨w.heap.size + 1,1,none⟩ = some (.bool false):=by rw [← hW];simp [go_sem]
  have rz1:W.frozen? ⟨w.heap.size + 1,1,none⟩ = false:=by rw [← hW];simp [go_sem]
  have r2:W.cell? ⟨w.heap.size + 1,2,none⟩ = some (.slice none 0 0):=by rw [← hW];simp [go_sem]
  have rz2:W.frozen? ⟨w.heap.size + 1,2,none⟩ = false:=by rw [← hW];simp [go_sem]
  have r3:W.cell? ⟨w.heap.size + 1,3,none⟩ = some (.slice none 0 0):=by rw [← hW];simp [go_sem]
  have rz3:W.frozen? ⟨w.heap.size + 1,3,none⟩ = false:=by rw [← hW];simp [go_sem]
  have hBW:w.heap.size + 1 < W.heap.size:=cell_lt r0
  have hn1:w.heap.size + 1≠w.heap.size:=by omega
  clear hW
  go_region_held3 (fun w'=>w'.cell? ⟨w.heap.size,0,none⟩ = some (.int .i64 0)∧w'.cell? ⟨w.heap.size,1,none⟩ = some (.bool s)∧w'.cell? ⟨w.heap.size,2,none⟩ = some (.slice p l c)∧w'.cell? ⟨w.heap.size,3,none⟩ = some (.slice q k d)) (first | (with_reducible exact ⟨xw0,xw1,xw2,xw3⟩) | (with_reducible exact ⟨dw0,dw1,dw2,dw3⟩) | (with_reducible exact ⟨aw0,aw1,aw2,aw3⟩) | (with_reducible exact ⟨bw0,bw1,bw2,bw3⟩) | (exact ⟨((World.cell?_setCell_far _ _ _ _ hn1).trans ((World.cell?_setCell_far _ _ _ _ hn1).trans ((World.cell?_setCell_far _ _ _ _ hn1).trans ((World.cell?_setCell_far _ _ _ _ hn1).trans bw0)))),((World.cell?_setCell_far _ _ _ _ hn1).trans ((World.cell?_setCell_far _ _ _ _ hn1).trans ((World.cell?_setCell_far _ _ _ _ hn1).trans ((World.cell?_setCell_far _ _ _ _ hn1).trans bw1)))),((World.cell?_setCell_far _ _ _ _ hn1).trans ((World.cell?_setCell_far _ _ _ _ hn1).trans ((World.cell?_setCell_far _ _ _ _ hn1).trans ((World.cell?_setCell_far _ _ _ _ hn1).trans bw2)))),((World.cell?_setCell_far _ _ _ _ hn1).trans ((World.cell?_setCell_far _ _ _ _ hn1).trans ((World.cell?_setCell_far _ _ _ _ hn1).trans ((World.cell?_setCell_far _ _ _ _ hn1).trans bw3))))⟩)) (first | (go_at_call 65;refine (int1X_ _).mono ?_;rintro e wl ⟨s4,p4,l4,c4,q4,k4,d4,rfl,hp4,gl⟩;have kl:Kp W wl:=Kp.trans (Kp.drew (Kp.refl _)) gl;have aw0:=kkeep kl xw0;have aw1:=kkeep kl xw1;have aw2:=kkeep kl xw2;have aw3:=kkeep kl xw3) | (go_at_call 103;refine (hs _ s4 p4 l4 c4 q4 k4 d4 (kw.trans kl) (hp4.mono (Nat.zero_le _))).mono ?_;rintro e wh ⟨s3,p3,l3,c3,q3,k3,d3,rfl,hp,gh⟩;have kh:Kp W wh:=Kp.trans kl gh;have bw0:=kkeep kh xw0;have bw1:=kkeep kh xw1;have bw2:=kkeep kh xw2;have bw3:=kkeep kh xw3;have R0:=kkeep kh r0;have Rz0:wh.frozen? ⟨w.heap.size + 1,0,none⟩ = false:=(kfro kh (cell_lt r0)).trans rz0;have R1:=kkeep kh r1;have Rz1:wh.frozen? ⟨w.heap.size + 1,1,none⟩ = false:=(kfro kh (cell_lt r1)).trans rz1;have R2:=kkeep kh r2;have Rz2:wh.frozen? ⟨w.heap.size + 1,2,none⟩ = false:=(kfro kh (cell_lt r2)).trans rz2;have R3:=kkeep kh r3;have Rz3:wh.frozen? ⟨w.heap.size + 1,3,none⟩ = false:=(kfro kh (cell_lt r3)).trans rz3))
  go_wp2
  have hle:w.heap.size≤W.heap.size:=by omega
  exact bodyPost_ret (v:=.agg #[.int .i64 0,.bool s3,.slice p3 l3 c3,.slice q3 k3 d3]) (by simp [results,Tryz.results67,go_sem,R0,R1,R2,R3]) rfl ⟨s3,p3,l3,c3,q3,k3,d3,rfl,XP.mono ((((((hp.mono (base':=W.heap.size) (Below.size kl))).set (x:=⟨w.heap.size + 1,0,none⟩) hBW (.int .i64 0)).set (x:=⟨w.heap.size + 1,1,none⟩) hBW (.bool s3)).set (x:=⟨w.heap.size + 1,2,none⟩) hBW (.slice p3 l3 c3)).set (x:=⟨w.heap.size + 1,3,none⟩) hBW (.slice q3 k3 d3)) hle,(((((Kp.trans kw kh)).setCell (by simp) _).setCell (by simp) _).setCell (by simp) _).setCell (by simp) _⟩
end Go.Proofs.YtinohggonicjhaaGreatDoor
