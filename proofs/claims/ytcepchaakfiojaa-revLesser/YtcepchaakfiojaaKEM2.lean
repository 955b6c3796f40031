import Derived.Test.YtcepchaakfiojaaKET2
set_option maxHeartbeats 2000000
set_option maxRecDepth 20000
namespace Go.Proofs.Ytcepchaakfiojaa
open Go.RowKit

theorem RP.zero {base:Nat} {w:World} {s:Bool} {p:Option Addr} {l c:Nat} {q:Option Addr} {k d:Nat} {n:Bool} (n':Bool) (h:RP base w s p l c q k d n 0):RP base w s p l c q k d n' 0:=by
  obtain ⟨a,b,h1,h2,h3⟩:=h
  refine ⟨a,b,h1,h2,fun K hK=>?_⟩
  obtain ⟨f1,f2,f3,f4,f5⟩:=h3 K hK
  refine ⟨f1,f2, ?_,f4,f5⟩
  unfold Iv;rw [Fq.vV_zero];cases n' <;> cases s <;> rfl
theorem rneg6_ (n:Bool) (m:Nat) s p l c q k d (B1:Nat) (w:World) (h:RP B1 w s p l c q k d n m):Calls Try.prog 67 #[.agg #[.bool s,.slice p l c,.slice q k d]] w fun e w'=>∃ s2 p2 l2 c2 q2 k2 d2,e = .returned (.agg #[.bool s2,.slice p2 l2 c2,.slice q2 k2 d2])∧RP w.heap.size w' s2 p2 l2 c2 q2 k2 d2 (!n) m∧Kp w w':=by
  obtain ⟨a,b,u1,u2,u3⟩:=h
  have hl:l = (dig a).length:=by
    obtain ⟨P1,C1,e1,-,-⟩:=u1.arr
    injection e1
  have key:∀ (s2:Bool),(a≠0→s2 = !s)→RF s2 a b (!n) m:=by
    intro s2 hs K hK
    obtain ⟨f1,f2,f3,f4,f5⟩:=u3 K hK
    refine ⟨f1,f2, ?_,f4,f5⟩
    have hv:Iv (!n) m = - Iv n m:=by unfold Iv;cases n <;> simp
    rw [hv,f3]
    by_cases c0:a = 0
    · have hz:Fq.vV Ieee.double m = 0:=by
        rw [c0,Nat.zero_mul] at f2
        rcases Nat.mul_eq_zero.1 f2.symm with h | h
        · exact h
        · exact absurd h f1
      rw [hz];cases s <;> cases s2 <;> rfl
    · rw [hs c0];cases s <;> simp
  have hf:=u3 1074 rfl
  have hl0:a≠0→0 < l:=fun h0=>by
    rw [hl]
    rcases Nat.eq_zero_or_pos (dig a).length with z | z
    · have:=List.eq_nil_of_length_eq_zero z
      have e:=val_dig a
      rw [this] at e
      exact absurd e.symm h0
    · exact z
  have u1:=u1.mono (Nat.zero_le B1)
  have u2:=u2.mono (Nat.zero_le B1)
  cases s
  · by_cases t1:0 < l
    · refine (rnegP_ p l c q k d a b w u1 u2 hf.2.2.2.1 hf.2.2.2.2 t1).mono ?_
      rintro e w' ⟨p2,l2,c2,q2,k2,d2,rfl,o1,o2,g⟩
      exact ⟨true,p2,l2,c2,q2,k2,d2,rfl,⟨a,b,o1,o2,key true (fun _=>rfl)⟩,g⟩
    · refine (rnegZ_ p l c q k d a b w u1 u2 hf.2.2.2.1 hf.2.2.2.2 t1).mono ?_
      rintro e w' ⟨p2,l2,c2,q2,k2,d2,rfl,o1,o2,g⟩
      exact ⟨false,p2,l2,c2,q2,k2,d2,rfl,⟨a,b,o1,o2,key false (fun h0=>absurd (hl0 h0) t1)⟩,g⟩
  · refine (rnegT_ p l c q k d a b w u1 u2 hf.2.2.2.1 hf.2.2.2.2).mono ?_
    rintro e w' ⟨p2,l2,c2,q2,k2,d2,rfl,o1,o2,g⟩
    exact ⟨false,p2,l2,c2,q2,k2,d2,rfl,⟨a,b,o1,o2,key false (fun _=>rfl)⟩,g⟩
theorem turnZ_ (N:Bool) (M:Nat) s p l c q k d (w:World) (hs:∀ W:World,Kp w W→Calls Try.prog 67 #[.agg #[.bool s,.slice p l c,.slice q k d]] W fun e w'=>∃ s2 p2 l2 c2 q2 k2 d2,e = .returned (.agg #[.bool s2,.slice p2 l2 c2,.slice q2 k2 d2])∧RP W.heap.size w' s2 p2 l2 c2 q2 k2 d2 N M∧Kp W w'):Calls Try.prog 54 #[.agg #[.int .i64 0,.bool s,.slice p l c,.slice q k d]] w fun e w'=>∃ s2 p2 l2 c2 q2 k2 d2,e = .returned (.agg #[.int .i64 0,.bool s2,.slice p2 l2 c2,.slice q2 k2 d2])∧RP w.heap.size w' s2 p2 l2 c2 q2 k2 d2 N M∧Kp w w':=by
  go_enter Try.func54,Try.ntmps54
  go_wp2
  generalize hW:((w.alloc (.cells #[.int .i64 0,.bool s,.slice p l c,.slice q k d] 46)).alloc (.cells #[.int .i64 0,.bool false,.slice none 0 0,.slice none 0 0] 46)) = W
  have kw:Kp w W:=by rw [← hW];exact ((Kp.refl w).alloc _).alloc _
  have xw0:W.cell? ⟨w.heap.size,0,none⟩ = some (.int .i64 0):=by rw [← hW];simp [go_sem]
  have dw0:W.drew.cell? ⟨w.heap.size,0,none⟩ = some (.int .i64 0):=xw0
  have xw1:W.cell? ⟨w.heap.size,1,none⟩ = some (.bool s):=by rw [← hW];simp [go_sem]
  have dw1:W.drew.cell? ⟨w.heap.size,1,none⟩ = some (.bool s):=xw1
  have xw2:W.cell? ⟨w.heap.size,2,none⟩ = some (.slice p l c):=by rw [← hW];simp [go_sem]
  have dw2:W.drew.cell? ⟨w.heap.size,2,none⟩ = some (.slice p l c):=xw2
  have xw3:W.cell? ⟨w.heap.size,3,none⟩ = some (.slice q k d):=by rw [← hW];simp [go_sem]
  have dw3:W.drew.cell? ⟨w.heap.size,3,none⟩ = some (.slice q k d):=xw3
  have r0:W.cell? ⟨w.heap.size + 1,0,none⟩ = some (.int .i64 0):=by rw [← hW];simp [go_sem]
  have rz0:W.frozen? ⟨w.heap.size + 1,0,none⟩ = false:=by rw [← hW];simp [go_sem]
  have r1:W.cell? ⟨w.heap.size + 1,1,none⟩ = some (.bool false):=by rw [← hW];simp [go_sem]
  have rz1:W.frozen? ⟨w.heap.size + 1,1,none⟩ = false:=by rw [← hW];simp [go_sem]
  have r2:W.cell? ⟨w.heap.size + 1,2,none⟩ = some (.slice none 0 0):=by rw [← hW];simp [go_sem]
  have rz2:W.frozen? ⟨w.heap.size + 1,2,none⟩ = false:=by rw [← hW];simp [go_sem]
  have r3:W.cell? ⟨w.heap.size + 1,3,none⟩ = some (.slice none 0 0):=by rw [← hW];simp [go_sem]
  have rz3:W.frozen? ⟨w.heap.size + 1,3,none⟩ = false:=by rw [← hW];simp [go_sem]
  have hBW:w.heap.size + 1 < W.heap.size:=cell_lt r0
  have hn1:w.heap.size + 1≠w.heap.size:=by omega
  clear hW
  go_region_held3 (fun w'=>w'.cell? ⟨w.heap.size,0,none⟩ = some (.int .i64 0)∧w'.cell? ⟨w.heap.size,1,none⟩ = some (.bool s)∧w'.cell? ⟨w.heap.size,2,none⟩ = some (.slice p l c)∧w'.cell? ⟨w.heap.size,3,none⟩ = some (.slice q k d)) (first | (with_reducible exact ⟨xw0,xw1,xw2,xw3⟩) | (with_reducible exact ⟨dw0,dw1,dw2,dw3⟩) | (with_reducible exact ⟨aw0,aw1,aw2,aw3⟩) | (exact ⟨((World.cell?_setCell_far _ _ _ _ hn1).trans ((World.cell?_setCell_far _ _ _ _ hn1).trans ((World.cell?_setCell_far _ _ _ _ hn1).trans ((World.cell?_setCell_far _ _ _ _ hn1).trans aw0)))),((World.cell?_setCell_far _ _ _ _ hn1).trans ((World.cell?_setCell_far _ _ _ _ hn1).trans ((World.cell?_setCell_far _ _ _ _ hn1).trans ((World.cell?_setCell_far _ _ _ _ hn1).trans aw1)))),((World.cell?_setCell_far _ _ _ _ hn1).trans ((World.cell?_setCell_far _ _ _ _ hn1).trans ((World.cell?_setCell_far _ _ _ _ hn1).trans ((World.cell?_setCell_far _ _ _ _ hn1).trans aw2)))),((World.cell?_setCell_far _ _ _ _ hn1).trans ((World.cell?_setCell_far _ _ _ _ hn1).trans ((World.cell?_setCell_far _ _ _ _ hn1).trans ((World.cell?_setCell_far _ _ _ _ hn1).trans aw3))))⟩)) (first | (go_at_call 67;refine (hs _ ?q0).mono ?_;(case q0=>exact kw.drew);rintro e wl ⟨s2,p2,l2,c2,q2,k2,d2,rfl,hp,gl⟩;have kl:Kp W wl:=Kp.trans (Kp.drew (Kp.refl _)) gl;have aw0:=kkeep kl xw0;have aw1:=kkeep kl xw1;have aw2:=kkeep kl xw2;have aw3:=kkeep kl xw3;have R0:=kkeep kl r0;have Rz0:wl.frozen? ⟨w.heap.size + 1,0,none⟩ = false:=(kfro kl (cell_lt r0)).trans rz0;have R1:=kkeep kl r1;have Rz1:wl.frozen? ⟨w.heap.size + 1,1,none⟩ = false:=(kfro kl (cell_lt r1)).trans rz1;have R2:=kkeep kl r2;have Rz2:wl.frozen? ⟨w.heap.size + 1,2,none⟩ = false:=(kfro kl (cell_lt r2)).trans rz2;have R3:=kkeep kl r3;have Rz3:wl.frozen? ⟨w.heap.size + 1,3,none⟩ = false:=(kfro kl (cell_lt r3)).trans rz3))
  go_wp2
  have hle:w.heap.size≤W.heap.size:=by omega
  exact bodyPost_ret (v:=.agg #[.int .i64 0,.bool s2,.slice p2 l2 c2,.slice q2 k2 d2]) (by simp [results,Try.results54,go_sem,R0,R1,R2,R3] <;> decide +kernel) rfl ⟨s2,p2,l2,c2,q2,k2,d2,rfl,RP.mono ((((((hp.mono (base':=W.heap.size) (Nat.le_refl _))).set (x:=⟨w.heap.size + 1,0,none⟩) hBW (.int .i64 0)).set (x:=⟨w.heap.size + 1,1,none⟩) hBW (.bool s2)).set (x:=⟨w.heap.size + 1,2,none⟩) hBW (.slice p2 l2 c2)).set (x:=⟨w.heap.size + 1,3,none⟩) hBW (.slice q2 k2 d2)) hle,(((((Kp.trans kw kl)).setCell (by simp) _).setCell (by simp) _).setCell (by simp) _).setCell (by simp) _⟩
theorem turnP_ (N:Bool) (M:Nat) s p l c q k d (w:World) (hs:∀ W:World,Kp w W→Calls Try.prog 67 #[.agg #[.bool s,.slice p l c,.slice q k d]] W fun e w'=>∃ s2 p2 l2 c2 q2 k2 d2,e = .returned (.agg #[.bool s2,.slice p2 l2 c2,.slice q2 k2 d2])∧RP W.heap.size w' s2 p2 l2 c2 q2 k2 d2 N M∧Kp W w'):Calls Try.prog 54 #[.agg #[.int .i64 1,.bool s,.slice p l c,.slice q k d]] w fun e w'=>∃ s2 p2 l2 c2 q2 k2 d2,e = .returned (.agg #[.int .i64 (-1),.bool s2,.slice p2 l2 c2,.slice q2 k2 d2])∧RP w.heap.size w' s2 p2 l2 c2 q2 k2 d2 N M∧Kp w w':=by
  go_enter Try.func54,Try.ntmps54
  go_wp2
  generalize hW:((w.alloc (.cells #[.int .i64 1,.bool s,.slice p l c,.slice q k d] 46)).alloc (.cells #[.int .i64 0,.bool false,.slice none 0 0,.slice none 0 0] 46)) = W
  have kw:Kp w W:=by rw [← hW];exact ((Kp.refl w).alloc _).alloc _
  have xw0:W.cell? ⟨w.heap.size,0,none⟩ = some (.int .i64 1):=by rw [← hW];simp [go_sem]
  have dw0:W.drew.cell? ⟨w.heap.size,0,none⟩ = some (.int .i64 1):=xw0
  have xw1:W.cell? ⟨w.heap.size,1,none⟩ = some (.bool s):=by rw [← hW];simp [go_sem]
  have dw1:W.drew.cell? ⟨w.heap.size,1,none⟩ = some (.bool s):=xw1
  have xw2:W.cell? ⟨w.heap.size,2,none⟩ = some (.slice p l c):=by rw [← hW];simp [go_sem]
  have dw2:W.drew.cell? ⟨w.heap.size,2,none⟩ = some (.slice p l c):=xw2
  have xw3:W.cell? ⟨w.heap.size,3,none⟩ = some (.slice q k d):=by rw [← hW];simp [go_sem]
  have dw3:W.drew.cell? ⟨w.heap.size,3,none⟩ = some (.slice q k d):=xw3
  have r0:W.cell? ⟨w.heap.size + 1,0,none⟩ = some (.int .i64 0):=by rw [← hW];simp [go_sem]
  have rz0:W.frozen? ⟨w.heap.size + 1,0,none⟩ = false:=by rw [← hW];simp [go_sem]
  have r1:W.cell? ⟨w.heap.size + 1,1,none⟩ = some (.bool false):=by rw [← hW];simp [go_sem]
  have rz1:W.frozen? ⟨w.heap.size + 1,1,none⟩ = false:=by rw [← hW];simp [go_sem]
  have r2:W.cell? ⟨w.heap.size + 1,2,none⟩ = some (.slice none 0 0):=by rw [← hW];simp [go_sem]
  have rz2:W.frozen? ⟨w.heap.size + 1,2,none⟩ = false:=by rw [← hW];simp [go_sem]
  have r3:W.cell? ⟨w.heap.size + 1,3,none⟩ = some (.slice none 0 0):=by rw [← hW];simp [go_sem]
  have rz3:W.frozen? ⟨w.heap.size + 1,3,none⟩ = false:=by rw [← hW];simp [go_sem]
  have hBW:w.heap.size + 1 < W.heap.size:=cell_lt r0
  have hn1:w.heap.size + 1≠w.heap.size:=by omega
  clear hW
  go_region_held3 (fun w'=>w'.cell? ⟨w.heap.size,0,none⟩ = some (.int .i64 1)∧w'.cell? ⟨w.heap.size,1,none⟩ = some (.bool s)∧w'.cell? ⟨w.heap.size,2,none⟩ = some (.slice p l c)∧w'.cell? ⟨w.heap.size,3,none⟩ = some (.slice q k d)) (first | (with_reducible exact ⟨xw0,xw1,xw2,xw3⟩) | (with_reducible exact ⟨dw0,dw1,dw2,dw3⟩) | (with_reducible exact ⟨aw0,aw1,aw2,aw3⟩) | (exact ⟨((World.cell?_setCell_far _ _ _ _ hn1).trans ((World.cell?_setCell_far _ _ _ _ hn1).trans ((World.cell?_setCell_far _ _ _ _ hn1).trans ((World.cell?_setCell_far _ _ _ _ hn1).trans aw0)))),((World.cell?_setCell_far _ _ _ _ hn1).trans ((World.cell?_setCell_far _ _ _ _ hn1).trans ((World.cell?_setCell_far _ _ _ _ hn1).trans ((World.cell?_setCell_far _ _ _ _ hn1).trans aw1)))),((World.cell?_setCell_far _ _ _ _ hn1).trans ((World.cell?_setCell_far _ _ _ _ hn1).trans ((World.cell?_setCell_far _ _ _ _ hn1).trans ((World.cell?_setCell_far _ _ _ _ hn1).trans aw2)))),((World.cell?_setCell_far _ _ _ _ hn1).trans ((World.cell?_setCell_far _ _ _ _ hn1).trans ((World.cell?_setCell_far _ _ _ _ hn1).trans ((World.cell?_setCell_far _ _ _ _ hn1).trans aw3))))⟩)) (first | (go_at_call 67;refine (hs _ ?q0).mono ?_;(case q0=>exact kw.drew);rintro e wl ⟨s2,p2,l2,c2,q2,k2,d2,rfl,hp,gl⟩;have kl:Kp W wl:=Kp.trans (Kp.drew (Kp.refl _)) gl;have aw0:=kkeep kl xw0;have aw1:=kkeep kl xw1;have aw2:=kkeep kl xw2;have aw3:=kkeep kl xw3;have R0:=kkeep kl r0;have Rz0:wl.frozen? ⟨w.heap.size + 1,0,none⟩ = false:=(kfro kl (cell_lt r0)).trans rz0;have R1:=kkeep kl r1;have Rz1:wl.frozen? ⟨w.heap.size + 1,1,none⟩ = false:=(kfro kl (cell_lt r1)).trans rz1;have R2:=kkeep kl r2;have Rz2:wl.frozen? ⟨w.heap.size + 1,2,none⟩ = false:=(kfro kl (cell_lt r2)).trans rz2;have R3:=kkeep kl r3;have Rz3:wl.frozen? ⟨w.heap.size + 1,3,none⟩ = false:=(kfro kl (cell_lt r3)).trans rz3))
  go_wp2
  have hle:w.heap.size≤W.heap.size:=by omega
  exact bodyPost_ret (v:=.agg #[.int .i64 (-1),.bool s2,.slice p2 l2 c2,.slice q2 k2 d2]) (by simp [results,Try.results54,go_sem,R0,R1,R2,R3] <;> decide +kernel) rfl ⟨s2,p2,l2,c2,q2,k2,d2,rfl,RP.mono ((((((hp.mono (base':=W.heap.size) (Nat.le_refl _))).set (x:=⟨w.heap.size + 1,0,none⟩) hBW (.int .i64 (-1))).set (x:=⟨w.heap.size + 1,1,none⟩) hBW (.bool s2)).set (x:=⟨w.heap.size + 1,2,none⟩) hBW (.slice p2 l2 c2)).set (x:=⟨w.heap.size + 1,3,none⟩) hBW (.slice q2 k2 d2)) hle,(((((Kp.trans kw kl)).setCell (by simp) _).setCell (by simp) _).setCell (by simp) _).setCell (by simp) _⟩
theorem turnM_ (N:Bool) (M:Nat) s p l c q k d (w:World) (hs:∀ W:World,Kp w W→Calls Try.prog 67 #[.agg #[.bool s,.slice p l c,.slice q k d]] W fun e w'=>∃ s2 p2 l2 c2 q2 k2 d2,e = .returned (.agg #[.bool s2,.slice p2 l2 c2,.slice q2 k2 d2])∧RP W.heap.size w' s2 p2 l2 c2 q2 k2 d2 N M∧Kp W w'):Calls Try.prog 54 #[.agg #[.int .i64 (-1),.bool s,.slice p l c,.slice q k d]] w fun e w'=>∃ s2 p2 l2 c2 q2 k2 d2,e = .returned (.agg #[.int .i64 1,.bool s2,.slice p2 l2 c2,.slice q2 k2 d2])∧RP w.heap.size w' s2 p2 l2 c2 q2 k2 d2 N M∧Kp w w':=by
  go_enter Try.func54,Try.ntmps54
  go_wp2
  generalize hW:((w.alloc (.cells #[.int .i64 (-1),.bool s,.slice p l c,.slice q k d] 46)).alloc (.cells #[.int .i64 0,.bool false,.slice none 0 0,.slice none 0 0] 46)) = W
  have kw:Kp w W:=by rw [← hW];exact ((Kp.refl w).alloc _).alloc _
  have xw0:W.cell? ⟨w.heap.size,0,none⟩ = some (.int .i64 (-1)):=by rw [← hW];simp [go_sem]
  have dw0:W.drew.cell? ⟨w.heap.size,0,none⟩ = some (.int .i64 (-1)):=xw0
  have xw1:W.cell? ⟨w.heap.size,1,none⟩ = some (.bool s):=by rw [← hW];simp [go_sem]
  have dw1:W.drew.cell? ⟨w.heap.size,1,none⟩ = some (.bool s):=xw1
  have xw2:W.cell? ⟨w.heap.size,2,none⟩ = some (.slice p l c):=by rw [← hW];simp [go_sem]
  have dw2:W.drew.cell? ⟨w.heap.size,2,none⟩ = some (.slice p l c):=xw2
  have xw3:W.cell? ⟨w.heap.size,3,none⟩ = some (.slice q k d):=by rw [← hW];simp [go_sem]
  have dw3:W.drew.cell? ⟨w.heap.size,3,none⟩ = some (.slice q k d):=xw3
  have r0:W.cell? ⟨w.heap.size + 1,0,none⟩ = some (.int .i64 0):=by rw [← hW];simp [go_sem]
  have rz0:W.frozen? ⟨w.heap.size + 1,0,none⟩ = false:=by rw [← hW];simp [go_sem]
  have r1:W.cell? ⟨w.heap.size + 1,1,none⟩ = some (.bool false):=by rw [← hW];simp [go_sem]
  have rz1:W.frozen? ⟨w.heap.size + 1,1,none⟩ = false:=by rw [← hW];simp [go_sem]
  have r2:W.cell? ⟨w.heap.size + 1,2,none⟩ = some (.slice none 0 0):=by rw [← hW];simp [go_sem]
  have rz2:W.frozen? ⟨w.heap.size + 1,2,none⟩ = false:=by rw [← hW];simp [go_sem]
  have r3:W.cell? ⟨w.heap.size + 1,3,none⟩ = some (.slice none 0 0):=by rw [← hW];simp [go_sem]
  have rz3:W.frozen? ⟨w.heap.size + 1,3,none⟩ = false:=by rw [← hW];simp [go_sem]
  have hBW:w.heap.size + 1 < W.heap.size:=cell_lt r0
  have hn1:w.heap.size + 1≠w.heap.size:=by omega
  clear hW
  go_region_held3 (fun w'=>w'.cell? ⟨w.heap.size,0,none⟩ = some (.int .i64 (-1))∧w'.cell? ⟨w.heap.size,1,none⟩ = some (.bool s)∧w'.cell? ⟨w.heap.size,2,none⟩ = some (.slice p l c)∧w'.cell? ⟨w.heap.size,3,none⟩ = some (.slice q k d)) (first | (with_reducible exact ⟨xw0,xw1,xw2,xw3⟩) | (with_reducible exact ⟨dw0,dw1,dw2,dw3⟩) | (with_reducible exact ⟨aw0,aw1,aw2,aw3⟩) | (exact ⟨((World.cell?_setCell_far _ _ _ _ hn1).trans ((World.cell?_setCell_far _ _ _ _ hn1).trans ((World.cell?_setCell_far _ _ _ _ hn1).trans ((World.cell?_setCell_far _ _ _ _ hn1).trans aw0)))),((World.cell?_setCell_far _ _ _ _ hn1).trans ((World.cell?_setCell_far _ _ _ _ hn1).trans ((World.cell?_setCell_far _ _ _ _ hn1).trans ((World.cell?_setCell_far _ _ _ _ hn1).trans aw1)))),((World.cell?_setCell_far _ _ _ _ hn1).trans ((World.cell?_setCell_far _ _ _ _ hn1).trans ((World.cell?_setCell_far _ _ _ _ hn1).trans ((World.cell?_setCell_far _ _ _ _ hn1).trans aw2)))),((World.cell?_setCell_far _ _ _ _ hn1).trans ((World.cell?_setCell_far _ _ _ _ hn1).trans ((World.cell?_setCell_far _ _ _ _ hn1).trans ((World.cell?_setCell_far _ _ _ _ hn1).trans aw3))))⟩)) (first | (go_at_call 67;refine (hs _ ?q0).mono ?_;(case q0=>exact kw.drew);rintro e wl ⟨s2,p2,l2,c2,q2,k2,d2,rfl,hp,gl⟩;have kl:Kp W wl:=Kp.trans (Kp.drew (Kp.refl _)) gl;have aw0:=kkeep kl xw0;have aw1:=kkeep kl xw1;have aw2:=kkeep kl xw2;have aw3:=kkeep kl xw3;have R0:=kkeep kl r0;have Rz0:wl.frozen? ⟨w.heap.size + 1,0,none⟩ = false:=(kfro kl (cell_lt r0)).trans rz0;have R1:=kkeep kl r1;have Rz1:wl.frozen? ⟨w.heap.size + 1,1,none⟩ = false:=(kfro kl (cell_lt r1)).trans rz1;have R2:=kkeep kl r2;have Rz2:wl.frozen? ⟨w.heap.size + 1,2,none⟩ = false:=(kfro kl (cell_lt r2)).trans rz2;have R3:=kkeep kl r3;have Rz3:wl.frozen? ⟨w.heap.size + 1,3,none⟩ = false:=(kfro kl (cell_lt r3)).trans rz3))
  go_wp2
  have hle:w.heap.size≤W.heap.size:=by omega
  exact bodyPost_ret (v:=.agg #[.int .i64 1,.bool s2,.slice p2 l2 c2,.slice q2 k2 d2]) (by simp [results,Try.results54,go_sem,R0,R1,R2,R3] <;> decide +kernel) rfl ⟨s2,p2,l2,c2,q2,k2,d2,rfl,RP.mono ((((((hp.mono (base':=W.heap.size) (Nat.le_refl _))).set (x:=⟨w.heap.size + 1,0,none⟩) hBW (.int .i64 1)).set (x:=⟨w.heap.size + 1,1,none⟩) hBW (.bool s2)).set (x:=⟨w.heap.size + 1,2,none⟩) hBW (.slice p2 l2 c2)).set (x:=⟨w.heap.size + 1,3,none⟩) hBW (.slice q2 k2 d2)) hle,(((((Kp.trans kw kl)).setCell (by simp) _).setCell (by simp) _).setCell (by simp) _).setCell (by simp) _⟩
theorem turned_ (n:Bool) (m:Nat) s p l c q k d (B1:Nat) (w:World) (h:RP B1 w s p l c q k d (fN n m) (fM m)):Calls Try.prog 54 #[.agg #[.int .i64 (infS n m),.bool s,.slice p l c,.slice q k d]] w fun e w'=>∃ s2 p2 l2 c2 q2 k2 d2,e = .returned (.agg #[.int .i64 (infS (!n) m),.bool s2,.slice p2 l2 c2,.slice q2 k2 d2])∧RP w.heap.size w' s2 p2 l2 c2 q2 k2 d2 (fN (!n) m) (fM m)∧Kp w w':=by
  have hr:=fun W (g:Kp w W)=>rneg6_ (fN n m) (fM m) s p l c q k d B1 W (h.kp g)
  unfold infS fN fM at *
  by_cases c0:m = 9218868437227405312
  · simp only [if_pos c0] at hr ⊢
    have hz:∀ W:World,Kp w W→Calls Try.prog 67 #[.agg #[.bool s,.slice p l c,.slice q k d]] W fun e w'=>∃ s2 p2 l2 c2 q2 k2 d2,e = .returned (.agg #[.bool s2,.slice p2 l2 c2,.slice q2 k2 d2])∧RP W.heap.size w' s2 p2 l2 c2 q2 k2 d2 false 0∧Kp W w':=fun W g=>(hr W g).mono (fun e w' ⟨s2,p2,l2,c2,q2,k2,d2,e1,hp,g2⟩=>⟨s2,p2,l2,c2,q2,k2,d2,e1,hp.zero false,g2⟩)
    cases n
    · exact turnP_ false 0 s p l c q k d w hz
    · exact turnM_ false 0 s p l c q k d w hz
  · simp only [if_neg c0] at hr ⊢
    exact turnZ_ (!n) m s p l c q k d w hr
theorem minusN_ (i j i2 j2:Int) (N1 N2:Bool) (M1 M2:Nat) s p l c q k d s2 p2 l2 c2 q2 k2 d2 (w:World) (hs1:∀ W:World,Kp w W→Calls Try.prog 54 #[.agg #[.int .i64 i,.bool s,.slice p l c,.slice q k d]] W fun e w'=>∃ s5 p5 l5 c5 q5 k5 d5,e = .returned (.agg #[.int .i64 i2,.bool s5,.slice p5 l5 c5,.slice q5 k5 d5])∧RP W.heap.size w' s5 p5 l5 c5 q5 k5 d5 N1 M1∧Kp W w') (hs2:∀ W:World,Kp w W→Calls Try.prog 54 #[.agg #[.int .i64 j,.bool s2,.slice p2 l2 c2,.slice q2 k2 d2]] W fun e w'=>∃ s5 p5 l5 c5 q5 k5 d5,e = .returned (.agg #[.int .i64 j2,.bool s5,.slice p5 l5 c5,.slice q5 k5 d5])∧RP W.heap.size w' s5 p5 l5 c5 q5 k5 d5 N2 M2∧Kp W w'):Calls Try.prog 38 #[.agg #[.bool false,.int .i64 i,.bool s,.slice p l c,.slice q k d,.int .i64 j,.bool s2,.slice p2 l2 c2,.slice q2 k2 d2]] w fun e w'=>∃ (s5:Bool) (p5:Option Addr) (l5 c5:Nat) (q5:Option Addr) (k5 d5:Nat) (s6:Bool) (p6:Option Addr) (l6 c6:Nat) (q6:Option Addr) (k6 d6:Nat),e = .returned (.agg #[.bool false,.int .i64 j2,.bool s5,.slice p5 l5 c5,.slice q5 k5 d5,.int .i64 i2,.bool s6,.slice p6 l6 c6,.slice q6 k6 d6])∧RP w.heap.size w' s5 p5 l5 c5 q5 k5 d5 N2 M2∧RP w.heap.size w' s6 p6 l6 c6 q6 k6 d6 N1 M1∧Kp w w':=by
  go_enter Try.func38,Try.ntmps38
  go_wp2
  generalize hW:((w.alloc (.cells #[.bool false,.int .i64 i,.bool s,.slice p l c,.slice q k d,.int .i64 j,.bool s2,.slice p2 l2 c2,.slice q2 k2 d2] 48)).alloc (.cells #[.bool false,.int .i64 0,.bool false,.slice none 0 0,.slice none 0 0,.int .i64 0,.bool false,.slice none 0 0,.slice none 0 0] 48)) = W
  have kw:Kp w W:=by rw [← hW];exact ((Kp.refl w).alloc _).alloc _
  have xw0:W.cell? ⟨w.heap.size,1,none⟩ = some (.int .i64 i):=by rw [← hW];simp [go_sem]
  have dw0:W.drew.cell? ⟨w.heap.size,1,none⟩ = some (.int .i64 i):=xw0
  have xw1:W.cell? ⟨w.heap.size,2,none⟩ = some (.bool s):=by rw [← hW];simp [go_sem]
  have dw1:W.drew.cell? ⟨w.heap.size,2,none⟩ = some (.bool s):=xw1
  have xw2:W.cell? ⟨w.heap.size,3,none⟩ = some (.slice p l c):=by rw [← hW];simp [go_sem]
  have dw2:W.drew.cell? ⟨w.heap.size,3,none⟩ = some (.slice p l c):=xw2
  have xw3:W.cell? ⟨w.heap.size,4,none⟩ = some (.slice q k d):=by rw [← hW];simp [go_sem]
  have dw3:W.drew.cell? ⟨w.heap.size,4,none⟩ = some (.slice q k d):=xw3
  have xw4:W.cell? ⟨w.heap.size,5,none⟩ = some (.int .i64 j):=by rw [← hW];simp [go_sem]
  have dw4:W.drew.cell? ⟨w.heap.size,5,none⟩ = some (.int .i64 j):=xw4
  have xw5:W.cell? ⟨w.heap.size,6,none⟩ = some (.bool s2):=by rw [← hW];simp [go_sem]
  have dw5:W.drew.cell? ⟨w.heap.size,6,none⟩ = some (.bool s2):=xw5
  have xw6:W.cell? ⟨w.heap.size,7,none⟩ = some (.slice p2 l2 c2):=by rw [← hW];simp [go_sem]
  have dw6:W.drew.cell? ⟨w.heap.size,7,none⟩ = some (.slice p2 l2 c2):=xw6
  have xw7:W.cell? ⟨w.heap.size,8,none⟩ = some (.slice q2 k2 d2):=by rw [← hW];simp [go_sem]
  have dw7:W.drew.cell? ⟨w.heap.size,8,none⟩ = some (.slice q2 k2 d2):=xw7
  have r0:W.cell? ⟨w.heap.size + 1,0,none⟩ = some (.bool false):=by rw [← hW];simp [go_sem]
  have rz0:W.frozen? ⟨w.heap.size + 1,0,none⟩ = false:=by rw [← hW];simp [go_sem]
  have r1:W.cell? ⟨w.heap.size + 1,1,none⟩ = some (.int .i64 0):=by rw [← hW];simp [go_sem]
  have rz1:W.frozen? ⟨w.heap.size + 1,1,none⟩ = false:=by rw [← hW];simp [go_sem]
  have r2:W.cell? ⟨w.heap.size + 1,2,none⟩ = some (.bool false):=by rw [← hW];simp [go_sem]
  have rz2:W.frozen? ⟨w.heap.size + 1,2,none⟩ = false:=by rw [← hW];simp [go_sem]
  have r3:W.cell? ⟨w.heap.size + 1,3,none⟩ = some (.slice none 0 0):=by rw [← hW];simp [go_sem]
  have rz3:W.frozen? ⟨w.heap.size + 1,3,none⟩ = false:=by rw [← hW];simp [go_sem]
  have r4:W.cell? ⟨w.heap.size + 1,4,none⟩ = some (.slice none 0 0):=by rw [← hW];simp [go_sem]
  have rz4:W.frozen? ⟨w.heap.size + 1,4,none⟩ = false:=by rw [← hW];simp [go_sem]
  have r5:W.cell? ⟨w.heap.size + 1,5,none⟩ = some (.int .i64 0):=by rw [← hW];simp [go_sem]
  have rz5:W.frozen? ⟨w.heap.size + 1,5,none⟩ = false:=by rw [← hW];simp [go_sem]
  have r6:W.cell? ⟨w.heap.size + 1,6,none⟩ = some (.bool false):=by rw [← hW];simp [go_sem]
  have rz6:W.frozen? ⟨w.heap.size + 1,6,none⟩ = false:=by rw [← hW];simp [go_sem]
  have r7:W.cell? ⟨w.heap.size + 1,7,none⟩ = some (.slice none 0 0):=by rw [← hW];simp [go_sem]
  have rz7:W.frozen? ⟨w.heap.size + 1,7,none⟩ = false:=by rw [← hW];simp [go_sem]
  have r8:W.cell? ⟨w.heap.size + 1,8,none⟩ = some (.slice none 0 0):=by rw [← hW];simp [go_sem]
  have rz8:W.frozen? ⟨w.heap.size + 1,8,none⟩ = false:=by rw [← hW];simp [go_sem]
  have hBW:w.heap.size + 1 < W.heap.size:=cell_lt r0
  have hn1:w.heap.size + 1≠w.heap.size:=by omega
  clear hW
  go_region_held3 (fun w'=>w'.cell? ⟨w.heap.size,1,none⟩ = some (.int .i64 i)∧w'.cell? ⟨w.heap.size,2,none⟩ = some (.bool s)∧w'.cell? ⟨w.heap.size,3,none⟩ = some (.slice p l c)∧w'.cell? ⟨w.heap.size,4,none⟩ = some (.slice q k d)∧w'.cell? ⟨w.heap.size,5,none⟩ = some (.int .i64 j)∧w'.cell? ⟨w.heap.size,6,none⟩ = some (.bool s2)∧w'.cell? ⟨w.heap.size,7,none⟩ = some (.slice p2 l2 c2)∧w'.cell? ⟨w.heap.size,8,none⟩ = some (.slice q2 k2 d2)) (first | (with_reducible exact ⟨xw0,xw1,xw2,xw3,xw4,xw5,xw6,xw7⟩) | (with_reducible exact ⟨dw0,dw1,dw2,dw3,dw4,dw5,dw6,dw7⟩) | (with_reducible exact ⟨aw0,aw1,aw2,aw3,aw4,aw5,aw6,aw7⟩) | (with_reducible exact ⟨bw0,bw1,bw2,bw3,bw4,bw5,bw6,bw7⟩) | (exact ⟨((World.cell?_setCell_far _ _ _ _ hn1).trans ((World.cell?_setCell_far _ _ _ _ hn1).trans ((World.cell?_setCell_far _ _ _ _ hn1).trans ((World.cell?_setCell_far _ _ _ _ hn1).trans ((World.cell?_setCell_far _ _ _ _ hn1).trans ((World.cell?_setCell_far _ _ _ _ hn1).trans ((World.cell?_setCell_far _ _ _ _ hn1).trans ((World.cell?_setCell_far _ _ _ _ hn1).trans ((World.cell?_setCell_far _ _ _ _ hn1).trans bw0))))))))),((World.cell?_setCell_far _ _ _ _ hn1).trans ((World.cell?_setCell_far _ _ _ _ hn1).trans ((World.cell?_setCell_far _ _ _ _ hn1).trans ((World.cell?_setCell_far _ _ _ _ hn1).trans ((World.cell?_setCell_far _ _ _ _ hn1).trans ((World.cell?_setCell_far _ _ _ _ hn1).trans ((World.cell?_setCell_far _ _ _ _ hn1).trans ((World.cell?_setCell_far _ _ _ _ hn1).trans ((World.cell?_setCell_far _ _ _ _ hn1).trans bw1))))))))),((World.cell?_setCell_far _ _ _ _ hn1).trans ((World.cell?_setCell_far _ _ _ _ hn1).trans ((World.cell?_setCell_far _ _ _ _ hn1).trans ((World.cell?_setCell_far _ _ _ _ hn1).trans ((World.cell?_setCell_far _ _ _ _ hn1).trans ((World.cell?_setCell_far _ _ _ _ hn1).trans ((World.cell?_setCell_far _ _ _ _ hn1).trans ((World.cell?_setCell_far _ _ _ _ hn1).trans ((World.cell?_setCell_far _ _ _ _ hn1).trans bw2))))))))),((World.cell?_setCell_far _ _ _ _ hn1).trans ((World.cell?_setCell_far _ _ _ _ hn1).trans ((World.cell?_setCell_far _ _ _ _ hn1).trans ((World.cell?_setCell_far _ _ _ _ hn1).trans ((World.cell?_setCell_far _ _ _ _ hn1).trans ((World.cell?_setCell_far _ _ _ _ hn1).trans ((World.cell?_setCell_far _ _ _ _ hn1).trans ((World.cell?_setCell_far _ _ _ _ hn1).trans ((World.cell?_setCell_far _ _ _ _ hn1).trans bw3))))))))),((World.cell?_setCell_far _ _ _ _ hn1).trans ((World.cell?_setCell_far _ _ _ _ hn1).trans ((World.cell?_setCell_far _ _ _ _ hn1).trans ((World.cell?_setCell_far _ _ _ _ hn1).trans ((World.cell?_setCell_far _ _ _ _ hn1).trans ((World.cell?_setCell_far _ _ _ _ hn1).trans ((World.cell?_setCell_far _ _ _ _ hn1).trans ((World.cell?_setCell_far _ _ _ _ hn1).trans ((World.cell?_setCell_far _ _ _ _ hn1).trans bw4))))))))),((World.cell?_setCell_far _ _ _ _ hn1).trans ((World.cell?_setCell_far _ _ _ _ hn1).trans ((World.cell?_setCell_far _ _ _ _ hn1).trans ((World.cell?_setCell_far _ _ _ _ hn1).trans ((World.cell?_setCell_far _ _ _ _ hn1).trans ((World.cell?_setCell_far _ _ _ _ hn1).trans ((World.cell?_setCell_far _ _ _ _ hn1).trans ((World.cell?_setCell_far _ _ _ _ hn1).trans ((World.cell?_setCell_far _ _ _ _ hn1).trans bw5))))))))),((World.cell?_setCell_far _ _ _ _ hn1).trans ((World.cell?_setCell_far _ _ _ _ hn1).trans ((World.cell?_setCell_far _ _ _ _ hn1).trans ((World.cell?_setCell_far _ _ _ _ hn1).trans ((World.cell?_setCell_far _ _ _ _ hn1).trans ((World.cell?_setCell_far _ _ _ _ hn1).trans ((World.cell?_setCell_far _ _ _ _ hn1).trans ((World.cell?_setCell_far _ _ _ _ hn1).trans ((World.cell?_setCell_far _ _ _ _ hn1).trans bw6))))))))),((World.cell?_setCell_far _ _ _ _ hn1).trans ((World.cell?_setCell_far _ _ _ _ hn1).trans ((World.cell?_setCell_far _ _ _ _ hn1).trans ((World.cell?_setCell_far _ _ _ _ hn1).trans ((World.cell?_setCell_far _ _ _ _ hn1).trans ((World.cell?_setCell_far _ _ _ _ hn1).trans ((World.cell?_setCell_far _ _ _ _ hn1).trans ((World.cell?_setCell_far _ _ _ _ hn1).trans ((World.cell?_setCell_far _ _ _ _ hn1).trans bw7)))))))))⟩)) (first | (go_at_call_of 54 (Value.slice p2 l2 c2);refine (hs2 _ ?q0).mono ?_;(case q0=>exact kw.drew);rintro e wl ⟨s5,p5,l5,c5,q5,k5,d5,rfl,hp,gl⟩;have kl:Kp W wl:=Kp.trans (Kp.drew (Kp.refl _)) gl;have aw0:=kkeep kl xw0;have aw1:=kkeep kl xw1;have aw2:=kkeep kl xw2;have aw3:=kkeep kl xw3;have aw4:=kkeep kl xw4;have aw5:=kkeep kl xw5;have aw6:=kkeep kl xw6;have aw7:=kkeep kl xw7) | (go_at_call_of 54 (Value.slice p l c);refine (hs1 _ ?q0).mono ?_;(case q0=>exact kw.trans kl);rintro e wh ⟨s6,p6,l6,c6,q6,k6,d6,rfl,hp2,gh⟩;have kh:Kp W wh:=Kp.trans kl gh;have bw0:=kkeep kh xw0;have bw1:=kkeep kh xw1;have bw2:=kkeep kh xw2;have bw3:=kkeep kh xw3;have bw4:=kkeep kh xw4;have bw5:=kkeep kh xw5;have bw6:=kkeep kh xw6;have bw7:=kkeep kh xw7;have R0:=kkeep kh r0;have Rz0:wh.frozen? ⟨w.heap.size + 1,0,none⟩ = false:=(kfro kh (cell_lt r0)).trans rz0;have R1:=kkeep kh r1;have Rz1:wh.frozen? ⟨w.heap.size + 1,1,none⟩ = false:=(kfro kh (cell_lt r1)).trans rz1;have R2:=kkeep kh r2;have Rz2:wh.frozen? ⟨w.heap.size + 1,2,none⟩ = false:=(kfro kh (cell_lt r2)).trans rz2;have R3:=kkeep kh r3;have Rz3:wh.frozen? ⟨w.heap.size + 1,3,none⟩ = false:=(kfro kh (cell_lt r3)).trans rz3;have R4:=kkeep kh r4;have Rz4:wh.frozen? ⟨w.heap.size + 1,4,none⟩ = false:=(kfro kh (cell_lt r4)).trans rz4;have R5:=kkeep kh r5;have Rz5:wh.frozen? ⟨w.heap.size + 1,5,none⟩ = false:=(kfro kh (cell_lt r5)).trans rz5;have R6:=kkeep kh r6;have Rz6:wh.frozen? ⟨w.heap.size + 1,6,none⟩ = false:=(kfro kh (cell_lt r6)).trans rz6;have R7:=kkeep kh r7;have Rz7:wh.frozen? ⟨w.heap.size + 1,7,none⟩ = false:=(kfro kh (cell_lt r7)).trans rz7;have R8:=kkeep kh r8;have Rz8:wh.frozen? ⟨w.heap.size + 1,8,none⟩ = false:=(kfro kh (cell_lt r8)).trans rz8))
  go_wp2
  have hle:w.heap.size≤W.heap.size:=by omega
  exact bodyPost_ret (v:=.agg #[.bool false,.int .i64 j2,.bool s5,.slice p5 l5 c5,.slice q5 k5 d5,.int .i64 i2,.bool s6,.slice p6 l6 c6,.slice q6 k6 d6]) (by simp [results,Try.results38,go_sem,R0,R1,R2,R3,R4,R5,R6,R7,R8]) rfl ⟨s5,p5,l5,c5,q5,k5,d5,s6,p6,l6,c6,q6,k6,d6,rfl,RP.mono ((((((((((((hp.mono (base':=W.heap.size) (Nat.le_refl _)).kp gh)).set (x:=⟨w.heap.size + 1,0,none⟩) hBW (.bool false)).set (x:=⟨w.heap.size + 1,1,none⟩) hBW (.int .i64 j2)).set (x:=⟨w.heap.size + 1,2,none⟩) hBW (.bool s5)).set (x:=⟨w.heap.size + 1,3,none⟩) hBW (.slice p5 l5 c5)).set (x:=⟨w.heap.size + 1,4,none⟩) hBW (.slice q5 k5 d5)).set (x:=⟨w.heap.size + 1,5,none⟩) hBW (.int .i64 i2)).set (x:=⟨w.heap.size + 1,6,none⟩) hBW (.bool s6)).set (x:=⟨w.heap.size + 1,7,none⟩) hBW (.slice p6 l6 c6)).set (x:=⟨w.heap.size + 1,8,none⟩) hBW (.slice q6 k6 d6)) hle,RP.mono (((((((((((hp2.mono (base':=W.heap.size) (Below.size kl))).set (x:=⟨w.heap.size + 1,0,none⟩) hBW (.bool false)).set (x:=⟨w.heap.size + 1,1,none⟩) hBW (.int .i64 j2)).set (x:=⟨w.heap.size + 1,2,none⟩) hBW (.bool s5)).set (x:=⟨w.heap.size + 1,3,none⟩) hBW (.slice p5 l5 c5)).set (x:=⟨w.heap.size + 1,4,none⟩) hBW (.slice q5 k5 d5)).set (x:=⟨w.heap.size + 1,5,none⟩) hBW (.int .i64 i2)).set (x:=⟨w.heap.size + 1,6,none⟩) hBW (.bool s6)).set (x:=⟨w.heap.size + 1,7,none⟩) hBW (.slice p6 l6 c6)).set (x:=⟨w.heap.size + 1,8,none⟩) hBW (.slice q6 k6 d6)) hle,((((((((((Kp.trans kw kh)).setCell (by simp) _).setCell (by simp) _).setCell (by simp) _).setCell (by simp) _).setCell (by simp) _).setCell (by simp) _).setCell (by simp) _).setCell (by simp) _).setCell (by simp) _⟩
theorem minusE_ (i j:Int) s p l c q k d s2 p2 l2 c2 q2 k2 d2 (w:World):Calls Try.prog 38 #[.agg #[.bool true,.int .i64 i,.bool s,.slice p l c,.slice q k d,.int .i64 j,.bool s2,.slice p2 l2 c2,.slice q2 k2 d2]] w fun e w'=>e = .returned (.agg #[.bool true,.int .i64 i,.bool s,.slice p l c,.slice q k d,.int .i64 j,.bool s2,.slice p2 l2 c2,.slice q2 k2 d2])∧Kp w w':=by
  go_enter Try.func38,Try.ntmps38
  go_wp2
  exact bodyPost_ret (v:=.agg #[.bool true,.int .i64 i,.bool s,.slice p l c,.slice q k d,.int .i64 j,.bool s2,.slice p2 l2 c2,.slice q2 k2 d2]) (by simp [results,Try.results38,go_sem]) rfl ⟨rfl,(by repeat (with_reducible (first | assumption | exact Kp.refl _ | apply Kp.drew | apply Kp.alloc | apply Kp.drewN | (refine Kp.setCell ?_ (by first | omega | (simp <;> omega)) _) | (refine Kp.trans ?_ (by assumption)))))⟩
end Go.Proofs.Ytcepchaakfiojaa
