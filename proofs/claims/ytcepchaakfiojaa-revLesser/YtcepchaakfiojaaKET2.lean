import Derived.Test.YtcepchaakfiojaaKEC4
set_option maxHeartbeats 1000000
set_option maxRecDepth 20000
namespace Go.Proofs.Ytcepchaakfiojaa
open Go.RowKit
set_option linter.unusedSimpArgs false
theorem rnegT_ (p:Option Addr) (l c:Nat) (q:Option Addr) (k d:Nat) (a b:Nat) (w:World) (h1:Own w 0 (.slice p l c) (dig a)) (h2:Own w 0 (.slice q k d) (dig b)) (la:blen a≤1500) (lb:blen b≤1500):Calls Try.prog 67 #[.agg #[.bool true,.slice p l c,.slice q k d]] w fun e w'=>∃ (p2:Option Addr) (l2 c2:Nat) (q2:Option Addr) (k2 d2:Nat),e = .returned (.agg #[.bool false,.slice p2 l2 c2,.slice q2 k2 d2])∧Own w' w.heap.size (.slice p2 l2 c2) (dig a)∧Own w' w.heap.size (.slice q2 k2 d2) (dig b)∧Kp w w':=by
  have nrm:∀ (pp:Option Addr) (ll cc:Nat) (x:Nat),Own w 0 (.slice pp ll cc) (dig x)→blen x≤1500→∀ W:World,Kp w W→Calls Try.prog 57 #[.slice pp ll cc] W fun e w'=>∃ (p2:Option Addr) (l2 c2:Nat),e = .returned (.slice p2 l2 c2)∧Own w' W.heap.size (.slice p2 l2 c2) (dig x)∧Kp W w':=by
    intro pp ll cc x h hx W g
    have hl:(dig x).length≤1048576:=Nat.le_trans (show len32 x≤4000 from dlen x 4000 (by omega)) (by decide)
    have h:=normO (.slice pp ll cc) (dig x) W (h.kp g).ls (Wd_dig _) hl
    rw [val_dig] at h
    refine h.mono ?_
    rintro e w' ⟨v',rfl,o1,g2⟩
    obtain ⟨p2,c2,rfl,-,-⟩:=o1.arr
    exact ⟨p2,_,c2,rfl,o1,g2⟩
  have hs1:=nrm p l c a h1 la
  have hs2:=nrm q k d b h2 lb
  clear nrm h1 h2 la lb
  go_enter Try.func67,Try.ntmps67
  go_wp2
  generalize hW:((w.alloc (.cells #[.bool true,.slice p l c,.slice q k d] 44)).alloc (.cells #[.bool false,.slice none 0 0,.slice none 0 0] 44)) = W
  have kw:Kp w W:=by rw [← hW];exact ((Kp.refl w).alloc _).alloc _
  have xw0:W.cell? ⟨w.heap.size,0,none⟩ = some (.bool true):=by rw [← hW];simp [go_sem]
  have dw0:W.drew.cell? ⟨w.heap.size,0,none⟩ = some (.bool true):=xw0
  have xw1:W.cell? ⟨w.heap.size,1,none⟩ = some (.slice p l c):=by rw [← hW];simp [go_sem]
  have dw1:W.drew.cell? ⟨w.heap.size,1,none⟩ = some (.slice p l c):=xw1
  have xw2:W.cell? ⟨w.heap.size,2,none⟩ = some (.slice q k d):=by rw [← hW];simp [go_sem]
  have dw2:W.drew.cell? ⟨w.heap.size,2,none⟩ = some (.slice q k d):=xw2
  have r0:W.cell? ⟨w.heap.size + 1,0,none⟩ = some (.bool false):=by rw [← hW];simp [go_sem]
  have rz0:W.frozen? ⟨w.heap.size + 1,0,none⟩ = false:=by rw [← hW];simp [go_sem]
  have r1:W.cell? ⟨w.heap.size + 1,1,none⟩ = some (.slice none 0 0):=by rw [← hW];simp [go_sem]
  have rz1:W.frozen? ⟨w.heap.size + 1,1,none⟩ = false:=by rw [← hW];simp [go_sem]
  have r2:W.cell? ⟨w.heap.size + 1,2,none⟩ = some (.slice none 0 0):=by rw [← hW];simp [go_sem]
  have rz2:W.frozen? ⟨w.heap.size + 1,2,none⟩ = false:=by rw [← hW];simp [go_sem]
  have hBW:w.heap.size + 1 < W.heap.size:=cell_lt r0
  have hn1:w.heap.size + 1≠w.heap.size:=by omega
  clear hW
  refine wp_region_held_drew (S:=(fun w'=>w'.cell? ⟨w.heap.size,0,none⟩ = some (.bool true)∧w'.cell? ⟨w.heap.size,1,none⟩ = some (.slice p l c)∧w'.cell? ⟨w.heap.size,2,none⟩ = some (.slice q k d))) (by kernel_rfl) ?_ (fun hHeld=>?_)
  · exact ⟨dw0,dw1,dw2⟩
  refine wpAnyH_take (i:=0) (v:=.pointer (some ⟨w.heap.size,0,none⟩)) rfl (by kernel_rfl) (by kernel_rfl) (by kernel_rfl) (fun _ _ _ h=>h) (Or.inl ⟨by rfl, ?_⟩) (by assumption) ?_
  · intro w hSw
    (try dsimp only at hSw)
    go_simp
  try simp only [Act.put,List.getElem_toArray,List.getElem_cons_zero,List.getElem_cons_succ,List.setIfInBounds_toArray,List.set_cons_zero,List.set_cons_succ]
  refine wpAnyH_take (i:=1) (v:=.bool true) rfl (by kernel_rfl) (by kernel_rfl) (by kernel_rfl) (fun _ _ _ h=>h) (Or.inl ⟨by rfl, ?_⟩) (by assumption) ?_
  · intro w hSw
    (try dsimp only at hSw)
    go_simp
  try simp only [Act.put,List.getElem_toArray,List.getElem_cons_zero,List.getElem_cons_succ,List.setIfInBounds_toArray,List.set_cons_zero,List.set_cons_succ]
  refine wpAnyH_take (i:=2) (v:=.bool false) rfl (by kernel_rfl) (by kernel_rfl) (by kernel_rfl) (fun _ _ _ h=>h) (Or.inl ⟨by rfl, ?_⟩) (by assumption) ?_
  · intro w hSw
    (try dsimp only at hSw)
    go_simp
  try simp only [Act.put,List.getElem_toArray,List.getElem_cons_zero,List.getElem_cons_succ,List.setIfInBounds_toArray,List.set_cons_zero,List.set_cons_succ]
  refine wpAnyH_take (i:=3) (v:=.bool false) rfl (by kernel_rfl) (by kernel_rfl) (by kernel_rfl) (fun _ _ _ h=>h) (Or.inl ⟨by rfl, ?_⟩) (by assumption) ?_
  · intro w hSw
    (try dsimp only at hSw)
    go_simp
  try simp only [Act.put,List.getElem_toArray,List.getElem_cons_zero,List.getElem_cons_succ,List.setIfInBounds_toArray,List.set_cons_zero,List.set_cons_succ]
  refine wpAnyH_take (i:=4) (v:=undef) rfl (by kernel_rfl) (by kernel_rfl) (by kernel_rfl) (fun _ _ _ h=>h) (Or.inr ⟨by rfl,rfl⟩) (by assumption) ?_
  try simp only [Act.put,List.getElem_toArray,List.getElem_cons_zero,List.getElem_cons_succ,List.setIfInBounds_toArray,List.set_cons_zero,List.set_cons_succ]
  refine wpAnyH_take (i:=5) (v:=undef) rfl (by kernel_rfl) (by kernel_rfl) (by kernel_rfl) (fun _ _ _ h=>h) (Or.inr ⟨by rfl,rfl⟩) (by assumption) ?_
  try simp only [Act.put,List.getElem_toArray,List.getElem_cons_zero,List.getElem_cons_succ,List.setIfInBounds_toArray,List.set_cons_zero,List.set_cons_succ]
  refine wpAnyH_take (i:=6) (v:=undef) rfl (by kernel_rfl) (by kernel_rfl) (by kernel_rfl) (fun _ _ _ h=>h) (Or.inr ⟨by rfl,rfl⟩) (by assumption) ?_
  try simp only [Act.put,List.getElem_toArray,List.getElem_cons_zero,List.getElem_cons_succ,List.setIfInBounds_toArray,List.set_cons_zero,List.set_cons_succ]
  refine wpAnyH_take (i:=7) (v:=undef) rfl (by kernel_rfl) (by kernel_rfl) (by kernel_rfl) (fun _ _ _ h=>h) (Or.inr ⟨by rfl,rfl⟩) (by assumption) ?_
  try simp only [Act.put,List.getElem_toArray,List.getElem_cons_zero,List.getElem_cons_succ,List.setIfInBounds_toArray,List.set_cons_zero,List.set_cons_succ]
  refine wpAnyH_take (i:=8) (v:=.bool false) rfl (by kernel_rfl) (by kernel_rfl) (by kernel_rfl) (fun _ _ _ h=>h) (Or.inl ⟨by rfl, ?_⟩) (by assumption) ?_
  · intro w hSw
    (try dsimp only at hSw)
    go_simp
  try simp only [Act.put,List.getElem_toArray,List.getElem_cons_zero,List.getElem_cons_succ,List.setIfInBounds_toArray,List.set_cons_zero,List.set_cons_succ]
  refine wpAnyH_take (i:=9) (v:=.pointer (some ⟨w.heap.size,1,none⟩)) rfl (by kernel_rfl) (by kernel_rfl) (by kernel_rfl) (fun _ _ _ h=>h) (Or.inl ⟨by rfl, ?_⟩) (by assumption) ?_
  · intro w hSw
    (try dsimp only at hSw)
    go_simp
  try simp only [Act.put,List.getElem_toArray,List.getElem_cons_zero,List.getElem_cons_succ,List.setIfInBounds_toArray,List.set_cons_zero,List.set_cons_succ]
  refine wpAnyH_take (i:=10) (v:=.slice p l c) rfl (by kernel_rfl) (by kernel_rfl) (by kernel_rfl) (fun _ _ _ h=>h) (Or.inl ⟨by rfl, ?_⟩) (by assumption) ?_
  · intro w hSw
    (try dsimp only at hSw)
    go_simp
  try simp only [Act.put,List.getElem_toArray,List.getElem_cons_zero,List.getElem_cons_succ,List.setIfInBounds_toArray,List.set_cons_zero,List.set_cons_succ]
  refine wpAnyH_take (i:=12) (v:=.pointer (some ⟨w.heap.size,2,none⟩)) rfl (by kernel_rfl) (by kernel_rfl) (by kernel_rfl) (fun _ _ _ h=>h) (Or.inl ⟨by rfl, ?_⟩) (by assumption) ?_
  · intro w hSw
    (try dsimp only at hSw)
    go_simp
  try simp only [Act.put,List.getElem_toArray,List.getElem_cons_zero,List.getElem_cons_succ,List.setIfInBounds_toArray,List.set_cons_zero,List.set_cons_succ]
  refine wpAnyH_take (i:=13) (v:=.slice q k d) rfl (by kernel_rfl) (by kernel_rfl) (by kernel_rfl) (fun _ _ _ h=>h) (Or.inl ⟨by rfl, ?_⟩) (by assumption) ?_
  · intro w hSw
    (try dsimp only at hSw)
    go_simp
  try simp only [Act.put,List.getElem_toArray,List.getElem_cons_zero,List.getElem_cons_succ,List.setIfInBounds_toArray,List.set_cons_zero,List.set_cons_succ]
  refine wpAnyH_ready (rs:=[11]) (by kernel_rfl) (by simp) ?_
  refine AllReadyH.cons rfl (fun K hK=>?_) AllReadyH.nil
  go_simp
  go_at_call_of 57 (Value.slice p l c);refine (hs1 _ ?q0).mono ?_;(case q0=>exact kw.drew);rintro e wl ⟨p2,l2,c2,rfl,ho1,gl⟩;have kl:Kp W wl:=Kp.trans (Kp.drew (Kp.refl _)) gl;have aw0:=kkeep kl xw0;have aw1:=kkeep kl xw1;have aw2:=kkeep kl xw2
  go_wp2_with fail
  refine hK.out _ _ ?_ (fun hHeld=>?_)
  · exact ⟨aw0,aw1,aw2⟩
  clear hK K
  try simp only [Act.put,List.getElem_toArray,List.getElem_cons_zero,List.getElem_cons_succ,List.setIfInBounds_toArray,List.set_cons_zero,List.set_cons_succ]
  refine wpAnyH_ready (rs:=[14]) (by kernel_rfl) (by simp) ?_
  refine AllReadyH.cons rfl (fun K hK=>?_) AllReadyH.nil
  go_simp
  go_at_call_of 57 (Value.slice q k d);refine (hs2 _ ?q0).mono ?_;(case q0=>exact kw.trans kl);rintro e wh ⟨q2,k2,d2,rfl,ho2,gh⟩;have kh:Kp W wh:=Kp.trans kl gh;have bw0:=kkeep kh xw0;have bw1:=kkeep kh xw1;have bw2:=kkeep kh xw2;have R0:=kkeep kh r0;have Rz0:wh.frozen? ⟨w.heap.size + 1,0,none⟩ = false:=(kfro kh (cell_lt r0)).trans rz0;have R1:=kkeep kh r1;have Rz1:wh.frozen? ⟨w.heap.size + 1,1,none⟩ = false:=(kfro kh (cell_lt r1)).trans rz1;have R2:=kkeep kh r2;have Rz2:wh.frozen? ⟨w.heap.size + 1,2,none⟩ = false:=(kfro kh (cell_lt r2)).trans rz2
  go_wp2_with fail
  refine hK.out _ _ ?_ (fun hHeld=>?_)
  · exact ⟨bw0,bw1,bw2⟩
  clear hK K
  try simp only [Act.put,List.getElem_toArray,List.getElem_cons_zero,List.getElem_cons_succ,List.setIfInBounds_toArray,List.set_cons_zero,List.set_cons_succ]
  refine wpAnyH_take (i:=15) (v:=.agg #[.bool false,.slice p2 l2 c2,.slice q2 k2 d2]) rfl (by kernel_rfl) (by kernel_rfl) (by kernel_rfl) (fun _ _ _ h=>h) (Or.inl ⟨by rfl, ?_⟩) (by assumption) ?_
  · intro w hSw
    (try dsimp only at hSw)
    go_simp
  try simp only [Act.put,List.getElem_toArray,List.getElem_cons_zero,List.getElem_cons_succ,List.setIfInBounds_toArray,List.set_cons_zero,List.set_cons_succ]
  refine wpAnyH_ready (rs:=[16]) (by kernel_rfl) (by simp) ?_
  refine AllReadyH.cons rfl (fun K hK=>?_) AllReadyH.nil
  go_simp
  refine hK.out _ _ ?_ (fun hHeld=>?_)
  · exact ⟨((World.cell?_setCell_far _ _ _ _ hn1).trans ((World.cell?_setCell_far _ _ _ _ hn1).trans ((World.cell?_setCell_far _ _ _ _ hn1).trans bw0))),((World.cell?_setCell_far _ _ _ _ hn1).trans ((World.cell?_setCell_far _ _ _ _ hn1).trans ((World.cell?_setCell_far _ _ _ _ hn1).trans bw1))),((World.cell?_setCell_far _ _ _ _ hn1).trans ((World.cell?_setCell_far _ _ _ _ hn1).trans ((World.cell?_setCell_far _ _ _ _ hn1).trans bw2)))⟩
  clear hK K
  try simp only [Act.put,List.getElem_toArray,List.getElem_cons_zero,List.getElem_cons_succ,List.setIfInBounds_toArray,List.set_cons_zero,List.set_cons_succ]
  refine wpAnyH_done (by kernel_rfl) ?_ _
  all_goals go_wp2
  all_goals (
    have hle:w.heap.size≤W.heap.size:=by omega
    have O1:Own wh W.heap.size (.slice p2 l2 c2) (dig a):=(ho1.mono (base':=W.heap.size) (Nat.le_refl _)).kp gh
    have O2:Own wh W.heap.size (.slice q2 k2 d2) (dig b):=ho2.mono (base':=W.heap.size) (Below.size kl)
    exact bodyPost_ret (v:=.agg #[.bool false,.slice p2 l2 c2,.slice q2 k2 d2]) (by simp [results,Try.results67,go_sem,R0,R1,R2]) rfl ⟨p2,l2,c2,q2,k2,d2,rfl,(((O1.setOther (a:=⟨w.heap.size + 1,0,none⟩) hBW _).setOther (a:=⟨w.heap.size + 1,1,none⟩) hBW _).setOther (a:=⟨w.heap.size + 1,2,none⟩) hBW _).mono hle,(((O2.setOther (a:=⟨w.heap.size + 1,0,none⟩) hBW _).setOther (a:=⟨w.heap.size + 1,1,none⟩) hBW _).setOther (a:=⟨w.heap.size + 1,2,none⟩) hBW _).mono hle,((((Kp.trans kw kh)).setCell (by simp) _).setCell (by simp) _).setCell (by simp) _⟩)
theorem rnegP_ (p:Option Addr) (l c:Nat) (q:Option Addr) (k d:Nat) (a b:Nat) (w:World) (h1:Own w 0 (.slice p l c) (dig a)) (h2:Own w 0 (.slice q k d) (dig b)) (la:blen a≤1500) (lb:blen b≤1500) (t1:0 < l):Calls Try.prog 67 #[.agg #[.bool false,.slice p l c,.slice q k d]] w fun e w'=>∃ (p2:Option Addr) (l2 c2:Nat) (q2:Option Addr) (k2 d2:Nat),e = .returned (.agg #[.bool true,.slice p2 l2 c2,.slice q2 k2 d2])∧Own w' w.heap.size (.slice p2 l2 c2) (dig a)∧Own w' w.heap.size (.slice q2 k2 d2) (dig b)∧Kp w w':=by
  have nrm:∀ (pp:Option Addr) (ll cc:Nat) (x:Nat),Own w 0 (.slice pp ll cc) (dig x)→blen x≤1500→∀ W:World,Kp w W→Calls Try.prog 57 #[.slice pp ll cc] W fun e w'=>∃ (p2:Option Addr) (l2 c2:Nat),e = .returned (.slice p2 l2 c2)∧Own w' W.heap.size (.slice p2 l2 c2) (dig x)∧Kp W w':=by
    intro pp ll cc x h hx W g
    have hl:(dig x).length≤1048576:=Nat.le_trans (show len32 x≤4000 from dlen x 4000 (by omega)) (by decide)
    have h:=normO (.slice pp ll cc) (dig x) W (h.kp g).ls (Wd_dig _) hl
    rw [val_dig] at h
    refine h.mono ?_
    rintro e w' ⟨v',rfl,o1,g2⟩
    obtain ⟨p2,c2,rfl,-,-⟩:=o1.arr
    exact ⟨p2,_,c2,rfl,o1,g2⟩
  have hs1:=nrm p l c a h1 la
  have hs2:=nrm q k d b h2 lb
  clear nrm h1 h2 la lb
  go_enter Try.func67,Try.ntmps67
  go_wp2
  generalize hW:((w.alloc (.cells #[.bool false,.slice p l c,.slice q k d] 44)).alloc (.cells #[.bool false,.slice none 0 0,.slice none 0 0] 44)) = W
  have kw:Kp w W:=by rw [← hW];exact ((Kp.refl w).alloc _).alloc _
  have xw0:W.cell? ⟨w.heap.size,0,none⟩ = some (.bool false):=by rw [← hW];simp [go_sem]
  have dw0:W.drew.cell? ⟨w.heap.size,0,none⟩ = some (.bool false):=xw0
  have xw1:W.cell? ⟨w.heap.size,1,none⟩ = some (.slice p l c):=by rw [← hW];simp [go_sem]
  have dw1:W.drew.cell? ⟨w.heap.size,1,none⟩ = some (.slice p l c):=xw1
  have xw2:W.cell? ⟨w.heap.size,2,none⟩ = some (.slice q k d):=by rw [← hW];simp [go_sem]
  have dw2:W.drew.cell? ⟨w.heap.size,2,none⟩ = some (.slice q k d):=xw2
  have r0:W.cell? ⟨w.heap.size + 1,0,none⟩ = some (.bool false):=by rw [← hW];simp [go_sem]
  have rz0:W.frozen? ⟨w.heap.size + 1,0,none⟩ = false:=by rw [← hW];simp [go_sem]
  have r1:W.cell? ⟨w.heap.size + 1,1,none⟩ = some (.slice none 0 0):=by rw [← hW];simp [go_sem]
  have rz1:W.frozen? ⟨w.heap.size + 1,1,none⟩ = false:=by rw [← hW];simp [go_sem]
  have r2:W.cell? ⟨w.heap.size + 1,2,none⟩ = some (.slice none 0 0):=by rw [← hW];simp [go_sem]
  have rz2:W.frozen? ⟨w.heap.size + 1,2,none⟩ = false:=by rw [← hW];simp [go_sem]
  have hBW:w.heap.size + 1 < W.heap.size:=cell_lt r0
  have hn1:w.heap.size + 1≠w.heap.size:=by omega
  clear hW
  go_region_held3 (fun w'=>w'.cell? ⟨w.heap.size,0,none⟩ = some (.bool false)∧w'.cell? ⟨w.heap.size,1,none⟩ = some (.slice p l c)∧w'.cell? ⟨w.heap.size,2,none⟩ = some (.slice q k d)) (first | (with_reducible exact ⟨xw0,xw1,xw2⟩) | (with_reducible exact ⟨dw0,dw1,dw2⟩) | (with_reducible exact ⟨aw0,aw1,aw2⟩) | (with_reducible exact ⟨bw0,bw1,bw2⟩) | (exact ⟨((World.cell?_setCell_far _ _ _ _ hn1).trans ((World.cell?_setCell_far _ _ _ _ hn1).trans ((World.cell?_setCell_far _ _ _ _ hn1).trans bw0))),((World.cell?_setCell_far _ _ _ _ hn1).trans ((World.cell?_setCell_far _ _ _ _ hn1).trans ((World.cell?_setCell_far _ _ _ _ hn1).trans bw1))),((World.cell?_setCell_far _ _ _ _ hn1).trans ((World.cell?_setCell_far _ _ _ _ hn1).trans ((World.cell?_setCell_far _ _ _ _ hn1).trans bw2)))⟩)) (first | (go_at_call_of 57 (Value.slice p l c);refine (hs1 _ ?q0).mono ?_;(case q0=>exact kw.drew);rintro e wl ⟨p2,l2,c2,rfl,ho1,gl⟩;have kl:Kp W wl:=Kp.trans (Kp.drew (Kp.refl _)) gl;have aw0:=kkeep kl xw0;have aw1:=kkeep kl xw1;have aw2:=kkeep kl xw2) | (go_at_call_of 57 (Value.slice q k d);refine (hs2 _ ?q0).mono ?_;(case q0=>exact kw.trans kl);rintro e wh ⟨q2,k2,d2,rfl,ho2,gh⟩;have kh:Kp W wh:=Kp.trans kl gh;have bw0:=kkeep kh xw0;have bw1:=kkeep kh xw1;have bw2:=kkeep kh xw2;have R0:=kkeep kh r0;have Rz0:wh.frozen? ⟨w.heap.size + 1,0,none⟩ = false:=(kfro kh (cell_lt r0)).trans rz0;have R1:=kkeep kh r1;have Rz1:wh.frozen? ⟨w.heap.size + 1,1,none⟩ = false:=(kfro kh (cell_lt r1)).trans rz1;have R2:=kkeep kh r2;have Rz2:wh.frozen? ⟨w.heap.size + 1,2,none⟩ = false:=(kfro kh (cell_lt r2)).trans rz2))
  all_goals go_wp2
  all_goals (
    have hle:w.heap.size≤W.heap.size:=by omega
    have O1:Own wh W.heap.size (.slice p2 l2 c2) (dig a):=(ho1.mono (base':=W.heap.size) (Nat.le_refl _)).kp gh
    have O2:Own wh W.heap.size (.slice q2 k2 d2) (dig b):=ho2.mono (base':=W.heap.size) (Below.size kl)
    exact bodyPost_ret (v:=.agg #[.bool true,.slice p2 l2 c2,.slice q2 k2 d2]) (by simp [results,Try.results67,go_sem,R0,R1,R2]) rfl ⟨p2,l2,c2,q2,k2,d2,rfl,(((O1.setOther (a:=⟨w.heap.size + 1,0,none⟩) hBW _).setOther (a:=⟨w.heap.size + 1,1,none⟩) hBW _).setOther (a:=⟨w.heap.size + 1,2,none⟩) hBW _).mono hle,(((O2.setOther (a:=⟨w.heap.size + 1,0,none⟩) hBW _).setOther (a:=⟨w.heap.size + 1,1,none⟩) hBW _).setOther (a:=⟨w.heap.size + 1,2,none⟩) hBW _).mono hle,((((Kp.trans kw kh)).setCell (by simp) _).setCell (by simp) _).setCell (by simp) _⟩)
theorem rnegZ_ (p:Option Addr) (l c:Nat) (q:Option Addr) (k d:Nat) (a b:Nat) (w:World) (h1:Own w 0 (.slice p l c) (dig a)) (h2:Own w 0 (.slice q k d) (dig b)) (la:blen a≤1500) (lb:blen b≤1500) (t1:¬ (0 < l)):Calls Try.prog 67 #[.agg #[.bool false,.slice p l c,.slice q k d]] w fun e w'=>∃ (p2:Option Addr) (l2 c2:Nat) (q2:Option Addr) (k2 d2:Nat),e = .returned (.agg #[.bool false,.slice p2 l2 c2,.slice q2 k2 d2])∧Own w' w.heap.size (.slice p2 l2 c2) (dig a)∧Own w' w.heap.size (.slice q2 k2 d2) (dig b)∧Kp w w':=by
  have nrm:∀ (pp:Option Addr) (ll cc:Nat) (x:Nat),Own w 0 (.slice pp ll cc) (dig x)→blen x≤1500→∀ W:World,Kp w W→Calls Try.prog 57 #[.slice pp ll cc] W fun e w'=>∃ (p2:Option Addr) (l2 c2:Nat),e = .returned (.slice p2 l2 c2)∧Own w' W.heap.size (.slice p2 l2 c2) (dig x)∧Kp W w':=by
    intro pp ll cc x h hx W g
    have hl:(dig x).length≤1048576:=Nat.le_trans (show len32 x≤4000 from dlen x 4000 (by omega)) (by decide)
    have h:=normO (.slice pp ll cc) (dig x) W (h.kp g).ls (Wd_dig _) hl
    rw [val_dig] at h
    refine h.mono ?_
    rintro e w' ⟨v',rfl,o1,g2⟩
    obtain ⟨p2,c2,rfl,-,-⟩:=o1.arr
    exact ⟨p2,_,c2,rfl,o1,g2⟩
  have hs1:=nrm p l c a h1 la
  have hs2:=nrm q k d b h2 lb
  clear nrm h1 h2 la lb
  go_enter Try.func67,Try.ntmps67
  go_wp2
  generalize hW:((w.alloc (.cells #[.bool false,.slice p l c,.slice q k d] 44)).alloc (.cells #[.bool false,.slice none 0 0,.slice none 0 0] 44)) = W
  have kw:Kp w W:=by rw [← hW];exact ((Kp.refl w).alloc _).alloc _
  have xw0:W.cell? ⟨w.heap.size,0,none⟩ = some (.bool false):=by rw [← hW];simp [go_sem]
  have dw0:W.drew.cell? ⟨w.heap.size,0,none⟩ = some (.bool false):=xw0
  have xw1:W.cell? ⟨w.heap.size,1,none⟩ = some (.slice p l c):=by rw [← hW];simp [go_sem]
  have dw1:W.drew.cell? ⟨w.heap.size,1,none⟩ = some (.slice p l c):=xw1
  have xw2:W.cell? ⟨w.heap.size,2,none⟩ = some (.slice q k d):=by rw [← hW];simp [go_sem]
  have dw2:W.drew.cell? ⟨w.heap.size,2,none⟩ = some (.slice q k d):=xw2
  have r0:W.cell? ⟨w.heap.size + 1,0,none⟩ = some (.bool false):=by rw [← hW];simp [go_sem]
  have rz0:W.frozen? ⟨w.heap.size + 1,0,none⟩ = false:=by rw [← hW];simp [go_sem]
  have r1:W.cell? ⟨w.heap.size + 1,1,none⟩ = some (.slice none 0 0):=by rw [← hW];simp [go_sem]
  have rz1:W.frozen? ⟨w.heap.size + 1,1,none⟩ = false:=by rw [← hW];simp [go_sem]
  have r2:W.cell? ⟨w.heap.size + 1,2,none⟩ = some (.slice none 0 0):=by rw [← hW];simp [go_sem]
  have rz2:W.frozen? ⟨w.heap.size + 1,2,none⟩ = false:=by rw [← hW];simp [go_sem]
  have hBW:w.heap.size + 1 < W.heap.size:=cell_lt r0
  have hn1:w.heap.size + 1≠w.heap.size:=by omega
  clear hW
  go_region_held3 (fun w'=>w'.cell? ⟨w.heap.size,0,none⟩ = some (.bool false)∧w'.cell? ⟨w.heap.size,1,none⟩ = some (.slice p l c)∧w'.cell? ⟨w.heap.size,2,none⟩ = some (.slice q k d)) (first | (with_reducible exact ⟨xw0,xw1,xw2⟩) | (with_reducible exact ⟨dw0,dw1,dw2⟩) | (with_reducible exact ⟨aw0,aw1,aw2⟩) | (with_reducible exact ⟨bw0,bw1,bw2⟩) | (exact ⟨((World.cell?_setCell_far _ _ _ _ hn1).trans ((World.cell?_setCell_far _ _ _ _ hn1).trans ((World.cell?_setCell_far _ _ _ _ hn1).trans bw0))),((World.cell?_setCell_far _ _ _ _ hn1).trans ((World.cell?_setCell_far _ _ _ _ hn1).trans ((World.cell?_setCell_far _ _ _ _ hn1).trans bw1))),((World.cell?_setCell_far _ _ _ _ hn1).trans ((World.cell?_setCell_far _ _ _ _ hn1).trans ((World.cell?_setCell_far _ _ _ _ hn1).trans bw2)))⟩)) (first | (go_at_call_of 57 (Value.slice p l c);refine (hs1 _ ?q0).mono ?_;(case q0=>exact kw.drew);rintro e wl ⟨p2,l2,c2,rfl,ho1,gl⟩;have kl:Kp W wl:=Kp.trans (Kp.drew (Kp.refl _)) gl;have aw0:=kkeep kl xw0;have aw1:=kkeep kl xw1;have aw2:=kkeep kl xw2) | (go_at_call_of 57 (Value.slice q k d);refine (hs2 _ ?q0).mono ?_;(case q0=>exact kw.trans kl);rintro e wh ⟨q2,k2,d2,rfl,ho2,gh⟩;have kh:Kp W wh:=Kp.trans kl gh;have bw0:=kkeep kh xw0;have bw1:=kkeep kh xw1;have bw2:=kkeep kh xw2;have R0:=kkeep kh r0;have Rz0:wh.frozen? ⟨w.heap.size + 1,0,none⟩ = false:=(kfro kh (cell_lt r0)).trans rz0;have R1:=kkeep kh r1;have Rz1:wh.frozen? ⟨w.heap.size + 1,1,none⟩ = false:=(kfro kh (cell_lt r1)).trans rz1;have R2:=kkeep kh r2;have Rz2:wh.frozen? ⟨w.heap.size + 1,2,none⟩ = false:=(kfro kh (cell_lt r2)).trans rz2))
  all_goals go_wp2
  all_goals (
    have hle:w.heap.size≤W.heap.size:=by omega
    have O1:Own wh W.heap.size (.slice p2 l2 c2) (dig a):=(ho1.mono (base':=W.heap.size) (Nat.le_refl _)).kp gh
    have O2:Own wh W.heap.size (.slice q2 k2 d2) (dig b):=ho2.mono (base':=W.heap.size) (Below.size kl)
    exact bodyPost_ret (v:=.agg #[.bool false,.slice p2 l2 c2,.slice q2 k2 d2]) (by simp [results,Try.results67,go_sem,R0,R1,R2]) rfl ⟨p2,l2,c2,q2,k2,d2,rfl,(((O1.setOther (a:=⟨w.heap.size + 1,0,none⟩) hBW _).setOther (a:=⟨w.heap.size + 1,1,none⟩) hBW _).setOther (a:=⟨w.heap.size + 1,2,none⟩) hBW _).mono hle,(((O2.setOther (a:=⟨w.heap.size + 1,0,none⟩) hBW _).setOther (a:=⟨w.heap.size + 1,1,none⟩) hBW _).setOther (a:=⟨w.heap.size + 1,2,none⟩) hBW _).mono hle,((((Kp.trans kw kh)).setCell (by simp) _).setCell (by simp) _).setCell (by simp) _⟩)
end Go.Proofs.Ytcepchaakfiojaa
