import Derived.Test.YtoibnopiinclaaaGreatDoorKTNB
set_option maxHeartbeats 1000000
set_option maxRecDepth 20000
namespace Go.Proofs.YtoibnopiinclaaaGreatDoor
open Go.RowKit
set_option linter.unusedVariables false
set_option linter.unusedSimpArgs false
theorem rnegXT_ (p:Option Addr) (l c:Nat) (q:Option Addr) (k d:Nat) (a b:Nat) (w:World) (h1:Own w 0 (.slice p l c) (dig a)) (h2:Own w 0 (.slice q k d) (dig b)) (la:blen a≤100000) (lb:blen b≤100000):Calls Tryz.prog 64 #[.agg #[.bool true,.slice p l c,.slice q k d]] w fun e w'=>∃ (p2:Option Addr) (l2 c2:Nat) (q2:Option Addr) (k2 d2:Nat),e = .returned (.agg #[.bool false,.slice p2 l2 c2,.slice q2 k2 d2])∧Own w' w.heap.size (.slice p2 l2 c2) (dig a)∧Own w' w.heap.size (.slice q2 k2 d2) (dig b)∧Kp w w':=by
  have nrm:∀ (pp:Option Addr) (ll cc:Nat) (x:Nat),Own w 0 (.slice pp ll cc) (dig x)→blen x≤100000→∀ W:World,Kp w W→Calls Tryz.prog 28 #[.slice pp ll cc] W fun e w'=>∃ (p2:Option Addr) (l2 c2:Nat),e = .returned (.slice p2 l2 c2)∧Own w' W.heap.size (.slice p2 l2 c2) (dig x)∧Kp W w':=by
    intro pp ll cc x h hx W g
    have hl:(dig x).length≤1048576:=Nat.le_trans (show len32 x≤4000 from dlen x 4000 (by omega)) (by decide)
    have h:=normO (.slice pp ll cc) (dig x) W (h.kp g).ls (Wd_dig _) hl
    rw [val_dig] at h
    refine h.mono ?_
    rintro e w' ⟨v',rfl,o1,g2⟩
    obtain ⟨p2,c2,rfl,-,-⟩:=o1.arr
    exact ⟨p2,_,c2,rfl,o1,g2⟩
  have hs1:=nrm p l c a h1 la
  have hs2:=nrm q k d b h2 lb
  clear nrm h1 h2 la lb
  go_enter Tryz.func64,Tryz.ntmps64
  go_wp2
  generalize hW:((w.alloc (.cells #[.bool true,.slice p l c,.slice q k d] 32)).alloc (.cells #[.bool false,.slice none 0 0,.slice none 0 0] 32)) = W
  have kw:Kp w W:=by rw [← hW];exact ((Kp.refl w).alloc _).alloc _
  have xw0:W.cell? ⟨w.heap.size,0,none⟩ = some (.bool true):=by rw [← hW];simp [go_sem]
  have dw0:W.drew.cell? ⟨w.heap.size,0,none⟩ = some (.bool true):=xw0
  have xw1:W.cell? ⟨w.heap.size,1,none⟩ = some (.slice p l c):=by rw [← hW];simp [go_sem]
  have dw1:W.drew.cell? ⟨w.heap.size,1,none⟩ = some (.slice p l c):=xw1
  have xw2:W.cell? ⟨w.heap.size,2,none⟩ = some (.slice q k d):=by rw [← hW];simp [go_sem]
  have dw2:W.drew.cell? ⟨w.heap.size,2,none⟩ = some (.slice q k d):=xw2
  have r0:W.cell? ⟨w.heap.size + 1,0,none⟩ = some (.bool false):=by rw [← hW];simp [go_sem]
  have rz0:W.frozen? ⟨w.heap.size + 1,0,none⟩ = false:=by rw [← hW];simp [go_sem]
  have r1:W.cell? ⟨w.heap.size + 1,1,none⟩ = some (.slice none 0 0):=by rw [← hW];simp [go_sem]
  have rz1:W.frozen? ⟨w.heap.size + 1,1,none⟩ = false:=by rw [← hW];simp [go_sem]
  have r2:W.cell? ⟨w.heap.size + 1,2,none⟩ = some (.slice none 0 0):=by rw [← hW];simp [go_sem]
  have rz2:W.frozen? ⟨w.heap.size + 1,2,none⟩ = false:=by rw [← hW];simp [go_sem]
  have hBW:w.heap.size + 1 < W.heap.size:=cell_lt r0
  have hn1:w.heap.size + 1≠w.heap.size:=by omega
  clear hW
  refine wp_region_held_drew (S:=(fun w'=>w'.cell? ⟨w.heap.size,0,none⟩ = some (.bool true)∧w'.cell? ⟨w.heap.size,1,none⟩ = some (.slice p l c)∧w'.cell? ⟨w.heap.size,2,none⟩ = some (.slice q k d))) (by kernel_rfl) ?_ (fun hHeld=>?_)
  · exact ⟨dw0,dw1,dw2⟩
  refine wpAnyH_take (i:=0) (v:=.pointer (some ⟨w.heap.size,0,none⟩)) rfl (by kernel_rfl) (by kernel_rfl) (by kernel_rfl) (fun _ _ _ h=>h) (Or.inl ⟨by rfl, ?_⟩) (by assumption) ?_
  · intro w hSw
    (try dsimp only at hSw)
    go_simp
  try simp only [Act.put,List.getElem_toArray,List.getElem_cons_zero,List.getElem_cons_succ,List.setIfInBounds_toArray,List.set_cons_zero,List.set_cons_succ]
  refine wpAnyH_take (i:=1) (v:=.bool true) rfl (by kernel_rfl) (by kernel_rfl) (by kernel_rfl) (fun _ _ _ h=>h) (Or.inl ⟨by rfl, ?_⟩) (by assumption) ?_
  · intro w hSw
    (try dsimp only at hSw)
    go_simp
  try simp only [Act.put,List.getElem_toArray,List.getElem_cons_zero,List.getElem_cons_succ,List.setIfInBounds_toArray,List.set_cons_zero,List.set_cons_succ]
  refine wpAnyH_take (i:=2) (v:=.bool false) rfl (by kernel_rfl) (by kernel_rfl) (by kernel_rfl) (fun _ _ _ h=>h) (Or.inl ⟨by rfl, ?_⟩) (by assumption) ?_
  · intro w hSw
    (try dsimp only at hSw)
    go_simp
  try simp only [Act.put,List.getElem_toArray,List.getElem_cons_zero,List.getElem_cons_succ,List.setIfInBounds_toArray,List.set_cons_zero,List.set_cons_succ]
  refine wpAnyH_take (i:=3) (v:=.bool false) rfl (by kernel_rfl) (by kernel_rfl) (by kernel_rfl) (fun _ _ _ h=>h) (Or.inl ⟨by rfl, ?_⟩) (by assumption) ?_
  · intro w hSw
    (try dsimp only at hSw)
    go_simp
  try simp only [Act.put,List.getElem_toArray,List.getElem_cons_zero,List.getElem_cons_succ,List.setIfInBounds_toArray,List.set_cons_zero,List.set_cons_succ]
  refine wpAnyH_take (i:=4) (v:=undef) rfl (by kernel_rfl) (by kernel_rfl) (by kernel_rfl) (fun _ _ _ h=>h) (Or.inr ⟨by rfl,rfl⟩) (by assumption) ?_
  try simp only [Act.put,List.getElem_toArray,List.getElem_cons_zero,List.getElem_cons_succ,List.setIfInBounds_toArray,List.set_cons_zero,List.set_cons_succ]
  refine wpAnyH_take (i:=5) (v:=undef) rfl (by kernel_rfl) (by kernel_rfl) (by kernel_rfl) (fun _ _ _ h=>h) (Or.inr ⟨by rfl,rfl⟩) (by assumption) ?_
  try simp only [Act.put,List.getElem_toArray,List.getElem_cons_zero,List.getElem_cons_succ,List.setIfInBounds_toArray,List.set_cons_zero,List.set_cons_succ]
  refine wpAnyH_take (i:=6) (v:=undef) rfl (by kernel_rfl) (by kernel_rfl) (by kernel_rfl) (fun _ _ _ h=>h) (Or.inr ⟨by rfl,rfl⟩) (by assumption) ?_
  try simp only [Act.put,List.getElem_toArray,List.getElem_cons_zero,List.getElem_cons_succ,List.setIfInBounds_toArray,List.set_cons_zero,List.set_cons_succ]
  refine wpAnyH_take (i:=7) (v:=undef) rfl (by kernel_rfl) (by kernel_rfl) (by kernel_rfl) (fun _ _ _ h=>h) (Or.inr ⟨by rfl,rfl⟩) (by assumption) ?_
  try simp only [Act.put,List.getElem_toArray,List.getElem_cons_zero,List.getElem_cons_succ,List.setIfInBounds_toArray,List.set_cons_zero,List.set_cons_succ]
  refine wpAnyH_take (i:=8) (v:=.bool false) rfl (by kernel_rfl) (by kernel_rfl) (by kernel_rfl) (fun _ _ _ h=>h) (Or.inl ⟨by rfl, ?_⟩) (by assumption) ?_
  · intro w hSw
    (try dsimp only at hSw)
    go_simp
  try simp only [Act.put,List.getElem_toArray,List.getElem_cons_zero,List.getElem_cons_succ,List.setIfInBounds_toArray,List.set_cons_zero,List.set_cons_succ]
  refine wpAnyH_take (i:=9) (v:=.pointer (some ⟨w.heap.size,1,none⟩)) rfl (by kernel_rfl) (by kernel_rfl) (by kernel_rfl) (fun _ _ _ h=>h) (Or.inl ⟨by rfl, ?_⟩) (by assumption) ?_
  · intro w hSw
    (try dsimp only at hSw)
    go_simp
  try simp only [Act.put,List.getElem_toArray,List.getElem_cons_zero,List.getElem_cons_succ,List.setIfInBounds_toArray,List.set_cons_zero,List.set_cons_succ]
  refine wpAnyH_take (i:=10) (v:=.slice p l c) rfl (by kernel_rfl) (by kernel_rfl) (by kernel_rfl) (fun _ _ _ h=>h) (Or.inl ⟨by rfl, ?_⟩) (by assumption) ?_
  · intro w hSw
    (try dsimp only at hSw)
    go_simp
  try simp only [Act.put,List.getElem_toArray,List.getElem_cons_zero,List.getElem_cons_succ,List.setIfInBounds_toArray,List.set_cons_zero,List.set_cons_succ]
  refine wpAnyH_take (i:=12) (v:=.pointer (some ⟨w.heap.size,2,none⟩)) rfl (by kernel_rfl) (by kernel_rfl) (by kernel_rfl) (fun _ _ _ h=>h) (Or.inl ⟨by rfl, ?_⟩) (by assumption) ?_
  · intro w hSw
    (try dsimp only at hSw)
    go_simp
  try simp only [Act.put,List.getElem_toArray,List.getElem_cons_zero,List.getElem_cons_succ,List.setIfInBounds_toArray,List.set_cons_zero,List.set_cons_succ]
  refine wpAnyH_take (i:=13) (v:=.slice q k d) rfl (by kernel_rfl) (by kernel_rfl) (by kernel_rfl) (fun _ _ _ h=>h) (Or.inl ⟨by rfl, ?_⟩) (by assumption) ?_
  · intro w hSw
    (try dsimp only at hSw)
    go_simp
  try simp only [Act.put,List.getElem_toArray,List.getElem_cons_zero,List.getElem_cons_succ,List.setIfInBounds_toArray,List.set_cons_zero,List.set_cons_succ]
  refine wpAnyH_ready (rs:=[11]) (by kernel_rfl) (by simp) ?_
  refine AllReadyH.cons rfl (fun K hK=>?_) AllReadyH.nil
  go_simp
  go_at_call_of 28 (Value.slice p l c);refine (hs1 _ ?q0).mono ?_;(case q0=>exact kw.drew);rintro e wl ⟨p2,l2,c2,rfl,ho1,gl⟩;have kl:Kp W wl:=Kp.trans (Kp.drew (Kp.refl _)) gl;have aw0:=kkeep kl xw0;have aw1:=kkeep kl xw1;have aw2:=kkeep kl xw2
  go_wp2_with fail
  refine hK.out _ _ ?_ (fun hHeld=>?_)
  · exact ⟨aw0,aw1,aw2⟩
  clear hK K
  try simp only [Act.put,List.getElem_toArray,List.getElem_cons_zero,List.getElem_cons_succ,List.setIfInBounds_toArray,List.set_cons_zero,List.set_cons_succ]
  refine wpAnyH_ready (rs:=[14]) (by kernel_rfl) (by simp) ?_
  refine AllReadyH.cons rfl (fun K hK=>?_) AllReadyH.nil
  go_simp
  go_at_call_of 28 (Value.slice q k d);refine (hs2 _ ?q0).mono ?_;(case q0=>exact kw.trans kl);rintro e wh ⟨q2,k2,d2,rfl,ho2,gh⟩;have kh:Kp W wh:=Kp.trans kl gh;have bw0:=kkeep kh xw0;have bw1:=kkeep kh xw1;have bw2:=kkeep kh xw2;have R0:=kkeep kh r0;have Rz0:wh.frozen? ⟨w.heap.size + 1,0,none⟩ = false:=(kfro kh (cell_lt r0)).trans rz0;have R1:=kkeep kh r1;have Rz1:wh.frozen? ⟨w.heap.size + 1,1,none⟩ = false:=(kfro kh (cell_lt r1)).trans rz1;have R2:=kkeep kh r2;have Rz2:wh.frozen? ⟨w.heap.size + 1,2,none⟩ = false:=(kfro kh (cell_lt r2)).trans rz2
  go_wp2_with fail
  refine hK.out _ _ ?_ (fun hHeld=>?_)
  · exact ⟨bw0,bw1,bw2⟩
  clear hK K
  try simp only [Act.put,List.getElem_toArray,List.getElem_cons_zero,List.getElem_cons_succ,List.setIfInBounds_toArray,List.set_cons_zero,List.set_cons_succ]
  refine wpAnyH_take (i:=15) (v:=.agg #[.bool false,.slice p2 l2 c2,.slice q2 k2 d2]) rfl (by kernel_rfl) (by kernel_rfl) (by kernel_rfl) (fun _ _ _ h=>h) (Or.inl ⟨by rfl, ?_⟩) (by assumption) ?_
  · intro w hSw
    (try dsimp only at hSw)
    go_simp
  try simp only [Act.put,List.getElem_toArray,List.getElem_cons_zero,List.getElem_cons_succ,List.setIfInBounds_toArray,List.set_cons_zero,List.set_cons_succ]
  refine wpAnyH_ready (rs:=[16]) (by kernel_rfl) (by simp) ?_
  refine AllReadyH.cons rfl (fun K hK=>?_) AllReadyH.nil
  go_simp
  refine hK.out _ _ ?_ (fun hHeld=>?_)
  · exact ⟨((World.cell?_setCell_far _ _ _ _ hn1).trans ((World.cell?_setCell_far _ _ _ _ hn1).trans ((World.cell?_setCell_far _ _ _ _ hn1).trans bw0))),((World.cell?_setCell_far _ _ _ _ hn1).trans ((World.cell?_setCell_far _ _ _ _ hn1).trans ((World.cell?_setCell_far _ _ _ _ hn1).trans bw1))),((World.cell?_setCell_far _ _ _ _ hn1).trans ((World.cell?_setCell_far _ _ _ _ hn1).trans ((World.cell?_setCell_far _ _ _ _ hn1).trans bw2)))⟩
  clear hK K
  try simp only [Act.put,List.getElem_toArray,List.getElem_cons_zero,List.getElem_cons_succ,List.setIfInBounds_toArray,List.set_cons_zero,List.set_cons_succ]
  refine wpAnyH_done (by kernel_rfl) ?_ _
  all_goals go_wp2
  all_goals (
    have hle:w.heap.size≤W.heap.size:=by omega
    have O1:Own wh W.heap.size (.slice p2 l2 c2) (dig a):=(ho1.mono (base':=W.heap.size) (Nat.le_refl _)).kp gh
    have O2:Own wh W.heap.size (.slice q2 k2 d2) (dig b):=ho2.mono (base':=W.heap.size) (Below.size kl)
    exact bodyPost_ret (v:=.agg #[.bool false,.slice p2 l2 c2,.slice q2 k2 d2]) (by simp [results,Tryz.results64,go_sem,R0,R1,R2]) rfl ⟨p2,l2,c2,q2,k2,d2,rfl,(((O1.setOther (a:=⟨w.heap.size + 1,0,none⟩) hBW _).setOther (a:=⟨w.heap.size + 1,1,none⟩) hBW _).setOther (a:=⟨w.heap.size + 1,2,none⟩) hBW _).mono hle,(((O2.setOther (a:=⟨w.heap.size + 1,0,none⟩) hBW _).setOther (a:=⟨w.heap.size + 1,1,none⟩) hBW _).setOther (a:=⟨w.heap.size + 1,2,none⟩) hBW _).mono hle,((((Kp.trans kw kh)).setCell (by simp) _).setCell (by simp) _).setCell (by simp) _⟩)
theorem rnegXP_ (p:Option Addr) (l c:Nat) (q:Option Addr) (k d:Nat) (a b:Nat) (w:World) (h1:Own w 0 (.slice p l c) (dig a)) (h2:Own w 0 (.slice q k d) (dig b)) (la:blen a≤100000) (lb:blen b≤100000) (t1:0 < l):Calls Tryz.prog 64 #[.agg #[.bool false,.slice p l c,.slice q k d]] w fun e w'=>∃ (p2:Option Addr) (l2 c2:Nat) (q2:Option Addr) (k2 d2:Nat),e = .returned (.agg #[.bool true,.slice p2 l2 c2,.slice q2 k2 d2])∧Own w' w.heap.size (.slice p2 l2 c2) (dig a)∧Own w' w.heap.size (.slice q2 k2 d2) (dig b)∧Kp w w':=by
  have nrm:∀ (pp:Option Addr) (ll cc:Nat) (x:Nat),Own w 0 (.slice pp ll cc) (dig x)→blen x≤100000→∀ W:World,Kp w W→Calls Tryz.prog 28 #[.slice pp ll cc] W fun e w'=>∃ (p2:Option Addr) (l2 c2:Nat),e = .returned (.slice p2 l2 c2)∧Own w' W.heap.size (.slice p2 l2 c2) (dig x)∧Kp W w':=by
    intro pp ll cc x h hx W g
    have hl:(dig x).length≤1048576:=Nat.le_trans (show len32 x≤4000 from dlen x 4000 (by omega)) (by decide)
    have h:=normO (.slice pp ll cc) (dig x) W (h.kp g).ls (Wd_dig _) hl
    rw [val_dig] at h
    refine h.mono ?_
    rintro e w' ⟨v',rfl,o1,g2⟩
    obtain ⟨p2,c2,rfl,-,-⟩:=o1.arr
    exact ⟨p2,_,c2,rfl,o1,g2⟩
  have hs1:=nrm p l c a h1 la
  have hs2:=nrm q k d b h2 lb
  clear nrm h1 h2 la lb
  go_enter Tryz.func64,Tryz.ntmps64
  go_wp2
  generalize hW:((w.alloc (.cells #[.bool false,.slice p l c,.slice q k d] 32)).alloc (.cells #[.bool false,.slice none 0 0,.slice none 0 0] 32)) = W
  have kw:Kp w W:=by rw [← hW];exact ((Kp.refl w).alloc _).alloc _
  have xw0:W.cell? ⟨w.heap.size,0,none⟩ = some (.bool false):=by rw [← hW];simp [go_sem]
  have dw0:W.drew.cell? ⟨w.heap.size,0,none⟩ = some (.bool false):=xw0
  have xw1:W.cell? ⟨w.heap.size,1,none⟩ = some (.slice p l c):=by rw [← hW];simp [go_sem]
  have dw1:W.drew.cell? ⟨w.heap.size,1,none⟩ = some (.slice p l c):=xw1
  have xw2:W.cell? ⟨w.heap.size,2,none⟩ = some (.slice q k d):=by rw [← hW];simp [go_sem]
  have dw2:W.drew.cell? ⟨w.heap.size,2,none⟩ = some (.slice q k d):=xw2
  have r0:W.cell? ⟨w.heap.size + 1,0,none⟩ = some (.bool false):=by rw [← hW];simp [go_sem]
  have rz0:W.frozen? ⟨w.heap.size + 1,0,none⟩ = false:=by rw [← hW];simp [go_sem]
  have r1:W.cell? ⟨w.heap.size + 1,1,none⟩ = some (.slice none 0 0):=by rw [← hW];simp [go_sem]
  have rz1:W.frozen? ⟨w.heap.size + 1,1,none⟩ = false:=by rw [← hW];simp [go_sem]
  have r2:W.cell? ⟨w.heap.size + 1,2,none⟩ = some (.slice none 0 0):=by rw [← hW];simp [go_sem]
  have rz2:W.frozen? ⟨w.heap.size + 1,2,none⟩ = false:=by rw [← hW];simp [go_sem]
  have hBW:w.heap.size + 1 < W.heap.size:=cell_lt r0
  have hn1:w.heap.size + 1≠w.heap.size:=by omega
  clear hW
  go_region_held3 (fun w'=>w'.cell? ⟨w.heap.size,0,none⟩ = some (.bool false)∧w'.cell? ⟨w.heap.size,1,none⟩ = some (.slice p l c)∧w'.cell? ⟨w.heap.size,2,none⟩ = some (.slice q k d)) (first | (with_reducible exact ⟨xw0,xw1,xw2⟩) | (with_reducible exact ⟨dw0,dw1,dw2⟩) | (with_reducible exact ⟨aw0,aw1,aw2⟩) | (with_reducible exact ⟨bw0,bw1,bw2⟩) | (exact ⟨((World.cell?_setCell_far _ _ _ _ hn1).trans ((World.cell?_setCell_far _ _ _ _ hn1).trans ((World.cell?_setCell_far _ _ _ _ hn1).trans bw0))),((World.cell?_setCell_far _ _ _ _ hn1).trans ((World.cell?_setCell_far _ _ _ _ hn1).trans ((World.cell?_setCell_far _ _ _ _ hn1).trans bw1))),((World.cell?_setCell_far _ _ _ _ hn1).trans ((World.cell?_setCell_far _ _ _ _ hn1).trans ((World.cell?_setCell_far _ _ _ _ hn1).trans bw2)))⟩)) (first | (go_at_call_of 28 (Value.slice p l c);refine (hs1 _ ?q0).mono ?_;(case q0=>exact kw.drew);rintro e wl ⟨p2,l2,c2,rfl,ho1,gl⟩;have kl:Kp W wl:=Kp.trans (Kp.drew (Kp.refl _)) gl;have aw0:=kkeep kl xw0;have aw1:=kkeep kl xw1;have aw2:=kkeep kl xw2) | (go_at_call_of 28 (Value.slice q k d);refine (hs2 _ ?q0).mono ?_;(case q0=>exact kw.trans kl);rintro e wh ⟨q2,k2,d2,rfl,ho2,gh⟩;have kh:Kp W wh:=Kp.trans kl gh;have bw0:=kkeep kh xw0;have bw1:=kkeep kh xw1;have bw2:=kkeep kh xw2;have R0:=kkeep kh r0;have Rz0:wh.frozen? ⟨w.heap.size + 1,0,none⟩ = false:=(kfro kh (cell_lt r0)).trans rz0;have R1:=kkeep kh r1;have Rz1:wh.frozen? ⟨w.heap.size + 1,1,none⟩ = false:=(kfro kh (cell_lt r1)).trans rz1;have R2:=kkeep kh r2;have Rz2:wh.frozen? ⟨w.heap.size + 1,2,none⟩ = false:=(kfro kh (cell_lt r2)).trans rz2))
  all_goals go_wp2
  all_goals (
    have hle:w.heap.size≤W.heap.size:=by omega
    have O1:Own wh W.heap.size (.slice p2 l2 c2) (dig a):=(ho1.mono (base':=W.heap.size) (Nat.le_refl _)).kp gh
    have O2:Own wh W.heap.size (.slice q2 k2 d2) (dig b):=ho2.mono (base':=W.heap.size) (Below.size kl)
    exact bodyPost_ret (v:=.agg #[.bool true,.slice p2 l2 c2,.slice q2 k2 d2]) (by simp [results,Tryz.results64,go_sem,R0,R1,R2]) rfl ⟨p2,l2,c2,q2,k2,d2,rfl,(((O1.setOther (a:=⟨w.heap.size + 1,0,none⟩) hBW _).setOther (a:=⟨w.heap.size + 1,1,none⟩) hBW _).setOther (a:=⟨w.heap.size + 1,2,none⟩) hBW _).mono hle,(((O2.setOther (a:=⟨w.heap.size + 1,0,none⟩) hBW _).setOther (a:=⟨w.heap.size + 1,1,none⟩) hBW _).setOther (a:=⟨w.heap.size + 1,2,none⟩) hBW _).mono hle,((((Kp.trans kw kh)).setCell (by simp) _).setCell (by simp) _).setCell (by simp) _⟩)
theorem rnegXZ_ (p:Option Addr) (l c:Nat) (q:Option Addr) (k d:Nat) (a b:Nat) (w:World) (h1:Own w 0 (.slice p l c) (dig a)) (h2:Own w 0 (.slice q k d) (dig b)) (la:blen a≤100000) (lb:blen b≤100000) (t1:¬ (0 < l)):Calls Tryz.prog 64 #[.agg #[.bool false,.slice p l c,.slice q k d]] w fun e w'=>∃ (p2:Option Addr) (l2 c2:Nat) (q2:Option Addr) (k2 d2:Nat),e = .returned (.agg #[.bool false,.slice p2 l2 c2,.slice q2 k2 d2])∧Own w' w.heap.size (.slice p2 l2 c2) (dig a)∧Own w' w.heap.size (.slice q2 k2 d2) (dig b)∧Kp w w':=by
  have nrm:∀ (pp:Option Addr) (ll cc:Nat) (x:Nat),Own w 0 (.slice pp ll cc) (dig x)→blen x≤100000→∀ W:World,Kp w W→Calls Tryz.prog 28 #[.slice pp ll cc] W fun e w'=>∃ (p2:Option Addr) (l2 c2:Nat),e = .returned (.slice p2 l2 c2)∧Own w' W.heap.size (.slice p2 l2 c2) (dig x)∧Kp W w':=by
    intro pp ll cc x h hx W g
    have hl:(dig x).length≤1048576:=Nat.le_trans (show len32 x≤4000 from dlen x 4000 (by omega)) (by decide)
    have h:=normO (.slice pp ll cc) (dig x) W (h.kp g).ls (Wd_dig _) hl
    rw [val_dig] at h
    refine h.mono ?_
    rintro e w' ⟨v',rfl,o1,g2⟩
    obtain ⟨p2,c2,rfl,-,-⟩:=o1.arr
    exact ⟨p2,_,c2,rfl,o1,g2⟩
  have hs1:=nrm p l c a h1 la
  have hs2:=nrm q k d b h2 lb
  clear nrm h1 h2 la lb
  go_enter Tryz.func64,Tryz.ntmps64
  go_wp2
  generalize hW:((w.alloc (.cells #[.bool false,.slice p l c,.slice q k d] 32)).alloc (.cells #[.bool false,.slice none 0 0,.slice none 0 0] 32)) = W
  have kw:Kp w W:=by rw [← hW];exact ((Kp.refl w).alloc _).alloc _
  have xw0:W.cell? ⟨w.heap.size,0,none⟩ = some (.bool false):=by rw [← hW];simp [go_sem]
  have dw0:W.drew.cell? ⟨w.heap.size,0,none⟩ = some (.bool false):=xw0
  have xw1:W.cell? ⟨w.heap.size,1,none⟩ = some (.slice p l c):=by rw [← hW];simp [go_sem]
  have dw1:W.drew.cell? ⟨w.heap.size,1,none⟩ = some (.slice p l c):=xw1
  have xw2:W.cell? ⟨w.heap.size,2,none⟩ = some (.slice q k d):=by rw [← hW];simp [go_sem]
  have dw2:W.drew.cell? ⟨w.heap.size,2,none⟩ = some (.slice q k d):=xw2
  have r0:W.cell? ⟨w.heap.size + 1,0,none⟩ = some (.bool false):=by rw [← hW];simp [go_sem]
  have rz0:W.frozen? ⟨w.heap.size + 1,0,none⟩ = false:=by rw [← hW];simp [go_sem]
  have r1:W.cell? ⟨w.heap.size + 1,1,none⟩ = some (.slice none 0 0):=by rw [← hW];simp [go_sem]
  have rz1:W.frozen? ⟨w.heap.size + 1,1,none⟩ = false:=by rw [← hW];simp [go_sem]
  have r2:W.cell? ⟨w.heap.size + 1,2,none⟩ = some (.slice none 0 0):=by rw [← hW];simp [go_sem]
  have rz2:W.frozen? ⟨w.heap.size + 1,2,none⟩ = false:=by rw [← hW];simp [go_sem]
  have hBW:w.heap.size + 1 < W.heap.size:=cell_lt r0
  have hn1:w.heap.size + 1≠w.heap.size:=by omega
  clear hW
  go_region_held3 (fun w'=>w'.cell? ⟨w.heap.size,0,none⟩ = some (.bool false)∧w'.cell? ⟨w.heap.size,1,none⟩ = some (.slice p l c)∧w'.cell? ⟨w.heap.size,2,none⟩ = some (.slice q k d)) (first | (with_reducible exact ⟨xw0,xw1,xw2⟩) | (with_reducible exact ⟨dw0,dw1,dw2⟩) | (with_reducible exact ⟨aw0,aw1,aw2⟩) | (with_reducible exact ⟨bw0,bw1,bw2⟩) | (exact ⟨((World.cell?_setCell_far _ _ _ _ hn1).trans ((World.cell?_setCell_far _ _ _ _ hn1).trans ((World.cell?_setCell_far _ _ _ _ hn1).trans bw0))),((World.cell?_setCell_far _ _ _ _ hn1).trans ((World.cell?_setCell_far _ _ _ _ hn1).trans ((World.cell?_setCell_far _ _ _ _ hn1).trans bw1))),((World.cell?_setCell_far _ _ _ _ hn1).trans ((World.cell?_setCell_far _ _ _ _ hn1).trans ((World.cell?_setCell_far _ _ _ _ hn1).trans bw2)))⟩)) (first | (go_at_call_of 28 (Value.slice p l c);refine (hs1 _ ?q0).mono ?_;(case q0=>exact kw.drew);rintro e wl ⟨p2,l2,c2,rfl,ho1,gl⟩;have kl:Kp W wl:=Kp.trans (Kp.drew (Kp.refl _)) gl;have aw0:=kkeep kl xw0;have aw1:=kkeep kl xw1;have aw2:=kkeep kl xw2) | (go_at_call_of 28 (Value.slice q k d);refine (hs2 _ ?q0).mono ?_;(case q0=>exact kw.trans kl);rintro e wh ⟨q2,k2,d2,rfl,ho2,gh⟩;have kh:Kp W wh:=Kp.trans kl gh;have bw0:=kkeep kh xw0;have bw1:=kkeep kh xw1;have bw2:=kkeep kh xw2;have R0:=kkeep kh r0;have Rz0:wh.frozen? ⟨w.heap.size + 1,0,none⟩ = false:=(kfro kh (cell_lt r0)).trans rz0;have R1:=kkeep kh r1;have Rz1:wh.frozen? ⟨w.heap.size + 1,1,none⟩ = false:=(kfro kh (cell_lt r1)).trans rz1;have R2:=kkeep kh r2;have Rz2:wh.frozen? ⟨w.heap.size + 1,2,none⟩ = false:=(kfro kh (cell_lt r2)).trans rz2))
  all_goals go_wp2
  all_goals (
    have hle:w.heap.size≤W.heap.size:=by omega
    have O1:Own wh W.heap.size (.slice p2 l2 c2) (dig a):=(ho1.mono (base':=W.heap.size) (Nat.le_refl _)).kp gh
    have O2:Own wh W.heap.size (.slice q2 k2 d2) (dig b):=ho2.mono (base':=W.heap.size) (Below.size kl)
    exact bodyPost_ret (v:=.agg #[.bool false,.slice p2 l2 c2,.slice q2 k2 d2]) (by simp [results,Tryz.results64,go_sem,R0,R1,R2]) rfl ⟨p2,l2,c2,q2,k2,d2,rfl,(((O1.setOther (a:=⟨w.heap.size + 1,0,none⟩) hBW _).setOther (a:=⟨w.heap.size + 1,1,none⟩) hBW _).setOther (a:=⟨w.heap.size + 1,2,none⟩) hBW _).mono hle,(((O2.setOther (a:=⟨w.heap.size + 1,0,none⟩) hBW _).setOther (a:=⟨w.heap.size + 1,1,none⟩) hBW _).setOther (a:=⟨w.heap.size + 1,2,none⟩) hBW _).mono hle,((((Kp.trans kw kh)).setCell (by simp) _).setCell (by simp) _).setCell (by simp) _⟩)

theorem xneg_ (V:Int) (C N:Nat) (hN:N≤100000) s p l c q k d (B1:Nat) (w:World) (h:XP B1 w s p l c q k d V C N):Calls Tryz.prog 64 #[.agg #[.bool s,.slice p l c,.slice q k d]] w fun e w'=>∃ s2 p2 l2 c2 q2 k2 d2,e = .returned (.agg #[.bool s2,.slice p2 l2 c2,.slice q2 k2 d2])∧XP w.heap.size w' s2 p2 l2 c2 q2 k2 d2 (-V) C N∧Kp w w':=by
  obtain ⟨a,b,u1,u2,u3⟩:=h
  have hl:l = (dig a).length:=by
    obtain ⟨P1,C1,e1,-,-⟩:=u1.arr
    injection e1
  have key:∀ (s2:Bool),(a≠0→s2 = !s)→XF s2 a b (-V) C N:=by
    intro s2 hs
    obtain ⟨f1,f2,f3,f4,f5⟩:=u3
    refine ⟨f1,f2, ?_,f4,f5⟩
    rw [Int.neg_mul,← f3,← Int.neg_mul]
    congr 1
    by_cases z:a = 0
    · rw [z];unfold rvI;cases s <;> cases s2 <;> simp
    · rw [hs z];unfold rvI;cases s <;> simp
  have hl0:a≠0→0 < l:=fun h0=>by
    rw [hl]
    rcases Nat.eq_zero_or_pos (dig a).length with z | z
    · have:=List.eq_nil_of_length_eq_zero z
      have e:=val_dig a
      rw [this] at e
      exact absurd e.symm h0
    · exact z
  have u1:=u1.mono (Nat.zero_le B1)
  have u2:=u2.mono (Nat.zero_le B1)
  have n1:blen a≤100000:=by have:=u3.2.2.2.1;omega
  have n2:blen b≤100000:=by have:=u3.2.2.2.2;omega
  cases s
  · by_cases t1:0 < l
    · refine (rnegXP_ p l c q k d a b w u1 u2 n1 n2 t1).mono ?_
      rintro e w' ⟨p2,l2,c2,q2,k2,d2,rfl,o1,o2,g⟩
      exact ⟨true,p2,l2,c2,q2,k2,d2,rfl,⟨a,b,o1,o2,key true (fun _=>rfl)⟩,g⟩
    · refine (rnegXZ_ p l c q k d a b w u1 u2 n1 n2 t1).mono ?_
      rintro e w' ⟨p2,l2,c2,q2,k2,d2,rfl,o1,o2,g⟩
      exact ⟨false,p2,l2,c2,q2,k2,d2,rfl,⟨a,b,o1,o2,key false (fun h0=>absurd (hl0 h0) t1)⟩,g⟩
  · refine (rnegXT_ p l c q k d a b w u1 u2 n1 n2).mono ?_
    rintro e w' ⟨p2,l2,c2,q2,k2,d2,rfl,o1,o2,g⟩
    exact ⟨false,p2,l2,c2,q2,k2,d2,rfl,⟨a,b,o1,o2,key false (fun _=>rfl)⟩,g⟩
theorem rsubA_ (P:World→World→Value→Prop) (Q:World→World→Value→Prop) s p l c q k d s2 p2 l2 c2 q2 k2 d2 (w:World) (hN:∀ W:World,Kp w W→Calls Tryz.prog 64 #[.agg #[.bool s2,.slice p2 l2 c2,.slice q2 k2 d2]] W fun e w'=>∃ s5 p5 l5 c5 q5 k5 d5,e = .returned (.agg #[.bool s5,.slice p5 l5 c5,.slice q5 k5 d5])∧P w w' (.agg #[.bool s5,.slice p5 l5 c5,.slice q5 k5 d5])∧Kp W w') (hA:∀ (W:World) s5 p5 l5 c5 q5 k5 d5,Kp w W→P w W (.agg #[.bool s5,.slice p5 l5 c5,.slice q5 k5 d5])→Calls Tryz.prog 34 #[.agg #[.bool s,.slice p l c,.slice q k d],.agg #[.bool s5,.slice p5 l5 c5,.slice q5 k5 d5]] W fun e w'=>∃ s3 p3 l3 c3 q3 k3 d3,e = .returned (.agg #[.bool s3,.slice p3 l3 c3,.slice q3 k3 d3])∧Q W w' (.agg #[.bool s3,.slice p3 l3 c3,.slice q3 k3 d3])∧Kp W w'):Calls Tryz.prog 33 #[.agg #[.bool s,.slice p l c,.slice q k d],.agg #[.bool s2,.slice p2 l2 c2,.slice q2 k2 d2]] w fun e w'=>∃ (W wh:World) (s3:Bool) (p3:Option Addr) (l3 c3:Nat) (q3:Option Addr) (k3 d3:Nat),e = .returned (.agg #[.bool s3,.slice p3 l3 c3,.slice q3 k3 d3])∧Q W wh (.agg #[.bool s3,.slice p3 l3 c3,.slice q3 k3 d3])∧w' = (((wh).setCell ⟨w.heap.size + 2,0,none⟩ (.bool s3)).setCell ⟨w.heap.size + 2,1,none⟩ (.slice p3 l3 c3)).setCell ⟨w.heap.size + 2,2,none⟩ (.slice q3 k3 d3)∧w.heap.size + 2 < W.heap.size∧Kp w wh:=by
  go_enter Tryz.func33,Tryz.ntmps33
  go_wp2
  generalize hW:(((w.alloc (.cells #[.bool s,.slice p l c,.slice q k d] 32)).alloc (.cells #[.bool s2,.slice p2 l2 c2,.slice q2 k2 d2] 32)).alloc (.cells #[.bool false,.slice none 0 0,.slice none 0 0] 32)) = W
  have kw:Kp w W:=by rw [← hW];exact (((Kp.refl w).alloc _).alloc _).alloc _
  have xw0:W.cell? ⟨w.heap.size,0,none⟩ = some (.bool s):=by rw [← hW];simp [go_sem]
  have dw0:W.drew.cell? ⟨w.heap.size,0,none⟩ = some (.bool s):=xw0
  have xw1:W.cell? ⟨w.heap.size,1,none⟩ = some (.slice p l c):=by rw [← hW];simp [go_sem]
  have dw1:W.drew.cell? ⟨w.heap.size,1,none⟩ = some (.slice p l c):=xw1
  have xw2:W.cell? ⟨w.heap.size,2,none⟩ = some (.slice q k d):=by rw [← hW];simp [go_sem]
  have dw2:W.drew.cell? ⟨w.heap.size,2,none⟩ = some (.slice q k d):=xw2
  have xw3:W.cell? ⟨w.heap.size + 1,0,none⟩ = some (.bool s2):=by rw [← hW];simp [go_sem]
  have dw3:W.drew.cell? ⟨w.heap.size + 1,0,none⟩ = some (.bool s2):=xw3
  have xw4:W.cell? ⟨w.heap.size + 1,1,none⟩ = some (.slice p2 l2 c2):=by rw [← hW];simp [go_sem]
  have dw4:W.drew.cell? ⟨w.heap.size + 1,1,none⟩ = some (.slice p2 l2 c2):=xw4
  have xw5:W.cell? ⟨w.heap.size + 1,2,none⟩ = some (.slice q2 k2 d2):=by rw [← hW];simp [go_sem]
  have dw5:W.drew.cell? ⟨w.heap.size + 1,2,none⟩ = some (.slice q2 k2 d2):=xw5
  have r0:W.cell? ⟨w.heap.size + 2,0,none⟩ = some (.bool false):=by rw [← hW];simp [go_sem]
  have rz0:W.frozen? ⟨w.heap.size + 2,0,none⟩ = false:=by rw [← hW];simp [go_sem]
  have r1:W.cell? ⟨w.heap.size + 2,1,none⟩ = some (.slice none 0 0):=by rw [← hW];simp [go_sem]
  have rz1:W.frozen? ⟨w.heap.size + 2,1,none⟩ = false:=by rw [← hW];simp [go_sem]
  have r2:W.cell? ⟨w.heap.size + 2,2,none⟩ = some (.slice none 0 0):=by rw [← hW];simp [go_sem]
  have rz2:W.frozen? ⟨w.heap.size + 2,2,none⟩ = false:=by rw [← hW];simp [go_sem]
  have hBW:w.heap.size + 2 < W.heap.size:=cell_lt r0
  have hn1:w.heap.size + 2≠w.heap.size:=by omega
  have hn2:w.heap.size + 2≠w.heap.size + 1:=by omega
  clear hW
  go_region_held3 (fun w'=>w'.cell? ⟨w.heap.size,0,none⟩ = some (.bool s)∧w'.cell? ⟨w.heap.size,1,none⟩ = some (.slice p l c)∧w'.cell? ⟨w.heap.size,2,none⟩ = some (.slice q k d)∧w'.cell? ⟨w.heap.size + 1,0,none⟩ = some (.bool s2)∧w'.cell? ⟨w.heap.size + 1,1,none⟩ = some (.slice p2 l2 c2)∧w'.cell? ⟨w.heap.size + 1,2,none⟩ = some (.slice q2 k2 d2)) (first | (with_reducible exact ⟨xw0,xw1,xw2,xw3,xw4,xw5⟩) | (with_reducible exact ⟨dw0,dw1,dw2,dw3,dw4,dw5⟩) | (with_reducible exact ⟨aw0,aw1,aw2,aw3,aw4,aw5⟩) | (with_reducible exact ⟨bw0,bw1,bw2,bw3,bw4,bw5⟩) | (exact ⟨((World.cell?_setCell_far _ _ _ _ hn1).trans ((World.cell?_setCell_far _ _ _ _ hn1).trans ((World.cell?_setCell_far _ _ _ _ hn1).trans bw0))),((World.cell?_setCell_far _ _ _ _ hn1).trans ((World.cell?_setCell_far _ _ _ _ hn1).trans ((World.cell?_setCell_far _ _ _ _ hn1).trans bw1))),((World.cell?_setCell_far _ _ _ _ hn1).trans ((World.cell?_setCell_far _ _ _ _ hn1).trans ((World.cell?_setCell_far _ _ _ _ hn1).trans bw2))),((World.cell?_setCell_far _ _ _ _ hn2).trans ((World.cell?_setCell_far _ _ _ _ hn2).trans ((World.cell?_setCell_far _ _ _ _ hn2).trans bw3))),((World.cell?_setCell_far _ _ _ _ hn2).trans ((World.cell?_setCell_far _ _ _ _ hn2).trans ((World.cell?_setCell_far _ _ _ _ hn2).trans bw4))),((World.cell?_setCell_far _ _ _ _ hn2).trans ((World.cell?_setCell_far _ _ _ _ hn2).trans ((World.cell?_setCell_far _ _ _ _ hn2).trans bw5)))⟩)) (first | (go_at_call 64;refine (hN _ ?q0).mono ?_;(case q0=>exact kw.drew);rintro e wl ⟨s5,p5,l5,c5,q5,k5,d5,rfl,hp5,gl⟩;have kl:Kp W wl:=Kp.trans (Kp.drew (Kp.refl _)) gl;have aw0:=kkeep kl xw0;have aw1:=kkeep kl xw1;have aw2:=kkeep kl xw2;have aw3:=kkeep kl xw3;have aw4:=kkeep kl xw4;have aw5:=kkeep kl xw5) | (go_at_call 34;refine (hA _ s5 p5 l5 c5 q5 k5 d5 (kw.trans kl) hp5).mono ?_;rintro e wh ⟨s3,p3,l3,c3,q3,k3,d3,rfl,hp3,gh⟩;have kh:Kp W wh:=Kp.trans kl gh;have bw0:=kkeep kh xw0;have bw1:=kkeep kh xw1;have bw2:=kkeep kh xw2;have bw3:=kkeep kh xw3;have bw4:=kkeep kh xw4;have bw5:=kkeep kh xw5;have R0:=kkeep kh r0;have Rz0:wh.frozen? ⟨w.heap.size + 2,0,none⟩ = false:=(kfro kh (cell_lt r0)).trans rz0;have R1:=kkeep kh r1;have Rz1:wh.frozen? ⟨w.heap.size + 2,1,none⟩ = false:=(kfro kh (cell_lt r1)).trans rz1;have R2:=kkeep kh r2;have Rz2:wh.frozen? ⟨w.heap.size + 2,2,none⟩ = false:=(kfro kh (cell_lt r2)).trans rz2))
  go_wp2
  exact bodyPost_ret (v:=.agg #[.bool s3,.slice p3 l3 c3,.slice q3 k3 d3]) (by simp [results,Tryz.results33,go_sem,R0,R1,R2]) rfl ⟨wl,wh,s3,p3,l3,c3,q3,k3,d3,rfl,hp3,rfl,Nat.lt_of_lt_of_le hBW (Below.size kl),Kp.trans kw kh⟩

theorem xsub_ (V V':Int) (C C' N N':Nat) (hN:N + N'≤100000) s p l c q k d s2 p2 l2 c2 q2 k2 d2 (B1 B2:Nat) (w:World) (h1:XP B1 w s p l c q k d V C N) (h2:XP B2 w s2 p2 l2 c2 q2 k2 d2 V' C' N'):Calls Tryz.prog 33 #[.agg #[.bool s,.slice p l c,.slice q k d],.agg #[.bool s2,.slice p2 l2 c2,.slice q2 k2 d2]] w fun e w'=>∃ s3 p3 l3 c3 q3 k3 d3,e = .returned (.agg #[.bool s3,.slice p3 l3 c3,.slice q3 k3 d3])∧XP w.heap.size w' s3 p3 l3 c3 q3 k3 d3 (V * (C':Int) - V' * (C:Int)) (C * C') (2 * (N + N') + 3)∧Kp w w':=by
  refine (rsubA_ (fun _ w' v=>∃ s5 p5 l5 c5 q5 k5 d5,v = .agg #[.bool s5,.slice p5 l5 c5,.slice q5 k5 d5]∧XP 0 w' s5 p5 l5 c5 q5 k5 d5 (-V') C' N') (fun W w' v=>∃ s3 p3 l3 c3 q3 k3 d3,v = .agg #[.bool s3,.slice p3 l3 c3,.slice q3 k3 d3]∧XP W.heap.size w' s3 p3 l3 c3 q3 k3 d3 (V * (C':Int) - V' * (C:Int)) (C * C') (2 * (N + N') + 3)) s p l c q k d s2 p2 l2 c2 q2 k2 d2 w (fun W g=>?_) (fun W s5 p5 l5 c5 q5 k5 d5 g hp=>?_)).mono ?_
  · refine (xneg_ V' C' N' (by omega) s2 p2 l2 c2 q2 k2 d2 B2 W (h2.kp g)).mono ?_
    rintro e w' ⟨s5,p5,l5,c5,q5,k5,d5,rfl,hp,g2⟩
    exact ⟨s5,p5,l5,c5,q5,k5,d5,rfl,⟨s5,p5,l5,c5,q5,k5,d5,rfl,hp.mono (Nat.zero_le _)⟩,g2⟩
  · obtain ⟨s6,p6,l6,c6,q6,k6,d6,e6,hp6⟩:=hp
    simp at e6
    obtain ⟨rfl,⟨rfl,rfl,rfl⟩,rfl,rfl,rfl⟩:=e6
    refine (xadd_ V (-V') C C' N N' hN s p l c q k d s5 p5 l5 c5 q5 k5 d5 B1 0 W (h1.kp g) hp6).mono ?_
    rintro e w' ⟨s3,p3,l3,c3,q3,k3,d3,rfl,hq,g2⟩
    refine ⟨s3,p3,l3,c3,q3,k3,d3,rfl,⟨s3,p3,l3,c3,q3,k3,d3,rfl, ?_⟩,g2⟩
    rw [show V * (C':Int) - V' * (C:Int) = V * (C':Int) + -V' * (C:Int) from by rw [Int.neg_mul];omega]
    exact hq
  · rintro e w' ⟨W,wh,s3,p3,l3,c3,q3,k3,d3,rfl,⟨s4,p4,l4,c4,q4,k4,d4,e4,hq⟩,rfl,hlt,g⟩
    simp at e4
    obtain ⟨rfl,⟨rfl,rfl,rfl⟩,rfl,rfl,rfl⟩:=e4
    refine ⟨s3,p3,l3,c3,q3,k3,d3,rfl,XP.mono ((((hq).set (x:=⟨w.heap.size + 2,0,none⟩) hlt (.bool s3)).set (x:=⟨w.heap.size + 2,1,none⟩) hlt (.slice p3 l3 c3)).set (x:=⟨w.heap.size + 2,2,none⟩) hlt (.slice q3 k3 d3)) (by omega),(((g).setCell (by simp <;> omega) _).setCell (by simp <;> omega) _).setCell (by simp <;> omega) _⟩
set_option linter.unusedVariables false
theorem dig_one6:dig 1 = [1]:=by decide +kernel

theorem frac1_ (b:Bool) (K:Nat) (hK:K = 1074) (T:Nat) (hT:T = 2 ^ (1024 + K)) (W:World):Calls Tryz.prog 26 #[.bool b,.slice (some ⟨W.heap.size,0,none⟩) 1 1,.slice (some ⟨W.heap.size + 1,0,none⟩) 1 1,.int .i64 1024] ((W.alloc (.cells #[.int .u32 1] 51)).alloc (.cells #[.int .u32 1] 51)) fun e w'=>∃ s3 p3 l3 c3 q3 k3 d3,e = .returned (.agg #[.bool s3,.slice p3 l3 c3,.slice q3 k3 d3])∧XP W.heap.size w' s3 p3 l3 c3 q3 k3 d3 (rvI b T) (2 ^ K) 1500∧Kp W w':=by
  obtain ⟨w1,hw1⟩:∃ w1,w1 = W.alloc (.cells #[.int .u32 1] 51):=⟨_,rfl⟩
  obtain ⟨w2,hw2⟩:∃ w2,w2 = w1.alloc (.cells #[.int .u32 1] 51):=⟨_,rfl⟩
  have sz:w1.heap.size = W.heap.size + 1:=by rw [hw1];simp
  have k1:Kp W w1:=by rw [hw1];exact (Kp.refl _).alloc _
  have k2:Kp w1 w2:=by rw [hw2];exact (Kp.refl _).alloc _
  have ar1:Arr w1 (some ⟨W.heap.size,0,none⟩) (dig 1):=by
    have h:=(row1 W 1).all rfl
    rw [← hw1] at h
    rw [dig_one6]
    exact h
  have ar2:Arr w2 (some ⟨W.heap.size + 1,0,none⟩) (dig 1):=by
    have h:=(row1 w1 1).all rfl
    rw [← hw2,sz] at h
    rw [dig_one6]
    exact h
  rw [← hw1,← hw2]
  have l1:(dig 1).length = 1:=by rw [dig_one6];rfl
  have h:=frac_ b (.slice (some ⟨W.heap.size,0,none⟩) (dig 1).length 1) (.slice (some ⟨W.heap.size + 1,0,none⟩) (dig 1).length 1) (dig 1) (dig 1) 1024 w2 ⟨_,1,rfl,ar1.grown k2,by rw [l1];exact Nat.le_refl _⟩ ⟨_,1,rfl,ar2,by rw [l1];exact Nat.le_refl _⟩ (Wd_dig _) (Wd_dig _) (by rw [l1];decide) (by rw [l1];decide) (by rw [val_dig];decide) (by decide)
  rw [val_dig,l1] at h
  refine h.mono ?_
  rintro e w' ⟨vn,vd,a',b',ng,rfl,o1,o2,⟨hF,hn⟩,g⟩
  obtain ⟨p3,c3,rfl,-,-⟩:=o1.arr
  obtain ⟨q3,d3,rfl,-,-⟩:=o2.arr
  have kk:Kp W w2:=k1.trans k2
  have hsz:W.heap.size≤w2.heap.size:=Below.size kk
  refine ⟨ng,p3,_,c3,q3,_,d3,rfl,⟨a',b',o1.mono hsz,o2.mono hsz,hF.1,by have:=Nat.two_pow_pos K;omega, ?_, ?_, ?_⟩,kk.trans g⟩
  · have e:=frac_exact 1 1024 a' b' K (1024 + K) hF (by decide) (by omega)
    rw [Nat.one_mul,← hT] at e
    rw [hn (by decide),← rvI_mul,← rvI_mul,e]
  · have h1:=hF.2.2.2.1
    have h2:blen 1 = 1:=blen_uniq 1 0 (by decide) (by decide)
    rw [h2] at h1
    have:(1024:Int).natAbs = 1024:=rfl
    omega
  · have h1:=hF.2.2.2.2
    have h2:blen 1 = 1:=blen_uniq 1 0 (by decide) (by decide)
    rw [h2] at h1
    have:(1024:Int).natAbs = 1024:=rfl
    omega

set_option linter.unusedVariables false
def vZ (z:Int):Int:=Iv (decide (z < 0)) z.natAbs
theorem vZ_pos (z:Int) (h:0≤z):vZ z = ((Fq.vV Ieee.double z.natAbs:Nat):Int):=by
  unfold vZ Iv
  rw [decide_eq_false (show ¬ z < 0 by omega)];rfl
theorem vV0X:Fq.vV Ieee.double 0 = 0:=by decide
theorem vZ_neg (z:Int):vZ (-z) = -vZ z:=by
  unfold vZ Iv
  rw [Int.natAbs_neg]
  by_cases z0:z = 0
  · rw [z0];simp [vV0X]
  · by_cases c:z < 0
    · rw [decide_eq_true c,decide_eq_false (show ¬ -z < 0 by omega)];simp
    · rw [decide_eq_false c,decide_eq_true (show -z < 0 by omega)];simp
theorem pz_val (z:Int):pz z = if z < 0 then 9223372036854775808 + z.natAbs else z.natAbs:=by
  unfold pz Fq.wD
  by_cases c:z < 0
  · rw [decide_eq_true c,if_pos c];simp <;> omega
  · rw [decide_eq_false c,if_neg c];simp <;> omega
theorem vV_place (E S:Nat) (h1:S≤2 ^ 53) (h2:E = 0∨2 ^ (53 - 1)≤S):Fq.vV Ieee.double (E * 2 ^ (53 - 1) + S) = S * 2 ^ E:=by
  have hb:Ieee.double.binade = 4503599627370496:=by decide
  have p1:(2:Nat) ^ (53 - 1) = 4503599627370496:=by decide
  have p2:(2:Nat) ^ 53 = 9007199254740992:=by decide
  rw [p1] at h2 ⊢
  rw [p2] at h1
  unfold Fq.vV Fq.mM Fq.eE
  rw [hb]
  by_cases c:E * 4503599627370496 + S < 4503599627370496
  · have hE:E = 0:=by omega
    rw [if_pos c,if_pos c,hE];simp
  · rw [if_neg c,if_neg c]
    by_cases c2:S = 9007199254740992
    · rw [show (E * 4503599627370496 + S) / 4503599627370496 - 1 = E + 1 from by omega,show (E * 4503599627370496 + S) % 4503599627370496 = 0 from by omega,Nat.pow_succ,c2]
      generalize 2 ^ E = P
      omega
    · rw [show (E * 4503599627370496 + S) / 4503599627370496 - 1 = E from by omega,show 4503599627370496 + (E * 4503599627370496 + S) % 4503599627370496 = S from by omega]
theorem g53_tight (c1 c2:Nat) (hc:0 < c2) (V:Int):TS 9218868437227405312 (Fq.vV Ieee.double) (V * c1) (c2:Int) (g53 (-1) c1 c2 V) (g53 1 c1 c2 V) (g53 0 c1 c2 V):=gpl_tight 53 2098 9218868437227405311 9218868437227405312 (Fq.vV Ieee.double) vV_place c1 c2 hc (by decide) (by decide) (by decide) (by decide) V
theorem vV_inf (K:Nat) (hK:K = 1074):Fq.vV Ieee.double 9218868437227405312 = 2 ^ (1024 + K):=by
  obtain ⟨J,hJ⟩:∃ J:Nat,J = 2045:=⟨_,rfl⟩
  have h:=vV_place J (2 ^ 53) (Nat.le_refl _) (Or.inr (by decide))
  rw [show J * 2 ^ (53 - 1) + 2 ^ 53 = 9218868437227405312 from by rw [hJ],← Nat.pow_add] at h
  rw [h]
  exact congrArg _ (by omega)
theorem cmX_lt (x y:Int) (h:x < y):cmI x y = -1:=if_pos h
theorem cmX_gt (x y:Int) (h:y < x):cmI x y = 1:=by unfold cmI;rw [if_neg (by omega),if_pos h]
theorem cmX_eq (x y:Int) (h:x = y):cmI x y = 0:=by unfold cmI;rw [if_neg (by omega),if_neg (by omega)]
theorem cmX_end (L A:Int) (B P:Nat) (hP:0 < P):cmI (L * ((B * P:Nat):Int)) (A * (P:Int)) = cmI (L * B) A∧cmI (A * (P:Int)) (L * ((B * P:Nat):Int)) = cmI A (L * B):=by
  rw [Int.natCast_mul,← Int.mul_assoc]
  exact ⟨cmI_scale _ _ _ (by omega),cmI_scale _ _ _ (by omega)⟩
theorem cmX_mid (L H A:Int) (B P:Nat) (hB:0 < B) (hP:0 < P):cmI ((A * (P:Int) - L * ((B * P:Nat):Int)) * ((P * (B * P):Nat):Int)) ((H * ((B * P:Nat):Int) - A * (P:Int)) * ((B * P * P:Nat):Int)) = cmI (A - L * B) (H * B - A):=by
  have e1:(A * (P:Int) - L * ((B * P:Nat):Int)) = (A - L * B) * (P:Int):=by rw [Int.natCast_mul,Int.sub_mul,Int.mul_assoc]
  have e2:(H * ((B * P:Nat):Int) - A * (P:Int)) = (H * B - A) * (P:Int):=by rw [Int.natCast_mul,Int.sub_mul,Int.mul_assoc]
  rw [e1,e2,Nat.mul_comm (B * P) P,Int.mul_assoc,Int.mul_assoc]
  refine cmI_scale _ _ _ ?_
  refine Int.mul_pos (by omega) ?_
  have:=Nat.mul_pos hP (Nat.mul_pos hB hP)
  omega
end Go.Proofs.YtoibnopiinclaaaGreatDoor
