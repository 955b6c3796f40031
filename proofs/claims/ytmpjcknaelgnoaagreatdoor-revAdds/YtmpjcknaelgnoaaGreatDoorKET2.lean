import Derived.Test.YtmpjcknaelgnoaaGreatDoorKEC4
set_option maxHeartbeats 2000000
set_option maxRecDepth 20000
namespace Go.Proofs.YtmpjcknaelgnoaaGreatDoor
open Go.RowKit
set_option linter.unusedSimpArgs false
theorem rnegT_ (p:Option Addr) (l c:Nat) (q:Option Addr) (k d:Nat) (a b:Nat) (w:World) (h1:Own w 0 (.slice p l c) (dig a)) (h2:Own w 0 (.slice q k d) (dig b)) (la:blen a≤1500) (lb:blen b≤1500):Calls Tryz.prog 75 #[.agg #[.bool true,.slice p l c,.slice q k d]] w fun e w'=>∃ (p2:Option Addr) (l2 c2:Nat) (q2:Option Addr) (k2 d2:Nat),e=.returned (.agg #[.bool false,.slice p2 l2 c2,.slice q2 k2 d2])∧Own w' w.heap.size (.slice p2 l2 c2) (dig a)∧Own w' w.heap.size (.slice q2 k2 d2) (dig b)∧Kp w w':=by
 have nrm:∀ (pp:Option Addr) (ll cc:Nat) (x:Nat),Own w 0 (.slice pp ll cc) (dig x)→blen x≤1500→∀ W:World,Kp w W→Calls Tryz.prog 130 #[.slice pp ll cc] W fun e w'=>∃ (p2:Option Addr) (l2 c2:Nat),e=.returned (.slice p2 l2 c2)∧Own w' W.heap.size (.slice p2 l2 c2) (dig x)∧Kp W w':=by
  intro pp ll cc x h hx W g
  have hl:(dig x).length≤1048576:=Nat.le_trans (show len32 x≤4000 from dlen x 4000 (by omega)) (by decide)
  have h:=normO (.slice pp ll cc) (dig x) W (h.kp g).ls (Wd_dig _) hl
  rw [val_dig] at h
  refine h.mono ?_
  rintro e w' ⟨v',rfl,o1,g2⟩
  obtain ⟨p2,c2,rfl,-,-⟩:=o1.arr
  exact ⟨p2,_,c2,rfl,o1,g2⟩
 have hs1:=nrm p l c a h1 la
 have hs2:=nrm q k d b h2 lb
 clear nrm h1 h2 la lb
 go_enter Tryz.func75,Tryz.ntmps75
 go_wp2
 generalize hW:((w.alloc (.cells #[.bool true,.slice p l c,.slice q k d] 57)).alloc (.cells #[.bool false,.slice none 0 0,.slice none 0 0] 57))=W
 have kw:Kp w W:=by rw [← hW];exact ((Kp.refl w).alloc _).alloc _
 have xw0:W.cell? ⟨w.heap.size,0,none⟩=some (.bool true):=by rw [← hW];simp [go_sem]
 have dw0:W.drew.cell? ⟨w.heap.size,0,none⟩=some (.bool true):=xw0
 have xw1:W.cell? ⟨w.heap.size,1,none⟩=some (.slice p l c):=by rw [← hW];simp [go_sem]
 have dw1:W.drew.cell? ⟨w.heap.size,1,none⟩=some (.slice p l c):=xw1
 have xw2:W.cell? ⟨w.heap.size,2,none⟩=some (.slice q k d):=by rw [← hW];simp [go_sem]
 have dw2:W.drew.cell? ⟨w.heap.size,2,none⟩=some (.slice q k d):=xw2
 obtain ⟨r0,rz0,r1,rz1,r2,rz2⟩:W.cell? ⟨w.heap.size+1,0,none⟩=some (.bool false)∧W.frozen? ⟨w.heap.size+1,0,none⟩=false∧W.cell? ⟨w.heap.size+1,1,none⟩=some (.slice none 0 0)∧W.frozen? ⟨w.heap.size+1,1,none⟩=false∧W.cell? ⟨w.heap.size+1,2,none⟩=some (.slice none 0 0)∧W.frozen? ⟨w.heap.size+1,2,none⟩=false:=by rw [← hW];simp [go_sem]
 have hBW:w.heap.size+1<W.heap.size:=cell_lt r0
 have hn1:w.heap.size+1≠w.heap.size:=by omega
 clear hW
 refine wp_region_held_drew (S:=(fun w'=>w'.cell? ⟨w.heap.size,0,none⟩=some (.bool true)∧w'.cell? ⟨w.heap.size,1,none⟩=some (.slice p l c)∧w'.cell? ⟨w.heap.size,2,none⟩=some (.slice q k d))) (by kernel_rfl) ?_ (fun hHeld=>?_)
 ·exact ⟨dw0,dw1,dw2⟩
 refine wpAnyH_take (i:=0) (v:=.pointer (some ⟨w.heap.size,0,none⟩)) rfl (by kernel_rfl) (by kernel_rfl) (by kernel_rfl) (fun _ _ _ h=>h) (Or.inl ⟨by rfl, ?_⟩) (by assumption) ?_
 ·intro w hSw
  (try dsimp only at hSw)
  go_simp
 try simp only [Act.put,List.getElem_toArray,List.getElem_cons_zero,List.getElem_cons_succ,List.setIfInBounds_toArray,List.set_cons_zero,List.set_cons_succ]
 refine wpAnyH_take (i:=1) (v:=.bool true) rfl (by kernel_rfl) (by kernel_rfl) (by kernel_rfl) (fun _ _ _ h=>h) (Or.inl ⟨by rfl, ?_⟩) (by assumption) ?_
 ·intro w hSw
  (try dsimp only at hSw)
  go_simp
 try simp only [Act.put,List.getElem_toArray,List.getElem_cons_zero,List.getElem_cons_succ,List.setIfInBounds_toArray,List.set_cons_zero,List.set_cons_succ]
 refine wpAnyH_take (i:=2) (v:=.bool false) rfl (by kernel_rfl) (by kernel_rfl) (by kernel_rfl) (fun _ _ _ h=>h) (Or.inl ⟨by rfl, ?_⟩) (by assumption) ?_
 ·intro w hSw
  (try dsimp only at hSw)
  go_simp
 try simp only [Act.put,List.getElem_toArray,List.getElem_cons_zero,List.getElem_cons_succ,List.setIfInBounds_toArray,List.set_cons_zero,List.set_cons_succ]
 refine wpAnyH_take (i:=3) (v:=.bool false) rfl (by kernel_rfl) (by kernel_rfl) (by kernel_rfl) (fun _ _ _ h=>h) (Or.inl ⟨by rfl, ?_⟩) (by assumption) ?_
 ·intro w hSw
  (try dsimp only at hSw)
  go_simp
 try simp only [Act.put,List.getElem_toArray,List.getElem_cons_zero,List.getElem_cons_succ,List.setIfInBounds_toArray,List.set_cons_zero,List.set_cons_succ]
 refine wpAnyH_take (i:=4) (v:=undef) rfl (by kernel_rfl) (by kernel_rfl) (by kernel_rfl) (fun _ _ _ h=>h) (Or.inr ⟨by rfl,rfl⟩) (by assumption) ?_
 try simp only [Act.put,List.getElem_toArray,List.getElem_cons_zero,List.getElem_cons_succ,List.setIfInBounds_toArray,List.set_cons_zero,List.set_cons_succ]
 refine wpAnyH_take (i:=5) (v:=undef) rfl (by kernel_rfl) (by kernel_rfl) (by kernel_rfl) (fun _ _ _ h=>h) (Or.inr ⟨by rfl,rfl⟩) (by assumption) ?_
 try simp only [Act.put,List.getElem_toArray,List.getElem_cons_zero,List.getElem_cons_succ,List.setIfInBounds_toArray,List.set_cons_zero,List.set_cons_succ]
 refine wpAnyH_take (i:=6) (v:=undef) rfl (by kernel_rfl) (by kernel_rfl) (by kernel_rfl) (fun _ _ _ h=>h) (Or.inr ⟨by rfl,rfl⟩) (by assumption) ?_
 try simp only [Act.put,List.getElem_toArray,List.getElem_cons_zero,List.getElem_cons_succ,List.setIfInBounds_toArray,List.set_cons_zero,List.set_cons_succ]
 refine wpAnyH_take (i:=7) (v:=undef) rfl (by kernel_rfl) (by kernel_rfl) (by kernel_rfl) (fun _ _ _ h=>h) (Or.inr ⟨by rfl,rfl⟩) (by assumption) ?_
 try simp only [Act.put,List.getElem_toArray,List.getElem_cons_zero,List.getElem_cons_succ,List.setIfInBounds_toArray,List.set_cons_zero,List.set_cons_succ]
 refine wpAnyH_take (i:=8) (v:=.bool false) rfl (by kernel_rfl) (by kernel_rfl) (by kernel_rfl) (fun _ _ _ h=>h) (Or.inl ⟨by rfl, ?_⟩) (by assumption) ?_
 ·intro w hSw
  (try dsimp only at hSw)
  go_simp
 try simp only [Act.put,List.getElem_toArray,List.getElem_cons_zero,List.getElem_cons_succ,List.setIfInBounds_toArray,List.set_cons_zero,List.set_cons_succ]
 refine wpAnyH_take (i:=9) (v:=.pointer (some ⟨w.heap.size,1,none⟩)) rfl (by kernel_rfl) (by kernel_rfl) (by kernel_rfl) (fun _ _ _ h=>h) (Or.inl ⟨by rfl, ?_⟩) (by assumption) ?_
 ·intro w hSw
  (try dsimp only at hSw)
  go_simp
 try simp only [Act.put,List.getElem_toArray,List.getElem_cons_zero,List.getElem_cons_succ,List.setIfInBounds_toArray,List.set_cons_zero,List.set_cons_succ]
 refine wpAnyH_take (i:=10) (v:=.slice p l c) rfl (by kernel_rfl) (by kernel_rfl) (by kernel_rfl) (fun _ _ _ h=>h) (Or.inl ⟨by rfl, ?_⟩) (by assumption) ?_
 ·intro w hSw
  (try dsimp only at hSw)
  go_simp
 try simp only [Act.put,List.getElem_toArray,List.getElem_cons_zero,List.getElem_cons_succ,List.setIfInBounds_toArray,List.set_cons_zero,List.set_cons_succ]
 refine wpAnyH_take (i:=12) (v:=.pointer (some ⟨w.heap.size,2,none⟩)) rfl (by kernel_rfl) (by kernel_rfl) (by kernel_rfl) (fun _ _ _ h=>h) (Or.inl ⟨by rfl, ?_⟩) (by assumption) ?_
 ·intro w hSw
  (try dsimp only at hSw)
  go_simp
 try simp only [Act.put,List.getElem_toArray,List.getElem_cons_zero,List.getElem_cons_succ,List.setIfInBounds_toArray,List.set_cons_zero,List.set_cons_succ]
 refine wpAnyH_take (i:=13) (v:=.slice q k d) rfl (by kernel_rfl) (by kernel_rfl) (by kernel_rfl) (fun _ _ _ h=>h) (Or.inl ⟨by rfl, ?_⟩) (by assumption) ?_
 ·intro w hSw
  (try dsimp only at hSw)
  go_simp
 try simp only [Act.put,List.getElem_toArray,List.getElem_cons_zero,List.getElem_cons_succ,List.setIfInBounds_toArray,List.set_cons_zero,List.set_cons_succ]
 refine wpAnyH_ready (rs:=[11]) (by kernel_rfl) (by simp) ?_
 refine AllReadyH.cons rfl (fun K hK=>?_) AllReadyH.nil
 go_simp
 go_at_call_of 130 (Value.slice p l c);refine (hs1 _ ?q0).mono ?_;(case q0=>exact kw.drew);rintro e wl ⟨p2,l2,c2,rfl,ho1,gl⟩;have kl:Kp W wl:=Kp.trans (Kp.drew (Kp.refl _)) gl;have aw0:=kkeep kl xw0;have aw1:=kkeep kl xw1;have aw2:=kkeep kl xw2
 go_wp2_with fail
 refine hK.out _ _ ?_ (fun hHeld=>?_)
 ·exact ⟨aw0,aw1,aw2⟩
 clear hK K
 try simp only [Act.put,List.getElem_toArray,List.getElem_cons_zero,List.getElem_cons_succ,List.setIfInBounds_toArray,List.set_cons_zero,List.set_cons_succ]
 refine wpAnyH_ready (rs:=[14]) (by kernel_rfl) (by simp) ?_
 refine AllReadyH.cons rfl (fun K hK=>?_) AllReadyH.nil
 go_simp
 go_at_call_of 130 (Value.slice q k d);refine (hs2 _ ?q0).mono ?_;(case q0=>exact kw.trans kl);rintro e wh ⟨q2,k2,d2,rfl,ho2,gh⟩;have kh:Kp W wh:=Kp.trans kl gh;have bw0:=kkeep kh xw0;have bw1:=kkeep kh xw1;have bw2:=kkeep kh xw2;obtain ⟨R0,Rz0,R1,Rz1,R2,Rz2⟩:=AK3 kh ⟨r0,rz0,r1,rz1,r2,rz2⟩
 go_wp2_with fail
 refine hK.out _ _ ?_ (fun hHeld=>?_)
 ·exact ⟨bw0,bw1,bw2⟩
 clear hK K
 try simp only [Act.put,List.getElem_toArray,List.getElem_cons_zero,List.getElem_cons_succ,List.setIfInBounds_toArray,List.set_cons_zero,List.set_cons_succ]
 refine wpAnyH_take (i:=15) (v:=.agg #[.bool false,.slice p2 l2 c2,.slice q2 k2 d2]) rfl (by kernel_rfl) (by kernel_rfl) (by kernel_rfl) (fun _ _ _ h=>h) (Or.inl ⟨by rfl, ?_⟩) (by assumption) ?_
 ·intro w hSw
  (try dsimp only at hSw)
  go_simp
 try simp only [Act.put,List.getElem_toArray,List.getElem_cons_zero,List.getElem_cons_succ,List.setIfInBounds_toArray,List.set_cons_zero,List.set_cons_succ]
 refine wpAnyH_ready (rs:=[16]) (by kernel_rfl) (by simp) ?_
 refine AllReadyH.cons rfl (fun K hK=>?_) AllReadyH.nil
 go_simp
 refine hK.out _ _ ?_ (fun hHeld=>?_)
 ·exact ⟨(CF3 hn1 bw0),(CF3 hn1 bw1),(CF3 hn1 bw2)⟩
 clear hK K
 try simp only [Act.put,List.getElem_toArray,List.getElem_cons_zero,List.getElem_cons_succ,List.setIfInBounds_toArray,List.set_cons_zero,List.set_cons_succ]
 refine wpAnyH_done (by kernel_rfl) ?_ _
 all_goals go_wp2
 all_goals (
  have hle:w.heap.size≤W.heap.size:=by omega
  have O1:Own wh W.heap.size (.slice p2 l2 c2) (dig a):=(ho1.mono (base':=W.heap.size) (Nat.le_refl _)).kp gh
  have O2:Own wh W.heap.size (.slice q2 k2 d2) (dig b):=ho2.mono (base':=W.heap.size) (Below.size kl)
  exact BR (v:=.agg #[.bool false,.slice p2 l2 c2,.slice q2 k2 d2]) (by simp [results,Tryz.results75,go_sem,R0,R1,R2]) rfl ⟨p2,l2,c2,q2,k2,d2,rfl,(((O1.setOther (a:=⟨w.heap.size+1,0,none⟩) hBW _).setOther (a:=⟨w.heap.size+1,1,none⟩) hBW _).setOther (a:=⟨w.heap.size+1,2,none⟩) hBW _).mono hle,(((O2.setOther (a:=⟨w.heap.size+1,0,none⟩) hBW _).setOther (a:=⟨w.heap.size+1,1,none⟩) hBW _).setOther (a:=⟨w.heap.size+1,2,none⟩) hBW _).mono hle,KS3 ((Kp.trans kw kh)) (by first | omega | (simp <;> omega))⟩)
theorem rnegP_ (p:Option Addr) (l c:Nat) (q:Option Addr) (k d:Nat) (a b:Nat) (w:World) (h1:Own w 0 (.slice p l c) (dig a)) (h2:Own w 0 (.slice q k d) (dig b)) (la:blen a≤1500) (lb:blen b≤1500) (t1:0<l):Calls Tryz.prog 75 #[.agg #[.bool false,.slice p l c,.slice q k d]] w fun e w'=>∃ (p2:Option Addr) (l2 c2:Nat) (q2:Option Addr) (k2 d2:Nat),e=.returned (.agg #[.bool true,.slice p2 l2 c2,.slice q2 k2 d2])∧Own w' w.heap.size (.slice p2 l2 c2) (dig a)∧Own w' w.heap.size (.slice q2 k2 d2) (dig b)∧Kp w w':=by
 have nrm:∀ (pp:Option Addr) (ll cc:Nat) (x:Nat),Own w 0 (.slice pp ll cc) (dig x)→blen x≤1500→∀ W:World,Kp w W→Calls Tryz.prog 130 #[.slice pp ll cc] W fun e w'=>∃ (p2:Option Addr) (l2 c2:Nat),e=.returned (.slice p2 l2 c2)∧Own w' W.heap.size (.slice p2 l2 c2) (dig x)∧Kp W w':=by
  intro pp ll cc x h hx W g
  have hl:(dig x).length≤1048576:=Nat.le_trans (show len32 x≤4000 from dlen x 4000 (by omega)) (by decide)
  have h:=normO (.slice pp ll cc) (dig x) W (h.kp g).ls (Wd_dig _) hl
  rw [val_dig] at h
  refine h.mono ?_
  rintro e w' ⟨v',rfl,o1,g2⟩
  obtain ⟨p2,c2,rfl,-,-⟩:=o1.arr
  exact ⟨p2,_,c2,rfl,o1,g2⟩
 have hs1:=nrm p l c a h1 la
 have hs2:=nrm q k d b h2 lb
 clear nrm h1 h2 la lb
 go_enter Tryz.func75,Tryz.ntmps75
 go_wp2
 generalize hW:((w.alloc (.cells #[.bool false,.slice p l c,.slice q k d] 57)).alloc (.cells #[.bool false,.slice none 0 0,.slice none 0 0] 57))=W
 have kw:Kp w W:=by rw [← hW];exact ((Kp.refl w).alloc _).alloc _
 have xw0:W.cell? ⟨w.heap.size,0,none⟩=some (.bool false):=by rw [← hW];simp [go_sem]
 have dw0:W.drew.cell? ⟨w.heap.size,0,none⟩=some (.bool false):=xw0
 have xw1:W.cell? ⟨w.heap.size,1,none⟩=some (.slice p l c):=by rw [← hW];simp [go_sem]
 have dw1:W.drew.cell? ⟨w.heap.size,1,none⟩=some (.slice p l c):=xw1
 have xw2:W.cell? ⟨w.heap.size,2,none⟩=some (.slice q k d):=by rw [← hW];simp [go_sem]
 have dw2:W.drew.cell? ⟨w.heap.size,2,none⟩=some (.slice q k d):=xw2
 obtain ⟨r0,rz0,r1,rz1,r2,rz2⟩:W.cell? ⟨w.heap.size+1,0,none⟩=some (.bool false)∧W.frozen? ⟨w.heap.size+1,0,none⟩=false∧W.cell? ⟨w.heap.size+1,1,none⟩=some (.slice none 0 0)∧W.frozen? ⟨w.heap.size+1,1,none⟩=false∧W.cell? ⟨w.heap.size+1,2,none⟩=some (.slice none 0 0)∧W.frozen? ⟨w.heap.size+1,2,none⟩=false:=by rw [← hW];simp [go_sem]
 have hBW:w.heap.size+1<W.heap.size:=cell_lt r0
 have hn1:w.heap.size+1≠w.heap.size:=by omega
 clear hW
 go_region_held3 (fun w'=>w'.cell? ⟨w.heap.size,0,none⟩=some (.bool false)∧w'.cell? ⟨w.heap.size,1,none⟩=some (.slice p l c)∧w'.cell? ⟨w.heap.size,2,none⟩=some (.slice q k d)) (first | (with_reducible exact ⟨xw0,xw1,xw2⟩) | (with_reducible exact ⟨dw0,dw1,dw2⟩) | (with_reducible exact ⟨aw0,aw1,aw2⟩) | (with_reducible exact ⟨bw0,bw1,bw2⟩) | (exact ⟨(CF3 hn1 bw0),(CF3 hn1 bw1),(CF3 hn1 bw2)⟩)) (first | (go_at_call_of 130 (Value.slice p l c);refine (hs1 _ ?q0).mono ?_;(case q0=>exact kw.drew);rintro e wl ⟨p2,l2,c2,rfl,ho1,gl⟩;have kl:Kp W wl:=Kp.trans (Kp.drew (Kp.refl _)) gl;have aw0:=kkeep kl xw0;have aw1:=kkeep kl xw1;have aw2:=kkeep kl xw2) | (go_at_call_of 130 (Value.slice q k d);refine (hs2 _ ?q0).mono ?_;(case q0=>exact kw.trans kl);rintro e wh ⟨q2,k2,d2,rfl,ho2,gh⟩;have kh:Kp W wh:=Kp.trans kl gh;have bw0:=kkeep kh xw0;have bw1:=kkeep kh xw1;have bw2:=kkeep kh xw2;obtain ⟨R0,Rz0,R1,Rz1,R2,Rz2⟩:=AK3 kh ⟨r0,rz0,r1,rz1,r2,rz2⟩))
 all_goals go_wp2
 all_goals (
  have hle:w.heap.size≤W.heap.size:=by omega
  have O1:Own wh W.heap.size (.slice p2 l2 c2) (dig a):=(ho1.mono (base':=W.heap.size) (Nat.le_refl _)).kp gh
  have O2:Own wh W.heap.size (.slice q2 k2 d2) (dig b):=ho2.mono (base':=W.heap.size) (Below.size kl)
  exact BR (v:=.agg #[.bool true,.slice p2 l2 c2,.slice q2 k2 d2]) (by simp [results,Tryz.results75,go_sem,R0,R1,R2]) rfl ⟨p2,l2,c2,q2,k2,d2,rfl,(((O1.setOther (a:=⟨w.heap.size+1,0,none⟩) hBW _).setOther (a:=⟨w.heap.size+1,1,none⟩) hBW _).setOther (a:=⟨w.heap.size+1,2,none⟩) hBW _).mono hle,(((O2.setOther (a:=⟨w.heap.size+1,0,none⟩) hBW _).setOther (a:=⟨w.heap.size+1,1,none⟩) hBW _).setOther (a:=⟨w.heap.size+1,2,none⟩) hBW _).mono hle,KS3 ((Kp.trans kw kh)) (by first | omega | (simp <;> omega))⟩)
theorem rnegZ_ (p:Option Addr) (l c:Nat) (q:Option Addr) (k d:Nat) (a b:Nat) (w:World) (h1:Own w 0 (.slice p l c) (dig a)) (h2:Own w 0 (.slice q k d) (dig b)) (la:blen a≤1500) (lb:blen b≤1500) (t1:¬ (0<l)):Calls Tryz.prog 75 #[.agg #[.bool false,.slice p l c,.slice q k d]] w fun e w'=>∃ (p2:Option Addr) (l2 c2:Nat) (q2:Option Addr) (k2 d2:Nat),e=.returned (.agg #[.bool false,.slice p2 l2 c2,.slice q2 k2 d2])∧Own w' w.heap.size (.slice p2 l2 c2) (dig a)∧Own w' w.heap.size (.slice q2 k2 d2) (dig b)∧Kp w w':=by
 have nrm:∀ (pp:Option Addr) (ll cc:Nat) (x:Nat),Own w 0 (.slice pp ll cc) (dig x)→blen x≤1500→∀ W:World,Kp w W→Calls Tryz.prog 130 #[.slice pp ll cc] W fun e w'=>∃ (p2:Option Addr) (l2 c2:Nat),e=.returned (.slice p2 l2 c2)∧Own w' W.heap.size (.slice p2 l2 c2) (dig x)∧Kp W w':=by
  intro pp ll cc x h hx W g
  have hl:(dig x).length≤1048576:=Nat.le_trans (show len32 x≤4000 from dlen x 4000 (by omega)) (by decide)
  have h:=normO (.slice pp ll cc) (dig x) W (h.kp g).ls (Wd_dig _) hl
  rw [val_dig] at h
  refine h.mono ?_
  rintro e w' ⟨v',rfl,o1,g2⟩
  obtain ⟨p2,c2,rfl,-,-⟩:=o1.arr
  exact ⟨p2,_,c2,rfl,o1,g2⟩
 have hs1:=nrm p l c a h1 la
 have hs2:=nrm q k d b h2 lb
 clear nrm h1 h2 la lb
 go_enter Tryz.func75,Tryz.ntmps75
 go_wp2
 generalize hW:((w.alloc (.cells #[.bool false,.slice p l c,.slice q k d] 57)).alloc (.cells #[.bool false,.slice none 0 0,.slice none 0 0] 57))=W
 have kw:Kp w W:=by rw [← hW];exact ((Kp.refl w).alloc _).alloc _
 have xw0:W.cell? ⟨w.heap.size,0,none⟩=some (.bool false):=by rw [← hW];simp [go_sem]
 have dw0:W.drew.cell? ⟨w.heap.size,0,none⟩=some (.bool false):=xw0
 have xw1:W.cell? ⟨w.heap.size,1,none⟩=some (.slice p l c):=by rw [← hW];simp [go_sem]
 have dw1:W.drew.cell? ⟨w.heap.size,1,none⟩=some (.slice p l c):=xw1
 have xw2:W.cell? ⟨w.heap.size,2,none⟩=some (.slice q k d):=by rw [← hW];simp [go_sem]
 have dw2:W.drew.cell? ⟨w.heap.size,2,none⟩=some (.slice q k d):=xw2
 obtain ⟨r0,rz0,r1,rz1,r2,rz2⟩:W.cell? ⟨w.heap.size+1,0,none⟩=some (.bool false)∧W.frozen? ⟨w.heap.size+1,0,none⟩=false∧W.cell? ⟨w.heap.size+1,1,none⟩=some (.slice none 0 0)∧W.frozen? ⟨w.heap.size+1,1,none⟩=false∧W.cell? ⟨w.heap.size+1,2,none⟩=some (.slice none 0 0)∧W.frozen? ⟨w.heap.size+1,2,none⟩=false:=by rw [← hW];simp [go_sem]
 have hBW:w.heap.size+1<W.heap.size:=cell_lt r0
 have hn1:w.heap.size+1≠w.heap.size:=by omega
 clear hW
 go_region_held3 (fun w'=>w'.cell? ⟨w.heap.size,0,none⟩=some (.bool false)∧w'.cell? ⟨w.heap.size,1,none⟩=some (.slice p l c)∧w'.cell? ⟨w.heap.size,2,none⟩=some (.slice q k d)) (first | (with_reducible exact ⟨xw0,xw1,xw2⟩) | (with_reducible exact ⟨dw0,dw1,dw2⟩) | (with_reducible exact ⟨aw0,aw1,aw2⟩) | (with_reducible exact ⟨bw0,bw1,bw2⟩) | (exact ⟨(CF3 hn1 bw0),(CF3 hn1 bw1),(CF3 hn1 bw2)⟩)) (first | (go_at_call_of 130 (Value.slice p l c);refine (hs1 _ ?q0).mono ?_;(case q0=>exact kw.drew);rintro e wl ⟨p2,l2,c2,rfl,ho1,gl⟩;have kl:Kp W wl:=Kp.trans (Kp.drew (Kp.refl _)) gl;have aw0:=kkeep kl xw0;have aw1:=kkeep kl xw1;have aw2:=kkeep kl xw2) | (go_at_call_of 130 (Value.slice q k d);refine (hs2 _ ?q0).mono ?_;(case q0=>exact kw.trans kl);rintro e wh ⟨q2,k2,d2,rfl,ho2,gh⟩;have kh:Kp W wh:=Kp.trans kl gh;have bw0:=kkeep kh xw0;have bw1:=kkeep kh xw1;have bw2:=kkeep kh xw2;obtain ⟨R0,Rz0,R1,Rz1,R2,Rz2⟩:=AK3 kh ⟨r0,rz0,r1,rz1,r2,rz2⟩))
 all_goals go_wp2
 all_goals (
  have hle:w.heap.size≤W.heap.size:=by omega
  have O1:Own wh W.heap.size (.slice p2 l2 c2) (dig a):=(ho1.mono (base':=W.heap.size) (Nat.le_refl _)).kp gh
  have O2:Own wh W.heap.size (.slice q2 k2 d2) (dig b):=ho2.mono (base':=W.heap.size) (Below.size kl)
  exact BR (v:=.agg #[.bool false,.slice p2 l2 c2,.slice q2 k2 d2]) (by simp [results,Tryz.results75,go_sem,R0,R1,R2]) rfl ⟨p2,l2,c2,q2,k2,d2,rfl,(((O1.setOther (a:=⟨w.heap.size+1,0,none⟩) hBW _).setOther (a:=⟨w.heap.size+1,1,none⟩) hBW _).setOther (a:=⟨w.heap.size+1,2,none⟩) hBW _).mono hle,(((O2.setOther (a:=⟨w.heap.size+1,0,none⟩) hBW _).setOther (a:=⟨w.heap.size+1,1,none⟩) hBW _).setOther (a:=⟨w.heap.size+1,2,none⟩) hBW _).mono hle,KS3 ((Kp.trans kw kh)) (by first | omega | (simp <;> omega))⟩)

theorem RP.zero {base:Nat} {w:World} {s:Bool} {p:Option Addr} {l c:Nat} {q:Option Addr} {k d:Nat} {n:Bool} (n':Bool) (h:RP base w s p l c q k d n 0):RP base w s p l c q k d n' 0:=by
 obtain ⟨a,b,h1,h2,h3⟩:=h
 refine ⟨a,b,h1,h2,fun K hK=>?_⟩
 obtain ⟨f1,f2,f3,f4,f5⟩:=h3 K hK
 refine ⟨f1,f2, ?_,f4,f5⟩
 unfold Iv;rw [Fq.vV_zero];cases n' <;> cases s <;> rfl
theorem rneg6_ (n:Bool) (m:Nat) s p l c q k d (B1:Nat) (w:World) (h:RP B1 w s p l c q k d n m):Calls Tryz.prog 75 #[.agg #[.bool s,.slice p l c,.slice q k d]] w fun e w'=>∃ s2 p2 l2 c2 q2 k2 d2,e=.returned (.agg #[.bool s2,.slice p2 l2 c2,.slice q2 k2 d2])∧RP w.heap.size w' s2 p2 l2 c2 q2 k2 d2 (!n) m∧Kp w w':=by
 obtain ⟨a,b,u1,u2,u3⟩:=h
 have hl:l=(dig a).length:=by
  obtain ⟨P1,C1,e1,-,-⟩:=u1.arr
  injection e1
 have key:∀ (s2:Bool),(a≠0→s2 = !s)→RF s2 a b (!n) m:=by
  intro s2 hs K hK
  obtain ⟨f1,f2,f3,f4,f5⟩:=u3 K hK
  refine ⟨f1,f2, ?_,f4,f5⟩
  have hv:Iv (!n) m = - Iv n m:=by unfold Iv;cases n <;> simp
  rw [hv,f3]
  by_cases c0:a=0
  ·have hz:Fq.vV Ieee.double m=0:=by
    rw [c0,Nat.zero_mul] at f2
    rcases Nat.mul_eq_zero.1 f2.symm with h | h
    ·exact h
    ·exact absurd h f1
   rw [hz];cases s <;> cases s2 <;> rfl
  ·rw [hs c0];cases s <;> simp
 have hf:=u3 1074 rfl
 have hl0:a≠0→0<l:=fun h0=>by
  rw [hl]
  rcases Nat.eq_zero_or_pos (dig a).length with z | z
  ·have:=List.eq_nil_of_length_eq_zero z
   have e:=val_dig a
   rw [this] at e
   exact absurd e.symm h0
  ·exact z
 have u1:=u1.mono (Nat.zero_le B1)
 have u2:=u2.mono (Nat.zero_le B1)
 cases s
 ·by_cases t1:0<l
  ·refine (rnegP_ p l c q k d a b w u1 u2 hf.2.2.2.1 hf.2.2.2.2 t1).mono ?_
   rintro e w' ⟨p2,l2,c2,q2,k2,d2,rfl,o1,o2,g⟩
   exact ⟨true,p2,l2,c2,q2,k2,d2,rfl,⟨a,b,o1,o2,key true (fun _=>rfl)⟩,g⟩
  ·refine (rnegZ_ p l c q k d a b w u1 u2 hf.2.2.2.1 hf.2.2.2.2 t1).mono ?_
   rintro e w' ⟨p2,l2,c2,q2,k2,d2,rfl,o1,o2,g⟩
   exact ⟨false,p2,l2,c2,q2,k2,d2,rfl,⟨a,b,o1,o2,key false (fun h0=>absurd (hl0 h0) t1)⟩,g⟩
 ·refine (rnegT_ p l c q k d a b w u1 u2 hf.2.2.2.1 hf.2.2.2.2).mono ?_
  rintro e w' ⟨p2,l2,c2,q2,k2,d2,rfl,o1,o2,g⟩
  exact ⟨false,p2,l2,c2,q2,k2,d2,rfl,⟨a,b,o1,o2,key false (fun _=>rfl)⟩,g⟩
theorem turnZ_ (N:Bool) (M:Nat) s p l c q k d (w:World) (hs:∀ W:World,Kp w W→Calls Tryz.prog 75 #[.agg #[.bool s,.slice p l c,.slice q k d]] W fun e w'=>∃ s2 p2 l2 c2 q2 k2 d2,e=.returned (.agg #[.bool s2,.slice p2 l2 c2,.slice q2 k2 d2])∧RP W.heap.size w' s2 p2 l2 c2 q2 k2 d2 N M∧Kp W w'):Calls Tryz.prog 106 #[.agg #[.int .i64 0,.bool s,.slice p l c,.slice q k d]] w fun e w'=>∃ s2 p2 l2 c2 q2 k2 d2,e=.returned (.agg #[.int .i64 0,.bool s2,.slice p2 l2 c2,.slice q2 k2 d2])∧RP w.heap.size w' s2 p2 l2 c2 q2 k2 d2 N M∧Kp w w':=by
 go_enter Tryz.func106,Tryz.ntmps106
 go_wp2
 generalize hW:((w.alloc (.cells #[.int .i64 0,.bool s,.slice p l c,.slice q k d] 64)).alloc (.cells #[.int .i64 0,.bool false,.slice none 0 0,.slice none 0 0] 64))=W
 have kw:Kp w W:=by rw [← hW];exact ((Kp.refl w).alloc _).alloc _
 have xw0:W.cell? ⟨w.heap.size,0,none⟩=some (.int .i64 0):=by rw [← hW];simp [go_sem]
 have dw0:W.drew.cell? ⟨w.heap.size,0,none⟩=some (.int .i64 0):=xw0
 have xw1:W.cell? ⟨w.heap.size,1,none⟩=some (.bool s):=by rw [← hW];simp [go_sem]
 have dw1:W.drew.cell? ⟨w.heap.size,1,none⟩=some (.bool s):=xw1
 have xw2:W.cell? ⟨w.heap.size,2,none⟩=some (.slice p l c):=by rw [← hW];simp [go_sem]
 have dw2:W.drew.cell? ⟨w.heap.size,2,none⟩=some (.slice p l c):=xw2
 have xw3:W.cell? ⟨w.heap.size,3,none⟩=some (.slice q k d):=by rw [← hW];simp [go_sem]
 have dw3:W.drew.cell? ⟨w.heap.size,3,none⟩=some (.slice q k d):=xw3
 obtain ⟨r0,rz0,r1,rz1,r2,rz2,r3,rz3⟩:W.cell? ⟨w.heap.size+1,0,none⟩=some (.int .i64 0)∧W.frozen? ⟨w.heap.size+1,0,none⟩=false∧W.cell? ⟨w.heap.size+1,1,none⟩=some (.bool false)∧W.frozen? ⟨w.heap.size+1,1,none⟩=false∧W.cell? ⟨w.heap.size+1,2,none⟩=some (.slice none 0 0)∧W.frozen? ⟨w.heap.size+1,2,none⟩=false∧W.cell? ⟨w.heap.size+1,3,none⟩=some (.slice none 0 0)∧W.frozen? ⟨w.heap.size+1,3,none⟩=false:=by rw [← hW];simp [go_sem]
 have hBW:w.heap.size+1<W.heap.size:=cell_lt r0
 have hn1:w.heap.size+1≠w.heap.size:=by omega
 clear hW
 go_region_held3 (fun w'=>w'.cell? ⟨w.heap.size,0,none⟩=some (.int .i64 0)∧w'.cell? ⟨w.heap.size,1,none⟩=some (.bool s)∧w'.cell? ⟨w.heap.size,2,none⟩=some (.slice p l c)∧w'.cell? ⟨w.heap.size,3,none⟩=some (.slice q k d)) (first | (with_reducible exact ⟨xw0,xw1,xw2,xw3⟩) | (with_reducible exact ⟨dw0,dw1,dw2,dw3⟩) | (with_reducible exact ⟨aw0,aw1,aw2,aw3⟩) | (exact ⟨(CF4 hn1 aw0),(CF4 hn1 aw1),(CF4 hn1 aw2),(CF4 hn1 aw3)⟩)) (first | (go_at_call 75;refine (hs _ ?q0).mono ?_;(case q0=>exact kw.drew);rintro e wl ⟨s2,p2,l2,c2,q2,k2,d2,rfl,hp,gl⟩;have kl:Kp W wl:=Kp.trans (Kp.drew (Kp.refl _)) gl;have aw0:=kkeep kl xw0;have aw1:=kkeep kl xw1;have aw2:=kkeep kl xw2;have aw3:=kkeep kl xw3;obtain ⟨R0,Rz0,R1,Rz1,R2,Rz2,R3,Rz3⟩:=AK4 kl ⟨r0,rz0,r1,rz1,r2,rz2,r3,rz3⟩))
 go_wp2
 have hle:w.heap.size≤W.heap.size:=by omega
 exact BR (v:=.agg #[.int .i64 0,.bool s2,.slice p2 l2 c2,.slice q2 k2 d2]) (by simp [results,Tryz.results106,go_sem,R0,R1,R2,R3] <;> decide +kernel) rfl ⟨s2,p2,l2,c2,q2,k2,d2,rfl,RP.mono ((((((hp.mono (base':=W.heap.size) (Nat.le_refl _))).set (x:=⟨w.heap.size+1,0,none⟩) hBW (.int .i64 0)).set (x:=⟨w.heap.size+1,1,none⟩) hBW (.bool s2)).set (x:=⟨w.heap.size+1,2,none⟩) hBW (.slice p2 l2 c2)).set (x:=⟨w.heap.size+1,3,none⟩) hBW (.slice q2 k2 d2)) hle,KS4 ((Kp.trans kw kl)) (by first | omega | (simp <;> omega))⟩
theorem turnP_ (N:Bool) (M:Nat) s p l c q k d (w:World) (hs:∀ W:World,Kp w W→Calls Tryz.prog 75 #[.agg #[.bool s,.slice p l c,.slice q k d]] W fun e w'=>∃ s2 p2 l2 c2 q2 k2 d2,e=.returned (.agg #[.bool s2,.slice p2 l2 c2,.slice q2 k2 d2])∧RP W.heap.size w' s2 p2 l2 c2 q2 k2 d2 N M∧Kp W w'):Calls Tryz.prog 106 #[.agg #[.int .i64 1,.bool s,.slice p l c,.slice q k d]] w fun e w'=>∃ s2 p2 l2 c2 q2 k2 d2,e=.returned (.agg #[.int .i64 (-1),.bool s2,.slice p2 l2 c2,.slice q2 k2 d2])∧RP w.heap.size w' s2 p2 l2 c2 q2 k2 d2 N M∧Kp w w':=by
 go_enter Tryz.func106,Tryz.ntmps106
 go_wp2
 generalize hW:((w.alloc (.cells #[.int .i64 1,.bool s,.slice p l c,.slice q k d] 64)).alloc (.cells #[.int .i64 0,.bool false,.slice none 0 0,.slice none 0 0] 64))=W
 have kw:Kp w W:=by rw [← hW];exact ((Kp.refl w).alloc _).alloc _
 have xw0:W.cell? ⟨w.heap.size,0,none⟩=some (.int .i64 1):=by rw [← hW];simp [go_sem]
 have dw0:W.drew.cell? ⟨w.heap.size,0,none⟩=some (.int .i64 1):=xw0
 have xw1:W.cell? ⟨w.heap.size,1,none⟩=some (.bool s):=by rw [← hW];simp [go_sem]
 have dw1:W.drew.cell? ⟨w.heap.size,1,none⟩=some (.bool s):=xw1
 have xw2:W.cell? ⟨w.heap.size,2,none⟩=some (.slice p l c):=by rw [← hW];simp [go_sem]
 have dw2:W.drew.cell? ⟨w.heap.size,2,none⟩=some (.slice p l c):=xw2
 have xw3:W.cell? ⟨w.heap.size,3,none⟩=some (.slice q k d):=by rw [← hW];simp [go_sem]
 have dw3:W.drew.cell? ⟨w.heap.size,3,none⟩=some (.slice q k d):=xw3
 obtain ⟨r0,rz0,r1,rz1,r2,rz2,r3,rz3⟩:W.cell? ⟨w.heap.size+1,0,none⟩=some (.int .i64 0)∧W.frozen? ⟨w.heap.size+1,0,none⟩=false∧W.cell? ⟨w.heap.size+1,1,none⟩=some (.bool false)∧W.frozen? ⟨w.heap.size+1,1,none⟩=false∧W.cell? ⟨w.heap.size+1,2,none⟩=some (.slice none 0 0)∧W.frozen? ⟨w.heap.size+1,2,none⟩=false∧W.cell? ⟨w.heap.size+1,3,none⟩=some (.slice none 0 0)∧W.frozen? ⟨w.heap.size+1,3,none⟩=false:=by rw [← hW];simp [go_sem]
 have hBW:w.heap.size+1<W.heap.size:=cell_lt r0
 have hn1:w.heap.size+1≠w.heap.size:=by omega
 clear hW
 go_region_held3 (fun w'=>w'.cell? ⟨w.heap.size,0,none⟩=some (.int .i64 1)∧w'.cell? ⟨w.heap.size,1,none⟩=some (.bool s)∧w'.cell? ⟨w.heap.size,2,none⟩=some (.slice p l c)∧w'.cell? ⟨w.heap.size,3,none⟩=some (.slice q k d)) (first | (with_reducible exact ⟨xw0,xw1,xw2,xw3⟩) | (with_reducible exact ⟨dw0,dw1,dw2,dw3⟩) | (with_reducible exact ⟨aw0,aw1,aw2,aw3⟩) | (exact ⟨(CF4 hn1 aw0),(CF4 hn1 aw1),(CF4 hn1 aw2),(CF4 hn1 aw3)⟩)) (first | (go_at_call 75;refine (hs _ ?q0).mono ?_;(case q0=>exact kw.drew);rintro e wl ⟨s2,p2,l2,c2,q2,k2,d2,rfl,hp,gl⟩;have kl:Kp W wl:=Kp.trans (Kp.drew (Kp.refl _)) gl;have aw0:=kkeep kl xw0;have aw1:=kkeep kl xw1;have aw2:=kkeep kl xw2;have aw3:=kkeep kl xw3;obtain ⟨R0,Rz0,R1,Rz1,R2,Rz2,R3,Rz3⟩:=AK4 kl ⟨r0,rz0,r1,rz1,r2,rz2,r3,rz3⟩))
 go_wp2
 have hle:w.heap.size≤W.heap.size:=by omega
 exact BR (v:=.agg #[.int .i64 (-1),.bool s2,.slice p2 l2 c2,.slice q2 k2 d2]) (by simp [results,Tryz.results106,go_sem,R0,R1,R2,R3] <;> decide +kernel) rfl ⟨s2,p2,l2,c2,q2,k2,d2,rfl,RP.mono ((((((hp.mono (base':=W.heap.size) (Nat.le_refl _))).set (x:=⟨w.heap.size+1,0,none⟩) hBW (.int .i64 (-1))).set (x:=⟨w.heap.size+1,1,none⟩) hBW (.bool s2)).set (x:=⟨w.heap.size+1,2,none⟩) hBW (.slice p2 l2 c2)).set (x:=⟨w.heap.size+1,3,none⟩) hBW (.slice q2 k2 d2)) hle,KS4 ((Kp.trans kw kl)) (by first | omega | (simp <;> omega))⟩
theorem turnM_ (N:Bool) (M:Nat) s p l c q k d (w:World) (hs:∀ W:World,Kp w W→Calls Tryz.prog 75 #[.agg #[.bool s,.slice p l c,.slice q k d]] W fun e w'=>∃ s2 p2 l2 c2 q2 k2 d2,e=.returned (.agg #[.bool s2,.slice p2 l2 c2,.slice q2 k2 d2])∧RP W.heap.size w' s2 p2 l2 c2 q2 k2 d2 N M∧Kp W w'):Calls Tryz.prog 106 #[.agg #[.int .i64 (-1),.bool s,.slice p l c,.slice q k d]] w fun e w'=>∃ s2 p2 l2 c2 q2 k2 d2,e=.returned (.agg #[.int .i64 1,.bool s2,.slice p2 l2 c2,.slice q2 k2 d2])∧RP w.heap.size w' s2 p2 l2 c2 q2 k2 d2 N M∧Kp w w':=by
 go_enter Tryz.func106,Tryz.ntmps106
 go_wp2
 generalize hW:((w.alloc (.cells #[.int .i64 (-1),.bool s,.slice p l c,.slice q k d] 64)).alloc (.cells #[.int .i64 0,.bool false,.slice none 0 0,.slice none 0 0] 64))=W
 have kw:Kp w W:=by rw [← hW];exact ((Kp.refl w).alloc _).alloc _
 have xw0:W.cell? ⟨w.heap.size,0,none⟩=some (.int .i64 (-1)):=by rw [← hW];simp [go_sem]
 have dw0:W.drew.cell? ⟨w.heap.size,0,none⟩=some (.int .i64 (-1)):=xw0
 have xw1:W.cell? ⟨w.heap.size,1,none⟩=some (.bool s):=by rw [← hW];simp [go_sem]
 have dw1:W.drew.cell? ⟨w.heap.size,1,none⟩=some (.bool s):=xw1
 have xw2:W.cell? ⟨w.heap.size,2,none⟩=some (.slice p l c):=by rw [← hW];simp [go_sem]
 have dw2:W.drew.cell? ⟨w.heap.size,2,none⟩=some (.slice p l c):=xw2
 have xw3:W.cell? ⟨w.heap.size,3,none⟩=some (.slice q k d):=by rw [← hW];simp [go_sem]
 have dw3:W.drew.cell? ⟨w.heap.size,3,none⟩=some (.slice q k d):=xw3
 obtain ⟨r0,rz0,r1,rz1,r2,rz2,r3,rz3⟩:W.cell? ⟨w.heap.size+1,0,none⟩=some (.int .i64 0)∧W.frozen? ⟨w.heap.size+1,0,none⟩=false∧W.cell? ⟨w.heap.size+1,1,none⟩=some (.bool false)∧W.frozen? ⟨w.heap.size+1,1,none⟩=false∧W.cell? ⟨w.heap.size+1,2,none⟩=some (.slice none 0 0)∧W.frozen? ⟨w.heap.size+1,2,none⟩=false∧W.cell? ⟨w.heap.size+1,3,none⟩=some (.slice none 0 0)∧W.frozen? ⟨w.heap.size+1,3,none⟩=false:=by rw [← hW];simp [go_sem]
 have hBW:w.heap.size+1<W.heap.size:=cell_lt r0
 have hn1:w.heap.size+1≠w.heap.size:=by omega
 clear hW
 go_region_held3 (fun w'=>w'.cell? ⟨w.heap.size,0,none⟩=some (.int .i64 (-1))∧w'.cell? ⟨w.heap.size,1,none⟩=some (.bool s)∧w'.cell? ⟨w.heap.size,2,none⟩=some (.slice p l c)∧w'.cell? ⟨w.heap.size,3,none⟩=some (.slice q k d)) (first | (with_reducible exact ⟨xw0,xw1,xw2,xw3⟩) | (with_reducible exact ⟨dw0,dw1,dw2,dw3⟩) | (with_reducible exact ⟨aw0,aw1,aw2,aw3⟩) | (exact ⟨(CF4 hn1 aw0),(CF4 hn1 aw1),(CF4 hn1 aw2),(CF4 hn1 aw3)⟩)) (first | (go_at_call 75;refine (hs _ ?q0).mono ?_;(case q0=>exact kw.drew);rintro e wl ⟨s2,p2,l2,c2,q2,k2,d2,rfl,hp,gl⟩;have kl:Kp W wl:=Kp.trans (Kp.drew (Kp.refl _)) gl;have aw0:=kkeep kl xw0;have aw1:=kkeep kl xw1;have aw2:=kkeep kl xw2;have aw3:=kkeep kl xw3;obtain ⟨R0,Rz0,R1,Rz1,R2,Rz2,R3,Rz3⟩:=AK4 kl ⟨r0,rz0,r1,rz1,r2,rz2,r3,rz3⟩))
 go_wp2
 have hle:w.heap.size≤W.heap.size:=by omega
 exact BR (v:=.agg #[.int .i64 1,.bool s2,.slice p2 l2 c2,.slice q2 k2 d2]) (by simp [results,Tryz.results106,go_sem,R0,R1,R2,R3] <;> decide +kernel) rfl ⟨s2,p2,l2,c2,q2,k2,d2,rfl,RP.mono ((((((hp.mono (base':=W.heap.size) (Nat.le_refl _))).set (x:=⟨w.heap.size+1,0,none⟩) hBW (.int .i64 1)).set (x:=⟨w.heap.size+1,1,none⟩) hBW (.bool s2)).set (x:=⟨w.heap.size+1,2,none⟩) hBW (.slice p2 l2 c2)).set (x:=⟨w.heap.size+1,3,none⟩) hBW (.slice q2 k2 d2)) hle,KS4 ((Kp.trans kw kl)) (by first | omega | (simp <;> omega))⟩
theorem turned_ (n:Bool) (m:Nat) s p l c q k d (B1:Nat) (w:World) (h:RP B1 w s p l c q k d (fN n m) (fM m)):Calls Tryz.prog 106 #[.agg #[.int .i64 (infS n m),.bool s,.slice p l c,.slice q k d]] w fun e w'=>∃ s2 p2 l2 c2 q2 k2 d2,e=.returned (.agg #[.int .i64 (infS (!n) m),.bool s2,.slice p2 l2 c2,.slice q2 k2 d2])∧RP w.heap.size w' s2 p2 l2 c2 q2 k2 d2 (fN (!n) m) (fM m)∧Kp w w':=by
 have hr:=fun W (g:Kp w W)=>rneg6_ (fN n m) (fM m) s p l c q k d B1 W (h.kp g)
 unfold infS fN fM at *
 by_cases c0:m=9218868437227405312
 ·simp only [if_pos c0] at hr ⊢
  have hz:∀ W:World,Kp w W→Calls Tryz.prog 75 #[.agg #[.bool s,.slice p l c,.slice q k d]] W fun e w'=>∃ s2 p2 l2 c2 q2 k2 d2,e=.returned (.agg #[.bool s2,.slice p2 l2 c2,.slice q2 k2 d2])∧RP W.heap.size w' s2 p2 l2 c2 q2 k2 d2 false 0∧Kp W w':=fun W g=>(hr W g).mono (fun e w' ⟨s2,p2,l2,c2,q2,k2,d2,e1,hp,g2⟩=>⟨s2,p2,l2,c2,q2,k2,d2,e1,hp.zero false,g2⟩)
  cases n
  ·exact turnP_ false 0 s p l c q k d w hz
  ·exact turnM_ false 0 s p l c q k d w hz
 ·simp only [if_neg c0] at hr ⊢
  exact turnZ_ (!n) m s p l c q k d w hr
theorem minusN_ (i j i2 j2:Int) (N1 N2:Bool) (M1 M2:Nat) s p l c q k d s2 p2 l2 c2 q2 k2 d2 (w:World) (hs1:∀ W:World,Kp w W→Calls Tryz.prog 106 #[.agg #[.int .i64 i,.bool s,.slice p l c,.slice q k d]] W fun e w'=>∃ s5 p5 l5 c5 q5 k5 d5,e=.returned (.agg #[.int .i64 i2,.bool s5,.slice p5 l5 c5,.slice q5 k5 d5])∧RP W.heap.size w' s5 p5 l5 c5 q5 k5 d5 N1 M1∧Kp W w') (hs2:∀ W:World,Kp w W→Calls Tryz.prog 106 #[.agg #[.int .i64 j,.bool s2,.slice p2 l2 c2,.slice q2 k2 d2]] W fun e w'=>∃ s5 p5 l5 c5 q5 k5 d5,e=.returned (.agg #[.int .i64 j2,.bool s5,.slice p5 l5 c5,.slice q5 k5 d5])∧RP W.heap.size w' s5 p5 l5 c5 q5 k5 d5 N2 M2∧Kp W w'):Calls Tryz.prog 48 #[.agg #[.bool false,.int .i64 i,.bool s,.slice p l c,.slice q k d,.int .i64 j,.bool s2,.slice p2 l2 c2,.slice q2 k2 d2]] w fun e w'=>∃ (s5:Bool) (p5:Option Addr) (l5 c5:Nat) (q5:Option Addr) (k5 d5:Nat) (s6:Bool) (p6:Option Addr) (l6 c6:Nat) (q6:Option Addr) (k6 d6:Nat),e=.returned (.agg #[.bool false,.int .i64 j2,.bool s5,.slice p5 l5 c5,.slice q5 k5 d5,.int .i64 i2,.bool s6,.slice p6 l6 c6,.slice q6 k6 d6])∧RP w.heap.size w' s5 p5 l5 c5 q5 k5 d5 N2 M2∧RP w.heap.size w' s6 p6 l6 c6 q6 k6 d6 N1 M1∧Kp w w':=by
 go_enter Tryz.func48,Tryz.ntmps48
 go_wp2
 generalize hW:((w.alloc (.cells #[.bool false,.int .i64 i,.bool s,.slice p l c,.slice q k d,.int .i64 j,.bool s2,.slice p2 l2 c2,.slice q2 k2 d2] 66)).alloc (.cells #[.bool false,.int .i64 0,.bool false,.slice none 0 0,.slice none 0 0,.int .i64 0,.bool false,.slice none 0 0,.slice none 0 0] 66))=W
 have kw:Kp w W:=by rw [← hW];exact ((Kp.refl w).alloc _).alloc _
 have xw0:W.cell? ⟨w.heap.size,1,none⟩=some (.int .i64 i):=by rw [← hW];simp [go_sem]
 have dw0:W.drew.cell? ⟨w.heap.size,1,none⟩=some (.int .i64 i):=xw0
 have xw1:W.cell? ⟨w.heap.size,2,none⟩=some (.bool s):=by rw [← hW];simp [go_sem]
 have dw1:W.drew.cell? ⟨w.heap.size,2,none⟩=some (.bool s):=xw1
 have xw2:W.cell? ⟨w.heap.size,3,none⟩=some (.slice p l c):=by rw [← hW];simp [go_sem]
 have dw2:W.drew.cell? ⟨w.heap.size,3,none⟩=some (.slice p l c):=xw2
 have xw3:W.cell? ⟨w.heap.size,4,none⟩=some (.slice q k d):=by rw [← hW];simp [go_sem]
 have dw3:W.drew.cell? ⟨w.heap.size,4,none⟩=some (.slice q k d):=xw3
 have xw4:W.cell? ⟨w.heap.size,5,none⟩=some (.int .i64 j):=by rw [← hW];simp [go_sem]
 have dw4:W.drew.cell? ⟨w.heap.size,5,none⟩=some (.int .i64 j):=xw4
 have xw5:W.cell? ⟨w.heap.size,6,none⟩=some (.bool s2):=by rw [← hW];simp [go_sem]
 have dw5:W.drew.cell? ⟨w.heap.size,6,none⟩=some (.bool s2):=xw5
 have xw6:W.cell? ⟨w.heap.size,7,none⟩=some (.slice p2 l2 c2):=by rw [← hW];simp [go_sem]
 have dw6:W.drew.cell? ⟨w.heap.size,7,none⟩=some (.slice p2 l2 c2):=xw6
 have xw7:W.cell? ⟨w.heap.size,8,none⟩=some (.slice q2 k2 d2):=by rw [← hW];simp [go_sem]
 have dw7:W.drew.cell? ⟨w.heap.size,8,none⟩=some (.slice q2 k2 d2):=xw7
 obtain ⟨r0,rz0,r1,rz1,r2,rz2,r3,rz3,r4,rz4,r5,rz5,r6,rz6,r7,rz7,r8,rz8⟩:W.cell? ⟨w.heap.size+1,0,none⟩=some (.bool false)∧W.frozen? ⟨w.heap.size+1,0,none⟩=false∧W.cell? ⟨w.heap.size+1,1,none⟩=some (.int .i64 0)∧W.frozen? ⟨w.heap.size+1,1,none⟩=false∧W.cell? ⟨w.heap.size+1,2,none⟩=some (.bool false)∧W.frozen? ⟨w.heap.size+1,2,none⟩=false∧W.cell? ⟨w.heap.size+1,3,none⟩=some (.slice none 0 0)∧W.frozen? ⟨w.heap.size+1,3,none⟩=false∧W.cell? ⟨w.heap.size+1,4,none⟩=some (.slice none 0 0)∧W.frozen? ⟨w.heap.size+1,4,none⟩=false∧W.cell? ⟨w.heap.size+1,5,none⟩=some (.int .i64 0)∧W.frozen? ⟨w.heap.size+1,5,none⟩=false∧W.cell? ⟨w.heap.size+1,6,none⟩=some (.bool false)∧W.frozen? ⟨w.heap.size+1,6,none⟩=false∧W.cell? ⟨w.heap.size+1,7,none⟩=some (.slice none 0 0)∧W.frozen? ⟨w.heap.size+1,7,none⟩=false∧W.cell? ⟨w.heap.size+1,8,none⟩=some (.slice none 0 0)∧W.frozen? ⟨w.heap.size+1,8,none⟩=false:=by rw [← hW];simp [go_sem]
 have hBW:w.heap.size+1<W.heap.size:=cell_lt r0
 have hn1:w.heap.size+1≠w.heap.size:=by omega
 clear hW
 go_region_held3 (fun w'=>w'.cell? ⟨w.heap.size,1,none⟩=some (.int .i64 i)∧w'.cell? ⟨w.heap.size,2,none⟩=some (.bool s)∧w'.cell? ⟨w.heap.size,3,none⟩=some (.slice p l c)∧w'.cell? ⟨w.heap.size,4,none⟩=some (.slice q k d)∧w'.cell? ⟨w.heap.size,5,none⟩=some (.int .i64 j)∧w'.cell? ⟨w.heap.size,6,none⟩=some (.bool s2)∧w'.cell? ⟨w.heap.size,7,none⟩=some (.slice p2 l2 c2)∧w'.cell? ⟨w.heap.size,8,none⟩=some (.slice q2 k2 d2)) (first | (with_reducible exact ⟨xw0,xw1,xw2,xw3,xw4,xw5,xw6,xw7⟩) | (with_reducible exact ⟨dw0,dw1,dw2,dw3,dw4,dw5,dw6,dw7⟩) | (with_reducible exact ⟨aw0,aw1,aw2,aw3,aw4,aw5,aw6,aw7⟩) | (with_reducible exact ⟨bw0,bw1,bw2,bw3,bw4,bw5,bw6,bw7⟩) | (exact ⟨(CF9 hn1 bw0),(CF9 hn1 bw1),(CF9 hn1 bw2),(CF9 hn1 bw3),(CF9 hn1 bw4),(CF9 hn1 bw5),(CF9 hn1 bw6),(CF9 hn1 bw7)⟩)) (first | (go_at_call_of 106 (Value.slice p2 l2 c2);refine (hs2 _ ?q0).mono ?_;(case q0=>exact kw.drew);rintro e wl ⟨s5,p5,l5,c5,q5,k5,d5,rfl,hp,gl⟩;have kl:Kp W wl:=Kp.trans (Kp.drew (Kp.refl _)) gl;have aw0:=kkeep kl xw0;have aw1:=kkeep kl xw1;have aw2:=kkeep kl xw2;have aw3:=kkeep kl xw3;have aw4:=kkeep kl xw4;have aw5:=kkeep kl xw5;have aw6:=kkeep kl xw6;have aw7:=kkeep kl xw7) | (go_at_call_of 106 (Value.slice p l c);refine (hs1 _ ?q0).mono ?_;(case q0=>exact kw.trans kl);rintro e wh ⟨s6,p6,l6,c6,q6,k6,d6,rfl,hp2,gh⟩;have kh:Kp W wh:=Kp.trans kl gh;have bw0:=kkeep kh xw0;have bw1:=kkeep kh xw1;have bw2:=kkeep kh xw2;have bw3:=kkeep kh xw3;have bw4:=kkeep kh xw4;have bw5:=kkeep kh xw5;have bw6:=kkeep kh xw6;have bw7:=kkeep kh xw7;obtain ⟨R0,Rz0,R1,Rz1,R2,Rz2,R3,Rz3,R4,Rz4,R5,Rz5,R6,Rz6,R7,Rz7,R8,Rz8⟩:=AK9 kh ⟨r0,rz0,r1,rz1,r2,rz2,r3,rz3,r4,rz4,r5,rz5,r6,rz6,r7,rz7,r8,rz8⟩))
 go_wp2
 have hle:w.heap.size≤W.heap.size:=by omega
 exact BR (v:=.agg #[.bool false,.int .i64 j2,.bool s5,.slice p5 l5 c5,.slice q5 k5 d5,.int .i64 i2,.bool s6,.slice p6 l6 c6,.slice q6 k6 d6]) (by simp [results,Tryz.results48,go_sem,R0,R1,R2,R3,R4,R5,R6,R7,R8]) rfl ⟨s5,p5,l5,c5,q5,k5,d5,s6,p6,l6,c6,q6,k6,d6,rfl,RP.mono ((((((((((((hp.mono (base':=W.heap.size) (Nat.le_refl _)).kp gh)).set (x:=⟨w.heap.size+1,0,none⟩) hBW (.bool false)).set (x:=⟨w.heap.size+1,1,none⟩) hBW (.int .i64 j2)).set (x:=⟨w.heap.size+1,2,none⟩) hBW (.bool s5)).set (x:=⟨w.heap.size+1,3,none⟩) hBW (.slice p5 l5 c5)).set (x:=⟨w.heap.size+1,4,none⟩) hBW (.slice q5 k5 d5)).set (x:=⟨w.heap.size+1,5,none⟩) hBW (.int .i64 i2)).set (x:=⟨w.heap.size+1,6,none⟩) hBW (.bool s6)).set (x:=⟨w.heap.size+1,7,none⟩) hBW (.slice p6 l6 c6)).set (x:=⟨w.heap.size+1,8,none⟩) hBW (.slice q6 k6 d6)) hle,RP.mono (((((((((((hp2.mono (base':=W.heap.size) (Below.size kl))).set (x:=⟨w.heap.size+1,0,none⟩) hBW (.bool false)).set (x:=⟨w.heap.size+1,1,none⟩) hBW (.int .i64 j2)).set (x:=⟨w.heap.size+1,2,none⟩) hBW (.bool s5)).set (x:=⟨w.heap.size+1,3,none⟩) hBW (.slice p5 l5 c5)).set (x:=⟨w.heap.size+1,4,none⟩) hBW (.slice q5 k5 d5)).set (x:=⟨w.heap.size+1,5,none⟩) hBW (.int .i64 i2)).set (x:=⟨w.heap.size+1,6,none⟩) hBW (.bool s6)).set (x:=⟨w.heap.size+1,7,none⟩) hBW (.slice p6 l6 c6)).set (x:=⟨w.heap.size+1,8,none⟩) hBW (.slice q6 k6 d6)) hle,KS9 ((Kp.trans kw kh)) (by first | omega | (simp <;> omega))⟩
theorem minusE_ (i j:Int) s p l c q k d s2 p2 l2 c2 q2 k2 d2 (w:World):Calls Tryz.prog 48 #[.agg #[.bool true,.int .i64 i,.bool s,.slice p l c,.slice q k d,.int .i64 j,.bool s2,.slice p2 l2 c2,.slice q2 k2 d2]] w fun e w'=>e=.returned (.agg #[.bool true,.int .i64 i,.bool s,.slice p l c,.slice q k d,.int .i64 j,.bool s2,.slice p2 l2 c2,.slice q2 k2 d2])∧Kp w w':=by
 go_enter Tryz.func48,Tryz.ntmps48
 go_wp2
 exact BR (v:=.agg #[.bool true,.int .i64 i,.bool s,.slice p l c,.slice q k d,.int .i64 j,.bool s2,.slice p2 l2 c2,.slice q2 k2 d2]) (by simp [results,Tryz.results48,go_sem]) rfl ⟨rfl,(by repeat (with_reducible (first | assumption | exact Kp.refl _ | apply Kp.drew | apply Kp.alloc | apply Kp.drewN | (refine Kp.setCell ?_ (by first | omega | (simp <;> omega)) _) | (refine Kp.trans ?_ (by assumption)))))⟩
end Go.Proofs.YtmpjcknaelgnoaaGreatDoor
