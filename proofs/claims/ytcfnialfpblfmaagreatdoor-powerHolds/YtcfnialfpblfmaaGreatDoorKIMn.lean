import Derived.Test.YtcfnialfpblfmaaGreatDoorKWSb
set_option maxHeartbeats 1000000
set_option maxRecDepth 20000
namespace Go.Proofs.YtcfnialfpblfmaaGreatDoor
open Go.RowKit
set_option linter.unusedVariables false
set_option linter.unusedSimpArgs false
theorem rnegXT_ (p:Option Addr) (l c:Nat) (q:Option Addr) (k d:Nat) (a b:Nat) (w:World) (h1:Own w 0 (.slice p l c) (dig a)) (h2:Own w 0 (.slice q k d) (dig b)) (la:blen a≤3100000) (lb:blen b≤3100000):Calls Tryz.prog 34 #[.agg #[.bool true,.slice p l c,.slice q k d]] w fun e w'=>∃ (p2:Option Addr) (l2 c2:Nat) (q2:Option Addr) (k2 d2:Nat),e=.returned (.agg #[.bool false,.slice p2 l2 c2,.slice q2 k2 d2])∧Own w' w.heap.size (.slice p2 l2 c2) (dig a)∧Own w' w.heap.size (.slice q2 k2 d2) (dig b)∧Kp w w':=by
 have nrm:∀ (pp:Option Addr) (ll cc:Nat) (x:Nat),Own w 0 (.slice pp ll cc) (dig x)→blen x≤3100000→∀ W:World,Kp w W→Calls Tryz.prog 69 #[.slice pp ll cc] W fun e w'=>∃ (p2:Option Addr) (l2 c2:Nat),e=.returned (.slice p2 l2 c2)∧Own w' W.heap.size (.slice p2 l2 c2) (dig x)∧Kp W w':=by
  intro pp ll cc x h hx W g
  have hl:(dig x).length≤1048576:=Nat.le_trans (show len32 x≤131072 from dlen x 131072 (by omega)) (by decide)
  have h:=normO (.slice pp ll cc) (dig x) W (h.kp g).ls (Wd_dig _) hl
  rw [val_dig] at h
  refine h.mono ?_
  rintro e w' ⟨v',rfl,o1,g2⟩
  obtain ⟨p2,c2,rfl,-,-⟩:=o1.arr
  exact ⟨p2,_,c2,rfl,o1,g2⟩
 have hs1:=nrm p l c a h1 la
 have hs2:=nrm q k d b h2 lb
 clear nrm h1 h2 la lb
 go_enter Tryz.func34,Tryz.ntmps34
 go_wp2
 generalize hW:((w.alloc (.cells #[.bool true,.slice p l c,.slice q k d] 43)).alloc (.cells #[.bool false,.slice none 0 0,.slice none 0 0] 43))=W
 have kw:Kp w W:=by rw [← hW];exact ((Kp.refl w).alloc _).alloc _
 have xw0:W.cell? ⟨w.heap.size,0,none⟩=some (.bool true):=by rw [← hW];simp [go_sem]
 have dw0:W.drew.cell? ⟨w.heap.size,0,none⟩=some (.bool true):=xw0
 have xw1:W.cell? ⟨w.heap.size,1,none⟩=some (.slice p l c):=by rw [← hW];simp [go_sem]
 have dw1:W.drew.cell? ⟨w.heap.size,1,none⟩=some (.slice p l c):=xw1
 have xw2:W.cell? ⟨w.heap.size,2,none⟩=some (.slice q k d):=by rw [← hW];simp [go_sem]
 have dw2:W.drew.cell? ⟨w.heap.size,2,none⟩=some (.slice q k d):=xw2
 obtain ⟨r0,rz0,r1,rz1,r2,rz2⟩:W.cell? ⟨w.heap.size+1,0,none⟩=some (.bool false)∧W.frozen? ⟨w.heap.size+1,0,none⟩=false∧W.cell? ⟨w.heap.size+1,1,none⟩=some (.slice none 0 0)∧W.frozen? ⟨w.heap.size+1,1,none⟩=false∧W.cell? ⟨w.heap.size+1,2,none⟩=some (.slice none 0 0)∧W.frozen? ⟨w.heap.size+1,2,none⟩=false:=by rw [← hW];simp [go_sem]
 have hBW:w.heap.size+1<W.heap.size:=cell_lt r0
 have hn1:w.heap.size+1≠w.heap.size:=by omega
 clear hW
 refine wp_region_held_drew (S:=(fun w'=>w'.cell? ⟨w.heap.size,0,none⟩=some (.bool true)∧w'.cell? ⟨w.heap.size,1,none⟩=some (.slice p l c)∧w'.cell? ⟨w.heap.size,2,none⟩=some (.slice q k d))) (by kernel_rfl) ?_ (fun hHeld=>?_)
 ·exact ⟨dw0,dw1,dw2⟩
 refine wpAnyH_take (i:=0) (v:=.pointer (some ⟨w.heap.size,0,none⟩)) rfl (by kernel_rfl) (by kernel_rfl) (by kernel_rfl) (fun _ _ _ h=>h) (Or.inl ⟨by rfl, ?_⟩) (by assumption) ?_
 ·intro w hSw
  (try dsimp only at hSw)
  go_simp
 try simp only [Act.put,List.getElem_toArray,List.getElem_cons_zero,List.getElem_cons_succ,List.setIfInBounds_toArray,List.set_cons_zero,List.set_cons_succ]
 refine wpAnyH_take (i:=1) (v:=.bool true) rfl (by kernel_rfl) (by kernel_rfl) (by kernel_rfl) (fun _ _ _ h=>h) (Or.inl ⟨by rfl, ?_⟩) (by assumption) ?_
 ·intro w hSw
  (try dsimp only at hSw)
  go_simp
 try simp only [Act.put,List.getElem_toArray,List.getElem_cons_zero,List.getElem_cons_succ,List.setIfInBounds_toArray,List.set_cons_zero,List.set_cons_succ]
 refine wpAnyH_take (i:=2) (v:=.bool false) rfl (by kernel_rfl) (by kernel_rfl) (by kernel_rfl) (fun _ _ _ h=>h) (Or.inl ⟨by rfl, ?_⟩) (by assumption) ?_
 ·intro w hSw
  (try dsimp only at hSw)
  go_simp
 try simp only [Act.put,List.getElem_toArray,List.getElem_cons_zero,List.getElem_cons_succ,List.setIfInBounds_toArray,List.set_cons_zero,List.set_cons_succ]
 refine wpAnyH_take (i:=3) (v:=.bool false) rfl (by kernel_rfl) (by kernel_rfl) (by kernel_rfl) (fun _ _ _ h=>h) (Or.inl ⟨by rfl, ?_⟩) (by assumption) ?_
 ·intro w hSw
  (try dsimp only at hSw)
  go_simp
 try simp only [Act.put,List.getElem_toArray,List.getElem_cons_zero,List.getElem_cons_succ,List.setIfInBounds_toArray,List.set_cons_zero,List.set_cons_succ]
 refine wpAnyH_take (i:=4) (v:=undef) rfl (by kernel_rfl) (by kernel_rfl) (by kernel_rfl) (fun _ _ _ h=>h) (Or.inr ⟨by rfl,rfl⟩) (by assumption) ?_
 try simp only [Act.put,List.getElem_toArray,List.getElem_cons_zero,List.getElem_cons_succ,List.setIfInBounds_toArray,List.set_cons_zero,List.set_cons_succ]
 refine wpAnyH_take (i:=5) (v:=undef) rfl (by kernel_rfl) (by kernel_rfl) (by kernel_rfl) (fun _ _ _ h=>h) (Or.inr ⟨by rfl,rfl⟩) (by assumption) ?_
 try simp only [Act.put,List.getElem_toArray,List.getElem_cons_zero,List.getElem_cons_succ,List.setIfInBounds_toArray,List.set_cons_zero,List.set_cons_succ]
 refine wpAnyH_take (i:=6) (v:=undef) rfl (by kernel_rfl) (by kernel_rfl) (by kernel_rfl) (fun _ _ _ h=>h) (Or.inr ⟨by rfl,rfl⟩) (by assumption) ?_
 try simp only [Act.put,List.getElem_toArray,List.getElem_cons_zero,List.getElem_cons_succ,List.setIfInBounds_toArray,List.set_cons_zero,List.set_cons_succ]
 refine wpAnyH_take (i:=7) (v:=undef) rfl (by kernel_rfl) (by kernel_rfl) (by kernel_rfl) (fun _ _ _ h=>h) (Or.inr ⟨by rfl,rfl⟩) (by assumption) ?_
 try simp only [Act.put,List.getElem_toArray,List.getElem_cons_zero,List.getElem_cons_succ,List.setIfInBounds_toArray,List.set_cons_zero,List.set_cons_succ]
 refine wpAnyH_take (i:=8) (v:=.bool false) rfl (by kernel_rfl) (by kernel_rfl) (by kernel_rfl) (fun _ _ _ h=>h) (Or.inl ⟨by rfl, ?_⟩) (by assumption) ?_
 ·intro w hSw
  (try dsimp only at hSw)
  go_simp
 try simp only [Act.put,List.getElem_toArray,List.getElem_cons_zero,List.getElem_cons_succ,List.setIfInBounds_toArray,List.set_cons_zero,List.set_cons_succ]
 refine wpAnyH_take (i:=9) (v:=.pointer (some ⟨w.heap.size,1,none⟩)) rfl (by kernel_rfl) (by kernel_rfl) (by kernel_rfl) (fun _ _ _ h=>h) (Or.inl ⟨by rfl, ?_⟩) (by assumption) ?_
 ·intro w hSw
  (try dsimp only at hSw)
  go_simp
 try simp only [Act.put,List.getElem_toArray,List.getElem_cons_zero,List.getElem_cons_succ,List.setIfInBounds_toArray,List.set_cons_zero,List.set_cons_succ]
 refine wpAnyH_take (i:=10) (v:=.slice p l c) rfl (by kernel_rfl) (by kernel_rfl) (by kernel_rfl) (fun _ _ _ h=>h) (Or.inl ⟨by rfl, ?_⟩) (by assumption) ?_
 ·intro w hSw
  (try dsimp only at hSw)
  go_simp
 try simp only [Act.put,List.getElem_toArray,List.getElem_cons_zero,List.getElem_cons_succ,List.setIfInBounds_toArray,List.set_cons_zero,List.set_cons_succ]
 refine wpAnyH_take (i:=12) (v:=.pointer (some ⟨w.heap.size,2,none⟩)) rfl (by kernel_rfl) (by kernel_rfl) (by kernel_rfl) (fun _ _ _ h=>h) (Or.inl ⟨by rfl, ?_⟩) (by assumption) ?_
 ·intro w hSw
  (try dsimp only at hSw)
  go_simp
 try simp only [Act.put,List.getElem_toArray,List.getElem_cons_zero,List.getElem_cons_succ,List.setIfInBounds_toArray,List.set_cons_zero,List.set_cons_succ]
 refine wpAnyH_take (i:=13) (v:=.slice q k d) rfl (by kernel_rfl) (by kernel_rfl) (by kernel_rfl) (fun _ _ _ h=>h) (Or.inl ⟨by rfl, ?_⟩) (by assumption) ?_
 ·intro w hSw
  (try dsimp only at hSw)
  go_simp
 try simp only [Act.put,List.getElem_toArray,List.getElem_cons_zero,List.getElem_cons_succ,List.setIfInBounds_toArray,List.set_cons_zero,List.set_cons_succ]
 refine wpAnyH_ready (rs:=[11]) (by kernel_rfl) (by simp) ?_
 refine AllReadyH.cons rfl (fun K hK=>?_) AllReadyH.nil
 go_simp
 go_at_call_of 69 (Value.slice p l c);refine (hs1 _ ?q0).mono ?_;(case q0=>exact kw.drew);rintro e wl ⟨p2,l2,c2,rfl,ho1,gl⟩;have kl:Kp W wl:=Kp.trans (Kp.drew (Kp.refl _)) gl;have aw0:=kkeep kl xw0;have aw1:=kkeep kl xw1;have aw2:=kkeep kl xw2
 go_wp2_with fail
 refine hK.out _ _ ?_ (fun hHeld=>?_)
 ·exact ⟨aw0,aw1,aw2⟩
 clear hK K
 try simp only [Act.put,List.getElem_toArray,List.getElem_cons_zero,List.getElem_cons_succ,List.setIfInBounds_toArray,List.set_cons_zero,List.set_cons_succ]
 refine wpAnyH_ready (rs:=[14]) (by kernel_rfl) (by simp) ?_
 refine AllReadyH.cons rfl (fun K hK=>?_) AllReadyH.nil
 go_simp
 go_at_call_of 69 (Value.slice q k d);refine (hs2 _ ?q0).mono ?_;(case q0=>exact kw.trans kl);rintro e wh ⟨q2,k2,d2,rfl,ho2,gh⟩;have kh:Kp W wh:=Kp.trans kl gh;have bw0:=kkeep kh xw0;have bw1:=kkeep kh xw1;have bw2:=kkeep kh xw2;obtain ⟨R0,Rz0,R1,Rz1,R2,Rz2⟩:=AK3 kh ⟨r0,rz0,r1,rz1,r2,rz2⟩
 go_wp2_with fail
 refine hK.out _ _ ?_ (fun hHeld=>?_)
 ·exact ⟨bw0,bw1,bw2⟩
 clear hK K
 try simp only [Act.put,List.getElem_toArray,List.getElem_cons_zero,List.getElem_cons_succ,List.setIfInBounds_toArray,List.set_cons_zero,List.set_cons_succ]
 refine wpAnyH_take (i:=15) (v:=.agg #[.bool false,.slice p2 l2 c2,.slice q2 k2 d2]) rfl (by kernel_rfl) (by kernel_rfl) (by kernel_rfl) (fun _ _ _ h=>h) (Or.inl ⟨by rfl, ?_⟩) (by assumption) ?_
 ·intro w hSw
  (try dsimp only at hSw)
  go_simp
 try simp only [Act.put,List.getElem_toArray,List.getElem_cons_zero,List.getElem_cons_succ,List.setIfInBounds_toArray,List.set_cons_zero,List.set_cons_succ]
 refine wpAnyH_ready (rs:=[16]) (by kernel_rfl) (by simp) ?_
 refine AllReadyH.cons rfl (fun K hK=>?_) AllReadyH.nil
 go_simp
 refine hK.out _ _ ?_ (fun hHeld=>?_)
 ·exact ⟨(CF3 hn1 bw0),(CF3 hn1 bw1),(CF3 hn1 bw2)⟩
 clear hK K
 try simp only [Act.put,List.getElem_toArray,List.getElem_cons_zero,List.getElem_cons_succ,List.setIfInBounds_toArray,List.set_cons_zero,List.set_cons_succ]
 refine wpAnyH_done (by kernel_rfl) ?_ _
 all_goals go_wp2
 all_goals (
  have hle:w.heap.size≤W.heap.size:=by omega
  have O1:Own wh W.heap.size (.slice p2 l2 c2) (dig a):=(ho1.mono (base':=W.heap.size) (Nat.le_refl _)).kp gh
  have O2:Own wh W.heap.size (.slice q2 k2 d2) (dig b):=ho2.mono (base':=W.heap.size) (Below.size kl)
  exact BR (v:=.agg #[.bool false,.slice p2 l2 c2,.slice q2 k2 d2]) (by simp [results,Tryz.results34,go_sem,R0,R1,R2]) rfl ⟨p2,l2,c2,q2,k2,d2,rfl,(((O1.setOther (a:=⟨w.heap.size+1,0,none⟩) hBW _).setOther (a:=⟨w.heap.size+1,1,none⟩) hBW _).setOther (a:=⟨w.heap.size+1,2,none⟩) hBW _).mono hle,(((O2.setOther (a:=⟨w.heap.size+1,0,none⟩) hBW _).setOther (a:=⟨w.heap.size+1,1,none⟩) hBW _).setOther (a:=⟨w.heap.size+1,2,none⟩) hBW _).mono hle,KS3 ((Kp.trans kw kh)) (by first | omega | (simp <;> omega))⟩)
theorem rnegXB_ (p:Option Addr) (l c:Nat) (q:Option Addr) (k d:Nat) (a b:Nat) (w:World) (h1:Own w 0 (.slice p l c) (dig a)) (h2:Own w 0 (.slice q k d) (dig b)) (la:blen a≤3100000) (lb:blen b≤3100000) (bb:Bool) (hbb:(0<l∧bb=true)∨(¬ (0<l)∧bb=false)):Calls Tryz.prog 34 #[.agg #[.bool false,.slice p l c,.slice q k d]] w fun e w'=>∃ (p2:Option Addr) (l2 c2:Nat) (q2:Option Addr) (k2 d2:Nat),e=.returned (.agg #[.bool bb,.slice p2 l2 c2,.slice q2 k2 d2])∧Own w' w.heap.size (.slice p2 l2 c2) (dig a)∧Own w' w.heap.size (.slice q2 k2 d2) (dig b)∧Kp w w':=by
 rcases hbb with ⟨t1,hb9⟩ | ⟨t1,hb9⟩
 all_goals
  have nrm:∀ (pp:Option Addr) (ll cc:Nat) (x:Nat),Own w 0 (.slice pp ll cc) (dig x)→blen x≤3100000→∀ W:World,Kp w W→Calls Tryz.prog 69 #[.slice pp ll cc] W fun e w'=>∃ (p2:Option Addr) (l2 c2:Nat),e=.returned (.slice p2 l2 c2)∧Own w' W.heap.size (.slice p2 l2 c2) (dig x)∧Kp W w':=by
   intro pp ll cc x h hx W g
   have hl:(dig x).length≤1048576:=Nat.le_trans (show len32 x≤131072 from dlen x 131072 (by omega)) (by decide)
   have h:=normO (.slice pp ll cc) (dig x) W (h.kp g).ls (Wd_dig _) hl
   rw [val_dig] at h
   refine h.mono ?_
   rintro e w' ⟨v',rfl,o1,g2⟩
   obtain ⟨p2,c2,rfl,-,-⟩:=o1.arr
   exact ⟨p2,_,c2,rfl,o1,g2⟩
  have hs1:=nrm p l c a h1 la
  have hs2:=nrm q k d b h2 lb
  clear nrm h1 h2 la lb
  go_enter Tryz.func34,Tryz.ntmps34
  go_wp2
  generalize hW:((w.alloc (.cells #[.bool false,.slice p l c,.slice q k d] 43)).alloc (.cells #[.bool false,.slice none 0 0,.slice none 0 0] 43))=W
  have kw:Kp w W:=by rw [← hW];exact ((Kp.refl w).alloc _).alloc _
  have xw0:W.cell? ⟨w.heap.size,0,none⟩=some (.bool false):=by rw [← hW];simp [go_sem]
  have dw0:W.drew.cell? ⟨w.heap.size,0,none⟩=some (.bool false):=xw0
  have xw1:W.cell? ⟨w.heap.size,1,none⟩=some (.slice p l c):=by rw [← hW];simp [go_sem]
  have dw1:W.drew.cell? ⟨w.heap.size,1,none⟩=some (.slice p l c):=xw1
  have xw2:W.cell? ⟨w.heap.size,2,none⟩=some (.slice q k d):=by rw [← hW];simp [go_sem]
  have dw2:W.drew.cell? ⟨w.heap.size,2,none⟩=some (.slice q k d):=xw2
  obtain ⟨r0,rz0,r1,rz1,r2,rz2⟩:W.cell? ⟨w.heap.size+1,0,none⟩=some (.bool false)∧W.frozen? ⟨w.heap.size+1,0,none⟩=false∧W.cell? ⟨w.heap.size+1,1,none⟩=some (.slice none 0 0)∧W.frozen? ⟨w.heap.size+1,1,none⟩=false∧W.cell? ⟨w.heap.size+1,2,none⟩=some (.slice none 0 0)∧W.frozen? ⟨w.heap.size+1,2,none⟩=false:=by rw [← hW];simp [go_sem]
  have hBW:w.heap.size+1<W.heap.size:=cell_lt r0
  have hn1:w.heap.size+1≠w.heap.size:=by omega
  clear hW
  go_region_held3 (fun w'=>w'.cell? ⟨w.heap.size,0,none⟩=some (.bool false)∧w'.cell? ⟨w.heap.size,1,none⟩=some (.slice p l c)∧w'.cell? ⟨w.heap.size,2,none⟩=some (.slice q k d)) (first | (with_reducible exact ⟨xw0,xw1,xw2⟩) | (with_reducible exact ⟨dw0,dw1,dw2⟩) | (with_reducible exact ⟨aw0,aw1,aw2⟩) | (with_reducible exact ⟨bw0,bw1,bw2⟩) | (exact ⟨(CF3 hn1 bw0),(CF3 hn1 bw1),(CF3 hn1 bw2)⟩)) (first | (go_at_call_of 69 (Value.slice p l c);refine (hs1 _ ?q0).mono ?_;(case q0=>exact kw.drew);rintro e wl ⟨p2,l2,c2,rfl,ho1,gl⟩;have kl:Kp W wl:=Kp.trans (Kp.drew (Kp.refl _)) gl;have aw0:=kkeep kl xw0;have aw1:=kkeep kl xw1;have aw2:=kkeep kl xw2) | (go_at_call_of 69 (Value.slice q k d);refine (hs2 _ ?q0).mono ?_;(case q0=>exact kw.trans kl);rintro e wh ⟨q2,k2,d2,rfl,ho2,gh⟩;have kh:Kp W wh:=Kp.trans kl gh;have bw0:=kkeep kh xw0;have bw1:=kkeep kh xw1;have bw2:=kkeep kh xw2;obtain ⟨R0,Rz0,R1,Rz1,R2,Rz2⟩:=AK3 kh ⟨r0,rz0,r1,rz1,r2,rz2⟩))
  all_goals go_wp2
  all_goals (
   have hle:w.heap.size≤W.heap.size:=by omega
   have O1:Own wh W.heap.size (.slice p2 l2 c2) (dig a):=(ho1.mono (base':=W.heap.size) (Nat.le_refl _)).kp gh
   have O2:Own wh W.heap.size (.slice q2 k2 d2) (dig b):=ho2.mono (base':=W.heap.size) (Below.size kl)
   exact BR (v:=.agg #[.bool bb,.slice p2 l2 c2,.slice q2 k2 d2]) (by simp [results,Tryz.results34,go_sem,hb9,R0,R1,R2]) rfl ⟨p2,l2,c2,q2,k2,d2,rfl,(((O1.setOther (a:=⟨w.heap.size+1,0,none⟩) hBW _).setOther (a:=⟨w.heap.size+1,1,none⟩) hBW _).setOther (a:=⟨w.heap.size+1,2,none⟩) hBW _).mono hle,(((O2.setOther (a:=⟨w.heap.size+1,0,none⟩) hBW _).setOther (a:=⟨w.heap.size+1,1,none⟩) hBW _).setOther (a:=⟨w.heap.size+1,2,none⟩) hBW _).mono hle,KS3 ((Kp.trans kw kh)) (by first | omega | (simp <;> omega))⟩)

theorem xneg_ (V:Int) (C N:Nat) (hN:N≤3100000) s p l c q k d (B1:Nat) (w:World) (h:XP B1 w s p l c q k d V C N):Calls Tryz.prog 34 #[.agg #[.bool s,.slice p l c,.slice q k d]] w fun e w'=>∃ s2 p2 l2 c2 q2 k2 d2,e=.returned (.agg #[.bool s2,.slice p2 l2 c2,.slice q2 k2 d2])∧XP w.heap.size w' s2 p2 l2 c2 q2 k2 d2 (-V) C N∧Kp w w':=by
 obtain ⟨a,b,u1,u2,u3⟩:=h
 have hl:l=(dig a).length:=by
  obtain ⟨P1,C1,e1,-,-⟩:=u1.arr
  injection e1
 have key:∀ (s2:Bool),(a≠0→s2 = !s)→XF s2 a b (-V) C N:=by
  intro s2 hs
  obtain ⟨f1,f2,f3,f4,f5⟩:=u3
  refine ⟨f1,f2, ?_,f4,f5⟩
  rw [Int.neg_mul,← f3,← Int.neg_mul]
  congr 1
  by_cases z:a=0
  ·rw [z];unfold rvI;cases s <;> cases s2 <;> simp
  ·rw [hs z];unfold rvI;cases s <;> simp
 have hl0:a≠0→0<l:=fun h0=>by
  rw [hl]
  rcases Nat.eq_zero_or_pos (dig a).length with z | z
  ·have:=List.eq_nil_of_length_eq_zero z
   have e:=val_dig a
   rw [this] at e
   exact absurd e.symm h0
  ·exact z
 have u1:=u1.mono (Nat.zero_le B1)
 have u2:=u2.mono (Nat.zero_le B1)
 have n1:blen a≤3100000:=by have:=u3.2.2.2.1;omega
 have n2:blen b≤3100000:=by have:=u3.2.2.2.2;omega
 cases s
 ·by_cases t1:0<l
  ·refine (rnegXB_ p l c q k d a b w u1 u2 n1 n2 true (.inl ⟨t1,rfl⟩)).mono ?_
   rintro e w' ⟨p2,l2,c2,q2,k2,d2,rfl,o1,o2,g⟩
   exact ⟨true,p2,l2,c2,q2,k2,d2,rfl,⟨a,b,o1,o2,key true (fun _=>rfl)⟩,g⟩
  ·refine (rnegXB_ p l c q k d a b w u1 u2 n1 n2 false (.inr ⟨t1,rfl⟩)).mono ?_
   rintro e w' ⟨p2,l2,c2,q2,k2,d2,rfl,o1,o2,g⟩
   exact ⟨false,p2,l2,c2,q2,k2,d2,rfl,⟨a,b,o1,o2,key false (fun h0=>absurd (hl0 h0) t1)⟩,g⟩
 ·refine (rnegXT_ p l c q k d a b w u1 u2 n1 n2).mono ?_
  rintro e w' ⟨p2,l2,c2,q2,k2,d2,rfl,o1,o2,g⟩
  exact ⟨false,p2,l2,c2,q2,k2,d2,rfl,⟨a,b,o1,o2,key false (fun _=>rfl)⟩,g⟩
set_option linter.unusedVariables false

theorem iv_ff:Iv false 0=0:=by unfold Iv;rw [Fq.vV_zero];rfl
theorem RP.x0 {base:Nat} {w:World} {s:Bool} {p:Option Addr} {l c:Nat} {q:Option Addr} {k d:Nat} (h:RP base w s p l c q k d false 0):XP base w s p l c q k d 0 1 1500 :=
 (h.xp 1074 rfl).as 0 1 1500 (by decide) (by rw [iv_ff,Int.zero_mul,Int.zero_mul]) (Nat.le_refl _)
theorem int1X_ (w:World):Calls Tryz.prog 32 #[.int .i64 1] w fun e w'=>∃ s p l c q k d,e=.returned (.agg #[.bool s,.slice p l c,.slice q k d])∧XP w.heap.size w' s p l c q k d 1 1 1500∧Kp w w':=by
 obtain ⟨B,hB⟩:∃ B,B=w.heap.size:=⟨_,rfl⟩
 obtain ⟨w0,hw0⟩:∃ w0,w0=w.alloc (.cells #[.bool false,.slice none 0 0,.slice none 0 0] 43):=⟨_,rfl⟩
 have kw:Kp w w0:=by rw [hw0];exact (Kp.refl w).alloc _
 obtain ⟨r0,r1,r2,f0,f1,f2⟩:w0.cell? ⟨B,0,none⟩=some (.bool false)∧w0.cell? ⟨B,1,none⟩=some (.slice none 0 0)∧w0.cell? ⟨B,2,none⟩=some (.slice none 0 0)∧w0.frozen? ⟨B,0,none⟩=false∧w0.frozen? ⟨B,1,none⟩=false∧w0.frozen? ⟨B,2,none⟩=false:=by rw [hw0,hB];simp [go_sem]
 have hlt:=cell_lt r0
 have hs:=rsmall_ 1 (by decide) w0
 have HW:Hid (w0=w.alloc (.cells #[.bool false,.slice none 0 0,.slice none 0 0] 43)∧B=w.heap.size∧Kp w w0):=⟨hw0,hB,kw⟩
 clear hw0 hB kw
 go_enter Tryz.func32,Tryz.ntmps32
 go_wp2_with fail
 rw [← HW.out.2.1]
 try rw [← HW.out.1]
 refine hs.mono ?_;rintro e w1 ⟨v,rfl,ho,k1⟩
 obtain ⟨pv,cv,rfl,hav,hcv⟩:=ho.arr
 obtain ⟨L,hL⟩:∃ L,L=(dig 1).length:=⟨_,rfl⟩
 rw [← hL]
 obtain ⟨g4,hg4⟩:∃ g4,g4=w1.heap.size:=⟨_,rfl⟩
 obtain ⟨w4,hw4⟩:∃ w4,w4=w1.alloc (.cells #[.int .u32 1] 81):=⟨_,rfl⟩
 have k4:Kp w1 w4:=by rw [hw4];exact (Kp.refl _).alloc _
 have ar4:Arr w4 (some ⟨g4,0,none⟩) (dig 1):=by
  have h:=(row1 w1 1).all rfl
  rw [← hw4,← hg4] at h
  rw [dig_one6]
  exact h
 have h:=frac_ false (.slice pv (dig 1).length cv) (.slice (some ⟨g4,0,none⟩) (dig 1).length 1) (dig 1) (dig 1) 0 w4 ⟨pv,cv,rfl,hav.grown k4,hcv⟩ ⟨some ⟨g4,0,none⟩,1,rfl,ar4,by rw [dig_one6];decide⟩ (Wd_dig _) (Wd_dig _) (by rw [dig_one6];decide) (by rw [dig_one6];decide) (by rw [val_dig];decide) (by decide)
 simp only [val_dig] at h
 rw [show (dig 1).length=1 from by rw [dig_one6];rfl] at h
 have hL1:L=1:=by rw [hL,dig_one6];rfl
 subst hL1
 have k04:=k1.trans k4
 have HG:Hid (g4=w1.heap.size∧w4=w1.alloc (.cells #[.int .u32 1] 81)):=⟨hg4,hw4⟩
 replace r0:=kkeep k04 r0
 replace r1:=kkeep k04 r1
 replace r2:=kkeep k04 r2
 replace f0:=(kfro k04 hlt).trans f0
 replace f1:=(kfro k04 hlt).trans f1
 replace f2:=(kfro k04 hlt).trans f2
 have HK:Hid (Kp w0 w4∧B<w0.heap.size):=⟨k04,hlt⟩
 have hlt4:=cell_lt r0
 clear hs ho hav hcv hL hg4 hw4 k4 ar4 k1 k04 hlt
 go_wp2_with fail
 rw [← HG.out.1,← HG.out.2]
 refine h.mono ?_;rintro e w5 ⟨vn,vd,a',b',ng,rfl,o1,o2,ff,k5⟩
 obtain ⟨pn,cn,rfl,an,ln⟩:=o1.arr
 obtain ⟨pd,cd,rfl,ad,ld⟩:=o2.arr
 replace r0:=kkeep k5 r0
 replace r1:=kkeep k5 r1
 replace r2:=kkeep k5 r2
 replace f0:=(kfro k5 hlt4).trans f0
 replace f1:=(kfro k5 hlt4).trans f1
 replace f2:=(kfro k5 hlt4).trans f2
 have hp:XP w4.heap.size w5 ng pn (dig a').length cn pd (dig b').length cd 1 1 1500:=by
  have e:=frac_x 1 1 a' b' ng false (by decide) ff.1 (fun h=>ff.2 h)
  have b1:=ff.1.2.2.2.1
  have b2:=ff.1.2.2.2.2
  have h2:blen 1=1:=blen_uniq 1 0 (by decide) (by decide)
  refine ⟨a',b',o1,o2,ff.1.1,by decide, ?_,by simp at b1;omega,by simp at b2;omega⟩
  simpa [rvI] using e
 have hq:=(((hp.set (x:=⟨B,0,none⟩) hlt4 (.bool ng)).set (x:=⟨B,1,none⟩) hlt4 (.slice pn (dig a').length cn)).set (x:=⟨B,2,none⟩) hlt4 (.slice pd (dig b').length cd)).mono (base':=w.heap.size) (by have h1:=Below.size HW.out.2.2;have h2:=Below.size HK.out.1;omega)
 have hkw:Kp w (((w5.setCell ⟨B,0,none⟩ (.bool ng)).setCell ⟨B,1,none⟩ (.slice pn (dig a').length cn)).setCell ⟨B,2,none⟩ (.slice pd (dig b').length cd)):=by
  have hB:=HW.out.2.1
  exact ((((HW.out.2.2.trans HK.out.1).trans k5).setCell (by rw [hB];exact Nat.le_refl _) _).setCell (by rw [hB];exact Nat.le_refl _) _).setCell (by rw [hB];exact Nat.le_refl _) _
 generalize (dig a').length=La at hq hkw ⊢
 generalize (dig b').length=Lb at hq hkw ⊢
 have HO:Hid (_∧_):=⟨hq,hkw⟩
 clear h hp hq hkw o1 o2 ff k5 an ln ad ld hlt4 HG
 go_wp2
 exact BR (v:=.agg #[.bool ng,.slice pn La cn,.slice pd Lb cd]) (by simp [results,Tryz.results32,go_sem,r0,r1,r2]) rfl ⟨ng,pn,La,cn,pd,Lb,cd,rfl,HO.out.1,HO.out.2⟩
end Go.Proofs.YtcfnialfpblfmaaGreatDoor
