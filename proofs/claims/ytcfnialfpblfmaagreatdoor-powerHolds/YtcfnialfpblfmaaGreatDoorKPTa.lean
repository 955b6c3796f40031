import Derived.Test.YtcfnialfpblfmaaGreatDoorKIMn
import Derived.Test.YtcfnialfpblfmaaGreatDoorKWUc
set_option maxHeartbeats 2000000
set_option maxRecDepth 20000
namespace Go.Proofs.YtcfnialfpblfmaaGreatDoor
open Go.RowKit

def H3c (w:World) (b:Nat) (v0 v1 v2:Value):Prop:=w.cell? ⟨b,0,none⟩=some v0∧w.cell? ⟨b,1,none⟩=some v1∧w.cell? ⟨b,2,none⟩=some v2∧w.frozen? ⟨b,0,none⟩=false∧w.frozen? ⟨b,1,none⟩=false∧w.frozen? ⟨b,2,none⟩=false
theorem H3c.keep {W w:World} {b:Nat} {v0 v1 v2:Value} (h:H3c W b v0 v1 v2) (g:Kp W w):H3c w b v0 v1 v2:=by
 obtain ⟨h0,h1,h2,h3,h4,h5⟩:=h
 exact ⟨kkeep g h0,kkeep g h1,kkeep g h2,(kfro g (cell_lt h0)).trans h3,(kfro g (cell_lt h0)).trans h4,(kfro g (cell_lt h0)).trans h5⟩
theorem H3c.new (w:World) (v0 v1 v2:Value) (t:TypeId):H3c (w.alloc (.cells #[v0,v1,v2] t)) w.heap.size v0 v1 v2:=by
 unfold H3c;simp [go_sem]
theorem H3c.lt {w:World} {b:Nat} {v0 v1 v2:Value} (h:H3c w b v0 v1 v2):b<w.heap.size:=cell_lt h.1
theorem H3c.put {w:World} {b:Nat} {v0 v1 v2:Value} (h:H3c w b v0 v1 v2) (u0 u1 u2:Value):H3c ((((w.setCell ⟨b,0,none⟩ u0).setCell ⟨b,1,none⟩ u1).setCell ⟨b,2,none⟩ u2)) b u0 u1 u2:=by
 obtain ⟨h0,h1,h2,h3,h4,h5⟩:=h
 unfold H3c;simp [go_sem,h0,h1,h2,h3,h4,h5]
theorem H3c.far1 {w:World} {b:Nat} {v0 v1 v2:Value} (h:H3c w b v0 v1 v2) (x:Addr) (hne:x.block≠b) (u:Value):H3c (w.setCell x u) b v0 v1 v2:=by
 obtain ⟨h0,h1,h2,h3,h4,h5⟩:=h
 exact ⟨(World.cell?_setCell_far _ _ _ _ hne).trans h0,(World.cell?_setCell_far _ _ _ _ hne).trans h1,(World.cell?_setCell_far _ _ _ _ hne).trans h2,(World.frozen?_setCell _ _ _ _).trans h3,(World.frozen?_setCell _ _ _ _).trans h4,(World.frozen?_setCell _ _ _ _).trans h5⟩
set_option linter.unusedVariables false
set_option linter.unusedSimpArgs false
theorem if_no {c:Bool} {p q:Prop} (h:c=false) (hq:q):if c=true then p else q:=by subst h;exact hq
theorem exL {P:Program} {ρ:Operand→Value} {op:Oper} {t:TypeId} {x:Operand} {w:World} {v:Value} (ho:op.op=.load t x) (p:Value) (hx:ρ x=p) (hr:(Instr.loadAt t p).run P w=.ok v w):(execOp ρ op).run P w=.ok (.value v) w:=by
 unfold execOp
 simp only [ho,hx,Sem.run_bind,Sem.run_pure,Result.andThen_ok,hr]
theorem load43 (w:World) (B0:Nat) s p l c q k d (c0:w.cell? ⟨B0,0,none⟩=some (.bool s)) (c1:w.cell? ⟨B0,1,none⟩=some (.slice p l c)) (c2:w.cell? ⟨B0,2,none⟩=some (.slice q k d)):(Instr.loadAt 43 (.pointer (some ⟨B0,0,none⟩))).run Tryz.prog w=.ok (.agg #[.bool s,.slice p l c,.slice q k d]) w:=by
 simp only [Instr.loadAt,Instr.sureAddr,Sem.run_bind,Sem.run_pure,Result.andThen]
 exact run_loadVar_mid (P:=Tryz.prog) w B0 0 43 [.bool s,.slice p l c,.slice q k d] _ (fun j v hv=>by
  match j,hv with
  | 0,hv=>simp at hv;rw [← hv];exact c0
  | 1,hv=>simp at hv;rw [← hv];exact c1
  | 2,hv=>simp at hv;rw [← hv];exact c2
  | n+3,hv=>simp at hv) Tryz.underlying43 rfl (by kernel_rfl)
theorem holdsFF_ (a b:Nat) (X1 X2:Int) (cL:Int) (cH:Int) s p l c q k d (PL:World→Bool→Option Addr→Nat→Nat→Option Addr→Nat→Nat→Prop) (PH:World→Bool→Option Addr→Nat→Nat→Option Addr→Nat→Nat→Prop) (w:World) (hO:∀ W:World,Calls Tryz.prog 19 #[.agg #[.float .f64 a,.float .f64 b]] W fun e w'=>e=.returned (.agg #[.int .u64 X1,.int .u64 X2])∧Kp W w') (hV:∀ W:World,Calls Tryz.prog 40 #[.agg #[.int .u64 X1,.int .u64 X2]] W fun e w'=>e=.returned (.bool true)∧Kp W w') (tE:(X1 == 9218868437227405312)=false) (t1:(X1 == 18442240474082181120)=false) (t2:(X2 == 9218868437227405312)=false) (hbL:∀ W:World,RC 26 #[.int .u64 X1] W PL) (hcL:∀ (W:World) s2 p2 l2 c2 q2 k2 d2,Kp w W→PL W s2 p2 l2 c2 q2 k2 d2→Calls Tryz.prog 33 #[.agg #[.bool s2,.slice p2 l2 c2,.slice q2 k2 d2],.agg #[.bool s,.slice p l c,.slice q k d]] W fun e w'=>e=.returned (.int .i64 cL)∧Kp W w') (tL:cL≤0) (hbH:∀ W:World,RC 26 #[.int .u64 X2] W PH) (hcH:∀ (W:World) s2 p2 l2 c2 q2 k2 d2,Kp w W→PH W s2 p2 l2 c2 q2 k2 d2→Calls Tryz.prog 33 #[.agg #[.bool s,.slice p l c,.slice q k d],.agg #[.bool s2,.slice p2 l2 c2,.slice q2 k2 d2]] W fun e w'=>e=.returned (.int .i64 cH)∧Kp W w') (tH:cH≤0):Calls Tryz.prog 28 #[.agg #[.float .f64 a,.float .f64 b],.agg #[.bool s,.slice p l c,.slice q k d]] w fun e w'=>e=.returned (.bool true)∧Kp w w':=by
 have qb:=H3c.new (w.alloc (.cells #[.float .f64 a,.float .f64 b] 25)) (.bool s) (.slice p l c) (.slice q k d) 43
 rw [show (w.alloc (.cells #[.float .f64 a,.float .f64 b] 25)).heap.size=w.heap.size+1 by simp] at qb
 go_enter Tryz.func28,Tryz.ntmps28
 go_upto_region 2 with (first | (go_at_call 19;refine (hO _).mono ?_;rintro e w1 ⟨rfl,g1⟩))
 have k1:Kp w (w1.alloc (.cells #[.int .u64 X1,.int .u64 X2] 33)):=(Kp.trans (((Kp.refl w).alloc _).alloc _) g1).alloc _
 have qy:=Fq.H2.new w1 (.int .u64 X1) (.int .u64 X2) 33
 replace qb:=H3c.keep qb (g1.alloc (.cells #[.int .u64 X1,.int .u64 X2] 33))
 clear g1
 generalize w1.alloc (.cells #[.int .u64 X1,.int .u64 X2] 33)=W at *
 generalize w1.heap.size=B5 at *
 generalize w.heap.size+1=B3 at *
 obtain ⟨y0,y1,yz0,yz1⟩:=id qy
 obtain ⟨v0,v1,v2,vz0,vz1,vz2⟩:=id qb
 go_region_held3 (fun w'=>w'.cell? ⟨B5,0,none⟩=some (.int .u64 X1)∧w'.cell? ⟨B5,1,none⟩=some (.int .u64 X2)) (first | (with_reducible exact ⟨y0,y1⟩) | (exact ⟨kkeep (W:=W) (Kp.drew (Kp.refl _)) y0,kkeep (W:=W) (Kp.drew (Kp.refl _)) y1⟩) | (exact ⟨kkeep ka y0,kkeep ka y1⟩) | (exact ⟨kkeep kb y0,kkeep kb y1⟩)) (first | (go_at_call 40;refine (hV _).mono ?_;rintro e wa ⟨rfl,ga⟩;have ka:Kp W wa:=Kp.trans (Kp.drew (Kp.refl _)) ga) | (go_at_call 24;refine (rempty9_ _).mono ?_;rintro e wb ⟨rfl,gb⟩;have kb:Kp W wb:=Kp.trans ka gb))
 go_upto_region 4 with fail
 replace y0:=kkeep kb y0
 replace y1:=kkeep kb y1
 replace v0:=kkeep kb v0
 replace v1:=kkeep kb v1
 replace v2:=kkeep kb v2
 have kd:Kp w wb.drew:=(Kp.trans k1 kb).drew
 have jd:Kp wb wb.drew:=(Kp.refl _).drew
 refine wp_region_held_drew (S:=(fun w':World=>w'.cell? ⟨B5,0,none⟩=some (.int .u64 X1)∧w'.cell? ⟨B5,1,none⟩=some (.int .u64 X2)∧w'.cell? ⟨B3,0,none⟩=some (.bool s)∧w'.cell? ⟨B3,1,none⟩=some (.slice p l c)∧w'.cell? ⟨B3,2,none⟩=some (.slice q k d))) (by kernel_rfl) ⟨kkeep jd y0,kkeep jd y1,kkeep jd v0,kkeep jd v1,kkeep jd v2⟩ (fun _=>?_)
 refine wpAnyH_take (i:=0) (v:=.pointer (some ⟨B5,0,none⟩)) rfl (by kernel_rfl) (by kernel_rfl) (by kernel_rfl) (fun _ _ _ h=>h) (Or.inl ⟨by rfl,fun w _hS=>rfl⟩) ⟨kkeep jd y0,kkeep jd y1,kkeep jd v0,kkeep jd v1,kkeep jd v2⟩ ?_
 try simp only [Act.put,List.getElem_toArray,List.getElem_cons_zero,List.getElem_cons_succ,List.setIfInBounds_toArray,List.set_cons_zero,List.set_cons_succ]
 refine wpAnyH_take (i:=1) (v:=.int .u64 X1) rfl (by kernel_rfl) (by kernel_rfl) (by kernel_rfl) (fun _ _ _ h=>h) (Or.inl ⟨by rfl,fun w _hS=>by simp [go_sem,_hS.1]⟩) ⟨kkeep jd y0,kkeep jd y1,kkeep jd v0,kkeep jd v1,kkeep jd v2⟩ ?_
 try simp only [Act.put,List.getElem_toArray,List.getElem_cons_zero,List.getElem_cons_succ,List.setIfInBounds_toArray,List.set_cons_zero,List.set_cons_succ]
 refine wpAnyH_take (i:=2) (v:=.bool false) rfl (by kernel_rfl) (by kernel_rfl) (by kernel_rfl) (fun _ _ _ h=>h) (Or.inl ⟨by rfl,fun w _hS=>(by go_simp <;> (try with_reducible rfl))⟩) ⟨kkeep jd y0,kkeep jd y1,kkeep jd v0,kkeep jd v1,kkeep jd v2⟩ ?_
 try simp only [Act.put,List.getElem_toArray,List.getElem_cons_zero,List.getElem_cons_succ,List.setIfInBounds_toArray,List.set_cons_zero,List.set_cons_succ]
 refine wpAnyH_take (i:=3) (v:=.bool false) rfl (by kernel_rfl) (by kernel_rfl) (by kernel_rfl) (fun _ _ _ h=>h) (Or.inl ⟨by rfl,fun w _hS=>rfl⟩) ⟨kkeep jd y0,kkeep jd y1,kkeep jd v0,kkeep jd v1,kkeep jd v2⟩ ?_
 try simp only [Act.put,List.getElem_toArray,List.getElem_cons_zero,List.getElem_cons_succ,List.setIfInBounds_toArray,List.set_cons_zero,List.set_cons_succ]
 refine wpAnyH_take (i:=4) (v:=.pointer (some ⟨B5,0,none⟩)) rfl (by kernel_rfl) (by kernel_rfl) (by kernel_rfl) (fun _ _ _ h=>h) (Or.inl ⟨by rfl,fun w _hS=>rfl⟩) ⟨kkeep jd y0,kkeep jd y1,kkeep jd v0,kkeep jd v1,kkeep jd v2⟩ ?_
 try simp only [Act.put,List.getElem_toArray,List.getElem_cons_zero,List.getElem_cons_succ,List.setIfInBounds_toArray,List.set_cons_zero,List.set_cons_succ]
 refine wpAnyH_take (i:=5) (v:=.int .u64 X1) rfl (by kernel_rfl) (by kernel_rfl) (by kernel_rfl) (fun _ _ _ h=>h) (Or.inl ⟨by rfl,fun w _hS=>by simp [go_sem,_hS.1]⟩) ⟨kkeep jd y0,kkeep jd y1,kkeep jd v0,kkeep jd v1,kkeep jd v2⟩ ?_
 try simp only [Act.put,List.getElem_toArray,List.getElem_cons_zero,List.getElem_cons_succ,List.setIfInBounds_toArray,List.set_cons_zero,List.set_cons_succ]
 refine wpAnyH_take (i:=7) (v:=.agg #[.bool s,.slice p l c,.slice q k d]) rfl (by kernel_rfl) (by kernel_rfl) (by kernel_rfl) (fun _ _ _ h=>h) (Or.inl ⟨by rfl,fun w _hS=>exL rfl _ rfl (load43 w B3 s p l c q k d _hS.2.2.1 _hS.2.2.2.1 _hS.2.2.2.2)⟩) ⟨kkeep jd y0,kkeep jd y1,kkeep jd v0,kkeep jd v1,kkeep jd v2⟩ ?_
 try simp only [Act.put,List.getElem_toArray,List.getElem_cons_zero,List.getElem_cons_succ,List.setIfInBounds_toArray,List.set_cons_zero,List.set_cons_succ]
 refine wpAnyH_ready (rs:=[6]) (by kernel_rfl) (by simp) ?_
 refine AllReadyH.cons rfl (fun K hK=>?_) AllReadyH.nil
 rw [if_pos (by rfl)]
 go_simp
 refine (hbL _).mono ?_
 rintro e W3 ⟨s2,p2,l2,c2,q2,k2,d2,rfl,D2,g3⟩
 have j3:=jd.trans g3
 have hcL9:=hcL W3 s2 p2 l2 c2 q2 k2 d2 (Kp.trans (Kp.trans k1 kb) j3) D2
 go_wp2_with fail
 refine hK.out _ _ ⟨kkeep j3 y0,kkeep j3 y1,kkeep j3 v0,kkeep j3 v1,kkeep j3 v2⟩ (fun _=>?_)
 clear hK K
 try simp only [Act.put,List.getElem_toArray,List.getElem_cons_zero,List.getElem_cons_succ,List.setIfInBounds_toArray,List.set_cons_zero,List.set_cons_succ]
 refine wpAnyH_ready (rs:=[8]) (by kernel_rfl) (by simp) ?_
 refine AllReadyH.cons rfl (fun K hK=>?_) AllReadyH.nil
 rw [if_pos (by rfl)]
 go_simp
 refine hcL9.mono ?_
 rintro e W4 ⟨rfl,g4⟩
 have j4:=j3.trans g4
 go_wp2_with fail
 refine hK.out _ _ ⟨kkeep j4 y0,kkeep j4 y1,kkeep j4 v0,kkeep j4 v1,kkeep j4 v2⟩ (fun _=>?_)
 clear hK K
 try simp only [Act.put,List.getElem_toArray,List.getElem_cons_zero,List.getElem_cons_succ,List.setIfInBounds_toArray,List.set_cons_zero,List.set_cons_succ]
 refine wpAnyH_take (i:=9) (v:=.bool true) rfl (by kernel_rfl) (by kernel_rfl) (by kernel_rfl) (fun _ _ _ h=>h) (Or.inl ⟨by rfl,fun w _hS=>(by go_simp <;> (try with_reducible rfl))⟩) ⟨kkeep j4 y0,kkeep j4 y1,kkeep j4 v0,kkeep j4 v1,kkeep j4 v2⟩ ?_
 try simp only [Act.put,List.getElem_toArray,List.getElem_cons_zero,List.getElem_cons_succ,List.setIfInBounds_toArray,List.set_cons_zero,List.set_cons_succ]
 refine wpAnyH_take (i:=10) (v:=.bool true) rfl (by kernel_rfl) (by kernel_rfl) (by kernel_rfl) (fun _ _ _ h=>h) (Or.inl ⟨by rfl,fun w _hS=>rfl⟩) ⟨kkeep j4 y0,kkeep j4 y1,kkeep j4 v0,kkeep j4 v1,kkeep j4 v2⟩ ?_
 try simp only [Act.put,List.getElem_toArray,List.getElem_cons_zero,List.getElem_cons_succ,List.setIfInBounds_toArray,List.set_cons_zero,List.set_cons_succ]
 refine wpAnyH_take (i:=11) (v:=.bool true) rfl (by kernel_rfl) (by kernel_rfl) (by kernel_rfl) (fun _ _ _ h=>h) (Or.inl ⟨by rfl,fun w _hS=>rfl⟩) ⟨kkeep j4 y0,kkeep j4 y1,kkeep j4 v0,kkeep j4 v1,kkeep j4 v2⟩ ?_
 try simp only [Act.put,List.getElem_toArray,List.getElem_cons_zero,List.getElem_cons_succ,List.setIfInBounds_toArray,List.set_cons_zero,List.set_cons_succ]
 refine wpAnyH_take (i:=12) (v:=.pointer (some ⟨B5,1,none⟩)) rfl (by kernel_rfl) (by kernel_rfl) (by kernel_rfl) (fun _ _ _ h=>h) (Or.inl ⟨by rfl,fun w _hS=>rfl⟩) ⟨kkeep j4 y0,kkeep j4 y1,kkeep j4 v0,kkeep j4 v1,kkeep j4 v2⟩ ?_
 try simp only [Act.put,List.getElem_toArray,List.getElem_cons_zero,List.getElem_cons_succ,List.setIfInBounds_toArray,List.set_cons_zero,List.set_cons_succ]
 refine wpAnyH_take (i:=13) (v:=.int .u64 X2) rfl (by kernel_rfl) (by kernel_rfl) (by kernel_rfl) (fun _ _ _ h=>h) (Or.inl ⟨by rfl,fun w _hS=>by simp [go_sem,_hS.2.1]⟩) ⟨kkeep j4 y0,kkeep j4 y1,kkeep j4 v0,kkeep j4 v1,kkeep j4 v2⟩ ?_
 try simp only [Act.put,List.getElem_toArray,List.getElem_cons_zero,List.getElem_cons_succ,List.setIfInBounds_toArray,List.set_cons_zero,List.set_cons_succ]
 refine wpAnyH_take (i:=14) (v:=.bool false) rfl (by kernel_rfl) (by kernel_rfl) (by kernel_rfl) (fun _ _ _ h=>h) (Or.inl ⟨by rfl,fun w _hS=>(by go_simp <;> (try with_reducible rfl))⟩) ⟨kkeep j4 y0,kkeep j4 y1,kkeep j4 v0,kkeep j4 v1,kkeep j4 v2⟩ ?_
 try simp only [Act.put,List.getElem_toArray,List.getElem_cons_zero,List.getElem_cons_succ,List.setIfInBounds_toArray,List.set_cons_zero,List.set_cons_succ]
 refine wpAnyH_take (i:=15) (v:=.bool false) rfl (by kernel_rfl) (by kernel_rfl) (by kernel_rfl) (fun _ _ _ h=>h) (Or.inl ⟨by rfl,fun w _hS=>rfl⟩) ⟨kkeep j4 y0,kkeep j4 y1,kkeep j4 v0,kkeep j4 v1,kkeep j4 v2⟩ ?_
 try simp only [Act.put,List.getElem_toArray,List.getElem_cons_zero,List.getElem_cons_succ,List.setIfInBounds_toArray,List.set_cons_zero,List.set_cons_succ]
 refine wpAnyH_take (i:=16) (v:=.agg #[.bool s,.slice p l c,.slice q k d]) rfl (by kernel_rfl) (by kernel_rfl) (by kernel_rfl) (fun _ _ _ h=>h) (Or.inl ⟨by rfl,fun w _hS=>exL rfl _ rfl (load43 w B3 s p l c q k d _hS.2.2.1 _hS.2.2.2.1 _hS.2.2.2.2)⟩) ⟨kkeep j4 y0,kkeep j4 y1,kkeep j4 v0,kkeep j4 v1,kkeep j4 v2⟩ ?_
 try simp only [Act.put,List.getElem_toArray,List.getElem_cons_zero,List.getElem_cons_succ,List.setIfInBounds_toArray,List.set_cons_zero,List.set_cons_succ]
 refine wpAnyH_take (i:=17) (v:=.pointer (some ⟨B5,1,none⟩)) rfl (by kernel_rfl) (by kernel_rfl) (by kernel_rfl) (fun _ _ _ h=>h) (Or.inl ⟨by rfl,fun w _hS=>rfl⟩) ⟨kkeep j4 y0,kkeep j4 y1,kkeep j4 v0,kkeep j4 v1,kkeep j4 v2⟩ ?_
 try simp only [Act.put,List.getElem_toArray,List.getElem_cons_zero,List.getElem_cons_succ,List.setIfInBounds_toArray,List.set_cons_zero,List.set_cons_succ]
 refine wpAnyH_take (i:=18) (v:=.int .u64 X2) rfl (by kernel_rfl) (by kernel_rfl) (by kernel_rfl) (fun _ _ _ h=>h) (Or.inl ⟨by rfl,fun w _hS=>by simp [go_sem,_hS.2.1]⟩) ⟨kkeep j4 y0,kkeep j4 y1,kkeep j4 v0,kkeep j4 v1,kkeep j4 v2⟩ ?_
 try simp only [Act.put,List.getElem_toArray,List.getElem_cons_zero,List.getElem_cons_succ,List.setIfInBounds_toArray,List.set_cons_zero,List.set_cons_succ]
 refine wpAnyH_ready (rs:=[19]) (by kernel_rfl) (by simp) ?_
 refine AllReadyH.cons rfl (fun K hK=>?_) AllReadyH.nil
 rw [if_pos (by rfl)]
 go_simp
 refine (hbH _).mono ?_
 rintro e W5 ⟨s2,p2,l2,c2,q2,k2,d2,rfl,D3,g5⟩
 have j5:=j4.trans g5
 have hcH9:=hcH W5 s2 p2 l2 c2 q2 k2 d2 (Kp.trans (Kp.trans k1 kb) j5) D3
 go_wp2_with fail
 refine hK.out _ _ ⟨kkeep j5 y0,kkeep j5 y1,kkeep j5 v0,kkeep j5 v1,kkeep j5 v2⟩ (fun _=>?_)
 clear hK K
 try simp only [Act.put,List.getElem_toArray,List.getElem_cons_zero,List.getElem_cons_succ,List.setIfInBounds_toArray,List.set_cons_zero,List.set_cons_succ]
 refine wpAnyH_ready (rs:=[20]) (by kernel_rfl) (by simp) ?_
 refine AllReadyH.cons rfl (fun K hK=>?_) AllReadyH.nil
 rw [if_pos (by rfl)]
 go_simp
 refine hcH9.mono ?_
 rintro e W6 ⟨rfl,g6⟩
 have j6:=j5.trans g6
 go_wp2_with fail
 refine hK.out _ _ ⟨kkeep j6 y0,kkeep j6 y1,kkeep j6 v0,kkeep j6 v1,kkeep j6 v2⟩ (fun _=>?_)
 clear hK K
 try simp only [Act.put,List.getElem_toArray,List.getElem_cons_zero,List.getElem_cons_succ,List.setIfInBounds_toArray,List.set_cons_zero,List.set_cons_succ]
 refine wpAnyH_take (i:=21) (v:=.bool true) rfl (by kernel_rfl) (by kernel_rfl) (by kernel_rfl) (fun _ _ _ h=>h) (Or.inl ⟨by rfl,fun w _hS=>(by go_simp <;> (try with_reducible rfl))⟩) ⟨kkeep j6 y0,kkeep j6 y1,kkeep j6 v0,kkeep j6 v1,kkeep j6 v2⟩ ?_
 try simp only [Act.put,List.getElem_toArray,List.getElem_cons_zero,List.getElem_cons_succ,List.setIfInBounds_toArray,List.set_cons_zero,List.set_cons_succ]
 refine wpAnyH_take (i:=22) (v:=.bool true) rfl (by kernel_rfl) (by kernel_rfl) (by kernel_rfl) (fun _ _ _ h=>h) (Or.inl ⟨by rfl,fun w _hS=>rfl⟩) ⟨kkeep j6 y0,kkeep j6 y1,kkeep j6 v0,kkeep j6 v1,kkeep j6 v2⟩ ?_
 try simp only [Act.put,List.getElem_toArray,List.getElem_cons_zero,List.getElem_cons_succ,List.setIfInBounds_toArray,List.set_cons_zero,List.set_cons_succ]
 refine wpAnyH_take (i:=23) (v:=.bool true) rfl (by kernel_rfl) (by kernel_rfl) (by kernel_rfl) (fun _ _ _ h=>h) (Or.inl ⟨by rfl,fun w _hS=>rfl⟩) ⟨kkeep j6 y0,kkeep j6 y1,kkeep j6 v0,kkeep j6 v1,kkeep j6 v2⟩ ?_
 try simp only [Act.put,List.getElem_toArray,List.getElem_cons_zero,List.getElem_cons_succ,List.setIfInBounds_toArray,List.set_cons_zero,List.set_cons_succ]
 refine wpAnyH_take (i:=24) (v:=.bool true) rfl (by kernel_rfl) (by kernel_rfl) (by kernel_rfl) (fun _ _ _ h=>h) (Or.inl ⟨by rfl,fun w _hS=>rfl⟩) ⟨kkeep j6 y0,kkeep j6 y1,kkeep j6 v0,kkeep j6 v1,kkeep j6 v2⟩ ?_
 try simp only [Act.put,List.getElem_toArray,List.getElem_cons_zero,List.getElem_cons_succ,List.setIfInBounds_toArray,List.set_cons_zero,List.set_cons_succ]
 refine wpAnyH_done (by kernel_rfl) ?_ _
 go_wp2
 exact BR (v:=.bool true) (by simp [results,Tryz.results28,go_sem]) rfl ⟨rfl,(Kp.trans (Kp.trans k1 kb) j6)⟩
theorem holdsFI_ (a b:Nat) (X1 X2:Int) (cL:Int) s p l c q k d (PL:World→Bool→Option Addr→Nat→Nat→Option Addr→Nat→Nat→Prop) (w:World) (hO:∀ W:World,Calls Tryz.prog 19 #[.agg #[.float .f64 a,.float .f64 b]] W fun e w'=>e=.returned (.agg #[.int .u64 X1,.int .u64 X2])∧Kp W w') (hV:∀ W:World,Calls Tryz.prog 40 #[.agg #[.int .u64 X1,.int .u64 X2]] W fun e w'=>e=.returned (.bool true)∧Kp W w') (tE:(X1 == 9218868437227405312)=false) (t1:(X1 == 18442240474082181120)=false) (t2:(X2 == 9218868437227405312)=true) (hbL:∀ W:World,RC 26 #[.int .u64 X1] W PL) (hcL:∀ (W:World) s2 p2 l2 c2 q2 k2 d2,Kp w W→PL W s2 p2 l2 c2 q2 k2 d2→Calls Tryz.prog 33 #[.agg #[.bool s2,.slice p2 l2 c2,.slice q2 k2 d2],.agg #[.bool s,.slice p l c,.slice q k d]] W fun e w'=>e=.returned (.int .i64 cL)∧Kp W w') (tL:cL≤0):Calls Tryz.prog 28 #[.agg #[.float .f64 a,.float .f64 b],.agg #[.bool s,.slice p l c,.slice q k d]] w fun e w'=>e=.returned (.bool true)∧Kp w w':=by
 have qb:=H3c.new (w.alloc (.cells #[.float .f64 a,.float .f64 b] 25)) (.bool s) (.slice p l c) (.slice q k d) 43
 rw [show (w.alloc (.cells #[.float .f64 a,.float .f64 b] 25)).heap.size=w.heap.size+1 by simp] at qb
 go_enter Tryz.func28,Tryz.ntmps28
 go_upto_region 2 with (first | (go_at_call 19;refine (hO _).mono ?_;rintro e w1 ⟨rfl,g1⟩))
 have k1:Kp w (w1.alloc (.cells #[.int .u64 X1,.int .u64 X2] 33)):=(Kp.trans (((Kp.refl w).alloc _).alloc _) g1).alloc _
 have qy:=Fq.H2.new w1 (.int .u64 X1) (.int .u64 X2) 33
 replace qb:=H3c.keep qb (g1.alloc (.cells #[.int .u64 X1,.int .u64 X2] 33))
 clear g1
 generalize w1.alloc (.cells #[.int .u64 X1,.int .u64 X2] 33)=W at *
 generalize w1.heap.size=B5 at *
 generalize w.heap.size+1=B3 at *
 obtain ⟨y0,y1,yz0,yz1⟩:=id qy
 obtain ⟨v0,v1,v2,vz0,vz1,vz2⟩:=id qb
 go_region_held3 (fun w'=>w'.cell? ⟨B5,0,none⟩=some (.int .u64 X1)∧w'.cell? ⟨B5,1,none⟩=some (.int .u64 X2)) (first | (with_reducible exact ⟨y0,y1⟩) | (exact ⟨kkeep (W:=W) (Kp.drew (Kp.refl _)) y0,kkeep (W:=W) (Kp.drew (Kp.refl _)) y1⟩) | (exact ⟨kkeep ka y0,kkeep ka y1⟩) | (exact ⟨kkeep kb y0,kkeep kb y1⟩)) (first | (go_at_call 40;refine (hV _).mono ?_;rintro e wa ⟨rfl,ga⟩;have ka:Kp W wa:=Kp.trans (Kp.drew (Kp.refl _)) ga) | (go_at_call 24;refine (rempty9_ _).mono ?_;rintro e wb ⟨rfl,gb⟩;have kb:Kp W wb:=Kp.trans ka gb))
 go_upto_region 4 with fail
 replace y0:=kkeep kb y0
 replace y1:=kkeep kb y1
 replace v0:=kkeep kb v0
 replace v1:=kkeep kb v1
 replace v2:=kkeep kb v2
 have kd:Kp w wb.drew:=(Kp.trans k1 kb).drew
 have jd:Kp wb wb.drew:=(Kp.refl _).drew
 refine wp_region_held_drew (S:=(fun w':World=>w'.cell? ⟨B5,0,none⟩=some (.int .u64 X1)∧w'.cell? ⟨B5,1,none⟩=some (.int .u64 X2)∧w'.cell? ⟨B3,0,none⟩=some (.bool s)∧w'.cell? ⟨B3,1,none⟩=some (.slice p l c)∧w'.cell? ⟨B3,2,none⟩=some (.slice q k d))) (by kernel_rfl) ⟨kkeep jd y0,kkeep jd y1,kkeep jd v0,kkeep jd v1,kkeep jd v2⟩ (fun _=>?_)
 refine wpAnyH_take (i:=0) (v:=.pointer (some ⟨B5,0,none⟩)) rfl (by kernel_rfl) (by kernel_rfl) (by kernel_rfl) (fun _ _ _ h=>h) (Or.inl ⟨by rfl,fun w _hS=>rfl⟩) ⟨kkeep jd y0,kkeep jd y1,kkeep jd v0,kkeep jd v1,kkeep jd v2⟩ ?_
 try simp only [Act.put,List.getElem_toArray,List.getElem_cons_zero,List.getElem_cons_succ,List.setIfInBounds_toArray,List.set_cons_zero,List.set_cons_succ]
 refine wpAnyH_take (i:=1) (v:=.int .u64 X1) rfl (by kernel_rfl) (by kernel_rfl) (by kernel_rfl) (fun _ _ _ h=>h) (Or.inl ⟨by rfl,fun w _hS=>by simp [go_sem,_hS.1]⟩) ⟨kkeep jd y0,kkeep jd y1,kkeep jd v0,kkeep jd v1,kkeep jd v2⟩ ?_
 try simp only [Act.put,List.getElem_toArray,List.getElem_cons_zero,List.getElem_cons_succ,List.setIfInBounds_toArray,List.set_cons_zero,List.set_cons_succ]
 refine wpAnyH_take (i:=2) (v:=.bool false) rfl (by kernel_rfl) (by kernel_rfl) (by kernel_rfl) (fun _ _ _ h=>h) (Or.inl ⟨by rfl,fun w _hS=>(by go_simp <;> (try with_reducible rfl))⟩) ⟨kkeep jd y0,kkeep jd y1,kkeep jd v0,kkeep jd v1,kkeep jd v2⟩ ?_
 try simp only [Act.put,List.getElem_toArray,List.getElem_cons_zero,List.getElem_cons_succ,List.setIfInBounds_toArray,List.set_cons_zero,List.set_cons_succ]
 refine wpAnyH_take (i:=3) (v:=.bool false) rfl (by kernel_rfl) (by kernel_rfl) (by kernel_rfl) (fun _ _ _ h=>h) (Or.inl ⟨by rfl,fun w _hS=>rfl⟩) ⟨kkeep jd y0,kkeep jd y1,kkeep jd v0,kkeep jd v1,kkeep jd v2⟩ ?_
 try simp only [Act.put,List.getElem_toArray,List.getElem_cons_zero,List.getElem_cons_succ,List.setIfInBounds_toArray,List.set_cons_zero,List.set_cons_succ]
 refine wpAnyH_take (i:=4) (v:=.pointer (some ⟨B5,0,none⟩)) rfl (by kernel_rfl) (by kernel_rfl) (by kernel_rfl) (fun _ _ _ h=>h) (Or.inl ⟨by rfl,fun w _hS=>rfl⟩) ⟨kkeep jd y0,kkeep jd y1,kkeep jd v0,kkeep jd v1,kkeep jd v2⟩ ?_
 try simp only [Act.put,List.getElem_toArray,List.getElem_cons_zero,List.getElem_cons_succ,List.setIfInBounds_toArray,List.set_cons_zero,List.set_cons_succ]
 refine wpAnyH_take (i:=5) (v:=.int .u64 X1) rfl (by kernel_rfl) (by kernel_rfl) (by kernel_rfl) (fun _ _ _ h=>h) (Or.inl ⟨by rfl,fun w _hS=>by simp [go_sem,_hS.1]⟩) ⟨kkeep jd y0,kkeep jd y1,kkeep jd v0,kkeep jd v1,kkeep jd v2⟩ ?_
 try simp only [Act.put,List.getElem_toArray,List.getElem_cons_zero,List.getElem_cons_succ,List.setIfInBounds_toArray,List.set_cons_zero,List.set_cons_succ]
 refine wpAnyH_take (i:=7) (v:=.agg #[.bool s,.slice p l c,.slice q k d]) rfl (by kernel_rfl) (by kernel_rfl) (by kernel_rfl) (fun _ _ _ h=>h) (Or.inl ⟨by rfl,fun w _hS=>exL rfl _ rfl (load43 w B3 s p l c q k d _hS.2.2.1 _hS.2.2.2.1 _hS.2.2.2.2)⟩) ⟨kkeep jd y0,kkeep jd y1,kkeep jd v0,kkeep jd v1,kkeep jd v2⟩ ?_
 try simp only [Act.put,List.getElem_toArray,List.getElem_cons_zero,List.getElem_cons_succ,List.setIfInBounds_toArray,List.set_cons_zero,List.set_cons_succ]
 refine wpAnyH_ready (rs:=[6]) (by kernel_rfl) (by simp) ?_
 refine AllReadyH.cons rfl (fun K hK=>?_) AllReadyH.nil
 rw [if_pos (by rfl)]
 go_simp
 refine (hbL _).mono ?_
 rintro e W3 ⟨s2,p2,l2,c2,q2,k2,d2,rfl,D2,g3⟩
 have j3:=jd.trans g3
 have hcL9:=hcL W3 s2 p2 l2 c2 q2 k2 d2 (Kp.trans (Kp.trans k1 kb) j3) D2
 go_wp2_with fail
 refine hK.out _ _ ⟨kkeep j3 y0,kkeep j3 y1,kkeep j3 v0,kkeep j3 v1,kkeep j3 v2⟩ (fun _=>?_)
 clear hK K
 try simp only [Act.put,List.getElem_toArray,List.getElem_cons_zero,List.getElem_cons_succ,List.setIfInBounds_toArray,List.set_cons_zero,List.set_cons_succ]
 refine wpAnyH_ready (rs:=[8]) (by kernel_rfl) (by simp) ?_
 refine AllReadyH.cons rfl (fun K hK=>?_) AllReadyH.nil
 rw [if_pos (by rfl)]
 go_simp
 refine hcL9.mono ?_
 rintro e W4 ⟨rfl,g4⟩
 have j4:=j3.trans g4
 go_wp2_with fail
 refine hK.out _ _ ⟨kkeep j4 y0,kkeep j4 y1,kkeep j4 v0,kkeep j4 v1,kkeep j4 v2⟩ (fun _=>?_)
 clear hK K
 try simp only [Act.put,List.getElem_toArray,List.getElem_cons_zero,List.getElem_cons_succ,List.setIfInBounds_toArray,List.set_cons_zero,List.set_cons_succ]
 refine wpAnyH_take (i:=9) (v:=.bool true) rfl (by kernel_rfl) (by kernel_rfl) (by kernel_rfl) (fun _ _ _ h=>h) (Or.inl ⟨by rfl,fun w _hS=>(by go_simp <;> (try with_reducible rfl))⟩) ⟨kkeep j4 y0,kkeep j4 y1,kkeep j4 v0,kkeep j4 v1,kkeep j4 v2⟩ ?_
 try simp only [Act.put,List.getElem_toArray,List.getElem_cons_zero,List.getElem_cons_succ,List.setIfInBounds_toArray,List.set_cons_zero,List.set_cons_succ]
 refine wpAnyH_take (i:=10) (v:=.bool true) rfl (by kernel_rfl) (by kernel_rfl) (by kernel_rfl) (fun _ _ _ h=>h) (Or.inl ⟨by rfl,fun w _hS=>rfl⟩) ⟨kkeep j4 y0,kkeep j4 y1,kkeep j4 v0,kkeep j4 v1,kkeep j4 v2⟩ ?_
 try simp only [Act.put,List.getElem_toArray,List.getElem_cons_zero,List.getElem_cons_succ,List.setIfInBounds_toArray,List.set_cons_zero,List.set_cons_succ]
 refine wpAnyH_take (i:=11) (v:=.bool true) rfl (by kernel_rfl) (by kernel_rfl) (by kernel_rfl) (fun _ _ _ h=>h) (Or.inl ⟨by rfl,fun w _hS=>rfl⟩) ⟨kkeep j4 y0,kkeep j4 y1,kkeep j4 v0,kkeep j4 v1,kkeep j4 v2⟩ ?_
 try simp only [Act.put,List.getElem_toArray,List.getElem_cons_zero,List.getElem_cons_succ,List.setIfInBounds_toArray,List.set_cons_zero,List.set_cons_succ]
 refine wpAnyH_take (i:=12) (v:=.pointer (some ⟨B5,1,none⟩)) rfl (by kernel_rfl) (by kernel_rfl) (by kernel_rfl) (fun _ _ _ h=>h) (Or.inl ⟨by rfl,fun w _hS=>rfl⟩) ⟨kkeep j4 y0,kkeep j4 y1,kkeep j4 v0,kkeep j4 v1,kkeep j4 v2⟩ ?_
 try simp only [Act.put,List.getElem_toArray,List.getElem_cons_zero,List.getElem_cons_succ,List.setIfInBounds_toArray,List.set_cons_zero,List.set_cons_succ]
 refine wpAnyH_take (i:=13) (v:=.int .u64 X2) rfl (by kernel_rfl) (by kernel_rfl) (by kernel_rfl) (fun _ _ _ h=>h) (Or.inl ⟨by rfl,fun w _hS=>by simp [go_sem,_hS.2.1]⟩) ⟨kkeep j4 y0,kkeep j4 y1,kkeep j4 v0,kkeep j4 v1,kkeep j4 v2⟩ ?_
 try simp only [Act.put,List.getElem_toArray,List.getElem_cons_zero,List.getElem_cons_succ,List.setIfInBounds_toArray,List.set_cons_zero,List.set_cons_succ]
 refine wpAnyH_take (i:=14) (v:=.bool true) rfl (by kernel_rfl) (by kernel_rfl) (by kernel_rfl) (fun _ _ _ h=>h) (Or.inl ⟨by rfl,fun w _hS=>(by go_simp <;> (try with_reducible rfl))⟩) ⟨kkeep j4 y0,kkeep j4 y1,kkeep j4 v0,kkeep j4 v1,kkeep j4 v2⟩ ?_
 try simp only [Act.put,List.getElem_toArray,List.getElem_cons_zero,List.getElem_cons_succ,List.setIfInBounds_toArray,List.set_cons_zero,List.set_cons_succ]
 refine wpAnyH_take (i:=15) (v:=.bool true) rfl (by kernel_rfl) (by kernel_rfl) (by kernel_rfl) (fun _ _ _ h=>h) (Or.inl ⟨by rfl,fun w _hS=>rfl⟩) ⟨kkeep j4 y0,kkeep j4 y1,kkeep j4 v0,kkeep j4 v1,kkeep j4 v2⟩ ?_
 try simp only [Act.put,List.getElem_toArray,List.getElem_cons_zero,List.getElem_cons_succ,List.setIfInBounds_toArray,List.set_cons_zero,List.set_cons_succ]
 refine wpAnyH_take (i:=16) (v:=undef) rfl (by kernel_rfl) (by kernel_rfl) (by kernel_rfl) (fun _ _ _ h=>h) (Or.inr ⟨by rfl,rfl⟩) ⟨kkeep j4 y0,kkeep j4 y1,kkeep j4 v0,kkeep j4 v1,kkeep j4 v2⟩ ?_
 try simp only [Act.put,List.getElem_toArray,List.getElem_cons_zero,List.getElem_cons_succ,List.setIfInBounds_toArray,List.set_cons_zero,List.set_cons_succ]
 refine wpAnyH_take (i:=17) (v:=undef) rfl (by kernel_rfl) (by kernel_rfl) (by kernel_rfl) (fun _ _ _ h=>h) (Or.inr ⟨by rfl,rfl⟩) ⟨kkeep j4 y0,kkeep j4 y1,kkeep j4 v0,kkeep j4 v1,kkeep j4 v2⟩ ?_
 try simp only [Act.put,List.getElem_toArray,List.getElem_cons_zero,List.getElem_cons_succ,List.setIfInBounds_toArray,List.set_cons_zero,List.set_cons_succ]
 refine wpAnyH_take (i:=18) (v:=undef) rfl (by kernel_rfl) (by kernel_rfl) (by kernel_rfl) (fun _ _ _ h=>h) (Or.inr ⟨by rfl,rfl⟩) ⟨kkeep j4 y0,kkeep j4 y1,kkeep j4 v0,kkeep j4 v1,kkeep j4 v2⟩ ?_
 try simp only [Act.put,List.getElem_toArray,List.getElem_cons_zero,List.getElem_cons_succ,List.setIfInBounds_toArray,List.set_cons_zero,List.set_cons_succ]
 refine wpAnyH_ready (rs:=[19]) (by kernel_rfl) (by simp) ?_
 refine AllReadyH.cons rfl (fun K hK=>?_) AllReadyH.nil
 refine if_no (by rfl) ?_
 refine hK.out _ _ ⟨kkeep j4 y0,kkeep j4 y1,kkeep j4 v0,kkeep j4 v1,kkeep j4 v2⟩ (fun _=>?_)
 clear hK K
 try simp only [Act.put,List.getElem_toArray,List.getElem_cons_zero,List.getElem_cons_succ,List.setIfInBounds_toArray,List.set_cons_zero,List.set_cons_succ]
 refine wpAnyH_ready (rs:=[20]) (by kernel_rfl) (by simp) ?_
 refine AllReadyH.cons rfl (fun K hK=>?_) AllReadyH.nil
 refine if_no (by rfl) ?_
 refine hK.out _ _ ⟨kkeep j4 y0,kkeep j4 y1,kkeep j4 v0,kkeep j4 v1,kkeep j4 v2⟩ (fun _=>?_)
 clear hK K
 try simp only [Act.put,List.getElem_toArray,List.getElem_cons_zero,List.getElem_cons_succ,List.setIfInBounds_toArray,List.set_cons_zero,List.set_cons_succ]
 refine wpAnyH_take (i:=21) (v:=undef) rfl (by kernel_rfl) (by kernel_rfl) (by kernel_rfl) (fun _ _ _ h=>h) (Or.inr ⟨by rfl,rfl⟩) ⟨kkeep j4 y0,kkeep j4 y1,kkeep j4 v0,kkeep j4 v1,kkeep j4 v2⟩ ?_
 try simp only [Act.put,List.getElem_toArray,List.getElem_cons_zero,List.getElem_cons_succ,List.setIfInBounds_toArray,List.set_cons_zero,List.set_cons_succ]
 refine wpAnyH_take (i:=22) (v:=.bool true) rfl (by kernel_rfl) (by kernel_rfl) (by kernel_rfl) (fun _ _ _ h=>h) (Or.inl ⟨by rfl,fun w _hS=>rfl⟩) ⟨kkeep j4 y0,kkeep j4 y1,kkeep j4 v0,kkeep j4 v1,kkeep j4 v2⟩ ?_
 try simp only [Act.put,List.getElem_toArray,List.getElem_cons_zero,List.getElem_cons_succ,List.setIfInBounds_toArray,List.set_cons_zero,List.set_cons_succ]
 refine wpAnyH_take (i:=23) (v:=.bool true) rfl (by kernel_rfl) (by kernel_rfl) (by kernel_rfl) (fun _ _ _ h=>h) (Or.inl ⟨by rfl,fun w _hS=>rfl⟩) ⟨kkeep j4 y0,kkeep j4 y1,kkeep j4 v0,kkeep j4 v1,kkeep j4 v2⟩ ?_
 try simp only [Act.put,List.getElem_toArray,List.getElem_cons_zero,List.getElem_cons_succ,List.setIfInBounds_toArray,List.set_cons_zero,List.set_cons_succ]
 refine wpAnyH_take (i:=24) (v:=.bool true) rfl (by kernel_rfl) (by kernel_rfl) (by kernel_rfl) (fun _ _ _ h=>h) (Or.inl ⟨by rfl,fun w _hS=>rfl⟩) ⟨kkeep j4 y0,kkeep j4 y1,kkeep j4 v0,kkeep j4 v1,kkeep j4 v2⟩ ?_
 try simp only [Act.put,List.getElem_toArray,List.getElem_cons_zero,List.getElem_cons_succ,List.setIfInBounds_toArray,List.set_cons_zero,List.set_cons_succ]
 refine wpAnyH_done (by kernel_rfl) ?_ _
 go_wp2
 exact BR (v:=.bool true) (by simp [results,Tryz.results28,go_sem]) rfl ⟨rfl,(Kp.trans (Kp.trans k1 kb) j4)⟩
theorem holdsIF_ (a b:Nat) (X1 X2:Int) (cH:Int) s p l c q k d (PH:World→Bool→Option Addr→Nat→Nat→Option Addr→Nat→Nat→Prop) (w:World) (hO:∀ W:World,Calls Tryz.prog 19 #[.agg #[.float .f64 a,.float .f64 b]] W fun e w'=>e=.returned (.agg #[.int .u64 X1,.int .u64 X2])∧Kp W w') (hV:∀ W:World,Calls Tryz.prog 40 #[.agg #[.int .u64 X1,.int .u64 X2]] W fun e w'=>e=.returned (.bool true)∧Kp W w') (tE:(X1 == 9218868437227405312)=false) (t1:(X1 == 18442240474082181120)=true) (t2:(X2 == 9218868437227405312)=false) (hbH:∀ W:World,RC 26 #[.int .u64 X2] W PH) (hcH:∀ (W:World) s2 p2 l2 c2 q2 k2 d2,Kp w W→PH W s2 p2 l2 c2 q2 k2 d2→Calls Tryz.prog 33 #[.agg #[.bool s,.slice p l c,.slice q k d],.agg #[.bool s2,.slice p2 l2 c2,.slice q2 k2 d2]] W fun e w'=>e=.returned (.int .i64 cH)∧Kp W w') (tH:cH≤0):Calls Tryz.prog 28 #[.agg #[.float .f64 a,.float .f64 b],.agg #[.bool s,.slice p l c,.slice q k d]] w fun e w'=>e=.returned (.bool true)∧Kp w w':=by
 have qb:=H3c.new (w.alloc (.cells #[.float .f64 a,.float .f64 b] 25)) (.bool s) (.slice p l c) (.slice q k d) 43
 rw [show (w.alloc (.cells #[.float .f64 a,.float .f64 b] 25)).heap.size=w.heap.size+1 by simp] at qb
 go_enter Tryz.func28,Tryz.ntmps28
 go_upto_region 2 with (first | (go_at_call 19;refine (hO _).mono ?_;rintro e w1 ⟨rfl,g1⟩))
 have k1:Kp w (w1.alloc (.cells #[.int .u64 X1,.int .u64 X2] 33)):=(Kp.trans (((Kp.refl w).alloc _).alloc _) g1).alloc _
 have qy:=Fq.H2.new w1 (.int .u64 X1) (.int .u64 X2) 33
 replace qb:=H3c.keep qb (g1.alloc (.cells #[.int .u64 X1,.int .u64 X2] 33))
 clear g1
 generalize w1.alloc (.cells #[.int .u64 X1,.int .u64 X2] 33)=W at *
 generalize w1.heap.size=B5 at *
 generalize w.heap.size+1=B3 at *
 obtain ⟨y0,y1,yz0,yz1⟩:=id qy
 obtain ⟨v0,v1,v2,vz0,vz1,vz2⟩:=id qb
 go_region_held3 (fun w'=>w'.cell? ⟨B5,0,none⟩=some (.int .u64 X1)∧w'.cell? ⟨B5,1,none⟩=some (.int .u64 X2)) (first | (with_reducible exact ⟨y0,y1⟩) | (exact ⟨kkeep (W:=W) (Kp.drew (Kp.refl _)) y0,kkeep (W:=W) (Kp.drew (Kp.refl _)) y1⟩) | (exact ⟨kkeep ka y0,kkeep ka y1⟩) | (exact ⟨kkeep kb y0,kkeep kb y1⟩)) (first | (go_at_call 40;refine (hV _).mono ?_;rintro e wa ⟨rfl,ga⟩;have ka:Kp W wa:=Kp.trans (Kp.drew (Kp.refl _)) ga) | (go_at_call 24;refine (rempty9_ _).mono ?_;rintro e wb ⟨rfl,gb⟩;have kb:Kp W wb:=Kp.trans ka gb))
 go_upto_region 4 with fail
 replace y0:=kkeep kb y0
 replace y1:=kkeep kb y1
 replace v0:=kkeep kb v0
 replace v1:=kkeep kb v1
 replace v2:=kkeep kb v2
 have kd:Kp w wb.drew:=(Kp.trans k1 kb).drew
 have jd:Kp wb wb.drew:=(Kp.refl _).drew
 refine wp_region_held_drew (S:=(fun w':World=>w'.cell? ⟨B5,0,none⟩=some (.int .u64 X1)∧w'.cell? ⟨B5,1,none⟩=some (.int .u64 X2)∧w'.cell? ⟨B3,0,none⟩=some (.bool s)∧w'.cell? ⟨B3,1,none⟩=some (.slice p l c)∧w'.cell? ⟨B3,2,none⟩=some (.slice q k d))) (by kernel_rfl) ⟨kkeep jd y0,kkeep jd y1,kkeep jd v0,kkeep jd v1,kkeep jd v2⟩ (fun _=>?_)
 refine wpAnyH_take (i:=0) (v:=.pointer (some ⟨B5,0,none⟩)) rfl (by kernel_rfl) (by kernel_rfl) (by kernel_rfl) (fun _ _ _ h=>h) (Or.inl ⟨by rfl,fun w _hS=>rfl⟩) ⟨kkeep jd y0,kkeep jd y1,kkeep jd v0,kkeep jd v1,kkeep jd v2⟩ ?_
 try simp only [Act.put,List.getElem_toArray,List.getElem_cons_zero,List.getElem_cons_succ,List.setIfInBounds_toArray,List.set_cons_zero,List.set_cons_succ]
 refine wpAnyH_take (i:=1) (v:=.int .u64 X1) rfl (by kernel_rfl) (by kernel_rfl) (by kernel_rfl) (fun _ _ _ h=>h) (Or.inl ⟨by rfl,fun w _hS=>by simp [go_sem,_hS.1]⟩) ⟨kkeep jd y0,kkeep jd y1,kkeep jd v0,kkeep jd v1,kkeep jd v2⟩ ?_
 try simp only [Act.put,List.getElem_toArray,List.getElem_cons_zero,List.getElem_cons_succ,List.setIfInBounds_toArray,List.set_cons_zero,List.set_cons_succ]
 refine wpAnyH_take (i:=2) (v:=.bool true) rfl (by kernel_rfl) (by kernel_rfl) (by kernel_rfl) (fun _ _ _ h=>h) (Or.inl ⟨by rfl,fun w _hS=>(by go_simp <;> (try with_reducible rfl))⟩) ⟨kkeep jd y0,kkeep jd y1,kkeep jd v0,kkeep jd v1,kkeep jd v2⟩ ?_
 try simp only [Act.put,List.getElem_toArray,List.getElem_cons_zero,List.getElem_cons_succ,List.setIfInBounds_toArray,List.set_cons_zero,List.set_cons_succ]
 refine wpAnyH_take (i:=3) (v:=.bool true) rfl (by kernel_rfl) (by kernel_rfl) (by kernel_rfl) (fun _ _ _ h=>h) (Or.inl ⟨by rfl,fun w _hS=>rfl⟩) ⟨kkeep jd y0,kkeep jd y1,kkeep jd v0,kkeep jd v1,kkeep jd v2⟩ ?_
 try simp only [Act.put,List.getElem_toArray,List.getElem_cons_zero,List.getElem_cons_succ,List.setIfInBounds_toArray,List.set_cons_zero,List.set_cons_succ]
 refine wpAnyH_take (i:=4) (v:=undef) rfl (by kernel_rfl) (by kernel_rfl) (by kernel_rfl) (fun _ _ _ h=>h) (Or.inr ⟨by rfl,rfl⟩) ⟨kkeep jd y0,kkeep jd y1,kkeep jd v0,kkeep jd v1,kkeep jd v2⟩ ?_
 try simp only [Act.put,List.getElem_toArray,List.getElem_cons_zero,List.getElem_cons_succ,List.setIfInBounds_toArray,List.set_cons_zero,List.set_cons_succ]
 refine wpAnyH_take (i:=5) (v:=undef) rfl (by kernel_rfl) (by kernel_rfl) (by kernel_rfl) (fun _ _ _ h=>h) (Or.inr ⟨by rfl,rfl⟩) ⟨kkeep jd y0,kkeep jd y1,kkeep jd v0,kkeep jd v1,kkeep jd v2⟩ ?_
 try simp only [Act.put,List.getElem_toArray,List.getElem_cons_zero,List.getElem_cons_succ,List.setIfInBounds_toArray,List.set_cons_zero,List.set_cons_succ]
 refine wpAnyH_take (i:=7) (v:=undef) rfl (by kernel_rfl) (by kernel_rfl) (by kernel_rfl) (fun _ _ _ h=>h) (Or.inr ⟨by rfl,rfl⟩) ⟨kkeep jd y0,kkeep jd y1,kkeep jd v0,kkeep jd v1,kkeep jd v2⟩ ?_
 try simp only [Act.put,List.getElem_toArray,List.getElem_cons_zero,List.getElem_cons_succ,List.setIfInBounds_toArray,List.set_cons_zero,List.set_cons_succ]
 refine wpAnyH_ready (rs:=[6]) (by kernel_rfl) (by simp) ?_
 refine AllReadyH.cons rfl (fun K hK=>?_) AllReadyH.nil
 refine if_no (by rfl) ?_
 refine hK.out _ _ ⟨kkeep jd y0,kkeep jd y1,kkeep jd v0,kkeep jd v1,kkeep jd v2⟩ (fun _=>?_)
 clear hK K
 try simp only [Act.put,List.getElem_toArray,List.getElem_cons_zero,List.getElem_cons_succ,List.setIfInBounds_toArray,List.set_cons_zero,List.set_cons_succ]
 refine wpAnyH_ready (rs:=[8]) (by kernel_rfl) (by simp) ?_
 refine AllReadyH.cons rfl (fun K hK=>?_) AllReadyH.nil
 refine if_no (by rfl) ?_
 refine hK.out _ _ ⟨kkeep jd y0,kkeep jd y1,kkeep jd v0,kkeep jd v1,kkeep jd v2⟩ (fun _=>?_)
 clear hK K
 try simp only [Act.put,List.getElem_toArray,List.getElem_cons_zero,List.getElem_cons_succ,List.setIfInBounds_toArray,List.set_cons_zero,List.set_cons_succ]
 refine wpAnyH_take (i:=9) (v:=undef) rfl (by kernel_rfl) (by kernel_rfl) (by kernel_rfl) (fun _ _ _ h=>h) (Or.inr ⟨by rfl,rfl⟩) ⟨kkeep jd y0,kkeep jd y1,kkeep jd v0,kkeep jd v1,kkeep jd v2⟩ ?_
 try simp only [Act.put,List.getElem_toArray,List.getElem_cons_zero,List.getElem_cons_succ,List.setIfInBounds_toArray,List.set_cons_zero,List.set_cons_succ]
 refine wpAnyH_take (i:=10) (v:=.bool true) rfl (by kernel_rfl) (by kernel_rfl) (by kernel_rfl) (fun _ _ _ h=>h) (Or.inl ⟨by rfl,fun w _hS=>rfl⟩) ⟨kkeep jd y0,kkeep jd y1,kkeep jd v0,kkeep jd v1,kkeep jd v2⟩ ?_
 try simp only [Act.put,List.getElem_toArray,List.getElem_cons_zero,List.getElem_cons_succ,List.setIfInBounds_toArray,List.set_cons_zero,List.set_cons_succ]
 refine wpAnyH_take (i:=11) (v:=.bool true) rfl (by kernel_rfl) (by kernel_rfl) (by kernel_rfl) (fun _ _ _ h=>h) (Or.inl ⟨by rfl,fun w _hS=>rfl⟩) ⟨kkeep jd y0,kkeep jd y1,kkeep jd v0,kkeep jd v1,kkeep jd v2⟩ ?_
 try simp only [Act.put,List.getElem_toArray,List.getElem_cons_zero,List.getElem_cons_succ,List.setIfInBounds_toArray,List.set_cons_zero,List.set_cons_succ]
 refine wpAnyH_take (i:=12) (v:=.pointer (some ⟨B5,1,none⟩)) rfl (by kernel_rfl) (by kernel_rfl) (by kernel_rfl) (fun _ _ _ h=>h) (Or.inl ⟨by rfl,fun w _hS=>rfl⟩) ⟨kkeep jd y0,kkeep jd y1,kkeep jd v0,kkeep jd v1,kkeep jd v2⟩ ?_
 try simp only [Act.put,List.getElem_toArray,List.getElem_cons_zero,List.getElem_cons_succ,List.setIfInBounds_toArray,List.set_cons_zero,List.set_cons_succ]
 refine wpAnyH_take (i:=13) (v:=.int .u64 X2) rfl (by kernel_rfl) (by kernel_rfl) (by kernel_rfl) (fun _ _ _ h=>h) (Or.inl ⟨by rfl,fun w _hS=>by simp [go_sem,_hS.2.1]⟩) ⟨kkeep jd y0,kkeep jd y1,kkeep jd v0,kkeep jd v1,kkeep jd v2⟩ ?_
 try simp only [Act.put,List.getElem_toArray,List.getElem_cons_zero,List.getElem_cons_succ,List.setIfInBounds_toArray,List.set_cons_zero,List.set_cons_succ]
 refine wpAnyH_take (i:=14) (v:=.bool false) rfl (by kernel_rfl) (by kernel_rfl) (by kernel_rfl) (fun _ _ _ h=>h) (Or.inl ⟨by rfl,fun w _hS=>(by go_simp <;> (try with_reducible rfl))⟩) ⟨kkeep jd y0,kkeep jd y1,kkeep jd v0,kkeep jd v1,kkeep jd v2⟩ ?_
 try simp only [Act.put,List.getElem_toArray,List.getElem_cons_zero,List.getElem_cons_succ,List.setIfInBounds_toArray,List.set_cons_zero,List.set_cons_succ]
 refine wpAnyH_take (i:=15) (v:=.bool false) rfl (by kernel_rfl) (by kernel_rfl) (by kernel_rfl) (fun _ _ _ h=>h) (Or.inl ⟨by rfl,fun w _hS=>rfl⟩) ⟨kkeep jd y0,kkeep jd y1,kkeep jd v0,kkeep jd v1,kkeep jd v2⟩ ?_
 try simp only [Act.put,List.getElem_toArray,List.getElem_cons_zero,List.getElem_cons_succ,List.setIfInBounds_toArray,List.set_cons_zero,List.set_cons_succ]
 refine wpAnyH_take (i:=16) (v:=.agg #[.bool s,.slice p l c,.slice q k d]) rfl (by kernel_rfl) (by kernel_rfl) (by kernel_rfl) (fun _ _ _ h=>h) (Or.inl ⟨by rfl,fun w _hS=>exL rfl _ rfl (load43 w B3 s p l c q k d _hS.2.2.1 _hS.2.2.2.1 _hS.2.2.2.2)⟩) ⟨kkeep jd y0,kkeep jd y1,kkeep jd v0,kkeep jd v1,kkeep jd v2⟩ ?_
 try simp only [Act.put,List.getElem_toArray,List.getElem_cons_zero,List.getElem_cons_succ,List.setIfInBounds_toArray,List.set_cons_zero,List.set_cons_succ]
 refine wpAnyH_take (i:=17) (v:=.pointer (some ⟨B5,1,none⟩)) rfl (by kernel_rfl) (by kernel_rfl) (by kernel_rfl) (fun _ _ _ h=>h) (Or.inl ⟨by rfl,fun w _hS=>rfl⟩) ⟨kkeep jd y0,kkeep jd y1,kkeep jd v0,kkeep jd v1,kkeep jd v2⟩ ?_
 try simp only [Act.put,List.getElem_toArray,List.getElem_cons_zero,List.getElem_cons_succ,List.setIfInBounds_toArray,List.set_cons_zero,List.set_cons_succ]
 refine wpAnyH_take (i:=18) (v:=.int .u64 X2) rfl (by kernel_rfl) (by kernel_rfl) (by kernel_rfl) (fun _ _ _ h=>h) (Or.inl ⟨by rfl,fun w _hS=>by simp [go_sem,_hS.2.1]⟩) ⟨kkeep jd y0,kkeep jd y1,kkeep jd v0,kkeep jd v1,kkeep jd v2⟩ ?_
 try simp only [Act.put,List.getElem_toArray,List.getElem_cons_zero,List.getElem_cons_succ,List.setIfInBounds_toArray,List.set_cons_zero,List.set_cons_succ]
 refine wpAnyH_ready (rs:=[19]) (by kernel_rfl) (by simp) ?_
 refine AllReadyH.cons rfl (fun K hK=>?_) AllReadyH.nil
 rw [if_pos (by rfl)]
 go_simp
 refine (hbH _).mono ?_
 rintro e W5 ⟨s2,p2,l2,c2,q2,k2,d2,rfl,D3,g5⟩
 have j5:=jd.trans g5
 have hcH9:=hcH W5 s2 p2 l2 c2 q2 k2 d2 (Kp.trans (Kp.trans k1 kb) j5) D3
 go_wp2_with fail
 refine hK.out _ _ ⟨kkeep j5 y0,kkeep j5 y1,kkeep j5 v0,kkeep j5 v1,kkeep j5 v2⟩ (fun _=>?_)
 clear hK K
 try simp only [Act.put,List.getElem_toArray,List.getElem_cons_zero,List.getElem_cons_succ,List.setIfInBounds_toArray,List.set_cons_zero,List.set_cons_succ]
 refine wpAnyH_ready (rs:=[20]) (by kernel_rfl) (by simp) ?_
 refine AllReadyH.cons rfl (fun K hK=>?_) AllReadyH.nil
 rw [if_pos (by rfl)]
 go_simp
 refine hcH9.mono ?_
 rintro e W6 ⟨rfl,g6⟩
 have j6:=j5.trans g6
 go_wp2_with fail
 refine hK.out _ _ ⟨kkeep j6 y0,kkeep j6 y1,kkeep j6 v0,kkeep j6 v1,kkeep j6 v2⟩ (fun _=>?_)
 clear hK K
 try simp only [Act.put,List.getElem_toArray,List.getElem_cons_zero,List.getElem_cons_succ,List.setIfInBounds_toArray,List.set_cons_zero,List.set_cons_succ]
 refine wpAnyH_take (i:=21) (v:=.bool true) rfl (by kernel_rfl) (by kernel_rfl) (by kernel_rfl) (fun _ _ _ h=>h) (Or.inl ⟨by rfl,fun w _hS=>(by go_simp <;> (try with_reducible rfl))⟩) ⟨kkeep j6 y0,kkeep j6 y1,kkeep j6 v0,kkeep j6 v1,kkeep j6 v2⟩ ?_
 try simp only [Act.put,List.getElem_toArray,List.getElem_cons_zero,List.getElem_cons_succ,List.setIfInBounds_toArray,List.set_cons_zero,List.set_cons_succ]
 refine wpAnyH_take (i:=22) (v:=.bool true) rfl (by kernel_rfl) (by kernel_rfl) (by kernel_rfl) (fun _ _ _ h=>h) (Or.inl ⟨by rfl,fun w _hS=>rfl⟩) ⟨kkeep j6 y0,kkeep j6 y1,kkeep j6 v0,kkeep j6 v1,kkeep j6 v2⟩ ?_
 try simp only [Act.put,List.getElem_toArray,List.getElem_cons_zero,List.getElem_cons_succ,List.setIfInBounds_toArray,List.set_cons_zero,List.set_cons_succ]
 refine wpAnyH_take (i:=23) (v:=.bool true) rfl (by kernel_rfl) (by kernel_rfl) (by kernel_rfl) (fun _ _ _ h=>h) (Or.inl ⟨by rfl,fun w _hS=>rfl⟩) ⟨kkeep j6 y0,kkeep j6 y1,kkeep j6 v0,kkeep j6 v1,kkeep j6 v2⟩ ?_
 try simp only [Act.put,List.getElem_toArray,List.getElem_cons_zero,List.getElem_cons_succ,List.setIfInBounds_toArray,List.set_cons_zero,List.set_cons_succ]
 refine wpAnyH_take (i:=24) (v:=.bool true) rfl (by kernel_rfl) (by kernel_rfl) (by kernel_rfl) (fun _ _ _ h=>h) (Or.inl ⟨by rfl,fun w _hS=>rfl⟩) ⟨kkeep j6 y0,kkeep j6 y1,kkeep j6 v0,kkeep j6 v1,kkeep j6 v2⟩ ?_
 try simp only [Act.put,List.getElem_toArray,List.getElem_cons_zero,List.getElem_cons_succ,List.setIfInBounds_toArray,List.set_cons_zero,List.set_cons_succ]
 refine wpAnyH_done (by kernel_rfl) ?_ _
 go_wp2
 exact BR (v:=.bool true) (by simp [results,Tryz.results28,go_sem]) rfl ⟨rfl,(Kp.trans (Kp.trans k1 kb) j6)⟩
theorem holdsII_ (a b:Nat) (X1 X2:Int) s p l c q k d (w:World) (hO:∀ W:World,Calls Tryz.prog 19 #[.agg #[.float .f64 a,.float .f64 b]] W fun e w'=>e=.returned (.agg #[.int .u64 X1,.int .u64 X2])∧Kp W w') (hV:∀ W:World,Calls Tryz.prog 40 #[.agg #[.int .u64 X1,.int .u64 X2]] W fun e w'=>e=.returned (.bool true)∧Kp W w') (tE:(X1 == 9218868437227405312)=false) (t1:(X1 == 18442240474082181120)=true) (t2:(X2 == 9218868437227405312)=true):Calls Tryz.prog 28 #[.agg #[.float .f64 a,.float .f64 b],.agg #[.bool s,.slice p l c,.slice q k d]] w fun e w'=>e=.returned (.bool true)∧Kp w w':=by
 have qb:=H3c.new (w.alloc (.cells #[.float .f64 a,.float .f64 b] 25)) (.bool s) (.slice p l c) (.slice q k d) 43
 rw [show (w.alloc (.cells #[.float .f64 a,.float .f64 b] 25)).heap.size=w.heap.size+1 by simp] at qb
 go_enter Tryz.func28,Tryz.ntmps28
 go_upto_region 2 with (first | (go_at_call 19;refine (hO _).mono ?_;rintro e w1 ⟨rfl,g1⟩))
 have k1:Kp w (w1.alloc (.cells #[.int .u64 X1,.int .u64 X2] 33)):=(Kp.trans (((Kp.refl w).alloc _).alloc _) g1).alloc _
 have qy:=Fq.H2.new w1 (.int .u64 X1) (.int .u64 X2) 33
 replace qb:=H3c.keep qb (g1.alloc (.cells #[.int .u64 X1,.int .u64 X2] 33))
 clear g1
 generalize w1.alloc (.cells #[.int .u64 X1,.int .u64 X2] 33)=W at *
 generalize w1.heap.size=B5 at *
 generalize w.heap.size+1=B3 at *
 obtain ⟨y0,y1,yz0,yz1⟩:=id qy
 obtain ⟨v0,v1,v2,vz0,vz1,vz2⟩:=id qb
 go_region_held3 (fun w'=>w'.cell? ⟨B5,0,none⟩=some (.int .u64 X1)∧w'.cell? ⟨B5,1,none⟩=some (.int .u64 X2)) (first | (with_reducible exact ⟨y0,y1⟩) | (exact ⟨kkeep (W:=W) (Kp.drew (Kp.refl _)) y0,kkeep (W:=W) (Kp.drew (Kp.refl _)) y1⟩) | (exact ⟨kkeep ka y0,kkeep ka y1⟩) | (exact ⟨kkeep kb y0,kkeep kb y1⟩)) (first | (go_at_call 40;refine (hV _).mono ?_;rintro e wa ⟨rfl,ga⟩;have ka:Kp W wa:=Kp.trans (Kp.drew (Kp.refl _)) ga) | (go_at_call 24;refine (rempty9_ _).mono ?_;rintro e wb ⟨rfl,gb⟩;have kb:Kp W wb:=Kp.trans ka gb))
 go_upto_region 4 with fail
 replace y0:=kkeep kb y0
 replace y1:=kkeep kb y1
 replace v0:=kkeep kb v0
 replace v1:=kkeep kb v1
 replace v2:=kkeep kb v2
 have kd:Kp w wb.drew:=(Kp.trans k1 kb).drew
 have jd:Kp wb wb.drew:=(Kp.refl _).drew
 refine wp_region_held_drew (S:=(fun w':World=>w'.cell? ⟨B5,0,none⟩=some (.int .u64 X1)∧w'.cell? ⟨B5,1,none⟩=some (.int .u64 X2)∧w'.cell? ⟨B3,0,none⟩=some (.bool s)∧w'.cell? ⟨B3,1,none⟩=some (.slice p l c)∧w'.cell? ⟨B3,2,none⟩=some (.slice q k d))) (by kernel_rfl) ⟨kkeep jd y0,kkeep jd y1,kkeep jd v0,kkeep jd v1,kkeep jd v2⟩ (fun _=>?_)
 refine wpAnyH_take (i:=0) (v:=.pointer (some ⟨B5,0,none⟩)) rfl (by kernel_rfl) (by kernel_rfl) (by kernel_rfl) (fun _ _ _ h=>h) (Or.inl ⟨by rfl,fun w _hS=>rfl⟩) ⟨kkeep jd y0,kkeep jd y1,kkeep jd v0,kkeep jd v1,kkeep jd v2⟩ ?_
 try simp only [Act.put,List.getElem_toArray,List.getElem_cons_zero,List.getElem_cons_succ,List.setIfInBounds_toArray,List.set_cons_zero,List.set_cons_succ]
 refine wpAnyH_take (i:=1) (v:=.int .u64 X1) rfl (by kernel_rfl) (by kernel_rfl) (by kernel_rfl) (fun _ _ _ h=>h) (Or.inl ⟨by rfl,fun w _hS=>by simp [go_sem,_hS.1]⟩) ⟨kkeep jd y0,kkeep jd y1,kkeep jd v0,kkeep jd v1,kkeep jd v2⟩ ?_
 try simp only [Act.put,List.getElem_toArray,List.getElem_cons_zero,List.getElem_cons_succ,List.setIfInBounds_toArray,List.set_cons_zero,List.set_cons_succ]
 refine wpAnyH_take (i:=2) (v:=.bool true) rfl (by kernel_rfl) (by kernel_rfl) (by kernel_rfl) (fun _ _ _ h=>h) (Or.inl ⟨by rfl,fun w _hS=>(by go_simp <;> (try with_reducible rfl))⟩) ⟨kkeep jd y0,kkeep jd y1,kkeep jd v0,kkeep jd v1,kkeep jd v2⟩ ?_
 try simp only [Act.put,List.getElem_toArray,List.getElem_cons_zero,List.getElem_cons_succ,List.setIfInBounds_toArray,List.set_cons_zero,List.set_cons_succ]
 refine wpAnyH_take (i:=3) (v:=.bool true) rfl (by kernel_rfl) (by kernel_rfl) (by kernel_rfl) (fun _ _ _ h=>h) (Or.inl ⟨by rfl,fun w _hS=>rfl⟩) ⟨kkeep jd y0,kkeep jd y1,kkeep jd v0,kkeep jd v1,kkeep jd v2⟩ ?_
 try simp only [Act.put,List.getElem_toArray,List.getElem_cons_zero,List.getElem_cons_succ,List.setIfInBounds_toArray,List.set_cons_zero,List.set_cons_succ]
 refine wpAnyH_take (i:=4) (v:=undef) rfl (by kernel_rfl) (by kernel_rfl) (by kernel_rfl) (fun _ _ _ h=>h) (Or.inr ⟨by rfl,rfl⟩) ⟨kkeep jd y0,kkeep jd y1,kkeep jd v0,kkeep jd v1,kkeep jd v2⟩ ?_
 try simp only [Act.put,List.getElem_toArray,List.getElem_cons_zero,List.getElem_cons_succ,List.setIfInBounds_toArray,List.set_cons_zero,List.set_cons_succ]
 refine wpAnyH_take (i:=5) (v:=undef) rfl (by kernel_rfl) (by kernel_rfl) (by kernel_rfl) (fun _ _ _ h=>h) (Or.inr ⟨by rfl,rfl⟩) ⟨kkeep jd y0,kkeep jd y1,kkeep jd v0,kkeep jd v1,kkeep jd v2⟩ ?_
 try simp only [Act.put,List.getElem_toArray,List.getElem_cons_zero,List.getElem_cons_succ,List.setIfInBounds_toArray,List.set_cons_zero,List.set_cons_succ]
 refine wpAnyH_take (i:=7) (v:=undef) rfl (by kernel_rfl) (by kernel_rfl) (by kernel_rfl) (fun _ _ _ h=>h) (Or.inr ⟨by rfl,rfl⟩) ⟨kkeep jd y0,kkeep jd y1,kkeep jd v0,kkeep jd v1,kkeep jd v2⟩ ?_
 try simp only [Act.put,List.getElem_toArray,List.getElem_cons_zero,List.getElem_cons_succ,List.setIfInBounds_toArray,List.set_cons_zero,List.set_cons_succ]
 refine wpAnyH_ready (rs:=[6]) (by kernel_rfl) (by simp) ?_
 refine AllReadyH.cons rfl (fun K hK=>?_) AllReadyH.nil
 refine if_no (by rfl) ?_
 refine hK.out _ _ ⟨kkeep jd y0,kkeep jd y1,kkeep jd v0,kkeep jd v1,kkeep jd v2⟩ (fun _=>?_)
 clear hK K
 try simp only [Act.put,List.getElem_toArray,List.getElem_cons_zero,List.getElem_cons_succ,List.setIfInBounds_toArray,List.set_cons_zero,List.set_cons_succ]
 refine wpAnyH_ready (rs:=[8]) (by kernel_rfl) (by simp) ?_
 refine AllReadyH.cons rfl (fun K hK=>?_) AllReadyH.nil
 refine if_no (by rfl) ?_
 refine hK.out _ _ ⟨kkeep jd y0,kkeep jd y1,kkeep jd v0,kkeep jd v1,kkeep jd v2⟩ (fun _=>?_)
 clear hK K
 try simp only [Act.put,List.getElem_toArray,List.getElem_cons_zero,List.getElem_cons_succ,List.setIfInBounds_toArray,List.set_cons_zero,List.set_cons_succ]
 refine wpAnyH_take (i:=9) (v:=undef) rfl (by kernel_rfl) (by kernel_rfl) (by kernel_rfl) (fun _ _ _ h=>h) (Or.inr ⟨by rfl,rfl⟩) ⟨kkeep jd y0,kkeep jd y1,kkeep jd v0,kkeep jd v1,kkeep jd v2⟩ ?_
 try simp only [Act.put,List.getElem_toArray,List.getElem_cons_zero,List.getElem_cons_succ,List.setIfInBounds_toArray,List.set_cons_zero,List.set_cons_succ]
 refine wpAnyH_take (i:=10) (v:=.bool true) rfl (by kernel_rfl) (by kernel_rfl) (by kernel_rfl) (fun _ _ _ h=>h) (Or.inl ⟨by rfl,fun w _hS=>rfl⟩) ⟨kkeep jd y0,kkeep jd y1,kkeep jd v0,kkeep jd v1,kkeep jd v2⟩ ?_
 try simp only [Act.put,List.getElem_toArray,List.getElem_cons_zero,List.getElem_cons_succ,List.setIfInBounds_toArray,List.set_cons_zero,List.set_cons_succ]
 refine wpAnyH_take (i:=11) (v:=.bool true) rfl (by kernel_rfl) (by kernel_rfl) (by kernel_rfl) (fun _ _ _ h=>h) (Or.inl ⟨by rfl,fun w _hS=>rfl⟩) ⟨kkeep jd y0,kkeep jd y1,kkeep jd v0,kkeep jd v1,kkeep jd v2⟩ ?_
 try simp only [Act.put,List.getElem_toArray,List.getElem_cons_zero,List.getElem_cons_succ,List.setIfInBounds_toArray,List.set_cons_zero,List.set_cons_succ]
 refine wpAnyH_take (i:=12) (v:=.pointer (some ⟨B5,1,none⟩)) rfl (by kernel_rfl) (by kernel_rfl) (by kernel_rfl) (fun _ _ _ h=>h) (Or.inl ⟨by rfl,fun w _hS=>rfl⟩) ⟨kkeep jd y0,kkeep jd y1,kkeep jd v0,kkeep jd v1,kkeep jd v2⟩ ?_
 try simp only [Act.put,List.getElem_toArray,List.getElem_cons_zero,List.getElem_cons_succ,List.setIfInBounds_toArray,List.set_cons_zero,List.set_cons_succ]
 refine wpAnyH_take (i:=13) (v:=.int .u64 X2) rfl (by kernel_rfl) (by kernel_rfl) (by kernel_rfl) (fun _ _ _ h=>h) (Or.inl ⟨by rfl,fun w _hS=>by simp [go_sem,_hS.2.1]⟩) ⟨kkeep jd y0,kkeep jd y1,kkeep jd v0,kkeep jd v1,kkeep jd v2⟩ ?_
 try simp only [Act.put,List.getElem_toArray,List.getElem_cons_zero,List.getElem_cons_succ,List.setIfInBounds_toArray,List.set_cons_zero,List.set_cons_succ]
 refine wpAnyH_take (i:=14) (v:=.bool true) rfl (by kernel_rfl) (by kernel_rfl) (by kernel_rfl) (fun _ _ _ h=>h) (Or.inl ⟨by rfl,fun w _hS=>(by go_simp <;> (try with_reducible rfl))⟩) ⟨kkeep jd y0,kkeep jd y1,kkeep jd v0,kkeep jd v1,kkeep jd v2⟩ ?_
 try simp only [Act.put,List.getElem_toArray,List.getElem_cons_zero,List.getElem_cons_succ,List.setIfInBounds_toArray,List.set_cons_zero,List.set_cons_succ]
 refine wpAnyH_take (i:=15) (v:=.bool true) rfl (by kernel_rfl) (by kernel_rfl) (by kernel_rfl) (fun _ _ _ h=>h) (Or.inl ⟨by rfl,fun w _hS=>rfl⟩) ⟨kkeep jd y0,kkeep jd y1,kkeep jd v0,kkeep jd v1,kkeep jd v2⟩ ?_
 try simp only [Act.put,List.getElem_toArray,List.getElem_cons_zero,List.getElem_cons_succ,List.setIfInBounds_toArray,List.set_cons_zero,List.set_cons_succ]
 refine wpAnyH_take (i:=16) (v:=undef) rfl (by kernel_rfl) (by kernel_rfl) (by kernel_rfl) (fun _ _ _ h=>h) (Or.inr ⟨by rfl,rfl⟩) ⟨kkeep jd y0,kkeep jd y1,kkeep jd v0,kkeep jd v1,kkeep jd v2⟩ ?_
 try simp only [Act.put,List.getElem_toArray,List.getElem_cons_zero,List.getElem_cons_succ,List.setIfInBounds_toArray,List.set_cons_zero,List.set_cons_succ]
 refine wpAnyH_take (i:=17) (v:=undef) rfl (by kernel_rfl) (by kernel_rfl) (by kernel_rfl) (fun _ _ _ h=>h) (Or.inr ⟨by rfl,rfl⟩) ⟨kkeep jd y0,kkeep jd y1,kkeep jd v0,kkeep jd v1,kkeep jd v2⟩ ?_
 try simp only [Act.put,List.getElem_toArray,List.getElem_cons_zero,List.getElem_cons_succ,List.setIfInBounds_toArray,List.set_cons_zero,List.set_cons_succ]
 refine wpAnyH_take (i:=18) (v:=undef) rfl (by kernel_rfl) (by kernel_rfl) (by kernel_rfl) (fun _ _ _ h=>h) (Or.inr ⟨by rfl,rfl⟩) ⟨kkeep jd y0,kkeep jd y1,kkeep jd v0,kkeep jd v1,kkeep jd v2⟩ ?_
 try simp only [Act.put,List.getElem_toArray,List.getElem_cons_zero,List.getElem_cons_succ,List.setIfInBounds_toArray,List.set_cons_zero,List.set_cons_succ]
 refine wpAnyH_ready (rs:=[19]) (by kernel_rfl) (by simp) ?_
 refine AllReadyH.cons rfl (fun K hK=>?_) AllReadyH.nil
 refine if_no (by rfl) ?_
 refine hK.out _ _ ⟨kkeep jd y0,kkeep jd y1,kkeep jd v0,kkeep jd v1,kkeep jd v2⟩ (fun _=>?_)
 clear hK K
 try simp only [Act.put,List.getElem_toArray,List.getElem_cons_zero,List.getElem_cons_succ,List.setIfInBounds_toArray,List.set_cons_zero,List.set_cons_succ]
 refine wpAnyH_ready (rs:=[20]) (by kernel_rfl) (by simp) ?_
 refine AllReadyH.cons rfl (fun K hK=>?_) AllReadyH.nil
 refine if_no (by rfl) ?_
 refine hK.out _ _ ⟨kkeep jd y0,kkeep jd y1,kkeep jd v0,kkeep jd v1,kkeep jd v2⟩ (fun _=>?_)
 clear hK K
 try simp only [Act.put,List.getElem_toArray,List.getElem_cons_zero,List.getElem_cons_succ,List.setIfInBounds_toArray,List.set_cons_zero,List.set_cons_succ]
 refine wpAnyH_take (i:=21) (v:=undef) rfl (by kernel_rfl) (by kernel_rfl) (by kernel_rfl) (fun _ _ _ h=>h) (Or.inr ⟨by rfl,rfl⟩) ⟨kkeep jd y0,kkeep jd y1,kkeep jd v0,kkeep jd v1,kkeep jd v2⟩ ?_
 try simp only [Act.put,List.getElem_toArray,List.getElem_cons_zero,List.getElem_cons_succ,List.setIfInBounds_toArray,List.set_cons_zero,List.set_cons_succ]
 refine wpAnyH_take (i:=22) (v:=.bool true) rfl (by kernel_rfl) (by kernel_rfl) (by kernel_rfl) (fun _ _ _ h=>h) (Or.inl ⟨by rfl,fun w _hS=>rfl⟩) ⟨kkeep jd y0,kkeep jd y1,kkeep jd v0,kkeep jd v1,kkeep jd v2⟩ ?_
 try simp only [Act.put,List.getElem_toArray,List.getElem_cons_zero,List.getElem_cons_succ,List.setIfInBounds_toArray,List.set_cons_zero,List.set_cons_succ]
 refine wpAnyH_take (i:=23) (v:=.bool true) rfl (by kernel_rfl) (by kernel_rfl) (by kernel_rfl) (fun _ _ _ h=>h) (Or.inl ⟨by rfl,fun w _hS=>rfl⟩) ⟨kkeep jd y0,kkeep jd y1,kkeep jd v0,kkeep jd v1,kkeep jd v2⟩ ?_
 try simp only [Act.put,List.getElem_toArray,List.getElem_cons_zero,List.getElem_cons_succ,List.setIfInBounds_toArray,List.set_cons_zero,List.set_cons_succ]
 refine wpAnyH_take (i:=24) (v:=.bool true) rfl (by kernel_rfl) (by kernel_rfl) (by kernel_rfl) (fun _ _ _ h=>h) (Or.inl ⟨by rfl,fun w _hS=>rfl⟩) ⟨kkeep jd y0,kkeep jd y1,kkeep jd v0,kkeep jd v1,kkeep jd v2⟩ ?_
 try simp only [Act.put,List.getElem_toArray,List.getElem_cons_zero,List.getElem_cons_succ,List.setIfInBounds_toArray,List.set_cons_zero,List.set_cons_succ]
 refine wpAnyH_done (by kernel_rfl) ?_ _
 go_wp2
 exact BR (v:=.bool true) (by simp [results,Tryz.results28,go_sem]) rfl ⟨rfl,kd⟩
end Go.Proofs.YtcfnialfpblfmaaGreatDoor
