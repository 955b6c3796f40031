import Derived.Test.YtcfnialfpblfmaaGreatDoorKPQi
import Derived.Laws.OwnMore
set_option maxHeartbeats 4000000
set_option maxRecDepth 20000
namespace Go.Proofs.YtcfnialfpblfmaaGreatDoor
open Go.RowKit
set_option linter.unusedVariables false
set_option linter.unusedSimpArgs false
theorem World.ownsRow.kpO {w w':World} {base e size:Nat} {v:Value} {n:Nat} {xs:List Value} (h:w.ownsRow base e size v n xs) (k:Kp w w'):w'.ownsRow base e size v n xs:=by
  obtain ⟨h1,h2⟩:=h
  refine ⟨h1, ?_⟩
  rcases h2 with h2 | ⟨g,cap,cur,a1,a2,a3,a4⟩
  · exact Or.inl h2
  · exact Or.inr ⟨g,cap,cur,a1,a2,by rw [Below.block k g (lt_of_block a3)];exact a3,a4⟩
theorem hid_of {p:Prop} (h:p):Hid p:=h
theorem inf64p:∃ i,Tryz.prog.info? 31 = some i∧i.zero = some (.int .u64 0)∧i.size = 1∧i.bytes = 8:=info_parts (by kernel_rfl)
theorem pt1_ (X1 X2 Z1 Z2 Y1 Y2 n m1 M:Int) (e0 f1 f2 DF:Bool) (w:World) (hT:TU7 w)
    (hRd:∀ W:World,Calls Tryz.prog 22 #[.agg #[.int .u64 X1,.int .u64 X2]] W fun e w'=>e = .returned (.agg #[.int .u64 Z1,.int .u64 Z2])∧Kp W w')
    (hL:∀ W:World,Calls Tryz.prog 23 #[.int .i64 n] W fun e w'=>e = .returned (.int .i64 m1)∧Kp W w')
    (hM:(m1 < 1∧M = 2)∨(¬ m1 < 1∧M = m1))
    (he1:((Z1 == 9218868437227405312) && (Z2 == 18442240474082181120)) = e0)
    (hF1:∀ W:World,Calls Tryz.prog 38 #[.int .u64 Z1] W fun e w'=>e = .returned (.bool f1)∧Kp W w')
    (hF2:∀ W:World,Calls Tryz.prog 38 #[.int .u64 Z2] W fun e w'=>e = .returned (.bool f2)∧Kp W w')
    (hDF:DF = (e0 || !f1 || !f2))
    (hY:(DF = true∧Y1 = 13832806255468478464∧Y2 = 4613937818241073152)∨(DF = false∧Y1 = Z1∧Y2 = Z2)) (a1 a2:Bool) (zs:List Int)
    (hA1:∀ W:World,Calls Tryz.prog 39 #[.int .u64 0,.int .u64 Y1] W fun e w'=>e = .returned (.bool a1)∧w' = W)
    (hA2:∀ W:World,Calls Tryz.prog 39 #[.int .u64 Y2,.int .u64 0] W fun e w'=>e = .returned (.bool a2)∧w' = W)
    (hzs:((a1 && a2) = true∧zs = [Y1,Y2,0])∨((a1 && a2) = false∧zs = [Y1,Y2])) (a b SL9 SH9:Nat) (LO HI:Int)
    (hIn:∀ W:World,Calls Tryz.prog 20 #[.agg #[.int .u64 Y1,.int .u64 Y2]] W fun e w'=>e = .returned (.agg #[.float .f64 a,.float .f64 b])∧Kp W w')
    (hP:∀ W:World,TU7 W→Calls Tryz.prog 11 #[.agg #[.float .f64 a,.float .f64 b],.int .i64 M] W fun e w'=>e = .returned (.agg #[.float .f64 SL9,.float .f64 SH9])∧Kp W w')
    (hO:∀ W:World,Calls Tryz.prog 19 #[.agg #[.float .f64 SL9,.float .f64 SH9]] W fun e w'=>e = .returned (.agg #[.int .u64 LO,.int .u64 HI])∧Kp W w')
    (hV:∀ W:World,Calls Tryz.prog 40 #[.agg #[.int .u64 LO,.int .u64 HI]] W fun e w'=>e = .returned (.bool true)∧Kp W w') (tE:(LO == 9218868437227405312) = false) (NX HX LX LS:Int) (nxI hz lsI:Bool) (lw hg:Nat→Bool) (kN kT kL:Nat→Int) (PA PB:Nat→World→Bool→Option Addr→Nat→Nat→Option Addr→Nat→Nat→Prop) (PN PT PL:World→Bool→Option Addr→Nat→Nat→Option Addr→Nat→Nat→Prop)
    (hFA:∀ j:Nat,j < zs.length→∀ W:World,Calls Tryz.prog 26 #[.int .u64 (zs.getD j 0)] W fun e w'=>∃ s2 p2 l2 c2 q2 k2 d2,e = .returned (.agg #[.bool s2,.slice p2 l2 c2,.slice q2 k2 d2])∧PA j w' s2 p2 l2 c2 q2 k2 d2∧Kp W w')
    (hRP:∀ j:Nat,j < zs.length→∀ (W:World) s2 p2 l2 c2 q2 k2 d2,PA j W s2 p2 l2 c2 q2 k2 d2→Calls Tryz.prog 29 #[.agg #[.bool s2,.slice p2 l2 c2,.slice q2 k2 d2],.int .i64 M] W fun e w'=>∃ s p l c q k d,e = .returned (.agg #[.bool s,.slice p l c,.slice q k d])∧PB j w' s p l c q k d∧Kp W w')
    (hHo:∀ j:Nat,j < zs.length→∀ (U W:World) s p l c q k d,PB j U s p l c q k d→Kp U W→Calls Tryz.prog 28 #[.agg #[.float .f64 SL9,.float .f64 SH9],.agg #[.bool s,.slice p l c,.slice q k d]] W fun e w'=>e = .returned (.bool true)∧Kp W w')
    (hUp:∀ W:World,Calls Tryz.prog 41 #[.int .u64 LO] W fun e w'=>e = .returned (.int .u64 NX)∧w' = W)
    (hUq:∀ W:World,Calls Tryz.prog 41 #[.int .u64 HX] W fun e w'=>e = .returned (.int .u64 LX)∧w' = W)
    (hx1:bits BinOp.xor IntKind.u64 HI 9223372036854775808 = HX) (hx2:bits BinOp.xor IntKind.u64 LX 9223372036854775808 = LS)
    (tN:(NX == 9218868437227405312) = nxI) (tZ:(HI == 0) = hz) (tS:(LS == 18442240474082181120) = lsI)
    (hFN:nxI = false→∀ W:World,Calls Tryz.prog 26 #[.int .u64 NX] W fun e w'=>∃ s2 p2 l2 c2 q2 k2 d2,e = .returned (.agg #[.bool s2,.slice p2 l2 c2,.slice q2 k2 d2])∧PN w' s2 p2 l2 c2 q2 k2 d2∧Kp W w') (hFT:∀ W:World,Calls Tryz.prog 26 #[.int .u64 9223372036854775809] W fun e w'=>∃ s2 p2 l2 c2 q2 k2 d2,e = .returned (.agg #[.bool s2,.slice p2 l2 c2,.slice q2 k2 d2])∧PT w' s2 p2 l2 c2 q2 k2 d2∧Kp W w') (hFL:lsI = false→∀ W:World,Calls Tryz.prog 26 #[.int .u64 LS] W fun e w'=>∃ s2 p2 l2 c2 q2 k2 d2,e = .returned (.agg #[.bool s2,.slice p2 l2 c2,.slice q2 k2 d2])∧PL w' s2 p2 l2 c2 q2 k2 d2∧Kp W w')
    (hcN:∀ (j:Nat),j < zs.length→∀ (U W:World) s p l c q k d s2 p2 l2 c2 q2 k2 d2,PB j U s p l c q k d→Kp U W→PN W s2 p2 l2 c2 q2 k2 d2→Calls Tryz.prog 33 #[.agg #[.bool s,.slice p l c,.slice q k d],.agg #[.bool s2,.slice p2 l2 c2,.slice q2 k2 d2]] W fun e w'=>e = .returned (.int .i64 (kN j))∧Kp W w') (hcT:∀ (j:Nat),j < zs.length→∀ (U W:World) s p l c q k d s2 p2 l2 c2 q2 k2 d2,PB j U s p l c q k d→Kp U W→PT W s2 p2 l2 c2 q2 k2 d2→Calls Tryz.prog 33 #[.agg #[.bool s,.slice p l c,.slice q k d],.agg #[.bool s2,.slice p2 l2 c2,.slice q2 k2 d2]] W fun e w'=>e = .returned (.int .i64 (kT j))∧Kp W w') (hcL:∀ (j:Nat),j < zs.length→∀ (U W:World) s p l c q k d s2 p2 l2 c2 q2 k2 d2,PB j U s p l c q k d→Kp U W→PL W s2 p2 l2 c2 q2 k2 d2→Calls Tryz.prog 33 #[.agg #[.bool s,.slice p l c,.slice q k d],.agg #[.bool s2,.slice p2 l2 c2,.slice q2 k2 d2]] W fun e w'=>e = .returned (.int .i64 (kL j))∧Kp W w')
    (hlw0:lw 0 = false) (hhg0:hg 0 = false) (hlw:∀ j,j < zs.length→lw (j + 1) = (lw j || (nxI || decide (kN j < 0)))) (hhg:∀ j,j < zs.length→hg (j + 1) = (hg j || (if hz then decide (0 < kT j) else (lsI || decide (0 < kL j)))))
    (hlwN:lw zs.length = true) (hhgN:hg zs.length = true) (hlen:zs.length≤3)
    (hlv:∀ W:World,TU7 W→Calls Tryz.prog 10 #[] W fun e w'=>e = .returned (.bool true)∧Kp W w'):Calls Tryz.prog 6 #[.agg #[.int .u64 X1,.int .u64 X2],.int .i64 n] w fun e w'=>e = .returned (.bool true)∧Kp w w':=by
  have HH:=hid_of (And.intro hlw (And.intro hhg (And.intro hFN (And.intro hFL (And.intro hcN (And.intro hcT (And.intro hcL (And.intro hHo (And.intro hx1 (And.intro hx2 (And.intro hUq (And.intro hUp (And.intro hFT (And.intro tN (And.intro tZ tS)))))))))))))))
  clear hlw hhg hFN hFL hcN hcT hcL hHo hx1 hx2 hUq hUp hFT tN tZ tS
  have qX:=Fq.H2.new w (.int .u64 X1) (.int .u64 X2) 33
  have kX:Kp w (w.alloc (.cells #[.int .u64 X1,.int .u64 X2] 33)):=(Kp.refl w).alloc _
  go_enter Tryz.func6,Tryz.ntmps6
  go_upto_if 18 with (first | (go_at_call 22;refine (hRd _).mono ?_;rintro e w1 ⟨rfl,g1⟩;obtain ⟨x0,x1,xz0,xz1⟩:=Fq.H2.keep qX g1) | (go_at_call 23;refine (hL _).mono ?_;rintro e w2 ⟨rfl,g2⟩))
  have qZ:=Fq.H2.keep (Fq.H2.put (Fq.H2.keep qX g1) (.int .u64 Z1) (.int .u64 Z2)) g2
  have kw:Kp w w2:=Kp.trans (((Kp.trans kX g1).setCell (Nat.le_refl _) _).setCell (Nat.le_refl _) _) g2
  clear qX kX g1 g2 x0 x1 xz0 xz1
  generalize hB:w.heap.size = B at *
  go_cut [1] (fun s1 wx=>s1 = .int .i64 M∧wx = w2)
  case first =>
    rcases hM with ⟨t,rfl⟩ | ⟨t,rfl⟩
    all_goals (
      go_wp2_with fail
      go_meet
      exact ⟨rfl,rfl⟩)
  case rest =>
  obtain ⟨rfl,rfl⟩:=hcut
  obtain ⟨y0,y1,yz0,yz1⟩:=id qZ
  generalize wc = W4 at *
  go_upto_region 5 with fail
  go_cut [33] (fun s33 wx=>s33 = .bool DF∧Kp W4 wx)
  case first =>
    cases e0
    · cases f1
      · have jd:Kp W4 W4.drew:=(Kp.refl _).drew
        refine wp_region_held_drew (S:=(fun w':World=>w'.cell? ⟨B,0,none⟩ = some (.int .u64 Z1)∧w'.cell? ⟨B,1,none⟩ = some (.int .u64 Z2))) (by kernel_rfl) ⟨kkeep jd y0,kkeep jd y1⟩ (fun _=>?_)
        refine wpAnyH_take (i:=0) (v:=.agg #[.int .u64 Z1,.int .u64 Z2]) rfl (by kernel_rfl) (by kernel_rfl) (by kernel_rfl) (fun _ _ _ h=>h) (Or.inl ⟨by rfl,fun w _hS=>by simp [go_sem,_hS.1,_hS.2]⟩) ⟨kkeep jd y0,kkeep jd y1⟩ ?_
        try simp only [Act.put,List.getElem_toArray,List.getElem_cons_zero,List.getElem_cons_succ,List.setIfInBounds_toArray,List.set_cons_zero,List.set_cons_succ]
        refine wpAnyH_ready (rs:=[1]) (by kernel_rfl) (by simp) ?_
        refine AllReadyH.cons rfl (fun K hK=>?_) AllReadyH.nil
        go_simp
        refine (rempty9_ _).mono ?_
        rintro e W3 ⟨rfl,g3⟩
        have j3:=jd.trans g3
        go_wp2_with fail
        refine hK.out _ _ ⟨kkeep j3 y0,kkeep j3 y1⟩ (fun _=>?_)
        clear hK K
        try simp only [Act.put,List.getElem_toArray,List.getElem_cons_zero,List.getElem_cons_succ,List.setIfInBounds_toArray,List.set_cons_zero,List.set_cons_succ]
        refine wpAnyH_take (i:=2) (v:=.bool false) rfl (by kernel_rfl) (by kernel_rfl) (by kernel_rfl) (fun _ _ _ h=>h) (Or.inl ⟨by rfl,fun w _hS=>(by go_simp;simpa using he1)⟩) ⟨kkeep j3 y0,kkeep j3 y1⟩ ?_
        try simp only [Act.put,List.getElem_toArray,List.getElem_cons_zero,List.getElem_cons_succ,List.setIfInBounds_toArray,List.set_cons_zero,List.set_cons_succ]
        refine wpAnyH_take (i:=3) (v:=.bool false) rfl (by kernel_rfl) (by kernel_rfl) (by kernel_rfl) (fun _ _ _ h=>h) (Or.inl ⟨by rfl,fun w _hS=>rfl⟩) ⟨kkeep j3 y0,kkeep j3 y1⟩ ?_
        try simp only [Act.put,List.getElem_toArray,List.getElem_cons_zero,List.getElem_cons_succ,List.setIfInBounds_toArray,List.set_cons_zero,List.set_cons_succ]
        refine wpAnyH_take (i:=4) (v:=.pointer (some ⟨B,0,none⟩)) rfl (by kernel_rfl) (by kernel_rfl) (by kernel_rfl) (fun _ _ _ h=>h) (Or.inl ⟨by rfl,fun w _hS=>rfl⟩) ⟨kkeep j3 y0,kkeep j3 y1⟩ ?_
        try simp only [Act.put,List.getElem_toArray,List.getElem_cons_zero,List.getElem_cons_succ,List.setIfInBounds_toArray,List.set_cons_zero,List.set_cons_succ]
        refine wpAnyH_take (i:=5) (v:=.int .u64 Z1) rfl (by kernel_rfl) (by kernel_rfl) (by kernel_rfl) (fun _ _ _ h=>h) (Or.inl ⟨by rfl,fun w _hS=>by simp [go_sem,_hS.1]⟩) ⟨kkeep j3 y0,kkeep j3 y1⟩ ?_
        try simp only [Act.put,List.getElem_toArray,List.getElem_cons_zero,List.getElem_cons_succ,List.setIfInBounds_toArray,List.set_cons_zero,List.set_cons_succ]
        refine wpAnyH_ready (rs:=[6]) (by kernel_rfl) (by simp) ?_
        refine AllReadyH.cons rfl (fun K hK=>?_) AllReadyH.nil
        rw [if_pos (by rfl)]
        go_simp
        refine (hF1 _).mono ?_
        rintro e W4 ⟨rfl,g4⟩
        have j4:=j3.trans g4
        go_wp2_with fail
        refine hK.out _ _ ⟨kkeep j4 y0,kkeep j4 y1⟩ (fun _=>?_)
        clear hK K
        try simp only [Act.put,List.getElem_toArray,List.getElem_cons_zero,List.getElem_cons_succ,List.setIfInBounds_toArray,List.set_cons_zero,List.set_cons_succ]
        refine wpAnyH_take (i:=7) (v:=.bool true) rfl (by kernel_rfl) (by kernel_rfl) (by kernel_rfl) (fun _ _ _ h=>h) (Or.inl ⟨by rfl,fun w _hS=>rfl⟩) ⟨kkeep j4 y0,kkeep j4 y1⟩ ?_
        try simp only [Act.put,List.getElem_toArray,List.getElem_cons_zero,List.getElem_cons_succ,List.setIfInBounds_toArray,List.set_cons_zero,List.set_cons_succ]
        refine wpAnyH_take (i:=8) (v:=.bool true) rfl (by kernel_rfl) (by kernel_rfl) (by kernel_rfl) (fun _ _ _ h=>h) (Or.inl ⟨by rfl,fun w _hS=>rfl⟩) ⟨kkeep j4 y0,kkeep j4 y1⟩ ?_
        try simp only [Act.put,List.getElem_toArray,List.getElem_cons_zero,List.getElem_cons_succ,List.setIfInBounds_toArray,List.set_cons_zero,List.set_cons_succ]
        refine wpAnyH_take (i:=9) (v:=.bool true) rfl (by kernel_rfl) (by kernel_rfl) (by kernel_rfl) (fun _ _ _ h=>h) (Or.inl ⟨by rfl,fun w _hS=>rfl⟩) ⟨kkeep j4 y0,kkeep j4 y1⟩ ?_
        try simp only [Act.put,List.getElem_toArray,List.getElem_cons_zero,List.getElem_cons_succ,List.setIfInBounds_toArray,List.set_cons_zero,List.set_cons_succ]
        refine wpAnyH_take (i:=10) (v:=undef) rfl (by kernel_rfl) (by kernel_rfl) (by kernel_rfl) (fun _ _ _ h=>h) (Or.inr ⟨by rfl,rfl⟩) ⟨kkeep j4 y0,kkeep j4 y1⟩ ?_
        try simp only [Act.put,List.getElem_toArray,List.getElem_cons_zero,List.getElem_cons_succ,List.setIfInBounds_toArray,List.set_cons_zero,List.set_cons_succ]
        refine wpAnyH_take (i:=11) (v:=undef) rfl (by kernel_rfl) (by kernel_rfl) (by kernel_rfl) (fun _ _ _ h=>h) (Or.inr ⟨by rfl,rfl⟩) ⟨kkeep j4 y0,kkeep j4 y1⟩ ?_
        try simp only [Act.put,List.getElem_toArray,List.getElem_cons_zero,List.getElem_cons_succ,List.setIfInBounds_toArray,List.set_cons_zero,List.set_cons_succ]
        refine wpAnyH_ready (rs:=[12]) (by kernel_rfl) (by simp) ?_
        refine AllReadyH.cons rfl (fun K hK=>?_) AllReadyH.nil
        refine if_no (by rfl) ?_
        refine hK.out _ _ ⟨kkeep j4 y0,kkeep j4 y1⟩ (fun _=>?_)
        clear hK K
        try simp only [Act.put,List.getElem_toArray,List.getElem_cons_zero,List.getElem_cons_succ,List.setIfInBounds_toArray,List.set_cons_zero,List.set_cons_succ]
        refine wpAnyH_take (i:=13) (v:=undef) rfl (by kernel_rfl) (by kernel_rfl) (by kernel_rfl) (fun _ _ _ h=>h) (Or.inr ⟨by rfl,rfl⟩) ⟨kkeep j4 y0,kkeep j4 y1⟩ ?_
        try simp only [Act.put,List.getElem_toArray,List.getElem_cons_zero,List.getElem_cons_succ,List.setIfInBounds_toArray,List.set_cons_zero,List.set_cons_succ]
        refine wpAnyH_take (i:=14) (v:=.bool true) rfl (by kernel_rfl) (by kernel_rfl) (by kernel_rfl) (fun _ _ _ h=>h) (Or.inl ⟨by rfl,fun w _hS=>rfl⟩) ⟨kkeep j4 y0,kkeep j4 y1⟩ ?_
        try simp only [Act.put,List.getElem_toArray,List.getElem_cons_zero,List.getElem_cons_succ,List.setIfInBounds_toArray,List.set_cons_zero,List.set_cons_succ]
        refine wpAnyH_done (by kernel_rfl) ?_ _
        go_wp2_with fail
        go_meet
        exact ⟨by rw [hDF];rfl,j4⟩
      · cases f2
        · have jd:Kp W4 W4.drew:=(Kp.refl _).drew
          refine wp_region_held_drew (S:=(fun w':World=>w'.cell? ⟨B,0,none⟩ = some (.int .u64 Z1)∧w'.cell? ⟨B,1,none⟩ = some (.int .u64 Z2))) (by kernel_rfl) ⟨kkeep jd y0,kkeep jd y1⟩ (fun _=>?_)
          refine wpAnyH_take (i:=0) (v:=.agg #[.int .u64 Z1,.int .u64 Z2]) rfl (by kernel_rfl) (by kernel_rfl) (by kernel_rfl) (fun _ _ _ h=>h) (Or.inl ⟨by rfl,fun w _hS=>by simp [go_sem,_hS.1,_hS.2]⟩) ⟨kkeep jd y0,kkeep jd y1⟩ ?_
          try simp only [Act.put,List.getElem_toArray,List.getElem_cons_zero,List.getElem_cons_succ,List.setIfInBounds_toArray,List.set_cons_zero,List.set_cons_succ]
          refine wpAnyH_ready (rs:=[1]) (by kernel_rfl) (by simp) ?_
          refine AllReadyH.cons rfl (fun K hK=>?_) AllReadyH.nil
          go_simp
          refine (rempty9_ _).mono ?_
          rintro e W3 ⟨rfl,g3⟩
          have j3:=jd.trans g3
          go_wp2_with fail
          refine hK.out _ _ ⟨kkeep j3 y0,kkeep j3 y1⟩ (fun _=>?_)
          clear hK K
          try simp only [Act.put,List.getElem_toArray,List.getElem_cons_zero,List.getElem_cons_succ,List.setIfInBounds_toArray,List.set_cons_zero,List.set_cons_succ]
          refine wpAnyH_take (i:=2) (v:=.bool false) rfl (by kernel_rfl) (by kernel_rfl) (by kernel_rfl) (fun _ _ _ h=>h) (Or.inl ⟨by rfl,fun w _hS=>(by go_simp;simpa using he1)⟩) ⟨kkeep j3 y0,kkeep j3 y1⟩ ?_
          try simp only [Act.put,List.getElem_toArray,List.getElem_cons_zero,List.getElem_cons_succ,List.setIfInBounds_toArray,List.set_cons_zero,List.set_cons_succ]
          refine wpAnyH_take (i:=3) (v:=.bool false) rfl (by kernel_rfl) (by kernel_rfl) (by kernel_rfl) (fun _ _ _ h=>h) (Or.inl ⟨by rfl,fun w _hS=>rfl⟩) ⟨kkeep j3 y0,kkeep j3 y1⟩ ?_
          try simp only [Act.put,List.getElem_toArray,List.getElem_cons_zero,List.getElem_cons_succ,List.setIfInBounds_toArray,List.set_cons_zero,List.set_cons_succ]
          refine wpAnyH_take (i:=4) (v:=.pointer (some ⟨B,0,none⟩)) rfl (by kernel_rfl) (by kernel_rfl) (by kernel_rfl) (fun _ _ _ h=>h) (Or.inl ⟨by rfl,fun w _hS=>rfl⟩) ⟨kkeep j3 y0,kkeep j3 y1⟩ ?_
          try simp only [Act.put,List.getElem_toArray,List.getElem_cons_zero,List.getElem_cons_succ,List.setIfInBounds_toArray,List.set_cons_zero,List.set_cons_succ]
          refine wpAnyH_take (i:=5) (v:=.int .u64 Z1) rfl (by kernel_rfl) (by kernel_rfl) (by kernel_rfl) (fun _ _ _ h=>h) (Or.inl ⟨by rfl,fun w _hS=>by simp [go_sem,_hS.1]⟩) ⟨kkeep j3 y0,kkeep j3 y1⟩ ?_
          try simp only [Act.put,List.getElem_toArray,List.getElem_cons_zero,List.getElem_cons_succ,List.setIfInBounds_toArray,List.set_cons_zero,List.set_cons_succ]
          refine wpAnyH_ready (rs:=[6]) (by kernel_rfl) (by simp) ?_
          refine AllReadyH.cons rfl (fun K hK=>?_) AllReadyH.nil
          rw [if_pos (by rfl)]
          go_simp
          refine (hF1 _).mono ?_
          rintro e W4 ⟨rfl,g4⟩
          have j4:=j3.trans g4
          go_wp2_with fail
          refine hK.out _ _ ⟨kkeep j4 y0,kkeep j4 y1⟩ (fun _=>?_)
          clear hK K
          try simp only [Act.put,List.getElem_toArray,List.getElem_cons_zero,List.getElem_cons_succ,List.setIfInBounds_toArray,List.set_cons_zero,List.set_cons_succ]
          refine wpAnyH_take (i:=7) (v:=.bool false) rfl (by kernel_rfl) (by kernel_rfl) (by kernel_rfl) (fun _ _ _ h=>h) (Or.inl ⟨by rfl,fun w _hS=>rfl⟩) ⟨kkeep j4 y0,kkeep j4 y1⟩ ?_
          try simp only [Act.put,List.getElem_toArray,List.getElem_cons_zero,List.getElem_cons_succ,List.setIfInBounds_toArray,List.set_cons_zero,List.set_cons_succ]
          refine wpAnyH_take (i:=8) (v:=.bool false) rfl (by kernel_rfl) (by kernel_rfl) (by kernel_rfl) (fun _ _ _ h=>h) (Or.inl ⟨by rfl,fun w _hS=>rfl⟩) ⟨kkeep j4 y0,kkeep j4 y1⟩ ?_
          try simp only [Act.put,List.getElem_toArray,List.getElem_cons_zero,List.getElem_cons_succ,List.setIfInBounds_toArray,List.set_cons_zero,List.set_cons_succ]
          refine wpAnyH_take (i:=9) (v:=.bool false) rfl (by kernel_rfl) (by kernel_rfl) (by kernel_rfl) (fun _ _ _ h=>h) (Or.inl ⟨by rfl,fun w _hS=>rfl⟩) ⟨kkeep j4 y0,kkeep j4 y1⟩ ?_
          try simp only [Act.put,List.getElem_toArray,List.getElem_cons_zero,List.getElem_cons_succ,List.setIfInBounds_toArray,List.set_cons_zero,List.set_cons_succ]
          refine wpAnyH_take (i:=10) (v:=.pointer (some ⟨B,1,none⟩)) rfl (by kernel_rfl) (by kernel_rfl) (by kernel_rfl) (fun _ _ _ h=>h) (Or.inl ⟨by rfl,fun w _hS=>rfl⟩) ⟨kkeep j4 y0,kkeep j4 y1⟩ ?_
          try simp only [Act.put,List.getElem_toArray,List.getElem_cons_zero,List.getElem_cons_succ,List.setIfInBounds_toArray,List.set_cons_zero,List.set_cons_succ]
          refine wpAnyH_take (i:=11) (v:=.int .u64 Z2) rfl (by kernel_rfl) (by kernel_rfl) (by kernel_rfl) (fun _ _ _ h=>h) (Or.inl ⟨by rfl,fun w _hS=>by simp [go_sem,_hS.2]⟩) ⟨kkeep j4 y0,kkeep j4 y1⟩ ?_
          try simp only [Act.put,List.getElem_toArray,List.getElem_cons_zero,List.getElem_cons_succ,List.setIfInBounds_toArray,List.set_cons_zero,List.set_cons_succ]
          refine wpAnyH_ready (rs:=[12]) (by kernel_rfl) (by simp) ?_
          refine AllReadyH.cons rfl (fun K hK=>?_) AllReadyH.nil
          rw [if_pos (by rfl)]
          go_simp
          refine (hF2 _).mono ?_
          rintro e W5 ⟨rfl,g5⟩
          have j5:=j4.trans g5
          go_wp2_with fail
          refine hK.out _ _ ⟨kkeep j5 y0,kkeep j5 y1⟩ (fun _=>?_)
          clear hK K
          try simp only [Act.put,List.getElem_toArray,List.getElem_cons_zero,List.getElem_cons_succ,List.setIfInBounds_toArray,List.set_cons_zero,List.set_cons_succ]
          refine wpAnyH_take (i:=13) (v:=.bool true) rfl (by kernel_rfl) (by kernel_rfl) (by kernel_rfl) (fun _ _ _ h=>h) (Or.inl ⟨by rfl,fun w _hS=>rfl⟩) ⟨kkeep j5 y0,kkeep j5 y1⟩ ?_
          try simp only [Act.put,List.getElem_toArray,List.getElem_cons_zero,List.getElem_cons_succ,List.setIfInBounds_toArray,List.set_cons_zero,List.set_cons_succ]
          refine wpAnyH_take (i:=14) (v:=.bool true) rfl (by kernel_rfl) (by kernel_rfl) (by kernel_rfl) (fun _ _ _ h=>h) (Or.inl ⟨by rfl,fun w _hS=>rfl⟩) ⟨kkeep j5 y0,kkeep j5 y1⟩ ?_
          try simp only [Act.put,List.getElem_toArray,List.getElem_cons_zero,List.getElem_cons_succ,List.setIfInBounds_toArray,List.set_cons_zero,List.set_cons_succ]
          refine wpAnyH_done (by kernel_rfl) ?_ _
          go_wp2_with fail
          go_meet
          exact ⟨by rw [hDF];rfl,j5⟩
        · have jd:Kp W4 W4.drew:=(Kp.refl _).drew
          refine wp_region_held_drew (S:=(fun w':World=>w'.cell? ⟨B,0,none⟩ = some (.int .u64 Z1)∧w'.cell? ⟨B,1,none⟩ = some (.int .u64 Z2))) (by kernel_rfl) ⟨kkeep jd y0,kkeep jd y1⟩ (fun _=>?_)
          refine wpAnyH_take (i:=0) (v:=.agg #[.int .u64 Z1,.int .u64 Z2]) rfl (by kernel_rfl) (by kernel_rfl) (by kernel_rfl) (fun _ _ _ h=>h) (Or.inl ⟨by rfl,fun w _hS=>by simp [go_sem,_hS.1,_hS.2]⟩) ⟨kkeep jd y0,kkeep jd y1⟩ ?_
          try simp only [Act.put,List.getElem_toArray,List.getElem_cons_zero,List.getElem_cons_succ,List.setIfInBounds_toArray,List.set_cons_zero,List.set_cons_succ]
          refine wpAnyH_ready (rs:=[1]) (by kernel_rfl) (by simp) ?_
          refine AllReadyH.cons rfl (fun K hK=>?_) AllReadyH.nil
          go_simp
          refine (rempty9_ _).mono ?_
          rintro e W3 ⟨rfl,g3⟩
          have j3:=jd.trans g3
          go_wp2_with fail
          refine hK.out _ _ ⟨kkeep j3 y0,kkeep j3 y1⟩ (fun _=>?_)
          clear hK K
          try simp only [Act.put,List.getElem_toArray,List.getElem_cons_zero,List.getElem_cons_succ,List.setIfInBounds_toArray,List.set_cons_zero,List.set_cons_succ]
          refine wpAnyH_take (i:=2) (v:=.bool false) rfl (by kernel_rfl) (by kernel_rfl) (by kernel_rfl) (fun _ _ _ h=>h) (Or.inl ⟨by rfl,fun w _hS=>(by go_simp;simpa using he1)⟩) ⟨kkeep j3 y0,kkeep j3 y1⟩ ?_
          try simp only [Act.put,List.getElem_toArray,List.getElem_cons_zero,List.getElem_cons_succ,List.setIfInBounds_toArray,List.set_cons_zero,List.set_cons_succ]
          refine wpAnyH_take (i:=3) (v:=.bool false) rfl (by kernel_rfl) (by kernel_rfl) (by kernel_rfl) (fun _ _ _ h=>h) (Or.inl ⟨by rfl,fun w _hS=>rfl⟩) ⟨kkeep j3 y0,kkeep j3 y1⟩ ?_
          try simp only [Act.put,List.getElem_toArray,List.getElem_cons_zero,List.getElem_cons_succ,List.setIfInBounds_toArray,List.set_cons_zero,List.set_cons_succ]
          refine wpAnyH_take (i:=4) (v:=.pointer (some ⟨B,0,none⟩)) rfl (by kernel_rfl) (by kernel_rfl) (by kernel_rfl) (fun _ _ _ h=>h) (Or.inl ⟨by rfl,fun w _hS=>rfl⟩) ⟨kkeep j3 y0,kkeep j3 y1⟩ ?_
          try simp only [Act.put,List.getElem_toArray,List.getElem_cons_zero,List.getElem_cons_succ,List.setIfInBounds_toArray,List.set_cons_zero,List.set_cons_succ]
          refine wpAnyH_take (i:=5) (v:=.int .u64 Z1) rfl (by kernel_rfl) (by kernel_rfl) (by kernel_rfl) (fun _ _ _ h=>h) (Or.inl ⟨by rfl,fun w _hS=>by simp [go_sem,_hS.1]⟩) ⟨kkeep j3 y0,kkeep j3 y1⟩ ?_
          try simp only [Act.put,List.getElem_toArray,List.getElem_cons_zero,List.getElem_cons_succ,List.setIfInBounds_toArray,List.set_cons_zero,List.set_cons_succ]
          refine wpAnyH_ready (rs:=[6]) (by kernel_rfl) (by simp) ?_
          refine AllReadyH.cons rfl (fun K hK=>?_) AllReadyH.nil
          rw [if_pos (by rfl)]
          go_simp
          refine (hF1 _).mono ?_
          rintro e W4 ⟨rfl,g4⟩
          have j4:=j3.trans g4
          go_wp2_with fail
          refine hK.out _ _ ⟨kkeep j4 y0,kkeep j4 y1⟩ (fun _=>?_)
          clear hK K
          try simp only [Act.put,List.getElem_toArray,List.getElem_cons_zero,List.getElem_cons_succ,List.setIfInBounds_toArray,List.set_cons_zero,List.set_cons_succ]
          refine wpAnyH_take (i:=7) (v:=.bool false) rfl (by kernel_rfl) (by kernel_rfl) (by kernel_rfl) (fun _ _ _ h=>h) (Or.inl ⟨by rfl,fun w _hS=>rfl⟩) ⟨kkeep j4 y0,kkeep j4 y1⟩ ?_
          try simp only [Act.put,List.getElem_toArray,List.getElem_cons_zero,List.getElem_cons_succ,List.setIfInBounds_toArray,List.set_cons_zero,List.set_cons_succ]
          refine wpAnyH_take (i:=8) (v:=.bool false) rfl (by kernel_rfl) (by kernel_rfl) (by kernel_rfl) (fun _ _ _ h=>h) (Or.inl ⟨by rfl,fun w _hS=>rfl⟩) ⟨kkeep j4 y0,kkeep j4 y1⟩ ?_
          try simp only [Act.put,List.getElem_toArray,List.getElem_cons_zero,List.getElem_cons_succ,List.setIfInBounds_toArray,List.set_cons_zero,List.set_cons_succ]
          refine wpAnyH_take (i:=9) (v:=.bool false) rfl (by kernel_rfl) (by kernel_rfl) (by kernel_rfl) (fun _ _ _ h=>h) (Or.inl ⟨by rfl,fun w _hS=>rfl⟩) ⟨kkeep j4 y0,kkeep j4 y1⟩ ?_
          try simp only [Act.put,List.getElem_toArray,List.getElem_cons_zero,List.getElem_cons_succ,List.setIfInBounds_toArray,List.set_cons_zero,List.set_cons_succ]
          refine wpAnyH_take (i:=10) (v:=.pointer (some ⟨B,1,none⟩)) rfl (by kernel_rfl) (by kernel_rfl) (by kernel_rfl) (fun _ _ _ h=>h) (Or.inl ⟨by rfl,fun w _hS=>rfl⟩) ⟨kkeep j4 y0,kkeep j4 y1⟩ ?_
          try simp only [Act.put,List.getElem_toArray,List.getElem_cons_zero,List.getElem_cons_succ,List.setIfInBounds_toArray,List.set_cons_zero,List.set_cons_succ]
          refine wpAnyH_take (i:=11) (v:=.int .u64 Z2) rfl (by kernel_rfl) (by kernel_rfl) (by kernel_rfl) (fun _ _ _ h=>h) (Or.inl ⟨by rfl,fun w _hS=>by simp [go_sem,_hS.2]⟩) ⟨kkeep j4 y0,kkeep j4 y1⟩ ?_
          try simp only [Act.put,List.getElem_toArray,List.getElem_cons_zero,List.getElem_cons_succ,List.setIfInBounds_toArray,List.set_cons_zero,List.set_cons_succ]
          refine wpAnyH_ready (rs:=[12]) (by kernel_rfl) (by simp) ?_
          refine AllReadyH.cons rfl (fun K hK=>?_) AllReadyH.nil
          rw [if_pos (by rfl)]
          go_simp
          refine (hF2 _).mono ?_
          rintro e W5 ⟨rfl,g5⟩
          have j5:=j4.trans g5
          go_wp2_with fail
          refine hK.out _ _ ⟨kkeep j5 y0,kkeep j5 y1⟩ (fun _=>?_)
          clear hK K
          try simp only [Act.put,List.getElem_toArray,List.getElem_cons_zero,List.getElem_cons_succ,List.setIfInBounds_toArray,List.set_cons_zero,List.set_cons_succ]
          refine wpAnyH_take (i:=13) (v:=.bool false) rfl (by kernel_rfl) (by kernel_rfl) (by kernel_rfl) (fun _ _ _ h=>h) (Or.inl ⟨by rfl,fun w _hS=>rfl⟩) ⟨kkeep j5 y0,kkeep j5 y1⟩ ?_
          try simp only [Act.put,List.getElem_toArray,List.getElem_cons_zero,List.getElem_cons_succ,List.setIfInBounds_toArray,List.set_cons_zero,List.set_cons_succ]
          refine wpAnyH_take (i:=14) (v:=.bool false) rfl (by kernel_rfl) (by kernel_rfl) (by kernel_rfl) (fun _ _ _ h=>h) (Or.inl ⟨by rfl,fun w _hS=>rfl⟩) ⟨kkeep j5 y0,kkeep j5 y1⟩ ?_
          try simp only [Act.put,List.getElem_toArray,List.getElem_cons_zero,List.getElem_cons_succ,List.setIfInBounds_toArray,List.set_cons_zero,List.set_cons_succ]
          refine wpAnyH_done (by kernel_rfl) ?_ _
          go_wp2_with fail
          go_meet
          exact ⟨by rw [hDF];rfl,j5⟩
    · have jd:Kp W4 W4.drew:=(Kp.refl _).drew
      refine wp_region_held_drew (S:=(fun w':World=>w'.cell? ⟨B,0,none⟩ = some (.int .u64 Z1)∧w'.cell? ⟨B,1,none⟩ = some (.int .u64 Z2))) (by kernel_rfl) ⟨kkeep jd y0,kkeep jd y1⟩ (fun _=>?_)
      refine wpAnyH_take (i:=0) (v:=.agg #[.int .u64 Z1,.int .u64 Z2]) rfl (by kernel_rfl) (by kernel_rfl) (by kernel_rfl) (fun _ _ _ h=>h) (Or.inl ⟨by rfl,fun w _hS=>by simp [go_sem,_hS.1,_hS.2]⟩) ⟨kkeep jd y0,kkeep jd y1⟩ ?_
      try simp only [Act.put,List.getElem_toArray,List.getElem_cons_zero,List.getElem_cons_succ,List.setIfInBounds_toArray,List.set_cons_zero,List.set_cons_succ]
      refine wpAnyH_ready (rs:=[1]) (by kernel_rfl) (by simp) ?_
      refine AllReadyH.cons rfl (fun K hK=>?_) AllReadyH.nil
      go_simp
      refine (rempty9_ _).mono ?_
      rintro e W3 ⟨rfl,g3⟩
      have j3:=jd.trans g3
      go_wp2_with fail
      refine hK.out _ _ ⟨kkeep j3 y0,kkeep j3 y1⟩ (fun _=>?_)
      clear hK K
      try simp only [Act.put,List.getElem_toArray,List.getElem_cons_zero,List.getElem_cons_succ,List.setIfInBounds_toArray,List.set_cons_zero,List.set_cons_succ]
      refine wpAnyH_take (i:=2) (v:=.bool true) rfl (by kernel_rfl) (by kernel_rfl) (by kernel_rfl) (fun _ _ _ h=>h) (Or.inl ⟨by rfl,fun w _hS=>(by go_simp;simp at he1;simp [he1.1,he1.2])⟩) ⟨kkeep j3 y0,kkeep j3 y1⟩ ?_
      try simp only [Act.put,List.getElem_toArray,List.getElem_cons_zero,List.getElem_cons_succ,List.setIfInBounds_toArray,List.set_cons_zero,List.set_cons_succ]
      refine wpAnyH_take (i:=3) (v:=.bool true) rfl (by kernel_rfl) (by kernel_rfl) (by kernel_rfl) (fun _ _ _ h=>h) (Or.inl ⟨by rfl,fun w _hS=>rfl⟩) ⟨kkeep j3 y0,kkeep j3 y1⟩ ?_
      try simp only [Act.put,List.getElem_toArray,List.getElem_cons_zero,List.getElem_cons_succ,List.setIfInBounds_toArray,List.set_cons_zero,List.set_cons_succ]
      refine wpAnyH_take (i:=4) (v:=undef) rfl (by kernel_rfl) (by kernel_rfl) (by kernel_rfl) (fun _ _ _ h=>h) (Or.inr ⟨by rfl,rfl⟩) ⟨kkeep j3 y0,kkeep j3 y1⟩ ?_
      try simp only [Act.put,List.getElem_toArray,List.getElem_cons_zero,List.getElem_cons_succ,List.setIfInBounds_toArray,List.set_cons_zero,List.set_cons_succ]
      refine wpAnyH_take (i:=5) (v:=undef) rfl (by kernel_rfl) (by kernel_rfl) (by kernel_rfl) (fun _ _ _ h=>h) (Or.inr ⟨by rfl,rfl⟩) ⟨kkeep j3 y0,kkeep j3 y1⟩ ?_
      try simp only [Act.put,List.getElem_toArray,List.getElem_cons_zero,List.getElem_cons_succ,List.setIfInBounds_toArray,List.set_cons_zero,List.set_cons_succ]
      refine wpAnyH_ready (rs:=[6]) (by kernel_rfl) (by simp) ?_
      refine AllReadyH.cons rfl (fun K hK=>?_) AllReadyH.nil
      refine if_no (by rfl) ?_
      refine hK.out _ _ ⟨kkeep j3 y0,kkeep j3 y1⟩ (fun _=>?_)
      clear hK K
      try simp only [Act.put,List.getElem_toArray,List.getElem_cons_zero,List.getElem_cons_succ,List.setIfInBounds_toArray,List.set_cons_zero,List.set_cons_succ]
      refine wpAnyH_take (i:=7) (v:=undef) rfl (by kernel_rfl) (by kernel_rfl) (by kernel_rfl) (fun _ _ _ h=>h) (Or.inr ⟨by rfl,rfl⟩) ⟨kkeep j3 y0,kkeep j3 y1⟩ ?_
      try simp only [Act.put,List.getElem_toArray,List.getElem_cons_zero,List.getElem_cons_succ,List.setIfInBounds_toArray,List.set_cons_zero,List.set_cons_succ]
      refine wpAnyH_take (i:=8) (v:=.bool true) rfl (by kernel_rfl) (by kernel_rfl) (by kernel_rfl) (fun _ _ _ h=>h) (Or.inl ⟨by rfl,fun w _hS=>rfl⟩) ⟨kkeep j3 y0,kkeep j3 y1⟩ ?_
      try simp only [Act.put,List.getElem_toArray,List.getElem_cons_zero,List.getElem_cons_succ,List.setIfInBounds_toArray,List.set_cons_zero,List.set_cons_succ]
      refine wpAnyH_take (i:=9) (v:=.bool true) rfl (by kernel_rfl) (by kernel_rfl) (by kernel_rfl) (fun _ _ _ h=>h) (Or.inl ⟨by rfl,fun w _hS=>rfl⟩) ⟨kkeep j3 y0,kkeep j3 y1⟩ ?_
      try simp only [Act.put,List.getElem_toArray,List.getElem_cons_zero,List.getElem_cons_succ,List.setIfInBounds_toArray,List.set_cons_zero,List.set_cons_succ]
      refine wpAnyH_take (i:=10) (v:=undef) rfl (by kernel_rfl) (by kernel_rfl) (by kernel_rfl) (fun _ _ _ h=>h) (Or.inr ⟨by rfl,rfl⟩) ⟨kkeep j3 y0,kkeep j3 y1⟩ ?_
      try simp only [Act.put,List.getElem_toArray,List.getElem_cons_zero,List.getElem_cons_succ,List.setIfInBounds_toArray,List.set_cons_zero,List.set_cons_succ]
      refine wpAnyH_take (i:=11) (v:=undef) rfl (by kernel_rfl) (by kernel_rfl) (by kernel_rfl) (fun _ _ _ h=>h) (Or.inr ⟨by rfl,rfl⟩) ⟨kkeep j3 y0,kkeep j3 y1⟩ ?_
      try simp only [Act.put,List.getElem_toArray,List.getElem_cons_zero,List.getElem_cons_succ,List.setIfInBounds_toArray,List.set_cons_zero,List.set_cons_succ]
      refine wpAnyH_ready (rs:=[12]) (by kernel_rfl) (by simp) ?_
      refine AllReadyH.cons rfl (fun K hK=>?_) AllReadyH.nil
      refine if_no (by rfl) ?_
      refine hK.out _ _ ⟨kkeep j3 y0,kkeep j3 y1⟩ (fun _=>?_)
      clear hK K
      try simp only [Act.put,List.getElem_toArray,List.getElem_cons_zero,List.getElem_cons_succ,List.setIfInBounds_toArray,List.set_cons_zero,List.set_cons_succ]
      refine wpAnyH_take (i:=13) (v:=undef) rfl (by kernel_rfl) (by kernel_rfl) (by kernel_rfl) (fun _ _ _ h=>h) (Or.inr ⟨by rfl,rfl⟩) ⟨kkeep j3 y0,kkeep j3 y1⟩ ?_
      try simp only [Act.put,List.getElem_toArray,List.getElem_cons_zero,List.getElem_cons_succ,List.setIfInBounds_toArray,List.set_cons_zero,List.set_cons_succ]
      refine wpAnyH_take (i:=14) (v:=.bool true) rfl (by kernel_rfl) (by kernel_rfl) (by kernel_rfl) (fun _ _ _ h=>h) (Or.inl ⟨by rfl,fun w _hS=>rfl⟩) ⟨kkeep j3 y0,kkeep j3 y1⟩ ?_
      try simp only [Act.put,List.getElem_toArray,List.getElem_cons_zero,List.getElem_cons_succ,List.setIfInBounds_toArray,List.set_cons_zero,List.set_cons_succ]
      refine wpAnyH_done (by kernel_rfl) ?_ _
      go_wp2_with fail
      go_meet
      exact ⟨by rw [hDF];rfl,j3⟩
  case rest =>
  obtain ⟨rfl,k5⟩:=hcut
  replace qZ:=Fq.H2.keep qZ k5
  replace kw:=Kp.trans kw k5
  clear y0 y1 yz0 yz1 k5 hDF he1 hF1 hF2 hM
  obtain ⟨y0,y1,yz0,yz1⟩:=id qZ
  generalize wc = W5 at *
  go_upto_if 33 with fail
  go_cut [] (fun wx=>Fq.H2 wx B (.int .u64 Y1) (.int .u64 Y2)∧Kp w wx)
  case first =>
    rcases hY with ⟨rfl,rfl,rfl⟩ | ⟨rfl,rfl,rfl⟩
    · go_wp2_with fail
      go_meet
      exact ⟨Fq.H2.put qZ _ _,(kw.setCell (by rw [← hB];exact Nat.le_refl _) _).setCell (by rw [← hB];exact Nat.le_refl _) _⟩
    · go_wp2_with fail
      go_meet
      exact ⟨qZ,kw⟩
  case rest =>
  clear y0 y1 yz0 yz1 qZ kw
  obtain ⟨qY,kw⟩:=hcut
  generalize wc = W6 at *
  obtain ⟨y0,y1,yz0,yz1⟩:=id qY
  go_upto_region 8 with fail
  have kY:Kp W6 (W6.alloc (.cells #[.int .u64 Y1,.int .u64 Y2] 31)):=(Kp.refl _).alloc _
  have own0:World.ownsRow (W6.alloc (.cells #[.int .u64 Y1,.int .u64 Y2] 31)) W6.heap.size 31 1 (.slice (some ⟨W6.heap.size,0,none⟩) 2 2) 2 [.int .u64 Y1,.int .u64 Y2]:=⟨rfl,Or.inr ⟨W6.heap.size,2,#[.int .u64 Y1,.int .u64 Y2],rfl,Nat.le_refl _,World.alloc_heap_new _ _,Nat.le_refl _,by unfold maxLen;omega,rfl,rfl⟩⟩
  have qY7:=Fq.H2.keep qY kY
  obtain ⟨x0,x1,xz0,xz1⟩:=id qY7
  go_cut [47] (fun s47 wx=>s47 = .bool (a1 && a2)∧wx = W6.alloc (.cells #[.int .u64 Y1,.int .u64 Y2] 31))
  case first =>
    cases a1
    · go_wp2_with (first | (go_at_call_of 39 (Value.int IntKind.u64 Y1);refine (hA1 _).mono ?_;rintro e w' ⟨rfl,rfl⟩))
      go_meet
      exact ⟨rfl,rfl⟩
    · go_wp2_with (first | (go_at_call_of 39 (Value.int IntKind.u64 Y2);refine (hA2 _).mono ?_;rintro e w' ⟨rfl,rfl⟩) | (go_at_call_of 39 (Value.int IntKind.u64 Y1);refine (hA1 _).mono ?_;rintro e w' ⟨rfl,rfl⟩))
      go_meet
      exact ⟨rfl,rfl⟩
  case rest =>
  obtain ⟨rfl,rfl⟩:=hcut
  go_upto_if 47 with fail
  go_cut [5] (fun s5 wx=>∃ g c:Nat,s5 = .slice (some ⟨g,0,none⟩) zs.length c∧World.ownsRow wx W6.heap.size 31 1 (.slice (some ⟨g,0,none⟩) zs.length c) zs.length (zs.map (Value.int .u64))∧Kp W6 wx)
  case first =>
    obtain ⟨i0,hi0,hi1,hi2,hi3⟩:=inf64p
    rcases hzs with ⟨hb9,rfl⟩ | ⟨hb9,rfl⟩
    · have hob:∀ g,(Value.slice (some ⟨W6.heap.size,0,none⟩) 2 2).ownBlock = some g→W6.heap.size≤g:=by intro g hg;simp [Value.ownBlock] at hg;omega
      rw [hb9]
      go_wp2_with (first | (at_builtin;refine wpList_append_own _ rfl _ _ 57 rfl W6.heap.size 31 i0 (.int .u64 0) 1 8 Tryz.underlying57 hi0 hi1 hi2 hi3 rfl (by decide) _ _ _ rfl (own0.alloc _) ⟨W6.heap.size + 1,0,none⟩ 1 1 [.int .u64 0] rfl rfl ?c1 ?c2 ?c3 ?c4 ?c5 ?_))
      case c1 =>
        intro j' u hj'
        match j',hj' with
        | 0,hj'=>simp at hj';subst hj';simp [Addr.add]
      case c2=>intro u hu;simp at hu;subst hu;rfl
      case c3=>unfold maxLen;omega
      case c4=>omega
      case c5=>simp;omega
      intro v' w1 hown2 hgrow _
      have hK2:Kp W6 w1:=(kY.alloc _).grown hgrow hob
      have hown3:World.ownsRow w1 W6.heap.size 31 1 v' 3 [.int .u64 Y1,.int .u64 Y2,.int .u64 0]:=hown2
      clear hown2 hgrow hob
      go_wp2_with fail
      go_meet
      obtain ⟨_,⟨rfl,h0⟩ | ⟨g,cap,cur,rfl,r1,r2,r3,r4,r5,r6⟩⟩:=id hown3
      · omega
      · exact ⟨g,cap,rfl,hown3,hK2⟩
    · rw [hb9]
      go_wp2_with fail
      go_meet
      exact ⟨_,_,rfl,own0,kY⟩
  case rest =>
  obtain ⟨g5,c5,rfl,own,k7⟩:=hcut
  clear own0 qY7 x0 x1 xz0 xz1 kY hA1 hA2 hzs
  replace qY:=Fq.H2.keep qY k7
  replace kw:=Kp.trans kw k7
  clear y0 y1 yz0 yz1
  generalize W6.heap.size = B6 at *
  clear k7
  generalize wc = W7 at *
  obtain ⟨y0,y1,yz0,yz1⟩:=id qY
  go_upto_region 11 with (first | (go_at_call 20;refine (hIn _).mono ?_;rintro e wp ⟨rfl,gp⟩) | (go_at_call 11;refine (hP _ (hT.kp (Kp.trans kw gp))).mono ?_;rintro e wq ⟨rfl,gq⟩) | (go_at_call 19;refine (hO _).mono ?_;rintro e wr9 ⟨rfl,gr9⟩))
  have k8:Kp W7 (wr9.alloc (.cells #[.int .u64 LO,.int .u64 HI] 33)):=(Kp.trans (Kp.trans gp gq) gr9).alloc _
  have qL:=Fq.H2.new wr9 (.int .u64 LO) (.int .u64 HI) 33
  replace qY:=Fq.H2.keep qY k8
  replace own:=World.ownsRow.kpO own k8
  replace kw:=Kp.trans kw k8
  clear y0 y1 yz0 yz1 gp gq gr9 k8
  generalize wr9.alloc (.cells #[.int .u64 LO,.int .u64 HI] 33) = W8 at *
  generalize wr9.heap.size = B8 at *
  obtain ⟨l0,l1,lz0,lz1⟩:=id qL
  go_region_held3 (fun w'=>w'.cell? ⟨B8,0,none⟩ = some (.int .u64 LO)∧w'.cell? ⟨B8,1,none⟩ = some (.int .u64 HI)) (first | (with_reducible exact ⟨l0,l1⟩) | (exact ⟨kkeep (W:=W8) (Kp.drew (Kp.refl _)) l0,kkeep (W:=W8) (Kp.drew (Kp.refl _)) l1⟩) | (exact ⟨kkeep ka l0,kkeep ka l1⟩) | (exact ⟨kkeep kb l0,kkeep kb l1⟩)) (first | (go_at_call 40;refine (hV _).mono ?_;rintro e wa ⟨rfl,ga⟩;have ka:Kp W8 wa:=Kp.trans (Kp.drew (Kp.refl _)) ga) | (go_at_call 24;refine (rempty9_ _).mono ?_;rintro e wb ⟨rfl,gb⟩;have kb:Kp W8 wb:=Kp.trans ka gb))
  replace qY:=Fq.H2.keep qY kb
  replace qL:=Fq.H2.keep qL kb
  replace own:=World.ownsRow.kpO own kb
  replace kw:=Kp.trans kw kb
  clear l0 l1 lz0 lz1 ka ga gb kb
  generalize wb = W9 at *
  go_wp2_with fail
  go_loopw [7,8,9] (fun lo9 hi9 i9 wr=>∃ k9:Nat,k9≤zs.length∧i9 = .int .i64 k9∧lo9 = .bool (lw k9)∧hi9 = .bool (hg k9)∧Kp W9 wr) (fun _ _ i9 _=>zs.length - (intOf i9).toNat)
  case atStart=>exact ⟨0,Nat.zero_le _,rfl,by rw [hlw0],by rw [hhg0],Kp.refl _⟩
  case round =>
    obtain ⟨k9,hk,rfl,rfl,rfl,gr⟩:=hrel
    by_cases ck:k9 < zs.length
    · have i1:(k9:Int) < (zs.length:Int):=by omega
      have cz:wr.cell? ⟨g5,k9,none⟩ = some (.int .u64 (zs.getD k9 0)):=by
        have h:=(World.ownsRow.kpO own gr).cellAt k9 (by omega)
        rw [h,List.getElem?_map,List.getElem?_eq_getElem ck,List.getD_eq_getElem?_getD,List.getElem?_eq_getElem ck];rfl
      have hfk:=hFA k9 ck
      have hrk:=hRP k9 ck
      generalize zs.getD k9 0 = zk at hfk cz
      generalize PA k9 = PAk at hfk hrk
      clear hFA hRP own
      have qY9:=Fq.H2.keep qY gr
      have qL9:=Fq.H2.keep qL gr
      go_upto_region 19 with (first | (go_at_call 26;refine (hfk _).mono ?_;rintro e wf ⟨s2,p2,l2,c2,q2,k2,d2,rfl,ha9,gf⟩) | (go_at_call 29;refine (hrk _ s2 p2 l2 c2 q2 k2 d2 ha9).mono ?_;rintro e wg ⟨s,p,l,c,q,k,d,rfl,hb9,gg⟩))
      have k10:Kp wr (wg.alloc (.cells #[.bool s,.slice p l c,.slice q k d] 43)):=(Kp.trans gf gg).alloc _
      have kv:Kp wg (wg.alloc (.cells #[.bool s,.slice p l c,.slice q k d] 43)):=(Kp.refl _).alloc _
      have qv:=H3c.new wg (.bool s) (.slice p l c) (.slice q k d) 43
      replace qY9:=Fq.H2.keep qY9 k10
      replace qL9:=Fq.H2.keep qL9 k10
      have kw10:=Kp.trans (Kp.trans kw gr) k10
      have gr10:=Kp.trans gr k10
      clear cz hfk hrk ha9 gf gg k10 qY qL
      generalize wg.alloc (.cells #[.bool s,.slice p l c,.slice q k d] 43) = W10 at *
      generalize wg.heap.size = B10 at *
      obtain ⟨x0,x1,xz0,xz1⟩:=id qY9
      obtain ⟨v0,v1,v2,vz0,vz1,vz2⟩:=id qv
      have hok:=(HH.out.2.2.2.2.2.2.2.1) k9 ck
      go_region_held3 (fun w'=>w'.cell? ⟨B,0,none⟩ = some (.int .u64 Y1)∧w'.cell? ⟨B,1,none⟩ = some (.int .u64 Y2)∧w'.cell? ⟨B10,0,none⟩ = some (.bool s)∧w'.cell? ⟨B10,1,none⟩ = some (.slice p l c)∧w'.cell? ⟨B10,2,none⟩ = some (.slice q k d)) (first | (with_reducible exact ⟨x0,x1,v0,v1,v2⟩) | (exact ⟨kkeep ki x0,kkeep ki x1,kkeep ki v0,kkeep ki v1,kkeep ki v2⟩) | (exact ⟨kkeep kj x0,kkeep kj x1,kkeep kj v0,kkeep kj v1,kkeep kj v2⟩) | (exact ⟨kkeep kk x0,kkeep kk x1,kkeep kk v0,kkeep kk v1,kkeep kk v2⟩) | (exact ⟨kkeep (W:=W10) (Kp.drew (Kp.refl _)) x0,kkeep (W:=W10) (Kp.drew (Kp.refl _)) x1,kkeep (W:=W10) (Kp.drew (Kp.refl _)) v0,kkeep (W:=W10) (Kp.drew (Kp.refl _)) v1,kkeep (W:=W10) (Kp.drew (Kp.refl _)) v2⟩)) (first | (go_at_call 20;refine (hIn _).mono ?_;rintro e wi ⟨rfl,gi⟩;have ki:Kp W10 wi:=Kp.trans (Kp.drew (Kp.refl _)) gi) | (go_at_call 11;refine (hP _ (hT.kp (Kp.trans kw10 ki))).mono ?_;rintro e wj ⟨rfl,gj⟩;have kj:Kp W10 wj:=Kp.trans ki gj) | (go_at_call 28;refine (hok wg _ s p l c q k d hb9 (Kp.trans kv kj)).mono ?_;rintro e wk ⟨rfl,gk⟩;have kk:Kp W10 wk:=Kp.trans kj gk))
      replace qL9:=Fq.H2.keep qL9 kk
      replace qv:=H3c.keep qv kk
      replace kv:=Kp.trans kv kk
      replace kw10:=Kp.trans kw10 kk
      replace gr10:=Kp.trans gr10 kk
      clear x0 x1 xz0 xz1 v0 v1 v2 vz0 vz1 vz2 hok ki kj kk gi gj gk qY9
      generalize wk = W11 at *
      obtain ⟨l0,l1,lz0,lz1⟩:=id qL9
      obtain ⟨v0,v1,v2,vz0,vz1,vz2⟩:=id qv
      have hUp:=(HH.out.2.2.2.2.2.2.2.2.2.2.2.1)
      go_upto_region 22 with (first | (go_at_call 41;refine (hUp _).mono ?_;rintro e w' ⟨rfl,hw'⟩;obtain rfl:=hw'.symm;clear hw'))
      clear hUp
      go_cut [7] (fun s7 wx=>s7 = .bool (lw (k9 + 1))∧Kp W11 wx)
      case first =>
        have hlk:=(HH.out.1) k9 ck
        have tN:=(HH.out.2.2.2.2.2.2.2.2.2.2.2.2.2.1)
        have hfn0:=(HH.out.2.2.1)
        have hcn:=(HH.out.2.2.2.2.1) k9 ck
        cases hl:lw k9
        · cases tn:nxI
          · rw [tn] at tN
            have hfn:=hfn0 tn
            by_cases hk9:kN k9 < 0
            · have jd:Kp W11 W11.drew:=(Kp.refl _).drew
              refine wp_region_held_drew (S:=(fun w':World=>w'.cell? ⟨B10,0,none⟩ = some (.bool s)∧w'.cell? ⟨B10,1,none⟩ = some (.slice p l c)∧w'.cell? ⟨B10,2,none⟩ = some (.slice q k d))) (by kernel_rfl) ⟨kkeep jd v0,kkeep jd v1,kkeep jd v2⟩ (fun _=>?_)
              refine wpAnyH_take (i:=0) (v:=.bool false) rfl (by kernel_rfl) (by kernel_rfl) (by kernel_rfl) (fun _ _ _ h=>h) (Or.inl ⟨by rfl,fun w _hS=>rfl⟩) ⟨kkeep jd v0,kkeep jd v1,kkeep jd v2⟩ ?_
              try simp only [Act.put,List.getElem_toArray,List.getElem_cons_zero,List.getElem_cons_succ,List.setIfInBounds_toArray,List.set_cons_zero,List.set_cons_succ]
              refine wpAnyH_take (i:=1) (v:=.bool false) rfl (by kernel_rfl) (by kernel_rfl) (by kernel_rfl) (fun _ _ _ h=>h) (Or.inl ⟨by rfl,fun w _hS=>rfl⟩) ⟨kkeep jd v0,kkeep jd v1,kkeep jd v2⟩ ?_
              try simp only [Act.put,List.getElem_toArray,List.getElem_cons_zero,List.getElem_cons_succ,List.setIfInBounds_toArray,List.set_cons_zero,List.set_cons_succ]
              refine wpAnyH_take (i:=2) (v:=.int .u64 NX) rfl (by kernel_rfl) (by kernel_rfl) (by kernel_rfl) (fun _ _ _ h=>h) (Or.inl ⟨by rfl,fun w _hS=>rfl⟩) ⟨kkeep jd v0,kkeep jd v1,kkeep jd v2⟩ ?_
              try simp only [Act.put,List.getElem_toArray,List.getElem_cons_zero,List.getElem_cons_succ,List.setIfInBounds_toArray,List.set_cons_zero,List.set_cons_succ]
              refine wpAnyH_take (i:=3) (v:=.bool false) rfl (by kernel_rfl) (by kernel_rfl) (by kernel_rfl) (fun _ _ _ h=>h) (Or.inl ⟨by rfl,fun w _hS=>(by go_simp <;> (try with_reducible rfl))⟩) ⟨kkeep jd v0,kkeep jd v1,kkeep jd v2⟩ ?_
              try simp only [Act.put,List.getElem_toArray,List.getElem_cons_zero,List.getElem_cons_succ,List.setIfInBounds_toArray,List.set_cons_zero,List.set_cons_succ]
              refine wpAnyH_take (i:=4) (v:=.bool false) rfl (by kernel_rfl) (by kernel_rfl) (by kernel_rfl) (fun _ _ _ h=>h) (Or.inl ⟨by rfl,fun w _hS=>rfl⟩) ⟨kkeep jd v0,kkeep jd v1,kkeep jd v2⟩ ?_
              try simp only [Act.put,List.getElem_toArray,List.getElem_cons_zero,List.getElem_cons_succ,List.setIfInBounds_toArray,List.set_cons_zero,List.set_cons_succ]
              refine wpAnyH_take (i:=5) (v:=.bool false) rfl (by kernel_rfl) (by kernel_rfl) (by kernel_rfl) (fun _ _ _ h=>h) (Or.inl ⟨by rfl,fun w _hS=>rfl⟩) ⟨kkeep jd v0,kkeep jd v1,kkeep jd v2⟩ ?_
              try simp only [Act.put,List.getElem_toArray,List.getElem_cons_zero,List.getElem_cons_succ,List.setIfInBounds_toArray,List.set_cons_zero,List.set_cons_succ]
              refine wpAnyH_take (i:=6) (v:=.agg #[.bool s,.slice p l c,.slice q k d]) rfl (by kernel_rfl) (by kernel_rfl) (by kernel_rfl) (fun _ _ _ h=>h) (Or.inl ⟨by rfl,fun w _hS=>exL rfl _ rfl (load43 w B10 s p l c q k d _hS.1 _hS.2.1 _hS.2.2)⟩) ⟨kkeep jd v0,kkeep jd v1,kkeep jd v2⟩ ?_
              try simp only [Act.put,List.getElem_toArray,List.getElem_cons_zero,List.getElem_cons_succ,List.setIfInBounds_toArray,List.set_cons_zero,List.set_cons_succ]
              refine wpAnyH_take (i:=7) (v:=.int .u64 NX) rfl (by kernel_rfl) (by kernel_rfl) (by kernel_rfl) (fun _ _ _ h=>h) (Or.inl ⟨by rfl,fun w _hS=>rfl⟩) ⟨kkeep jd v0,kkeep jd v1,kkeep jd v2⟩ ?_
              try simp only [Act.put,List.getElem_toArray,List.getElem_cons_zero,List.getElem_cons_succ,List.setIfInBounds_toArray,List.set_cons_zero,List.set_cons_succ]
              refine wpAnyH_ready (rs:=[8]) (by kernel_rfl) (by simp) ?_
              refine AllReadyH.cons rfl (fun K hK=>?_) AllReadyH.nil
              rw [if_pos (by rfl)]
              go_simp
              refine (hfn _).mono ?_
              rintro e W3 ⟨s2,p2,l2,c2,q2,k2,d2,rfl,D2,g3⟩
              have j3:=jd.trans g3
              have hc9:=hcn wg W3 s p l c q k d s2 p2 l2 c2 q2 k2 d2 hb9 (kv.trans j3) D2
              go_wp2_with fail
              refine hK.out _ _ ⟨kkeep j3 v0,kkeep j3 v1,kkeep j3 v2⟩ (fun _=>?_)
              clear hK K
              try simp only [Act.put,List.getElem_toArray,List.getElem_cons_zero,List.getElem_cons_succ,List.setIfInBounds_toArray,List.set_cons_zero,List.set_cons_succ]
              refine wpAnyH_ready (rs:=[9]) (by kernel_rfl) (by simp) ?_
              refine AllReadyH.cons rfl (fun K hK=>?_) AllReadyH.nil
              rw [if_pos (by rfl)]
              go_simp
              refine hc9.mono ?_
              rintro e W4 ⟨rfl,g4⟩
              have j4:=j3.trans g4
              go_wp2_with fail
              refine hK.out _ _ ⟨kkeep j4 v0,kkeep j4 v1,kkeep j4 v2⟩ (fun _=>?_)
              clear hK K
              try simp only [Act.put,List.getElem_toArray,List.getElem_cons_zero,List.getElem_cons_succ,List.setIfInBounds_toArray,List.set_cons_zero,List.set_cons_succ]
              refine wpAnyH_take (i:=10) (v:=.bool true) rfl (by kernel_rfl) (by kernel_rfl) (by kernel_rfl) (fun _ _ _ h=>h) (Or.inl ⟨by rfl,fun w _hS=>(by go_simp <;> (try with_reducible rfl))⟩) ⟨kkeep j4 v0,kkeep j4 v1,kkeep j4 v2⟩ ?_
              try simp only [Act.put,List.getElem_toArray,List.getElem_cons_zero,List.getElem_cons_succ,List.setIfInBounds_toArray,List.set_cons_zero,List.set_cons_succ]
              refine wpAnyH_take (i:=11) (v:=.bool true) rfl (by kernel_rfl) (by kernel_rfl) (by kernel_rfl) (fun _ _ _ h=>h) (Or.inl ⟨by rfl,fun w _hS=>rfl⟩) ⟨kkeep j4 v0,kkeep j4 v1,kkeep j4 v2⟩ ?_
              try simp only [Act.put,List.getElem_toArray,List.getElem_cons_zero,List.getElem_cons_succ,List.setIfInBounds_toArray,List.set_cons_zero,List.set_cons_succ]
              refine wpAnyH_take (i:=12) (v:=.bool true) rfl (by kernel_rfl) (by kernel_rfl) (by kernel_rfl) (fun _ _ _ h=>h) (Or.inl ⟨by rfl,fun w _hS=>rfl⟩) ⟨kkeep j4 v0,kkeep j4 v1,kkeep j4 v2⟩ ?_
              try simp only [Act.put,List.getElem_toArray,List.getElem_cons_zero,List.getElem_cons_succ,List.setIfInBounds_toArray,List.set_cons_zero,List.set_cons_succ]
              refine wpAnyH_done (by kernel_rfl) ?_ _
              go_wp2_with fail
              go_meet
              exact ⟨by rw [hlk,hl];rw [tn];simp [hk9],j4⟩
              
            · have jd:Kp W11 W11.drew:=(Kp.refl _).drew
              refine wp_region_held_drew (S:=(fun w':World=>w'.cell? ⟨B10,0,none⟩ = some (.bool s)∧w'.cell? ⟨B10,1,none⟩ = some (.slice p l c)∧w'.cell? ⟨B10,2,none⟩ = some (.slice q k d))) (by kernel_rfl) ⟨kkeep jd v0,kkeep jd v1,kkeep jd v2⟩ (fun _=>?_)
              refine wpAnyH_take (i:=0) (v:=.bool false) rfl (by kernel_rfl) (by kernel_rfl) (by kernel_rfl) (fun _ _ _ h=>h) (Or.inl ⟨by rfl,fun w _hS=>rfl⟩) ⟨kkeep jd v0,kkeep jd v1,kkeep jd v2⟩ ?_
              try simp only [Act.put,List.getElem_toArray,List.getElem_cons_zero,List.getElem_cons_succ,List.setIfInBounds_toArray,List.set_cons_zero,List.set_cons_succ]
              refine wpAnyH_take (i:=1) (v:=.bool false) rfl (by kernel_rfl) (by kernel_rfl) (by kernel_rfl) (fun _ _ _ h=>h) (Or.inl ⟨by rfl,fun w _hS=>rfl⟩) ⟨kkeep jd v0,kkeep jd v1,kkeep jd v2⟩ ?_
              try simp only [Act.put,List.getElem_toArray,List.getElem_cons_zero,List.getElem_cons_succ,List.setIfInBounds_toArray,List.set_cons_zero,List.set_cons_succ]
              refine wpAnyH_take (i:=2) (v:=.int .u64 NX) rfl (by kernel_rfl) (by kernel_rfl) (by kernel_rfl) (fun _ _ _ h=>h) (Or.inl ⟨by rfl,fun w _hS=>rfl⟩) ⟨kkeep jd v0,kkeep jd v1,kkeep jd v2⟩ ?_
              try simp only [Act.put,List.getElem_toArray,List.getElem_cons_zero,List.getElem_cons_succ,List.setIfInBounds_toArray,List.set_cons_zero,List.set_cons_succ]
              refine wpAnyH_take (i:=3) (v:=.bool false) rfl (by kernel_rfl) (by kernel_rfl) (by kernel_rfl) (fun _ _ _ h=>h) (Or.inl ⟨by rfl,fun w _hS=>(by go_simp <;> (try with_reducible rfl))⟩) ⟨kkeep jd v0,kkeep jd v1,kkeep jd v2⟩ ?_
              try simp only [Act.put,List.getElem_toArray,List.getElem_cons_zero,List.getElem_cons_succ,List.setIfInBounds_toArray,List.set_cons_zero,List.set_cons_succ]
              refine wpAnyH_take (i:=4) (v:=.bool false) rfl (by kernel_rfl) (by kernel_rfl) (by kernel_rfl) (fun _ _ _ h=>h) (Or.inl ⟨by rfl,fun w _hS=>rfl⟩) ⟨kkeep jd v0,kkeep jd v1,kkeep jd v2⟩ ?_
              try simp only [Act.put,List.getElem_toArray,List.getElem_cons_zero,List.getElem_cons_succ,List.setIfInBounds_toArray,List.set_cons_zero,List.set_cons_succ]
              refine wpAnyH_take (i:=5) (v:=.bool false) rfl (by kernel_rfl) (by kernel_rfl) (by kernel_rfl) (fun _ _ _ h=>h) (Or.inl ⟨by rfl,fun w _hS=>rfl⟩) ⟨kkeep jd v0,kkeep jd v1,kkeep jd v2⟩ ?_
              try simp only [Act.put,List.getElem_toArray,List.getElem_cons_zero,List.getElem_cons_succ,List.setIfInBounds_toArray,List.set_cons_zero,List.set_cons_succ]
              refine wpAnyH_take (i:=6) (v:=.agg #[.bool s,.slice p l c,.slice q k d]) rfl (by kernel_rfl) (by kernel_rfl) (by kernel_rfl) (fun _ _ _ h=>h) (Or.inl ⟨by rfl,fun w _hS=>exL rfl _ rfl (load43 w B10 s p l c q k d _hS.1 _hS.2.1 _hS.2.2)⟩) ⟨kkeep jd v0,kkeep jd v1,kkeep jd v2⟩ ?_
              try simp only [Act.put,List.getElem_toArray,List.getElem_cons_zero,List.getElem_cons_succ,List.setIfInBounds_toArray,List.set_cons_zero,List.set_cons_succ]
              refine wpAnyH_take (i:=7) (v:=.int .u64 NX) rfl (by kernel_rfl) (by kernel_rfl) (by kernel_rfl) (fun _ _ _ h=>h) (Or.inl ⟨by rfl,fun w _hS=>rfl⟩) ⟨kkeep jd v0,kkeep jd v1,kkeep jd v2⟩ ?_
              try simp only [Act.put,List.getElem_toArray,List.getElem_cons_zero,List.getElem_cons_succ,List.setIfInBounds_toArray,List.set_cons_zero,List.set_cons_succ]
              refine wpAnyH_ready (rs:=[8]) (by kernel_rfl) (by simp) ?_
              refine AllReadyH.cons rfl (fun K hK=>?_) AllReadyH.nil
              rw [if_pos (by rfl)]
              go_simp
              refine (hfn _).mono ?_
              rintro e W3 ⟨s2,p2,l2,c2,q2,k2,d2,rfl,D2,g3⟩
              have j3:=jd.trans g3
              have hc9:=hcn wg W3 s p l c q k d s2 p2 l2 c2 q2 k2 d2 hb9 (kv.trans j3) D2
              go_wp2_with fail
              refine hK.out _ _ ⟨kkeep j3 v0,kkeep j3 v1,kkeep j3 v2⟩ (fun _=>?_)
              clear hK K
              try simp only [Act.put,List.getElem_toArray,List.getElem_cons_zero,List.getElem_cons_succ,List.setIfInBounds_toArray,List.set_cons_zero,List.set_cons_succ]
              refine wpAnyH_ready (rs:=[9]) (by kernel_rfl) (by simp) ?_
              refine AllReadyH.cons rfl (fun K hK=>?_) AllReadyH.nil
              rw [if_pos (by rfl)]
              go_simp
              refine hc9.mono ?_
              rintro e W4 ⟨rfl,g4⟩
              have j4:=j3.trans g4
              go_wp2_with fail
              refine hK.out _ _ ⟨kkeep j4 v0,kkeep j4 v1,kkeep j4 v2⟩ (fun _=>?_)
              clear hK K
              try simp only [Act.put,List.getElem_toArray,List.getElem_cons_zero,List.getElem_cons_succ,List.setIfInBounds_toArray,List.set_cons_zero,List.set_cons_succ]
              refine wpAnyH_take (i:=10) (v:=.bool false) rfl (by kernel_rfl) (by kernel_rfl) (by kernel_rfl) (fun _ _ _ h=>h) (Or.inl ⟨by rfl,fun w _hS=>(by go_simp <;> (try with_reducible rfl))⟩) ⟨kkeep j4 v0,kkeep j4 v1,kkeep j4 v2⟩ ?_
              try simp only [Act.put,List.getElem_toArray,List.getElem_cons_zero,List.getElem_cons_succ,List.setIfInBounds_toArray,List.set_cons_zero,List.set_cons_succ]
              refine wpAnyH_take (i:=11) (v:=.bool false) rfl (by kernel_rfl) (by kernel_rfl) (by kernel_rfl) (fun _ _ _ h=>h) (Or.inl ⟨by rfl,fun w _hS=>rfl⟩) ⟨kkeep j4 v0,kkeep j4 v1,kkeep j4 v2⟩ ?_
              try simp only [Act.put,List.getElem_toArray,List.getElem_cons_zero,List.getElem_cons_succ,List.setIfInBounds_toArray,List.set_cons_zero,List.set_cons_succ]
              refine wpAnyH_take (i:=12) (v:=.bool false) rfl (by kernel_rfl) (by kernel_rfl) (by kernel_rfl) (fun _ _ _ h=>h) (Or.inl ⟨by rfl,fun w _hS=>rfl⟩) ⟨kkeep j4 v0,kkeep j4 v1,kkeep j4 v2⟩ ?_
              try simp only [Act.put,List.getElem_toArray,List.getElem_cons_zero,List.getElem_cons_succ,List.setIfInBounds_toArray,List.set_cons_zero,List.set_cons_succ]
              refine wpAnyH_done (by kernel_rfl) ?_ _
              go_wp2_with fail
              go_meet
              exact ⟨by rw [hlk,hl];rw [tn];simp [hk9],j4⟩
              
          · rw [tn] at tN
            have jd:Kp W11 W11.drew:=(Kp.refl _).drew
            refine wp_region_held_drew (S:=(fun w':World=>w'.cell? ⟨B10,0,none⟩ = some (.bool s)∧w'.cell? ⟨B10,1,none⟩ = some (.slice p l c)∧w'.cell? ⟨B10,2,none⟩ = some (.slice q k d))) (by kernel_rfl) ⟨kkeep jd v0,kkeep jd v1,kkeep jd v2⟩ (fun _=>?_)
            refine wpAnyH_take (i:=0) (v:=.bool false) rfl (by kernel_rfl) (by kernel_rfl) (by kernel_rfl) (fun _ _ _ h=>h) (Or.inl ⟨by rfl,fun w _hS=>rfl⟩) ⟨kkeep jd v0,kkeep jd v1,kkeep jd v2⟩ ?_
            try simp only [Act.put,List.getElem_toArray,List.getElem_cons_zero,List.getElem_cons_succ,List.setIfInBounds_toArray,List.set_cons_zero,List.set_cons_succ]
            refine wpAnyH_take (i:=1) (v:=.bool false) rfl (by kernel_rfl) (by kernel_rfl) (by kernel_rfl) (fun _ _ _ h=>h) (Or.inl ⟨by rfl,fun w _hS=>rfl⟩) ⟨kkeep jd v0,kkeep jd v1,kkeep jd v2⟩ ?_
            try simp only [Act.put,List.getElem_toArray,List.getElem_cons_zero,List.getElem_cons_succ,List.setIfInBounds_toArray,List.set_cons_zero,List.set_cons_succ]
            refine wpAnyH_take (i:=2) (v:=.int .u64 NX) rfl (by kernel_rfl) (by kernel_rfl) (by kernel_rfl) (fun _ _ _ h=>h) (Or.inl ⟨by rfl,fun w _hS=>rfl⟩) ⟨kkeep jd v0,kkeep jd v1,kkeep jd v2⟩ ?_
            try simp only [Act.put,List.getElem_toArray,List.getElem_cons_zero,List.getElem_cons_succ,List.setIfInBounds_toArray,List.set_cons_zero,List.set_cons_succ]
            refine wpAnyH_take (i:=3) (v:=.bool true) rfl (by kernel_rfl) (by kernel_rfl) (by kernel_rfl) (fun _ _ _ h=>h) (Or.inl ⟨by rfl,fun w _hS=>(by go_simp <;> (try with_reducible rfl))⟩) ⟨kkeep jd v0,kkeep jd v1,kkeep jd v2⟩ ?_
            try simp only [Act.put,List.getElem_toArray,List.getElem_cons_zero,List.getElem_cons_succ,List.setIfInBounds_toArray,List.set_cons_zero,List.set_cons_succ]
            refine wpAnyH_take (i:=4) (v:=.bool true) rfl (by kernel_rfl) (by kernel_rfl) (by kernel_rfl) (fun _ _ _ h=>h) (Or.inl ⟨by rfl,fun w _hS=>rfl⟩) ⟨kkeep jd v0,kkeep jd v1,kkeep jd v2⟩ ?_
            try simp only [Act.put,List.getElem_toArray,List.getElem_cons_zero,List.getElem_cons_succ,List.setIfInBounds_toArray,List.set_cons_zero,List.set_cons_succ]
            refine wpAnyH_take (i:=5) (v:=.bool true) rfl (by kernel_rfl) (by kernel_rfl) (by kernel_rfl) (fun _ _ _ h=>h) (Or.inl ⟨by rfl,fun w _hS=>rfl⟩) ⟨kkeep jd v0,kkeep jd v1,kkeep jd v2⟩ ?_
            try simp only [Act.put,List.getElem_toArray,List.getElem_cons_zero,List.getElem_cons_succ,List.setIfInBounds_toArray,List.set_cons_zero,List.set_cons_succ]
            refine wpAnyH_take (i:=6) (v:=undef) rfl (by kernel_rfl) (by kernel_rfl) (by kernel_rfl) (fun _ _ _ h=>h) (Or.inr ⟨by rfl,rfl⟩) ⟨kkeep jd v0,kkeep jd v1,kkeep jd v2⟩ ?_
            try simp only [Act.put,List.getElem_toArray,List.getElem_cons_zero,List.getElem_cons_succ,List.setIfInBounds_toArray,List.set_cons_zero,List.set_cons_succ]
            refine wpAnyH_take (i:=7) (v:=undef) rfl (by kernel_rfl) (by kernel_rfl) (by kernel_rfl) (fun _ _ _ h=>h) (Or.inr ⟨by rfl,rfl⟩) ⟨kkeep jd v0,kkeep jd v1,kkeep jd v2⟩ ?_
            try simp only [Act.put,List.getElem_toArray,List.getElem_cons_zero,List.getElem_cons_succ,List.setIfInBounds_toArray,List.set_cons_zero,List.set_cons_succ]
            refine wpAnyH_ready (rs:=[8]) (by kernel_rfl) (by simp) ?_
            refine AllReadyH.cons rfl (fun K hK=>?_) AllReadyH.nil
            refine if_no (by rfl) ?_
            refine hK.out _ _ ⟨kkeep jd v0,kkeep jd v1,kkeep jd v2⟩ (fun _=>?_)
            clear hK K
            try simp only [Act.put,List.getElem_toArray,List.getElem_cons_zero,List.getElem_cons_succ,List.setIfInBounds_toArray,List.set_cons_zero,List.set_cons_succ]
            refine wpAnyH_ready (rs:=[9]) (by kernel_rfl) (by simp) ?_
            refine AllReadyH.cons rfl (fun K hK=>?_) AllReadyH.nil
            refine if_no (by rfl) ?_
            refine hK.out _ _ ⟨kkeep jd v0,kkeep jd v1,kkeep jd v2⟩ (fun _=>?_)
            clear hK K
            try simp only [Act.put,List.getElem_toArray,List.getElem_cons_zero,List.getElem_cons_succ,List.setIfInBounds_toArray,List.set_cons_zero,List.set_cons_succ]
            refine wpAnyH_take (i:=10) (v:=undef) rfl (by kernel_rfl) (by kernel_rfl) (by kernel_rfl) (fun _ _ _ h=>h) (Or.inr ⟨by rfl,rfl⟩) ⟨kkeep jd v0,kkeep jd v1,kkeep jd v2⟩ ?_
            try simp only [Act.put,List.getElem_toArray,List.getElem_cons_zero,List.getElem_cons_succ,List.setIfInBounds_toArray,List.set_cons_zero,List.set_cons_succ]
            refine wpAnyH_take (i:=11) (v:=.bool true) rfl (by kernel_rfl) (by kernel_rfl) (by kernel_rfl) (fun _ _ _ h=>h) (Or.inl ⟨by rfl,fun w _hS=>rfl⟩) ⟨kkeep jd v0,kkeep jd v1,kkeep jd v2⟩ ?_
            try simp only [Act.put,List.getElem_toArray,List.getElem_cons_zero,List.getElem_cons_succ,List.setIfInBounds_toArray,List.set_cons_zero,List.set_cons_succ]
            refine wpAnyH_take (i:=12) (v:=.bool true) rfl (by kernel_rfl) (by kernel_rfl) (by kernel_rfl) (fun _ _ _ h=>h) (Or.inl ⟨by rfl,fun w _hS=>rfl⟩) ⟨kkeep jd v0,kkeep jd v1,kkeep jd v2⟩ ?_
            try simp only [Act.put,List.getElem_toArray,List.getElem_cons_zero,List.getElem_cons_succ,List.setIfInBounds_toArray,List.set_cons_zero,List.set_cons_succ]
            refine wpAnyH_done (by kernel_rfl) ?_ _
            go_wp2_with fail
            go_meet
            exact ⟨by rw [hlk,hl];rw [tn];rfl,jd⟩
            
        · have jd:Kp W11 W11.drew:=(Kp.refl _).drew
          refine wp_region_held_drew (S:=(fun w':World=>w'.cell? ⟨B10,0,none⟩ = some (.bool s)∧w'.cell? ⟨B10,1,none⟩ = some (.slice p l c)∧w'.cell? ⟨B10,2,none⟩ = some (.slice q k d))) (by kernel_rfl) ⟨kkeep jd v0,kkeep jd v1,kkeep jd v2⟩ (fun _=>?_)
          refine wpAnyH_take (i:=0) (v:=.bool true) rfl (by kernel_rfl) (by kernel_rfl) (by kernel_rfl) (fun _ _ _ h=>h) (Or.inl ⟨by rfl,fun w _hS=>rfl⟩) ⟨kkeep jd v0,kkeep jd v1,kkeep jd v2⟩ ?_
          try simp only [Act.put,List.getElem_toArray,List.getElem_cons_zero,List.getElem_cons_succ,List.setIfInBounds_toArray,List.set_cons_zero,List.set_cons_succ]
          refine wpAnyH_take (i:=1) (v:=.bool true) rfl (by kernel_rfl) (by kernel_rfl) (by kernel_rfl) (fun _ _ _ h=>h) (Or.inl ⟨by rfl,fun w _hS=>rfl⟩) ⟨kkeep jd v0,kkeep jd v1,kkeep jd v2⟩ ?_
          try simp only [Act.put,List.getElem_toArray,List.getElem_cons_zero,List.getElem_cons_succ,List.setIfInBounds_toArray,List.set_cons_zero,List.set_cons_succ]
          refine wpAnyH_take (i:=2) (v:=undef) rfl (by kernel_rfl) (by kernel_rfl) (by kernel_rfl) (fun _ _ _ h=>h) (Or.inr ⟨by rfl,rfl⟩) ⟨kkeep jd v0,kkeep jd v1,kkeep jd v2⟩ ?_
          try simp only [Act.put,List.getElem_toArray,List.getElem_cons_zero,List.getElem_cons_succ,List.setIfInBounds_toArray,List.set_cons_zero,List.set_cons_succ]
          refine wpAnyH_take (i:=3) (v:=undef) rfl (by kernel_rfl) (by kernel_rfl) (by kernel_rfl) (fun _ _ _ h=>h) (Or.inr ⟨by rfl,rfl⟩) ⟨kkeep jd v0,kkeep jd v1,kkeep jd v2⟩ ?_
          try simp only [Act.put,List.getElem_toArray,List.getElem_cons_zero,List.getElem_cons_succ,List.setIfInBounds_toArray,List.set_cons_zero,List.set_cons_succ]
          refine wpAnyH_take (i:=4) (v:=.bool true) rfl (by kernel_rfl) (by kernel_rfl) (by kernel_rfl) (fun _ _ _ h=>h) (Or.inl ⟨by rfl,fun w _hS=>rfl⟩) ⟨kkeep jd v0,kkeep jd v1,kkeep jd v2⟩ ?_
          try simp only [Act.put,List.getElem_toArray,List.getElem_cons_zero,List.getElem_cons_succ,List.setIfInBounds_toArray,List.set_cons_zero,List.set_cons_succ]
          refine wpAnyH_take (i:=5) (v:=.bool true) rfl (by kernel_rfl) (by kernel_rfl) (by kernel_rfl) (fun _ _ _ h=>h) (Or.inl ⟨by rfl,fun w _hS=>rfl⟩) ⟨kkeep jd v0,kkeep jd v1,kkeep jd v2⟩ ?_
          try simp only [Act.put,List.getElem_toArray,List.getElem_cons_zero,List.getElem_cons_succ,List.setIfInBounds_toArray,List.set_cons_zero,List.set_cons_succ]
          refine wpAnyH_take (i:=6) (v:=undef) rfl (by kernel_rfl) (by kernel_rfl) (by kernel_rfl) (fun _ _ _ h=>h) (Or.inr ⟨by rfl,rfl⟩) ⟨kkeep jd v0,kkeep jd v1,kkeep jd v2⟩ ?_
          try simp only [Act.put,List.getElem_toArray,List.getElem_cons_zero,List.getElem_cons_succ,List.setIfInBounds_toArray,List.set_cons_zero,List.set_cons_succ]
          refine wpAnyH_take (i:=7) (v:=undef) rfl (by kernel_rfl) (by kernel_rfl) (by kernel_rfl) (fun _ _ _ h=>h) (Or.inr ⟨by rfl,rfl⟩) ⟨kkeep jd v0,kkeep jd v1,kkeep jd v2⟩ ?_
          try simp only [Act.put,List.getElem_toArray,List.getElem_cons_zero,List.getElem_cons_succ,List.setIfInBounds_toArray,List.set_cons_zero,List.set_cons_succ]
          refine wpAnyH_ready (rs:=[8]) (by kernel_rfl) (by simp) ?_
          refine AllReadyH.cons rfl (fun K hK=>?_) AllReadyH.nil
          refine if_no (by rfl) ?_
          refine hK.out _ _ ⟨kkeep jd v0,kkeep jd v1,kkeep jd v2⟩ (fun _=>?_)
          clear hK K
          try simp only [Act.put,List.getElem_toArray,List.getElem_cons_zero,List.getElem_cons_succ,List.setIfInBounds_toArray,List.set_cons_zero,List.set_cons_succ]
          refine wpAnyH_ready (rs:=[9]) (by kernel_rfl) (by simp) ?_
          refine AllReadyH.cons rfl (fun K hK=>?_) AllReadyH.nil
          refine if_no (by rfl) ?_
          refine hK.out _ _ ⟨kkeep jd v0,kkeep jd v1,kkeep jd v2⟩ (fun _=>?_)
          clear hK K
          try simp only [Act.put,List.getElem_toArray,List.getElem_cons_zero,List.getElem_cons_succ,List.setIfInBounds_toArray,List.set_cons_zero,List.set_cons_succ]
          refine wpAnyH_take (i:=10) (v:=undef) rfl (by kernel_rfl) (by kernel_rfl) (by kernel_rfl) (fun _ _ _ h=>h) (Or.inr ⟨by rfl,rfl⟩) ⟨kkeep jd v0,kkeep jd v1,kkeep jd v2⟩ ?_
          try simp only [Act.put,List.getElem_toArray,List.getElem_cons_zero,List.getElem_cons_succ,List.setIfInBounds_toArray,List.set_cons_zero,List.set_cons_succ]
          refine wpAnyH_take (i:=11) (v:=.bool true) rfl (by kernel_rfl) (by kernel_rfl) (by kernel_rfl) (fun _ _ _ h=>h) (Or.inl ⟨by rfl,fun w _hS=>rfl⟩) ⟨kkeep jd v0,kkeep jd v1,kkeep jd v2⟩ ?_
          try simp only [Act.put,List.getElem_toArray,List.getElem_cons_zero,List.getElem_cons_succ,List.setIfInBounds_toArray,List.set_cons_zero,List.set_cons_succ]
          refine wpAnyH_take (i:=12) (v:=.bool true) rfl (by kernel_rfl) (by kernel_rfl) (by kernel_rfl) (fun _ _ _ h=>h) (Or.inl ⟨by rfl,fun w _hS=>rfl⟩) ⟨kkeep jd v0,kkeep jd v1,kkeep jd v2⟩ ?_
          try simp only [Act.put,List.getElem_toArray,List.getElem_cons_zero,List.getElem_cons_succ,List.setIfInBounds_toArray,List.set_cons_zero,List.set_cons_succ]
          refine wpAnyH_done (by kernel_rfl) ?_ _
          go_wp2_with fail
          go_meet
          exact ⟨by rw [hlk,hl];rfl,jd⟩
          
      case rest =>
      obtain ⟨rfl,k12⟩:=hcut
      replace qL9:=Fq.H2.keep qL9 k12
      replace qv:=H3c.keep qv k12
      replace kv:=Kp.trans kv k12
      replace gr10:=Kp.trans gr10 k12
      clear l0 l1 lz0 lz1 v0 v1 v2 vz0 vz1 vz2 k12
      generalize wc = W12 at *
      obtain ⟨l0,l1,lz0,lz1⟩:=id qL9
      obtain ⟨v0,v1,v2,vz0,vz1,vz2⟩:=id qv
      have hUq:=(HH.out.2.2.2.2.2.2.2.2.2.2.1)
      have hx1:=(HH.out.2.2.2.2.2.2.2.2.1)
      have hx2:=(HH.out.2.2.2.2.2.2.2.2.2.1)
      go_upto_region 24 with (first | (go_at_call 41;refine (hUq _).mono ?_;rintro e w' ⟨rfl,hw'⟩;obtain rfl:=hw'.symm;clear hw'))
      clear hUq hx1 hx2
      have hhk:=(HH.out.2.1) k9 ck
      have tZ:=(HH.out.2.2.2.2.2.2.2.2.2.2.2.2.2.2.1)
      have tS:=(HH.out.2.2.2.2.2.2.2.2.2.2.2.2.2.2.2)
      have hft:=(HH.out.2.2.2.2.2.2.2.2.2.2.2.2.1)
      have hfl0:=(HH.out.2.2.2.1)
      have hct:=(HH.out.2.2.2.2.2.1) k9 ck
      have hcl:=(HH.out.2.2.2.2.2.2.1) k9 ck
      cases hl:hg k9
      · cases tz:hz
        · rw [tz] at tZ
          have tZ2:(HI != 0) = true:=by rw [bne,tZ];rfl
          cases ts:lsI
          · rw [ts] at tS
            have hfl:=hfl0 ts
            by_cases hk9:0 < kL k9
            · have jd:Kp W12 W12.drew:=(Kp.refl _).drew
              refine wp_region_held_drew (S:=(fun w':World=>w'.cell? ⟨B8,1,none⟩ = some (.int .u64 HI)∧w'.cell? ⟨B10,0,none⟩ = some (.bool s)∧w'.cell? ⟨B10,1,none⟩ = some (.slice p l c)∧w'.cell? ⟨B10,2,none⟩ = some (.slice q k d))) (by kernel_rfl) ⟨kkeep jd l1,kkeep jd v0,kkeep jd v1,kkeep jd v2⟩ (fun _=>?_)
              refine wpAnyH_take (i:=0) (v:=.bool false) rfl (by kernel_rfl) (by kernel_rfl) (by kernel_rfl) (fun _ _ _ h=>h) (Or.inl ⟨by rfl,fun w _hS=>rfl⟩) ⟨kkeep jd l1,kkeep jd v0,kkeep jd v1,kkeep jd v2⟩ ?_
              try simp only [Act.put,List.getElem_toArray,List.getElem_cons_zero,List.getElem_cons_succ,List.setIfInBounds_toArray,List.set_cons_zero,List.set_cons_succ]
              refine wpAnyH_take (i:=1) (v:=.bool false) rfl (by kernel_rfl) (by kernel_rfl) (by kernel_rfl) (fun _ _ _ h=>h) (Or.inl ⟨by rfl,fun w _hS=>rfl⟩) ⟨kkeep jd l1,kkeep jd v0,kkeep jd v1,kkeep jd v2⟩ ?_
              try simp only [Act.put,List.getElem_toArray,List.getElem_cons_zero,List.getElem_cons_succ,List.setIfInBounds_toArray,List.set_cons_zero,List.set_cons_succ]
              refine wpAnyH_take (i:=2) (v:=.pointer (some ⟨B8,1,none⟩)) rfl (by kernel_rfl) (by kernel_rfl) (by kernel_rfl) (fun _ _ _ h=>h) (Or.inl ⟨by rfl,fun w _hS=>rfl⟩) ⟨kkeep jd l1,kkeep jd v0,kkeep jd v1,kkeep jd v2⟩ ?_
              try simp only [Act.put,List.getElem_toArray,List.getElem_cons_zero,List.getElem_cons_succ,List.setIfInBounds_toArray,List.set_cons_zero,List.set_cons_succ]
              refine wpAnyH_take (i:=3) (v:=.int .u64 HI) rfl (by kernel_rfl) (by kernel_rfl) (by kernel_rfl) (fun _ _ _ h=>h) (Or.inl ⟨by rfl,fun w _hS=>by simp [go_sem,_hS.1]⟩) ⟨kkeep jd l1,kkeep jd v0,kkeep jd v1,kkeep jd v2⟩ ?_
              try simp only [Act.put,List.getElem_toArray,List.getElem_cons_zero,List.getElem_cons_succ,List.setIfInBounds_toArray,List.set_cons_zero,List.set_cons_succ]
              refine wpAnyH_take (i:=4) (v:=.bool false) rfl (by kernel_rfl) (by kernel_rfl) (by kernel_rfl) (fun _ _ _ h=>h) (Or.inl ⟨by rfl,fun w _hS=>(by go_simp <;> (try with_reducible rfl))⟩) ⟨kkeep jd l1,kkeep jd v0,kkeep jd v1,kkeep jd v2⟩ ?_
              try simp only [Act.put,List.getElem_toArray,List.getElem_cons_zero,List.getElem_cons_succ,List.setIfInBounds_toArray,List.set_cons_zero,List.set_cons_succ]
              refine wpAnyH_take (i:=5) (v:=.bool false) rfl (by kernel_rfl) (by kernel_rfl) (by kernel_rfl) (fun _ _ _ h=>h) (Or.inl ⟨by rfl,fun w _hS=>rfl⟩) ⟨kkeep jd l1,kkeep jd v0,kkeep jd v1,kkeep jd v2⟩ ?_
              try simp only [Act.put,List.getElem_toArray,List.getElem_cons_zero,List.getElem_cons_succ,List.setIfInBounds_toArray,List.set_cons_zero,List.set_cons_succ]
              refine wpAnyH_take (i:=6) (v:=undef) rfl (by kernel_rfl) (by kernel_rfl) (by kernel_rfl) (fun _ _ _ h=>h) (Or.inr ⟨by rfl,rfl⟩) ⟨kkeep jd l1,kkeep jd v0,kkeep jd v1,kkeep jd v2⟩ ?_
              try simp only [Act.put,List.getElem_toArray,List.getElem_cons_zero,List.getElem_cons_succ,List.setIfInBounds_toArray,List.set_cons_zero,List.set_cons_succ]
              refine wpAnyH_ready (rs:=[7]) (by kernel_rfl) (by simp) ?_
              refine AllReadyH.cons rfl (fun K hK=>?_) AllReadyH.nil
              refine if_no (by rfl) ?_
              refine hK.out _ _ ⟨kkeep jd l1,kkeep jd v0,kkeep jd v1,kkeep jd v2⟩ (fun _=>?_)
              clear hK K
              try simp only [Act.put,List.getElem_toArray,List.getElem_cons_zero,List.getElem_cons_succ,List.setIfInBounds_toArray,List.set_cons_zero,List.set_cons_succ]
              refine wpAnyH_ready (rs:=[8]) (by kernel_rfl) (by simp) ?_
              refine AllReadyH.cons rfl (fun K hK=>?_) AllReadyH.nil
              refine if_no (by rfl) ?_
              refine hK.out _ _ ⟨kkeep jd l1,kkeep jd v0,kkeep jd v1,kkeep jd v2⟩ (fun _=>?_)
              clear hK K
              try simp only [Act.put,List.getElem_toArray,List.getElem_cons_zero,List.getElem_cons_succ,List.setIfInBounds_toArray,List.set_cons_zero,List.set_cons_succ]
              refine wpAnyH_take (i:=9) (v:=undef) rfl (by kernel_rfl) (by kernel_rfl) (by kernel_rfl) (fun _ _ _ h=>h) (Or.inr ⟨by rfl,rfl⟩) ⟨kkeep jd l1,kkeep jd v0,kkeep jd v1,kkeep jd v2⟩ ?_
              try simp only [Act.put,List.getElem_toArray,List.getElem_cons_zero,List.getElem_cons_succ,List.setIfInBounds_toArray,List.set_cons_zero,List.set_cons_succ]
              refine wpAnyH_take (i:=10) (v:=.bool false) rfl (by kernel_rfl) (by kernel_rfl) (by kernel_rfl) (fun _ _ _ h=>h) (Or.inl ⟨by rfl,fun w _hS=>rfl⟩) ⟨kkeep jd l1,kkeep jd v0,kkeep jd v1,kkeep jd v2⟩ ?_
              try simp only [Act.put,List.getElem_toArray,List.getElem_cons_zero,List.getElem_cons_succ,List.setIfInBounds_toArray,List.set_cons_zero,List.set_cons_succ]
              refine wpAnyH_take (i:=11) (v:=.bool false) rfl (by kernel_rfl) (by kernel_rfl) (by kernel_rfl) (fun _ _ _ h=>h) (Or.inl ⟨by rfl,fun w _hS=>rfl⟩) ⟨kkeep jd l1,kkeep jd v0,kkeep jd v1,kkeep jd v2⟩ ?_
              try simp only [Act.put,List.getElem_toArray,List.getElem_cons_zero,List.getElem_cons_succ,List.setIfInBounds_toArray,List.set_cons_zero,List.set_cons_succ]
              refine wpAnyH_take (i:=12) (v:=.bool false) rfl (by kernel_rfl) (by kernel_rfl) (by kernel_rfl) (fun _ _ _ h=>h) (Or.inl ⟨by rfl,fun w _hS=>rfl⟩) ⟨kkeep jd l1,kkeep jd v0,kkeep jd v1,kkeep jd v2⟩ ?_
              try simp only [Act.put,List.getElem_toArray,List.getElem_cons_zero,List.getElem_cons_succ,List.setIfInBounds_toArray,List.set_cons_zero,List.set_cons_succ]
              refine wpAnyH_take (i:=13) (v:=.pointer (some ⟨B8,1,none⟩)) rfl (by kernel_rfl) (by kernel_rfl) (by kernel_rfl) (fun _ _ _ h=>h) (Or.inl ⟨by rfl,fun w _hS=>rfl⟩) ⟨kkeep jd l1,kkeep jd v0,kkeep jd v1,kkeep jd v2⟩ ?_
              try simp only [Act.put,List.getElem_toArray,List.getElem_cons_zero,List.getElem_cons_succ,List.setIfInBounds_toArray,List.set_cons_zero,List.set_cons_succ]
              refine wpAnyH_take (i:=14) (v:=.int .u64 HI) rfl (by kernel_rfl) (by kernel_rfl) (by kernel_rfl) (fun _ _ _ h=>h) (Or.inl ⟨by rfl,fun w _hS=>by simp [go_sem,_hS.1]⟩) ⟨kkeep jd l1,kkeep jd v0,kkeep jd v1,kkeep jd v2⟩ ?_
              try simp only [Act.put,List.getElem_toArray,List.getElem_cons_zero,List.getElem_cons_succ,List.setIfInBounds_toArray,List.set_cons_zero,List.set_cons_succ]
              refine wpAnyH_take (i:=15) (v:=.bool true) rfl (by kernel_rfl) (by kernel_rfl) (by kernel_rfl) (fun _ _ _ h=>h) (Or.inl ⟨by rfl,fun w _hS=>(by go_simp <;> (try with_reducible rfl))⟩) ⟨kkeep jd l1,kkeep jd v0,kkeep jd v1,kkeep jd v2⟩ ?_
              try simp only [Act.put,List.getElem_toArray,List.getElem_cons_zero,List.getElem_cons_succ,List.setIfInBounds_toArray,List.set_cons_zero,List.set_cons_succ]
              refine wpAnyH_take (i:=16) (v:=.bool true) rfl (by kernel_rfl) (by kernel_rfl) (by kernel_rfl) (fun _ _ _ h=>h) (Or.inl ⟨by rfl,fun w _hS=>rfl⟩) ⟨kkeep jd l1,kkeep jd v0,kkeep jd v1,kkeep jd v2⟩ ?_
              try simp only [Act.put,List.getElem_toArray,List.getElem_cons_zero,List.getElem_cons_succ,List.setIfInBounds_toArray,List.set_cons_zero,List.set_cons_succ]
              refine wpAnyH_take (i:=17) (v:=.int .u64 LS) rfl (by kernel_rfl) (by kernel_rfl) (by kernel_rfl) (fun _ _ _ h=>h) (Or.inl ⟨by rfl,fun w _hS=>rfl⟩) ⟨kkeep jd l1,kkeep jd v0,kkeep jd v1,kkeep jd v2⟩ ?_
              try simp only [Act.put,List.getElem_toArray,List.getElem_cons_zero,List.getElem_cons_succ,List.setIfInBounds_toArray,List.set_cons_zero,List.set_cons_succ]
              refine wpAnyH_take (i:=18) (v:=.bool false) rfl (by kernel_rfl) (by kernel_rfl) (by kernel_rfl) (fun _ _ _ h=>h) (Or.inl ⟨by rfl,fun w _hS=>(by go_simp <;> (try with_reducible rfl))⟩) ⟨kkeep jd l1,kkeep jd v0,kkeep jd v1,kkeep jd v2⟩ ?_
              try simp only [Act.put,List.getElem_toArray,List.getElem_cons_zero,List.getElem_cons_succ,List.setIfInBounds_toArray,List.set_cons_zero,List.set_cons_succ]
              refine wpAnyH_take (i:=19) (v:=.bool false) rfl (by kernel_rfl) (by kernel_rfl) (by kernel_rfl) (fun _ _ _ h=>h) (Or.inl ⟨by rfl,fun w _hS=>rfl⟩) ⟨kkeep jd l1,kkeep jd v0,kkeep jd v1,kkeep jd v2⟩ ?_
              try simp only [Act.put,List.getElem_toArray,List.getElem_cons_zero,List.getElem_cons_succ,List.setIfInBounds_toArray,List.set_cons_zero,List.set_cons_succ]
              refine wpAnyH_take (i:=20) (v:=.agg #[.bool s,.slice p l c,.slice q k d]) rfl (by kernel_rfl) (by kernel_rfl) (by kernel_rfl) (fun _ _ _ h=>h) (Or.inl ⟨by rfl,fun w _hS=>exL rfl _ rfl (load43 w B10 s p l c q k d _hS.2.1 _hS.2.2.1 _hS.2.2.2)⟩) ⟨kkeep jd l1,kkeep jd v0,kkeep jd v1,kkeep jd v2⟩ ?_
              try simp only [Act.put,List.getElem_toArray,List.getElem_cons_zero,List.getElem_cons_succ,List.setIfInBounds_toArray,List.set_cons_zero,List.set_cons_succ]
              refine wpAnyH_take (i:=21) (v:=.int .u64 LS) rfl (by kernel_rfl) (by kernel_rfl) (by kernel_rfl) (fun _ _ _ h=>h) (Or.inl ⟨by rfl,fun w _hS=>rfl⟩) ⟨kkeep jd l1,kkeep jd v0,kkeep jd v1,kkeep jd v2⟩ ?_
              try simp only [Act.put,List.getElem_toArray,List.getElem_cons_zero,List.getElem_cons_succ,List.setIfInBounds_toArray,List.set_cons_zero,List.set_cons_succ]
              refine wpAnyH_ready (rs:=[22]) (by kernel_rfl) (by simp) ?_
              refine AllReadyH.cons rfl (fun K hK=>?_) AllReadyH.nil
              rw [if_pos (by rfl)]
              go_simp
              refine (hfl _).mono ?_
              rintro e W3 ⟨s2,p2,l2,c2,q2,k2,d2,rfl,D2,g3⟩
              have j3:=jd.trans g3
              have hc9:=hcl wg W3 s p l c q k d s2 p2 l2 c2 q2 k2 d2 hb9 (kv.trans j3) D2
              go_wp2_with fail
              refine hK.out _ _ ⟨kkeep j3 l1,kkeep j3 v0,kkeep j3 v1,kkeep j3 v2⟩ (fun _=>?_)
              clear hK K
              try simp only [Act.put,List.getElem_toArray,List.getElem_cons_zero,List.getElem_cons_succ,List.setIfInBounds_toArray,List.set_cons_zero,List.set_cons_succ]
              refine wpAnyH_ready (rs:=[23]) (by kernel_rfl) (by simp) ?_
              refine AllReadyH.cons rfl (fun K hK=>?_) AllReadyH.nil
              rw [if_pos (by rfl)]
              go_simp
              refine hc9.mono ?_
              rintro e W4 ⟨rfl,g4⟩
              have j4:=j3.trans g4
              go_wp2_with fail
              refine hK.out _ _ ⟨kkeep j4 l1,kkeep j4 v0,kkeep j4 v1,kkeep j4 v2⟩ (fun _=>?_)
              clear hK K
              try simp only [Act.put,List.getElem_toArray,List.getElem_cons_zero,List.getElem_cons_succ,List.setIfInBounds_toArray,List.set_cons_zero,List.set_cons_succ]
              refine wpAnyH_take (i:=24) (v:=.bool true) rfl (by kernel_rfl) (by kernel_rfl) (by kernel_rfl) (fun _ _ _ h=>h) (Or.inl ⟨by rfl,fun w _hS=>(by go_simp <;> (try with_reducible rfl))⟩) ⟨kkeep j4 l1,kkeep j4 v0,kkeep j4 v1,kkeep j4 v2⟩ ?_
              try simp only [Act.put,List.getElem_toArray,List.getElem_cons_zero,List.getElem_cons_succ,List.setIfInBounds_toArray,List.set_cons_zero,List.set_cons_succ]
              refine wpAnyH_take (i:=25) (v:=.bool true) rfl (by kernel_rfl) (by kernel_rfl) (by kernel_rfl) (fun _ _ _ h=>h) (Or.inl ⟨by rfl,fun w _hS=>rfl⟩) ⟨kkeep j4 l1,kkeep j4 v0,kkeep j4 v1,kkeep j4 v2⟩ ?_
              try simp only [Act.put,List.getElem_toArray,List.getElem_cons_zero,List.getElem_cons_succ,List.setIfInBounds_toArray,List.set_cons_zero,List.set_cons_succ]
              refine wpAnyH_take (i:=26) (v:=.bool true) rfl (by kernel_rfl) (by kernel_rfl) (by kernel_rfl) (fun _ _ _ h=>h) (Or.inl ⟨by rfl,fun w _hS=>rfl⟩) ⟨kkeep j4 l1,kkeep j4 v0,kkeep j4 v1,kkeep j4 v2⟩ ?_
              try simp only [Act.put,List.getElem_toArray,List.getElem_cons_zero,List.getElem_cons_succ,List.setIfInBounds_toArray,List.set_cons_zero,List.set_cons_succ]
              refine wpAnyH_take (i:=27) (v:=.bool true) rfl (by kernel_rfl) (by kernel_rfl) (by kernel_rfl) (fun _ _ _ h=>h) (Or.inl ⟨by rfl,fun w _hS=>rfl⟩) ⟨kkeep j4 l1,kkeep j4 v0,kkeep j4 v1,kkeep j4 v2⟩ ?_
              try simp only [Act.put,List.getElem_toArray,List.getElem_cons_zero,List.getElem_cons_succ,List.setIfInBounds_toArray,List.set_cons_zero,List.set_cons_succ]
              refine wpAnyH_take (i:=28) (v:=.bool true) rfl (by kernel_rfl) (by kernel_rfl) (by kernel_rfl) (fun _ _ _ h=>h) (Or.inl ⟨by rfl,fun w _hS=>rfl⟩) ⟨kkeep j4 l1,kkeep j4 v0,kkeep j4 v1,kkeep j4 v2⟩ ?_
              try simp only [Act.put,List.getElem_toArray,List.getElem_cons_zero,List.getElem_cons_succ,List.setIfInBounds_toArray,List.set_cons_zero,List.set_cons_succ]
              refine wpAnyH_done (by kernel_rfl) ?_ _
              go_wp2_with fail
              exact ⟨⟨k9 + 1,by omega,by go_num,rfl,by rw [hhk,hl,tz,ts];simp [hk9],Kp.trans gr10 j4⟩,by simp [intOf];omega⟩
              
            · have jd:Kp W12 W12.drew:=(Kp.refl _).drew
              refine wp_region_held_drew (S:=(fun w':World=>w'.cell? ⟨B8,1,none⟩ = some (.int .u64 HI)∧w'.cell? ⟨B10,0,none⟩ = some (.bool s)∧w'.cell? ⟨B10,1,none⟩ = some (.slice p l c)∧w'.cell? ⟨B10,2,none⟩ = some (.slice q k d))) (by kernel_rfl) ⟨kkeep jd l1,kkeep jd v0,kkeep jd v1,kkeep jd v2⟩ (fun _=>?_)
              refine wpAnyH_take (i:=0) (v:=.bool false) rfl (by kernel_rfl) (by kernel_rfl) (by kernel_rfl) (fun _ _ _ h=>h) (Or.inl ⟨by rfl,fun w _hS=>rfl⟩) ⟨kkeep jd l1,kkeep jd v0,kkeep jd v1,kkeep jd v2⟩ ?_
              try simp only [Act.put,List.getElem_toArray,List.getElem_cons_zero,List.getElem_cons_succ,List.setIfInBounds_toArray,List.set_cons_zero,List.set_cons_succ]
              refine wpAnyH_take (i:=1) (v:=.bool false) rfl (by kernel_rfl) (by kernel_rfl) (by kernel_rfl) (fun _ _ _ h=>h) (Or.inl ⟨by rfl,fun w _hS=>rfl⟩) ⟨kkeep jd l1,kkeep jd v0,kkeep jd v1,kkeep jd v2⟩ ?_
              try simp only [Act.put,List.getElem_toArray,List.getElem_cons_zero,List.getElem_cons_succ,List.setIfInBounds_toArray,List.set_cons_zero,List.set_cons_succ]
              refine wpAnyH_take (i:=2) (v:=.pointer (some ⟨B8,1,none⟩)) rfl (by kernel_rfl) (by kernel_rfl) (by kernel_rfl) (fun _ _ _ h=>h) (Or.inl ⟨by rfl,fun w _hS=>rfl⟩) ⟨kkeep jd l1,kkeep jd v0,kkeep jd v1,kkeep jd v2⟩ ?_
              try simp only [Act.put,List.getElem_toArray,List.getElem_cons_zero,List.getElem_cons_succ,List.setIfInBounds_toArray,List.set_cons_zero,List.set_cons_succ]
              refine wpAnyH_take (i:=3) (v:=.int .u64 HI) rfl (by kernel_rfl) (by kernel_rfl) (by kernel_rfl) (fun _ _ _ h=>h) (Or.inl ⟨by rfl,fun w _hS=>by simp [go_sem,_hS.1]⟩) ⟨kkeep jd l1,kkeep jd v0,kkeep jd v1,kkeep jd v2⟩ ?_
              try simp only [Act.put,List.getElem_toArray,List.getElem_cons_zero,List.getElem_cons_succ,List.setIfInBounds_toArray,List.set_cons_zero,List.set_cons_succ]
              refine wpAnyH_take (i:=4) (v:=.bool false) rfl (by kernel_rfl) (by kernel_rfl) (by kernel_rfl) (fun _ _ _ h=>h) (Or.inl ⟨by rfl,fun w _hS=>(by go_simp <;> (try with_reducible rfl))⟩) ⟨kkeep jd l1,kkeep jd v0,kkeep jd v1,kkeep jd v2⟩ ?_
              try simp only [Act.put,List.getElem_toArray,List.getElem_cons_zero,List.getElem_cons_succ,List.setIfInBounds_toArray,List.set_cons_zero,List.set_cons_succ]
              refine wpAnyH_take (i:=5) (v:=.bool false) rfl (by kernel_rfl) (by kernel_rfl) (by kernel_rfl) (fun _ _ _ h=>h) (Or.inl ⟨by rfl,fun w _hS=>rfl⟩) ⟨kkeep jd l1,kkeep jd v0,kkeep jd v1,kkeep jd v2⟩ ?_
              try simp only [Act.put,List.getElem_toArray,List.getElem_cons_zero,List.getElem_cons_succ,List.setIfInBounds_toArray,List.set_cons_zero,List.set_cons_succ]
              refine wpAnyH_take (i:=6) (v:=undef) rfl (by kernel_rfl) (by kernel_rfl) (by kernel_rfl) (fun _ _ _ h=>h) (Or.inr ⟨by rfl,rfl⟩) ⟨kkeep jd l1,kkeep jd v0,kkeep jd v1,kkeep jd v2⟩ ?_
              try simp only [Act.put,List.getElem_toArray,List.getElem_cons_zero,List.getElem_cons_succ,List.setIfInBounds_toArray,List.set_cons_zero,List.set_cons_succ]
              refine wpAnyH_ready (rs:=[7]) (by kernel_rfl) (by simp) ?_
              refine AllReadyH.cons rfl (fun K hK=>?_) AllReadyH.nil
              refine if_no (by rfl) ?_
              refine hK.out _ _ ⟨kkeep jd l1,kkeep jd v0,kkeep jd v1,kkeep jd v2⟩ (fun _=>?_)
              clear hK K
              try simp only [Act.put,List.getElem_toArray,List.getElem_cons_zero,List.getElem_cons_succ,List.setIfInBounds_toArray,List.set_cons_zero,List.set_cons_succ]
              refine wpAnyH_ready (rs:=[8]) (by kernel_rfl) (by simp) ?_
              refine AllReadyH.cons rfl (fun K hK=>?_) AllReadyH.nil
              refine if_no (by rfl) ?_
              refine hK.out _ _ ⟨kkeep jd l1,kkeep jd v0,kkeep jd v1,kkeep jd v2⟩ (fun _=>?_)
              clear hK K
              try simp only [Act.put,List.getElem_toArray,List.getElem_cons_zero,List.getElem_cons_succ,List.setIfInBounds_toArray,List.set_cons_zero,List.set_cons_succ]
              refine wpAnyH_take (i:=9) (v:=undef) rfl (by kernel_rfl) (by kernel_rfl) (by kernel_rfl) (fun _ _ _ h=>h) (Or.inr ⟨by rfl,rfl⟩) ⟨kkeep jd l1,kkeep jd v0,kkeep jd v1,kkeep jd v2⟩ ?_
              try simp only [Act.put,List.getElem_toArray,List.getElem_cons_zero,List.getElem_cons_succ,List.setIfInBounds_toArray,List.set_cons_zero,List.set_cons_succ]
              refine wpAnyH_take (i:=10) (v:=.bool false) rfl (by kernel_rfl) (by kernel_rfl) (by kernel_rfl) (fun _ _ _ h=>h) (Or.inl ⟨by rfl,fun w _hS=>rfl⟩) ⟨kkeep jd l1,kkeep jd v0,kkeep jd v1,kkeep jd v2⟩ ?_
              try simp only [Act.put,List.getElem_toArray,List.getElem_cons_zero,List.getElem_cons_succ,List.setIfInBounds_toArray,List.set_cons_zero,List.set_cons_succ]
              refine wpAnyH_take (i:=11) (v:=.bool false) rfl (by kernel_rfl) (by kernel_rfl) (by kernel_rfl) (fun _ _ _ h=>h) (Or.inl ⟨by rfl,fun w _hS=>rfl⟩) ⟨kkeep jd l1,kkeep jd v0,kkeep jd v1,kkeep jd v2⟩ ?_
              try simp only [Act.put,List.getElem_toArray,List.getElem_cons_zero,List.getElem_cons_succ,List.setIfInBounds_toArray,List.set_cons_zero,List.set_cons_succ]
              refine wpAnyH_take (i:=12) (v:=.bool false) rfl (by kernel_rfl) (by kernel_rfl) (by kernel_rfl) (fun _ _ _ h=>h) (Or.inl ⟨by rfl,fun w _hS=>rfl⟩) ⟨kkeep jd l1,kkeep jd v0,kkeep jd v1,kkeep jd v2⟩ ?_
              try simp only [Act.put,List.getElem_toArray,List.getElem_cons_zero,List.getElem_cons_succ,List.setIfInBounds_toArray,List.set_cons_zero,List.set_cons_succ]
              refine wpAnyH_take (i:=13) (v:=.pointer (some ⟨B8,1,none⟩)) rfl (by kernel_rfl) (by kernel_rfl) (by kernel_rfl) (fun _ _ _ h=>h) (Or.inl ⟨by rfl,fun w _hS=>rfl⟩) ⟨kkeep jd l1,kkeep jd v0,kkeep jd v1,kkeep jd v2⟩ ?_
              try simp only [Act.put,List.getElem_toArray,List.getElem_cons_zero,List.getElem_cons_succ,List.setIfInBounds_toArray,List.set_cons_zero,List.set_cons_succ]
              refine wpAnyH_take (i:=14) (v:=.int .u64 HI) rfl (by kernel_rfl) (by kernel_rfl) (by kernel_rfl) (fun _ _ _ h=>h) (Or.inl ⟨by rfl,fun w _hS=>by simp [go_sem,_hS.1]⟩) ⟨kkeep jd l1,kkeep jd v0,kkeep jd v1,kkeep jd v2⟩ ?_
              try simp only [Act.put,List.getElem_toArray,List.getElem_cons_zero,List.getElem_cons_succ,List.setIfInBounds_toArray,List.set_cons_zero,List.set_cons_succ]
              refine wpAnyH_take (i:=15) (v:=.bool true) rfl (by kernel_rfl) (by kernel_rfl) (by kernel_rfl) (fun _ _ _ h=>h) (Or.inl ⟨by rfl,fun w _hS=>(by go_simp <;> (try with_reducible rfl))⟩) ⟨kkeep jd l1,kkeep jd v0,kkeep jd v1,kkeep jd v2⟩ ?_
              try simp only [Act.put,List.getElem_toArray,List.getElem_cons_zero,List.getElem_cons_succ,List.setIfInBounds_toArray,List.set_cons_zero,List.set_cons_succ]
              refine wpAnyH_take (i:=16) (v:=.bool true) rfl (by kernel_rfl) (by kernel_rfl) (by kernel_rfl) (fun _ _ _ h=>h) (Or.inl ⟨by rfl,fun w _hS=>rfl⟩) ⟨kkeep jd l1,kkeep jd v0,kkeep jd v1,kkeep jd v2⟩ ?_
              try simp only [Act.put,List.getElem_toArray,List.getElem_cons_zero,List.getElem_cons_succ,List.setIfInBounds_toArray,List.set_cons_zero,List.set_cons_succ]
              refine wpAnyH_take (i:=17) (v:=.int .u64 LS) rfl (by kernel_rfl) (by kernel_rfl) (by kernel_rfl) (fun _ _ _ h=>h) (Or.inl ⟨by rfl,fun w _hS=>rfl⟩) ⟨kkeep jd l1,kkeep jd v0,kkeep jd v1,kkeep jd v2⟩ ?_
              try simp only [Act.put,List.getElem_toArray,List.getElem_cons_zero,List.getElem_cons_succ,List.setIfInBounds_toArray,List.set_cons_zero,List.set_cons_succ]
              refine wpAnyH_take (i:=18) (v:=.bool false) rfl (by kernel_rfl) (by kernel_rfl) (by kernel_rfl) (fun _ _ _ h=>h) (Or.inl ⟨by rfl,fun w _hS=>(by go_simp <;> (try with_reducible rfl))⟩) ⟨kkeep jd l1,kkeep jd v0,kkeep jd v1,kkeep jd v2⟩ ?_
              try simp only [Act.put,List.getElem_toArray,List.getElem_cons_zero,List.getElem_cons_succ,List.setIfInBounds_toArray,List.set_cons_zero,List.set_cons_succ]
              refine wpAnyH_take (i:=19) (v:=.bool false) rfl (by kernel_rfl) (by kernel_rfl) (by kernel_rfl) (fun _ _ _ h=>h) (Or.inl ⟨by rfl,fun w _hS=>rfl⟩) ⟨kkeep jd l1,kkeep jd v0,kkeep jd v1,kkeep jd v2⟩ ?_
              try simp only [Act.put,List.getElem_toArray,List.getElem_cons_zero,List.getElem_cons_succ,List.setIfInBounds_toArray,List.set_cons_zero,List.set_cons_succ]
              refine wpAnyH_take (i:=20) (v:=.agg #[.bool s,.slice p l c,.slice q k d]) rfl (by kernel_rfl) (by kernel_rfl) (by kernel_rfl) (fun _ _ _ h=>h) (Or.inl ⟨by rfl,fun w _hS=>exL rfl _ rfl (load43 w B10 s p l c q k d _hS.2.1 _hS.2.2.1 _hS.2.2.2)⟩) ⟨kkeep jd l1,kkeep jd v0,kkeep jd v1,kkeep jd v2⟩ ?_
              try simp only [Act.put,List.getElem_toArray,List.getElem_cons_zero,List.getElem_cons_succ,List.setIfInBounds_toArray,List.set_cons_zero,List.set_cons_succ]
              refine wpAnyH_take (i:=21) (v:=.int .u64 LS) rfl (by kernel_rfl) (by kernel_rfl) (by kernel_rfl) (fun _ _ _ h=>h) (Or.inl ⟨by rfl,fun w _hS=>rfl⟩) ⟨kkeep jd l1,kkeep jd v0,kkeep jd v1,kkeep jd v2⟩ ?_
              try simp only [Act.put,List.getElem_toArray,List.getElem_cons_zero,List.getElem_cons_succ,List.setIfInBounds_toArray,List.set_cons_zero,List.set_cons_succ]
              refine wpAnyH_ready (rs:=[22]) (by kernel_rfl) (by simp) ?_
              refine AllReadyH.cons rfl (fun K hK=>?_) AllReadyH.nil
              rw [if_pos (by rfl)]
              go_simp
              refine (hfl _).mono ?_
              rintro e W3 ⟨s2,p2,l2,c2,q2,k2,d2,rfl,D2,g3⟩
              have j3:=jd.trans g3
              have hc9:=hcl wg W3 s p l c q k d s2 p2 l2 c2 q2 k2 d2 hb9 (kv.trans j3) D2
              go_wp2_with fail
              refine hK.out _ _ ⟨kkeep j3 l1,kkeep j3 v0,kkeep j3 v1,kkeep j3 v2⟩ (fun _=>?_)
              clear hK K
              try simp only [Act.put,List.getElem_toArray,List.getElem_cons_zero,List.getElem_cons_succ,List.setIfInBounds_toArray,List.set_cons_zero,List.set_cons_succ]
              refine wpAnyH_ready (rs:=[23]) (by kernel_rfl) (by simp) ?_
              refine AllReadyH.cons rfl (fun K hK=>?_) AllReadyH.nil
              rw [if_pos (by rfl)]
              go_simp
              refine hc9.mono ?_
              rintro e W4 ⟨rfl,g4⟩
              have j4:=j3.trans g4
              go_wp2_with fail
              refine hK.out _ _ ⟨kkeep j4 l1,kkeep j4 v0,kkeep j4 v1,kkeep j4 v2⟩ (fun _=>?_)
              clear hK K
              try simp only [Act.put,List.getElem_toArray,List.getElem_cons_zero,List.getElem_cons_succ,List.setIfInBounds_toArray,List.set_cons_zero,List.set_cons_succ]
              refine wpAnyH_take (i:=24) (v:=.bool false) rfl (by kernel_rfl) (by kernel_rfl) (by kernel_rfl) (fun _ _ _ h=>h) (Or.inl ⟨by rfl,fun w _hS=>(by go_simp <;> (try with_reducible rfl))⟩) ⟨kkeep j4 l1,kkeep j4 v0,kkeep j4 v1,kkeep j4 v2⟩ ?_
              try simp only [Act.put,List.getElem_toArray,List.getElem_cons_zero,List.getElem_cons_succ,List.setIfInBounds_toArray,List.set_cons_zero,List.set_cons_succ]
              refine wpAnyH_take (i:=25) (v:=.bool false) rfl (by kernel_rfl) (by kernel_rfl) (by kernel_rfl) (fun _ _ _ h=>h) (Or.inl ⟨by rfl,fun w _hS=>rfl⟩) ⟨kkeep j4 l1,kkeep j4 v0,kkeep j4 v1,kkeep j4 v2⟩ ?_
              try simp only [Act.put,List.getElem_toArray,List.getElem_cons_zero,List.getElem_cons_succ,List.setIfInBounds_toArray,List.set_cons_zero,List.set_cons_succ]
              refine wpAnyH_take (i:=26) (v:=.bool false) rfl (by kernel_rfl) (by kernel_rfl) (by kernel_rfl) (fun _ _ _ h=>h) (Or.inl ⟨by rfl,fun w _hS=>rfl⟩) ⟨kkeep j4 l1,kkeep j4 v0,kkeep j4 v1,kkeep j4 v2⟩ ?_
              try simp only [Act.put,List.getElem_toArray,List.getElem_cons_zero,List.getElem_cons_succ,List.setIfInBounds_toArray,List.set_cons_zero,List.set_cons_succ]
              refine wpAnyH_take (i:=27) (v:=.bool false) rfl (by kernel_rfl) (by kernel_rfl) (by kernel_rfl) (fun _ _ _ h=>h) (Or.inl ⟨by rfl,fun w _hS=>rfl⟩) ⟨kkeep j4 l1,kkeep j4 v0,kkeep j4 v1,kkeep j4 v2⟩ ?_
              try simp only [Act.put,List.getElem_toArray,List.getElem_cons_zero,List.getElem_cons_succ,List.setIfInBounds_toArray,List.set_cons_zero,List.set_cons_succ]
              refine wpAnyH_take (i:=28) (v:=.bool false) rfl (by kernel_rfl) (by kernel_rfl) (by kernel_rfl) (fun _ _ _ h=>h) (Or.inl ⟨by rfl,fun w _hS=>rfl⟩) ⟨kkeep j4 l1,kkeep j4 v0,kkeep j4 v1,kkeep j4 v2⟩ ?_
              try simp only [Act.put,List.getElem_toArray,List.getElem_cons_zero,List.getElem_cons_succ,List.setIfInBounds_toArray,List.set_cons_zero,List.set_cons_succ]
              refine wpAnyH_done (by kernel_rfl) ?_ _
              go_wp2_with fail
              exact ⟨⟨k9 + 1,by omega,by go_num,rfl,by rw [hhk,hl,tz,ts];simp [hk9],Kp.trans gr10 j4⟩,by simp [intOf];omega⟩
              
          · rw [ts] at tS
            have jd:Kp W12 W12.drew:=(Kp.refl _).drew
            refine wp_region_held_drew (S:=(fun w':World=>w'.cell? ⟨B8,1,none⟩ = some (.int .u64 HI)∧w'.cell? ⟨B10,0,none⟩ = some (.bool s)∧w'.cell? ⟨B10,1,none⟩ = some (.slice p l c)∧w'.cell? ⟨B10,2,none⟩ = some (.slice q k d))) (by kernel_rfl) ⟨kkeep jd l1,kkeep jd v0,kkeep jd v1,kkeep jd v2⟩ (fun _=>?_)
            refine wpAnyH_take (i:=0) (v:=.bool false) rfl (by kernel_rfl) (by kernel_rfl) (by kernel_rfl) (fun _ _ _ h=>h) (Or.inl ⟨by rfl,fun w _hS=>rfl⟩) ⟨kkeep jd l1,kkeep jd v0,kkeep jd v1,kkeep jd v2⟩ ?_
            try simp only [Act.put,List.getElem_toArray,List.getElem_cons_zero,List.getElem_cons_succ,List.setIfInBounds_toArray,List.set_cons_zero,List.set_cons_succ]
            refine wpAnyH_take (i:=1) (v:=.bool false) rfl (by kernel_rfl) (by kernel_rfl) (by kernel_rfl) (fun _ _ _ h=>h) (Or.inl ⟨by rfl,fun w _hS=>rfl⟩) ⟨kkeep jd l1,kkeep jd v0,kkeep jd v1,kkeep jd v2⟩ ?_
            try simp only [Act.put,List.getElem_toArray,List.getElem_cons_zero,List.getElem_cons_succ,List.setIfInBounds_toArray,List.set_cons_zero,List.set_cons_succ]
            refine wpAnyH_take (i:=2) (v:=.pointer (some ⟨B8,1,none⟩)) rfl (by kernel_rfl) (by kernel_rfl) (by kernel_rfl) (fun _ _ _ h=>h) (Or.inl ⟨by rfl,fun w _hS=>rfl⟩) ⟨kkeep jd l1,kkeep jd v0,kkeep jd v1,kkeep jd v2⟩ ?_
            try simp only [Act.put,List.getElem_toArray,List.getElem_cons_zero,List.getElem_cons_succ,List.setIfInBounds_toArray,List.set_cons_zero,List.set_cons_succ]
            refine wpAnyH_take (i:=3) (v:=.int .u64 HI) rfl (by kernel_rfl) (by kernel_rfl) (by kernel_rfl) (fun _ _ _ h=>h) (Or.inl ⟨by rfl,fun w _hS=>by simp [go_sem,_hS.1]⟩) ⟨kkeep jd l1,kkeep jd v0,kkeep jd v1,kkeep jd v2⟩ ?_
            try simp only [Act.put,List.getElem_toArray,List.getElem_cons_zero,List.getElem_cons_succ,List.setIfInBounds_toArray,List.set_cons_zero,List.set_cons_succ]
            refine wpAnyH_take (i:=4) (v:=.bool false) rfl (by kernel_rfl) (by kernel_rfl) (by kernel_rfl) (fun _ _ _ h=>h) (Or.inl ⟨by rfl,fun w _hS=>(by go_simp <;> (try with_reducible rfl))⟩) ⟨kkeep jd l1,kkeep jd v0,kkeep jd v1,kkeep jd v2⟩ ?_
            try simp only [Act.put,List.getElem_toArray,List.getElem_cons_zero,List.getElem_cons_succ,List.setIfInBounds_toArray,List.set_cons_zero,List.set_cons_succ]
            refine wpAnyH_take (i:=5) (v:=.bool false) rfl (by kernel_rfl) (by kernel_rfl) (by kernel_rfl) (fun _ _ _ h=>h) (Or.inl ⟨by rfl,fun w _hS=>rfl⟩) ⟨kkeep jd l1,kkeep jd v0,kkeep jd v1,kkeep jd v2⟩ ?_
            try simp only [Act.put,List.getElem_toArray,List.getElem_cons_zero,List.getElem_cons_succ,List.setIfInBounds_toArray,List.set_cons_zero,List.set_cons_succ]
            refine wpAnyH_take (i:=6) (v:=undef) rfl (by kernel_rfl) (by kernel_rfl) (by kernel_rfl) (fun _ _ _ h=>h) (Or.inr ⟨by rfl,rfl⟩) ⟨kkeep jd l1,kkeep jd v0,kkeep jd v1,kkeep jd v2⟩ ?_
            try simp only [Act.put,List.getElem_toArray,List.getElem_cons_zero,List.getElem_cons_succ,List.setIfInBounds_toArray,List.set_cons_zero,List.set_cons_succ]
            refine wpAnyH_ready (rs:=[7]) (by kernel_rfl) (by simp) ?_
            refine AllReadyH.cons rfl (fun K hK=>?_) AllReadyH.nil
            refine if_no (by rfl) ?_
            refine hK.out _ _ ⟨kkeep jd l1,kkeep jd v0,kkeep jd v1,kkeep jd v2⟩ (fun _=>?_)
            clear hK K
            try simp only [Act.put,List.getElem_toArray,List.getElem_cons_zero,List.getElem_cons_succ,List.setIfInBounds_toArray,List.set_cons_zero,List.set_cons_succ]
            refine wpAnyH_ready (rs:=[8]) (by kernel_rfl) (by simp) ?_
            refine AllReadyH.cons rfl (fun K hK=>?_) AllReadyH.nil
            refine if_no (by rfl) ?_
            refine hK.out _ _ ⟨kkeep jd l1,kkeep jd v0,kkeep jd v1,kkeep jd v2⟩ (fun _=>?_)
            clear hK K
            try simp only [Act.put,List.getElem_toArray,List.getElem_cons_zero,List.getElem_cons_succ,List.setIfInBounds_toArray,List.set_cons_zero,List.set_cons_succ]
            refine wpAnyH_take (i:=9) (v:=undef) rfl (by kernel_rfl) (by kernel_rfl) (by kernel_rfl) (fun _ _ _ h=>h) (Or.inr ⟨by rfl,rfl⟩) ⟨kkeep jd l1,kkeep jd v0,kkeep jd v1,kkeep jd v2⟩ ?_
            try simp only [Act.put,List.getElem_toArray,List.getElem_cons_zero,List.getElem_cons_succ,List.setIfInBounds_toArray,List.set_cons_zero,List.set_cons_succ]
            refine wpAnyH_take (i:=10) (v:=.bool false) rfl (by kernel_rfl) (by kernel_rfl) (by kernel_rfl) (fun _ _ _ h=>h) (Or.inl ⟨by rfl,fun w _hS=>rfl⟩) ⟨kkeep jd l1,kkeep jd v0,kkeep jd v1,kkeep jd v2⟩ ?_
            try simp only [Act.put,List.getElem_toArray,List.getElem_cons_zero,List.getElem_cons_succ,List.setIfInBounds_toArray,List.set_cons_zero,List.set_cons_succ]
            refine wpAnyH_take (i:=11) (v:=.bool false) rfl (by kernel_rfl) (by kernel_rfl) (by kernel_rfl) (fun _ _ _ h=>h) (Or.inl ⟨by rfl,fun w _hS=>rfl⟩) ⟨kkeep jd l1,kkeep jd v0,kkeep jd v1,kkeep jd v2⟩ ?_
            try simp only [Act.put,List.getElem_toArray,List.getElem_cons_zero,List.getElem_cons_succ,List.setIfInBounds_toArray,List.set_cons_zero,List.set_cons_succ]
            refine wpAnyH_take (i:=12) (v:=.bool false) rfl (by kernel_rfl) (by kernel_rfl) (by kernel_rfl) (fun _ _ _ h=>h) (Or.inl ⟨by rfl,fun w _hS=>rfl⟩) ⟨kkeep jd l1,kkeep jd v0,kkeep jd v1,kkeep jd v2⟩ ?_
            try simp only [Act.put,List.getElem_toArray,List.getElem_cons_zero,List.getElem_cons_succ,List.setIfInBounds_toArray,List.set_cons_zero,List.set_cons_succ]
            refine wpAnyH_take (i:=13) (v:=.pointer (some ⟨B8,1,none⟩)) rfl (by kernel_rfl) (by kernel_rfl) (by kernel_rfl) (fun _ _ _ h=>h) (Or.inl ⟨by rfl,fun w _hS=>rfl⟩) ⟨kkeep jd l1,kkeep jd v0,kkeep jd v1,kkeep jd v2⟩ ?_
            try simp only [Act.put,List.getElem_toArray,List.getElem_cons_zero,List.getElem_cons_succ,List.setIfInBounds_toArray,List.set_cons_zero,List.set_cons_succ]
            refine wpAnyH_take (i:=14) (v:=.int .u64 HI) rfl (by kernel_rfl) (by kernel_rfl) (by kernel_rfl) (fun _ _ _ h=>h) (Or.inl ⟨by rfl,fun w _hS=>by simp [go_sem,_hS.1]⟩) ⟨kkeep jd l1,kkeep jd v0,kkeep jd v1,kkeep jd v2⟩ ?_
            try simp only [Act.put,List.getElem_toArray,List.getElem_cons_zero,List.getElem_cons_succ,List.setIfInBounds_toArray,List.set_cons_zero,List.set_cons_succ]
            refine wpAnyH_take (i:=15) (v:=.bool true) rfl (by kernel_rfl) (by kernel_rfl) (by kernel_rfl) (fun _ _ _ h=>h) (Or.inl ⟨by rfl,fun w _hS=>(by go_simp <;> (try with_reducible rfl))⟩) ⟨kkeep jd l1,kkeep jd v0,kkeep jd v1,kkeep jd v2⟩ ?_
            try simp only [Act.put,List.getElem_toArray,List.getElem_cons_zero,List.getElem_cons_succ,List.setIfInBounds_toArray,List.set_cons_zero,List.set_cons_succ]
            refine wpAnyH_take (i:=16) (v:=.bool true) rfl (by kernel_rfl) (by kernel_rfl) (by kernel_rfl) (fun _ _ _ h=>h) (Or.inl ⟨by rfl,fun w _hS=>rfl⟩) ⟨kkeep jd l1,kkeep jd v0,kkeep jd v1,kkeep jd v2⟩ ?_
            try simp only [Act.put,List.getElem_toArray,List.getElem_cons_zero,List.getElem_cons_succ,List.setIfInBounds_toArray,List.set_cons_zero,List.set_cons_succ]
            refine wpAnyH_take (i:=17) (v:=.int .u64 LS) rfl (by kernel_rfl) (by kernel_rfl) (by kernel_rfl) (fun _ _ _ h=>h) (Or.inl ⟨by rfl,fun w _hS=>rfl⟩) ⟨kkeep jd l1,kkeep jd v0,kkeep jd v1,kkeep jd v2⟩ ?_
            try simp only [Act.put,List.getElem_toArray,List.getElem_cons_zero,List.getElem_cons_succ,List.setIfInBounds_toArray,List.set_cons_zero,List.set_cons_succ]
            refine wpAnyH_take (i:=18) (v:=.bool true) rfl (by kernel_rfl) (by kernel_rfl) (by kernel_rfl) (fun _ _ _ h=>h) (Or.inl ⟨by rfl,fun w _hS=>(by go_simp <;> (try with_reducible rfl))⟩) ⟨kkeep jd l1,kkeep jd v0,kkeep jd v1,kkeep jd v2⟩ ?_
            try simp only [Act.put,List.getElem_toArray,List.getElem_cons_zero,List.getElem_cons_succ,List.setIfInBounds_toArray,List.set_cons_zero,List.set_cons_succ]
            refine wpAnyH_take (i:=19) (v:=.bool true) rfl (by kernel_rfl) (by kernel_rfl) (by kernel_rfl) (fun _ _ _ h=>h) (Or.inl ⟨by rfl,fun w _hS=>rfl⟩) ⟨kkeep jd l1,kkeep jd v0,kkeep jd v1,kkeep jd v2⟩ ?_
            try simp only [Act.put,List.getElem_toArray,List.getElem_cons_zero,List.getElem_cons_succ,List.setIfInBounds_toArray,List.set_cons_zero,List.set_cons_succ]
            refine wpAnyH_take (i:=20) (v:=undef) rfl (by kernel_rfl) (by kernel_rfl) (by kernel_rfl) (fun _ _ _ h=>h) (Or.inr ⟨by rfl,rfl⟩) ⟨kkeep jd l1,kkeep jd v0,kkeep jd v1,kkeep jd v2⟩ ?_
            try simp only [Act.put,List.getElem_toArray,List.getElem_cons_zero,List.getElem_cons_succ,List.setIfInBounds_toArray,List.set_cons_zero,List.set_cons_succ]
            refine wpAnyH_take (i:=21) (v:=undef) rfl (by kernel_rfl) (by kernel_rfl) (by kernel_rfl) (fun _ _ _ h=>h) (Or.inr ⟨by rfl,rfl⟩) ⟨kkeep jd l1,kkeep jd v0,kkeep jd v1,kkeep jd v2⟩ ?_
            try simp only [Act.put,List.getElem_toArray,List.getElem_cons_zero,List.getElem_cons_succ,List.setIfInBounds_toArray,List.set_cons_zero,List.set_cons_succ]
            refine wpAnyH_ready (rs:=[22]) (by kernel_rfl) (by simp) ?_
            refine AllReadyH.cons rfl (fun K hK=>?_) AllReadyH.nil
            refine if_no (by rfl) ?_
            refine hK.out _ _ ⟨kkeep jd l1,kkeep jd v0,kkeep jd v1,kkeep jd v2⟩ (fun _=>?_)
            clear hK K
            try simp only [Act.put,List.getElem_toArray,List.getElem_cons_zero,List.getElem_cons_succ,List.setIfInBounds_toArray,List.set_cons_zero,List.set_cons_succ]
            refine wpAnyH_ready (rs:=[23]) (by kernel_rfl) (by simp) ?_
            refine AllReadyH.cons rfl (fun K hK=>?_) AllReadyH.nil
            refine if_no (by rfl) ?_
            refine hK.out _ _ ⟨kkeep jd l1,kkeep jd v0,kkeep jd v1,kkeep jd v2⟩ (fun _=>?_)
            clear hK K
            try simp only [Act.put,List.getElem_toArray,List.getElem_cons_zero,List.getElem_cons_succ,List.setIfInBounds_toArray,List.set_cons_zero,List.set_cons_succ]
            refine wpAnyH_take (i:=24) (v:=undef) rfl (by kernel_rfl) (by kernel_rfl) (by kernel_rfl) (fun _ _ _ h=>h) (Or.inr ⟨by rfl,rfl⟩) ⟨kkeep jd l1,kkeep jd v0,kkeep jd v1,kkeep jd v2⟩ ?_
            try simp only [Act.put,List.getElem_toArray,List.getElem_cons_zero,List.getElem_cons_succ,List.setIfInBounds_toArray,List.set_cons_zero,List.set_cons_succ]
            refine wpAnyH_take (i:=25) (v:=.bool true) rfl (by kernel_rfl) (by kernel_rfl) (by kernel_rfl) (fun _ _ _ h=>h) (Or.inl ⟨by rfl,fun w _hS=>rfl⟩) ⟨kkeep jd l1,kkeep jd v0,kkeep jd v1,kkeep jd v2⟩ ?_
            try simp only [Act.put,List.getElem_toArray,List.getElem_cons_zero,List.getElem_cons_succ,List.setIfInBounds_toArray,List.set_cons_zero,List.set_cons_succ]
            refine wpAnyH_take (i:=26) (v:=.bool true) rfl (by kernel_rfl) (by kernel_rfl) (by kernel_rfl) (fun _ _ _ h=>h) (Or.inl ⟨by rfl,fun w _hS=>rfl⟩) ⟨kkeep jd l1,kkeep jd v0,kkeep jd v1,kkeep jd v2⟩ ?_
            try simp only [Act.put,List.getElem_toArray,List.getElem_cons_zero,List.getElem_cons_succ,List.setIfInBounds_toArray,List.set_cons_zero,List.set_cons_succ]
            refine wpAnyH_take (i:=27) (v:=.bool true) rfl (by kernel_rfl) (by kernel_rfl) (by kernel_rfl) (fun _ _ _ h=>h) (Or.inl ⟨by rfl,fun w _hS=>rfl⟩) ⟨kkeep jd l1,kkeep jd v0,kkeep jd v1,kkeep jd v2⟩ ?_
            try simp only [Act.put,List.getElem_toArray,List.getElem_cons_zero,List.getElem_cons_succ,List.setIfInBounds_toArray,List.set_cons_zero,List.set_cons_succ]
            refine wpAnyH_take (i:=28) (v:=.bool true) rfl (by kernel_rfl) (by kernel_rfl) (by kernel_rfl) (fun _ _ _ h=>h) (Or.inl ⟨by rfl,fun w _hS=>rfl⟩) ⟨kkeep jd l1,kkeep jd v0,kkeep jd v1,kkeep jd v2⟩ ?_
            try simp only [Act.put,List.getElem_toArray,List.getElem_cons_zero,List.getElem_cons_succ,List.setIfInBounds_toArray,List.set_cons_zero,List.set_cons_succ]
            refine wpAnyH_done (by kernel_rfl) ?_ _
            go_wp2_with fail
            exact ⟨⟨k9 + 1,by omega,by go_num,rfl,by rw [hhk,hl,tz,ts];rfl,Kp.trans gr10 jd⟩,by simp [intOf];omega⟩
            
        · rw [tz] at tZ
          have tZ2:(HI != 0) = false:=by rw [bne,tZ];rfl
          by_cases hk9:0 < kT k9
          · have jd:Kp W12 W12.drew:=(Kp.refl _).drew
            refine wp_region_held_drew (S:=(fun w':World=>w'.cell? ⟨B8,1,none⟩ = some (.int .u64 HI)∧w'.cell? ⟨B10,0,none⟩ = some (.bool s)∧w'.cell? ⟨B10,1,none⟩ = some (.slice p l c)∧w'.cell? ⟨B10,2,none⟩ = some (.slice q k d))) (by kernel_rfl) ⟨kkeep jd l1,kkeep jd v0,kkeep jd v1,kkeep jd v2⟩ (fun _=>?_)
            refine wpAnyH_take (i:=0) (v:=.bool false) rfl (by kernel_rfl) (by kernel_rfl) (by kernel_rfl) (fun _ _ _ h=>h) (Or.inl ⟨by rfl,fun w _hS=>rfl⟩) ⟨kkeep jd l1,kkeep jd v0,kkeep jd v1,kkeep jd v2⟩ ?_
            try simp only [Act.put,List.getElem_toArray,List.getElem_cons_zero,List.getElem_cons_succ,List.setIfInBounds_toArray,List.set_cons_zero,List.set_cons_succ]
            refine wpAnyH_take (i:=1) (v:=.bool false) rfl (by kernel_rfl) (by kernel_rfl) (by kernel_rfl) (fun _ _ _ h=>h) (Or.inl ⟨by rfl,fun w _hS=>rfl⟩) ⟨kkeep jd l1,kkeep jd v0,kkeep jd v1,kkeep jd v2⟩ ?_
            try simp only [Act.put,List.getElem_toArray,List.getElem_cons_zero,List.getElem_cons_succ,List.setIfInBounds_toArray,List.set_cons_zero,List.set_cons_succ]
            refine wpAnyH_take (i:=2) (v:=.pointer (some ⟨B8,1,none⟩)) rfl (by kernel_rfl) (by kernel_rfl) (by kernel_rfl) (fun _ _ _ h=>h) (Or.inl ⟨by rfl,fun w _hS=>rfl⟩) ⟨kkeep jd l1,kkeep jd v0,kkeep jd v1,kkeep jd v2⟩ ?_
            try simp only [Act.put,List.getElem_toArray,List.getElem_cons_zero,List.getElem_cons_succ,List.setIfInBounds_toArray,List.set_cons_zero,List.set_cons_succ]
            refine wpAnyH_take (i:=3) (v:=.int .u64 HI) rfl (by kernel_rfl) (by kernel_rfl) (by kernel_rfl) (fun _ _ _ h=>h) (Or.inl ⟨by rfl,fun w _hS=>by simp [go_sem,_hS.1]⟩) ⟨kkeep jd l1,kkeep jd v0,kkeep jd v1,kkeep jd v2⟩ ?_
            try simp only [Act.put,List.getElem_toArray,List.getElem_cons_zero,List.getElem_cons_succ,List.setIfInBounds_toArray,List.set_cons_zero,List.set_cons_succ]
            refine wpAnyH_take (i:=4) (v:=.bool true) rfl (by kernel_rfl) (by kernel_rfl) (by kernel_rfl) (fun _ _ _ h=>h) (Or.inl ⟨by rfl,fun w _hS=>(by go_simp <;> (try with_reducible rfl))⟩) ⟨kkeep jd l1,kkeep jd v0,kkeep jd v1,kkeep jd v2⟩ ?_
            try simp only [Act.put,List.getElem_toArray,List.getElem_cons_zero,List.getElem_cons_succ,List.setIfInBounds_toArray,List.set_cons_zero,List.set_cons_succ]
            refine wpAnyH_take (i:=5) (v:=.bool true) rfl (by kernel_rfl) (by kernel_rfl) (by kernel_rfl) (fun _ _ _ h=>h) (Or.inl ⟨by rfl,fun w _hS=>rfl⟩) ⟨kkeep jd l1,kkeep jd v0,kkeep jd v1,kkeep jd v2⟩ ?_
            try simp only [Act.put,List.getElem_toArray,List.getElem_cons_zero,List.getElem_cons_succ,List.setIfInBounds_toArray,List.set_cons_zero,List.set_cons_succ]
            refine wpAnyH_take (i:=6) (v:=.agg #[.bool s,.slice p l c,.slice q k d]) rfl (by kernel_rfl) (by kernel_rfl) (by kernel_rfl) (fun _ _ _ h=>h) (Or.inl ⟨by rfl,fun w _hS=>exL rfl _ rfl (load43 w B10 s p l c q k d _hS.2.1 _hS.2.2.1 _hS.2.2.2)⟩) ⟨kkeep jd l1,kkeep jd v0,kkeep jd v1,kkeep jd v2⟩ ?_
            try simp only [Act.put,List.getElem_toArray,List.getElem_cons_zero,List.getElem_cons_succ,List.setIfInBounds_toArray,List.set_cons_zero,List.set_cons_succ]
            refine wpAnyH_ready (rs:=[7]) (by kernel_rfl) (by simp) ?_
            refine AllReadyH.cons rfl (fun K hK=>?_) AllReadyH.nil
            rw [if_pos (by rfl)]
            go_simp
            refine (hft _).mono ?_
            rintro e W3 ⟨s2,p2,l2,c2,q2,k2,d2,rfl,D2,g3⟩
            have j3:=jd.trans g3
            have hc9:=hct wg W3 s p l c q k d s2 p2 l2 c2 q2 k2 d2 hb9 (kv.trans j3) D2
            go_wp2_with fail
            refine hK.out _ _ ⟨kkeep j3 l1,kkeep j3 v0,kkeep j3 v1,kkeep j3 v2⟩ (fun _=>?_)
            clear hK K
            try simp only [Act.put,List.getElem_toArray,List.getElem_cons_zero,List.getElem_cons_succ,List.setIfInBounds_toArray,List.set_cons_zero,List.set_cons_succ]
            refine wpAnyH_ready (rs:=[8]) (by kernel_rfl) (by simp) ?_
            refine AllReadyH.cons rfl (fun K hK=>?_) AllReadyH.nil
            rw [if_pos (by rfl)]
            go_simp
            refine hc9.mono ?_
            rintro e W4 ⟨rfl,g4⟩
            have j4:=j3.trans g4
            go_wp2_with fail
            refine hK.out _ _ ⟨kkeep j4 l1,kkeep j4 v0,kkeep j4 v1,kkeep j4 v2⟩ (fun _=>?_)
            clear hK K
            try simp only [Act.put,List.getElem_toArray,List.getElem_cons_zero,List.getElem_cons_succ,List.setIfInBounds_toArray,List.set_cons_zero,List.set_cons_succ]
            refine wpAnyH_take (i:=9) (v:=.bool true) rfl (by kernel_rfl) (by kernel_rfl) (by kernel_rfl) (fun _ _ _ h=>h) (Or.inl ⟨by rfl,fun w _hS=>(by go_simp <;> (try with_reducible rfl))⟩) ⟨kkeep j4 l1,kkeep j4 v0,kkeep j4 v1,kkeep j4 v2⟩ ?_
            try simp only [Act.put,List.getElem_toArray,List.getElem_cons_zero,List.getElem_cons_succ,List.setIfInBounds_toArray,List.set_cons_zero,List.set_cons_succ]
            refine wpAnyH_take (i:=10) (v:=.bool true) rfl (by kernel_rfl) (by kernel_rfl) (by kernel_rfl) (fun _ _ _ h=>h) (Or.inl ⟨by rfl,fun w _hS=>rfl⟩) ⟨kkeep j4 l1,kkeep j4 v0,kkeep j4 v1,kkeep j4 v2⟩ ?_
            try simp only [Act.put,List.getElem_toArray,List.getElem_cons_zero,List.getElem_cons_succ,List.setIfInBounds_toArray,List.set_cons_zero,List.set_cons_succ]
            refine wpAnyH_take (i:=11) (v:=.bool true) rfl (by kernel_rfl) (by kernel_rfl) (by kernel_rfl) (fun _ _ _ h=>h) (Or.inl ⟨by rfl,fun w _hS=>rfl⟩) ⟨kkeep j4 l1,kkeep j4 v0,kkeep j4 v1,kkeep j4 v2⟩ ?_
            try simp only [Act.put,List.getElem_toArray,List.getElem_cons_zero,List.getElem_cons_succ,List.setIfInBounds_toArray,List.set_cons_zero,List.set_cons_succ]
            refine wpAnyH_take (i:=12) (v:=.bool true) rfl (by kernel_rfl) (by kernel_rfl) (by kernel_rfl) (fun _ _ _ h=>h) (Or.inl ⟨by rfl,fun w _hS=>rfl⟩) ⟨kkeep j4 l1,kkeep j4 v0,kkeep j4 v1,kkeep j4 v2⟩ ?_
            try simp only [Act.put,List.getElem_toArray,List.getElem_cons_zero,List.getElem_cons_succ,List.setIfInBounds_toArray,List.set_cons_zero,List.set_cons_succ]
            refine wpAnyH_take (i:=13) (v:=undef) rfl (by kernel_rfl) (by kernel_rfl) (by kernel_rfl) (fun _ _ _ h=>h) (Or.inr ⟨by rfl,rfl⟩) ⟨kkeep j4 l1,kkeep j4 v0,kkeep j4 v1,kkeep j4 v2⟩ ?_
            try simp only [Act.put,List.getElem_toArray,List.getElem_cons_zero,List.getElem_cons_succ,List.setIfInBounds_toArray,List.set_cons_zero,List.set_cons_succ]
            refine wpAnyH_take (i:=14) (v:=undef) rfl (by kernel_rfl) (by kernel_rfl) (by kernel_rfl) (fun _ _ _ h=>h) (Or.inr ⟨by rfl,rfl⟩) ⟨kkeep j4 l1,kkeep j4 v0,kkeep j4 v1,kkeep j4 v2⟩ ?_
            try simp only [Act.put,List.getElem_toArray,List.getElem_cons_zero,List.getElem_cons_succ,List.setIfInBounds_toArray,List.set_cons_zero,List.set_cons_succ]
            refine wpAnyH_take (i:=15) (v:=undef) rfl (by kernel_rfl) (by kernel_rfl) (by kernel_rfl) (fun _ _ _ h=>h) (Or.inr ⟨by rfl,rfl⟩) ⟨kkeep j4 l1,kkeep j4 v0,kkeep j4 v1,kkeep j4 v2⟩ ?_
            try simp only [Act.put,List.getElem_toArray,List.getElem_cons_zero,List.getElem_cons_succ,List.setIfInBounds_toArray,List.set_cons_zero,List.set_cons_succ]
            refine wpAnyH_take (i:=16) (v:=undef) rfl (by kernel_rfl) (by kernel_rfl) (by kernel_rfl) (fun _ _ _ h=>h) (Or.inr ⟨by rfl,rfl⟩) ⟨kkeep j4 l1,kkeep j4 v0,kkeep j4 v1,kkeep j4 v2⟩ ?_
            try simp only [Act.put,List.getElem_toArray,List.getElem_cons_zero,List.getElem_cons_succ,List.setIfInBounds_toArray,List.set_cons_zero,List.set_cons_succ]
            refine wpAnyH_take (i:=17) (v:=undef) rfl (by kernel_rfl) (by kernel_rfl) (by kernel_rfl) (fun _ _ _ h=>h) (Or.inr ⟨by rfl,rfl⟩) ⟨kkeep j4 l1,kkeep j4 v0,kkeep j4 v1,kkeep j4 v2⟩ ?_
            try simp only [Act.put,List.getElem_toArray,List.getElem_cons_zero,List.getElem_cons_succ,List.setIfInBounds_toArray,List.set_cons_zero,List.set_cons_succ]
            refine wpAnyH_take (i:=18) (v:=undef) rfl (by kernel_rfl) (by kernel_rfl) (by kernel_rfl) (fun _ _ _ h=>h) (Or.inr ⟨by rfl,rfl⟩) ⟨kkeep j4 l1,kkeep j4 v0,kkeep j4 v1,kkeep j4 v2⟩ ?_
            try simp only [Act.put,List.getElem_toArray,List.getElem_cons_zero,List.getElem_cons_succ,List.setIfInBounds_toArray,List.set_cons_zero,List.set_cons_succ]
            refine wpAnyH_take (i:=19) (v:=undef) rfl (by kernel_rfl) (by kernel_rfl) (by kernel_rfl) (fun _ _ _ h=>h) (Or.inr ⟨by rfl,rfl⟩) ⟨kkeep j4 l1,kkeep j4 v0,kkeep j4 v1,kkeep j4 v2⟩ ?_
            try simp only [Act.put,List.getElem_toArray,List.getElem_cons_zero,List.getElem_cons_succ,List.setIfInBounds_toArray,List.set_cons_zero,List.set_cons_succ]
            refine wpAnyH_take (i:=20) (v:=undef) rfl (by kernel_rfl) (by kernel_rfl) (by kernel_rfl) (fun _ _ _ h=>h) (Or.inr ⟨by rfl,rfl⟩) ⟨kkeep j4 l1,kkeep j4 v0,kkeep j4 v1,kkeep j4 v2⟩ ?_
            try simp only [Act.put,List.getElem_toArray,List.getElem_cons_zero,List.getElem_cons_succ,List.setIfInBounds_toArray,List.set_cons_zero,List.set_cons_succ]
            refine wpAnyH_take (i:=21) (v:=undef) rfl (by kernel_rfl) (by kernel_rfl) (by kernel_rfl) (fun _ _ _ h=>h) (Or.inr ⟨by rfl,rfl⟩) ⟨kkeep j4 l1,kkeep j4 v0,kkeep j4 v1,kkeep j4 v2⟩ ?_
            try simp only [Act.put,List.getElem_toArray,List.getElem_cons_zero,List.getElem_cons_succ,List.setIfInBounds_toArray,List.set_cons_zero,List.set_cons_succ]
            refine wpAnyH_ready (rs:=[22]) (by kernel_rfl) (by simp) ?_
            refine AllReadyH.cons rfl (fun K hK=>?_) AllReadyH.nil
            refine if_no (by rfl) ?_
            refine hK.out _ _ ⟨kkeep j4 l1,kkeep j4 v0,kkeep j4 v1,kkeep j4 v2⟩ (fun _=>?_)
            clear hK K
            try simp only [Act.put,List.getElem_toArray,List.getElem_cons_zero,List.getElem_cons_succ,List.setIfInBounds_toArray,List.set_cons_zero,List.set_cons_succ]
            refine wpAnyH_ready (rs:=[23]) (by kernel_rfl) (by simp) ?_
            refine AllReadyH.cons rfl (fun K hK=>?_) AllReadyH.nil
            refine if_no (by rfl) ?_
            refine hK.out _ _ ⟨kkeep j4 l1,kkeep j4 v0,kkeep j4 v1,kkeep j4 v2⟩ (fun _=>?_)
            clear hK K
            try simp only [Act.put,List.getElem_toArray,List.getElem_cons_zero,List.getElem_cons_succ,List.setIfInBounds_toArray,List.set_cons_zero,List.set_cons_succ]
            refine wpAnyH_take (i:=24) (v:=undef) rfl (by kernel_rfl) (by kernel_rfl) (by kernel_rfl) (fun _ _ _ h=>h) (Or.inr ⟨by rfl,rfl⟩) ⟨kkeep j4 l1,kkeep j4 v0,kkeep j4 v1,kkeep j4 v2⟩ ?_
            try simp only [Act.put,List.getElem_toArray,List.getElem_cons_zero,List.getElem_cons_succ,List.setIfInBounds_toArray,List.set_cons_zero,List.set_cons_succ]
            refine wpAnyH_take (i:=25) (v:=undef) rfl (by kernel_rfl) (by kernel_rfl) (by kernel_rfl) (fun _ _ _ h=>h) (Or.inr ⟨by rfl,rfl⟩) ⟨kkeep j4 l1,kkeep j4 v0,kkeep j4 v1,kkeep j4 v2⟩ ?_
            try simp only [Act.put,List.getElem_toArray,List.getElem_cons_zero,List.getElem_cons_succ,List.setIfInBounds_toArray,List.set_cons_zero,List.set_cons_succ]
            refine wpAnyH_take (i:=26) (v:=undef) rfl (by kernel_rfl) (by kernel_rfl) (by kernel_rfl) (fun _ _ _ h=>h) (Or.inr ⟨by rfl,rfl⟩) ⟨kkeep j4 l1,kkeep j4 v0,kkeep j4 v1,kkeep j4 v2⟩ ?_
            try simp only [Act.put,List.getElem_toArray,List.getElem_cons_zero,List.getElem_cons_succ,List.setIfInBounds_toArray,List.set_cons_zero,List.set_cons_succ]
            refine wpAnyH_take (i:=27) (v:=.bool true) rfl (by kernel_rfl) (by kernel_rfl) (by kernel_rfl) (fun _ _ _ h=>h) (Or.inl ⟨by rfl,fun w _hS=>rfl⟩) ⟨kkeep j4 l1,kkeep j4 v0,kkeep j4 v1,kkeep j4 v2⟩ ?_
            try simp only [Act.put,List.getElem_toArray,List.getElem_cons_zero,List.getElem_cons_succ,List.setIfInBounds_toArray,List.set_cons_zero,List.set_cons_succ]
            refine wpAnyH_take (i:=28) (v:=.bool true) rfl (by kernel_rfl) (by kernel_rfl) (by kernel_rfl) (fun _ _ _ h=>h) (Or.inl ⟨by rfl,fun w _hS=>rfl⟩) ⟨kkeep j4 l1,kkeep j4 v0,kkeep j4 v1,kkeep j4 v2⟩ ?_
            try simp only [Act.put,List.getElem_toArray,List.getElem_cons_zero,List.getElem_cons_succ,List.setIfInBounds_toArray,List.set_cons_zero,List.set_cons_succ]
            refine wpAnyH_done (by kernel_rfl) ?_ _
            go_wp2_with fail
            exact ⟨⟨k9 + 1,by omega,by go_num,rfl,by rw [hhk,hl,tz];simp [hk9],Kp.trans gr10 j4⟩,by simp [intOf];omega⟩
            
          · have jd:Kp W12 W12.drew:=(Kp.refl _).drew
            refine wp_region_held_drew (S:=(fun w':World=>w'.cell? ⟨B8,1,none⟩ = some (.int .u64 HI)∧w'.cell? ⟨B10,0,none⟩ = some (.bool s)∧w'.cell? ⟨B10,1,none⟩ = some (.slice p l c)∧w'.cell? ⟨B10,2,none⟩ = some (.slice q k d))) (by kernel_rfl) ⟨kkeep jd l1,kkeep jd v0,kkeep jd v1,kkeep jd v2⟩ (fun _=>?_)
            refine wpAnyH_take (i:=0) (v:=.bool false) rfl (by kernel_rfl) (by kernel_rfl) (by kernel_rfl) (fun _ _ _ h=>h) (Or.inl ⟨by rfl,fun w _hS=>rfl⟩) ⟨kkeep jd l1,kkeep jd v0,kkeep jd v1,kkeep jd v2⟩ ?_
            try simp only [Act.put,List.getElem_toArray,List.getElem_cons_zero,List.getElem_cons_succ,List.setIfInBounds_toArray,List.set_cons_zero,List.set_cons_succ]
            refine wpAnyH_take (i:=1) (v:=.bool false) rfl (by kernel_rfl) (by kernel_rfl) (by kernel_rfl) (fun _ _ _ h=>h) (Or.inl ⟨by rfl,fun w _hS=>rfl⟩) ⟨kkeep jd l1,kkeep jd v0,kkeep jd v1,kkeep jd v2⟩ ?_
            try simp only [Act.put,List.getElem_toArray,List.getElem_cons_zero,List.getElem_cons_succ,List.setIfInBounds_toArray,List.set_cons_zero,List.set_cons_succ]
            refine wpAnyH_take (i:=2) (v:=.pointer (some ⟨B8,1,none⟩)) rfl (by kernel_rfl) (by kernel_rfl) (by kernel_rfl) (fun _ _ _ h=>h) (Or.inl ⟨by rfl,fun w _hS=>rfl⟩) ⟨kkeep jd l1,kkeep jd v0,kkeep jd v1,kkeep jd v2⟩ ?_
            try simp only [Act.put,List.getElem_toArray,List.getElem_cons_zero,List.getElem_cons_succ,List.setIfInBounds_toArray,List.set_cons_zero,List.set_cons_succ]
            refine wpAnyH_take (i:=3) (v:=.int .u64 HI) rfl (by kernel_rfl) (by kernel_rfl) (by kernel_rfl) (fun _ _ _ h=>h) (Or.inl ⟨by rfl,fun w _hS=>by simp [go_sem,_hS.1]⟩) ⟨kkeep jd l1,kkeep jd v0,kkeep jd v1,kkeep jd v2⟩ ?_
            try simp only [Act.put,List.getElem_toArray,List.getElem_cons_zero,List.getElem_cons_succ,List.setIfInBounds_toArray,List.set_cons_zero,List.set_cons_succ]
            refine wpAnyH_take (i:=4) (v:=.bool true) rfl (by kernel_rfl) (by kernel_rfl) (by kernel_rfl) (fun _ _ _ h=>h) (Or.inl ⟨by rfl,fun w _hS=>(by go_simp <;> (try with_reducible rfl))⟩) ⟨kkeep jd l1,kkeep jd v0,kkeep jd v1,kkeep jd v2⟩ ?_
            try simp only [Act.put,List.getElem_toArray,List.getElem_cons_zero,List.getElem_cons_succ,List.setIfInBounds_toArray,List.set_cons_zero,List.set_cons_succ]
            refine wpAnyH_take (i:=5) (v:=.bool true) rfl (by kernel_rfl) (by kernel_rfl) (by kernel_rfl) (fun _ _ _ h=>h) (Or.inl ⟨by rfl,fun w _hS=>rfl⟩) ⟨kkeep jd l1,kkeep jd v0,kkeep jd v1,kkeep jd v2⟩ ?_
            try simp only [Act.put,List.getElem_toArray,List.getElem_cons_zero,List.getElem_cons_succ,List.setIfInBounds_toArray,List.set_cons_zero,List.set_cons_succ]
            refine wpAnyH_take (i:=6) (v:=.agg #[.bool s,.slice p l c,.slice q k d]) rfl (by kernel_rfl) (by kernel_rfl) (by kernel_rfl) (fun _ _ _ h=>h) (Or.inl ⟨by rfl,fun w _hS=>exL rfl _ rfl (load43 w B10 s p l c q k d _hS.2.1 _hS.2.2.1 _hS.2.2.2)⟩) ⟨kkeep jd l1,kkeep jd v0,kkeep jd v1,kkeep jd v2⟩ ?_
            try simp only [Act.put,List.getElem_toArray,List.getElem_cons_zero,List.getElem_cons_succ,List.setIfInBounds_toArray,List.set_cons_zero,List.set_cons_succ]
            refine wpAnyH_ready (rs:=[7]) (by kernel_rfl) (by simp) ?_
            refine AllReadyH.cons rfl (fun K hK=>?_) AllReadyH.nil
            rw [if_pos (by rfl)]
            go_simp
            refine (hft _).mono ?_
            rintro e W3 ⟨s2,p2,l2,c2,q2,k2,d2,rfl,D2,g3⟩
            have j3:=jd.trans g3
            have hc9:=hct wg W3 s p l c q k d s2 p2 l2 c2 q2 k2 d2 hb9 (kv.trans j3) D2
            go_wp2_with fail
            refine hK.out _ _ ⟨kkeep j3 l1,kkeep j3 v0,kkeep j3 v1,kkeep j3 v2⟩ (fun _=>?_)
            clear hK K
            try simp only [Act.put,List.getElem_toArray,List.getElem_cons_zero,List.getElem_cons_succ,List.setIfInBounds_toArray,List.set_cons_zero,List.set_cons_succ]
            refine wpAnyH_ready (rs:=[8]) (by kernel_rfl) (by simp) ?_
            refine AllReadyH.cons rfl (fun K hK=>?_) AllReadyH.nil
            rw [if_pos (by rfl)]
            go_simp
            refine hc9.mono ?_
            rintro e W4 ⟨rfl,g4⟩
            have j4:=j3.trans g4
            go_wp2_with fail
            refine hK.out _ _ ⟨kkeep j4 l1,kkeep j4 v0,kkeep j4 v1,kkeep j4 v2⟩ (fun _=>?_)
            clear hK K
            try simp only [Act.put,List.getElem_toArray,List.getElem_cons_zero,List.getElem_cons_succ,List.setIfInBounds_toArray,List.set_cons_zero,List.set_cons_succ]
            refine wpAnyH_take (i:=9) (v:=.bool false) rfl (by kernel_rfl) (by kernel_rfl) (by kernel_rfl) (fun _ _ _ h=>h) (Or.inl ⟨by rfl,fun w _hS=>(by go_simp <;> (try with_reducible rfl))⟩) ⟨kkeep j4 l1,kkeep j4 v0,kkeep j4 v1,kkeep j4 v2⟩ ?_
            try simp only [Act.put,List.getElem_toArray,List.getElem_cons_zero,List.getElem_cons_succ,List.setIfInBounds_toArray,List.set_cons_zero,List.set_cons_succ]
            refine wpAnyH_take (i:=10) (v:=.bool false) rfl (by kernel_rfl) (by kernel_rfl) (by kernel_rfl) (fun _ _ _ h=>h) (Or.inl ⟨by rfl,fun w _hS=>rfl⟩) ⟨kkeep j4 l1,kkeep j4 v0,kkeep j4 v1,kkeep j4 v2⟩ ?_
            try simp only [Act.put,List.getElem_toArray,List.getElem_cons_zero,List.getElem_cons_succ,List.setIfInBounds_toArray,List.set_cons_zero,List.set_cons_succ]
            refine wpAnyH_take (i:=11) (v:=.bool false) rfl (by kernel_rfl) (by kernel_rfl) (by kernel_rfl) (fun _ _ _ h=>h) (Or.inl ⟨by rfl,fun w _hS=>rfl⟩) ⟨kkeep j4 l1,kkeep j4 v0,kkeep j4 v1,kkeep j4 v2⟩ ?_
            try simp only [Act.put,List.getElem_toArray,List.getElem_cons_zero,List.getElem_cons_succ,List.setIfInBounds_toArray,List.set_cons_zero,List.set_cons_succ]
            refine wpAnyH_take (i:=12) (v:=.bool false) rfl (by kernel_rfl) (by kernel_rfl) (by kernel_rfl) (fun _ _ _ h=>h) (Or.inl ⟨by rfl,fun w _hS=>rfl⟩) ⟨kkeep j4 l1,kkeep j4 v0,kkeep j4 v1,kkeep j4 v2⟩ ?_
            try simp only [Act.put,List.getElem_toArray,List.getElem_cons_zero,List.getElem_cons_succ,List.setIfInBounds_toArray,List.set_cons_zero,List.set_cons_succ]
            refine wpAnyH_take (i:=13) (v:=.pointer (some ⟨B8,1,none⟩)) rfl (by kernel_rfl) (by kernel_rfl) (by kernel_rfl) (fun _ _ _ h=>h) (Or.inl ⟨by rfl,fun w _hS=>rfl⟩) ⟨kkeep j4 l1,kkeep j4 v0,kkeep j4 v1,kkeep j4 v2⟩ ?_
            try simp only [Act.put,List.getElem_toArray,List.getElem_cons_zero,List.getElem_cons_succ,List.setIfInBounds_toArray,List.set_cons_zero,List.set_cons_succ]
            refine wpAnyH_take (i:=14) (v:=.int .u64 HI) rfl (by kernel_rfl) (by kernel_rfl) (by kernel_rfl) (fun _ _ _ h=>h) (Or.inl ⟨by rfl,fun w _hS=>by simp [go_sem,_hS.1]⟩) ⟨kkeep j4 l1,kkeep j4 v0,kkeep j4 v1,kkeep j4 v2⟩ ?_
            try simp only [Act.put,List.getElem_toArray,List.getElem_cons_zero,List.getElem_cons_succ,List.setIfInBounds_toArray,List.set_cons_zero,List.set_cons_succ]
            refine wpAnyH_take (i:=15) (v:=.bool false) rfl (by kernel_rfl) (by kernel_rfl) (by kernel_rfl) (fun _ _ _ h=>h) (Or.inl ⟨by rfl,fun w _hS=>(by go_simp <;> (try with_reducible rfl))⟩) ⟨kkeep j4 l1,kkeep j4 v0,kkeep j4 v1,kkeep j4 v2⟩ ?_
            try simp only [Act.put,List.getElem_toArray,List.getElem_cons_zero,List.getElem_cons_succ,List.setIfInBounds_toArray,List.set_cons_zero,List.set_cons_succ]
            refine wpAnyH_take (i:=16) (v:=.bool false) rfl (by kernel_rfl) (by kernel_rfl) (by kernel_rfl) (fun _ _ _ h=>h) (Or.inl ⟨by rfl,fun w _hS=>rfl⟩) ⟨kkeep j4 l1,kkeep j4 v0,kkeep j4 v1,kkeep j4 v2⟩ ?_
            try simp only [Act.put,List.getElem_toArray,List.getElem_cons_zero,List.getElem_cons_succ,List.setIfInBounds_toArray,List.set_cons_zero,List.set_cons_succ]
            refine wpAnyH_take (i:=17) (v:=undef) rfl (by kernel_rfl) (by kernel_rfl) (by kernel_rfl) (fun _ _ _ h=>h) (Or.inr ⟨by rfl,rfl⟩) ⟨kkeep j4 l1,kkeep j4 v0,kkeep j4 v1,kkeep j4 v2⟩ ?_
            try simp only [Act.put,List.getElem_toArray,List.getElem_cons_zero,List.getElem_cons_succ,List.setIfInBounds_toArray,List.set_cons_zero,List.set_cons_succ]
            refine wpAnyH_take (i:=18) (v:=undef) rfl (by kernel_rfl) (by kernel_rfl) (by kernel_rfl) (fun _ _ _ h=>h) (Or.inr ⟨by rfl,rfl⟩) ⟨kkeep j4 l1,kkeep j4 v0,kkeep j4 v1,kkeep j4 v2⟩ ?_
            try simp only [Act.put,List.getElem_toArray,List.getElem_cons_zero,List.getElem_cons_succ,List.setIfInBounds_toArray,List.set_cons_zero,List.set_cons_succ]
            refine wpAnyH_take (i:=19) (v:=undef) rfl (by kernel_rfl) (by kernel_rfl) (by kernel_rfl) (fun _ _ _ h=>h) (Or.inr ⟨by rfl,rfl⟩) ⟨kkeep j4 l1,kkeep j4 v0,kkeep j4 v1,kkeep j4 v2⟩ ?_
            try simp only [Act.put,List.getElem_toArray,List.getElem_cons_zero,List.getElem_cons_succ,List.setIfInBounds_toArray,List.set_cons_zero,List.set_cons_succ]
            refine wpAnyH_take (i:=20) (v:=undef) rfl (by kernel_rfl) (by kernel_rfl) (by kernel_rfl) (fun _ _ _ h=>h) (Or.inr ⟨by rfl,rfl⟩) ⟨kkeep j4 l1,kkeep j4 v0,kkeep j4 v1,kkeep j4 v2⟩ ?_
            try simp only [Act.put,List.getElem_toArray,List.getElem_cons_zero,List.getElem_cons_succ,List.setIfInBounds_toArray,List.set_cons_zero,List.set_cons_succ]
            refine wpAnyH_take (i:=21) (v:=undef) rfl (by kernel_rfl) (by kernel_rfl) (by kernel_rfl) (fun _ _ _ h=>h) (Or.inr ⟨by rfl,rfl⟩) ⟨kkeep j4 l1,kkeep j4 v0,kkeep j4 v1,kkeep j4 v2⟩ ?_
            try simp only [Act.put,List.getElem_toArray,List.getElem_cons_zero,List.getElem_cons_succ,List.setIfInBounds_toArray,List.set_cons_zero,List.set_cons_succ]
            refine wpAnyH_ready (rs:=[22]) (by kernel_rfl) (by simp) ?_
            refine AllReadyH.cons rfl (fun K hK=>?_) AllReadyH.nil
            refine if_no (by rfl) ?_
            refine hK.out _ _ ⟨kkeep j4 l1,kkeep j4 v0,kkeep j4 v1,kkeep j4 v2⟩ (fun _=>?_)
            clear hK K
            try simp only [Act.put,List.getElem_toArray,List.getElem_cons_zero,List.getElem_cons_succ,List.setIfInBounds_toArray,List.set_cons_zero,List.set_cons_succ]
            refine wpAnyH_ready (rs:=[23]) (by kernel_rfl) (by simp) ?_
            refine AllReadyH.cons rfl (fun K hK=>?_) AllReadyH.nil
            refine if_no (by rfl) ?_
            refine hK.out _ _ ⟨kkeep j4 l1,kkeep j4 v0,kkeep j4 v1,kkeep j4 v2⟩ (fun _=>?_)
            clear hK K
            try simp only [Act.put,List.getElem_toArray,List.getElem_cons_zero,List.getElem_cons_succ,List.setIfInBounds_toArray,List.set_cons_zero,List.set_cons_succ]
            refine wpAnyH_take (i:=24) (v:=undef) rfl (by kernel_rfl) (by kernel_rfl) (by kernel_rfl) (fun _ _ _ h=>h) (Or.inr ⟨by rfl,rfl⟩) ⟨kkeep j4 l1,kkeep j4 v0,kkeep j4 v1,kkeep j4 v2⟩ ?_
            try simp only [Act.put,List.getElem_toArray,List.getElem_cons_zero,List.getElem_cons_succ,List.setIfInBounds_toArray,List.set_cons_zero,List.set_cons_succ]
            refine wpAnyH_take (i:=25) (v:=undef) rfl (by kernel_rfl) (by kernel_rfl) (by kernel_rfl) (fun _ _ _ h=>h) (Or.inr ⟨by rfl,rfl⟩) ⟨kkeep j4 l1,kkeep j4 v0,kkeep j4 v1,kkeep j4 v2⟩ ?_
            try simp only [Act.put,List.getElem_toArray,List.getElem_cons_zero,List.getElem_cons_succ,List.setIfInBounds_toArray,List.set_cons_zero,List.set_cons_succ]
            refine wpAnyH_take (i:=26) (v:=.bool false) rfl (by kernel_rfl) (by kernel_rfl) (by kernel_rfl) (fun _ _ _ h=>h) (Or.inl ⟨by rfl,fun w _hS=>rfl⟩) ⟨kkeep j4 l1,kkeep j4 v0,kkeep j4 v1,kkeep j4 v2⟩ ?_
            try simp only [Act.put,List.getElem_toArray,List.getElem_cons_zero,List.getElem_cons_succ,List.setIfInBounds_toArray,List.set_cons_zero,List.set_cons_succ]
            refine wpAnyH_take (i:=27) (v:=.bool false) rfl (by kernel_rfl) (by kernel_rfl) (by kernel_rfl) (fun _ _ _ h=>h) (Or.inl ⟨by rfl,fun w _hS=>rfl⟩) ⟨kkeep j4 l1,kkeep j4 v0,kkeep j4 v1,kkeep j4 v2⟩ ?_
            try simp only [Act.put,List.getElem_toArray,List.getElem_cons_zero,List.getElem_cons_succ,List.setIfInBounds_toArray,List.set_cons_zero,List.set_cons_succ]
            refine wpAnyH_take (i:=28) (v:=.bool false) rfl (by kernel_rfl) (by kernel_rfl) (by kernel_rfl) (fun _ _ _ h=>h) (Or.inl ⟨by rfl,fun w _hS=>rfl⟩) ⟨kkeep j4 l1,kkeep j4 v0,kkeep j4 v1,kkeep j4 v2⟩ ?_
            try simp only [Act.put,List.getElem_toArray,List.getElem_cons_zero,List.getElem_cons_succ,List.setIfInBounds_toArray,List.set_cons_zero,List.set_cons_succ]
            refine wpAnyH_done (by kernel_rfl) ?_ _
            go_wp2_with fail
            exact ⟨⟨k9 + 1,by omega,by go_num,rfl,by rw [hhk,hl,tz];simp [hk9],Kp.trans gr10 j4⟩,by simp [intOf];omega⟩
            
      · have jd:Kp W12 W12.drew:=(Kp.refl _).drew
        refine wp_region_held_drew (S:=(fun w':World=>w'.cell? ⟨B8,1,none⟩ = some (.int .u64 HI)∧w'.cell? ⟨B10,0,none⟩ = some (.bool s)∧w'.cell? ⟨B10,1,none⟩ = some (.slice p l c)∧w'.cell? ⟨B10,2,none⟩ = some (.slice q k d))) (by kernel_rfl) ⟨kkeep jd l1,kkeep jd v0,kkeep jd v1,kkeep jd v2⟩ (fun _=>?_)
        refine wpAnyH_take (i:=0) (v:=.bool true) rfl (by kernel_rfl) (by kernel_rfl) (by kernel_rfl) (fun _ _ _ h=>h) (Or.inl ⟨by rfl,fun w _hS=>rfl⟩) ⟨kkeep jd l1,kkeep jd v0,kkeep jd v1,kkeep jd v2⟩ ?_
        try simp only [Act.put,List.getElem_toArray,List.getElem_cons_zero,List.getElem_cons_succ,List.setIfInBounds_toArray,List.set_cons_zero,List.set_cons_succ]
        refine wpAnyH_take (i:=1) (v:=.bool true) rfl (by kernel_rfl) (by kernel_rfl) (by kernel_rfl) (fun _ _ _ h=>h) (Or.inl ⟨by rfl,fun w _hS=>rfl⟩) ⟨kkeep jd l1,kkeep jd v0,kkeep jd v1,kkeep jd v2⟩ ?_
        try simp only [Act.put,List.getElem_toArray,List.getElem_cons_zero,List.getElem_cons_succ,List.setIfInBounds_toArray,List.set_cons_zero,List.set_cons_succ]
        refine wpAnyH_take (i:=2) (v:=undef) rfl (by kernel_rfl) (by kernel_rfl) (by kernel_rfl) (fun _ _ _ h=>h) (Or.inr ⟨by rfl,rfl⟩) ⟨kkeep jd l1,kkeep jd v0,kkeep jd v1,kkeep jd v2⟩ ?_
        try simp only [Act.put,List.getElem_toArray,List.getElem_cons_zero,List.getElem_cons_succ,List.setIfInBounds_toArray,List.set_cons_zero,List.set_cons_succ]
        refine wpAnyH_take (i:=3) (v:=undef) rfl (by kernel_rfl) (by kernel_rfl) (by kernel_rfl) (fun _ _ _ h=>h) (Or.inr ⟨by rfl,rfl⟩) ⟨kkeep jd l1,kkeep jd v0,kkeep jd v1,kkeep jd v2⟩ ?_
        try simp only [Act.put,List.getElem_toArray,List.getElem_cons_zero,List.getElem_cons_succ,List.setIfInBounds_toArray,List.set_cons_zero,List.set_cons_succ]
        refine wpAnyH_take (i:=4) (v:=undef) rfl (by kernel_rfl) (by kernel_rfl) (by kernel_rfl) (fun _ _ _ h=>h) (Or.inr ⟨by rfl,rfl⟩) ⟨kkeep jd l1,kkeep jd v0,kkeep jd v1,kkeep jd v2⟩ ?_
        try simp only [Act.put,List.getElem_toArray,List.getElem_cons_zero,List.getElem_cons_succ,List.setIfInBounds_toArray,List.set_cons_zero,List.set_cons_succ]
        refine wpAnyH_take (i:=5) (v:=undef) rfl (by kernel_rfl) (by kernel_rfl) (by kernel_rfl) (fun _ _ _ h=>h) (Or.inr ⟨by rfl,rfl⟩) ⟨kkeep jd l1,kkeep jd v0,kkeep jd v1,kkeep jd v2⟩ ?_
        try simp only [Act.put,List.getElem_toArray,List.getElem_cons_zero,List.getElem_cons_succ,List.setIfInBounds_toArray,List.set_cons_zero,List.set_cons_succ]
        refine wpAnyH_take (i:=6) (v:=undef) rfl (by kernel_rfl) (by kernel_rfl) (by kernel_rfl) (fun _ _ _ h=>h) (Or.inr ⟨by rfl,rfl⟩) ⟨kkeep jd l1,kkeep jd v0,kkeep jd v1,kkeep jd v2⟩ ?_
        try simp only [Act.put,List.getElem_toArray,List.getElem_cons_zero,List.getElem_cons_succ,List.setIfInBounds_toArray,List.set_cons_zero,List.set_cons_succ]
        refine wpAnyH_ready (rs:=[7]) (by kernel_rfl) (by simp) ?_
        refine AllReadyH.cons rfl (fun K hK=>?_) AllReadyH.nil
        refine if_no (by rfl) ?_
        refine hK.out _ _ ⟨kkeep jd l1,kkeep jd v0,kkeep jd v1,kkeep jd v2⟩ (fun _=>?_)
        clear hK K
        try simp only [Act.put,List.getElem_toArray,List.getElem_cons_zero,List.getElem_cons_succ,List.setIfInBounds_toArray,List.set_cons_zero,List.set_cons_succ]
        refine wpAnyH_ready (rs:=[8]) (by kernel_rfl) (by simp) ?_
        refine AllReadyH.cons rfl (fun K hK=>?_) AllReadyH.nil
        refine if_no (by rfl) ?_
        refine hK.out _ _ ⟨kkeep jd l1,kkeep jd v0,kkeep jd v1,kkeep jd v2⟩ (fun _=>?_)
        clear hK K
        try simp only [Act.put,List.getElem_toArray,List.getElem_cons_zero,List.getElem_cons_succ,List.setIfInBounds_toArray,List.set_cons_zero,List.set_cons_succ]
        refine wpAnyH_take (i:=9) (v:=undef) rfl (by kernel_rfl) (by kernel_rfl) (by kernel_rfl) (fun _ _ _ h=>h) (Or.inr ⟨by rfl,rfl⟩) ⟨kkeep jd l1,kkeep jd v0,kkeep jd v1,kkeep jd v2⟩ ?_
        try simp only [Act.put,List.getElem_toArray,List.getElem_cons_zero,List.getElem_cons_succ,List.setIfInBounds_toArray,List.set_cons_zero,List.set_cons_succ]
        refine wpAnyH_take (i:=10) (v:=undef) rfl (by kernel_rfl) (by kernel_rfl) (by kernel_rfl) (fun _ _ _ h=>h) (Or.inr ⟨by rfl,rfl⟩) ⟨kkeep jd l1,kkeep jd v0,kkeep jd v1,kkeep jd v2⟩ ?_
        try simp only [Act.put,List.getElem_toArray,List.getElem_cons_zero,List.getElem_cons_succ,List.setIfInBounds_toArray,List.set_cons_zero,List.set_cons_succ]
        refine wpAnyH_take (i:=11) (v:=.bool true) rfl (by kernel_rfl) (by kernel_rfl) (by kernel_rfl) (fun _ _ _ h=>h) (Or.inl ⟨by rfl,fun w _hS=>rfl⟩) ⟨kkeep jd l1,kkeep jd v0,kkeep jd v1,kkeep jd v2⟩ ?_
        try simp only [Act.put,List.getElem_toArray,List.getElem_cons_zero,List.getElem_cons_succ,List.setIfInBounds_toArray,List.set_cons_zero,List.set_cons_succ]
        refine wpAnyH_take (i:=12) (v:=.bool true) rfl (by kernel_rfl) (by kernel_rfl) (by kernel_rfl) (fun _ _ _ h=>h) (Or.inl ⟨by rfl,fun w _hS=>rfl⟩) ⟨kkeep jd l1,kkeep jd v0,kkeep jd v1,kkeep jd v2⟩ ?_
        try simp only [Act.put,List.getElem_toArray,List.getElem_cons_zero,List.getElem_cons_succ,List.setIfInBounds_toArray,List.set_cons_zero,List.set_cons_succ]
        refine wpAnyH_take (i:=13) (v:=undef) rfl (by kernel_rfl) (by kernel_rfl) (by kernel_rfl) (fun _ _ _ h=>h) (Or.inr ⟨by rfl,rfl⟩) ⟨kkeep jd l1,kkeep jd v0,kkeep jd v1,kkeep jd v2⟩ ?_
        try simp only [Act.put,List.getElem_toArray,List.getElem_cons_zero,List.getElem_cons_succ,List.setIfInBounds_toArray,List.set_cons_zero,List.set_cons_succ]
        refine wpAnyH_take (i:=14) (v:=undef) rfl (by kernel_rfl) (by kernel_rfl) (by kernel_rfl) (fun _ _ _ h=>h) (Or.inr ⟨by rfl,rfl⟩) ⟨kkeep jd l1,kkeep jd v0,kkeep jd v1,kkeep jd v2⟩ ?_
        try simp only [Act.put,List.getElem_toArray,List.getElem_cons_zero,List.getElem_cons_succ,List.setIfInBounds_toArray,List.set_cons_zero,List.set_cons_succ]
        refine wpAnyH_take (i:=15) (v:=undef) rfl (by kernel_rfl) (by kernel_rfl) (by kernel_rfl) (fun _ _ _ h=>h) (Or.inr ⟨by rfl,rfl⟩) ⟨kkeep jd l1,kkeep jd v0,kkeep jd v1,kkeep jd v2⟩ ?_
        try simp only [Act.put,List.getElem_toArray,List.getElem_cons_zero,List.getElem_cons_succ,List.setIfInBounds_toArray,List.set_cons_zero,List.set_cons_succ]
        refine wpAnyH_take (i:=16) (v:=undef) rfl (by kernel_rfl) (by kernel_rfl) (by kernel_rfl) (fun _ _ _ h=>h) (Or.inr ⟨by rfl,rfl⟩) ⟨kkeep jd l1,kkeep jd v0,kkeep jd v1,kkeep jd v2⟩ ?_
        try simp only [Act.put,List.getElem_toArray,List.getElem_cons_zero,List.getElem_cons_succ,List.setIfInBounds_toArray,List.set_cons_zero,List.set_cons_succ]
        refine wpAnyH_take (i:=17) (v:=undef) rfl (by kernel_rfl) (by kernel_rfl) (by kernel_rfl) (fun _ _ _ h=>h) (Or.inr ⟨by rfl,rfl⟩) ⟨kkeep jd l1,kkeep jd v0,kkeep jd v1,kkeep jd v2⟩ ?_
        try simp only [Act.put,List.getElem_toArray,List.getElem_cons_zero,List.getElem_cons_succ,List.setIfInBounds_toArray,List.set_cons_zero,List.set_cons_succ]
        refine wpAnyH_take (i:=18) (v:=undef) rfl (by kernel_rfl) (by kernel_rfl) (by kernel_rfl) (fun _ _ _ h=>h) (Or.inr ⟨by rfl,rfl⟩) ⟨kkeep jd l1,kkeep jd v0,kkeep jd v1,kkeep jd v2⟩ ?_
        try simp only [Act.put,List.getElem_toArray,List.getElem_cons_zero,List.getElem_cons_succ,List.setIfInBounds_toArray,List.set_cons_zero,List.set_cons_succ]
        refine wpAnyH_take (i:=19) (v:=undef) rfl (by kernel_rfl) (by kernel_rfl) (by kernel_rfl) (fun _ _ _ h=>h) (Or.inr ⟨by rfl,rfl⟩) ⟨kkeep jd l1,kkeep jd v0,kkeep jd v1,kkeep jd v2⟩ ?_
        try simp only [Act.put,List.getElem_toArray,List.getElem_cons_zero,List.getElem_cons_succ,List.setIfInBounds_toArray,List.set_cons_zero,List.set_cons_succ]
        refine wpAnyH_take (i:=20) (v:=undef) rfl (by kernel_rfl) (by kernel_rfl) (by kernel_rfl) (fun _ _ _ h=>h) (Or.inr ⟨by rfl,rfl⟩) ⟨kkeep jd l1,kkeep jd v0,kkeep jd v1,kkeep jd v2⟩ ?_
        try simp only [Act.put,List.getElem_toArray,List.getElem_cons_zero,List.getElem_cons_succ,List.setIfInBounds_toArray,List.set_cons_zero,List.set_cons_succ]
        refine wpAnyH_take (i:=21) (v:=undef) rfl (by kernel_rfl) (by kernel_rfl) (by kernel_rfl) (fun _ _ _ h=>h) (Or.inr ⟨by rfl,rfl⟩) ⟨kkeep jd l1,kkeep jd v0,kkeep jd v1,kkeep jd v2⟩ ?_
        try simp only [Act.put,List.getElem_toArray,List.getElem_cons_zero,List.getElem_cons_succ,List.setIfInBounds_toArray,List.set_cons_zero,List.set_cons_succ]
        refine wpAnyH_ready (rs:=[22]) (by kernel_rfl) (by simp) ?_
        refine AllReadyH.cons rfl (fun K hK=>?_) AllReadyH.nil
        refine if_no (by rfl) ?_
        refine hK.out _ _ ⟨kkeep jd l1,kkeep jd v0,kkeep jd v1,kkeep jd v2⟩ (fun _=>?_)
        clear hK K
        try simp only [Act.put,List.getElem_toArray,List.getElem_cons_zero,List.getElem_cons_succ,List.setIfInBounds_toArray,List.set_cons_zero,List.set_cons_succ]
        refine wpAnyH_ready (rs:=[23]) (by kernel_rfl) (by simp) ?_
        refine AllReadyH.cons rfl (fun K hK=>?_) AllReadyH.nil
        refine if_no (by rfl) ?_
        refine hK.out _ _ ⟨kkeep jd l1,kkeep jd v0,kkeep jd v1,kkeep jd v2⟩ (fun _=>?_)
        clear hK K
        try simp only [Act.put,List.getElem_toArray,List.getElem_cons_zero,List.getElem_cons_succ,List.setIfInBounds_toArray,List.set_cons_zero,List.set_cons_succ]
        refine wpAnyH_take (i:=24) (v:=undef) rfl (by kernel_rfl) (by kernel_rfl) (by kernel_rfl) (fun _ _ _ h=>h) (Or.inr ⟨by rfl,rfl⟩) ⟨kkeep jd l1,kkeep jd v0,kkeep jd v1,kkeep jd v2⟩ ?_
        try simp only [Act.put,List.getElem_toArray,List.getElem_cons_zero,List.getElem_cons_succ,List.setIfInBounds_toArray,List.set_cons_zero,List.set_cons_succ]
        refine wpAnyH_take (i:=25) (v:=undef) rfl (by kernel_rfl) (by kernel_rfl) (by kernel_rfl) (fun _ _ _ h=>h) (Or.inr ⟨by rfl,rfl⟩) ⟨kkeep jd l1,kkeep jd v0,kkeep jd v1,kkeep jd v2⟩ ?_
        try simp only [Act.put,List.getElem_toArray,List.getElem_cons_zero,List.getElem_cons_succ,List.setIfInBounds_toArray,List.set_cons_zero,List.set_cons_succ]
        refine wpAnyH_take (i:=26) (v:=undef) rfl (by kernel_rfl) (by kernel_rfl) (by kernel_rfl) (fun _ _ _ h=>h) (Or.inr ⟨by rfl,rfl⟩) ⟨kkeep jd l1,kkeep jd v0,kkeep jd v1,kkeep jd v2⟩ ?_
        try simp only [Act.put,List.getElem_toArray,List.getElem_cons_zero,List.getElem_cons_succ,List.setIfInBounds_toArray,List.set_cons_zero,List.set_cons_succ]
        refine wpAnyH_take (i:=27) (v:=.bool true) rfl (by kernel_rfl) (by kernel_rfl) (by kernel_rfl) (fun _ _ _ h=>h) (Or.inl ⟨by rfl,fun w _hS=>rfl⟩) ⟨kkeep jd l1,kkeep jd v0,kkeep jd v1,kkeep jd v2⟩ ?_
        try simp only [Act.put,List.getElem_toArray,List.getElem_cons_zero,List.getElem_cons_succ,List.setIfInBounds_toArray,List.set_cons_zero,List.set_cons_succ]
        refine wpAnyH_take (i:=28) (v:=.bool true) rfl (by kernel_rfl) (by kernel_rfl) (by kernel_rfl) (fun _ _ _ h=>h) (Or.inl ⟨by rfl,fun w _hS=>rfl⟩) ⟨kkeep jd l1,kkeep jd v0,kkeep jd v1,kkeep jd v2⟩ ?_
        try simp only [Act.put,List.getElem_toArray,List.getElem_cons_zero,List.getElem_cons_succ,List.setIfInBounds_toArray,List.set_cons_zero,List.set_cons_succ]
        refine wpAnyH_done (by kernel_rfl) ?_ _
        go_wp2_with fail
        exact ⟨⟨k9 + 1,by omega,by go_num,rfl,by rw [hhk,hl];rfl,Kp.trans gr10 jd⟩,by simp [intOf];omega⟩
        
    · have e9:k9 = zs.length:=by omega
      subst e9
      have i1:¬ ((zs.length:Int) < (zs.length:Int)):=by omega
      rw [hlwN,hhgN]
      go_wp2_with (first | (go_at_call 10;refine (hlv _ (hT.kp (Kp.trans kw gr))).mono ?_;rintro e wx ⟨rfl,gx⟩))
      exact bodyPost_ret (v:=.bool true) (by simp [results,Tryz.results6,go_sem]) rfl ⟨rfl,(Kp.trans (Kp.trans kw gr) gx)⟩
end Go.Proofs.YtcfnialfpblfmaaGreatDoor
