import Derived.Test.YtcepchaakfiojaaKNRb
set_option maxHeartbeats 4000000
set_option maxRecDepth 20000
namespace Go.Proofs.Ytcepchaakfiojaa
open Go.RowKit
set_option linter.unusedVariables false
set_option linter.unusedSimpArgs false

def zLn (WL:Nat→Int):Nat→Int | 0=>9218868437227405312 | n + 1=>min (zLn WL n) (WL n)
def zHn (WH:Nat→Int):Nat→Int | 0=>-9218868437227405312 | n + 1=>max (zHn WH n) (WH n)
theorem pI_I9:pI 9218868437227405312 = 9218868437227405312:=by decide
theorem pI_M9:pI (-9218868437227405312) = 18442240474082181120:=by decide
def HullS (a b u v:Int):Prop:=∃ P1 P2 P3:World→Value→Prop,(∀ (W W':World) (v:Value),Kp W W'→P1 W v→P1 W' v)∧(∀ W:World,Calls Try.prog 17 #[.agg #[.int .u64 (pI a),.int .u64 (pI b)]] W fun e w'=>∃ v,e = .returned v∧P1 w' v∧Kp W w')∧(∀ W:World,Calls Try.prog 17 #[.agg #[.int .u64 (pI u),.int .u64 (pI v)]] W fun e w'=>∃ v,e = .returned v∧P2 w' v∧Kp W w')∧(∀ (W:World) (x y:Value),P1 W x→P2 W y→Calls Try.prog 35 #[x,y] W fun e w'=>∃ v',e = .returned v'∧P3 w' v'∧Kp W w')∧(∀ (W:World) (x:Value),P3 W x→Calls Try.prog 34 #[x] W fun e w'=>e = .returned (.agg #[.int .u64 (pI (min a u)),.int .u64 (pI (max b v))])∧Kp W w')
theorem all9_ (p:Option Addr) (n cp:Nat) (hn:n≤1024) (f0 f1 f2 f3 f4 f5 f6 f7 f8 f9 f10 f11 f12:Nat→Value) (x0 x1:Value) (L H:Int) (WL WH:Nat→Int) (w:World) (hr:∀ w:World,Calls Try.prog 28 #[.agg #[x0,x1]] w fun e w'=>e = .returned (.agg #[.int .u64 (pI L),.int .u64 (pI H)])∧Kp w w') (hl:n = 0∨∃ g off,p = some ⟨g,off,none⟩∧g < w.heap.size∧∀ j,j < n→w.cell? ⟨g,off + j * 13,none⟩ = some (f0 j)∧w.cell? ⟨g,off + j * 13 + 1,none⟩ = some (f1 j)∧w.cell? ⟨g,off + j * 13 + 2,none⟩ = some (f2 j)∧w.cell? ⟨g,off + j * 13 + 3,none⟩ = some (f3 j)∧w.cell? ⟨g,off + j * 13 + 4,none⟩ = some (f4 j)∧w.cell? ⟨g,off + j * 13 + 5,none⟩ = some (f5 j)∧w.cell? ⟨g,off + j * 13 + 6,none⟩ = some (f6 j)∧w.cell? ⟨g,off + j * 13 + 7,none⟩ = some (f7 j)∧w.cell? ⟨g,off + j * 13 + 8,none⟩ = some (f8 j)∧w.cell? ⟨g,off + j * 13 + 9,none⟩ = some (f9 j)∧w.cell? ⟨g,off + j * 13 + 10,none⟩ = some (f10 j)∧w.cell? ⟨g,off + j * 13 + 11,none⟩ = some (f11 j)∧w.cell? ⟨g,off + j * 13 + 12,none⟩ = some (f12 j)) (hW:∀ j,j < n→VdZ (WL j) (WH j)∧∀ W:World,Kp w W→Calls Try.prog 36 #[.agg #[.int .u64 (pI L),.int .u64 (pI H)],.agg #[f0 j,f1 j,f2 j,f3 j,f4 j,f5 j,f6 j,f7 j,f8 j,f9 j,f10 j,f11 j,f12 j]] W fun e w'=>e = .returned (.agg #[.int .u64 (pI (WL j)),.int .u64 (pI (WH j))])∧Kp W w') (hs:∀ a b u v:Int,VdZ a b→VdZ u v→HullS a b u v):Calls Try.prog 23 #[.agg #[x0,x1],.slice p n cp] w fun e w'=>e = .returned (.agg #[.int .u64 (pI (zLn WL n)),.int .u64 (pI (zHn WH n))])∧Kp w w':=by
  obtain ⟨N,hN⟩:∃ N,N = n:=⟨_,rfl⟩
  have HN:Hid (N = n):=hN
  clear hN
  go_enter Try.func23,Try.ntmps23
  go_upto_region 3 with (first | (go_at_call 28;refine (hr _).mono ?_;rintro e w1 ⟨rfl,g1⟩) | (go_at_call 18;refine (rempty9_ _).mono ?_;rintro e w2 ⟨rfl,g2⟩))
  have kw1:Kp w (w1.alloc (.cells #[.int .u64 (pI L),.int .u64 (pI H)] 24)):=(Kp.trans (((Kp.refl w).alloc _).alloc _) g1).alloc _
  have hR:BK (w1.alloc (.cells #[.int .u64 (pI L),.int .u64 (pI H)] 24)) (w.heap.size + 1) #[.int .u64 0,.int .u64 0] 24:=((BK.newAt (w:=(w.alloc (.cells #[x0,x1] 24))) (by simp) _ _).kp g1).kp ((Kp.refl _).alloc _)
  have hY:BK (w1.alloc (.cells #[.int .u64 (pI L),.int .u64 (pI H)] 24)) w1.heap.size #[.int .u64 (pI L),.int .u64 (pI H)] 24:=BK.new _ _ _
  have l1:w.heap.size + 1 < w1.heap.size:=by have:=Below.size g1;simp at this;omega
  have kw:Kp w (w2.alloc (.cells #[.int .u64 9218868437227405312,.int .u64 18442240474082181120] 24)):=(Kp.trans kw1 g2).alloc _
  replace hR:=(hR.kp g2).kp (w':=(w2.alloc (.cells #[.int .u64 9218868437227405312,.int .u64 18442240474082181120] 24))) ((Kp.refl _).alloc _)
  replace hY:=(hY.kp g2).kp (w':=(w2.alloc (.cells #[.int .u64 9218868437227405312,.int .u64 18442240474082181120] 24))) ((Kp.refl _).alloc _)
  have hZ:BK (w2.alloc (.cells #[.int .u64 9218868437227405312,.int .u64 18442240474082181120] 24)) w2.heap.size #[.int .u64 9218868437227405312,.int .u64 18442240474082181120] 24:=BK.new _ _ _
  have l2:w1.heap.size < w2.heap.size:=by have:=Below.size g2;simp at this;omega
  clear kw1 g1 g2
  generalize (w2.alloc (.cells #[.int .u64 9218868437227405312,.int .u64 18442240474082181120] 24)) = W0 at kw hR hY hZ ⊢
  generalize w2.heap.size = zb at hZ l2 ⊢
  generalize w1.heap.size = yb at hY l1 l2 ⊢
  go_wp2
  go_loopw [7] (fun ii wr=>∃ i:Nat,ii = .int .i64 (i:Int)∧i≤n∧VdZ (zLn WL i) (zHn WH i)∧BK wr zb #[.int .u64 (pI (zLn WL i)),.int .u64 (pI (zHn WH i))] 24∧BK wr yb #[.int .u64 (pI L),.int .u64 (pI H)] 24∧BK wr (w.heap.size + 1) #[.int .u64 0,.int .u64 0] 24∧Kp w wr) (fun ii _=>n - (intOf ii).toNat)
  case atStart=>exact ⟨0,rfl,Nat.zero_le _,Or.inl ⟨rfl,rfl⟩,by rw [show zLn WL 0 = 9218868437227405312 from rfl,show zHn WH 0 = -9218868437227405312 from rfl,pI_I9,pI_M9];exact hZ,hY,hR,kw⟩
  case round =>
    clear hZ hY hR kw
    obtain ⟨i,rfl,hi,hv,hZ,hY,hR,kw⟩:=hrel
    by_cases ci:i < n
    · have ts0:(0:Int)≤(i:Int):=by omega
      have ts1:(i:Int) < (n:Int):=by omega
      rcases hl with hl | ⟨g,off,rfl,hg,hl⟩
      · omega
      have hWi:=hW i ci
      obtain ⟨P1,P2,P3,hk1,hO1,hO2,hU,hL⟩:=hs _ _ _ _ hv hWi.1
      obtain ⟨l0,l1,l2,l3,l4,l5,l6,l7,l8,l9,l10,l11,l12⟩:=hl i ci
      replace l0:=kkeep kw l0;replace l1:=kkeep kw l1;replace l2:=kkeep kw l2;replace l3:=kkeep kw l3;replace l4:=kkeep kw l4;replace l5:=kkeep kw l5;replace l6:=kkeep kw l6;replace l7:=kkeep kw l7;replace l8:=kkeep kw l8;replace l9:=kkeep kw l9;replace l10:=kkeep kw l10;replace l11:=kkeep kw l11;replace l12:=kkeep kw l12
      go_upto_region 6 with fail
      generalize wr = W at kw hZ hY hR l0 l1 l2 l3 l4 l5 l6 l7 l8 l9 l10 l11 l12 ⊢
      have y0:W.cell? ⟨yb,0,none⟩ = some (.int .u64 (pI L)):=(hY.cell 0).trans rfl
      have y1:W.cell? ⟨yb,1,none⟩ = some (.int .u64 (pI H)):=(hY.cell 1).trans rfl
      have z0:W.drew.cell? ⟨zb,0,none⟩ = some (.int .u64 (pI (zLn WL i))):=(hZ.cell 0).trans rfl
      have z1:W.drew.cell? ⟨zb,1,none⟩ = some (.int .u64 (pI (zHn WH i))):=(hZ.cell 1).trans rfl
      have hle:w.heap.size≤zb:=by omega
      have gz:Kp W W.drew:=(Kp.refl _).drew
      refine wp_region_held_drew (S:=(fun w':World=>w'.cell? ⟨yb,0,none⟩ = some (.int .u64 (pI L))∧w'.cell? ⟨yb,1,none⟩ = some (.int .u64 (pI H))∧w'.cell? ⟨g,off + i * 13,none⟩ = some (f0 i)∧w'.cell? ⟨g,off + i * 13 + 1,none⟩ = some (f1 i)∧w'.cell? ⟨g,off + i * 13 + 2,none⟩ = some (f2 i)∧w'.cell? ⟨g,off + i * 13 + 3,none⟩ = some (f3 i)∧w'.cell? ⟨g,off + i * 13 + 4,none⟩ = some (f4 i)∧w'.cell? ⟨g,off + i * 13 + 5,none⟩ = some (f5 i)∧w'.cell? ⟨g,off + i * 13 + 6,none⟩ = some (f6 i)∧w'.cell? ⟨g,off + i * 13 + 7,none⟩ = some (f7 i)∧w'.cell? ⟨g,off + i * 13 + 8,none⟩ = some (f8 i)∧w'.cell? ⟨g,off + i * 13 + 9,none⟩ = some (f9 i)∧w'.cell? ⟨g,off + i * 13 + 10,none⟩ = some (f10 i)∧w'.cell? ⟨g,off + i * 13 + 11,none⟩ = some (f11 i)∧w'.cell? ⟨g,off + i * 13 + 12,none⟩ = some (f12 i))) (by kernel_rfl) ⟨kkeep gz y0,kkeep gz y1,kkeep gz l0,kkeep gz l1,kkeep gz l2,kkeep gz l3,kkeep gz l4,kkeep gz l5,kkeep gz l6,kkeep gz l7,kkeep gz l8,kkeep gz l9,kkeep gz l10,kkeep gz l11,kkeep gz l12⟩ (fun _=>?_)
      refine wpAnyH_take (i:=2) (v:=.agg #[.int .u64 (pI L),.int .u64 (pI H)]) rfl (by kernel_rfl) (by kernel_rfl) (by kernel_rfl) (fun _ _ _ h=>h) (Or.inl ⟨by rfl,fun w _hS=>exL rfl _ rfl (loadIa w yb 0 _ _ _hS.1 _hS.2.1)⟩) ⟨kkeep gz y0,kkeep gz y1,kkeep gz l0,kkeep gz l1,kkeep gz l2,kkeep gz l3,kkeep gz l4,kkeep gz l5,kkeep gz l6,kkeep gz l7,kkeep gz l8,kkeep gz l9,kkeep gz l10,kkeep gz l11,kkeep gz l12⟩ ?_
      try simp only [Act.put,List.getElem_toArray,List.getElem_cons_zero,List.getElem_cons_succ,List.setIfInBounds_toArray,List.set_cons_zero,List.set_cons_succ]
      refine wpAnyH_take (i:=3) (v:=.slice (some ⟨g,off,none⟩) n cp) rfl (by kernel_rfl) (by kernel_rfl) (by kernel_rfl) (fun _ _ _ h=>h) (Or.inl ⟨by rfl,fun w _hS=>rfl⟩) ⟨kkeep gz y0,kkeep gz y1,kkeep gz l0,kkeep gz l1,kkeep gz l2,kkeep gz l3,kkeep gz l4,kkeep gz l5,kkeep gz l6,kkeep gz l7,kkeep gz l8,kkeep gz l9,kkeep gz l10,kkeep gz l11,kkeep gz l12⟩ ?_
      try simp only [Act.put,List.getElem_toArray,List.getElem_cons_zero,List.getElem_cons_succ,List.setIfInBounds_toArray,List.set_cons_zero,List.set_cons_succ]
      refine wpAnyH_take (i:=4) (v:=.int .i64 (i:Int)) rfl (by kernel_rfl) (by kernel_rfl) (by kernel_rfl) (fun _ _ _ h=>h) (Or.inl ⟨by rfl,fun w _hS=>rfl⟩) ⟨kkeep gz y0,kkeep gz y1,kkeep gz l0,kkeep gz l1,kkeep gz l2,kkeep gz l3,kkeep gz l4,kkeep gz l5,kkeep gz l6,kkeep gz l7,kkeep gz l8,kkeep gz l9,kkeep gz l10,kkeep gz l11,kkeep gz l12⟩ ?_
      try simp only [Act.put,List.getElem_toArray,List.getElem_cons_zero,List.getElem_cons_succ,List.setIfInBounds_toArray,List.set_cons_zero,List.set_cons_succ]
      refine wpAnyH_take (i:=5) (v:=.pointer (some ⟨g,off + i * 13,none⟩)) rfl (by kernel_rfl) (by kernel_rfl) (by kernel_rfl) (fun _ _ _ h=>h) (Or.inl ⟨by rfl,fun w _hS=>by simp [go_sem,ts0,ts1]⟩) ⟨kkeep gz y0,kkeep gz y1,kkeep gz l0,kkeep gz l1,kkeep gz l2,kkeep gz l3,kkeep gz l4,kkeep gz l5,kkeep gz l6,kkeep gz l7,kkeep gz l8,kkeep gz l9,kkeep gz l10,kkeep gz l11,kkeep gz l12⟩ ?_
      try simp only [Act.put,List.getElem_toArray,List.getElem_cons_zero,List.getElem_cons_succ,List.setIfInBounds_toArray,List.set_cons_zero,List.set_cons_succ]
      refine wpAnyH_take (i:=6) (v:=.agg #[f0 i,f1 i,f2 i,f3 i,f4 i,f5 i,f6 i,f7 i,f8 i,f9 i,f10 i,f11 i,f12 i]) rfl (by kernel_rfl) (by kernel_rfl) (by kernel_rfl) (fun _ _ _ h=>h) (Or.inl ⟨by rfl,fun w _hS=>exL rfl _ rfl (loadPa w g (off + i * 13) _ _ _ _ _ _ _ _ _ _ _ _ _ _hS.2.2.1 _hS.2.2.2.1 _hS.2.2.2.2.1 _hS.2.2.2.2.2.1 _hS.2.2.2.2.2.2.1 _hS.2.2.2.2.2.2.2.1 _hS.2.2.2.2.2.2.2.2.1 _hS.2.2.2.2.2.2.2.2.2.1 _hS.2.2.2.2.2.2.2.2.2.2.1 _hS.2.2.2.2.2.2.2.2.2.2.2.1 _hS.2.2.2.2.2.2.2.2.2.2.2.2.1 _hS.2.2.2.2.2.2.2.2.2.2.2.2.2.1 _hS.2.2.2.2.2.2.2.2.2.2.2.2.2.2)⟩) ⟨kkeep gz y0,kkeep gz y1,kkeep gz l0,kkeep gz l1,kkeep gz l2,kkeep gz l3,kkeep gz l4,kkeep gz l5,kkeep gz l6,kkeep gz l7,kkeep gz l8,kkeep gz l9,kkeep gz l10,kkeep gz l11,kkeep gz l12⟩ ?_
      try simp only [Act.put,List.getElem_toArray,List.getElem_cons_zero,List.getElem_cons_succ,List.setIfInBounds_toArray,List.set_cons_zero,List.set_cons_succ]
      refine wpAnyH_ready (rs:=[0]) (by kernel_rfl) (by simp) ?_
      refine AllReadyH.cons rfl (fun K hK=>?_) AllReadyH.nil
      refine wpo_load 24 _ rfl zb 0 rfl _ (loadI W.drew zb 0 _ _ z0 z1) ?_
      refine hK.out _ _ ⟨kkeep gz y0,kkeep gz y1,kkeep gz l0,kkeep gz l1,kkeep gz l2,kkeep gz l3,kkeep gz l4,kkeep gz l5,kkeep gz l6,kkeep gz l7,kkeep gz l8,kkeep gz l9,kkeep gz l10,kkeep gz l11,kkeep gz l12⟩ (fun _=>?_)
      clear hK K
      try simp only [Act.put,List.getElem_toArray,List.getElem_cons_zero,List.getElem_cons_succ,List.setIfInBounds_toArray,List.set_cons_zero,List.set_cons_succ]
      refine wpAnyH_ready (rs:=[1]) (by kernel_rfl) (by simp) ?_
      refine AllReadyH.cons rfl (fun K hK=>?_) AllReadyH.nil
      go_simp
      refine (hO1 _).mono ?_
      rintro e w3 ⟨v3,rfl,p3,g3⟩
      have j3:=gz.trans g3
      go_wp2_with fail
      refine hK.out _ _ ⟨kkeep j3 y0,kkeep j3 y1,kkeep j3 l0,kkeep j3 l1,kkeep j3 l2,kkeep j3 l3,kkeep j3 l4,kkeep j3 l5,kkeep j3 l6,kkeep j3 l7,kkeep j3 l8,kkeep j3 l9,kkeep j3 l10,kkeep j3 l11,kkeep j3 l12⟩ (fun _=>?_)
      clear hK K
      try simp only [Act.put,List.getElem_toArray,List.getElem_cons_zero,List.getElem_cons_succ,List.setIfInBounds_toArray,List.set_cons_zero,List.set_cons_succ]
      refine wpAnyH_ready (rs:=[7]) (by kernel_rfl) (by simp) ?_
      refine AllReadyH.cons rfl (fun K hK=>?_) AllReadyH.nil
      go_simp
      refine (hWi.2 _ (Kp.trans kw j3)).mono ?_
      rintro e w4 ⟨rfl,g4⟩
      have j4:=j3.trans g4
      go_wp2_with fail
      refine hK.out _ _ ⟨kkeep j4 y0,kkeep j4 y1,kkeep j4 l0,kkeep j4 l1,kkeep j4 l2,kkeep j4 l3,kkeep j4 l4,kkeep j4 l5,kkeep j4 l6,kkeep j4 l7,kkeep j4 l8,kkeep j4 l9,kkeep j4 l10,kkeep j4 l11,kkeep j4 l12⟩ (fun _=>?_)
      clear hK K
      try simp only [Act.put,List.getElem_toArray,List.getElem_cons_zero,List.getElem_cons_succ,List.setIfInBounds_toArray,List.set_cons_zero,List.set_cons_succ]
      refine wpAnyH_ready (rs:=[8]) (by kernel_rfl) (by simp) ?_
      refine AllReadyH.cons rfl (fun K hK=>?_) AllReadyH.nil
      go_simp
      refine (hO2 _).mono ?_
      rintro e w5 ⟨v5,rfl,p5,g5⟩
      have j5:=j4.trans g5
      go_wp2_with fail
      refine hK.out _ _ ⟨kkeep j5 y0,kkeep j5 y1,kkeep j5 l0,kkeep j5 l1,kkeep j5 l2,kkeep j5 l3,kkeep j5 l4,kkeep j5 l5,kkeep j5 l6,kkeep j5 l7,kkeep j5 l8,kkeep j5 l9,kkeep j5 l10,kkeep j5 l11,kkeep j5 l12⟩ (fun _=>?_)
      clear hK K
      try simp only [Act.put,List.getElem_toArray,List.getElem_cons_zero,List.getElem_cons_succ,List.setIfInBounds_toArray,List.set_cons_zero,List.set_cons_succ]
      refine wpAnyH_ready (rs:=[9]) (by kernel_rfl) (by simp) ?_
      refine AllReadyH.cons rfl (fun K hK=>?_) AllReadyH.nil
      go_simp
      refine (hU _ _ _ (hk1 _ _ _ (Kp.trans g4 g5) p3) p5).mono ?_
      rintro e w6 ⟨v6,rfl,p6,g6⟩
      have j6:=j5.trans g6
      go_wp2_with fail
      refine hK.out _ _ ⟨kkeep j6 y0,kkeep j6 y1,kkeep j6 l0,kkeep j6 l1,kkeep j6 l2,kkeep j6 l3,kkeep j6 l4,kkeep j6 l5,kkeep j6 l6,kkeep j6 l7,kkeep j6 l8,kkeep j6 l9,kkeep j6 l10,kkeep j6 l11,kkeep j6 l12⟩ (fun _=>?_)
      clear hK K
      try simp only [Act.put,List.getElem_toArray,List.getElem_cons_zero,List.getElem_cons_succ,List.setIfInBounds_toArray,List.set_cons_zero,List.set_cons_succ]
      refine wpAnyH_ready (rs:=[10]) (by kernel_rfl) (by simp) ?_
      refine AllReadyH.cons rfl (fun K hK=>?_) AllReadyH.nil
      go_simp
      refine (hL _ _ p6).mono ?_
      rintro e w7 ⟨rfl,g7⟩
      have j7:=j6.trans g7
      go_wp2_with fail
      refine hK.out _ _ ⟨kkeep j7 y0,kkeep j7 y1,kkeep j7 l0,kkeep j7 l1,kkeep j7 l2,kkeep j7 l3,kkeep j7 l4,kkeep j7 l5,kkeep j7 l6,kkeep j7 l7,kkeep j7 l8,kkeep j7 l9,kkeep j7 l10,kkeep j7 l11,kkeep j7 l12⟩ (fun _=>?_)
      clear hK K
      try simp only [Act.put,List.getElem_toArray,List.getElem_cons_zero,List.getElem_cons_succ,List.setIfInBounds_toArray,List.set_cons_zero,List.set_cons_succ]
      replace hZ:=hZ.kp j7
      have hst:=storeI w7 zb _ _ (pI (min (zLn WL i) (WL i))) (pI (max (zHn WH i) (WH i))) ((hZ.cell 0).trans rfl) ((hZ.cell 1).trans rfl) (hZ.frozen 0) (hZ.frozen 1)
      refine wpAnyH_ready (rs:=[11]) (by kernel_rfl) (by simp) ?_
      refine AllReadyH.cons rfl (fun K hK=>?_) AllReadyH.nil
      refine wpo_store 24 _ _ rfl zb 0 rfl _ rfl _ hst ?_
      refine hK.out _ _ ?zS (fun _=>?_)
      case zS=>exact ⟨(World.cell?_setCell_far _ _ _ _ (by simp;omega)).trans ((World.cell?_setCell_far _ _ _ _ (by simp;omega)).trans (kkeep j7 y0)),(World.cell?_setCell_far _ _ _ _ (by simp;omega)).trans ((World.cell?_setCell_far _ _ _ _ (by simp;omega)).trans (kkeep j7 y1)),(World.cell?_setCell_far _ _ _ _ (by simp;omega)).trans ((World.cell?_setCell_far _ _ _ _ (by simp;omega)).trans (kkeep j7 l0)),(World.cell?_setCell_far _ _ _ _ (by simp;omega)).trans ((World.cell?_setCell_far _ _ _ _ (by simp;omega)).trans (kkeep j7 l1)),(World.cell?_setCell_far _ _ _ _ (by simp;omega)).trans ((World.cell?_setCell_far _ _ _ _ (by simp;omega)).trans (kkeep j7 l2)),(World.cell?_setCell_far _ _ _ _ (by simp;omega)).trans ((World.cell?_setCell_far _ _ _ _ (by simp;omega)).trans (kkeep j7 l3)),(World.cell?_setCell_far _ _ _ _ (by simp;omega)).trans ((World.cell?_setCell_far _ _ _ _ (by simp;omega)).trans (kkeep j7 l4)),(World.cell?_setCell_far _ _ _ _ (by simp;omega)).trans ((World.cell?_setCell_far _ _ _ _ (by simp;omega)).trans (kkeep j7 l5)),(World.cell?_setCell_far _ _ _ _ (by simp;omega)).trans ((World.cell?_setCell_far _ _ _ _ (by simp;omega)).trans (kkeep j7 l6)),(World.cell?_setCell_far _ _ _ _ (by simp;omega)).trans ((World.cell?_setCell_far _ _ _ _ (by simp;omega)).trans (kkeep j7 l7)),(World.cell?_setCell_far _ _ _ _ (by simp;omega)).trans ((World.cell?_setCell_far _ _ _ _ (by simp;omega)).trans (kkeep j7 l8)),(World.cell?_setCell_far _ _ _ _ (by simp;omega)).trans ((World.cell?_setCell_far _ _ _ _ (by simp;omega)).trans (kkeep j7 l9)),(World.cell?_setCell_far _ _ _ _ (by simp;omega)).trans ((World.cell?_setCell_far _ _ _ _ (by simp;omega)).trans (kkeep j7 l10)),(World.cell?_setCell_far _ _ _ _ (by simp;omega)).trans ((World.cell?_setCell_far _ _ _ _ (by simp;omega)).trans (kkeep j7 l11)),(World.cell?_setCell_far _ _ _ _ (by simp;omega)).trans ((World.cell?_setCell_far _ _ _ _ (by simp;omega)).trans (kkeep j7 l12))⟩
      clear hK K
      try simp only [Act.put,List.getElem_toArray,List.getElem_cons_zero,List.getElem_cons_succ,List.setIfInBounds_toArray,List.set_cons_zero,List.set_cons_succ]
      refine wpAnyH_done (by kernel_rfl) ?_ _
      replace kw:=((Kp.trans kw j7).setCell (p:=⟨zb,0,none⟩) hle (.int .u64 (pI (min (zLn WL i) (WL i))))).setCell (p:=⟨zb,1,none⟩) hle (.int .u64 (pI (max (zHn WH i) (WH i))))
      replace hY:=((hY.kp j7).far ⟨zb,0,none⟩ (.int .u64 (pI (min (zLn WL i) (WL i)))) (by simp;omega)).far ⟨zb,1,none⟩ (.int .u64 (pI (max (zHn WH i) (WH i)))) (by simp;omega)
      replace hR:=((hR.kp j7).far ⟨zb,0,none⟩ (.int .u64 (pI (min (zLn WL i) (WL i)))) (by simp;omega)).far ⟨zb,1,none⟩ (.int .u64 (pI (max (zHn WH i) (WH i)))) (by simp;omega)
      replace hZ:BK ((w7.setCell ⟨zb,0,none⟩ (.int .u64 (pI (min (zLn WL i) (WL i))))).setCell ⟨zb,1,none⟩ (.int .u64 (pI (max (zHn WH i) (WH i))))) zb #[.int .u64 (pI (zLn WL (i + 1))),.int .u64 (pI (zHn WH (i + 1)))] 24:=(hZ.put 0 (.int .u64 (pI (min (zLn WL i) (WL i))))).put 1 (.int .u64 (pI (max (zHn WH i) (WH i))))
      clear l0 l1
      generalize ((w7.setCell ⟨zb,0,none⟩ (.int .u64 (pI (min (zLn WL i) (WL i))))).setCell ⟨zb,1,none⟩ (.int .u64 (pI (max (zHn WH i) (WH i))))) = W8 at kw hZ hY hR ⊢
      go_wp2
      exact ⟨⟨i + 1,by go_num,by omega,vd_hull _ _ _ _ hv hWi.1,hZ,hY,hR,kw⟩,by simp [intOf];omega⟩
    · have hin:i = n:=by omega
      subst hin
      have z0:wr.cell? ⟨zb,0,none⟩ = some (.int .u64 (pI (zLn WL i))):=(hZ.cell 0).trans rfl
      have z1:wr.cell? ⟨zb,1,none⟩ = some (.int .u64 (pI (zHn WH i))):=(hZ.cell 1).trans rfl
      have r0:wr.cell? ⟨w.heap.size + 1,0,none⟩ = some (.int .u64 0):=(hR.cell 0).trans rfl;have rz0:=hR.frozen 0;have r1:wr.cell? ⟨w.heap.size + 1,1,none⟩ = some (.int .u64 0):=(hR.cell 1).trans rfl;have rz1:=hR.frozen 1;skip
      go_wp2
      exact bodyPost_ret (v:=.agg #[.int .u64 (pI (zLn WL i)),.int .u64 (pI (zHn WH i))]) (by simp [results,Try.results23,go_sem,r0,r1]) rfl ⟨rfl,((kw.setCell (by first | omega | (simp <;> omega)) _).setCell (by first | omega | (simp <;> omega)) _)⟩
end Go.Proofs.Ytcepchaakfiojaa
