import Derived.Test.YtaldmbeomdfafaaGreatDoorKPNd
import Derived.Test.YtaldmbeomdfafaaGreatDoorKPQe
import Derived.Test.YtaldmbeomdfafaaGreatDoorKPQl
set_option maxHeartbeats 4000000
set_option maxRecDepth 20000
namespace Go.Proofs.YtaldmbeomdfafaaGreatDoor
open Go.RowKit
set_option linter.unusedVariables false
theorem szq_sv {m r:Nat} {e:Ending} {w':World} (h:SzQ (infS false m) (infS false r) (fN false m) (fM m) (fN false r) (fM r) e w'):∃ v,e = .returned v∧SV1 false m false r w' v:=by
 obtain ⟨s3,p3,l3,c3,q3,k3,d3,s5,p5,l5,c5,q5,k5,d5,rfl,h1,h2⟩:=h
 exact ⟨_,rfl,s3,p3,l3,c3,q3,k3,d3,s5,p5,l5,c5,q5,k5,d5,rfl,h1,h2⟩
theorem sizeV_ (n g:Bool) (m r:Nat) (hm:m≤9218868437227405312) (hr:r≤9218868437227405312) (z1:n = true→m≠0) (z2:g = true→r≠0) (hle:Fq.plz n m≤Fq.plz g r) (W:World) (v:Value) (h:SV1 n m g r W v):Calls Tryz.prog 96 #[v] W fun e w'=>(∃ v',e = .returned v'∧SV1 false (if 0 < Fq.plz n m then m else if Fq.plz g r < 0 then r else 0) false (max m r) w' v')∧Kp W w':=by
 obtain ⟨s,p,l,c,q,k,d,s2,p2,l2,c2,q2,k2,d2,rfl,u1,u2⟩:=h
 have hM1:=fun (V:World) (y:Kp W V)=>mag7_ n m hm z1 s p l c q k d 0 W u1 V y
 have hM2:=fun (V:World) (y:Kp W V)=>mag7_ g r hr z2 s2 p2 l2 c2 q2 k2 d2 0 W u2 V y
 have hC:=fun (V:World) s3 p3 l3 c3 q3 k3 d3 s5 p5 l5 c5 q5 k5 d5 (y1:RP 0 V s3 p3 l3 c3 q3 k3 d3 (fN false m) (fM m)) (y2:RP 0 V s5 p5 l5 c5 q5 k5 d5 (fN false r) (fM r))=>cmpE_ 0 0 false false m r hm hr s3 p3 l3 c3 q3 k3 d3 s5 p5 l5 c5 q5 k5 d5 V y1 y2
 have hS1:=fun (V:World) (y:Kp W V)=>signE_ n m s p l c q k d 0 V (u1.kp y)
 have hS2:=fun (V:World) (y:Kp W V)=>signE_ g r s2 p2 l2 c2 q2 k2 d2 0 V (u2.kp y)
 have P1:Fq.plz n m = if n then -(m:Int) else m:=by unfold Fq.plz;cases n <;> rfl
 have P2:Fq.plz g r = if g then -(r:Int) else r:=by unfold Fq.plz;cases g <;> rfl
 have P3:∀ x:Nat,Fq.plz false x = (x:Int):=fun x=>by unfold Fq.plz;rfl
 have cle:∀ x y:Int,x≤y→¬ (0 < cmI x y):=fun x y h=>by unfold cmI;split <;> first | omega | (rw [if_neg (by omega)];omega)
 have cgt:∀ x y:Int,y < x→0 < cmI x y:=fun x y h=>by rw [cmI_gt x y h];decide
 have cng:∀ x y:Int,y≤x→0≤cmI x y:=fun x y h=>by unfold cmI;rw [if_neg (by omega)];split <;> omega
 have cnl:∀ x y:Int,x≤y→cmI x y≤0:=fun x y h=>by unfold cmI;split <;> first | omega | (rw [if_neg (by omega)];omega)
 by_cases y1:0 < Fq.plz n m
 ·rw [if_pos y1]
  have e:max m r = r:=by
   rw [P1,P2] at hle;rw [P1] at y1
   cases n <;> cases g <;> simp at hle y1 <;> omega
  rw [e]
  have b:m≤r:=by omega
  exact ((sizeN1_ (infS n m) (infS g r) (infS false m) (infS false r) (cmI (Fq.plz false m) (Fq.plz false r)) (cmI (Fq.plz n m) 0) (cmI (Fq.plz g r) 0) (fN false m) (fN false r) (fM m) (fM r) s p l c q k d s2 p2 l2 c2 q2 k2 d2 (cle _ _ (by rw [P3,P3];omega)) (by have:=cgt _ _ y1;omega) W hM1 hM2 hC hS1 hS2 fin0_).mono fun e w' h=>⟨szq_sv h.1,h.2⟩)
 ·rw [if_neg y1]
  by_cases y2:Fq.plz g r < 0
  ·rw [if_pos y2]
   have b:r≤m:=by
    rw [P1,P2] at hle;rw [P2] at y2
    cases n <;> cases g <;> simp at hle y2 <;> omega
   rw [show max m r = m from by omega]
   by_cases y3:r < m
   ·exact ((sizeS2_ (infS n m) (infS g r) (infS false m) (infS false r) (cmI (Fq.plz false m) (Fq.plz false r)) (cmI (Fq.plz n m) 0) (cmI (Fq.plz g r) 0) (fN false m) (fN false r) (fM m) (fM r) s p l c q k d s2 p2 l2 c2 q2 k2 d2 (cgt _ _ (by rw [P3,P3];omega)) (cnl _ _ (by omega)) (by rw [cmI_lt _ _ y2];decide) W hM1 hM2 hC hS1 hS2 fin0_).mono fun e w' h=>⟨szq_sv h.1,h.2⟩)
   ·have y4:r = m:=by omega
    exact ((sizeN2_ (infS n m) (infS g r) (infS false m) (infS false r) (cmI (Fq.plz false m) (Fq.plz false r)) (cmI (Fq.plz n m) 0) (cmI (Fq.plz g r) 0) (fN false m) (fN false r) (fM m) (fM r) s p l c q k d s2 p2 l2 c2 q2 k2 d2 (cle _ _ (by rw [P3,P3];omega)) (cnl _ _ (by omega)) (by rw [cmI_lt _ _ y2];decide) W hM1 hM2 hC hS1 hS2 fin0_).mono fun e w' h=>⟨(by have q9:=szq_sv h.1;rw [y4] at q9 ⊢;exact q9),h.2⟩)
  ·rw [if_neg y2]
   by_cases y3:r < m
   ·rw [show max m r = m from by omega]
    exact ((sizeS3_ (infS n m) (infS g r) (infS false m) (infS false r) (cmI (Fq.plz false m) (Fq.plz false r)) (cmI (Fq.plz n m) 0) (cmI (Fq.plz g r) 0) (fN false m) (fN false r) (fM m) (fM r) s p l c q k d s2 p2 l2 c2 q2 k2 d2 (cgt _ _ (by rw [P3,P3];omega)) (cnl _ _ (by omega)) (cng _ _ (by omega)) W hM1 hM2 hC hS1 hS2 fin0_).mono fun e w' h=>⟨szq_sv h.1,h.2⟩)
   ·rw [show max m r = r from by omega]
    exact ((sizeN3_ (infS n m) (infS g r) (infS false m) (infS false r) (cmI (Fq.plz false m) (Fq.plz false r)) (cmI (Fq.plz n m) 0) (cmI (Fq.plz g r) 0) (fN false m) (fN false r) (fM m) (fM r) s p l c q k d s2 p2 l2 c2 q2 k2 d2 (cle _ _ (by rw [P3,P3];omega)) (cnl _ _ (by omega)) (cng _ _ (by omega)) W hM1 hM2 hC hS1 hS2 fin0_).mono fun e w' h=>⟨szq_sv h.1,h.2⟩)
set_option linter.unusedVariables false

theorem entire7_ (w:World):Calls Tryz.prog 48 #[] w fun e w'=>e = .returned (.agg #[.float .f64 18442240474082181120,.float .f64 9218868437227405312])∧Kp w w':=by
 refine (Fq.entire6_ w).mono ?_
 rintro e w' ⟨rfl,h⟩
 exact ⟨rfl,by first | exact h | (subst h;exact (Kp.refl w).alloc _)⟩
def TU7 (w:World):Prop:=Tab w∧Fq.Tab w
theorem TU7.kp {w w':World} (h:TU7 w) (g:Kp w w'):TU7 w':=⟨h.1.grown g,h.2.grown g⟩
theorem powersZ_ (K:Nat) (hK:K = 1074) (x y N:Int) (hx:BdZ x) (hy:BdZ y) (h1:-1024≤N) (h2:N≤1024) (w:World) (hT:TU7 w):Calls Tryz.prog 50 #[.float .f64 (pw x),.float .f64 (pw y),.int .i64 N] w fun e w'=>e = .returned (.agg #[.float .f64 (pw (pnZ K (-1) N x)),.float .f64 (pw (pnZ K 1 N y))])∧Kp w w' :=
 powersA_ _ _ _ _ N (Or.inr trivial) w (fun W g=>powZ_ K hK (-1) x N hx h1 h2 (by omega) (by omega) W (hT.kp g).1 (hT.kp g).2) (fun W g=>powZ_ K hK 1 y N hy h1 h2 (by omega) (by omega) W (hT.kp g).1 (hT.kp g).2)
theorem sM_bd (L H:Int) (h1:BdZ L) (h2:BdZ H):BdZ (sMl L H)∧BdZ (sMh L H):=by
 unfold sMl sMh BdZ at *
 split <;> omega
theorem tmod2 (N:Int):(N.tmod 2 == 0) = decide (N % 2 = 0):=by
 rcases Int.lt_or_le N 0 with c | c
 ·have e:N.tmod 2 = -((-N).tmod 2):=by rw [Int.neg_tmod];omega
  have e2:(-N).tmod 2 = (-N) % 2:=Int.tmod_eq_emod_of_nonneg (by omega)
  rw [e,e2]
  by_cases g:N % 2 = 0
  ·rw [decide_eq_true g];simp;omega
  ·rw [decide_eq_false g];simp;omega
 ·rw [Int.tmod_eq_emod_of_nonneg c]
  by_cases g:N % 2 = 0
  ·rw [decide_eq_true g];simp [g]
  ·rw [decide_eq_false g];simp [g]
theorem inv9_ (K:Nat) (hK:K = 1074) (L H N:Int) (hd:VdZ L H) (n:L≠9218868437227405312) (h1:-1024≤N) (h2:N < 0) (w:World) (hT:TU7 w):Calls Tryz.prog 49 #[.agg #[.float .f64 (pw L),.float .f64 (pw H)],.int .i64 N] w fun e w'=>e = .returned (.agg #[.float .f64 (pw (nLo K N L H)),.float .f64 (pw (nHi K N L H))])∧Kp w w':=by
 have b1:=hd.lo
 have b2:=hd.hi
 have bs:=sM_bd L H b1 b2
 have e1:=eq0_pw7 L b1
 have e2:=eq0_pw7 H b2
 have e3:=lt0_pw7 L b1
 have e4:=gt0_pw7 H b2
 have t:=tmod2 N
 unfold nLo nHi
 rw [if_neg n,if_neg n,if_neg (show ¬ (N < -1024∨1024 < N) by omega),if_neg (show ¬ (N < -1024∨1024 < N) by omega),if_pos h2,if_pos h2]
 by_cases z:L = 0∧H = 0
 ·rw [if_pos z,if_pos z,pw_I,pw_MI]
  rw [decide_eq_true z.1] at e1
  rw [decide_eq_true z.2] at e2
  exact invnZ_ _ _ N e1 e2 w (fun W g=>empty9_ W)
 rw [if_neg z,if_neg z]
 have tz:(decide (L = 0) && decide (H = 0)) = false:=by
  by_cases a:L = 0 <;> by_cases b:H = 0 <;> simp [a,b]
  exact absurd ⟨a,b⟩ z
 by_cases g:N % 2 = 0
 ·rw [if_pos g,if_pos g]
  rw [decide_eq_true g] at t
  refine invnA_ _ _ N _ _ e1 e2 tz t (pw (sMl L H)) (pw (sMh L H)) _ _ w (fun W k=>?_) (fun W k=>powersZ_ K hK _ _ N bs.2 bs.1 h1 (by omega) W (hT.kp k))
  have h:=absP9_ _ _ L H (Rd.of hd) W
  unfold bsLo bsHi at h
  rw [if_neg n,if_neg n] at h
  exact h
 rw [if_neg g,if_neg g]
 rw [decide_eq_false g] at t
 by_cases s:L < 0∧0 < H
 ·rw [if_pos (Or.inl s),if_pos s,pw_I,pw_MI]
  rw [decide_eq_true s.1] at e3
  rw [decide_eq_true s.2] at e4
  exact invnS_ _ _ N _ _ e1 e2 tz t e3 e4 w (fun W k=>entire7_ W)
 have ty:(decide (L < 0) && decide (0 < H)) = false:=by
  by_cases a:L < 0 <;> by_cases b:0 < H <;> simp [a,b] <;> omega
 rw [if_neg s]
 by_cases q:H = 0
 ·rw [if_pos (Or.inr q),pw_MI]
  rw [decide_eq_true q] at e2
  rw [decide_eq_false (show ¬ L = 0 by omega)] at e1
  exact invnH_ _ _ N e1 e2 t _ _ e3 e4 ty _ w (fun W k=>powZ_ K hK 1 L N b1 h1 (by omega) (by omega) (by omega) W (hT.kp k).1 (hT.kp k).2)
 ·rw [if_neg (show ¬ ((L < 0∧0 < H)∨H = 0) by omega)]
  exact invnP_ _ _ N _ _ e1 e2 tz t _ _ e3 e4 ty (decide_eq_false q) _ _ w (fun W k=>powersZ_ K hK H L N b2 b1 h1 (by omega) W (hT.kp k))
theorem pown9_ (K:Nat) (hK:K = 1074) (a b:Nat) (L H N:Int) (hx:Rd a b L H) (w:World) (hT:TU7 w):Calls Tryz.prog 11 #[.agg #[.float .f64 a,.float .f64 b],.int .i64 N] w fun e w'=>e = .returned (.agg #[.float .f64 (pw (nLo K N L H)),.float .f64 (pw (nHi K N L H))])∧Kp w w':=by
 have hd:=hx.vd
 have hv:=fun w=>voidP9_ L H hd w
 have bs:=sM_bd L H hd.lo hd.hi
 by_cases c:L = 9218868437227405312
 ·have eH:H = -9218868437227405312:=by unfold VdZ at hd;omega
  rw [decide_eq_true c] at hv
  unfold nLo nHi
  rw [if_pos c,if_pos c]
  have h:=pownV_ a b _ _ N hx.call hv w
  rw [c,eH] at h
  exact h
 rw [decide_eq_false c] at hv
 by_cases c1:N < -1024
 ·unfold nLo nHi
  rw [if_neg c,if_neg c,if_pos (Or.inl c1),if_pos (Or.inl c1),pw_I,pw_MI]
  exact pownE1_ a b _ _ N hx.call hv c1 w (fun W k=>entire7_ W)
 by_cases c2:1024 < N
 ·unfold nLo nHi
  rw [if_neg c,if_neg c,if_pos (Or.inr c2),if_pos (Or.inr c2),pw_I,pw_MI]
  exact pownE2_ a b _ _ N hx.call hv c1 c2 w (fun W k=>entire7_ W)
 by_cases c3:N < 0
 ·exact pownI_ a b _ _ N hx.call hv c1 c2 c3 _ _ w (fun W k=>inv9_ K hK L H N hd c (by omega) c3 W (hT.kp k))
 unfold nLo nHi
 rw [if_neg c,if_neg c,if_neg (show ¬ (N < -1024∨1024 < N) by omega),if_neg (show ¬ (N < -1024∨1024 < N) by omega),if_neg c3,if_neg c3]
 by_cases g:N % 2 = 0
 ·rw [if_pos g,if_pos g]
  refine pownA_ a b _ _ N hx.call hv c1 c2 c3 (by simp [g]) (pw (sMl L H)) (pw (sMh L H)) _ _ w (fun W k=>?_) (fun W k=>powersZ_ K hK _ _ N bs.1 bs.2 (by omega) (by omega) W (hT.kp k))
  have h:=absP9_ _ _ L H (Rd.of hd) W
  unfold bsLo bsHi at h
  rw [if_neg c,if_neg c] at h
  exact h
 ·rw [if_neg g,if_neg g]
  exact pownO_ a b _ _ N hx.call hv c1 c2 c3 (by simp [g]) _ _ w (fun W k=>powersZ_ K hK L H N hd.lo hd.hi (by omega) (by omega) W (hT.kp k))
theorem in9_ (a b:Nat) (w:World):Calls Tryz.prog 20 #[.agg #[.int .u64 ((a:Nat):Int),.int .u64 ((b:Nat):Int)]] w fun e w'=>e = .returned (.agg #[.float .f64 a,.float .f64 b])∧Kp w w':=by
 have h1:=Fq.ff64 a
 have h2:=Fq.ff64 b
 generalize (a:Int) = X at h1 ⊢
 generalize (b:Int) = Y at h2 ⊢
 go_enter Tryz.func20,Tryz.ntmps20
 go_wp2
 go_region_held3 (fun w'=>w'.cell? ⟨w.heap.size,0,none⟩ = some (.int .u64 X)∧w'.cell? ⟨w.heap.size,1,none⟩ = some (.int .u64 Y)) (simp [go_sem]) (fail)
 go_wp2
 exact bodyPost_ret (v:=.agg #[.float .f64 a,.float .f64 b]) (by simp [results,Tryz.results20,go_sem]) rfl ⟨rfl,(by repeat (with_reducible (first | assumption | exact Kp.refl _ | apply Kp.drew | apply Kp.alloc | apply Kp.drewN | (refine Kp.setCell ?_ (by first | omega | (simp <;> omega)) _) | (refine Kp.trans ?_ (by assumption)))))⟩
theorem out9_ (a b:Nat) (w:World):Calls Tryz.prog 19 #[.agg #[.float .f64 a,.float .f64 b]] w fun e w'=>e = .returned (.agg #[.int .u64 ((a:Nat):Int),.int .u64 ((b:Nat):Int)])∧Kp w w':=by
 have h1:=Fq.fb64 a
 have h2:=Fq.fb64 b
 generalize (a:Int) = X at h1 ⊢
 generalize (b:Int) = Y at h2 ⊢
 go_enter Tryz.func19,Tryz.ntmps19
 go_wp2
 go_region_held3 (fun w'=>w'.cell? ⟨w.heap.size,0,none⟩ = some (.float .f64 a)∧w'.cell? ⟨w.heap.size,1,none⟩ = some (.float .f64 b)) (simp [go_sem,World.cell?_alloc_past]) (fail)
 go_wp2
 exact bodyPost_ret (v:=.agg #[.int .u64 X,.int .u64 Y]) (by simp [results,Tryz.results19,go_sem]) rfl ⟨rfl,(by repeat (with_reducible (first | assumption | exact Kp.refl _ | apply Kp.drew | apply Kp.alloc | apply Kp.drewN | (refine Kp.setCell ?_ (by first | omega | (simp <;> omega)) _) | (refine Kp.trans ?_ (by assumption)))))⟩
set_option linter.unusedVariables false

theorem sizeZ_ (L H:Int) (hd:VdZ L H) (n:L≠9218868437227405312) (W:World) (v:Value) (h:SV1 (decide (L < 0)) (L).natAbs (decide (H < 0)) (H).natAbs W v):Calls Tryz.prog 96 #[v] W fun e w'=>∃ v',e = .returned v'∧SV1 (decide (sMl L H < 0)) (sMl L H).natAbs (decide (sMh L H < 0)) (sMh L H).natAbs w' v'∧Kp W w':=by
 have b1:=hd.lo
 have b2:=hd.hi
 have le:L≤H:=by unfold VdZ at hd;omega
 refine (sizeV_ (decide (L < 0)) (decide (H < 0)) L.natAbs H.natAbs (abs_pw L b1) (abs_pw H b2) (fun h=>by have:=of_decide_eq_true h;omega) (fun h=>by have:=of_decide_eq_true h;omega) (by rw [plz_pw,plz_pw];exact le) W v h).mono ?_
 rintro e w' ⟨⟨v',rfl,h'⟩,g⟩
 refine ⟨v',rfl, ?_,g⟩
 rw [plz_pw,plz_pw] at h'
 have e1:decide (sMl L H < 0) = false:=decide_eq_false (by unfold sMl;split <;> omega)
 have e2:decide (sMh L H < 0) = false:=decide_eq_false (by unfold sMh;omega)
 have e3:(if 0 < L then L.natAbs else if H < 0 then H.natAbs else 0) = (sMl L H).natAbs:=by
  unfold sMl
  by_cases c:0 < L
  ·rw [if_pos c,if_neg (by omega)];omega
  ·rw [if_neg c]
   by_cases c2:H < 0
   ·rw [if_pos c2,if_neg (by omega)];omega
   ·rw [if_neg c2,if_pos (by omega)];rfl
 have e4:max L.natAbs H.natAbs = (sMh L H).natAbs:=by unfold sMh;omega
 rw [e1,e2,← e3,← e4]
 exact h'
theorem pw0_ (K:Nat) (hK:K = 1074) (L H:Int) (W:World) (v:Value) (h:SV1 (decide (L < 0)) (L).natAbs (decide (H < 0)) (H).natAbs W v):Calls Tryz.prog 63 #[v,.int .i64 0] W fun e w'=>∃ v',e = .returned v'∧QS 0 0 0 (fun _=>pw 4607182418800017408) (fun _=>pw 4607182418800017408) w' v'∧Kp W w':=by
 obtain ⟨s,p,l,c,q,k,d,s2,p2,l2,c2,q2,k2,d2,rfl,a1,a2⟩:=h
 refine (pws0_ _ _ s p l c q k d s2 p2 l2 c2 q2 k2 d2 W).mono ?_
 rintro e w' ⟨v',rfl,⟨s3,p3,l3,c3,q3,k3,d3,s4,p4,l4,c4,q4,k4,d4,rfl,x1,x2⟩,g⟩
 have hz:-9218868437227405312 < (4607182418800017408:Int)∧(4607182418800017408:Int) < 9218868437227405312:=by decide
 have ev:((2 ^ K:Nat):Int) = vZ 4607182418800017408:=(vZ_1 K hK).symm
 have c2:(2:Nat) ^ K≠0:=Nat.ne_of_gt (Nat.two_pow_pos K)
 exact ⟨_,rfl,⟨s3,p3,l3,c3,q3,k3,d3,s4,p4,l4,c4,q4,k4,d4,rfl,fun _=>(x1.as ((2 ^ K:Nat):Int) (2 ^ K) 1500 c2 (by simp) (Nat.le_refl _)).ez hK (by decide) _ hz ev,fun _=>(x2.as ((2 ^ K:Nat):Int) (2 ^ K) 1500 c2 (by simp) (Nat.le_refl _)).ez hK (by decide) _ hz ev⟩,g⟩
theorem pwNone_ (N:Int) (W:World) (v:Value) (h:SV0 true v):Calls Tryz.prog 63 #[v,.int .i64 N] W fun e w'=>∃ v',e = .returned v'∧SV0 true v'∧Kp W w':=by
 obtain ⟨i,j,s,p,l,c,q,k,d,s2,p2,l2,c2,q2,k2,d2,rfl⟩:=h
 exact pwsN_ i j N s p l c q k d s2 p2 l2 c2 q2 k2 d2 W
theorem pwOP_ (K:Nat) (hK:K = 1074) (u9:Nat) (h0:0 < u9) (h1:u9≤1024) (o:u9 % 2 = 1) (L H:Int) (hd:VdZ L H) (nI:L≠9218868437227405312) (W:World) (v:Value) (h:SV1 (decide (L < 0)) (L).natAbs (decide (H < 0)) (H).natAbs W v):Calls Tryz.prog 63 #[v,.int .i64 (u9:Int)] W fun e w'=>∃ v',e = .returned v'∧QS 0 (iF L) (iF H) (fun dd=>pz (g53 dd (2 ^ K) (C3 K u9 L) (V3 u9 L))) (fun dd=>pz (g53 dd (2 ^ K) (C3 K u9 H) (V3 u9 H))) w' v'∧Kp W w':=by
 have h9:=h
 obtain ⟨s,p,l,c,q,k,d,s2,p2,l2,c2,q2,k2,d2,rfl,a1,a2⟩:=h
 exact pwsO_ (u9:Int) (u9:Int) (iF L) (iF H) (fN (decide (L < 0)) (L).natAbs) (fN (decide (H < 0)) (H).natAbs) (fM (L).natAbs) (fM (H).natAbs) (by omega) (by omega) (by omega) s p l c q k d s2 p2 l2 c2 q2 k2 d2 (V3 u9 L) (V3 u9 H) (C3 K u9 L) (C3 K u9 H) (QS 0 (iF L) (iF H) (fun dd=>pz (g53 dd (2 ^ K) (C3 K u9 L) (V3 u9 L))) (fun dd=>pz (g53 dd (2 ^ K) (C3 K u9 H) (V3 u9 H)))) W a1 a2 (fun W' s p l c q k d y h=>pwE_ u9 h1 (iF L) (vF L) (2 ^ K) s p l c q k d W' (h.xp K hK)) (fun W' s2 p2 l2 c2 q2 k2 d2 y h=>pwE_ u9 h1 (iF H) (vF H) (2 ^ K) s2 p2 l2 c2 q2 k2 d2 W' (h.xp K hK)) (Or.inl ⟨rfl,fun W' s3 p3 l3 c3 q3 k3 d3 s4 p4 l4 c4 q4 k4 d4 h3 h4=>TX.qs K hK (N:=1540000) (by decide) ⟨s3,p3,l3,c3,q3,k3,d3,s4,p4,l4,c4,q4,k4,d4,rfl,h3,h4⟩⟩)
theorem pwOMA_ (K:Nat) (hK:K = 1074) (u9:Nat) (h0:0 < u9) (h1:u9≤1024) (o:u9 % 2 = 1) (L H:Int) (hd:VdZ L H) (nI:L≠9218868437227405312) (g1:0≤L) (g2:L < 9218868437227405312) (g3:0 < H) (W:World) (v:Value) (h:SV1 (decide (L < 0)) (L).natAbs (decide (H < 0)) (H).natAbs W v):Calls Tryz.prog 63 #[v,.int .i64 (-(u9:Int))] W fun e w'=>∃ v',e = .returned v'∧QS 0 0 (if V3 u9 L = 0 then 1 else 0) (fun dd=>pz (g53 dd (2 ^ K) (if iF H = 0 then (V3 u9 H).natAbs else 1) (if iF H = 0 then (C3 K u9 H:Int) else 0))) (fun dd=>pz (g53 dd (2 ^ K) (if V3 u9 L = 0 then 1 else (V3 u9 L).natAbs) (if V3 u9 L = 0 then 0 else (C3 K u9 L:Int)))) w' v'∧Kp W w':=by
 have fx:-9218868437227405312 < L∧L < 9218868437227405312:=by omega
 have ix:=(iF_fin _ fx).1
 have vx:0≤V3 u9 L:=by
  rcases Int.lt_or_eq_of_le g1 with c | c
  ·exact Int.le_of_lt (V3_pos u9 _ fx c)
  ·rw [(V3_zero u9 h0 _ fx).2 c.symm];exact Int.le_refl _
 have by9:H = 9218868437227405312∨H < 9218868437227405312:=by have:=hd.hi;unfold BdZ at this;omega
 have oy:iF H = 0∨iF H = 1:=by
  rcases by9 with c | c
  ·rw [c];exact Or.inr iF_I.1
  ·exact Or.inl (iF_fin _ ⟨by omega,c⟩).1
 have vy:iF H = 0→0 < V3 u9 H:=fun hi=>by
  rcases by9 with c | c
  ·rw [c,iF_I.1] at hi;omega
  ·exact V3_pos u9 _ ⟨by omega,c⟩ g3
 have h9:=h
 obtain ⟨s,p,l,c,q,k,d,s2,p2,l2,c2,q2,k2,d2,rfl,a1,a2⟩:=h
 refine Calls.mono (pwsO_ (-(u9:Int)) (u9:Int) (iF L) (iF H) (fN (decide (L < 0)) (L).natAbs) (fN (decide (H < 0)) (H).natAbs) (fM (L).natAbs) (fM (H).natAbs) (by omega) (by omega) (by omega) s p l c q k d s2 p2 l2 c2 q2 k2 d2 (V3 u9 L) (V3 u9 H) (C3 K u9 L) (C3 K u9 H) (QS (W.heap.size + 2) 0 (if V3 u9 L = 0 then 1 else 0) (fun dd=>pz (g53 dd (2 ^ K) (if iF H = 0 then (V3 u9 H).natAbs else 1) (if iF H = 0 then (C3 K u9 H:Int) else 0))) (fun dd=>pz (g53 dd (2 ^ K) (if V3 u9 L = 0 then 1 else (V3 u9 L).natAbs) (if V3 u9 L = 0 then 0 else (C3 K u9 L:Int))))) W a1 a2 (fun W' s p l c q k d y h=>pwE_ u9 h1 (iF L) (vF L) (2 ^ K) s p l c q k d W' (h.xp K hK)) (fun W' s2 p2 l2 c2 q2 k2 d2 y h=>pwE_ u9 h1 (iF H) (vF H) (2 ^ K) s2 p2 l2 c2 q2 k2 d2 W' (h.xp K hK)) (Or.inr ⟨rfl,fun W' s3 p3 l3 c3 q3 k3 d3 s4 p4 l4 c4 q4 k4 d4 y h3 h4=>?_,(fun W' v x u hx h=>h.set hx u)⟩)) ?_
 ·skip
  refine Calls.mono (by have q:=invTA_ K hK (V3 u9 L) (C3 K u9 L) (iF H) (V3 u9 H) (C3 K u9 H) vx oy vy W' (.agg #[.bool false,.int .i64 (iF L),.bool s3,.slice p3 l3 c3,.slice q3 k3 d3,.int .i64 (iF H),.bool s4,.slice p4 l4 c4,.slice q4 k4 d4]) ⟨s3,p3,l3,c3,q3,k3,d3,s4,p4,l4,c4,q4,k4,d4,by rw [ix],h3,h4⟩;exact q) ?_
  rintro e w' ⟨v',rfl,hq,g⟩
  have hq2:=hq.mono (show W.heap.size + 2≤W'.heap.size + 2 from Nat.add_le_add_right (Below.size y) 2)
  have hq3:=hq2
  obtain ⟨s5,p5,l5,c5,q5,k5,d5,s6,p6,l6,c6,q6,k6,d6,rfl,x5,x6⟩:=hq2
  exact ⟨false,_,_,s5,p5,l5,c5,q5,k5,d5,s6,p6,l6,c6,q6,k6,d6,rfl,hq3,g⟩
 ·rintro e w' ⟨v',e1,h',g⟩
  exact ⟨v',e1,h'.mono (Nat.zero_le _),g⟩
theorem pwOMB_ (K:Nat) (hK:K = 1074) (u9:Nat) (h0:0 < u9) (h1:u9≤1024) (o:u9 % 2 = 1) (L H:Int) (hd:VdZ L H) (nI:L≠9218868437227405312) (g1:L < 0) (g2:-9218868437227405312 < H) (g3:H≤0) (W:World) (v:Value) (h:SV1 (decide (L < 0)) (L).natAbs (decide (H < 0)) (H).natAbs W v):Calls Tryz.prog 63 #[v,.int .i64 (-(u9:Int))] W fun e w'=>∃ v',e = .returned v'∧QS 0 (if V3 u9 H = 0 then -1 else 0) 0 (fun dd=>pz (g53 dd (2 ^ K) (if V3 u9 H = 0 then 1 else (V3 u9 H).natAbs) (if V3 u9 H = 0 then 0 else -(C3 K u9 H:Int)))) (fun dd=>pz (g53 dd (2 ^ K) (if iF L = 0 then (V3 u9 L).natAbs else 1) (if iF L = 0 then -(C3 K u9 L:Int) else 0))) w' v'∧Kp W w':=by
 have fy:-9218868437227405312 < H∧H < 9218868437227405312:=by omega
 have iy:=(iF_fin _ fy).1
 have vy:V3 u9 H≤0:=by
  rcases Int.lt_or_eq_of_le g3 with c | c
  ·exact Int.le_of_lt (V3_neg u9 o _ fy c)
  ·rw [(V3_zero u9 h0 _ fy).2 c];exact Int.le_refl _
 have bx9:L = -9218868437227405312∨-9218868437227405312 < L:=by have:=hd.lo;unfold BdZ at this;omega
 have ox:iF L = 0∨iF L = -1:=by
  rcases bx9 with c | c
  ·rw [c];exact Or.inr iF_MI.1
  ·exact Or.inl (iF_fin _ ⟨c,by omega⟩).1
 have vx:iF L = 0→V3 u9 L < 0:=fun hi=>by
  rcases bx9 with c | c
  ·rw [c,iF_MI.1] at hi;omega
  ·exact V3_neg u9 o _ ⟨c,by omega⟩ g1
 have h9:=h
 obtain ⟨s,p,l,c,q,k,d,s2,p2,l2,c2,q2,k2,d2,rfl,a1,a2⟩:=h
 refine Calls.mono (pwsO_ (-(u9:Int)) (u9:Int) (iF L) (iF H) (fN (decide (L < 0)) (L).natAbs) (fN (decide (H < 0)) (H).natAbs) (fM (L).natAbs) (fM (H).natAbs) (by omega) (by omega) (by omega) s p l c q k d s2 p2 l2 c2 q2 k2 d2 (V3 u9 L) (V3 u9 H) (C3 K u9 L) (C3 K u9 H) (QS (W.heap.size + 2) (if V3 u9 H = 0 then -1 else 0) 0 (fun dd=>pz (g53 dd (2 ^ K) (if V3 u9 H = 0 then 1 else (V3 u9 H).natAbs) (if V3 u9 H = 0 then 0 else -(C3 K u9 H:Int)))) (fun dd=>pz (g53 dd (2 ^ K) (if iF L = 0 then (V3 u9 L).natAbs else 1) (if iF L = 0 then -(C3 K u9 L:Int) else 0)))) W a1 a2 (fun W' s p l c q k d y h=>pwE_ u9 h1 (iF L) (vF L) (2 ^ K) s p l c q k d W' (h.xp K hK)) (fun W' s2 p2 l2 c2 q2 k2 d2 y h=>pwE_ u9 h1 (iF H) (vF H) (2 ^ K) s2 p2 l2 c2 q2 k2 d2 W' (h.xp K hK)) (Or.inr ⟨rfl,fun W' s3 p3 l3 c3 q3 k3 d3 s4 p4 l4 c4 q4 k4 d4 y h3 h4=>?_,(fun W' v x u hx h=>h.set hx u)⟩)) ?_
 ·skip
  refine Calls.mono (by have q:=invTB_ K hK (iF L) (V3 u9 L) (C3 K u9 L) (V3 u9 H) (C3 K u9 H) vy ox vx W' (.agg #[.bool false,.int .i64 (iF L),.bool s3,.slice p3 l3 c3,.slice q3 k3 d3,.int .i64 (iF H),.bool s4,.slice p4 l4 c4,.slice q4 k4 d4]) ⟨s3,p3,l3,c3,q3,k3,d3,s4,p4,l4,c4,q4,k4,d4,by rw [iy],h3,h4⟩;exact q) ?_
  rintro e w' ⟨v',rfl,hq,g⟩
  have hq2:=hq.mono (show W.heap.size + 2≤W'.heap.size + 2 from Nat.add_le_add_right (Below.size y) 2)
  have hq3:=hq2
  obtain ⟨s5,p5,l5,c5,q5,k5,d5,s6,p6,l6,c6,q6,k6,d6,rfl,x5,x6⟩:=hq2
  exact ⟨false,_,_,s5,p5,l5,c5,q5,k5,d5,s6,p6,l6,c6,q6,k6,d6,rfl,hq3,g⟩
 ·rintro e w' ⟨v',e1,h',g⟩
  exact ⟨v',e1,h'.mono (Nat.zero_le _),g⟩
theorem pwOMC_ (K:Nat) (hK:K = 1074) (u9:Nat) (h0:0 < u9) (h1:u9≤1024) (o:u9 % 2 = 1) (L H:Int) (hd:VdZ L H) (nI:L≠9218868437227405312) (g1:L < 0) (g3:0 < H) (W:World) (v:Value) (h:SV1 (decide (L < 0)) (L).natAbs (decide (H < 0)) (H).natAbs W v):Calls Tryz.prog 63 #[v,.int .i64 (-(u9:Int))] W fun e w'=>∃ v',e = .returned v'∧QS 0 (-1) 1 (fun _=>0) (fun _=>0) w' v'∧Kp W w':=by
 have by9:H = 9218868437227405312∨H < 9218868437227405312:=by have:=hd.hi;unfold BdZ at this;omega
 have oy:iF H = 0∨iF H = 1:=by
  rcases by9 with c | c
  ·rw [c];exact Or.inr iF_I.1
  ·exact Or.inl (iF_fin _ ⟨by omega,c⟩).1
 have vy:iF H = 0→0 < V3 u9 H:=fun hi=>by
  rcases by9 with c | c
  ·rw [c,iF_I.1] at hi;omega
  ·exact V3_pos u9 _ ⟨by omega,c⟩ g3
 have bx9:L = -9218868437227405312∨-9218868437227405312 < L:=by have:=hd.lo;unfold BdZ at this;omega
 have ox:iF L = 0∨iF L = -1:=by
  rcases bx9 with c | c
  ·rw [c];exact Or.inr iF_MI.1
  ·exact Or.inl (iF_fin _ ⟨c,by omega⟩).1
 have vx:iF L = 0→V3 u9 L < 0:=fun hi=>by
  rcases bx9 with c | c
  ·rw [c,iF_MI.1] at hi;omega
  ·exact V3_neg u9 o _ ⟨c,by omega⟩ g1
 have h9:=h
 obtain ⟨s,p,l,c,q,k,d,s2,p2,l2,c2,q2,k2,d2,rfl,a1,a2⟩:=h
 refine Calls.mono (pwsO_ (-(u9:Int)) (u9:Int) (iF L) (iF H) (fN (decide (L < 0)) (L).natAbs) (fN (decide (H < 0)) (H).natAbs) (fM (L).natAbs) (fM (H).natAbs) (by omega) (by omega) (by omega) s p l c q k d s2 p2 l2 c2 q2 k2 d2 (V3 u9 L) (V3 u9 H) (C3 K u9 L) (C3 K u9 H) (QS (W.heap.size + 2) (-1) 1 (fun _=>0) (fun _=>0)) W a1 a2 (fun W' s p l c q k d y h=>pwE_ u9 h1 (iF L) (vF L) (2 ^ K) s p l c q k d W' (h.xp K hK)) (fun W' s2 p2 l2 c2 q2 k2 d2 y h=>pwE_ u9 h1 (iF H) (vF H) (2 ^ K) s2 p2 l2 c2 q2 k2 d2 W' (h.xp K hK)) (Or.inr ⟨rfl,fun W' s3 p3 l3 c3 q3 k3 d3 s4 p4 l4 c4 q4 k4 d4 y h3 h4=>?_,(fun W' v x u hx h=>h.set hx u)⟩)) ?_
 ·skip
  refine Calls.mono (by have q:=invTC_ (iF L) (V3 u9 L) (C3 K u9 L) (iF H) (V3 u9 H) (C3 K u9 H) ox vx oy vy W' (.agg #[.bool false,.int .i64 (iF L),.bool s3,.slice p3 l3 c3,.slice q3 k3 d3,.int .i64 (iF H),.bool s4,.slice p4 l4 c4,.slice q4 k4 d4]) ⟨s3,p3,l3,c3,q3,k3,d3,s4,p4,l4,c4,q4,k4,d4,rfl,h3,h4⟩;exact q) ?_
  rintro e w' ⟨v',rfl,hq,g⟩
  have hq2:=hq.mono (show W.heap.size + 2≤W'.heap.size + 2 from Nat.add_le_add_right (Below.size y) 2)
  have hq3:=hq2
  obtain ⟨s5,p5,l5,c5,q5,k5,d5,s6,p6,l6,c6,q6,k6,d6,rfl,x5,x6⟩:=hq2
  exact ⟨false,_,_,s5,p5,l5,c5,q5,k5,d5,s6,p6,l6,c6,q6,k6,d6,rfl,hq3,g⟩
 ·rintro e w' ⟨v',e1,h',g⟩
  exact ⟨v',e1,h'.mono (Nat.zero_le _),g⟩
theorem pwOMO_ (K:Nat) (hK:K = 1074) (u9:Nat) (h0:0 < u9) (h1:u9≤1024) (o:u9 % 2 = 1) (L H:Int) (hd:VdZ L H) (nI:L≠9218868437227405312) (g1:L = 0) (g3:H = 0) (W:World) (v:Value) (h:SV1 (decide (L < 0)) (L).natAbs (decide (H < 0)) (H).natAbs W v):Calls Tryz.prog 63 #[v,.int .i64 (-(u9:Int))] W fun e w'=>∃ v',e = .returned v'∧SV0 true v'∧Kp W w':=by
 have fx:-9218868437227405312 < L∧L < 9218868437227405312:=by omega
 have fy:-9218868437227405312 < H∧H < 9218868437227405312:=by omega
 have h9:=h
 obtain ⟨s,p,l,c,q,k,d,s2,p2,l2,c2,q2,k2,d2,rfl,a1,a2⟩:=h
 refine Calls.mono (pwsO_ (-(u9:Int)) (u9:Int) (iF L) (iF H) (fN (decide (L < 0)) (L).natAbs) (fN (decide (H < 0)) (H).natAbs) (fM (L).natAbs) (fM (H).natAbs) (by omega) (by omega) (by omega) s p l c q k d s2 p2 l2 c2 q2 k2 d2 (V3 u9 L) (V3 u9 H) (C3 K u9 L) (C3 K u9 H) (fun _ v=>SV0 true v) W a1 a2 (fun W' s p l c q k d y h=>pwE_ u9 h1 (iF L) (vF L) (2 ^ K) s p l c q k d W' (h.xp K hK)) (fun W' s2 p2 l2 c2 q2 k2 d2 y h=>pwE_ u9 h1 (iF H) (vF H) (2 ^ K) s2 p2 l2 c2 q2 k2 d2 W' (h.xp K hK)) (Or.inr ⟨rfl,fun W' s3 p3 l3 c3 q3 k3 d3 s4 p4 l4 c4 q4 k4 d4 y h3 h4=>?_,(fun W' v x u hx h=>h)⟩)) ?_
 ·skip
  refine Calls.mono (by have q:=invTO_ (iF L) (V3 u9 L) (C3 K u9 L) (iF H) (V3 u9 H) (C3 K u9 H) (iF_fin _ fx).1 (iF_fin _ fy).1 ((V3_zero u9 h0 _ fx).2 g1) ((V3_zero u9 h0 _ fy).2 g3) W' (.agg #[.bool false,.int .i64 (iF L),.bool s3,.slice p3 l3 c3,.slice q3 k3 d3,.int .i64 (iF H),.bool s4,.slice p4 l4 c4,.slice q4 k4 d4]) ⟨s3,p3,l3,c3,q3,k3,d3,s4,p4,l4,c4,q4,k4,d4,rfl,h3,h4⟩;exact q) ?_
  rintro e w' ⟨v',rfl,⟨i7,j7,s5,p5,l5,c5,q5,k5,d5,s6,p6,l6,c6,q6,k6,d6,rfl⟩,g⟩
  exact ⟨true,i7,j7,s5,p5,l5,c5,q5,k5,d5,s6,p6,l6,c6,q6,k6,d6,rfl,⟨i7,j7,s5,p5,l5,c5,q5,k5,d5,s6,p6,l6,c6,q6,k6,d6,rfl⟩,g⟩
 ·rintro e w' ⟨v',e1,h',g⟩
  exact ⟨v',e1,h',g⟩
theorem pwEP_ (K:Nat) (hK:K = 1074) (u9:Nat) (h0:0 < u9) (h1:u9≤1024) (o:u9 % 2 = 0) (L H:Int) (hd:VdZ L H) (nI:L≠9218868437227405312) (W:World) (v:Value) (h:SV1 (decide (L < 0)) (L).natAbs (decide (H < 0)) (H).natAbs W v):Calls Tryz.prog 63 #[v,.int .i64 (u9:Int)] W fun e w'=>∃ v',e = .returned v'∧QS 0 (iF (sMl L H)) (iF (sMh L H)) (fun dd=>pz (g53 dd (2 ^ K) (C3 K u9 (sMl L H)) (V3 u9 (sMl L H)))) (fun dd=>pz (g53 dd (2 ^ K) (C3 K u9 (sMh L H)) (V3 u9 (sMh L H)))) w' v'∧Kp W w':=by
 have h9:=h
 obtain ⟨s,p,l,c,q,k,d,s2,p2,l2,c2,q2,k2,d2,rfl,a1,a2⟩:=h
 exact pwsE_ (u9:Int) (u9:Int) (iF L) (iF H) (iF (sMl L H)) (iF (sMh L H)) (fN (decide ((sMl L H) < 0)) ((sMl L H)).natAbs) (fN (decide ((sMh L H) < 0)) ((sMh L H)).natAbs) (fM ((sMl L H)).natAbs) (fM ((sMh L H)).natAbs) (by omega) (by omega) (by omega) s p l c q k d s2 p2 l2 c2 q2 k2 d2 (V3 u9 (sMl L H)) (V3 u9 (sMh L H)) (C3 K u9 (sMl L H)) (C3 K u9 (sMh L H)) (QS 0 (iF (sMl L H)) (iF (sMh L H)) (fun dd=>pz (g53 dd (2 ^ K) (C3 K u9 (sMl L H)) (V3 u9 (sMl L H)))) (fun dd=>pz (g53 dd (2 ^ K) (C3 K u9 (sMh L H)) (V3 u9 (sMh L H))))) W (fun W' y=>(sizeZ_ L H hd nI W' _ (SV1.kp y h9)).mono (fun e w' ⟨v',e1,⟨s8,p8,l8,c8,q8,k8,d8,s9,p9,l9,c9,q9,k9,d9,e2,b1,b2⟩,g⟩=>⟨s8,p8,l8,c8,q8,k8,d8,s9,p9,l9,c9,q9,k9,d9,by rw [e1,e2];rfl,b1,b2,g⟩)) (fun W' s8 p8 l8 c8 q8 k8 d8 y h=>pwE_ u9 h1 (iF (sMl L H)) (vF (sMl L H)) (2 ^ K) s8 p8 l8 c8 q8 k8 d8 W' (h.xp K hK)) (fun W' s9 p9 l9 c9 q9 k9 d9 y h=>pwE_ u9 h1 (iF (sMh L H)) (vF (sMh L H)) (2 ^ K) s9 p9 l9 c9 q9 k9 d9 W' (h.xp K hK)) (Or.inl ⟨rfl,fun W' s3 p3 l3 c3 q3 k3 d3 s4 p4 l4 c4 q4 k4 d4 h3 h4=>TX.qs K hK (N:=1540000) (by decide) ⟨s3,p3,l3,c3,q3,k3,d3,s4,p4,l4,c4,q4,k4,d4,rfl,h3,h4⟩⟩)
theorem pwEMA_ (K:Nat) (hK:K = 1074) (u9:Nat) (h0:0 < u9) (h1:u9≤1024) (o:u9 % 2 = 0) (L H:Int) (hd:VdZ L H) (nI:L≠9218868437227405312) (g1:0≤(sMl L H)) (g2:(sMl L H) < 9218868437227405312) (g3:0 < (sMh L H)) (W:World) (v:Value) (h:SV1 (decide (L < 0)) (L).natAbs (decide (H < 0)) (H).natAbs W v):Calls Tryz.prog 63 #[v,.int .i64 (-(u9:Int))] W fun e w'=>∃ v',e = .returned v'∧QS 0 0 (if V3 u9 (sMl L H) = 0 then 1 else 0) (fun dd=>pz (g53 dd (2 ^ K) (if iF (sMh L H) = 0 then (V3 u9 (sMh L H)).natAbs else 1) (if iF (sMh L H) = 0 then (C3 K u9 (sMh L H):Int) else 0))) (fun dd=>pz (g53 dd (2 ^ K) (if V3 u9 (sMl L H) = 0 then 1 else (V3 u9 (sMl L H)).natAbs) (if V3 u9 (sMl L H) = 0 then 0 else (C3 K u9 (sMl L H):Int)))) w' v'∧Kp W w':=by
 have fx:-9218868437227405312 < (sMl L H)∧(sMl L H) < 9218868437227405312:=by omega
 have ix:=(iF_fin _ fx).1
 have vx:0≤V3 u9 (sMl L H):=by
  rcases Int.lt_or_eq_of_le g1 with c | c
  ·exact Int.le_of_lt (V3_pos u9 _ fx c)
  ·rw [(V3_zero u9 h0 _ fx).2 c.symm];exact Int.le_refl _
 have by9:(sMh L H) = 9218868437227405312∨(sMh L H) < 9218868437227405312:=by have:=(sM_bd L H hd.lo hd.hi).2;unfold BdZ at this;omega
 have oy:iF (sMh L H) = 0∨iF (sMh L H) = 1:=by
  rcases by9 with c | c
  ·rw [c];exact Or.inr iF_I.1
  ·exact Or.inl (iF_fin _ ⟨by omega,c⟩).1
 have vy:iF (sMh L H) = 0→0 < V3 u9 (sMh L H):=fun hi=>by
  rcases by9 with c | c
  ·rw [c,iF_I.1] at hi;omega
  ·exact V3_pos u9 _ ⟨by omega,c⟩ g3
 have h9:=h
 obtain ⟨s,p,l,c,q,k,d,s2,p2,l2,c2,q2,k2,d2,rfl,a1,a2⟩:=h
 refine Calls.mono (pwsE_ (-(u9:Int)) (u9:Int) (iF L) (iF H) (iF (sMl L H)) (iF (sMh L H)) (fN (decide ((sMl L H) < 0)) ((sMl L H)).natAbs) (fN (decide ((sMh L H) < 0)) ((sMh L H)).natAbs) (fM ((sMl L H)).natAbs) (fM ((sMh L H)).natAbs) (by omega) (by omega) (by omega) s p l c q k d s2 p2 l2 c2 q2 k2 d2 (V3 u9 (sMl L H)) (V3 u9 (sMh L H)) (C3 K u9 (sMl L H)) (C3 K u9 (sMh L H)) (QS (W.heap.size + 2) 0 (if V3 u9 (sMl L H) = 0 then 1 else 0) (fun dd=>pz (g53 dd (2 ^ K) (if iF (sMh L H) = 0 then (V3 u9 (sMh L H)).natAbs else 1) (if iF (sMh L H) = 0 then (C3 K u9 (sMh L H):Int) else 0))) (fun dd=>pz (g53 dd (2 ^ K) (if V3 u9 (sMl L H) = 0 then 1 else (V3 u9 (sMl L H)).natAbs) (if V3 u9 (sMl L H) = 0 then 0 else (C3 K u9 (sMl L H):Int))))) W (fun W' y=>(sizeZ_ L H hd nI W' _ (SV1.kp y h9)).mono (fun e w' ⟨v',e1,⟨s8,p8,l8,c8,q8,k8,d8,s9,p9,l9,c9,q9,k9,d9,e2,b1,b2⟩,g⟩=>⟨s8,p8,l8,c8,q8,k8,d8,s9,p9,l9,c9,q9,k9,d9,by rw [e1,e2];rfl,b1,b2,g⟩)) (fun W' s8 p8 l8 c8 q8 k8 d8 y h=>pwE_ u9 h1 (iF (sMl L H)) (vF (sMl L H)) (2 ^ K) s8 p8 l8 c8 q8 k8 d8 W' (h.xp K hK)) (fun W' s9 p9 l9 c9 q9 k9 d9 y h=>pwE_ u9 h1 (iF (sMh L H)) (vF (sMh L H)) (2 ^ K) s9 p9 l9 c9 q9 k9 d9 W' (h.xp K hK)) (Or.inr ⟨rfl,fun W' s3 p3 l3 c3 q3 k3 d3 s4 p4 l4 c4 q4 k4 d4 y h3 h4=>?_,(fun W' v x u hx h=>h.set hx u)⟩)) ?_
 ·skip
  refine Calls.mono (by have q:=invTA_ K hK (V3 u9 (sMl L H)) (C3 K u9 (sMl L H)) (iF (sMh L H)) (V3 u9 (sMh L H)) (C3 K u9 (sMh L H)) vx oy vy W' (.agg #[.bool false,.int .i64 (iF (sMl L H)),.bool s3,.slice p3 l3 c3,.slice q3 k3 d3,.int .i64 (iF (sMh L H)),.bool s4,.slice p4 l4 c4,.slice q4 k4 d4]) ⟨s3,p3,l3,c3,q3,k3,d3,s4,p4,l4,c4,q4,k4,d4,by rw [ix],h3,h4⟩;exact q) ?_
  rintro e w' ⟨v',rfl,hq,g⟩
  have hq2:=hq.mono (show W.heap.size + 2≤W'.heap.size + 2 from Nat.add_le_add_right (Below.size y) 2)
  have hq3:=hq2
  obtain ⟨s5,p5,l5,c5,q5,k5,d5,s6,p6,l6,c6,q6,k6,d6,rfl,x5,x6⟩:=hq2
  exact ⟨false,_,_,s5,p5,l5,c5,q5,k5,d5,s6,p6,l6,c6,q6,k6,d6,rfl,hq3,g⟩
 ·rintro e w' ⟨v',e1,h',g⟩
  exact ⟨v',e1,h'.mono (Nat.zero_le _),g⟩
theorem pwEMO_ (K:Nat) (hK:K = 1074) (u9:Nat) (h0:0 < u9) (h1:u9≤1024) (o:u9 % 2 = 0) (L H:Int) (hd:VdZ L H) (nI:L≠9218868437227405312) (g1:(sMl L H) = 0) (g3:(sMh L H) = 0) (W:World) (v:Value) (h:SV1 (decide (L < 0)) (L).natAbs (decide (H < 0)) (H).natAbs W v):Calls Tryz.prog 63 #[v,.int .i64 (-(u9:Int))] W fun e w'=>∃ v',e = .returned v'∧SV0 true v'∧Kp W w':=by
 have fx:-9218868437227405312 < (sMl L H)∧(sMl L H) < 9218868437227405312:=by omega
 have fy:-9218868437227405312 < (sMh L H)∧(sMh L H) < 9218868437227405312:=by omega
 have h9:=h
 obtain ⟨s,p,l,c,q,k,d,s2,p2,l2,c2,q2,k2,d2,rfl,a1,a2⟩:=h
 refine Calls.mono (pwsE_ (-(u9:Int)) (u9:Int) (iF L) (iF H) (iF (sMl L H)) (iF (sMh L H)) (fN (decide ((sMl L H) < 0)) ((sMl L H)).natAbs) (fN (decide ((sMh L H) < 0)) ((sMh L H)).natAbs) (fM ((sMl L H)).natAbs) (fM ((sMh L H)).natAbs) (by omega) (by omega) (by omega) s p l c q k d s2 p2 l2 c2 q2 k2 d2 (V3 u9 (sMl L H)) (V3 u9 (sMh L H)) (C3 K u9 (sMl L H)) (C3 K u9 (sMh L H)) (fun _ v=>SV0 true v) W (fun W' y=>(sizeZ_ L H hd nI W' _ (SV1.kp y h9)).mono (fun e w' ⟨v',e1,⟨s8,p8,l8,c8,q8,k8,d8,s9,p9,l9,c9,q9,k9,d9,e2,b1,b2⟩,g⟩=>⟨s8,p8,l8,c8,q8,k8,d8,s9,p9,l9,c9,q9,k9,d9,by rw [e1,e2];rfl,b1,b2,g⟩)) (fun W' s8 p8 l8 c8 q8 k8 d8 y h=>pwE_ u9 h1 (iF (sMl L H)) (vF (sMl L H)) (2 ^ K) s8 p8 l8 c8 q8 k8 d8 W' (h.xp K hK)) (fun W' s9 p9 l9 c9 q9 k9 d9 y h=>pwE_ u9 h1 (iF (sMh L H)) (vF (sMh L H)) (2 ^ K) s9 p9 l9 c9 q9 k9 d9 W' (h.xp K hK)) (Or.inr ⟨rfl,fun W' s3 p3 l3 c3 q3 k3 d3 s4 p4 l4 c4 q4 k4 d4 y h3 h4=>?_,(fun W' v x u hx h=>h)⟩)) ?_
 ·skip
  refine Calls.mono (by have q:=invTO_ (iF (sMl L H)) (V3 u9 (sMl L H)) (C3 K u9 (sMl L H)) (iF (sMh L H)) (V3 u9 (sMh L H)) (C3 K u9 (sMh L H)) (iF_fin _ fx).1 (iF_fin _ fy).1 ((V3_zero u9 h0 _ fx).2 g1) ((V3_zero u9 h0 _ fy).2 g3) W' (.agg #[.bool false,.int .i64 (iF (sMl L H)),.bool s3,.slice p3 l3 c3,.slice q3 k3 d3,.int .i64 (iF (sMh L H)),.bool s4,.slice p4 l4 c4,.slice q4 k4 d4]) ⟨s3,p3,l3,c3,q3,k3,d3,s4,p4,l4,c4,q4,k4,d4,rfl,h3,h4⟩;exact q) ?_
  rintro e w' ⟨v',rfl,⟨i7,j7,s5,p5,l5,c5,q5,k5,d5,s6,p6,l6,c6,q6,k6,d6,rfl⟩,g⟩
  exact ⟨true,i7,j7,s5,p5,l5,c5,q5,k5,d5,s6,p6,l6,c6,q6,k6,d6,rfl,⟨i7,j7,s5,p5,l5,c5,q5,k5,d5,s6,p6,l6,c6,q6,k6,d6,rfl⟩,g⟩
 ·rintro e w' ⟨v',e1,h',g⟩
  exact ⟨v',e1,h',g⟩
set_option linter.unusedVariables false

theorem Rd.snd {a b:Nat} {L H:Int} (h:Rd a b L H) (c:L≠9218868437227405312):Fq.snd a b = true:=by
 obtain ⟨h1,h2,h3,h4,h5⟩:=h
 by_cases s:Fq.snd a b = true
 ·exact s
 ·exfalso
  rw [Fq.rlo,if_neg s] at h4
  rw [Fq.rhi,if_neg s] at h5
  have e:=emp9 L H h3
  rw [← h4,← h5,decide_eq_true ⟨rfl,rfl⟩] at e
  exact c (of_decide_eq_true e.symm)
theorem Rd.snd0 {a b:Nat} {H:Int} (h:Rd a b 9218868437227405312 H):Fq.snd a b = false:=by
 obtain ⟨h1,h2,h3,h4,h5⟩:=h
 by_cases s:Fq.snd a b = true
 ·exfalso
  have e:Fq.rlo a b = Fq.wD false 9218868437227405312:=by rw [h4,pw_I];rfl
  have:=rlo_inf a b s false 9218868437227405312 e rfl
  simp at this
 ·simpa using s
theorem ofZ_ (a b:Nat) (L H:Int) (hx:Rd a b L H) (c:L≠9218868437227405312) (W:World):Calls Tryz.prog 60 #[.agg #[.int .u64 ((a:Nat):Int),.int .u64 ((b:Nat):Int)]] W fun e w'=>∃ (s:Bool) (p:Option Addr) (l c:Nat) (q:Option Addr) (k d:Nat) (s2:Bool) (p2:Option Addr) (l2 c2:Nat) (q2:Option Addr) (k2 d2:Nat),e = .returned (.agg #[.bool false,.int .i64 (iF L),.bool s,.slice p l c,.slice q k d,.int .i64 (iF H),.bool s2,.slice p2 l2 c2,.slice q2 k2 d2])∧SV1 (decide (L < 0)) L.natAbs (decide (H < 0)) H.natAbs w' (.agg #[.bool false,.int .i64 (iF L),.bool s,.slice p l c,.slice q k d,.int .i64 (iF H),.bool s2,.slice p2 l2 c2,.slice q2 k2 d2])∧Kp W w':=by
 refine (ofSound_ a b hx.1 hx.2.1 (hx.snd c) (decide (L < 0)) (decide (H < 0)) L.natAbs H.natAbs (abs_pw L hx.vd.lo) (abs_pw H hx.vd.hi) hx.2.2.2.1 hx.2.2.2.2 W).mono ?_
 rintro e w' ⟨v,rfl,⟨s,p,l,c,q,k,d,s2,p2,l2,c2,q2,k2,d2,rfl,h1,h2⟩,g⟩
 exact ⟨s,p,l,c,q,k,d,s2,p2,l2,c2,q2,k2,d2,rfl,⟨s,p,l,c,q,k,d,s2,p2,l2,c2,q2,k2,d2,rfl,h1,h2⟩,g⟩
theorem pownQ_ (K:Nat) (a b:Nat) (L H N:Int) (hx:Rd a b L H) (c:L≠9218868437227405312) (b1:-1024≤N) (b2:N≤1024) (i j:Int) (ZA ZB:Int→Nat) (w:World) (hP:∀ (W:World) (v:Value),SV1 (decide (L < 0)) L.natAbs (decide (H < 0)) H.natAbs W v→Calls Tryz.prog 63 #[v,.int .i64 N] W fun e w'=>∃ v',e = .returned v'∧QS 0 i j ZA ZB w' v'∧Kp W w') (e1:(if i = 0 then ZA (-1) else 18442240474082181120) = pw (nLo K N L H)) (e2:(if j = 0 then ZB 1 else 9218868437227405312) = pw (nHi K N L H)):Calls Tryz.prog 21 #[.agg #[.int .u64 ((a:Nat):Int),.int .u64 ((b:Nat):Int)],.int .i64 N] w fun e w'=>e = .returned (.agg #[.int .u64 ((pw (nLo K N L H):Nat):Int),.int .u64 ((pw (nHi K N L H):Nat):Int)])∧Kp w w':=by
 have hl:=fun (W:World) (v:Value)=>leastQ_ 0 i j ZA ZB W v
 rw [e1,e2] at hl
 exact pownW_ _ _ N _ _ (iF L) (iF H) false (SV1 (decide (L < 0)) L.natAbs (decide (H < 0)) H.natAbs) (QS 0 i j ZA ZB) (by omega) (by omega) w (fun W W' v g h=>SV1.kp g h) (fun W _=>ofZ_ a b L H hx c W) (fun W s p l c q k d s2 p2 l2 c2 q2 k2 d2 h=>hP W _ h) (fun W v h=>hl W v h)
theorem pownV0_ (K:Nat) (a b:Nat) (L H N:Int) (hx:Rd a b L H) (c:L≠9218868437227405312) (b1:-1024≤N) (b2:N≤1024) (w:World) (hP:∀ (W:World) (v:Value),SV1 (decide (L < 0)) L.natAbs (decide (H < 0)) H.natAbs W v→Calls Tryz.prog 63 #[v,.int .i64 N] W fun e w'=>∃ v',e = .returned v'∧SV0 true v'∧Kp W w') (e1:nLo K N L H = 9218868437227405312) (e2:nHi K N L H = -9218868437227405312):Calls Tryz.prog 21 #[.agg #[.int .u64 ((a:Nat):Int),.int .u64 ((b:Nat):Int)],.int .i64 N] w fun e w'=>e = .returned (.agg #[.int .u64 ((pw (nLo K N L H):Nat):Int),.int .u64 ((pw (nHi K N L H):Nat):Int)])∧Kp w w':=by
 rw [e1,e2,pw_I,pw_MI]
 exact pownW_ _ _ N _ _ (iF L) (iF H) false (SV1 (decide (L < 0)) L.natAbs (decide (H < 0)) H.natAbs) (fun _ v=>SV0 true v) (by omega) (by omega) w (fun W W' v g h=>SV1.kp g h) (fun W _=>ofZ_ a b L H hx c W) (fun W s p l c q k d s2 p2 l2 c2 q2 k2 d2 h=>hP W _ h) (fun W v h=>leastN_ W v h)
theorem rdEmpty_ (a b:Nat) (ha:a < 18446744073709551616) (hb:b < 18446744073709551616) (hs:Fq.snd a b = false):∀ w:World,Calls Tryz.prog 22 #[.agg #[.int .u64 ((a:Nat):Int),.int .u64 ((b:Nat):Int)]] w fun e w'=>e = .returned (.agg #[.int .u64 9218868437227405312,.int .u64 18442240474082181120])∧Kp w w':=by
 obtain ⟨n,m,hm,rfl⟩:=Fq.exD a ha
 obtain ⟨n',m',hm',rfl⟩:=Fq.exD b hb
 intro w
 have h:=Fq.rread_ n n' m m' hm hm' w
 rw [show Fq.rlo (Fq.wD n m) (Fq.wD n' m') = 9218868437227405312 from by simp [Fq.rlo,hs],show Fq.rhi (Fq.wD n m) (Fq.wD n' m') = 18442240474082181120 from by simp [Fq.rhi,hs]] at h
 exact h
theorem rpown9_ (K:Nat) (hK:K = 1074) (a b:Nat) (L H N:Int) (hx:Rd a b L H) (w:World):Calls Tryz.prog 21 #[.agg #[.int .u64 ((a:Nat):Int),.int .u64 ((b:Nat):Int)],.int .i64 N] w fun e w'=>e = .returned (.agg #[.int .u64 ((pw (nLo K N L H):Nat):Int),.int .u64 ((pw (nHi K N L H):Nat):Int)])∧Kp w w':=by
 have hd:=hx.vd
 by_cases c:L = 9218868437227405312
 ·subst c
  have s:=hx.snd0
  have e1:nLo K N 9218868437227405312 H = 9218868437227405312:=by unfold nLo;rw [if_pos rfl]
  have e2:nHi K N 9218868437227405312 H = -9218868437227405312:=by unfold nHi;rw [if_pos rfl]
  have hO:∀ W:World,Calls Tryz.prog 60 #[.agg #[.int .u64 ((a:Nat):Int),.int .u64 ((b:Nat):Int)]] W fun e w'=>∃ (i j:Int) (s:Bool) (p:Option Addr) (l c:Nat) (q:Option Addr) (k d:Nat) (s2:Bool) (p2:Option Addr) (l2 c2:Nat) (q2:Option Addr) (k2 d2:Nat),e = .returned (.agg #[.bool true,.int .i64 i,.bool s,.slice p l c,.slice q k d,.int .i64 j,.bool s2,.slice p2 l2 c2,.slice q2 k2 d2])∧Kp W w':=by
   intro W
   refine (ofEmpty_ a b hx.1 hx.2.1 s W).mono ?_
   rintro e w' ⟨v,rfl,⟨i,j,s,p,l,c,q,k,d,s2,p2,l2,c2,q2,k2,d2,rfl⟩,g⟩
   exact ⟨i,j,s,p,l,c,q,k,d,s2,p2,l2,c2,q2,k2,d2,rfl,g⟩
  by_cases c1:N < -1024
  ·rw [e1,e2,pw_I,pw_MI]
   exact pownLE1_ _ _ N c1 w (fun W _=>hO W)
  by_cases c2:1024 < N
  ·rw [e1,e2,pw_I,pw_MI]
   exact pownLE2_ _ _ N c1 c2 w (fun W _=>hO W)
  rw [e1,e2,pw_I,pw_MI]
  have hO2:∀ W:World,Kp w W→Calls Tryz.prog 60 #[.agg #[.int .u64 ((a:Nat):Int),.int .u64 ((b:Nat):Int)]] W fun e w'=>∃ (s:Bool) (p:Option Addr) (l c:Nat) (q:Option Addr) (k d:Nat) (s2:Bool) (p2:Option Addr) (l2 c2:Nat) (q2:Option Addr) (k2 d2:Nat),e = .returned (.agg #[.bool true,.int .i64 0,.bool s,.slice p l c,.slice q k d,.int .i64 0,.bool s2,.slice p2 l2 c2,.slice q2 k2 d2])∧SV0 true (.agg #[.bool true,.int .i64 0,.bool s,.slice p l c,.slice q k d,.int .i64 0,.bool s2,.slice p2 l2 c2,.slice q2 k2 d2])∧Kp W w':=by
   intro W _
   refine (ofE_ _ _ (rdEmpty_ a b hx.1 hx.2.1 s) W).mono ?_
   rintro e w' ⟨s,p,l,c,q,k,d,s2,p2,l2,c2,q2,k2,d2,rfl,-,-,g⟩
   exact ⟨s,p,l,c,q,k,d,s2,p2,l2,c2,q2,k2,d2,rfl,⟨0,0,s,p,l,c,q,k,d,s2,p2,l2,c2,q2,k2,d2,rfl⟩,g⟩
  exact pownW_ _ _ N _ _ 0 0 true (fun _ v=>SV0 true v) (fun _ v=>SV0 true v) c1 c2 w (fun _ _ _ _ h=>h) hO2 (fun W s p l c q k d s2 p2 l2 c2 q2 k2 d2 h=>pwNone_ N W _ h) (fun W v h=>leastN_ W v h)
 by_cases c1:N < -1024
 ·have e1:nLo K N L H = -9218868437227405312:=by unfold nLo;rw [if_neg c,if_pos (Or.inl c1)]
  have e2:nHi K N L H = 9218868437227405312:=by unfold nHi;rw [if_neg c,if_pos (Or.inl c1)]
  rw [e1,e2,pw_I,pw_MI]
  refine pownLS1_ _ _ N c1 w (fun W _=>(ofZ_ a b L H hx c W).mono ?_)
  rintro e w' ⟨s,p,l,c,q,k,d,s2,p2,l2,c2,q2,k2,d2,rfl,-,g⟩
  exact ⟨_,_,s,p,l,c,q,k,d,s2,p2,l2,c2,q2,k2,d2,rfl,g⟩
 by_cases c2:1024 < N
 ·have e1:nLo K N L H = -9218868437227405312:=by unfold nLo;rw [if_neg c,if_pos (Or.inr c2)]
  have e2:nHi K N L H = 9218868437227405312:=by unfold nHi;rw [if_neg c,if_pos (Or.inr c2)]
  rw [e1,e2,pw_I,pw_MI]
  refine pownLS2_ _ _ N c1 c2 w (fun W _=>(ofZ_ a b L H hx c W).mono ?_)
  rintro e w' ⟨s,p,l,c,q,k,d,s2,p2,l2,c2,q2,k2,d2,rfl,-,g⟩
  exact ⟨_,_,s,p,l,c,q,k,d,s2,p2,l2,c2,q2,k2,d2,rfl,g⟩
 have q1:-1024≤N:=by omega
 have q2:N≤1024:=by omega
 have cL:¬ (N < -1024∨1024 < N):=by omega
 have bL:=hd.lo
 have bH:=hd.hi
 have bM:=sM_bd L H bL bH
 have mz:0≤sMl L H∧sMl L H < 9218868437227405312∧(sMh L H = 0 ↔ (L = 0∧H = 0))∧0≤sMh L H∧(sMh L H = 0→sMl L H = 0):=by
  unfold VdZ at hd
  unfold sMl sMh
  split <;> omega
 have hV:=hd
 unfold VdZ at hV
 by_cases n0:N = 0
 ·subst n0
  have e1:nLo K 0 L H = 4607182418800017408:=by unfold nLo;rw [if_neg c,if_neg cL,if_neg (by decide),if_pos (by decide)];rfl
  have e2:nHi K 0 L H = 4607182418800017408:=by unfold nHi;rw [if_neg c,if_neg cL,if_neg (by decide),if_pos (by decide)];rfl
  exact pownQ_ K a b L H 0 hx c q1 q2 0 0 _ _ w (fun W v h=>pw0_ K hK L H W v h) (by rw [e1];rfl) (by rw [e2];rfl)
 by_cases ng:N < 0
 ·obtain ⟨k9,rfl⟩:∃ k9:Nat,N = -(k9:Int):=⟨N.natAbs,by omega⟩
  have h0:0 < k9:=by omega
  have h1:k9≤1024:=by omega
  have pn:∀ d z,pnZ K d (-(k9:Int)) z = pD K d k9 z:=fun d z=>by unfold pnZ;rw [if_neg n0,if_neg (by omega),show (-(k9:Int)).natAbs = k9 by omega]
  by_cases z:L = 0∧H = 0
  ·have e1:nLo K (-(k9:Int)) L H = 9218868437227405312:=by unfold nLo;rw [if_neg c,if_neg cL,if_pos ng,if_pos z]
   have e2:nHi K (-(k9:Int)) L H = -9218868437227405312:=by unfold nHi;rw [if_neg c,if_neg cL,if_pos ng,if_pos z]
   by_cases ev:k9 % 2 = 0
   ·have z2:=mz.2.2.1.2 z
    exact pownV0_ K a b L H _ hx c q1 q2 w (fun W v h=>pwEMO_ K hK k9 h0 h1 ev L H hd c (mz.2.2.2.2 z2) z2 W v h) e1 e2
   ·exact pownV0_ K a b L H _ hx c q1 q2 w (fun W v h=>pwOMO_ K hK k9 h0 h1 (by omega) L H hd c z.1 z.2 W v h) e1 e2
  by_cases ev:k9 % 2 = 0
  ·have e1:nLo K (-(k9:Int)) L H = pD K (-1) k9 (sMh L H):=by unfold nLo;rw [if_neg c,if_neg cL,if_pos ng,if_neg z,if_pos (by omega),pn]
   have e2:nHi K (-(k9:Int)) L H = pD K 1 k9 (sMl L H):=by unfold nHi;rw [if_neg c,if_neg cL,if_pos ng,if_neg z,if_pos (by omega),pn]
   have y0:0 < sMh L H:=by have:=mz.2.2.1;omega
   refine pownQ_ K a b L H _ hx c q1 q2 _ _ _ _ w (fun W v h=>pwEMA_ K hK k9 h0 h1 ev L H hd c mz.1 mz.2.1 y0 W v h) ?_ ?_
   ·rw [if_pos rfl,e1];exact inv_lo K k9 (-1) _ bM.2 y0
   ·rw [e2];exact inv_hi K k9 h0 _ ⟨by omega,mz.2.1⟩ mz.1
  ·have od:k9 % 2 = 1:=by omega
   have nev:¬ (-(k9:Int)) % 2 = 0:=by omega
   by_cases gL:L < 0
   ·by_cases gH:0 < H
    ·have e1:nLo K (-(k9:Int)) L H = -9218868437227405312:=by unfold nLo;rw [if_neg c,if_neg cL,if_pos ng,if_neg z,if_neg nev,if_pos (Or.inl ⟨gL,gH⟩)]
     have e2:nHi K (-(k9:Int)) L H = 9218868437227405312:=by unfold nHi;rw [if_neg c,if_neg cL,if_pos ng,if_neg z,if_neg nev,if_pos ⟨gL,gH⟩]
     exact pownQ_ K a b L H _ hx c q1 q2 _ _ _ _ w (fun W v h=>pwOMC_ K hK k9 h0 h1 od L H hd c gL gH W v h) (by rw [e1,pw_MI];rfl) (by rw [e2,pw_I];rfl)
    ·have e2:nHi K (-(k9:Int)) L H = pD K 1 k9 L:=by unfold nHi;rw [if_neg c,if_neg cL,if_pos ng,if_neg z,if_neg nev,if_neg (by omega),pn]
     have e1:pw (nLo K (-(k9:Int)) L H) = (if H = 0 then 18442240474082181120 else pw (pD K (-1) k9 H)):=by
      unfold nLo;rw [if_neg c,if_neg cL,if_pos ng,if_neg z,if_neg nev]
      by_cases h:H = 0
      ·rw [if_pos (Or.inr h),if_pos h,pw_MI]
      ·rw [if_neg (show ¬ ((L < 0∧0 < H)∨H = 0) by omega),if_neg h,pn]
     have fH:-9218868437227405312 < H∧H < 9218868437227405312:=by omega
     refine pownQ_ K a b L H _ hx c q1 q2 _ _ _ _ w (fun W v h=>pwOMB_ K hK k9 h0 h1 od L H hd c gL fH.1 (by omega) W v h) ?_ ?_
     ·rw [e1];exact inm_lo K k9 h0 od H fH (by omega)
     ·rw [if_pos rfl,e2];exact inm_hi K k9 od L bL gL
   ·have gH:0 < H:=by omega
    have e1:nLo K (-(k9:Int)) L H = pD K (-1) k9 H:=by unfold nLo;rw [if_neg c,if_neg cL,if_pos ng,if_neg z,if_neg nev,if_neg (by omega),pn]
    have e2:nHi K (-(k9:Int)) L H = pD K 1 k9 L:=by unfold nHi;rw [if_neg c,if_neg cL,if_pos ng,if_neg z,if_neg nev,if_neg (by omega),pn]
    refine pownQ_ K a b L H _ hx c q1 q2 _ _ _ _ w (fun W v h=>pwOMA_ K hK k9 h0 h1 od L H hd c (by omega) (by omega) gH W v h) ?_ ?_
    ·rw [if_pos rfl,e1];exact inv_lo K k9 (-1) _ bH gH
    ·rw [e2];exact inv_hi K k9 h0 _ ⟨by omega,by omega⟩ (by omega)
 ·obtain ⟨k9,rfl⟩:∃ k9:Nat,N = (k9:Int):=⟨N.natAbs,by omega⟩
  have h0:0 < k9:=by omega
  have h1:k9≤1024:=by omega
  have pn:∀ d z,pnZ K d (k9:Int) z = pU K d k9 z:=fun d z=>by unfold pnZ;rw [if_neg n0,if_pos (by omega),show ((k9:Nat):Int).natAbs = k9 by omega]
  by_cases ev:k9 % 2 = 0
  ·have e1:nLo K (k9:Int) L H = pU K (-1) k9 (sMl L H):=by unfold nLo;rw [if_neg c,if_neg cL,if_neg ng,if_pos (by omega),pn]
   have e2:nHi K (k9:Int) L H = pU K 1 k9 (sMh L H):=by unfold nHi;rw [if_neg c,if_neg cL,if_neg ng,if_pos (by omega),pn]
   refine pownQ_ K a b L H _ hx c q1 q2 _ _ _ _ w (fun W v h=>pwEP_ K hK k9 h0 h1 ev L H hd c W v h) ?_ ?_
   ·rw [e1];exact pos_lo K k9 h0 _ bM.1 (by omega) (fun h=>by omega)
   ·rw [e2];exact pos_hi K k9 h0 _ bM.2 (by omega)
  ·have od:k9 % 2 = 1:=by omega
   have e1:nLo K (k9:Int) L H = pU K (-1) k9 L:=by unfold nLo;rw [if_neg c,if_neg cL,if_neg ng,if_neg (by omega),pn]
   have e2:nHi K (k9:Int) L H = pU K 1 k9 H:=by unfold nHi;rw [if_neg c,if_neg cL,if_neg ng,if_neg (by omega),pn]
   refine pownQ_ K a b L H _ hx c q1 q2 _ _ _ _ w (fun W v h=>pwOP_ K hK k9 h0 h1 od L H hd c W v h) ?_ ?_
   ·rw [e1];exact pos_lo K k9 h0 _ bL c (fun _=>od)
   ·rw [e2];exact pos_hi K k9 h0 _ bH (by omega)
set_option linter.unusedVariables false
theorem ppowersA_ (X Y N LI HJ:Int) (a b SL SH:Nat) (h1:∀ w:World,Calls Tryz.prog 20 #[.agg #[.int .u64 X,.int .u64 Y]] w fun e w'=>e = .returned (.agg #[.float .f64 a,.float .f64 b])∧Kp w w') (hP:∀ w:World,TU7 w→Calls Tryz.prog 11 #[.agg #[.float .f64 a,.float .f64 b],.int .i64 N] w fun e w'=>e = .returned (.agg #[.float .f64 SL,.float .f64 SH])∧Kp w w') (hO:∀ w:World,Calls Tryz.prog 19 #[.agg #[.float .f64 SL,.float .f64 SH]] w fun e w'=>e = .returned (.agg #[.int .u64 LI,.int .u64 HJ])∧Kp w w') (hR:∀ w:World,Calls Tryz.prog 21 #[.agg #[.int .u64 X,.int .u64 Y],.int .i64 N] w fun e w'=>e = .returned (.agg #[.int .u64 LI,.int .u64 HJ])∧Kp w w') (w:World) (hT:TU7 w):Calls Tryz.prog 4 #[.agg #[.int .u64 X,.int .u64 Y],.int .i64 N] w fun e w'=>e = .returned (.bool true)∧Kp w w':=by
 have kW:Kp w (w.alloc (.cells #[.int .u64 X,.int .u64 Y] 33)):=(Kp.refl w).alloc _
 have qX:=Fq.H2.new w (.int .u64 X) (.int .u64 Y) 33
 have hTW:=hT.kp kW
 go_enter Tryz.func4,Tryz.ntmps4
 go_upto_region 1 with fail
 generalize hW:w.alloc (.cells #[.int .u64 X,.int .u64 Y] 33) = W at kW qX hTW ⊢
 clear hW
 refine Fq.wp_region_grow (by kernel_rfl) (by kernel_rfl) (fun ι _ G hG hall=>?_)
 have tG:∀ n,TU7 (G n):=fun n=>hTW.kp (hG n)
 have cc0:∀ n,(G n).cell? ⟨w.heap.size,0,none⟩ = some (.int .u64 X):=fun n=>Fq.gkeep (hG n) qX.1
 have cc1:∀ n,(G n).cell? ⟨w.heap.size,1,none⟩ = some (.int .u64 Y):=fun n=>Fq.gkeep (hG n) qX.2.1
 repeat (go_big_quiet_step (first | (go_at_call 20;exact (h1 _).mono (fun e w' h=>⟨h.1,hall _ (Fq.gtrans (hG _) h.2)⟩)) | (go_at_call 11;exact (hP _ (tG _)).mono (fun e w' h=>⟨h.1,hall _ (Fq.gtrans (hG _) h.2)⟩)) | (go_at_call 19;exact (hO _).mono (fun e w' h=>⟨h.1,hall _ (Fq.gtrans (hG _) h.2)⟩)) | (go_at_call 21;exact (hR _).mono (fun e w' h=>⟨h.1,hall _ (Fq.gtrans (hG _) h.2)⟩))))
 refine wpQuiet_nil ?_
 rintro _ ⟨nq,rfl⟩
 have gq:Kp w (G nq):=Kp.trans kW (hG nq)
 clear cc0 cc1 hall hG tG
 go_wp2
 exact bodyPost_ret (v:=.bool true) (by simp [results,Tryz.results4,go_sem]) rfl ⟨rfl,gq⟩
theorem ppowers_ (a b:Nat) (N:Int) (ha:a < 18446744073709551616) (hb:b < 18446744073709551616) (w:World) (hT:Tab w) (hQ:Fq.Tab w):Calls Tryz.prog 4 #[.agg #[.int .u64 ((a:Nat):Int),.int .u64 ((b:Nat):Int)],.int .i64 N] w fun e w'=>e = .returned (.bool true)∧Kp w w':=by
 obtain ⟨L,H,hx⟩:=Rd.ex a b ha hb
 exact ppowersA_ (a:Int) (b:Int) N _ _ a b _ _ (in9_ a b) (fun w h=>pown9_ 1074 rfl a b L H N hx w h) (fun w=>out9_ _ _ w) (fun w=>rpown9_ 1074 rfl a b L H N hx w) w ⟨hT,hQ⟩
end Go.Proofs.YtaldmbeomdfafaaGreatDoor
