import Derived.Test.YtngglmnhjjlgkaaGreatDoorKXMS
set_option maxHeartbeats 1000000
set_option maxRecDepth 20000
namespace Go.Proofs.YtngglmnhjjlgkaaGreatDoor
open Go.RowKit
theorem timesR (v1 v2:Value) (a b:Nat) (w:World) (h1:Ls w v1 (dig a)) (h2:Ls w v2 (dig b)) (l1:len32 a≤16384) (l2:len32 b≤16384) :
  Calls Tryz.prog 116 #[v1,v2] w fun e w'=>∃ p c,e = .returned (.slice p (dig (a * b)).length c)∧Arr w' p (dig (a * b))∧(dig (a * b)).length≤c∧Kp w w':=by
 obtain ⟨p,c,rfl,hA,hc⟩:=h1
 obtain ⟨q,d,rfl,hB,hd⟩:=h2
 have h:=rtimes_ p q c d (dig a) (dig b) w hA hB (Wd_dig a) (Wd_dig b) (by change len32 a≤_;omega) (by change len32 b≤_;omega)
 rw [val_dig,val_dig] at h
 refine h.mono ?_
 rintro e w' ⟨v,h1,h2,h3⟩
 obtain ⟨p,c,rfl,h4,h5⟩:=h2.arr
 exact ⟨p,c,h1,h4,h5,h3⟩

def rvI (s:Bool) (a:Nat):Int:=if s then -(a:Int) else a
def cmI (x y:Int):Int:=if x < y then -1 else if y < x then 1 else 0
theorem rcmp6_ s p l c q k d s2 p2 l2 c2 q2 k2 d2 (a b x y:Nat) (B1 B2:Nat) (w:World) (h1:Own w B1 (.slice p l c) (dig a)) (h2:Own w B1 (.slice q k d) (dig b)) (h3:Own w B2 (.slice p2 l2 c2) (dig x)) (h4:Own w B2 (.slice q2 k2 d2) (dig y)) (zb:b≠0) (zy:y≠0) (la:blen a≤200000) (lb:blen b≤200000) (lx:blen x≤200000) (ly:blen y≤200000):Calls Tryz.prog 119 #[.agg #[.bool s,.slice p l c,.slice q k d],.agg #[.bool s2,.slice p2 l2 c2,.slice q2 k2 d2]] w fun e w'=>e = .returned (.int .i64 (cmI (rvI s a * y) (rvI s2 x * b)))∧Kp w w':=by
 have hs1:∀ W:World,Kp w W→Calls Tryz.prog 92 #[.agg #[.bool s,.slice p l c,.slice q k d]] W fun e w'=>e = .returned (.int .i64 (if a = 0 then 0 else if s then -1 else 1))∧Kp W w':=fun W g=>rsign_ s _ _ a W (h1.kp g).ls (by omega)
 have hs2:∀ W:World,Kp w W→Calls Tryz.prog 92 #[.agg #[.bool s2,.slice p2 l2 c2,.slice q2 k2 d2]] W fun e w'=>e = .returned (.int .i64 (if x = 0 then 0 else if s2 then -1 else 1))∧Kp W w':=fun W g=>rsign_ s2 _ _ x W (h3.kp g).ls (by omega)
 have len:∀ z:Nat,blen z≤200000→len32 z≤16384:=fun z hz=>dlen z 16384 (by omega)
 have hT1:∀ W:World,Kp w W→Calls Tryz.prog 116 #[.slice p l c,.slice q2 k2 d2] W fun e w'=>∃ v,e = .returned v∧Ls w' v (dig (a * y))∧Kp W w':=fun W g=>(timesR _ _ a y W (h1.kp g).ls (h4.kp g).ls (len a la) (len y ly)).mono (fun e w' ⟨pp,cc,e1,ar,ll,g2⟩=>⟨_,e1,⟨pp,cc,rfl,ar,ll⟩,g2⟩)
 have hT2:∀ W:World,Kp w W→Calls Tryz.prog 116 #[.slice p2 l2 c2,.slice q k d] W fun e w'=>∃ v,e = .returned v∧Ls w' v (dig (x * b))∧Kp W w':=fun W g=>(timesR _ _ x b W (h3.kp g).ls (h2.kp g).ls (len x lx) (len b lb)).mono (fun e w' ⟨pp,cc,e1,ar,ll,g2⟩=>⟨_,e1,⟨pp,cc,rfl,ar,ll⟩,g2⟩)
 have bl:∀ u v:Nat,blen u≤200000→blen v≤200000→blen (u * v)≤33554432:=fun u v h1 h2=>by
  obtain ⟨T5,hT5⟩:∃ T5:Nat,T5 = 200000:=⟨_,rfl⟩
  have g:blen (u * v)≤T5 + T5:=by
   rw [blen_le_iff,Nat.pow_add]
   exact Nat.mul_lt_mul'' ((blen_le_iff u T5).1 (by omega)) ((blen_le_iff v T5).1 (by omega))
  omega
 have hC:∀ (W:World) (u v:Value),Kp w W→Ls W u (dig (a * y))→Ls W v (dig (x * b))→Calls Tryz.prog 94 #[u,v] W fun e w'=>e = .returned (.int .i64 (cmpN (a * y) (x * b)))∧Kp W w':=fun W u v _ g1 g2=>cmpR u v (a * y) (x * b) W g1 g2 (bl a y la ly) (bl x b lx lb)
 have hk:∀ (W W':World) (v:Value),Kp W W'→Ls W v (dig (a * y))→Ls W' v (dig (a * y)):=fun W W' v g h=>h.kp g
 have py:0 < y:=by omega
 have pb:0 < b:=by omega
 have key:∀ u v:Nat,0 < v→0 < u→0 < u * v:=fun u v h1 h2=>Nat.mul_pos h2 h1
 obtain ⟨A9,hA9⟩:∃ A9,A9 = a * y:=⟨_,rfl⟩
 obtain ⟨X9,hX9⟩:∃ X9,X9 = x * b:=⟨_,rfl⟩
 have eA:rvI s a * (y:Int) = rvI s A9:=by unfold rvI;rw [hA9];cases s <;> simp [Int.neg_mul]
 have eX:rvI s2 x * (b:Int) = rvI s2 X9:=by unfold rvI;rw [hX9];cases s2 <;> simp [Int.neg_mul]
 have zA:a = 0 ↔ A9 = 0:=by rw [hA9];constructor <;> intro h;rw [h];simp;rcases Nat.mul_eq_zero.1 h with h | h;exact h;omega
 have zX:x = 0 ↔ X9 = 0:=by rw [hX9];constructor <;> intro h;rw [h];simp;rcases Nat.mul_eq_zero.1 h with h | h;exact h;omega
 rw [eA,eX]
 rw [← hA9] at hT1 hC hk
 rw [← hX9] at hT2 hC
 simp only [zA] at hs1
 simp only [zX] at hs2
 obtain ⟨S,hS⟩:∃ S:Int,S = if A9 = 0 then 0 else if s then -1 else 1:=⟨_,rfl⟩
 obtain ⟨U,hU⟩:∃ U:Int,U = if X9 = 0 then 0 else if s2 then -1 else 1:=⟨_,rfl⟩
 rw [← hS] at hs1
 rw [← hU] at hs2
 have hcm:cmpN A9 X9 = cmI (A9:Int) X9:=by
  unfold cmpN cmI
  by_cases c1:A9 < X9
  ·rw [if_pos c1,if_pos (show (A9:Int) < X9 by omega)]
  ·rw [if_neg c1,if_neg (show ¬ (A9:Int) < X9 by omega)]
   by_cases c2:X9 < A9
   ·rw [if_pos c2,if_pos (show (X9:Int) < A9 by omega)]
   ·rw [if_neg c2,if_neg (show ¬ (X9:Int) < A9 by omega)]
 clear eA eX zA zX hA9 hX9 h1 h2 h3 h4
 have e1:S < U→cmI (rvI s A9) (rvI s2 X9) = -1:=fun g=>by
  rw [hS,hU] at g
  unfold cmI rvI
  rw [if_pos]
  by_cases c1:A9 = 0 <;> by_cases c2:X9 = 0 <;> cases s <;> cases s2 <;> simp [c1,c2] at g ⊢ <;> omega
 have e2:U < S→cmI (rvI s A9) (rvI s2 X9) = 1:=fun g=>by
  rw [hS,hU] at g
  have:rvI s2 X9 < rvI s A9:=by
   unfold rvI
   by_cases c1:A9 = 0 <;> by_cases c2:X9 = 0 <;> cases s <;> cases s2 <;> simp [c1,c2] at g ⊢ <;> omega
  unfold cmI
  rw [if_neg (by omega),if_pos this]
 rcases Int.lt_trichotomy S U with g | g | g
 ·rw [e1 g]
  exact rcmpL_ S U s p l c q k d s2 p2 l2 c2 q2 k2 d2 w hs1 hs2 g
 ·rw [← g] at hs2
  by_cases z:A9 = 0
  ·have zU:X9 = 0:=by
    rw [hS,hU,if_pos z] at g
    by_cases c2:X9 = 0
    ·exact c2
    ·rw [if_neg c2] at g;cases s2 <;> simp at g
   have e3:cmI (rvI s A9) (rvI s2 X9) = 0:=by rw [z,zU];cases s <;> cases s2 <;> rfl
   rw [e3]
   exact rcmpZ_ S _ _ _ s p l c q k d s2 p2 l2 c2 q2 k2 d2 w hk hs1 hs2 hT1 hT2 hC (by rw [hS,if_pos z];rfl)
  ·have zS:(S == 0) = false:=by rw [hS,if_neg z];cases s <;> rfl
   have ss:s = s2:=by
    rw [hS,hU,if_neg z] at g
    by_cases c2:X9 = 0
    ·rw [if_pos c2] at g;cases s <;> simp at g
    ·rw [if_neg c2] at g;cases s <;> cases s2 <;> simp at g ⊢
   subst ss
   cases s
   ·have e3:cmI (rvI false A9) (rvI false X9) = cmpN A9 X9:=hcm.symm
    rw [e3]
    exact rcmpP_ S _ _ _ p l c q k d false p2 l2 c2 q2 k2 d2 w hk hs1 hs2 hT1 hT2 hC zS
   ·have e3:cmI (rvI true A9) (rvI true X9) = - cmpN A9 X9:=by
     rw [hcm];unfold cmI rvI
     by_cases c1:A9 < X9
     ·rw [if_neg (by simp;omega),if_pos (by simp;omega),if_pos (by omega)];rfl
     ·by_cases c2:X9 < A9
      ·rw [if_pos (by simp;omega),if_neg (by omega),if_pos (by omega)]
      ·rw [if_neg (by simp;omega),if_neg (by simp;omega),if_neg (by omega),if_neg (by omega)];rfl
    have wr:IntKind.i64.wrap (-(cmpN A9 X9)) = -(cmpN A9 X9):=by
     rw [hcm];unfold cmI
     by_cases c1:(A9:Int) < X9
     ·rw [if_pos c1];decide +kernel
     ·rw [if_neg c1]
      by_cases c2:(X9:Int) < A9
      ·rw [if_pos c2];decide +kernel
      ·rw [if_neg c2];decide +kernel
    rw [e3]
    exact rcmpN_ S _ _ _ p l c q k d true p2 l2 c2 q2 k2 d2 w hk hs1 hs2 hT1 hT2 hC zS wr
 ·rw [e2 g]
  exact rcmpG_ S U s p l c q k d s2 p2 l2 c2 q2 k2 d2 w hs1 hs2 g
theorem signI_ (i:Int) s p l c q k d (t1:(i != 0) = true) (w:World):Calls Tryz.prog 66 #[.agg #[.int .i64 i,.bool s,.slice p l c,.slice q k d]] w fun e w'=>e = .returned (.int .i64 i)∧Kp w w':=by
 go_enter Tryz.func66,Tryz.ntmps66
 go_wp2
 exact bodyPost_ret (v:=.int .i64 i) (by simp [results,Tryz.results66,go_sem]) rfl ⟨rfl,(by repeat (with_reducible (first | assumption | exact Kp.refl _ | apply Kp.drew | apply Kp.alloc | apply Kp.drewN | (refine Kp.setCell ?_ (by first | omega | (simp <;> omega)) _) | (refine Kp.trans ?_ (by assumption)))))⟩
theorem signZ_ (X:Int) s p l c q k d (w:World) (hs:∀ W:World,Kp w W→Calls Tryz.prog 92 #[.agg #[.bool s,.slice p l c,.slice q k d]] W fun e w'=>e = .returned (.int .i64 X)∧Kp W w'):Calls Tryz.prog 66 #[.agg #[.int .i64 0,.bool s,.slice p l c,.slice q k d]] w fun e w'=>e = .returned (.int .i64 X)∧Kp w w':=by
 go_enter Tryz.func66,Tryz.ntmps66
 go_wp2_with (first | (go_at_call 92;refine (hs _ ?q0).mono ?_;(case q0=>exact (Kp.refl w).alloc _);rintro e w1 ⟨rfl,g1⟩;have k1:Kp w w1:=Kp.trans ((Kp.refl w).alloc _) g1))
 exact bodyPost_ret (v:=.int .i64 X) (by simp [results,Tryz.results66,go_sem]) rfl ⟨rfl,k1⟩
theorem endL_ (i j:Int) s p l c q k d s2 p2 l2 c2 q2 k2 d2 (t1:(i != j) = true) (t2:i < j) (w:World):Calls Tryz.prog 80 #[.agg #[.int .i64 i,.bool s,.slice p l c,.slice q k d],.agg #[.int .i64 j,.bool s2,.slice p2 l2 c2,.slice q2 k2 d2]] w fun e w'=>e = .returned (.int .i64 (-1))∧Kp w w':=by
 go_enter Tryz.func80,Tryz.ntmps80
 go_wp2
 exact bodyPost_ret (v:=.int .i64 (-1)) (by simp [results,Tryz.results80,go_sem]) rfl ⟨rfl,(by repeat (with_reducible (first | assumption | exact Kp.refl _ | apply Kp.drew | apply Kp.alloc | apply Kp.drewN | (refine Kp.setCell ?_ (by first | omega | (simp <;> omega)) _) | (refine Kp.trans ?_ (by assumption)))))⟩
theorem endG_ (i j:Int) s p l c q k d s2 p2 l2 c2 q2 k2 d2 (t1:(i != j) = true) (t2:¬ (i < j)) (w:World):Calls Tryz.prog 80 #[.agg #[.int .i64 i,.bool s,.slice p l c,.slice q k d],.agg #[.int .i64 j,.bool s2,.slice p2 l2 c2,.slice q2 k2 d2]] w fun e w'=>e = .returned (.int .i64 1)∧Kp w w':=by
 go_enter Tryz.func80,Tryz.ntmps80
 go_wp2
 exact bodyPost_ret (v:=.int .i64 1) (by simp [results,Tryz.results80,go_sem]) rfl ⟨rfl,(by repeat (with_reducible (first | assumption | exact Kp.refl _ | apply Kp.drew | apply Kp.alloc | apply Kp.drewN | (refine Kp.setCell ?_ (by first | omega | (simp <;> omega)) _) | (refine Kp.trans ?_ (by assumption)))))⟩
theorem endE_ (i:Int) s p l c q k d s2 p2 l2 c2 q2 k2 d2 (t1:(i != 0) = true) (w:World):Calls Tryz.prog 80 #[.agg #[.int .i64 i,.bool s,.slice p l c,.slice q k d],.agg #[.int .i64 i,.bool s2,.slice p2 l2 c2,.slice q2 k2 d2]] w fun e w'=>e = .returned (.int .i64 0)∧Kp w w':=by
 go_enter Tryz.func80,Tryz.ntmps80
 go_wp2
 exact bodyPost_ret (v:=.int .i64 0) (by simp [results,Tryz.results80,go_sem]) rfl ⟨rfl,(by repeat (with_reducible (first | assumption | exact Kp.refl _ | apply Kp.drew | apply Kp.alloc | apply Kp.drewN | (refine Kp.setCell ?_ (by first | omega | (simp <;> omega)) _) | (refine Kp.trans ?_ (by assumption)))))⟩
theorem endZ_ (X:Int) s p l c q k d s2 p2 l2 c2 q2 k2 d2 (w:World) (hs:∀ W:World,Kp w W→Calls Tryz.prog 119 #[.agg #[.bool s,.slice p l c,.slice q k d],.agg #[.bool s2,.slice p2 l2 c2,.slice q2 k2 d2]] W fun e w'=>e = .returned (.int .i64 X)∧Kp W w'):Calls Tryz.prog 80 #[.agg #[.int .i64 0,.bool s,.slice p l c,.slice q k d],.agg #[.int .i64 0,.bool s2,.slice p2 l2 c2,.slice q2 k2 d2]] w fun e w'=>e = .returned (.int .i64 X)∧Kp w w':=by
 go_enter Tryz.func80,Tryz.ntmps80
 go_wp2_with (first | (go_at_call 119;refine (hs _ ?q0).mono ?_;(case q0=>exact ((Kp.refl w).alloc _).alloc _);rintro e w1 ⟨rfl,g1⟩;have k1:Kp w w1:=Kp.trans (((Kp.refl w).alloc _).alloc _) g1))
 exact bodyPost_ret (v:=.int .i64 X) (by simp [results,Tryz.results80,go_sem]) rfl ⟨rfl,k1⟩
theorem lesserB_ (i j X:Int) s p l c q k d s2 p2 l2 c2 q2 k2 d2 (t1:X < 0) (w:World) (hs:∀ W:World,Kp w W→Calls Tryz.prog 80 #[.agg #[.int .i64 j,.bool s2,.slice p2 l2 c2,.slice q2 k2 d2],.agg #[.int .i64 i,.bool s,.slice p l c,.slice q k d]] W fun e w'=>e = .returned (.int .i64 X)∧Kp W w'):Calls Tryz.prog 54 #[.agg #[.int .i64 i,.bool s,.slice p l c,.slice q k d],.agg #[.int .i64 j,.bool s2,.slice p2 l2 c2,.slice q2 k2 d2]] w fun e w'=>e = .returned (.agg #[.int .i64 j,.bool s2,.slice p2 l2 c2,.slice q2 k2 d2])∧Kp w w':=by
 go_enter Tryz.func54,Tryz.ntmps54
 go_wp2_with (first | (go_at_call 80;refine (hs _ ?q0).mono ?_;(case q0=>exact (((Kp.refl w).alloc _).alloc _).alloc _);rintro e w1 ⟨rfl,g1⟩;have k1:Kp w w1:=Kp.trans ((((Kp.refl w).alloc _).alloc _).alloc _) g1;have x0:=kkeep g1 (b:=w.heap.size) (o:=0) (v:=.int .i64 i) (by simp [go_sem]);have xz0:w1.frozen? ⟨w.heap.size,0,none⟩ = false:=(kfro g1 (by simp <;> omega)).trans (by simp [go_sem]);have x1:=kkeep g1 (b:=w.heap.size) (o:=1) (v:=.bool s) (by simp [go_sem]);have xz1:w1.frozen? ⟨w.heap.size,1,none⟩ = false:=(kfro g1 (by simp <;> omega)).trans (by simp [go_sem]);have x2:=kkeep g1 (b:=w.heap.size) (o:=2) (v:=.slice p l c) (by simp [go_sem]);have xz2:w1.frozen? ⟨w.heap.size,2,none⟩ = false:=(kfro g1 (by simp <;> omega)).trans (by simp [go_sem]);have x3:=kkeep g1 (b:=w.heap.size) (o:=3) (v:=.slice q k d) (by simp [go_sem]);have xz3:w1.frozen? ⟨w.heap.size,3,none⟩ = false:=(kfro g1 (by simp <;> omega)).trans (by simp [go_sem]);have y0:=kkeep g1 (b:=w.heap.size + 1) (o:=0) (v:=.int .i64 j) (by simp [go_sem]);have yz0:w1.frozen? ⟨w.heap.size + 1,0,none⟩ = false:=(kfro g1 (by simp <;> omega)).trans (by simp [go_sem]);have y1:=kkeep g1 (b:=w.heap.size + 1) (o:=1) (v:=.bool s2) (by simp [go_sem]);have yz1:w1.frozen? ⟨w.heap.size + 1,1,none⟩ = false:=(kfro g1 (by simp <;> omega)).trans (by simp [go_sem]);have y2:=kkeep g1 (b:=w.heap.size + 1) (o:=2) (v:=.slice p2 l2 c2) (by simp [go_sem]);have yz2:w1.frozen? ⟨w.heap.size + 1,2,none⟩ = false:=(kfro g1 (by simp <;> omega)).trans (by simp [go_sem]);have y3:=kkeep g1 (b:=w.heap.size + 1) (o:=3) (v:=.slice q2 k2 d2) (by simp [go_sem]);have yz3:w1.frozen? ⟨w.heap.size + 1,3,none⟩ = false:=(kfro g1 (by simp <;> omega)).trans (by simp [go_sem]);have r0:=kkeep g1 (b:=w.heap.size + 2) (o:=0) (v:=.int .i64 0) (by simp [go_sem]);have rz0:w1.frozen? ⟨w.heap.size + 2,0,none⟩ = false:=(kfro g1 (by simp <;> omega)).trans (by simp [go_sem]);have r1:=kkeep g1 (b:=w.heap.size + 2) (o:=1) (v:=.bool false) (by simp [go_sem]);have rz1:w1.frozen? ⟨w.heap.size + 2,1,none⟩ = false:=(kfro g1 (by simp <;> omega)).trans (by simp [go_sem]);have r2:=kkeep g1 (b:=w.heap.size + 2) (o:=2) (v:=.slice none 0 0) (by simp [go_sem]);have rz2:w1.frozen? ⟨w.heap.size + 2,2,none⟩ = false:=(kfro g1 (by simp <;> omega)).trans (by simp [go_sem]);have r3:=kkeep g1 (b:=w.heap.size + 2) (o:=3) (v:=.slice none 0 0) (by simp [go_sem]);have rz3:w1.frozen? ⟨w.heap.size + 2,3,none⟩ = false:=(kfro g1 (by simp <;> omega)).trans (by simp [go_sem])))
 exact bodyPost_ret (v:=.agg #[.int .i64 j,.bool s2,.slice p2 l2 c2,.slice q2 k2 d2]) (by simp [results,Tryz.results54,go_sem,r0,r1,r2,r3]) rfl ⟨rfl,((((k1).setCell (by simp <;> omega) _).setCell (by simp <;> omega) _).setCell (by simp <;> omega) _).setCell (by simp <;> omega) _⟩
theorem lesserA_ (i j X:Int) s p l c q k d s2 p2 l2 c2 q2 k2 d2 (t1:¬ (X < 0)) (w:World) (hs:∀ W:World,Kp w W→Calls Tryz.prog 80 #[.agg #[.int .i64 j,.bool s2,.slice p2 l2 c2,.slice q2 k2 d2],.agg #[.int .i64 i,.bool s,.slice p l c,.slice q k d]] W fun e w'=>e = .returned (.int .i64 X)∧Kp W w'):Calls Tryz.prog 54 #[.agg #[.int .i64 i,.bool s,.slice p l c,.slice q k d],.agg #[.int .i64 j,.bool s2,.slice p2 l2 c2,.slice q2 k2 d2]] w fun e w'=>e = .returned (.agg #[.int .i64 i,.bool s,.slice p l c,.slice q k d])∧Kp w w':=by
 go_enter Tryz.func54,Tryz.ntmps54
 go_wp2_with (first | (go_at_call 80;refine (hs _ ?q0).mono ?_;(case q0=>exact (((Kp.refl w).alloc _).alloc _).alloc _);rintro e w1 ⟨rfl,g1⟩;have k1:Kp w w1:=Kp.trans ((((Kp.refl w).alloc _).alloc _).alloc _) g1;have x0:=kkeep g1 (b:=w.heap.size) (o:=0) (v:=.int .i64 i) (by simp [go_sem]);have xz0:w1.frozen? ⟨w.heap.size,0,none⟩ = false:=(kfro g1 (by simp <;> omega)).trans (by simp [go_sem]);have x1:=kkeep g1 (b:=w.heap.size) (o:=1) (v:=.bool s) (by simp [go_sem]);have xz1:w1.frozen? ⟨w.heap.size,1,none⟩ = false:=(kfro g1 (by simp <;> omega)).trans (by simp [go_sem]);have x2:=kkeep g1 (b:=w.heap.size) (o:=2) (v:=.slice p l c) (by simp [go_sem]);have xz2:w1.frozen? ⟨w.heap.size,2,none⟩ = false:=(kfro g1 (by simp <;> omega)).trans (by simp [go_sem]);have x3:=kkeep g1 (b:=w.heap.size) (o:=3) (v:=.slice q k d) (by simp [go_sem]);have xz3:w1.frozen? ⟨w.heap.size,3,none⟩ = false:=(kfro g1 (by simp <;> omega)).trans (by simp [go_sem]);have y0:=kkeep g1 (b:=w.heap.size + 1) (o:=0) (v:=.int .i64 j) (by simp [go_sem]);have yz0:w1.frozen? ⟨w.heap.size + 1,0,none⟩ = false:=(kfro g1 (by simp <;> omega)).trans (by simp [go_sem]);have y1:=kkeep g1 (b:=w.heap.size + 1) (o:=1) (v:=.bool s2) (by simp [go_sem]);have yz1:w1.frozen? ⟨w.heap.size + 1,1,none⟩ = false:=(kfro g1 (by simp <;> omega)).trans (by simp [go_sem]);have y2:=kkeep g1 (b:=w.heap.size + 1) (o:=2) (v:=.slice p2 l2 c2) (by simp [go_sem]);have yz2:w1.frozen? ⟨w.heap.size + 1,2,none⟩ = false:=(kfro g1 (by simp <;> omega)).trans (by simp [go_sem]);have y3:=kkeep g1 (b:=w.heap.size + 1) (o:=3) (v:=.slice q2 k2 d2) (by simp [go_sem]);have yz3:w1.frozen? ⟨w.heap.size + 1,3,none⟩ = false:=(kfro g1 (by simp <;> omega)).trans (by simp [go_sem]);have r0:=kkeep g1 (b:=w.heap.size + 2) (o:=0) (v:=.int .i64 0) (by simp [go_sem]);have rz0:w1.frozen? ⟨w.heap.size + 2,0,none⟩ = false:=(kfro g1 (by simp <;> omega)).trans (by simp [go_sem]);have r1:=kkeep g1 (b:=w.heap.size + 2) (o:=1) (v:=.bool false) (by simp [go_sem]);have rz1:w1.frozen? ⟨w.heap.size + 2,1,none⟩ = false:=(kfro g1 (by simp <;> omega)).trans (by simp [go_sem]);have r2:=kkeep g1 (b:=w.heap.size + 2) (o:=2) (v:=.slice none 0 0) (by simp [go_sem]);have rz2:w1.frozen? ⟨w.heap.size + 2,2,none⟩ = false:=(kfro g1 (by simp <;> omega)).trans (by simp [go_sem]);have r3:=kkeep g1 (b:=w.heap.size + 2) (o:=3) (v:=.slice none 0 0) (by simp [go_sem]);have rz3:w1.frozen? ⟨w.heap.size + 2,3,none⟩ = false:=(kfro g1 (by simp <;> omega)).trans (by simp [go_sem])))
 exact bodyPost_ret (v:=.agg #[.int .i64 i,.bool s,.slice p l c,.slice q k d]) (by simp [results,Tryz.results54,go_sem,r0,r1,r2,r3]) rfl ⟨rfl,((((k1).setCell (by simp <;> omega) _).setCell (by simp <;> omega) _).setCell (by simp <;> omega) _).setCell (by simp <;> omega) _⟩
theorem greaterB_ (i j X:Int) s p l c q k d s2 p2 l2 c2 q2 k2 d2 (t1:0 < X) (w:World) (hs:∀ W:World,Kp w W→Calls Tryz.prog 80 #[.agg #[.int .i64 j,.bool s2,.slice p2 l2 c2,.slice q2 k2 d2],.agg #[.int .i64 i,.bool s,.slice p l c,.slice q k d]] W fun e w'=>e = .returned (.int .i64 X)∧Kp W w'):Calls Tryz.prog 55 #[.agg #[.int .i64 i,.bool s,.slice p l c,.slice q k d],.agg #[.int .i64 j,.bool s2,.slice p2 l2 c2,.slice q2 k2 d2]] w fun e w'=>e = .returned (.agg #[.int .i64 j,.bool s2,.slice p2 l2 c2,.slice q2 k2 d2])∧Kp w w':=by
 go_enter Tryz.func55,Tryz.ntmps55
 go_wp2_with (first | (go_at_call 80;refine (hs _ ?q0).mono ?_;(case q0=>exact (((Kp.refl w).alloc _).alloc _).alloc _);rintro e w1 ⟨rfl,g1⟩;have k1:Kp w w1:=Kp.trans ((((Kp.refl w).alloc _).alloc _).alloc _) g1;have x0:=kkeep g1 (b:=w.heap.size) (o:=0) (v:=.int .i64 i) (by simp [go_sem]);have xz0:w1.frozen? ⟨w.heap.size,0,none⟩ = false:=(kfro g1 (by simp <;> omega)).trans (by simp [go_sem]);have x1:=kkeep g1 (b:=w.heap.size) (o:=1) (v:=.bool s) (by simp [go_sem]);have xz1:w1.frozen? ⟨w.heap.size,1,none⟩ = false:=(kfro g1 (by simp <;> omega)).trans (by simp [go_sem]);have x2:=kkeep g1 (b:=w.heap.size) (o:=2) (v:=.slice p l c) (by simp [go_sem]);have xz2:w1.frozen? ⟨w.heap.size,2,none⟩ = false:=(kfro g1 (by simp <;> omega)).trans (by simp [go_sem]);have x3:=kkeep g1 (b:=w.heap.size) (o:=3) (v:=.slice q k d) (by simp [go_sem]);have xz3:w1.frozen? ⟨w.heap.size,3,none⟩ = false:=(kfro g1 (by simp <;> omega)).trans (by simp [go_sem]);have y0:=kkeep g1 (b:=w.heap.size + 1) (o:=0) (v:=.int .i64 j) (by simp [go_sem]);have yz0:w1.frozen? ⟨w.heap.size + 1,0,none⟩ = false:=(kfro g1 (by simp <;> omega)).trans (by simp [go_sem]);have y1:=kkeep g1 (b:=w.heap.size + 1) (o:=1) (v:=.bool s2) (by simp [go_sem]);have yz1:w1.frozen? ⟨w.heap.size + 1,1,none⟩ = false:=(kfro g1 (by simp <;> omega)).trans (by simp [go_sem]);have y2:=kkeep g1 (b:=w.heap.size + 1) (o:=2) (v:=.slice p2 l2 c2) (by simp [go_sem]);have yz2:w1.frozen? ⟨w.heap.size + 1,2,none⟩ = false:=(kfro g1 (by simp <;> omega)).trans (by simp [go_sem]);have y3:=kkeep g1 (b:=w.heap.size + 1) (o:=3) (v:=.slice q2 k2 d2) (by simp [go_sem]);have yz3:w1.frozen? ⟨w.heap.size + 1,3,none⟩ = false:=(kfro g1 (by simp <;> omega)).trans (by simp [go_sem]);have r0:=kkeep g1 (b:=w.heap.size + 2) (o:=0) (v:=.int .i64 0) (by simp [go_sem]);have rz0:w1.frozen? ⟨w.heap.size + 2,0,none⟩ = false:=(kfro g1 (by simp <;> omega)).trans (by simp [go_sem]);have r1:=kkeep g1 (b:=w.heap.size + 2) (o:=1) (v:=.bool false) (by simp [go_sem]);have rz1:w1.frozen? ⟨w.heap.size + 2,1,none⟩ = false:=(kfro g1 (by simp <;> omega)).trans (by simp [go_sem]);have r2:=kkeep g1 (b:=w.heap.size + 2) (o:=2) (v:=.slice none 0 0) (by simp [go_sem]);have rz2:w1.frozen? ⟨w.heap.size + 2,2,none⟩ = false:=(kfro g1 (by simp <;> omega)).trans (by simp [go_sem]);have r3:=kkeep g1 (b:=w.heap.size + 2) (o:=3) (v:=.slice none 0 0) (by simp [go_sem]);have rz3:w1.frozen? ⟨w.heap.size + 2,3,none⟩ = false:=(kfro g1 (by simp <;> omega)).trans (by simp [go_sem])))
 exact bodyPost_ret (v:=.agg #[.int .i64 j,.bool s2,.slice p2 l2 c2,.slice q2 k2 d2]) (by simp [results,Tryz.results55,go_sem,r0,r1,r2,r3]) rfl ⟨rfl,((((k1).setCell (by simp <;> omega) _).setCell (by simp <;> omega) _).setCell (by simp <;> omega) _).setCell (by simp <;> omega) _⟩
theorem greaterA_ (i j X:Int) s p l c q k d s2 p2 l2 c2 q2 k2 d2 (t1:¬ (0 < X)) (w:World) (hs:∀ W:World,Kp w W→Calls Tryz.prog 80 #[.agg #[.int .i64 j,.bool s2,.slice p2 l2 c2,.slice q2 k2 d2],.agg #[.int .i64 i,.bool s,.slice p l c,.slice q k d]] W fun e w'=>e = .returned (.int .i64 X)∧Kp W w'):Calls Tryz.prog 55 #[.agg #[.int .i64 i,.bool s,.slice p l c,.slice q k d],.agg #[.int .i64 j,.bool s2,.slice p2 l2 c2,.slice q2 k2 d2]] w fun e w'=>e = .returned (.agg #[.int .i64 i,.bool s,.slice p l c,.slice q k d])∧Kp w w':=by
 go_enter Tryz.func55,Tryz.ntmps55
 go_wp2_with (first | (go_at_call 80;refine (hs _ ?q0).mono ?_;(case q0=>exact (((Kp.refl w).alloc _).alloc _).alloc _);rintro e w1 ⟨rfl,g1⟩;have k1:Kp w w1:=Kp.trans ((((Kp.refl w).alloc _).alloc _).alloc _) g1;have x0:=kkeep g1 (b:=w.heap.size) (o:=0) (v:=.int .i64 i) (by simp [go_sem]);have xz0:w1.frozen? ⟨w.heap.size,0,none⟩ = false:=(kfro g1 (by simp <;> omega)).trans (by simp [go_sem]);have x1:=kkeep g1 (b:=w.heap.size) (o:=1) (v:=.bool s) (by simp [go_sem]);have xz1:w1.frozen? ⟨w.heap.size,1,none⟩ = false:=(kfro g1 (by simp <;> omega)).trans (by simp [go_sem]);have x2:=kkeep g1 (b:=w.heap.size) (o:=2) (v:=.slice p l c) (by simp [go_sem]);have xz2:w1.frozen? ⟨w.heap.size,2,none⟩ = false:=(kfro g1 (by simp <;> omega)).trans (by simp [go_sem]);have x3:=kkeep g1 (b:=w.heap.size) (o:=3) (v:=.slice q k d) (by simp [go_sem]);have xz3:w1.frozen? ⟨w.heap.size,3,none⟩ = false:=(kfro g1 (by simp <;> omega)).trans (by simp [go_sem]);have y0:=kkeep g1 (b:=w.heap.size + 1) (o:=0) (v:=.int .i64 j) (by simp [go_sem]);have yz0:w1.frozen? ⟨w.heap.size + 1,0,none⟩ = false:=(kfro g1 (by simp <;> omega)).trans (by simp [go_sem]);have y1:=kkeep g1 (b:=w.heap.size + 1) (o:=1) (v:=.bool s2) (by simp [go_sem]);have yz1:w1.frozen? ⟨w.heap.size + 1,1,none⟩ = false:=(kfro g1 (by simp <;> omega)).trans (by simp [go_sem]);have y2:=kkeep g1 (b:=w.heap.size + 1) (o:=2) (v:=.slice p2 l2 c2) (by simp [go_sem]);have yz2:w1.frozen? ⟨w.heap.size + 1,2,none⟩ = false:=(kfro g1 (by simp <;> omega)).trans (by simp [go_sem]);have y3:=kkeep g1 (b:=w.heap.size + 1) (o:=3) (v:=.slice q2 k2 d2) (by simp [go_sem]);have yz3:w1.frozen? ⟨w.heap.size + 1,3,none⟩ = false:=(kfro g1 (by simp <;> omega)).trans (by simp [go_sem]);have r0:=kkeep g1 (b:=w.heap.size + 2) (o:=0) (v:=.int .i64 0) (by simp [go_sem]);have rz0:w1.frozen? ⟨w.heap.size + 2,0,none⟩ = false:=(kfro g1 (by simp <;> omega)).trans (by simp [go_sem]);have r1:=kkeep g1 (b:=w.heap.size + 2) (o:=1) (v:=.bool false) (by simp [go_sem]);have rz1:w1.frozen? ⟨w.heap.size + 2,1,none⟩ = false:=(kfro g1 (by simp <;> omega)).trans (by simp [go_sem]);have r2:=kkeep g1 (b:=w.heap.size + 2) (o:=2) (v:=.slice none 0 0) (by simp [go_sem]);have rz2:w1.frozen? ⟨w.heap.size + 2,2,none⟩ = false:=(kfro g1 (by simp <;> omega)).trans (by simp [go_sem]);have r3:=kkeep g1 (b:=w.heap.size + 2) (o:=3) (v:=.slice none 0 0) (by simp [go_sem]);have rz3:w1.frozen? ⟨w.heap.size + 2,3,none⟩ = false:=(kfro g1 (by simp <;> omega)).trans (by simp [go_sem])))
 exact bodyPost_ret (v:=.agg #[.int .i64 i,.bool s,.slice p l c,.slice q k d]) (by simp [results,Tryz.results55,go_sem,r0,r1,r2,r3]) rfl ⟨rfl,((((k1).setCell (by simp <;> omega) _).setCell (by simp <;> omega) _).setCell (by simp <;> omega) _).setCell (by simp <;> omega) _⟩
end Go.Proofs.YtngglmnhjjlgkaaGreatDoor
