import Derived.Test.YtcepchaakfiojaaKEC4
import Derived.Test.YtcepchaakfiojaaKMEs
import Derived.Test.YtcepchaakfiojaaKRT
set_option maxHeartbeats 1000000
set_option maxRecDepth 20000
namespace Go.Proofs.Ytcepchaakfiojaa
open Go.RowKit

theorem RF.iv {s:Bool} {a b:Nat} {n:Bool} {m:Nat} (h:RF s a b n m) (K:Nat) (hK:K = 1074):rvI s a * ((2 ^ K:Nat):Int) = Iv n m * (b:Int):=by
  obtain ⟨h0,h1,h2,-,-⟩:=h K hK
  rw [h2]
  have h3:((a * 2 ^ K:Nat):Int) = ((Fq.vV Ieee.double m * b:Nat):Int):=by rw [h1]
  unfold rvI
  rw [Int.natCast_mul,Int.natCast_mul] at h3
  cases s
  · simpa using h3
  · simp only [if_true,Int.neg_mul];rw [h3]
theorem cmI_scale (x y k:Int) (hk:0 < k):cmI (x * k) (y * k) = cmI x y:=by
  unfold cmI
  have e1:x * k < y * k ↔ x < y:=⟨fun h=>Int.lt_of_mul_lt_mul_right h (Int.le_of_lt hk),fun h=>Int.mul_lt_mul_of_pos_right h hk⟩
  have e2:y * k < x * k ↔ y < x:=⟨fun h=>Int.lt_of_mul_lt_mul_right h (Int.le_of_lt hk),fun h=>Int.mul_lt_mul_of_pos_right h hk⟩
  simp only [e1,e2]
theorem rcmpP8_ (B1 B2:Nat) (n n':Bool) (m m':Nat) s p l c q k d s2 p2 l2 c2 q2 k2 d2 (w:World) (h1:RP B1 w s p l c q k d n m) (h2:RP B2 w s2 p2 l2 c2 q2 k2 d2 n' m'):Calls Try.prog 31 #[.agg #[.bool s,.slice p l c,.slice q k d],.agg #[.bool s2,.slice p2 l2 c2,.slice q2 k2 d2]] w fun e w'=>e = .returned (.int .i64 (cmI (Iv n m) (Iv n' m')))∧Kp w w':=by
  obtain ⟨a,b,o1,o2,f1⟩:=h1
  obtain ⟨x,y,o3,o4,f2⟩:=h2
  obtain ⟨K,hK⟩:∃ K:Nat,K = 1074:=⟨_,rfl⟩
  have i1:=f1.iv K hK
  have i2:=f2.iv K hK
  obtain ⟨zb,-,-,j1,j2⟩:=f1 K hK
  obtain ⟨zy,-,-,j3,j4⟩:=f2 K hK
  have h:=rcmp6_ s p l c q k d s2 p2 l2 c2 q2 k2 d2 a b x y B1 B2 w o1 o2 o3 o4 zb zy (by omega) (by omega) (by omega) (by omega)
  have e:cmI (rvI s a * (y:Int)) (rvI s2 x * (b:Int)) = cmI (Iv n m) (Iv n' m'):=by
    have pk:(0:Int) < ((2 ^ K:Nat):Int):=by have:=Nat.two_pow_pos K;omega
    have pb:(0:Int) < (b:Int) * (y:Int):=Int.mul_pos (by omega) (by omega)
    rw [← cmI_scale _ _ _ pk,← cmI_scale (Iv n m) (Iv n' m') _ pb]
    rw [Int.mul_right_comm,i1,Int.mul_right_comm (rvI s2 x),i2,Int.mul_assoc,Int.mul_assoc,Int.mul_comm (y:Int) (b:Int)]
  rw [e] at h
  exact h
theorem cmI_iv (n n':Bool) (m m':Nat):cmI (Iv n m) (Iv n' m') = cmI (Fq.plz n m) (Fq.plz n' m'):=by
  unfold cmI
  simp only [iv_lt8]
theorem cmI_le0 (x y:Int):cmI x y≤0 ↔ x≤y:=by
  unfold cmI
  by_cases c1:x < y
  · rw [if_pos c1];omega
  · rw [if_neg c1]
    by_cases c2:y < x
    · rw [if_pos c2];omega
    · rw [if_neg c2];omega
theorem cmI_lt (x y:Int) (h:x < y):cmI x y = -1:=by unfold cmI;rw [if_pos h]
theorem cmI_gt (x y:Int) (h:y < x):cmI x y = 1:=by unfold cmI;rw [if_neg (by omega),if_pos h]
theorem cmI_eq (x:Int):cmI x x = 0:=by unfold cmI;rw [if_neg (by omega),if_neg (by omega)]
theorem cmpE_ (B1 B2:Nat) (n n':Bool) (m m':Nat) (hm:m≤9218868437227405312) (hm':m'≤9218868437227405312) s p l c q k d s2 p2 l2 c2 q2 k2 d2 (w:World) (h1:RP B1 w s p l c q k d (fN n m) (fM m)) (h2:RP B2 w s2 p2 l2 c2 q2 k2 d2 (fN n' m') (fM m')):Calls Try.prog 19 #[.agg #[.int .i64 (infS n m),.bool s,.slice p l c,.slice q k d],.agg #[.int .i64 (infS n' m'),.bool s2,.slice p2 l2 c2,.slice q2 k2 d2]] w fun e w'=>e = .returned (.int .i64 (cmI (Fq.plz n m) (Fq.plz n' m')))∧Kp w w':=by
  have P1:Fq.plz n m = if n then -(m:Int) else m:=by unfold Fq.plz;cases n <;> rfl
  have P2:Fq.plz n' m' = if n' then -(m':Int) else m':=by unfold Fq.plz;cases n' <;> rfl
  by_cases z1:m = 9218868437227405312
  · by_cases z2:m' = 9218868437227405312
    · subst z1 z2
      have e1:infS n 9218868437227405312 = if n then -1 else 1:=by unfold infS;rw [if_pos rfl]
      have e2:infS n' 9218868437227405312 = if n' then -1 else 1:=by unfold infS;rw [if_pos rfl]
      rw [e1,e2]
      cases n <;> cases n'
      · rw [cmI_eq];exact endE_ 1 s p l c q k d s2 p2 l2 c2 q2 k2 d2 (by decide) w
      · rw [cmI_gt _ _ (by rw [P1,P2];decide)];exact endG_ 1 (-1) s p l c q k d s2 p2 l2 c2 q2 k2 d2 (by decide) (by decide) w
      · rw [cmI_lt _ _ (by rw [P1,P2];decide)];exact endL_ (-1) 1 s p l c q k d s2 p2 l2 c2 q2 k2 d2 (by decide) (by decide) w
      · rw [cmI_eq];exact endE_ (-1) s p l c q k d s2 p2 l2 c2 q2 k2 d2 (by decide) w
    · have e1:infS n m = if n then -1 else 1:=by unfold infS;rw [if_pos z1]
      have e2:infS n' m' = 0:=by unfold infS;rw [if_neg z2]
      rw [e1,e2]
      cases n
      · rw [cmI_gt _ _ (by rw [P1,P2];cases n' <;> simp <;> omega)];exact endG_ 1 0 s p l c q k d s2 p2 l2 c2 q2 k2 d2 (by decide) (by decide) w
      · rw [cmI_lt _ _ (by rw [P1,P2];cases n' <;> simp <;> omega)];exact endL_ (-1) 0 s p l c q k d s2 p2 l2 c2 q2 k2 d2 (by decide) (by decide) w
  · have e1:infS n m = 0:=by unfold infS;rw [if_neg z1]
    by_cases z2:m' = 9218868437227405312
    · have e2:infS n' m' = if n' then -1 else 1:=by unfold infS;rw [if_pos z2]
      rw [e1,e2]
      cases n'
      · rw [cmI_lt _ _ (by rw [P1,P2];cases n <;> simp <;> omega)];exact endL_ 0 1 s p l c q k d s2 p2 l2 c2 q2 k2 d2 (by decide) (by decide) w
      · rw [cmI_gt _ _ (by rw [P1,P2];cases n <;> simp <;> omega)];exact endG_ 0 (-1) s p l c q k d s2 p2 l2 c2 q2 k2 d2 (by decide) (by decide) w
    · have e2:infS n' m' = 0:=by unfold infS;rw [if_neg z2]
      have f1:fN n m = n∧fM m = m:=by unfold fN fM;rw [if_neg z1,if_neg z1];exact ⟨rfl,rfl⟩
      have f2:fN n' m' = n'∧fM m' = m':=by unfold fN fM;rw [if_neg z2,if_neg z2];exact ⟨rfl,rfl⟩
      rw [f1.1,f1.2] at h1
      rw [f2.1,f2.2] at h2
      rw [e1,e2,← cmI_iv]
      exact endZ_ _ s p l c q k d s2 p2 l2 c2 q2 k2 d2 w (fun W g=>rcmpP8_ B1 B2 n n' m m' s p l c q k d s2 p2 l2 c2 q2 k2 d2 W (h1.kp g) (h2.kp g))

def QP (base:Nat) (w:World) (s:Bool) (p:Option Addr) (l c:Nat) (q:Option Addr) (k d:Nat) (Z:Int→Nat):Prop:=∃ a b,Own w base (.slice p l c) (dig a)∧Own w base (.slice q k d) (dig b)∧b≠0∧blen a≤4194304∧blen b≤4194304∧∀ dd:Int,refW 53 1074 2098 9218868437227405311 0 dd s a b = Z dd
theorem QP.kp {base:Nat} {w w':World} {s:Bool} {p:Option Addr} {l c:Nat} {q:Option Addr} {k d:Nat} {Z:Int→Nat} (h:QP base w s p l c q k d Z) (g:Kp w w'):QP base w' s p l c q k d Z:=by
  obtain ⟨a,b,h1,h2,h3⟩:=h
  exact ⟨a,b,h1.kp g,h2.kp g,h3⟩
theorem QP.mono {base base':Nat} {w:World} {s:Bool} {p:Option Addr} {l c:Nat} {q:Option Addr} {k d:Nat} {Z:Int→Nat} (h:QP base w s p l c q k d Z) (g:base'≤base):QP base' w s p l c q k d Z:=by
  obtain ⟨a,b,h1,h2,h3⟩:=h
  exact ⟨a,b,h1.mono g,h2.mono g,h3⟩
theorem QP.set {base:Nat} {w:World} {s:Bool} {p:Option Addr} {l c:Nat} {q:Option Addr} {k d:Nat} {Z:Int→Nat} (h:QP base w s p l c q k d Z) {x:Addr} (hx:x.block < base) (u:Value):QP base (w.setCell x u) s p l c q k d Z:=by
  obtain ⟨a,b,h1,h2,h3⟩:=h
  exact ⟨a,b,h1.setOther hx u,h2.setOther hx u,h3⟩
theorem QP.congr {base:Nat} {w:World} {s:Bool} {p:Option Addr} {l c:Nat} {q:Option Addr} {k d:Nat} {Z Y:Int→Nat} (h:QP base w s p l c q k d Z) (e:Z = Y):QP base w s p l c q k d Y:=e ▸ h
theorem RP.qp {base:Nat} {w:World} {s:Bool} {p:Option Addr} {l c:Nat} {q:Option Addr} {k d:Nat} {n:Bool} {m:Nat} (h:RP base w s p l c q k d n m):QP base w s p l c q k d (fun dd=>sumW dd (Iv n m)):=by
  obtain ⟨a,b,h1,h2,h3⟩:=h
  obtain ⟨K,hK⟩:∃ K:Nat,K = 1074:=⟨_,rfl⟩
  obtain ⟨f1,f2,f3,f4,f5⟩:=h3 K hK
  refine ⟨a,b,h1,h2,f1,by omega,by omega,fun dd=>?_⟩
  refine ratio_sum dd (Iv n m) a b a b K s hK f1 ⟨f1,Iff.rfl,fun d' p' t' _=>by rw [Int.add_zero],by omega,by omega⟩ ?_ s (fun _=>rfl) ?_
  · rw [f2]
    congr 1
    unfold Iv;cases n <;> simp
  · intro hne
    rw [f3] at hne ⊢
    cases s <;> simp at hne ⊢ <;> omega

theorem qbits_ s p l c q k d (Z:Int→Nat) (dd:Int) (B1:Nat) (w:World) (h:QP B1 w s p l c q k d Z):Calls Try.prog 49 #[.int .i64 dd,.agg #[.bool s,.slice p l c,.slice q k d]] w fun e w'=>e = .returned (.int .u64 ((Z dd:Nat):Int))∧Kp w w':=by
  obtain ⟨a,b,u1,u2,u3,u4,u5,u6⟩:=h
  have h:=rbits_ dd s (.slice p l c) (.slice q k d) a b w u1.ls u2.ls u3 u4 u5
  rw [u6 dd] at h
  exact h
theorem leastNN_ (i:Int) (t1:(i == 0) = false) (j:Int) (t2:(j == 0) = false) s p l c q k d s2 p2 l2 c2 q2 k2 d2 (w:World):Calls Try.prog 34 #[.agg #[.bool false,.int .i64 i,.bool s,.slice p l c,.slice q k d,.int .i64 j,.bool s2,.slice p2 l2 c2,.slice q2 k2 d2]] w fun e w'=>e = .returned (.agg #[.int .u64 18442240474082181120,.int .u64 9218868437227405312])∧Kp w w':=by
  go_enter Try.func34,Try.ntmps34
  go_wp2_with (first | (go_at_call 48;refine (Fq.rentire_ _).mono ?_;rintro e w' ⟨rfl,rfl⟩))
  exact bodyPost_ret (v:=.agg #[.int .u64 18442240474082181120,.int .u64 9218868437227405312]) (by simp [results,Try.results34,go_sem]) rfl ⟨rfl,(by repeat (with_reducible (first | assumption | exact Kp.refl _ | apply Kp.drew | apply Kp.alloc | apply Kp.drewN | (refine Kp.setCell ?_ (by first | omega | (simp <;> omega)) _) | (refine Kp.trans ?_ (by assumption)))))⟩
theorem leastFN_ (ZA:Int) (j:Int) (t2:(j == 0) = false) s p l c q k d s2 p2 l2 c2 q2 k2 d2 (w:World) (hb1:∀ W:World,Kp w W→Calls Try.prog 49 #[.int .i64 (-1),.agg #[.bool s,.slice p l c,.slice q k d]] W fun e w'=>e = .returned (.int .u64 ZA)∧Kp W w'):Calls Try.prog 34 #[.agg #[.bool false,.int .i64 0,.bool s,.slice p l c,.slice q k d,.int .i64 j,.bool s2,.slice p2 l2 c2,.slice q2 k2 d2]] w fun e w'=>e = .returned (.agg #[.int .u64 ZA,.int .u64 9218868437227405312])∧Kp w w':=by
  go_enter Try.func34,Try.ntmps34
  go_wp2_with (first | (go_at_call 48;refine (Fq.rentire_ _).mono ?_;rintro e w' ⟨rfl,rfl⟩) | (go_at_call_of 49 (Value.slice p l c);refine (hb1 _ ?q0).mono ?_;(case q0=>exact ((((Kp.refl w).alloc _).alloc _).alloc _).alloc _);rintro e wa ⟨rfl,ga⟩;have ka:Kp w wa:=Kp.trans (((((Kp.refl w).alloc _).alloc _).alloc _).alloc _) ga;have x0:=kkeep ga (b:=w.heap.size) (o:=0) (v:=.bool false) (by simp [go_sem]);have xz0:wa.frozen? ⟨w.heap.size,0,none⟩ = false:=(kfro ga (by simp <;> omega)).trans (by simp [go_sem]);have x1:=kkeep ga (b:=w.heap.size) (o:=1) (v:=.int .i64 0) (by simp [go_sem]);have xz1:wa.frozen? ⟨w.heap.size,1,none⟩ = false:=(kfro ga (by simp <;> omega)).trans (by simp [go_sem]);have x2:=kkeep ga (b:=w.heap.size) (o:=2) (v:=.bool s) (by simp [go_sem]);have xz2:wa.frozen? ⟨w.heap.size,2,none⟩ = false:=(kfro ga (by simp <;> omega)).trans (by simp [go_sem]);have x3:=kkeep ga (b:=w.heap.size) (o:=3) (v:=.slice p l c) (by simp [go_sem]);have xz3:wa.frozen? ⟨w.heap.size,3,none⟩ = false:=(kfro ga (by simp <;> omega)).trans (by simp [go_sem]);have x4:=kkeep ga (b:=w.heap.size) (o:=4) (v:=.slice q k d) (by simp [go_sem]);have xz4:wa.frozen? ⟨w.heap.size,4,none⟩ = false:=(kfro ga (by simp <;> omega)).trans (by simp [go_sem]);have x5:=kkeep ga (b:=w.heap.size) (o:=5) (v:=.int .i64 j) (by simp [go_sem]);have xz5:wa.frozen? ⟨w.heap.size,5,none⟩ = false:=(kfro ga (by simp <;> omega)).trans (by simp [go_sem]);have x6:=kkeep ga (b:=w.heap.size) (o:=6) (v:=.bool s2) (by simp [go_sem]);have xz6:wa.frozen? ⟨w.heap.size,6,none⟩ = false:=(kfro ga (by simp <;> omega)).trans (by simp [go_sem]);have x7:=kkeep ga (b:=w.heap.size) (o:=7) (v:=.slice p2 l2 c2) (by simp [go_sem]);have xz7:wa.frozen? ⟨w.heap.size,7,none⟩ = false:=(kfro ga (by simp <;> omega)).trans (by simp [go_sem]);have x8:=kkeep ga (b:=w.heap.size) (o:=8) (v:=.slice q2 k2 d2) (by simp [go_sem]);have xz8:wa.frozen? ⟨w.heap.size,8,none⟩ = false:=(kfro ga (by simp <;> omega)).trans (by simp [go_sem]);have v0:=kkeep ga (b:=w.heap.size + 3) (o:=0) (v:=.int .u64 18442240474082181120) (by simp [go_sem]);have vz0:wa.frozen? ⟨w.heap.size + 3,0,none⟩ = false:=(kfro ga (by simp <;> omega)).trans (by simp [go_sem]);have v1:=kkeep ga (b:=w.heap.size + 3) (o:=1) (v:=.int .u64 9218868437227405312) (by simp [go_sem]);have vz1:wa.frozen? ⟨w.heap.size + 3,1,none⟩ = false:=(kfro ga (by simp <;> omega)).trans (by simp [go_sem]);have r0:=kkeep ga (b:=w.heap.size + 1) (o:=0) (v:=.int .u64 0) (by simp [go_sem]);have rz0:wa.frozen? ⟨w.heap.size + 1,0,none⟩ = false:=(kfro ga (by simp <;> omega)).trans (by simp [go_sem]);have r1:=kkeep ga (b:=w.heap.size + 1) (o:=1) (v:=.int .u64 0) (by simp [go_sem]);have rz1:wa.frozen? ⟨w.heap.size + 1,1,none⟩ = false:=(kfro ga (by simp <;> omega)).trans (by simp [go_sem])))
  exact bodyPost_ret (v:=.agg #[.int .u64 ZA,.int .u64 9218868437227405312]) (by simp [results,Try.results34,go_sem,r0,r1]) rfl ⟨rfl,(by repeat (with_reducible (first | assumption | exact Kp.refl _ | apply Kp.drew | apply Kp.alloc | apply Kp.drewN | (refine Kp.setCell ?_ (by first | omega | (simp <;> omega)) _) | (refine Kp.trans ?_ (by assumption)))))⟩
theorem leastNF_ (i:Int) (t1:(i == 0) = false) (ZB:Int) s p l c q k d s2 p2 l2 c2 q2 k2 d2 (w:World) (hb2:∀ W:World,Kp w W→Calls Try.prog 49 #[.int .i64 1,.agg #[.bool s2,.slice p2 l2 c2,.slice q2 k2 d2]] W fun e w'=>e = .returned (.int .u64 ZB)∧Kp W w'):Calls Try.prog 34 #[.agg #[.bool false,.int .i64 i,.bool s,.slice p l c,.slice q k d,.int .i64 0,.bool s2,.slice p2 l2 c2,.slice q2 k2 d2]] w fun e w'=>e = .returned (.agg #[.int .u64 18442240474082181120,.int .u64 ZB])∧Kp w w':=by
  go_enter Try.func34,Try.ntmps34
  go_wp2_with (first | (go_at_call 48;refine (Fq.rentire_ _).mono ?_;rintro e w' ⟨rfl,rfl⟩) | (go_at_call_of 49 (Value.slice p2 l2 c2);refine (hb2 _ ?q0).mono ?_;(case q0=>exact ((((Kp.refl w).alloc _).alloc _).alloc _).alloc _);rintro e wb ⟨rfl,gb⟩;have kb:Kp w wb:=Kp.trans (((((Kp.refl w).alloc _).alloc _).alloc _).alloc _) gb;have u0:=kkeep gb (b:=w.heap.size + 3) (o:=0) (v:=.int .u64 18442240474082181120) (by simp [go_sem]);have uz0:wb.frozen? ⟨w.heap.size + 3,0,none⟩ = false:=(kfro gb (by simp <;> omega)).trans (by simp [go_sem]);have u1:=kkeep gb (b:=w.heap.size + 3) (o:=1) (v:=.int .u64 9218868437227405312) (by simp [go_sem]);have uz1:wb.frozen? ⟨w.heap.size + 3,1,none⟩ = false:=(kfro gb (by simp <;> omega)).trans (by simp [go_sem]);have y0:=kkeep gb (b:=w.heap.size + 1) (o:=0) (v:=.int .u64 0) (by simp [go_sem]);have yz0:wb.frozen? ⟨w.heap.size + 1,0,none⟩ = false:=(kfro gb (by simp <;> omega)).trans (by simp [go_sem]);have y1:=kkeep gb (b:=w.heap.size + 1) (o:=1) (v:=.int .u64 0) (by simp [go_sem]);have yz1:wb.frozen? ⟨w.heap.size + 1,1,none⟩ = false:=(kfro gb (by simp <;> omega)).trans (by simp [go_sem])))
  exact bodyPost_ret (v:=.agg #[.int .u64 18442240474082181120,.int .u64 ZB]) (by simp [results,Try.results34,go_sem,y0,y1]) rfl ⟨rfl,(by repeat (with_reducible (first | assumption | exact Kp.refl _ | apply Kp.drew | apply Kp.alloc | apply Kp.drewN | (refine Kp.setCell ?_ (by first | omega | (simp <;> omega)) _) | (refine Kp.trans ?_ (by assumption)))))⟩
theorem leastFF_ (ZA:Int) (ZB:Int) s p l c q k d s2 p2 l2 c2 q2 k2 d2 (w:World) (hb1:∀ W:World,Kp w W→Calls Try.prog 49 #[.int .i64 (-1),.agg #[.bool s,.slice p l c,.slice q k d]] W fun e w'=>e = .returned (.int .u64 ZA)∧Kp W w') (hb2:∀ W:World,Kp w W→Calls Try.prog 49 #[.int .i64 1,.agg #[.bool s2,.slice p2 l2 c2,.slice q2 k2 d2]] W fun e w'=>e = .returned (.int .u64 ZB)∧Kp W w'):Calls Try.prog 34 #[.agg #[.bool false,.int .i64 0,.bool s,.slice p l c,.slice q k d,.int .i64 0,.bool s2,.slice p2 l2 c2,.slice q2 k2 d2]] w fun e w'=>e = .returned (.agg #[.int .u64 ZA,.int .u64 ZB])∧Kp w w':=by
  go_enter Try.func34,Try.ntmps34
  go_wp2_with (first | (go_at_call 48;refine (Fq.rentire_ _).mono ?_;rintro e w' ⟨rfl,rfl⟩) | (go_at_call_of 49 (Value.slice p l c);refine (hb1 _ ?q0).mono ?_;(case q0=>exact ((((Kp.refl w).alloc _).alloc _).alloc _).alloc _);rintro e wa ⟨rfl,ga⟩;have ka:Kp w wa:=Kp.trans (((((Kp.refl w).alloc _).alloc _).alloc _).alloc _) ga;have x0:=kkeep ga (b:=w.heap.size) (o:=0) (v:=.bool false) (by simp [go_sem]);have xz0:wa.frozen? ⟨w.heap.size,0,none⟩ = false:=(kfro ga (by simp <;> omega)).trans (by simp [go_sem]);have x1:=kkeep ga (b:=w.heap.size) (o:=1) (v:=.int .i64 0) (by simp [go_sem]);have xz1:wa.frozen? ⟨w.heap.size,1,none⟩ = false:=(kfro ga (by simp <;> omega)).trans (by simp [go_sem]);have x2:=kkeep ga (b:=w.heap.size) (o:=2) (v:=.bool s) (by simp [go_sem]);have xz2:wa.frozen? ⟨w.heap.size,2,none⟩ = false:=(kfro ga (by simp <;> omega)).trans (by simp [go_sem]);have x3:=kkeep ga (b:=w.heap.size) (o:=3) (v:=.slice p l c) (by simp [go_sem]);have xz3:wa.frozen? ⟨w.heap.size,3,none⟩ = false:=(kfro ga (by simp <;> omega)).trans (by simp [go_sem]);have x4:=kkeep ga (b:=w.heap.size) (o:=4) (v:=.slice q k d) (by simp [go_sem]);have xz4:wa.frozen? ⟨w.heap.size,4,none⟩ = false:=(kfro ga (by simp <;> omega)).trans (by simp [go_sem]);have x5:=kkeep ga (b:=w.heap.size) (o:=5) (v:=.int .i64 0) (by simp [go_sem]);have xz5:wa.frozen? ⟨w.heap.size,5,none⟩ = false:=(kfro ga (by simp <;> omega)).trans (by simp [go_sem]);have x6:=kkeep ga (b:=w.heap.size) (o:=6) (v:=.bool s2) (by simp [go_sem]);have xz6:wa.frozen? ⟨w.heap.size,6,none⟩ = false:=(kfro ga (by simp <;> omega)).trans (by simp [go_sem]);have x7:=kkeep ga (b:=w.heap.size) (o:=7) (v:=.slice p2 l2 c2) (by simp [go_sem]);have xz7:wa.frozen? ⟨w.heap.size,7,none⟩ = false:=(kfro ga (by simp <;> omega)).trans (by simp [go_sem]);have x8:=kkeep ga (b:=w.heap.size) (o:=8) (v:=.slice q2 k2 d2) (by simp [go_sem]);have xz8:wa.frozen? ⟨w.heap.size,8,none⟩ = false:=(kfro ga (by simp <;> omega)).trans (by simp [go_sem]);have v0:=kkeep ga (b:=w.heap.size + 3) (o:=0) (v:=.int .u64 18442240474082181120) (by simp [go_sem]);have vz0:wa.frozen? ⟨w.heap.size + 3,0,none⟩ = false:=(kfro ga (by simp <;> omega)).trans (by simp [go_sem]);have v1:=kkeep ga (b:=w.heap.size + 3) (o:=1) (v:=.int .u64 9218868437227405312) (by simp [go_sem]);have vz1:wa.frozen? ⟨w.heap.size + 3,1,none⟩ = false:=(kfro ga (by simp <;> omega)).trans (by simp [go_sem]);have r0:=kkeep ga (b:=w.heap.size + 1) (o:=0) (v:=.int .u64 0) (by simp [go_sem]);have rz0:wa.frozen? ⟨w.heap.size + 1,0,none⟩ = false:=(kfro ga (by simp <;> omega)).trans (by simp [go_sem]);have r1:=kkeep ga (b:=w.heap.size + 1) (o:=1) (v:=.int .u64 0) (by simp [go_sem]);have rz1:wa.frozen? ⟨w.heap.size + 1,1,none⟩ = false:=(kfro ga (by simp <;> omega)).trans (by simp [go_sem])) | (go_at_call_of 49 (Value.slice p2 l2 c2);refine (hb2 _ ?q0).mono ?_;(case q0=>exact ka.setCell (by simp <;> omega) _);rintro e wb ⟨rfl,gb⟩;have kb:Kp w wb:=Kp.trans (ka.setCell (by simp <;> omega) _) gb;have u0:=kkeep gb (b:=w.heap.size + 3) (o:=0) (v:=.int .u64 ZA) (by simp [go_sem,v0]);have u1:=kkeep gb (b:=w.heap.size + 3) (o:=1) (v:=.int .u64 9218868437227405312) (by simp [go_sem,v1]);have uz0:wb.frozen? ⟨w.heap.size + 3,0,none⟩ = false:=(kfro gb (by have:=cell_lt v0;simpa using this)).trans (by simp [go_sem,vz0]);have uz1:wb.frozen? ⟨w.heap.size + 3,1,none⟩ = false:=(kfro gb (by have:=cell_lt v0;simpa using this)).trans (by simp [go_sem,vz1]);have y0:=kkeep gb (b:=w.heap.size + 1) (o:=0) (v:=.int .u64 0) (by simp [go_sem,r0]);have y1:=kkeep gb (b:=w.heap.size + 1) (o:=1) (v:=.int .u64 0) (by simp [go_sem,r1]);have yz0:wb.frozen? ⟨w.heap.size + 1,0,none⟩ = false:=(kfro gb (by have:=cell_lt r0;simpa using this)).trans (by simp [go_sem,rz0]);have yz1:wb.frozen? ⟨w.heap.size + 1,1,none⟩ = false:=(kfro gb (by have:=cell_lt r0;simpa using this)).trans (by simp [go_sem,rz1])))
  exact bodyPost_ret (v:=.agg #[.int .u64 ZA,.int .u64 ZB]) (by simp [results,Try.results34,go_sem,y0,y1]) rfl ⟨rfl,(by repeat (with_reducible (first | assumption | exact Kp.refl _ | apply Kp.drew | apply Kp.alloc | apply Kp.drewN | (refine Kp.setCell ?_ (by first | omega | (simp <;> omega)) _) | (refine Kp.trans ?_ (by assumption)))))⟩
end Go.Proofs.Ytcepchaakfiojaa
