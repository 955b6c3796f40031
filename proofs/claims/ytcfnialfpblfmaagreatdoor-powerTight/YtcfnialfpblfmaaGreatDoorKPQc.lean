import Derived.Test.YtcfnialfpblfmaaGreatDoorKPQa
import Derived.RangeFuncRecord
set_option maxHeartbeats 1000000
set_option maxRecDepth 20000
namespace Go.Proofs.YtcfnialfpblfmaaGreatDoor
open Go.RowKit
set_option linter.unusedVariables false
def TB (w:World) (b t:Nat):Prop:=∃ C:Array Value,w.heap[b]? = some (.cells C t (0,0))
def H9t (w:World) (b:Nat) (v0 v1 v2 v3 v4 v5 v6 v7 v8:Value):Prop:=w.cell? ⟨b,0,none⟩ = some v0∧w.cell? ⟨b,1,none⟩ = some v1∧w.cell? ⟨b,2,none⟩ = some v2∧w.cell? ⟨b,3,none⟩ = some v3∧w.cell? ⟨b,4,none⟩ = some v4∧w.cell? ⟨b,5,none⟩ = some v5∧w.cell? ⟨b,6,none⟩ = some v6∧w.cell? ⟨b,7,none⟩ = some v7∧w.cell? ⟨b,8,none⟩ = some v8∧w.frozen? ⟨b,0,none⟩ = false∧w.frozen? ⟨b,1,none⟩ = false∧w.frozen? ⟨b,2,none⟩ = false∧w.frozen? ⟨b,3,none⟩ = false∧w.frozen? ⟨b,4,none⟩ = false∧w.frozen? ⟨b,5,none⟩ = false∧w.frozen? ⟨b,6,none⟩ = false∧w.frozen? ⟨b,7,none⟩ = false∧w.frozen? ⟨b,8,none⟩ = false∧TB w b 74
theorem rvI_pow (s:Bool) (a k:Nat):rvI (s && decide (k % 2 = 1)) (a ^ k) = (rvI s a) ^ k:=by
  have e:∀ (x:Int) (k:Nat),(-x) ^ k = if k % 2 = 1 then -(x ^ k) else x ^ k:=by
    intro x k
    induction k with
    | zero=>simp
    | succ j ih =>
      rw [Int.pow_succ,Int.pow_succ,ih]
      by_cases c:j % 2 = 1
      · rw [if_pos c,if_neg (by omega)];simp [Int.mul_neg,Int.neg_mul]
      · rw [if_neg c,if_pos (by omega)];simp [Int.mul_neg]
  unfold rvI
  cases s
  · simp [Int.natCast_pow]
  · rw [if_pos rfl,e]
    by_cases c:k % 2 = 1
    · rw [if_pos c,if_pos (by simp [c]),Int.natCast_pow]
    · rw [if_neg c,if_neg (by simp [c]),Int.natCast_pow]
theorem blen_pow (a k N:Nat) (h:blen a≤N):blen (a ^ k)≤N * k + 1:=by
  rw [blen_le_iff]
  have h1:a ^ k≤(2 ^ N) ^ k:=Nat.pow_le_pow_left (Nat.le_of_lt ((blen_le_iff a N).1 h)) k
  rw [← Nat.pow_mul] at h1
  have h2:2 ^ (N * k) < 2 ^ (N * k + 1):=Nat.pow_lt_pow_right (by decide) (by omega)
  omega
theorem XF.pow (s ng:Bool) (a1 a2 a' b':Nat) (V:Int) (C k M:Nat) (h:XF s a1 a2 V C M) (hb:b'≠0) (e:rvI ng a' * ((a2 ^ k:Nat):Int) = rvI (s && decide (k % 2 = 1)) (a1 ^ k) * (b':Int)) (N:Nat) (n1:blen a'≤N) (n2:blen b'≤N):XF ng a' b' (V ^ k) (C ^ k) N:=by
  obtain ⟨f1,f2,f3,f4,f5⟩:=h
  refine ⟨hb,Nat.ne_of_gt (Nat.pow_pos (by omega)), ?_,n1,n2⟩
  rw [rvI_pow] at e
  have e2:rvI s a1 ^ k * ((C ^ k:Nat):Int) = V ^ k * ((a2 ^ k:Nat):Int):=by
    rw [Int.natCast_pow,Int.natCast_pow,← Int.mul_pow,← Int.mul_pow,f3]
  have hd:((a2 ^ k:Nat):Int)≠0:=by
    have:0 < a2 ^ k:=Nat.pow_pos (by omega)
    omega
  refine Int.eq_of_mul_eq_mul_right hd ?_
  calc rvI ng a' * ((C ^ k:Nat):Int) * ((a2 ^ k:Nat):Int)
      = rvI ng a' * ((a2 ^ k:Nat):Int) * ((C ^ k:Nat):Int):=Int.mul_right_comm _ _ _
    _ = rvI s a1 ^ k * (b':Int) * ((C ^ k:Nat):Int):=by rw [e]
    _ = rvI s a1 ^ k * ((C ^ k:Nat):Int) * (b':Int):=Int.mul_right_comm _ _ _
    _ = V ^ k * ((a2 ^ k:Nat):Int) * (b':Int):=by rw [e2]
    _ = V ^ k * (b':Int) * ((a2 ^ k:Nat):Int):=Int.mul_right_comm _ _ _
theorem xpow_ (V:Int) (C e9:Nat) (hk:e9≤1024) s p l c q k d (B1:Nat) (w:World) (h:XP B1 w s p l c q k d V C 1500):Calls Tryz.prog 29 #[.agg #[.bool s,.slice p l c,.slice q k d],.int .i64 (e9:Int)] w fun e w'=>∃ s3 p3 l3 c3 q3 k3 d3,e = .returned (.agg #[.bool s3,.slice p3 l3 c3,.slice q3 k3 d3])∧XP w.heap.size w' s3 p3 l3 c3 q3 k3 d3 (V ^ e9) (C ^ e9) 1540000∧Kp w w':=by
  obtain ⟨a1,a2,u1,u2,u3⟩:=h
  obtain ⟨P1,C1,e1,x1,y1⟩:=u1.arr
  obtain ⟨P2,C2,e2,x2,y2⟩:=u2.arr
  rw [e1,e2]
  refine (rpowX9_ s a1 a2 e9 P1 P2 C1 C2 w x1 y1 x2 y2 u3.2.2.2.1 u3.2.2.2.2 u3.1 hk (a1 ^ e9) (a2 ^ e9) rfl rfl _ rfl).mono ?_
  rintro e w' ⟨vn,vd,a',b',ng,rfl,o1,o2,⟨hF,hn⟩,g⟩
  obtain ⟨p3,c3,rfl,-,-⟩:=o1.arr
  obtain ⟨q3,d3,rfl,-,-⟩:=o2.arr
  have hz:a2 ^ e9≠0:=Nat.ne_of_gt (Nat.pow_pos (by have:=u3.1;omega))
  have q1:=blen_pow a1 e9 1500 u3.2.2.2.1
  have q2:=blen_pow a2 e9 1500 u3.2.2.2.2
  have q3':=hF.2 rfl
  have hx:=frac_x (a1 ^ e9) (a2 ^ e9) a' b' ng _ hz hF.1 hn
  exact ⟨ng,p3,_,c3,q3,_,d3,rfl,⟨a',b',o1,o2,XF.pow s ng a1 a2 a' b' V C e9 1500 u3 hF.1.1 hx 1540000 (by omega) (by omega)⟩,g⟩
namespace Fq
theorem eqInP (a c:Nat) (w:World):(Op.equalIn 9999 22 (.float .f64 a) (.float .f64 c)).run Tryz.prog w = .ok (FloatKind.f64.format.order a c == some Ordering.eq) w:=by kernel_rfl
theorem voidP_ (a b:Nat) (ha:a < 18446744073709551616) (hb:b < 18446744073709551616) (w:World):Calls Tryz.prog 47 #[.agg #[.float .f64 a,.float .f64 b]] w fun e w'=>e = .returned (.bool (decide (a = 9218868437227405312∧b = 18442240474082181120)))∧Grown w w':=by
  have t2:=feqI a ha
  have t3:=feqM b hb
  have e1:(decide (a = 9218868437227405312∧b = 18442240474082181120)) = ((FloatKind.f64.format.order a 9218868437227405312 == some Ordering.eq) && (FloatKind.f64.format.order b 18442240474082181120 == some Ordering.eq)):=by
    rw [t2,t3];by_cases c1:a = 9218868437227405312 <;> by_cases c2:b = 18442240474082181120 <;> simp [c1,c2]
  rw [e1]
  clear e1 t2 t3 ha hb
  have h0:=eqInP a 9218868437227405312
  have h1:=eqInP b 18442240474082181120
  generalize g1:(FloatKind.f64.format.order a 9218868437227405312 == some Ordering.eq) = B1 at h0 ⊢
  generalize g2:(FloatKind.f64.format.order b 18442240474082181120 == some Ordering.eq) = B2 at h1 ⊢
  cases B1 <;> cases B2
  · go_enter Tryz.func47,Tryz.ntmps47
    go_wp2
    go_region_held3 (fun w'=>w'.cell? ⟨w.heap.size,0,none⟩ = some (.float .f64 a)∧w'.cell? ⟨w.heap.size,1,none⟩ = some (.float .f64 b)) (simp [go_sem,World.cell?_alloc_past]) (first | (go_at_call 56;refine (empty6_ _).mono ?_;rintro e w' ⟨rfl,rfl⟩))
    go_wp2
    exact bodyPost_ret (v:=.bool false) (by simp [results,Tryz.results47,go_sem] <;> simp only [*]) rfl ⟨rfl,(by repeat (with_reducible (first | assumption | exact Grown.refl _ | apply Grown.drew | apply Grown.alloc | apply gdrewN | (refine Grown.setCell ?_ (by simp <;> omega) _) | (refine gtrans ?_ (by assumption)))))⟩
  · go_enter Tryz.func47,Tryz.ntmps47
    go_wp2
    go_region_held3 (fun w'=>w'.cell? ⟨w.heap.size,0,none⟩ = some (.float .f64 a)∧w'.cell? ⟨w.heap.size,1,none⟩ = some (.float .f64 b)) (simp [go_sem,World.cell?_alloc_past]) (first | (go_at_call 56;refine (empty6_ _).mono ?_;rintro e w' ⟨rfl,rfl⟩))
    go_wp2
    exact bodyPost_ret (v:=.bool false) (by simp [results,Tryz.results47,go_sem] <;> simp only [*]) rfl ⟨rfl,(by repeat (with_reducible (first | assumption | exact Grown.refl _ | apply Grown.drew | apply Grown.alloc | apply gdrewN | (refine Grown.setCell ?_ (by simp <;> omega) _) | (refine gtrans ?_ (by assumption)))))⟩
  · go_enter Tryz.func47,Tryz.ntmps47
    go_wp2
    go_region_held3 (fun w'=>w'.cell? ⟨w.heap.size,0,none⟩ = some (.float .f64 a)∧w'.cell? ⟨w.heap.size,1,none⟩ = some (.float .f64 b)) (simp [go_sem,World.cell?_alloc_past]) (first | (go_at_call 56;refine (empty6_ _).mono ?_;rintro e w' ⟨rfl,rfl⟩))
    go_wp2
    exact bodyPost_ret (v:=.bool false) (by simp [results,Tryz.results47,go_sem] <;> simp only [*]) rfl ⟨rfl,(by repeat (with_reducible (first | assumption | exact Grown.refl _ | apply Grown.drew | apply Grown.alloc | apply gdrewN | (refine Grown.setCell ?_ (by simp <;> omega) _) | (refine gtrans ?_ (by assumption)))))⟩
  · go_enter Tryz.func47,Tryz.ntmps47
    go_wp2
    go_region_held3 (fun w'=>w'.cell? ⟨w.heap.size,0,none⟩ = some (.float .f64 a)∧w'.cell? ⟨w.heap.size,1,none⟩ = some (.float .f64 b)) (simp [go_sem,World.cell?_alloc_past]) (first | (go_at_call 56;refine (empty6_ _).mono ?_;rintro e w' ⟨rfl,rfl⟩))
    go_wp2
    exact bodyPost_ret (v:=.bool true) (by simp [results,Tryz.results47,go_sem] <;> simp only [*]) rfl ⟨rfl,(by repeat (with_reducible (first | assumption | exact Grown.refl _ | apply Grown.drew | apply Grown.alloc | apply gdrewN | (refine Grown.setCell ?_ (by simp <;> omega) _) | (refine gtrans ?_ (by assumption)))))⟩
end Fq
set_option linter.unusedVariables false

def H1c (w:World) (b:Nat) (v0:Value):Prop:=w.cell? ⟨b,0,none⟩ = some v0∧w.frozen? ⟨b,0,none⟩ = false
theorem H1c.keep {W w:World} {b:Nat} {v0:Value} (h:H1c W b v0) (g:Kp W w):H1c w b v0:=by
  obtain ⟨h0,h1⟩:=h
  exact ⟨kkeep g h0,(kfro g (cell_lt h0)).trans h1⟩
theorem H1c.far1 {w:World} {b:Nat} {v0:Value} (h:H1c w b v0) (x:Addr) (hne:x.block≠b) (u:Value):H1c (w.setCell x u) b v0:=by
  obtain ⟨h0,h1⟩:=h
  exact ⟨(World.cell?_setCell_far _ _ _ _ hne).trans h0,(World.frozen?_setCell _ _ _ _).trans h1⟩

theorem three0 (w:World) (a b s c d:Value) (t u v:TypeId):Fq.H2 (((w.alloc (.cells #[a,b] t)).alloc (.cells #[s] u)).alloc (.cells #[c,d] v)) w.heap.size a b∧H1c (((w.alloc (.cells #[a,b] t)).alloc (.cells #[s] u)).alloc (.cells #[c,d] v)) (w.heap.size + 1) s∧Fq.H2 (((w.alloc (.cells #[a,b] t)).alloc (.cells #[s] u)).alloc (.cells #[c,d] v)) (w.heap.size + 2) c d:=by
  refine ⟨?_, ?_, ?_⟩
  · unfold Fq.H2;simp [go_sem]
  · unfold H1c;simp [go_sem]
  · unfold Fq.H2;simp [go_sem]
theorem climbV4_ (a b LO HI:Nat) (hr:∀ w:World,Calls Tryz.prog 46 #[.agg #[.float .f64 a,.float .f64 b]] w fun e w'=>e = .returned (.agg #[.float .f64 LO,.float .f64 HI])∧Kp w w') (hv:∀ w:World,Calls Tryz.prog 47 #[.agg #[.float .f64 LO,.float .f64 HI]] w fun e w'=>e = .returned (.bool true)∧Kp w w') (w:World):Calls Tryz.prog 51 #[.agg #[.float .f64 a,.float .f64 b],.agg #[.func (.func 58) #[] #[]]] w fun e w'=>e = .returned (.agg #[.float .f64 LO,.float .f64 HI])∧Kp w w':=by
  go_enter Tryz.func51,Tryz.ntmps51
  go_wp2_with (first | (go_at_call 46;refine (hr _).mono ?_;rintro e w1 ⟨rfl,g1⟩;have T0:=three0 w (.float .f64 a) (.float .f64 b) (.func (.func 58) #[] #[]) (.float .f64 0) (.float .f64 0) 25 69 25;have q0:=Fq.H2.keep T0.1 g1;have qs:=H1c.keep T0.2.1 g1;have q1:=Fq.H2.keep T0.2.2 g1;have kw:Kp w w1:=Kp.trans ((((Kp.refl w).alloc _).alloc _).alloc _) g1;obtain ⟨x0,x1,x2,x3⟩:=id q0;obtain ⟨s0,s1⟩:=id qs;obtain ⟨y0,y1,y2,y3⟩:=id q1) | (go_at_call 47;refine (hv _).mono ?_;rintro e w2 ⟨rfl,g2⟩;have qx:=Fq.H2.keep (Fq.H2.put q0 (.float .f64 LO) (.float .f64 HI)) g2;have qt:=H1c.keep (H1c.far1 (H1c.far1 qs ⟨w.heap.size,0,none⟩ (show w.heap.size≠w.heap.size + 1 by omega) _) ⟨w.heap.size,1,none⟩ (show w.heap.size≠w.heap.size + 1 by omega) _) g2;have qy:=Fq.H2.keep (Fq.H2.far q1 (show w.heap.size≠w.heap.size + 2 by omega) (.float .f64 LO) (.float .f64 HI)) g2;have kv:Kp w w2:=Kp.trans ((kw.setCell (Nat.le_refl _) _).setCell (Nat.le_refl _) _) g2;obtain ⟨u0,u1,u2,u3⟩:=id qx;obtain ⟨t0,t1⟩:=id qt;obtain ⟨v0,v1,v2,v3⟩:=id qy))
  exact bodyPost_ret (v:=.agg #[.float .f64 LO,.float .f64 HI]) (by simp [results,Tryz.results51,go_sem,v0,v1]) rfl ⟨rfl,(kv.setCell (by simp <;> omega) _).setCell (by simp <;> omega) _⟩
theorem climbS4_ (a b LO HI:Nat) (hr:∀ w:World,Calls Tryz.prog 46 #[.agg #[.float .f64 a,.float .f64 b]] w fun e w'=>e = .returned (.agg #[.float .f64 LO,.float .f64 HI])∧Kp w w') (hv:∀ w:World,Calls Tryz.prog 47 #[.agg #[.float .f64 LO,.float .f64 HI]] w fun e w'=>e = .returned (.bool false)∧Kp w w') (X Y RL RH:Nat) (h1:∀ w:World,(callFunc 58 #[.float .f64 LO]).run Tryz.prog w = .ok (.value (.float .f64 X)) w) (h2:∀ w:World,(callFunc 58 #[.float .f64 HI]).run Tryz.prog w = .ok (.value (.float .f64 Y)) w) (hr2:∀ w:World,Calls Tryz.prog 46 #[.agg #[.float .f64 X,.float .f64 Y]] w fun e w'=>e = .returned (.agg #[.float .f64 RL,.float .f64 RH])∧Kp w w') (w:World):Calls Tryz.prog 51 #[.agg #[.float .f64 a,.float .f64 b],.agg #[.func (.func 58) #[] #[]]] w fun e w'=>e = .returned (.agg #[.float .f64 RL,.float .f64 RH])∧Kp w w':=by
  go_enter Tryz.func51,Tryz.ntmps51
  go_wp2_with (first | (go_at_call 46;refine (hr _).mono ?_;rintro e w1 ⟨rfl,g1⟩;have T0:=three0 w (.float .f64 a) (.float .f64 b) (.func (.func 58) #[] #[]) (.float .f64 0) (.float .f64 0) 25 69 25;have q0:=Fq.H2.keep T0.1 g1;have qs:=H1c.keep T0.2.1 g1;have q1:=Fq.H2.keep T0.2.2 g1;have kw:Kp w w1:=Kp.trans ((((Kp.refl w).alloc _).alloc _).alloc _) g1;obtain ⟨x0,x1,x2,x3⟩:=id q0;obtain ⟨s0,s1⟩:=id qs;obtain ⟨y0,y1,y2,y3⟩:=id q1) | (go_at_call 47;refine (hv _).mono ?_;rintro e w2 ⟨rfl,g2⟩;have qx:=Fq.H2.keep (Fq.H2.put q0 (.float .f64 LO) (.float .f64 HI)) g2;have qt:=H1c.keep (H1c.far1 (H1c.far1 qs ⟨w.heap.size,0,none⟩ (show w.heap.size≠w.heap.size + 1 by omega) _) ⟨w.heap.size,1,none⟩ (show w.heap.size≠w.heap.size + 1 by omega) _) g2;have qy:=Fq.H2.keep (Fq.H2.far q1 (show w.heap.size≠w.heap.size + 2 by omega) (.float .f64 LO) (.float .f64 HI)) g2;have kv:Kp w w2:=Kp.trans ((kw.setCell (Nat.le_refl _) _).setCell (Nat.le_refl _) _) g2;obtain ⟨u0,u1,u2,u3⟩:=id qx;obtain ⟨t0,t1⟩:=id qt;obtain ⟨v0,v1,v2,v3⟩:=id qy))
  go_region_held3 (fun w'=>w'.cell? ⟨w.heap.size,0,none⟩ = some (.float .f64 LO)∧w'.cell? ⟨w.heap.size,1,none⟩ = some (.float .f64 HI)∧w'.cell? ⟨w.heap.size + 1,0,none⟩ = some (.func (.func 58) #[] #[])) (first | (with_reducible exact ⟨c0,c1,c2⟩) | (exact ⟨u0,u1,t0⟩) | (exact ⟨(World.cell?_setCell_far _ _ _ _ (by simp <;> omega)).trans ((World.cell?_setCell_far _ _ _ _ (by simp <;> omega)).trans c0),(World.cell?_setCell_far _ _ _ _ (by simp <;> omega)).trans ((World.cell?_setCell_far _ _ _ _ (by simp <;> omega)).trans c1),(World.cell?_setCell_far _ _ _ _ (by simp <;> omega)).trans ((World.cell?_setCell_far _ _ _ _ (by simp <;> omega)).trans c2)⟩)) (first | (go_at_call 46;refine (hr2 _).mono ?_;rintro e w3 ⟨rfl,g3⟩;have k3:Kp w2 w3:=Kp.trans (Kp.drew (Kp.refl _)) g3;have r0:=kkeep k3 v0;have r1:=kkeep k3 v1;have r2:=(kfro k3 (cell_lt v0)).trans v2;have r3:=(kfro k3 (cell_lt v1)).trans v3;have c0:=kkeep k3 u0;have c1:=kkeep k3 u1;have c2:=kkeep k3 t0))
  go_wp2
  exact bodyPost_ret (v:=.agg #[.float .f64 RL,.float .f64 RH]) (by simp [results,Tryz.results51,go_sem,r0,r1]) rfl ⟨rfl,((Kp.trans kv k3).setCell (by simp <;> omega) _).setCell (by simp <;> omega) _⟩
set_option linter.unusedVariables false

theorem run_bindA {α β:Type} (P:Program) (a:Sem α) (g:α→Sem β) (w:World) (v:α) (w1:World) (h:a.run P w = .ok v w1):(a >>= g).run P w = (g v).run P w1:=by
  rw [Sem.run_bind,h];rfl
theorem toInt_ok (P:Program) (nm:String) (K:Nat) (hK:K = 1074) (k:Nat) (hk:1≤k∧k≤4) (n:Bool) (m:Nat) (hm:m≤9218868437227405312) (w:World):(Extern.MathFloor.toIntegral nm (wayOf k) #[.float .f64 (Fq.wD n m)]).run P w = .ok (.float .f64 (Fq.wD n (cR K k n m))) w:=by
  have h:=int_w K hK k hk n m hm
  have hd:(∃ s a i,FloatKind.f64.decode (Fq.wD n m) = .number s a i)∨(∃ s,FloatKind.f64.decode (Fq.wD n m) = .infinity s):=by
    by_cases ci:m = 9218868437227405312
    · right
      refine ⟨n, ?_⟩
      show Ieee.double.read _ = _
      rw [ci,Fq.read_inf _ _ Fq.binfD (by rw [Fq.rgD n _ (by omega),Fq.infD]),Fq.ngD n _ (by omega)]
    · left
      exact ⟨_,_,_,Fq.read_fin Ieee.double (Fq.wD n m) (by rw [Fq.rgD n m (by omega),Fq.infD];omega)⟩
  conv=>lhs;arg 2;whnf
  rcases hd with ⟨s,a,i,hd⟩ | ⟨s,hd⟩ <;> (rw [hd] at h ⊢;rw [← h];rfl)
theorem even_run (X : Nat) (w : World) : (callFunc 58 #[.float .f64 X]).run Tryz.prog w = ((Extern.MathFloor.toIntegral "math.RoundToEven" Ieee.Toward.even #[.float .f64 X]) >>= fun v => (pure (.value v) : Sem _)).run Tryz.prog w := by kernel_rfl
theorem step4_ (K:Nat) (hK:K = 1074) (n:Bool) (m:Nat) (hm:m≤9218868437227405312) (w:World):(callFunc 58 #[.float .f64 (Fq.wD n m)]).run Tryz.prog w = .ok (.value (.float .f64 (Fq.wD n (cR K 4 n m)))) w:=by
  rw [even_run]
  have h := toInt_ok Tryz.prog "math.RoundToEven" K hK 4 (by decide) n m hm w
  rw [show wayOf 4 = Ieee.Toward.even from rfl] at h
  rw [run_bindA _ _ _ _ _ _ h]
  rfl
end Go.Proofs.YtcfnialfpblfmaaGreatDoor
