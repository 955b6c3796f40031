import Derived.Test.YtcepchaakfiojaaKG3D
import Derived.Test.YtcepchaakfiojaaKXG4
set_option maxHeartbeats 400000
set_option maxRecDepth 20000
namespace Go.Proofs.Ytcepchaakfiojaa
open Go.RowKit
theorem refW_fin (d:Int) (g neg:Bool) (a b a2 b2:Nat) (e:Int) (hF:FracOf a b e a2 b2) (hg:a≠0→g = neg) (K:Nat) (hK:K = 1074):refW 53 K 2098 9218868437227405311 0 d g a2 b2 = if a = 0 then 0 else mdW neg (finU 53 2098 9218868437227405311 9218868437227405312 (dirN neg d) (rV (dirN neg d) 53 a b (e + 1074))):=by
  unfold refW
  by_cases c:a = 0
  · rw [if_pos c,if_pos (hF.2.1.2 c)]
  · rw [if_neg c,if_neg (fun h=>c (hF.2.1.1 h)),hg c,hF.2.2.1 _ _ _ c,Nat.pow_zero,Nat.mul_one,show ((K:Nat):Int) + e = e + 1074 from by omega]
    rfl
theorem rbits_ (d:Int) (neg:Bool) (vn vd:Value) (a b:Nat) (w:World) (hn:Ls w vn (dig a)) (hd:Ls w vd (dig b)) (hb:b≠0) (la:blen a≤4194304) (lb:blen b≤4194304) :
    Calls Try.prog 49 #[.int .i64 d,.agg #[.bool neg,vn,vd]] w fun e w'=>e = .returned (.int .u64 ((refW 53 1074 2098 9218868437227405311 0 d neg a b:Nat):Int))∧Kp w w':=by
  obtain ⟨w0,hw0⟩:∃ w0,w0 = w.alloc (.cells #[.bool neg,vn,vd] 44):=⟨_,rfl⟩
  have hk0:Kp w w0:=by rw [hw0];exact (Kp.refl w).alloc _
  have h:=rrounded_D d neg vn vd a b w0 (hn.kp hk0) (hd.kp hk0) hb la lb
  obtain ⟨Z,hZ⟩:∃ Z,Z = refW 53 1074 2098 9218868437227405311 0 d neg a b:=⟨_,rfl⟩
  rw [← hZ] at h ⊢
  clear hn hd hb la lb hZ
  go_enter Try.func49,Try.ntmps49
  go_wp2_with fail
  rw [← hw0]
  refine h.mono ?_;rintro e w1 ⟨rfl,hk⟩
  have hk1:=hk0.trans hk
  clear h hk hk0 hw0
  go_wp2
  exact bodyPost_ret (v:=.int .u64 (Z:Int)) (by simp [results,Try.results49,go_sem]) rfl ⟨rfl,hk1⟩
end Go.Proofs.Ytcepchaakfiojaa
