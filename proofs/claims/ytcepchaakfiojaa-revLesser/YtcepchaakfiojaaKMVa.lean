import Derived.Test.YtcepchaakfiojaaKEX
import Derived.Test.YtcepchaakfiojaaKNRm
namespace Go.Proofs.Ytcepchaakfiojaa
open Go.RowKit
def VF (s:Bool) (a b:Nat) (V:Int):Prop:=∀ K:Nat,K = 1074→b≠0∧a * 2 ^ K = V.natAbs * b∧(V≠0→s = decide (V < 0))∧blen a≤100000∧blen b≤100000
def VP (base:Nat) (w:World) (s:Bool) (p:Option Addr) (l c:Nat) (q:Option Addr) (k d:Nat) (V:Int):Prop:=∃ a b,Own w base (.slice p l c) (dig a)∧Own w base (.slice q k d) (dig b)∧VF s a b V
theorem VP.kp {base:Nat} {w:World} {s:Bool} {p:Option Addr} {l c:Nat} {q:Option Addr} {k d:Nat} {V:Int} {w':World} (h:VP base w s p l c q k d V) (g:Kp w w'):VP base w' s p l c q k d V:=by
  obtain ⟨a,b,h1,h2,h3⟩:=h
  exact ⟨a,b,h1.kp g,h2.kp g,h3⟩
theorem VP.mono {base:Nat} {w:World} {s:Bool} {p:Option Addr} {l c:Nat} {q:Option Addr} {k d:Nat} {V:Int} {base':Nat} (h:VP base w s p l c q k d V) (g:base'≤base):VP base' w s p l c q k d V:=by
  obtain ⟨a,b,h1,h2,h3⟩:=h
  exact ⟨a,b,h1.mono g,h2.mono g,h3⟩
theorem VP.set {base:Nat} {w:World} {s:Bool} {p:Option Addr} {l c:Nat} {q:Option Addr} {k d:Nat} {V:Int} (h:VP base w s p l c q k d V) {x:Addr} (hx:x.block < base) (u:Value):VP base (w.setCell x u) s p l c q k d V:=by
  obtain ⟨a,b,h1,h2,h3⟩:=h
  exact ⟨a,b,h1.setOther hx u,h2.setOther hx u,h3⟩
theorem RP.vp {base:Nat} {w:World} {s:Bool} {p:Option Addr} {l c:Nat} {q:Option Addr} {k d:Nat} {n:Bool} {m:Nat} (h:RP base w s p l c q k d n m):VP base w s p l c q k d (Iv n m):=by
  obtain ⟨a,b,h1,h2,h3⟩:=h
  refine ⟨a,b,h1,h2,fun K hK=>?_⟩
  obtain ⟨f1,f2,f3,f4,f5⟩:=h3 K hK
  refine ⟨f1, ?_, ?_,by omega,by omega⟩
  · rw [f2];congr 1
    unfold Iv;cases n <;> simp
  · intro hne
    rw [f3] at hne ⊢
    cases s <;> simp at hne ⊢ <;> omega
theorem VF.iv {s:Bool} {a b:Nat} {V:Int} (h:VF s a b V) (K:Nat) (hK:K = 1074):rvI s a * ((2 ^ K:Nat):Int) = V * (b:Int):=by
  obtain ⟨h0,h1,h2,-,-⟩:=h K hK
  by_cases z:V = 0
  · rw [z,Int.natAbs_zero,Nat.zero_mul] at h1
    have hp:=Nat.two_pow_pos K
    rcases Nat.mul_eq_zero.1 h1 with h | h
    · rw [z,h];unfold rvI;cases s <;> simp
    · omega
  · have h2:=h2 z
    have h3:((a * 2 ^ K:Nat):Int) = ((V.natAbs * b:Nat):Int):=by rw [h1]
    rw [Int.natCast_mul,Int.natCast_mul] at h3
    unfold rvI
    by_cases c:V < 0
    · have:(V.natAbs:Int) = -V:=by omega
      rw [decide_eq_true c] at h2
      rw [this] at h3
      rw [h2,if_pos rfl,Int.neg_mul,h3,Int.neg_mul,Int.neg_neg]
    · have:(V.natAbs:Int) = V:=by omega
      rw [decide_eq_false c] at h2
      rw [this] at h3
      rw [h2,if_neg (by decide),h3]
theorem VF.bits {s:Bool} {a b:Nat} {V:Int} (h:VF s a b V) (dd:Int):refW 53 1074 2098 9218868437227405311 0 dd s a b = sumW dd V:=by
  obtain ⟨K,hK⟩:∃ K:Nat,K = 1074:=⟨_,rfl⟩
  obtain ⟨f1,f2,f3,f4,f5⟩:=h K hK
  exact ratio_sum dd V a b a b K s hK f1 ⟨f1,Iff.rfl,fun d' p' t' _=>by rw [Int.add_zero],by omega,by omega⟩ f2 s (fun _=>rfl) f3
theorem vbits_ s p l c q k d (V dd:Int) (B1:Nat) (w:World) (h:VP B1 w s p l c q k d V):Calls Try.prog 49 #[.int .i64 dd,.agg #[.bool s,.slice p l c,.slice q k d]] w fun e w'=>e = .returned (.int .u64 ((sumW dd V:Nat):Int))∧Kp w w':=by
  obtain ⟨a,b,u1,u2,u3⟩:=h
  have hf:=u3 1074 rfl
  have h:=rbits_ dd s (.slice p l c) (.slice q k d) a b w u1.ls u2.ls hf.1 (by have:=hf.2.2.2.1;omega) (by have:=hf.2.2.2.2;omega)
  rw [u3.bits dd] at h
  exact h
theorem vsign_ s p l c q k d (V:Int) (B1:Nat) (w:World) (h:VP B1 w s p l c q k d V):Calls Try.prog 42 #[.agg #[.bool s,.slice p l c,.slice q k d]] w fun e w'=>e = .returned (.int .i64 (cmI V 0))∧Kp w w':=by
  obtain ⟨a,b,u1,u2,u3⟩:=h
  obtain ⟨K,hK⟩:∃ K:Nat,K = 1074:=⟨_,rfl⟩
  obtain ⟨f1,f2,f3,f4,f5⟩:=u3 K hK
  have h:=rsign_ s (.slice p l c) (.slice q k d) a w u1.ls (by omega)
  have hz:a = 0 ↔ V = 0:=by
    have hp:=Nat.two_pow_pos K
    constructor
    · intro h0;rw [h0,Nat.zero_mul] at f2
      rcases Nat.mul_eq_zero.1 f2.symm with h1 | h1 <;> omega
    · intro h0;rw [h0,Int.natAbs_zero,Nat.zero_mul] at f2
      rcases Nat.mul_eq_zero.1 f2 with h1 | h1
      · exact h1
      · omega
  have e:(if a = 0 then 0 else if s then (-1:Int) else 1) = cmI V 0:=by
    by_cases c:V = 0
    · rw [if_pos (hz.2 c),c,cmI_eq]
    · rw [if_neg (fun x=>c (hz.1 x)),f3 c]
      by_cases c2:V < 0
      · rw [decide_eq_true c2,if_pos rfl,cmI_lt _ _ c2]
      · rw [decide_eq_false c2,if_neg (by decide),cmI_gt _ _ (by omega)]
  rw [e] at h
  exact h
end Go.Proofs.Ytcepchaakfiojaa
