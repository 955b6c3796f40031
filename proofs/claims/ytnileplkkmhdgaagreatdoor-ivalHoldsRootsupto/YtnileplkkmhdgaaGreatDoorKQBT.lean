import Derived.Test.YtnileplkkmhdgaaGreatDoorKQA
import Derived.Laws.Bits64b
import Derived.Lib.LaidTab
set_option maxHeartbeats 1000000
set_option maxRecDepth 20000
namespace Go.Proofs.YtnileplkkmhdgaaGreatDoor
open Go.RowKit
namespace Fq
theorem low_bit (o k:Nat) (ho:o % 2 = 1) (hx:o * 2 ^ k < 2 ^ 64):(o * 2 ^ k) &&& (2 ^ 64 - o * 2 ^ k) = 2 ^ k:=by
  have hp:=Nat.two_pow_pos k
  have hpos:0 < o * 2 ^ k:=Nat.mul_pos (by omega) hp
  apply Nat.eq_of_testBit_eq
  intro i
  rw [Nat.testBit_and,show 2 ^ 64 - o * 2 ^ k = 2 ^ 64 - ((o * 2 ^ k - 1) + 1) from by omega,Nat.testBit_two_pow_sub_succ (by omega),Nat.testBit_two_pow]
  have e1:(o * 2 ^ k).testBit i = (decide (i ≥ k) && o.testBit (i - k)):=by rw [← Nat.shiftLeft_eq,Nat.testBit_shiftLeft]
  have e2:(o * 2 ^ k - 1).testBit i = if i < k then (2 ^ k - 1).testBit i else (o - 1).testBit (i - k):=by
    rw [← Nat.testBit_two_pow_mul_add (o - 1) (by omega:2 ^ k - 1 < 2 ^ k) i]
    congr 1
    have:2 ^ k * (o - 1) + 2 ^ k = 2 ^ k * o:=by rw [← Nat.mul_succ];congr 1;omega
    rw [Nat.mul_comm o]
    omega
  have hk:k < 64:=by
    have h1:2 ^ k≤o * 2 ^ k:=Nat.le_mul_of_pos_left _ (by omega)
    exact (Nat.pow_lt_pow_iff_right (by decide:1 < 2)).1 (Nat.lt_of_le_of_lt h1 hx)
  rw [e1,e2]
  by_cases c:i < k
  · have:¬ i ≥ k:=by omega
    have h2:¬ k = i:=by omega
    simp [this,h2]
  · rw [if_neg c]
    obtain ⟨j,rfl⟩:∃ j,i = k + j:=⟨i - k,by omega⟩
    rw [show k + j - k = j from by omega]
    cases j with
    | zero =>
      have h1:(o - 1).testBit 0 = false:=by rw [Nat.testBit_zero];simp;omega
      have h2:o.testBit 0 = true:=by rw [Nat.testBit_zero];simp;omega
      simp [h1,h2,hk]
    | succ j =>
      have h1:(o - 1).testBit (j + 1) = o.testBit (j + 1):=by
        rw [Nat.testBit_succ,Nat.testBit_succ];congr 1;omega
      rw [h1]
      have h2:¬ k = k + (j + 1):=by omega
      cases o.testBit (j + 1) <;> simp

def tabL:List Int:=[0,1,56,2,57,49,28,3,61,58,42,50,38,29,17,4,62,47,59,36,45,43,51,22,53,39,33,30,24,18,12,5,63,55,48,27,60,41,37,16,46,35,44,21,52,32,23,11,54,26,40,15,34,20,31,10,25,14,19,9,13,8,7,6]
def Tab (w:World):Prop:=∀ i:Nat,i < 64→w.cell? ⟨1,i,none⟩ = some (.int .u8 (tabL.getD i 0))
theorem Tab.grown {w w':World} (h:Tab w) (g:Grown w w'):Tab w':=fun i hi=>gkeep g (h i hi)
theorem castj (P D M Q:Nat):((P * D % M / Q:Nat):Int) = (P:Int) * (D:Int) % (M:Int) / (Q:Int):=by push_cast;rfl
theorem tab_at:∀ k:Fin 64,2 ^ k.val * 285870213051353865 % 18446744073709551616 / 288230376151711744 < 64∧tabL.getD (2 ^ k.val * 285870213051353865 % 18446744073709551616 / 288230376151711744) 0 = (k.val:Int):=by decide +kernel
theorem tz_ (o k:Nat) (ho:o % 2 = 1) (hx:o * 2 ^ k < 18446744073709551616) (w:World) (hT:Tab w) :
    Calls Tryz.prog 92 #[.int .u64 ((o * 2 ^ k:Nat):Int)] w fun e w'=>e = .returned (.int .i64 (k:Int))∧w' = w:=by
  have hp:=Nat.two_pow_pos k
  have hpos:0 < o * 2 ^ k:=Nat.mul_pos (by omega) hp
  have h64:(2:Nat) ^ 64 = 18446744073709551616:=by decide
  have hk:k < 64:=by
    have h1:2 ^ k≤o * 2 ^ k:=Nat.le_mul_of_pos_left _ (by omega)
    exact (Nat.pow_lt_pow_iff_right (by decide:1 < 2)).1 (Nat.lt_of_le_of_lt h1 (by rw [h64];exact hx))
  have hlow:=low_bit o k ho (by rw [h64];exact hx)
  rw [h64] at hlow
  obtain ⟨t1,t2⟩:=tab_at ⟨k,hk⟩
  simp only at t1 t2
  obtain ⟨x,hxx⟩:∃ x:Nat,x = o * 2 ^ k:=⟨_,rfl⟩
  rw [← hxx] at hlow hx hpos ⊢
  obtain ⟨P,hP⟩:∃ P:Nat,P = 2 ^ k:=⟨_,rfl⟩
  rw [← hP] at hlow t1 t2
  obtain ⟨j,hj⟩:∃ j:Nat,j = P * 285870213051353865 % 18446744073709551616 / 288230376151711744:=⟨_,rfl⟩
  rw [← hj] at t1 t2
  have hc:w.cell? ⟨1,j,none⟩ = some (.int .u8 (k:Int)):=by rw [hT j t1,t2]
  have d1:((x:Int) == 0) = false:=by simp;omega
  have f1:IntKind.u64.wrap (-(x:Int)) = ((18446744073709551616 - x:Nat):Int):=by rw [IntKind.wrap_u64];omega
  have f2:bits BinOp.and IntKind.u64 (x:Int) ((18446744073709551616 - x:Nat):Int) = (P:Int):=by
    rw [bits_and_u64_nat x (18446744073709551616 - x) hx (by omega),hlow]
  have f3:IntKind.u64.wrap ((P:Int) * 285870213051353865) / 288230376151711744 = (j:Int):=by
    rw [IntKind.wrap_u64,hj];exact (castj P 285870213051353865 18446744073709551616 288230376151711744).symm
  obtain ⟨y,hy⟩:∃ y:Int,y = ((18446744073709551616 - x:Nat):Int):=⟨_,rfl⟩
  rw [← hy] at f1 f2
  have f4:(0:Int)≤(j:Int):=by omega
  have f5:(j:Int) < 64:=by omega
  have f6:wrap64 (k:Int) = (k:Int):=by unfold wrap64;omega
  clear hy hj hP hxx hlow t1 t2 hpos hp h64 hx ho hT hk
  go_enter Tryz.func92,Tryz.ntmps92
  go_wp2
  exact bodyPost_ret (v:=.int .i64 (k:Int)) (by simp [results,Tryz.results92,go_sem] <;> simp only [*]) rfl ⟨rfl,rfl⟩
end Fq
end Go.Proofs.YtnileplkkmhdgaaGreatDoor
