import Derived.Test.YteedfmghgkmofaaGreatDoorKTOw
namespace Go.Proofs.YteedfmghgkmofaaGreatDoor
open Go.RowKit
def tkV (K X Y : Nat) (pr : Bool) : Int := if pr then yV X Y else xV X K
def tkS (X Y : Nat) (pr : Bool) : Int := if pr then yS X Y else xS X
theorem tkV_le (K : Nat) (hK : K = 1074) (X Y : Nat) (pr : Bool) : (tkV K X Y pr).natAbs ≤ tb K := by
  unfold tkV
  cases pr
  · exact xV_le X K hK
  · exact yV_le X Y K hK
set_option maxRecDepth 20000 in
set_option maxHeartbeats 1000000 in
theorem take4_ (X Y : Nat) (pr : Bool) (K : Nat) (hK : K = 1074) (hX : X < 18446744073709551616) (hY : Y < 18446744073709551616) (b : Nat) (V : Int) (k : Nat) (s : Int) (hk : k < 4611686018427387904) (w : World) (h : St w b V k s) : Calls Tryz.prog 34 #[.pointer (some ⟨b, 0, none⟩), .agg #[.int .u64 (X : Int), .int .u64 (Y : Int), .bool pr]] w fun e w' => (∃ v, e = .returned v) ∧ St w' b (V + tkV K X Y pr) (k + 1) (jn s (tkS X Y pr)) ∧ Kb b w w' := by
  have hfX := fl4_ X
  have hfY := fl4_ Y
  have hlt := h.lt
  have k0 : Kp w (w.alloc (.cells #[.int .u64 (X : Int), .int .u64 (Y : Int), .bool pr] 68)) := (Kp.refl w).alloc _
  have q0 : (w.alloc (.cells #[.int .u64 (X : Int), .int .u64 (Y : Int), .bool pr] 68)).cell? ⟨w.heap.size, 0, none⟩ = some (.int .u64 (X : Int)) := by simp [go_sem]
  have q1 : (w.alloc (.cells #[.int .u64 (X : Int), .int .u64 (Y : Int), .bool pr] 68)).cell? ⟨w.heap.size, 1, none⟩ = some (.int .u64 (Y : Int)) := by simp [go_sem]
  have q2 : (w.alloc (.cells #[.int .u64 (X : Int), .int .u64 (Y : Int), .bool pr] 68)).cell? ⟨w.heap.size, 2, none⟩ = some (.bool pr) := by simp [go_sem]
  have h1 := h.kp k0
  unfold tkV tkS
  cases pr
  · simp only [Bool.false_eq_true, if_false]
    have had := stadd_ X K hK hX b V k s hk _ h1
    clear hK hX hY hk h h1
    go_enter Tryz.func34, Tryz.ntmps34
    go_wp2_with (first | (go_at_call_of 16 (Value.int IntKind.u64 (X : Int)); refine (hfX _).mono ?_; rintro e w' ⟨rfl, hw'⟩; obtain rfl := hw'.symm; clear hw') | (go_at_call 17; refine had.mono ?_; rintro e w1 ⟨⟨v1, rfl⟩, hS1, kb1⟩))
    exact bodyPost_end (v := .tuple #[]) (by kernel_rfl) rfl ⟨⟨_, rfl⟩, hS1, (Kb.of k0).trans kb1⟩
  · simp only [if_true]
    have had := stmul_ X Y hX hY b V k s hk _ (show St (w.alloc (.cells #[.int .u64 (X : Int), .int .u64 (Y : Int), .bool true] 68)).drew b V k s from h1)
    clear hK hX hY hk h h1
    go_enter Tryz.func34, Tryz.ntmps34
    go_upto_region 2 with fail
    generalize w.alloc (.cells #[.int .u64 (X : Int), .int .u64 (Y : Int), .bool true] 68) = W0 at *
    have q0d : W0.drew.cell? ⟨w.heap.size, 0, none⟩ = some (.int .u64 (X : Int)) := q0
    have q1d : W0.drew.cell? ⟨w.heap.size, 1, none⟩ = some (.int .u64 (Y : Int)) := q1
    first | (go_region_with (first | (go_at_call_of 16 (Value.int IntKind.u64 (X : Int)); refine (hfX _).mono ?_; rintro e w' ⟨rfl, hw'⟩; obtain rfl := hw'.symm; clear hw') | (go_at_call_of 16 (Value.int IntKind.u64 (Y : Int)); refine (hfY _).mono ?_; rintro e w' ⟨rfl, hw'⟩; obtain rfl := hw'.symm; clear hw') | (go_at_call 15; refine had.mono ?_; rintro e w1 ⟨⟨v1, rfl⟩, hS1, kb1⟩))) | fail
    all_goals (
      go_wp2
      exact bodyPost_end (v := .tuple #[]) (by kernel_rfl) rfl ⟨⟨_, rfl⟩, hS1, (Kb.of k0).drew.trans kb1⟩)

abbrev Tm : Type := Nat × Nat × Bool
def ArrT (w : World) (p : Option Addr) (L : List Tm) : Prop := L = [] ∨ ∃ b off, p = some ⟨b, off, none⟩ ∧ ∀ j, j < L.length → w.cell? ⟨b, off + j * 3, none⟩ = some (.int .u64 (((L.getD j (0, 0, false)).1 : Nat) : Int)) ∧ w.cell? ⟨b, off + j * 3 + 1, none⟩ = some (.int .u64 (((L.getD j (0, 0, false)).2.1 : Nat) : Int)) ∧ w.cell? ⟨b, off + j * 3 + 2, none⟩ = some (.bool (L.getD j (0, 0, false)).2.2)
def TmOk (L : List Tm) : Prop := ∀ j, j < L.length → (L.getD j (0, 0, false)).1 < 18446744073709551616 ∧ (L.getD j (0, 0, false)).2.1 < 18446744073709551616
end Go.Proofs.YteedfmghgkmofaaGreatDoor
