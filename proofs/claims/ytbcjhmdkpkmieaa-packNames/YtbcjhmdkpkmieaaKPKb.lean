import Derived.Test.YtbcjhmdkpkmieaaKPKa
import Derived.Test.YtbcjhmdkpkmieaaKQA
namespace Go.Proofs.Ytbcjhmdkpkmieaa
open Go.RowKit
open Go
namespace B8
set_option maxRecDepth 20000 in
theorem slm (g o k m n c : Nat) (h : k + m ≤ c) (hm : 0 < m) (w : World) : (Instr.slice 22 (.slice (some ⟨g, o, none⟩) n c) (some (.int .i64 (k : Int))) (some (.int .i64 ((k : Int) + (m : Int)))) (some (.int .i64 ((k : Int) + (m : Int))))).run Try.prog w = .ok (.slice (some ⟨g, o + k, none⟩) m m) w := by
  rw [run_slice_lhm w 22 (some ⟨g, o, none⟩) n c Try.underlying22 .i64 .i64 .i64 (k : Int) ((k : Int) + (m : Int)) ((k : Int) + (m : Int)) (by omega) (by omega) (by omega) (by omega)]
  have e : (sizeOf (Try.prog.elem 22)).run Try.prog w = .ok 1 w := by kernel_rfl
  have e2 : ((k : Int) + (m : Int)).toNat - k = m := by omega
  have e3 : ¬ ((k : Int) + (m : Int)).toNat = k := by omega
  rw [e]
  simp [Result.andThen, sliced, e2, e3, addr_add]
set_option maxRecDepth 20000 in
set_option maxHeartbeats 400000 in
theorem cut_ (g o n c k m : Nat) (h : k + m ≤ c) (hm : 0 < m) (hc : k + m ≤ 1099511627776) (w : World) : Calls Try.prog 35 #[.slice (some ⟨g, o, none⟩) n c, .int .i64 (k : Int), .int .i64 (m : Int)] w fun e w' => e = .returned (.slice (some ⟨g, o + k, none⟩) m m) ∧ w' = w := by
  have hsl := slm g o k m n c h hm
  have h1 : (k : Int) + (m : Int) ≤ 1099511627776 := by omega
  clear h hm hc
  go_enter Try.func35, Try.ntmps35
  go_wp2
  exact bodyPost_ret (v := .slice (some ⟨g, o + k, none⟩) m m) (by simp [results, Try.results35, go_sem]) rfl ⟨rfl, rfl⟩
end B8
end Go.Proofs.Ytbcjhmdkpkmieaa
