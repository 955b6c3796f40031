import Derived.Test.YtnileplkkmhdgaaGreatDoorKXA0
import Derived.Test.YtnileplkkmhdgaaGreatDoorKXY
import Derived.Laws.BitsAllLaws
import Derived.Laws.Slices
set_option maxHeartbeats 400000
set_option maxRecDepth 20000
namespace Go.Proofs.YtnileplkkmhdgaaGreatDoor
open Go.RowKit
theorem upward_ (d:Int) (S r wh:Nat) (w:World) (hr:r < 4611686018427387904) :
    Calls Tryz.prog 142 #[.int .i64 d,.int .u64 (S:Int),.int .u64 (r:Int),.int .u64 (wh:Int)] w fun e w'=>e = .returned (.bool (upw d S r wh))∧w' = w:=by
  unfold upw
  obtain ⟨r2,hr2⟩:∃ r2,r2 = 2 * r:=⟨_,rfl⟩
  have g1:IntKind.u64.wrap (2 * (r:Int)) = (r2:Int):=by rw [IntKind.wrap_u64];omega
  rw [← hr2]
  by_cases c1:d = 1
  · rw [if_pos c1]
    have e1:(d == 1) = true:=by simp [c1]
    clear hr g1 hr2 c1
    by_cases cr:0 < r
    · rw [decide_eq_true cr]
      have t1:0 < (r:Int):=by omega
      clear cr
      go_enter Tryz.func142,Tryz.ntmps142
      go_wp2
      exact bodyPost_ret (v:=.bool true) (by simp [results,Tryz.results142,go_sem] <;> omega) rfl ⟨rfl,rfl⟩
    · rw [decide_eq_false cr]
      have t1:r = 0:=by omega
      subst t1
      clear cr
      go_enter Tryz.func142,Tryz.ntmps142
      go_wp2
      exact bodyPost_ret (v:=.bool false) (by simp [results,Tryz.results142,go_sem] <;> omega) rfl ⟨rfl,rfl⟩
  · rw [if_neg c1]
    have e1:(d == 1) = false:=by simp [c1]
    by_cases c2:d = -1
    · rw [if_pos c2]
      have e2:(d == -1) = true:=by simp [c2]
      clear hr g1 hr2 c1 c2
      go_enter Tryz.func142,Tryz.ntmps142
      go_wp2
      exact bodyPost_ret (v:=.bool false) (by simp [results,Tryz.results142,go_sem] <;> omega) rfl ⟨rfl,rfl⟩
    · rw [if_neg c2]
      have e2:(d == -1) = false:=by simp [c2]
      clear hr hr2 c1 c2
      by_cases ca:wh < r2
      · rw [decide_eq_true ca]
        have t1:(wh:Int) < (r2:Int):=by omega
        rw [Bool.true_or]
        clear ca
        go_enter Tryz.func142,Tryz.ntmps142
        go_wp2
        exact bodyPost_ret (v:=.bool true) (by simp [results,Tryz.results142,go_sem] <;> omega) rfl ⟨rfl,rfl⟩
      · rw [decide_eq_false ca,Bool.false_or]
        have t1:¬ ((wh:Int) < (r2:Int)):=by omega
        by_cases cb:wh = r2
        · have t2:((r2:Int) == (wh:Int)) = true:=by simp;omega
          rw [decide_eq_true cb,Bool.true_and]
          have HC:Hid (wh = r2):=cb
          clear ca cb
          rcases (by omega:S % 2 = 0∨S % 2 = 1) with cp | cp
          · have t3:(S:Int) % 2 = 0:=by omega
            rw [cp]
            clear cp
            go_enter Tryz.func142,Tryz.ntmps142
            go_wp2
            exact bodyPost_ret (v:=.bool false) (by simp [results,Tryz.results142,go_sem] <;> omega) rfl ⟨rfl,rfl⟩
          · have t3:(S:Int) % 2 = 1:=by omega
            rw [cp]
            clear cp
            go_enter Tryz.func142,Tryz.ntmps142
            go_wp2
            exact bodyPost_ret (v:=.bool true) (by simp [results,Tryz.results142,go_sem] <;> omega) rfl ⟨rfl,rfl⟩
        · have t2:((r2:Int) == (wh:Int)) = false:=by simp;omega
          rw [decide_eq_false cb,Bool.false_and]
          clear ca cb
          go_enter Tryz.func142,Tryz.ntmps142
          go_wp2
          exact bodyPost_ret (v:=.bool false) (by simp [results,Tryz.results142,go_sem] <;> omega) rfl ⟨rfl,rfl⟩
end Go.Proofs.YtnileplkkmhdgaaGreatDoor
