import Derived.Test.YthdcjalkclnneaaProg
import Derived.Test.YthdcjalkclnneaaM
import Derived.Test.YthdcjalkclnneaaA
import Derived.Test.YthdcjalkclnneaaIM
import Derived.Test.YthdcjalkclnneaaIA
import Derived.Test.YthdcjalkclnneaaIB
import Derived.Test.YthdcjalkclnneaaIC
import Derived.Test.YthdcjalkclnneaaIH
import Derived.Test.YthdcjalkclnneaaIW
import Derived.Test.YthdcjalkclnneaaIN
import Derived.Test.YthdcjalkclnneaaIR
import Derived.Test.YthdcjalkclnneaaIS
import Derived.WalkKit
import Derived.ProofKit
import Derived.RowKit3
import Derived.Deep.RegionHeld3
import Derived.WalkSpells
import Derived.StillTactics
import Derived.Laws.FloatArith
import Derived.Deep.QuietTactic
import Derived.BigQuiet
namespace Go.Proofs.Ythdcjalkclnneaa
open Go.RowKit
set_option maxRecDepth 20000 in
set_option maxHeartbeats 1000000 in
theorem point_ (a : Nat) (ha : a < 18446744073709551616) (w : World) : Calls Try.prog 9 #[.float .f64 a] w fun e w' => e = .returned (.tuple #[.agg #[.float .f64 (nlo a a), .float .f64 (nhi a a)], .int .i64 (ner a a)]) ∧ Grown w w' := by
  have hn := new_ a a ha ha
  clear ha
  generalize nlo a a = LO at hn ⊢
  generalize nhi a a = HI at hn ⊢
  generalize ner a a = E at hn ⊢
  go_enter Try.func9, Try.ntmps9
  go_wp2_with (first | (go_at_call 5; refine (hn _).mono ?_; rintro e w1 ⟨rfl, g1⟩; obtain ⟨k0, k1, z0, z1⟩ := (H2.new w (.float .f64 0) (.float .f64 0) 27).keep g1))
  exact bodyPost_ret (v := .tuple #[.agg #[.float .f64 LO, .float .f64 HI], .int .i64 E]) (by simp [results, Try.results9, go_sem, k0, k1]) rfl ⟨rfl, (by repeat (with_reducible (first | assumption | exact Grown.refl _ | apply Grown.drew | apply Grown.alloc | apply gdrewN | (refine Grown.setCell ?_ (by simp <;> omega) _) | (refine gtrans ?_ (by assumption)))))⟩
set_option maxRecDepth 20000 in
set_option maxHeartbeats 1000000 in
theorem rnew_ (n n' : Bool) (m m' : Nat) (hm : m < 9223372036854775808) (hm' : m' < 9223372036854775808) (w : World) : Calls Try.prog 7 #[.int .u64 (((wD n m) : Nat) : Int), .int .u64 (((wD n' m') : Nat) : Int)] w fun e w' => e = .returned (.tuple #[.agg #[.int .u64 (((nlo (wD n m) (wD n' m')) : Nat) : Int), .int .u64 (((nhi (wD n m) (wD n' m')) : Nat) : Int)], .bool (snd (wD n m) (wD n' m'))]) ∧ Grown w w' := by
  have hs := sound_ n n' m m' hm hm'
  have hr := rread_ n n' m m' hm hm'
  obtain ⟨X, hX⟩ : ∃ X, X = wD n m := ⟨_, rfl⟩
  obtain ⟨Y, hY⟩ : ∃ Y, Y = wD n' m' := ⟨_, rfl⟩
  rw [← hX, ← hY] at hs hr ⊢
  clear hX hY hm hm'
  by_cases c : snd X Y = true
  · rw [c] at hs ⊢
    rw [show nlo X Y = rlo X Y from by simp [nlo, rlo, c], show nhi X Y = rhi X Y from by simp [nhi, rhi, c]]
    clear c
    generalize ((rlo X Y : Nat) : Int) = LO at hr ⊢
    generalize ((rhi X Y : Nat) : Int) = HI at hr ⊢
    generalize (X : Int) = X at hs hr ⊢
    generalize (Y : Int) = Y at hs hr ⊢
    go_enter Try.func7, Try.ntmps7
    go_wp2_with (first | (go_at_call 20; refine (hs _).mono ?_; rintro e w' ⟨rfl, rfl⟩) | (go_at_call 14; refine (hr _).mono ?_; rintro e w1 ⟨rfl, g1⟩; obtain ⟨k0, k1, z0, z1⟩ := (H2.past (H2.past (H2.new w (.int .u64 0) (.int .u64 0) 24) #[.int .u64 X, .int .u64 Y] 24) #[.int .u64 X, .int .u64 Y] 24).keep g1))
    exact bodyPost_ret (v := .tuple #[.agg #[.int .u64 LO, .int .u64 HI], .bool true]) (by simp [results, Try.results7, go_sem, k0, k1]) rfl ⟨rfl, (by repeat (with_reducible (first | assumption | exact Grown.refl _ | apply Grown.drew | apply Grown.alloc | apply gdrewN | (refine Grown.setCell ?_ (by simp <;> omega) _) | (refine gtrans ?_ (by assumption)))))⟩
  · have c : snd X Y = false := by simpa using c
    rw [c] at hs ⊢
    rw [show nlo X Y = 0 from by simp [nlo, c], show nhi X Y = 0 from by simp [nhi, c]]
    clear c hr
    generalize (X : Int) = X at hs ⊢
    generalize (Y : Int) = Y at hs ⊢
    go_enter Try.func7, Try.ntmps7
    go_wp2_with (first | (go_at_call 20; refine (hs _).mono ?_; rintro e w' ⟨rfl, rfl⟩))
    exact bodyPost_ret (v := .tuple #[.agg #[.int .u64 0, .int .u64 0], .bool false]) (by simp [results, Try.results7, go_sem] <;> simp only [*]) rfl ⟨rfl, (by repeat (with_reducible (first | assumption | exact Grown.refl _ | apply Grown.drew | apply Grown.alloc | apply gdrewN | (refine Grown.setCell ?_ (by simp <;> omega) _) | (refine gtrans ?_ (by assumption)))))⟩
set_option maxRecDepth 20000 in
set_option maxHeartbeats 1000000 in
theorem out_ (a b : Nat) (w : World) : Calls Try.prog 8 #[.agg #[.float .f64 a, .float .f64 b]] w fun e w' => e = .returned (.agg #[.int .u64 (((a) : Nat) : Int), .int .u64 (((b) : Nat) : Int)]) ∧ Grown w w' := by
  have h1 := fb64 a
  have h2 := fb64 b
  generalize (a : Int) = X at h1 ⊢
  generalize (b : Int) = Y at h2 ⊢
  go_enter Try.func8, Try.ntmps8
  go_wp2
  go_region_held3 (fun w' => w'.cell? ⟨w.heap.size, 0, none⟩ = some (.float .f64 a) ∧ w'.cell? ⟨w.heap.size, 1, none⟩ = some (.float .f64 b)) (simp [go_sem, World.cell?_alloc_past]) (fail)
  go_wp2
  exact bodyPost_ret (v := .agg #[.int .u64 X, .int .u64 Y]) (by simp [results, Try.results8, go_sem] <;> simp only [*]) rfl ⟨rfl, (by repeat (with_reducible (first | assumption | exact Grown.refl _ | apply Grown.drew | apply Grown.alloc | apply gdrewN | (refine Grown.setCell ?_ (by simp <;> omega) _) | (refine gtrans ?_ (by assumption)))))⟩
end Go.Proofs.Ythdcjalkclnneaa
