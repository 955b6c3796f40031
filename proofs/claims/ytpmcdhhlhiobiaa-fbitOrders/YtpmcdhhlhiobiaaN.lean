import Derived.Test.YtpmcdhhlhiobiaaProg
import Derived.Test.YtpmcdhhlhiobiaaM
import Derived.Test.YtpmcdhhlhiobiaaA
import Derived.Test.YtpmcdhhlhiobiaaP
import Derived.Test.YtpmcdhhlhiobiaaRD
import Derived.Test.YtpmcdhhlhiobiaaRS
import Derived.Test.YtpmcdhhlhiobiaaSD
import Derived.Test.YtpmcdhhlhiobiaaSS
import Derived.Test.YtpmcdhhlhiobiaaQD
import Derived.Test.YtpmcdhhlhiobiaaQS
import Derived.WalkKit
import Derived.ProofKit
import Derived.RowKit3
import Derived.Deep.RegionHeld3
import Derived.WalkSpells
import Derived.StillTactics
import Derived.Laws.FloatArith
import Derived.Deep.QuietTactic
import Derived.BigQuiet
namespace Go.Proofs.Ytpmcdhhlhiobiaa
open Go.RowKit
set_option maxRecDepth 20000 in
set_option maxHeartbeats 400000 in
theorem long_w (x : Nat) (w : World) : Calls Try.prog 9 #[.int .u64 (x : Int)] w fun e w' => e = .returned (.float .f64 x) ∧ w' = w := by
  go_enter Try.func9, Try.ntmps9
  go_wp2_with (first | (simp only [ff64]))
  exact bodyPost_ret (v := .float .f64 x) (by simp [results, Try.results9, go_sem] <;> simp only [*]) rfl ⟨rfl, rfl⟩

set_option maxRecDepth 20000 in
set_option maxHeartbeats 400000 in
theorem brief_w (x : Nat) (w : World) : Calls Try.prog 13 #[.int .u32 (x : Int)] w fun e w' => e = .returned (.float .f32 x) ∧ w' = w := by
  go_enter Try.func13, Try.ntmps13
  go_wp2_with (first | (simp only [ff32]))
  exact bodyPost_ret (v := .float .f32 x) (by simp [results, Try.results13, go_sem] <;> simp only [*]) rfl ⟨rfl, rfl⟩

set_option maxRecDepth 20000 in
set_option maxHeartbeats 1000000 in
theorem rup_D (n : Bool) (m : Nat) (hm : m ≤ 9218868437227405312) (h2 : plz n m ≠ 9218868437227405312) (w : World) : Calls Try.prog 22 #[.bool true, .int .u64 ((wD n m : Nat) : Int)] w fun e w' => e = .returned (.int .u64 ((fD (plz n m + 1) : Nat) : Int)) ∧ Grown w w' := by
  have hpl := rplace_D n m hm
  have hb := plz_bd n m
  obtain ⟨x, hx⟩ : ∃ x : Int, x = ((wD n m : Nat) : Int) := ⟨_, rfl⟩
  obtain ⟨p, hp⟩ : ∃ p : Int, p = plz n m := ⟨_, rfl⟩
  rw [← hx] at hpl ⊢
  rw [← hp] at hpl h2 hb ⊢
  have hat := rat_D (p + 1) (by omega) (by omega)
  have d2 : wrap64 (p + 1) = p + 1 := wrapI (by omega) (by omega)
  clear hm h2 hb hp hx
  go_enter Try.func22, Try.ntmps22
  go_wp2_with (first | (go_at_call 55; refine (hpl _).mono ?_; rintro e w' ⟨rfl, g1⟩) | (go_at_call 56; refine (hat _).mono ?_; rintro e w' ⟨rfl, g2⟩))
  exact bodyPost_ret (v := .int .u64 ((fD (p + 1) : Nat) : Int)) (by simp [results, Try.results22, go_sem] <;> simp only [*]) rfl ⟨rfl, (by repeat (with_reducible (first | assumption | exact Grown.refl _ | apply Grown.drew | apply Grown.alloc | apply gdrewN | (refine gtrans ?_ (by assumption)))))⟩

set_option maxRecDepth 20000 in
set_option maxHeartbeats 1000000 in
theorem rupn_D (n : Bool) (m : Nat) (hm : 9218868437227405312 < m) (h2 : m < 9223372036854775808) (w : World) : Calls Try.prog 22 #[.bool true, .int .u64 ((wD n m : Nat) : Int)] w fun e w' => e = .returned (.int .u64 ((wD n m : Nat) : Int)) ∧ Grown w w' := by
  have hpl := rplacen_D n m hm h2
  obtain ⟨x, hx⟩ : ∃ x : Int, x = ((wD n m : Nat) : Int) := ⟨_, rfl⟩
  rw [← hx] at hpl ⊢
  clear hm h2 hx
  go_enter Try.func22, Try.ntmps22
  go_wp2_with (first | (go_at_call 55; refine (hpl _).mono ?_; rintro e w' ⟨rfl, g1⟩))
  exact bodyPost_ret (v := .int .u64 x) (by simp [results, Try.results22, go_sem] <;> simp only [*]) rfl ⟨rfl, (by repeat (with_reducible (first | assumption | exact Grown.refl _ | apply Grown.drew | apply Grown.alloc | apply gdrewN | (refine gtrans ?_ (by assumption)))))⟩

set_option maxRecDepth 20000 in
set_option maxHeartbeats 1000000 in
theorem rupe_D (w : World) : Calls Try.prog 22 #[.bool true, .int .u64 ((wD false 9218868437227405312 : Nat) : Int)] w fun e w' => e = .returned (.int .u64 ((wD false 9218868437227405312 : Nat) : Int)) ∧ Grown w w' := by
  have hpl := rplace_D false 9218868437227405312 (by omega)
  obtain ⟨p, hp⟩ : ∃ p : Int, p = plz false 9218868437227405312 := ⟨_, rfl⟩
  have hp2 : p = 9218868437227405312 := hp
  have hat := ratx_D (p + 1) (by omega)
  have d2 : wrap64 (p + 1) = p + 1 := wrapI (by omega) (by omega)
  rw [← hp] at hpl
  obtain ⟨x, hx⟩ : ∃ x : Int, x = ((wD false 9218868437227405312 : Nat) : Int) := ⟨_, rfl⟩
  rw [← hx] at hpl ⊢
  clear hp hp2 hx
  go_enter Try.func22, Try.ntmps22
  go_wp2_with (first | (go_at_call 55; refine (hpl _).mono ?_; rintro e w' ⟨rfl, g1⟩) | (go_at_call 56; refine (hat _).mono ?_; rintro e w' ⟨rfl, g2⟩))
  exact bodyPost_ret (v := .int .u64 x) (by simp [results, Try.results22, go_sem] <;> simp only [*]) rfl ⟨rfl, (by repeat (with_reducible (first | assumption | exact Grown.refl _ | apply Grown.drew | apply Grown.alloc | apply gdrewN | (refine gtrans ?_ (by assumption)))))⟩

set_option maxRecDepth 20000 in
set_option maxHeartbeats 1000000 in
theorem rdn_D (n : Bool) (m : Nat) (hm : m ≤ 9218868437227405312) (h2 : plz n m ≠ -9218868437227405312) (w : World) : Calls Try.prog 23 #[.bool true, .int .u64 ((wD n m : Nat) : Int)] w fun e w' => e = .returned (.int .u64 ((fD (plz n m - 1) : Nat) : Int)) ∧ Grown w w' := by
  have hpl := rplace_D n m hm
  have hb := plz_bd n m
  obtain ⟨x, hx⟩ : ∃ x : Int, x = ((wD n m : Nat) : Int) := ⟨_, rfl⟩
  obtain ⟨p, hp⟩ : ∃ p : Int, p = plz n m := ⟨_, rfl⟩
  rw [← hx] at hpl ⊢
  rw [← hp] at hpl h2 hb ⊢
  have hat := rat_D (p - 1) (by omega) (by omega)
  have d2 : wrap64 (p - 1) = p - 1 := wrapI (by omega) (by omega)
  clear hm h2 hb hp hx
  go_enter Try.func23, Try.ntmps23
  go_wp2_with (first | (go_at_call 55; refine (hpl _).mono ?_; rintro e w' ⟨rfl, g1⟩) | (go_at_call 56; refine (hat _).mono ?_; rintro e w' ⟨rfl, g2⟩))
  exact bodyPost_ret (v := .int .u64 ((fD (p - 1) : Nat) : Int)) (by simp [results, Try.results23, go_sem] <;> simp only [*]) rfl ⟨rfl, (by repeat (with_reducible (first | assumption | exact Grown.refl _ | apply Grown.drew | apply Grown.alloc | apply gdrewN | (refine gtrans ?_ (by assumption)))))⟩

set_option maxRecDepth 20000 in
set_option maxHeartbeats 1000000 in
theorem rdnn_D (n : Bool) (m : Nat) (hm : 9218868437227405312 < m) (h2 : m < 9223372036854775808) (w : World) : Calls Try.prog 23 #[.bool true, .int .u64 ((wD n m : Nat) : Int)] w fun e w' => e = .returned (.int .u64 ((wD n m : Nat) : Int)) ∧ Grown w w' := by
  have hpl := rplacen_D n m hm h2
  obtain ⟨x, hx⟩ : ∃ x : Int, x = ((wD n m : Nat) : Int) := ⟨_, rfl⟩
  rw [← hx] at hpl ⊢
  clear hm h2 hx
  go_enter Try.func23, Try.ntmps23
  go_wp2_with (first | (go_at_call 55; refine (hpl _).mono ?_; rintro e w' ⟨rfl, g1⟩))
  exact bodyPost_ret (v := .int .u64 x) (by simp [results, Try.results23, go_sem] <;> simp only [*]) rfl ⟨rfl, (by repeat (with_reducible (first | assumption | exact Grown.refl _ | apply Grown.drew | apply Grown.alloc | apply gdrewN | (refine gtrans ?_ (by assumption)))))⟩

set_option maxRecDepth 20000 in
set_option maxHeartbeats 1000000 in
theorem rdne_D (w : World) : Calls Try.prog 23 #[.bool true, .int .u64 ((wD true 9218868437227405312 : Nat) : Int)] w fun e w' => e = .returned (.int .u64 ((wD true 9218868437227405312 : Nat) : Int)) ∧ Grown w w' := by
  have hpl := rplace_D true 9218868437227405312 (by omega)
  obtain ⟨p, hp⟩ : ∃ p : Int, p = plz true 9218868437227405312 := ⟨_, rfl⟩
  have hp2 : p = -9218868437227405312 := hp
  have hat := ratx_D (p - 1) (by omega)
  have d2 : wrap64 (p - 1) = p - 1 := wrapI (by omega) (by omega)
  rw [← hp] at hpl
  obtain ⟨x, hx⟩ : ∃ x : Int, x = ((wD true 9218868437227405312 : Nat) : Int) := ⟨_, rfl⟩
  rw [← hx] at hpl ⊢
  clear hp hp2 hx
  go_enter Try.func23, Try.ntmps23
  go_wp2_with (first | (go_at_call 55; refine (hpl _).mono ?_; rintro e w' ⟨rfl, g1⟩) | (go_at_call 56; refine (hat _).mono ?_; rintro e w' ⟨rfl, g2⟩))
  exact bodyPost_ret (v := .int .u64 x) (by simp [results, Try.results23, go_sem] <;> simp only [*]) rfl ⟨rfl, (by repeat (with_reducible (first | assumption | exact Grown.refl _ | apply Grown.drew | apply Grown.alloc | apply gdrewN | (refine gtrans ?_ (by assumption)))))⟩

set_option maxRecDepth 20000 in
set_option maxHeartbeats 2000000 in
theorem rordern_D (n n' : Bool) (m m' : Nat) (h2 : m < 9223372036854775808) (h3 : m' < 9223372036854775808) (hn : 9218868437227405312 < m ∨ 9218868437227405312 < m') (w : World) : Calls Try.prog 32 #[.bool true, .int .u64 ((wD n m : Nat) : Int), .int .u64 ((wD n' m' : Nat) : Int)] w fun e w' => e = .returned (.int .i64 (cmpz (rkD n m) (rkD n' m'))) ∧ Grown w w' := by
  have b1 := plz_bd n m
  have b2 := plz_bd n' m'
  have ho1 := rof_D n m h2
  have ho2 := rof_D n' m' h3
  have hq1 := fun c => rplace_D n m c
  have hq2 := fun c => rplace_D n' m' c
  obtain ⟨x, hx⟩ : ∃ x : Int, x = ((wD n m : Nat) : Int) := ⟨_, rfl⟩
  obtain ⟨y, hy⟩ : ∃ y : Int, y = ((wD n' m' : Nat) : Int) := ⟨_, rfl⟩
  rw [← hx] at ho1 hq1 ⊢
  rw [← hy] at ho2 hq2 ⊢
  clear hx hy
  obtain ⟨k1, hk1⟩ : ∃ k1 : Int, k1 = kdD m := ⟨_, rfl⟩
  obtain ⟨k2, hk2⟩ : ∃ k2 : Int, k2 = kdD m' := ⟨_, rfl⟩
  rw [← hk1] at ho1
  rw [← hk2] at ho2
  by_cases c1 : 9218868437227405312 < m
  · have r1 : rkD n m = 9223372036854775807 := by unfold rkD rkG; simp [c1]
    have e1 : k1 = 2 := by rw [hk1]; unfold kdD kdG; (repeat' split) <;> omega
    rw [e1] at ho1
    by_cases c2 : 9218868437227405312 < m'
    · have r2 : rkD n' m' = 9223372036854775807 := by unfold rkD rkG; simp [c2]
      have e2 : k2 = 2 := by rw [hk2]; unfold kdD kdG; (repeat' split) <;> omega
      rw [e2] at ho2
      have ec : cmpz (rkD n m) (rkD n' m') = 0 := by rw [r1, r2]; unfold cmpz; omega
      rw [ec]
      clear hk1 hk2 e1 e2 r1 r2 ec c1 c2 hn h2 h3 b1 b2 hq1 hq2
      go_enter Try.func32, Try.ntmps32
      go_wp2_with fail
      refine (ho1 _).mono ?_; rintro e w1 ⟨rfl, g1⟩
      go_wp2_with fail
      refine (ho2 _).mono ?_; rintro e w2 ⟨rfl, g2⟩
      have z2 : w1.heap.size < w2.heap.size := by have := g2.2.2; simp at this; omega
      have q20 : w2.cell? ⟨w1.heap.size, 0, none⟩ = some (.int .i64 2) := by rw [gcell g2 _ _ (by simp)]; simp [go_sem]
      have q21 : w2.cell? ⟨w1.heap.size, 1, none⟩ = some (.bool n) := by rw [gcell g2 _ _ (by simp)]; simp [go_sem]
      go_wp2
      exact bodyPost_ret (v := .int .i64 0) (by simp [results, Try.results32, go_sem] <;> simp only [*]) rfl ⟨rfl, (by repeat (with_reducible (first | assumption | exact Grown.refl _ | apply Grown.drew | apply Grown.alloc | apply gdrewN | (refine gtrans ?_ (by assumption)))))⟩
    · have r2 : rkD n' m' < 9223372036854775807 := by unfold rkD rkG; simp [c2]; split <;> omega
      have e2 : (k2 == 2) = false := by rw [hk2]; unfold kdD kdG; simp; (repeat' split) <;> omega
      have e3 : ((2 : Int) == k2) = false := by rw [hk2]; unfold kdD kdG; simp; (repeat' split) <;> omega
      have ec : cmpz (rkD n m) (rkD n' m') = 1 := by rw [r1]; unfold cmpz; (repeat' split) <;> omega
      rw [ec]
      clear hk1 hk2 e1 r1 r2 ec c1 c2 hn h2 h3 b1 b2 hq1 hq2
      go_enter Try.func32, Try.ntmps32
      go_wp2_with fail
      refine (ho1 _).mono ?_; rintro e w1 ⟨rfl, g1⟩
      go_wp2_with fail
      refine (ho2 _).mono ?_; rintro e w2 ⟨rfl, g2⟩
      have z2 : w1.heap.size < w2.heap.size := by have := g2.2.2; simp at this; omega
      have q20 : w2.cell? ⟨w1.heap.size, 0, none⟩ = some (.int .i64 2) := by rw [gcell g2 _ _ (by simp)]; simp [go_sem]
      have q21 : w2.cell? ⟨w1.heap.size, 1, none⟩ = some (.bool n) := by rw [gcell g2 _ _ (by simp)]; simp [go_sem]
      go_wp2
      exact bodyPost_ret (v := .int .i64 1) (by simp [results, Try.results32, go_sem] <;> simp only [*]) rfl ⟨rfl, (by repeat (with_reducible (first | assumption | exact Grown.refl _ | apply Grown.drew | apply Grown.alloc | apply gdrewN | (refine gtrans ?_ (by assumption)))))⟩
  · have c2 : 9218868437227405312 < m' := by omega
    have r2 : rkD n' m' = 9223372036854775807 := by unfold rkD rkG; simp [c2]
    have e2 : k2 = 2 := by rw [hk2]; unfold kdD kdG; (repeat' split) <;> omega
    rw [e2] at ho2
    have r1 : rkD n m < 9223372036854775807 := by unfold rkD rkG; simp [c1]; split <;> omega
    have e1 : (k1 == 2) = false := by rw [hk1]; unfold kdD kdG; simp; (repeat' split) <;> omega
    have ec : cmpz (rkD n m) (rkD n' m') = -1 := by rw [r2]; unfold cmpz; (repeat' split) <;> omega
    rw [ec]
    clear hk1 hk2 e2 r1 r2 ec c1 c2 hn h2 h3 b1 b2 hq1 hq2
    go_enter Try.func32, Try.ntmps32
    go_wp2_with fail
    refine (ho1 _).mono ?_; rintro e w1 ⟨rfl, g1⟩
    go_wp2_with fail
    refine (ho2 _).mono ?_; rintro e w2 ⟨rfl, g2⟩
    have z2 : w1.heap.size < w2.heap.size := by have := g2.2.2; simp at this; omega
    have q20 : w2.cell? ⟨w1.heap.size, 0, none⟩ = some (.int .i64 k1) := by rw [gcell g2 _ _ (by simp)]; simp [go_sem]
    have q21 : w2.cell? ⟨w1.heap.size, 1, none⟩ = some (.bool n) := by rw [gcell g2 _ _ (by simp)]; simp [go_sem]
    go_wp2
    exact bodyPost_ret (v := .int .i64 (-1)) (by simp [results, Try.results32, go_sem] <;> simp only [*]) rfl ⟨rfl, (by repeat (with_reducible (first | assumption | exact Grown.refl _ | apply Grown.drew | apply Grown.alloc | apply gdrewN | (refine gtrans ?_ (by assumption)))))⟩

set_option maxRecDepth 20000 in
set_option maxHeartbeats 4000000 in
theorem rorder_D (n n' : Bool) (m m' : Nat) (h2 : m ≤ 9218868437227405312) (h3 : m' ≤ 9218868437227405312) (w : World) : Calls Try.prog 32 #[.bool true, .int .u64 ((wD n m : Nat) : Int), .int .u64 ((wD n' m' : Nat) : Int)] w fun e w' => e = .returned (.int .i64 (cmpz (rkD n m) (rkD n' m'))) ∧ Grown w w' := by
  have ho1 := rof_D n m (by omega)
  have ho2 := rof_D n' m' (by omega)
  have hq1 := rplace_D n m h2
  have hq2 := rplace_D n' m' h3
  obtain ⟨x, hx⟩ : ∃ x : Int, x = ((wD n m : Nat) : Int) := ⟨_, rfl⟩
  obtain ⟨y, hy⟩ : ∃ y : Int, y = ((wD n' m' : Nat) : Int) := ⟨_, rfl⟩
  rw [← hx] at ho1 hq1 ⊢
  rw [← hy] at ho2 hq2 ⊢
  clear hx hy
  obtain ⟨k1, hk1⟩ : ∃ k1 : Int, k1 = kdD m := ⟨_, rfl⟩
  obtain ⟨k2, hk2⟩ : ∃ k2 : Int, k2 = kdD m' := ⟨_, rfl⟩
  rw [← hk1] at ho1
  rw [← hk2] at ho2
  have e1 : (k1 == 2) = false := by rw [hk1]; unfold kdD kdG; simp; (repeat' split) <;> omega
  have e2 : (k2 == 2) = false := by rw [hk2]; unfold kdD kdG; simp; (repeat' split) <;> omega
  have r1 : rkD n m = plz n m - (if n then 1 else 0) := by unfold rkD rkG; split <;> omega
  have r2 : rkD n' m' = plz n' m' - (if n' then 1 else 0) := by unfold rkD rkG; split <;> omega
  have b1 : plz n m = if n then -(m : Int) else m := rfl
  have b2 : plz n' m' = if n' then -(m' : Int) else m' := rfl
  obtain ⟨p, hp⟩ : ∃ p : Int, p = plz n m := ⟨_, rfl⟩
  obtain ⟨q, hq⟩ : ∃ q : Int, q = plz n' m' := ⟨_, rfl⟩
  rw [← hp] at hq1 r1 b1
  rw [← hq] at hq2 r2 b2
  rcases (by omega : p < q ∨ q < p ∨ p = q) with c | c | c
  · have ec : cmpz (rkD n m) (rkD n' m') = -1 := by
      rw [r1, r2]; unfold cmpz; cases n <;> cases n' <;> simp at * <;> omega
    rw [ec]
    clear hk1 hk2 r1 r2 ec h2 h3 b1 b2 hp hq
    go_enter Try.func32, Try.ntmps32
    go_wp2_with fail
    refine (ho1 _).mono ?_; rintro e w1 ⟨rfl, g1⟩
    go_wp2_with fail
    refine (ho2 _).mono ?_; rintro e w2 ⟨rfl, g2⟩
    have z2 : w1.heap.size < w2.heap.size := by have := g2.2.2; simp at this; omega
    have q20 : w2.cell? ⟨w1.heap.size, 0, none⟩ = some (.int .i64 k1) := by rw [gcell g2 _ _ (by simp)]; simp [go_sem]
    have q21 : w2.cell? ⟨w1.heap.size, 1, none⟩ = some (.bool n) := by rw [gcell g2 _ _ (by simp)]; simp [go_sem]
    go_wp2_with fail
    refine (hq1 _).mono ?_; rintro e w3 ⟨rfl, g3⟩
    have z3 : w2.heap.size < w3.heap.size := by have := g3.2.2; simp at this; omega
    have q31 : w3.cell? ⟨w1.heap.size, 1, none⟩ = some (.bool n) := by rw [gcell g3 _ _ (by simp; omega)]; simp [go_sem, q21, z2]
    have q32 : w3.cell? ⟨w2.heap.size, 1, none⟩ = some (.bool n') := by rw [gcell g3 _ _ (by simp)]; simp [go_sem]
    go_wp2_with fail
    refine (hq2 _).mono ?_; rintro e w4 ⟨rfl, g4⟩
    have q41 : w4.cell? ⟨w1.heap.size, 1, none⟩ = some (.bool n) := by rw [gcell g4 _ _ (by omega)]; exact q31
    have q42 : w4.cell? ⟨w2.heap.size, 1, none⟩ = some (.bool n') := by rw [gcell g4 _ _ (by omega)]; exact q32
    go_wp2
    exact bodyPost_ret (v := .int .i64 (-1)) (by simp [results, Try.results32, go_sem] <;> simp only [*]) rfl ⟨rfl, (by repeat (with_reducible (first | assumption | exact Grown.refl _ | apply Grown.drew | apply Grown.alloc | apply gdrewN | (refine gtrans ?_ (by assumption)))))⟩
  · have ec : cmpz (rkD n m) (rkD n' m') = 1 := by
      rw [r1, r2]; unfold cmpz; cases n <;> cases n' <;> simp at * <;> omega
    have c' : ¬ (p < q) := by omega
    rw [ec]
    clear hk1 hk2 r1 r2 ec h2 h3 b1 b2 hp hq
    go_enter Try.func32, Try.ntmps32
    go_wp2_with fail
    refine (ho1 _).mono ?_; rintro e w1 ⟨rfl, g1⟩
    go_wp2_with fail
    refine (ho2 _).mono ?_; rintro e w2 ⟨rfl, g2⟩
    have z2 : w1.heap.size < w2.heap.size := by have := g2.2.2; simp at this; omega
    have q20 : w2.cell? ⟨w1.heap.size, 0, none⟩ = some (.int .i64 k1) := by rw [gcell g2 _ _ (by simp)]; simp [go_sem]
    have q21 : w2.cell? ⟨w1.heap.size, 1, none⟩ = some (.bool n) := by rw [gcell g2 _ _ (by simp)]; simp [go_sem]
    go_wp2_with fail
    refine (hq1 _).mono ?_; rintro e w3 ⟨rfl, g3⟩
    have z3 : w2.heap.size < w3.heap.size := by have := g3.2.2; simp at this; omega
    have q31 : w3.cell? ⟨w1.heap.size, 1, none⟩ = some (.bool n) := by rw [gcell g3 _ _ (by simp; omega)]; simp [go_sem, q21, z2]
    have q32 : w3.cell? ⟨w2.heap.size, 1, none⟩ = some (.bool n') := by rw [gcell g3 _ _ (by simp)]; simp [go_sem]
    go_wp2_with fail
    refine (hq2 _).mono ?_; rintro e w4 ⟨rfl, g4⟩
    have q41 : w4.cell? ⟨w1.heap.size, 1, none⟩ = some (.bool n) := by rw [gcell g4 _ _ (by omega)]; exact q31
    have q42 : w4.cell? ⟨w2.heap.size, 1, none⟩ = some (.bool n') := by rw [gcell g4 _ _ (by omega)]; exact q32
    go_wp2
    exact bodyPost_ret (v := .int .i64 1) (by simp [results, Try.results32, go_sem] <;> simp only [*]) rfl ⟨rfl, (by repeat (with_reducible (first | assumption | exact Grown.refl _ | apply Grown.drew | apply Grown.alloc | apply gdrewN | (refine gtrans ?_ (by assumption)))))⟩
  · have c' : ¬ (p < q) := by omega
    have c2 : ¬ (q < p) := by omega
    cases n <;> cases n'
    · have ec : cmpz (rkD false m) (rkD false m') = 0 := by
        rw [r1, r2]; unfold cmpz; simp <;> omega
      rw [ec]
      clear hk1 hk2 r1 r2 ec h2 h3 b1 b2 hp hq c
      go_enter Try.func32, Try.ntmps32
      go_wp2_with fail
      refine (ho1 _).mono ?_; rintro e w1 ⟨rfl, g1⟩
      go_wp2_with fail
      refine (ho2 _).mono ?_; rintro e w2 ⟨rfl, g2⟩
      have z2 : w1.heap.size < w2.heap.size := by have := g2.2.2; simp at this; omega
      have q20 : w2.cell? ⟨w1.heap.size, 0, none⟩ = some (.int .i64 k1) := by rw [gcell g2 _ _ (by simp)]; simp [go_sem]
      have q21 : w2.cell? ⟨w1.heap.size, 1, none⟩ = some (.bool false) := by rw [gcell g2 _ _ (by simp)]; simp [go_sem]
      go_wp2_with fail
      refine (hq1 _).mono ?_; rintro e w3 ⟨rfl, g3⟩
      have z3 : w2.heap.size < w3.heap.size := by have := g3.2.2; simp at this; omega
      have q31 : w3.cell? ⟨w1.heap.size, 1, none⟩ = some (.bool false) := by rw [gcell g3 _ _ (by simp; omega)]; simp [go_sem, q21, z2]
      have q32 : w3.cell? ⟨w2.heap.size, 1, none⟩ = some (.bool false) := by rw [gcell g3 _ _ (by simp)]; simp [go_sem]
      go_wp2_with fail
      refine (hq2 _).mono ?_; rintro e w4 ⟨rfl, g4⟩
      have q41 : w4.cell? ⟨w1.heap.size, 1, none⟩ = some (.bool false) := by rw [gcell g4 _ _ (by omega)]; exact q31
      have q42 : w4.cell? ⟨w2.heap.size, 1, none⟩ = some (.bool false) := by rw [gcell g4 _ _ (by omega)]; exact q32
      go_wp2
      exact bodyPost_ret (v := .int .i64 0) (by simp [results, Try.results32, go_sem] <;> simp only [*]) rfl ⟨rfl, (by repeat (with_reducible (first | assumption | exact Grown.refl _ | apply Grown.drew | apply Grown.alloc | apply gdrewN | (refine gtrans ?_ (by assumption)))))⟩
    · have ec : cmpz (rkD false m) (rkD true m') = 1 := by
        rw [r1, r2]; unfold cmpz; simp <;> omega
      rw [ec]
      clear hk1 hk2 r1 r2 ec h2 h3 b1 b2 hp hq c
      go_enter Try.func32, Try.ntmps32
      go_wp2_with fail
      refine (ho1 _).mono ?_; rintro e w1 ⟨rfl, g1⟩
      go_wp2_with fail
      refine (ho2 _).mono ?_; rintro e w2 ⟨rfl, g2⟩
      have z2 : w1.heap.size < w2.heap.size := by have := g2.2.2; simp at this; omega
      have q20 : w2.cell? ⟨w1.heap.size, 0, none⟩ = some (.int .i64 k1) := by rw [gcell g2 _ _ (by simp)]; simp [go_sem]
      have q21 : w2.cell? ⟨w1.heap.size, 1, none⟩ = some (.bool false) := by rw [gcell g2 _ _ (by simp)]; simp [go_sem]
      go_wp2_with fail
      refine (hq1 _).mono ?_; rintro e w3 ⟨rfl, g3⟩
      have z3 : w2.heap.size < w3.heap.size := by have := g3.2.2; simp at this; omega
      have q31 : w3.cell? ⟨w1.heap.size, 1, none⟩ = some (.bool false) := by rw [gcell g3 _ _ (by simp; omega)]; simp [go_sem, q21, z2]
      have q32 : w3.cell? ⟨w2.heap.size, 1, none⟩ = some (.bool true) := by rw [gcell g3 _ _ (by simp)]; simp [go_sem]
      go_wp2_with fail
      refine (hq2 _).mono ?_; rintro e w4 ⟨rfl, g4⟩
      have q41 : w4.cell? ⟨w1.heap.size, 1, none⟩ = some (.bool false) := by rw [gcell g4 _ _ (by omega)]; exact q31
      have q42 : w4.cell? ⟨w2.heap.size, 1, none⟩ = some (.bool true) := by rw [gcell g4 _ _ (by omega)]; exact q32
      go_wp2
      exact bodyPost_ret (v := .int .i64 1) (by simp [results, Try.results32, go_sem] <;> simp only [*]) rfl ⟨rfl, (by repeat (with_reducible (first | assumption | exact Grown.refl _ | apply Grown.drew | apply Grown.alloc | apply gdrewN | (refine gtrans ?_ (by assumption)))))⟩
    · have ec : cmpz (rkD true m) (rkD false m') = (-1) := by
        rw [r1, r2]; unfold cmpz; simp <;> omega
      rw [ec]
      clear hk1 hk2 r1 r2 ec h2 h3 b1 b2 hp hq c
      go_enter Try.func32, Try.ntmps32
      go_wp2_with fail
      refine (ho1 _).mono ?_; rintro e w1 ⟨rfl, g1⟩
      go_wp2_with fail
      refine (ho2 _).mono ?_; rintro e w2 ⟨rfl, g2⟩
      have z2 : w1.heap.size < w2.heap.size := by have := g2.2.2; simp at this; omega
      have q20 : w2.cell? ⟨w1.heap.size, 0, none⟩ = some (.int .i64 k1) := by rw [gcell g2 _ _ (by simp)]; simp [go_sem]
      have q21 : w2.cell? ⟨w1.heap.size, 1, none⟩ = some (.bool true) := by rw [gcell g2 _ _ (by simp)]; simp [go_sem]
      go_wp2_with fail
      refine (hq1 _).mono ?_; rintro e w3 ⟨rfl, g3⟩
      have z3 : w2.heap.size < w3.heap.size := by have := g3.2.2; simp at this; omega
      have q31 : w3.cell? ⟨w1.heap.size, 1, none⟩ = some (.bool true) := by rw [gcell g3 _ _ (by simp; omega)]; simp [go_sem, q21, z2]
      have q32 : w3.cell? ⟨w2.heap.size, 1, none⟩ = some (.bool false) := by rw [gcell g3 _ _ (by simp)]; simp [go_sem]
      go_wp2_with fail
      refine (hq2 _).mono ?_; rintro e w4 ⟨rfl, g4⟩
      have q41 : w4.cell? ⟨w1.heap.size, 1, none⟩ = some (.bool true) := by rw [gcell g4 _ _ (by omega)]; exact q31
      have q42 : w4.cell? ⟨w2.heap.size, 1, none⟩ = some (.bool false) := by rw [gcell g4 _ _ (by omega)]; exact q32
      go_wp2
      exact bodyPost_ret (v := .int .i64 (-1)) (by simp [results, Try.results32, go_sem] <;> simp only [*]) rfl ⟨rfl, (by repeat (with_reducible (first | assumption | exact Grown.refl _ | apply Grown.drew | apply Grown.alloc | apply gdrewN | (refine gtrans ?_ (by assumption)))))⟩
    · have ec : cmpz (rkD true m) (rkD true m') = 0 := by
        rw [r1, r2]; unfold cmpz; simp <;> omega
      rw [ec]
      clear hk1 hk2 r1 r2 ec h2 h3 b1 b2 hp hq c
      go_enter Try.func32, Try.ntmps32
      go_wp2_with fail
      refine (ho1 _).mono ?_; rintro e w1 ⟨rfl, g1⟩
      go_wp2_with fail
      refine (ho2 _).mono ?_; rintro e w2 ⟨rfl, g2⟩
      have z2 : w1.heap.size < w2.heap.size := by have := g2.2.2; simp at this; omega
      have q20 : w2.cell? ⟨w1.heap.size, 0, none⟩ = some (.int .i64 k1) := by rw [gcell g2 _ _ (by simp)]; simp [go_sem]
      have q21 : w2.cell? ⟨w1.heap.size, 1, none⟩ = some (.bool true) := by rw [gcell g2 _ _ (by simp)]; simp [go_sem]
      go_wp2_with fail
      refine (hq1 _).mono ?_; rintro e w3 ⟨rfl, g3⟩
      have z3 : w2.heap.size < w3.heap.size := by have := g3.2.2; simp at this; omega
      have q31 : w3.cell? ⟨w1.heap.size, 1, none⟩ = some (.bool true) := by rw [gcell g3 _ _ (by simp; omega)]; simp [go_sem, q21, z2]
      have q32 : w3.cell? ⟨w2.heap.size, 1, none⟩ = some (.bool true) := by rw [gcell g3 _ _ (by simp)]; simp [go_sem]
      go_wp2_with fail
      refine (hq2 _).mono ?_; rintro e w4 ⟨rfl, g4⟩
      have q41 : w4.cell? ⟨w1.heap.size, 1, none⟩ = some (.bool true) := by rw [gcell g4 _ _ (by omega)]; exact q31
      have q42 : w4.cell? ⟨w2.heap.size, 1, none⟩ = some (.bool true) := by rw [gcell g4 _ _ (by omega)]; exact q32
      go_wp2
      exact bodyPost_ret (v := .int .i64 0) (by simp [results, Try.results32, go_sem] <;> simp only [*]) rfl ⟨rfl, (by repeat (with_reducible (first | assumption | exact Grown.refl _ | apply Grown.drew | apply Grown.alloc | apply gdrewN | (refine gtrans ?_ (by assumption)))))⟩

set_option maxRecDepth 20000 in
set_option maxHeartbeats 1000000 in
theorem rup_S (n : Bool) (m : Nat) (hm : m ≤ 2139095040) (h2 : plz n m ≠ 2139095040) (w : World) : Calls Try.prog 22 #[.bool false, .int .u64 ((wS n m : Nat) : Int)] w fun e w' => e = .returned (.int .u64 ((fS (plz n m + 1) : Nat) : Int)) ∧ Grown w w' := by
  have hpl := rplace_S n m hm
  have hb := plz_bd n m
  obtain ⟨x, hx⟩ : ∃ x : Int, x = ((wS n m : Nat) : Int) := ⟨_, rfl⟩
  obtain ⟨p, hp⟩ : ∃ p : Int, p = plz n m := ⟨_, rfl⟩
  rw [← hx] at hpl ⊢
  rw [← hp] at hpl h2 hb ⊢
  have hat := rat_S (p + 1) (by omega) (by omega)
  have d2 : wrap64 (p + 1) = p + 1 := wrapI (by omega) (by omega)
  clear hm h2 hb hp hx
  go_enter Try.func22, Try.ntmps22
  go_wp2_with (first | (go_at_call 55; refine (hpl _).mono ?_; rintro e w' ⟨rfl, g1⟩) | (go_at_call 56; refine (hat _).mono ?_; rintro e w' ⟨rfl, g2⟩))
  exact bodyPost_ret (v := .int .u64 ((fS (p + 1) : Nat) : Int)) (by simp [results, Try.results22, go_sem] <;> simp only [*]) rfl ⟨rfl, (by repeat (with_reducible (first | assumption | exact Grown.refl _ | apply Grown.drew | apply Grown.alloc | apply gdrewN | (refine gtrans ?_ (by assumption)))))⟩

set_option maxRecDepth 20000 in
set_option maxHeartbeats 1000000 in
theorem rupn_S (n : Bool) (m : Nat) (hm : 2139095040 < m) (h2 : m < 2147483648) (w : World) : Calls Try.prog 22 #[.bool false, .int .u64 ((wS n m : Nat) : Int)] w fun e w' => e = .returned (.int .u64 ((wS n m : Nat) : Int)) ∧ Grown w w' := by
  have hpl := rplacen_S n m hm h2
  obtain ⟨x, hx⟩ : ∃ x : Int, x = ((wS n m : Nat) : Int) := ⟨_, rfl⟩
  rw [← hx] at hpl ⊢
  clear hm h2 hx
  go_enter Try.func22, Try.ntmps22
  go_wp2_with (first | (go_at_call 55; refine (hpl _).mono ?_; rintro e w' ⟨rfl, g1⟩))
  exact bodyPost_ret (v := .int .u64 x) (by simp [results, Try.results22, go_sem] <;> simp only [*]) rfl ⟨rfl, (by repeat (with_reducible (first | assumption | exact Grown.refl _ | apply Grown.drew | apply Grown.alloc | apply gdrewN | (refine gtrans ?_ (by assumption)))))⟩

set_option maxRecDepth 20000 in
set_option maxHeartbeats 1000000 in
theorem rupe_S (w : World) : Calls Try.prog 22 #[.bool false, .int .u64 ((wS false 2139095040 : Nat) : Int)] w fun e w' => e = .returned (.int .u64 ((wS false 2139095040 : Nat) : Int)) ∧ Grown w w' := by
  have hpl := rplace_S false 2139095040 (by omega)
  obtain ⟨p, hp⟩ : ∃ p : Int, p = plz false 2139095040 := ⟨_, rfl⟩
  have hp2 : p = 2139095040 := hp
  have hat := ratx_S (p + 1) (by omega)
  have d2 : wrap64 (p + 1) = p + 1 := wrapI (by omega) (by omega)
  rw [← hp] at hpl
  obtain ⟨x, hx⟩ : ∃ x : Int, x = ((wS false 2139095040 : Nat) : Int) := ⟨_, rfl⟩
  rw [← hx] at hpl ⊢
  clear hp hp2 hx
  go_enter Try.func22, Try.ntmps22
  go_wp2_with (first | (go_at_call 55; refine (hpl _).mono ?_; rintro e w' ⟨rfl, g1⟩) | (go_at_call 56; refine (hat _).mono ?_; rintro e w' ⟨rfl, g2⟩))
  exact bodyPost_ret (v := .int .u64 x) (by simp [results, Try.results22, go_sem] <;> simp only [*]) rfl ⟨rfl, (by repeat (with_reducible (first | assumption | exact Grown.refl _ | apply Grown.drew | apply Grown.alloc | apply gdrewN | (refine gtrans ?_ (by assumption)))))⟩

set_option maxRecDepth 20000 in
set_option maxHeartbeats 1000000 in
theorem rdn_S (n : Bool) (m : Nat) (hm : m ≤ 2139095040) (h2 : plz n m ≠ -2139095040) (w : World) : Calls Try.prog 23 #[.bool false, .int .u64 ((wS n m : Nat) : Int)] w fun e w' => e = .returned (.int .u64 ((fS (plz n m - 1) : Nat) : Int)) ∧ Grown w w' := by
  have hpl := rplace_S n m hm
  have hb := plz_bd n m
  obtain ⟨x, hx⟩ : ∃ x : Int, x = ((wS n m : Nat) : Int) := ⟨_, rfl⟩
  obtain ⟨p, hp⟩ : ∃ p : Int, p = plz n m := ⟨_, rfl⟩
  rw [← hx] at hpl ⊢
  rw [← hp] at hpl h2 hb ⊢
  have hat := rat_S (p - 1) (by omega) (by omega)
  have d2 : wrap64 (p - 1) = p - 1 := wrapI (by omega) (by omega)
  clear hm h2 hb hp hx
  go_enter Try.func23, Try.ntmps23
  go_wp2_with (first | (go_at_call 55; refine (hpl _).mono ?_; rintro e w' ⟨rfl, g1⟩) | (go_at_call 56; refine (hat _).mono ?_; rintro e w' ⟨rfl, g2⟩))
  exact bodyPost_ret (v := .int .u64 ((fS (p - 1) : Nat) : Int)) (by simp [results, Try.results23, go_sem] <;> simp only [*]) rfl ⟨rfl, (by repeat (with_reducible (first | assumption | exact Grown.refl _ | apply Grown.drew | apply Grown.alloc | apply gdrewN | (refine gtrans ?_ (by assumption)))))⟩

set_option maxRecDepth 20000 in
set_option maxHeartbeats 1000000 in
theorem rdnn_S (n : Bool) (m : Nat) (hm : 2139095040 < m) (h2 : m < 2147483648) (w : World) : Calls Try.prog 23 #[.bool false, .int .u64 ((wS n m : Nat) : Int)] w fun e w' => e = .returned (.int .u64 ((wS n m : Nat) : Int)) ∧ Grown w w' := by
  have hpl := rplacen_S n m hm h2
  obtain ⟨x, hx⟩ : ∃ x : Int, x = ((wS n m : Nat) : Int) := ⟨_, rfl⟩
  rw [← hx] at hpl ⊢
  clear hm h2 hx
  go_enter Try.func23, Try.ntmps23
  go_wp2_with (first | (go_at_call 55; refine (hpl _).mono ?_; rintro e w' ⟨rfl, g1⟩))
  exact bodyPost_ret (v := .int .u64 x) (by simp [results, Try.results23, go_sem] <;> simp only [*]) rfl ⟨rfl, (by repeat (with_reducible (first | assumption | exact Grown.refl _ | apply Grown.drew | apply Grown.alloc | apply gdrewN | (refine gtrans ?_ (by assumption)))))⟩

set_option maxRecDepth 20000 in
set_option maxHeartbeats 1000000 in
theorem rdne_S (w : World) : Calls Try.prog 23 #[.bool false, .int .u64 ((wS true 2139095040 : Nat) : Int)] w fun e w' => e = .returned (.int .u64 ((wS true 2139095040 : Nat) : Int)) ∧ Grown w w' := by
  have hpl := rplace_S true 2139095040 (by omega)
  obtain ⟨p, hp⟩ : ∃ p : Int, p = plz true 2139095040 := ⟨_, rfl⟩
  have hp2 : p = -2139095040 := hp
  have hat := ratx_S (p - 1) (by omega)
  have d2 : wrap64 (p - 1) = p - 1 := wrapI (by omega) (by omega)
  rw [← hp] at hpl
  obtain ⟨x, hx⟩ : ∃ x : Int, x = ((wS true 2139095040 : Nat) : Int) := ⟨_, rfl⟩
  rw [← hx] at hpl ⊢
  clear hp hp2 hx
  go_enter Try.func23, Try.ntmps23
  go_wp2_with (first | (go_at_call 55; refine (hpl _).mono ?_; rintro e w' ⟨rfl, g1⟩) | (go_at_call 56; refine (hat _).mono ?_; rintro e w' ⟨rfl, g2⟩))
  exact bodyPost_ret (v := .int .u64 x) (by simp [results, Try.results23, go_sem] <;> simp only [*]) rfl ⟨rfl, (by repeat (with_reducible (first | assumption | exact Grown.refl _ | apply Grown.drew | apply Grown.alloc | apply gdrewN | (refine gtrans ?_ (by assumption)))))⟩

set_option maxRecDepth 20000 in
set_option maxHeartbeats 2000000 in
theorem rordern_S (n n' : Bool) (m m' : Nat) (h2 : m < 2147483648) (h3 : m' < 2147483648) (hn : 2139095040 < m ∨ 2139095040 < m') (w : World) : Calls Try.prog 32 #[.bool false, .int .u64 ((wS n m : Nat) : Int), .int .u64 ((wS n' m' : Nat) : Int)] w fun e w' => e = .returned (.int .i64 (cmpz (rkS n m) (rkS n' m'))) ∧ Grown w w' := by
  have b1 := plz_bd n m
  have b2 := plz_bd n' m'
  have ho1 := rof_S n m h2
  have ho2 := rof_S n' m' h3
  have hq1 := fun c => rplace_S n m c
  have hq2 := fun c => rplace_S n' m' c
  obtain ⟨x, hx⟩ : ∃ x : Int, x = ((wS n m : Nat) : Int) := ⟨_, rfl⟩
  obtain ⟨y, hy⟩ : ∃ y : Int, y = ((wS n' m' : Nat) : Int) := ⟨_, rfl⟩
  rw [← hx] at ho1 hq1 ⊢
  rw [← hy] at ho2 hq2 ⊢
  clear hx hy
  obtain ⟨k1, hk1⟩ : ∃ k1 : Int, k1 = kdS m := ⟨_, rfl⟩
  obtain ⟨k2, hk2⟩ : ∃ k2 : Int, k2 = kdS m' := ⟨_, rfl⟩
  rw [← hk1] at ho1
  rw [← hk2] at ho2
  by_cases c1 : 2139095040 < m
  · have r1 : rkS n m = 9223372036854775807 := by unfold rkS rkG; simp [c1]
    have e1 : k1 = 2 := by rw [hk1]; unfold kdS kdG; (repeat' split) <;> omega
    rw [e1] at ho1
    by_cases c2 : 2139095040 < m'
    · have r2 : rkS n' m' = 9223372036854775807 := by unfold rkS rkG; simp [c2]
      have e2 : k2 = 2 := by rw [hk2]; unfold kdS kdG; (repeat' split) <;> omega
      rw [e2] at ho2
      have ec : cmpz (rkS n m) (rkS n' m') = 0 := by rw [r1, r2]; unfold cmpz; omega
      rw [ec]
      clear hk1 hk2 e1 e2 r1 r2 ec c1 c2 hn h2 h3 b1 b2 hq1 hq2
      go_enter Try.func32, Try.ntmps32
      go_wp2_with fail
      refine (ho1 _).mono ?_; rintro e w1 ⟨rfl, g1⟩
      go_wp2_with fail
      refine (ho2 _).mono ?_; rintro e w2 ⟨rfl, g2⟩
      have z2 : w1.heap.size < w2.heap.size := by have := g2.2.2; simp at this; omega
      have q20 : w2.cell? ⟨w1.heap.size, 0, none⟩ = some (.int .i64 2) := by rw [gcell g2 _ _ (by simp)]; simp [go_sem]
      have q21 : w2.cell? ⟨w1.heap.size, 1, none⟩ = some (.bool n) := by rw [gcell g2 _ _ (by simp)]; simp [go_sem]
      go_wp2
      exact bodyPost_ret (v := .int .i64 0) (by simp [results, Try.results32, go_sem] <;> simp only [*]) rfl ⟨rfl, (by repeat (with_reducible (first | assumption | exact Grown.refl _ | apply Grown.drew | apply Grown.alloc | apply gdrewN | (refine gtrans ?_ (by assumption)))))⟩
    · have r2 : rkS n' m' < 9223372036854775807 := by unfold rkS rkG; simp [c2]; split <;> omega
      have e2 : (k2 == 2) = false := by rw [hk2]; unfold kdS kdG; simp; (repeat' split) <;> omega
      have e3 : ((2 : Int) == k2) = false := by rw [hk2]; unfold kdS kdG; simp; (repeat' split) <;> omega
      have ec : cmpz (rkS n m) (rkS n' m') = 1 := by rw [r1]; unfold cmpz; (repeat' split) <;> omega
      rw [ec]
      clear hk1 hk2 e1 r1 r2 ec c1 c2 hn h2 h3 b1 b2 hq1 hq2
      go_enter Try.func32, Try.ntmps32
      go_wp2_with fail
      refine (ho1 _).mono ?_; rintro e w1 ⟨rfl, g1⟩
      go_wp2_with fail
      refine (ho2 _).mono ?_; rintro e w2 ⟨rfl, g2⟩
      have z2 : w1.heap.size < w2.heap.size := by have := g2.2.2; simp at this; omega
      have q20 : w2.cell? ⟨w1.heap.size, 0, none⟩ = some (.int .i64 2) := by rw [gcell g2 _ _ (by simp)]; simp [go_sem]
      have q21 : w2.cell? ⟨w1.heap.size, 1, none⟩ = some (.bool n) := by rw [gcell g2 _ _ (by simp)]; simp [go_sem]
      go_wp2
      exact bodyPost_ret (v := .int .i64 1) (by simp [results, Try.results32, go_sem] <;> simp only [*]) rfl ⟨rfl, (by repeat (with_reducible (first | assumption | exact Grown.refl _ | apply Grown.drew | apply Grown.alloc | apply gdrewN | (refine gtrans ?_ (by assumption)))))⟩
  · have c2 : 2139095040 < m' := by omega
    have r2 : rkS n' m' = 9223372036854775807 := by unfold rkS rkG; simp [c2]
    have e2 : k2 = 2 := by rw [hk2]; unfold kdS kdG; (repeat' split) <;> omega
    rw [e2] at ho2
    have r1 : rkS n m < 9223372036854775807 := by unfold rkS rkG; simp [c1]; split <;> omega
    have e1 : (k1 == 2) = false := by rw [hk1]; unfold kdS kdG; simp; (repeat' split) <;> omega
    have ec : cmpz (rkS n m) (rkS n' m') = -1 := by rw [r2]; unfold cmpz; (repeat' split) <;> omega
    rw [ec]
    clear hk1 hk2 e2 r1 r2 ec c1 c2 hn h2 h3 b1 b2 hq1 hq2
    go_enter Try.func32, Try.ntmps32
    go_wp2_with fail
    refine (ho1 _).mono ?_; rintro e w1 ⟨rfl, g1⟩
    go_wp2_with fail
    refine (ho2 _).mono ?_; rintro e w2 ⟨rfl, g2⟩
    have z2 : w1.heap.size < w2.heap.size := by have := g2.2.2; simp at this; omega
    have q20 : w2.cell? ⟨w1.heap.size, 0, none⟩ = some (.int .i64 k1) := by rw [gcell g2 _ _ (by simp)]; simp [go_sem]
    have q21 : w2.cell? ⟨w1.heap.size, 1, none⟩ = some (.bool n) := by rw [gcell g2 _ _ (by simp)]; simp [go_sem]
    go_wp2
    exact bodyPost_ret (v := .int .i64 (-1)) (by simp [results, Try.results32, go_sem] <;> simp only [*]) rfl ⟨rfl, (by repeat (with_reducible (first | assumption | exact Grown.refl _ | apply Grown.drew | apply Grown.alloc | apply gdrewN | (refine gtrans ?_ (by assumption)))))⟩

set_option maxRecDepth 20000 in
set_option maxHeartbeats 4000000 in
theorem rorder_S (n n' : Bool) (m m' : Nat) (h2 : m ≤ 2139095040) (h3 : m' ≤ 2139095040) (w : World) : Calls Try.prog 32 #[.bool false, .int .u64 ((wS n m : Nat) : Int), .int .u64 ((wS n' m' : Nat) : Int)] w fun e w' => e = .returned (.int .i64 (cmpz (rkS n m) (rkS n' m'))) ∧ Grown w w' := by
  have ho1 := rof_S n m (by omega)
  have ho2 := rof_S n' m' (by omega)
  have hq1 := rplace_S n m h2
  have hq2 := rplace_S n' m' h3
  obtain ⟨x, hx⟩ : ∃ x : Int, x = ((wS n m : Nat) : Int) := ⟨_, rfl⟩
  obtain ⟨y, hy⟩ : ∃ y : Int, y = ((wS n' m' : Nat) : Int) := ⟨_, rfl⟩
  rw [← hx] at ho1 hq1 ⊢
  rw [← hy] at ho2 hq2 ⊢
  clear hx hy
  obtain ⟨k1, hk1⟩ : ∃ k1 : Int, k1 = kdS m := ⟨_, rfl⟩
  obtain ⟨k2, hk2⟩ : ∃ k2 : Int, k2 = kdS m' := ⟨_, rfl⟩
  rw [← hk1] at ho1
  rw [← hk2] at ho2
  have e1 : (k1 == 2) = false := by rw [hk1]; unfold kdS kdG; simp; (repeat' split) <;> omega
  have e2 : (k2 == 2) = false := by rw [hk2]; unfold kdS kdG; simp; (repeat' split) <;> omega
  have r1 : rkS n m = plz n m - (if n then 1 else 0) := by unfold rkS rkG; split <;> omega
  have r2 : rkS n' m' = plz n' m' - (if n' then 1 else 0) := by unfold rkS rkG; split <;> omega
  have b1 : plz n m = if n then -(m : Int) else m := rfl
  have b2 : plz n' m' = if n' then -(m' : Int) else m' := rfl
  obtain ⟨p, hp⟩ : ∃ p : Int, p = plz n m := ⟨_, rfl⟩
  obtain ⟨q, hq⟩ : ∃ q : Int, q = plz n' m' := ⟨_, rfl⟩
  rw [← hp] at hq1 r1 b1
  rw [← hq] at hq2 r2 b2
  rcases (by omega : p < q ∨ q < p ∨ p = q) with c | c | c
  · have ec : cmpz (rkS n m) (rkS n' m') = -1 := by
      rw [r1, r2]; unfold cmpz; cases n <;> cases n' <;> simp at * <;> omega
    rw [ec]
    clear hk1 hk2 r1 r2 ec h2 h3 b1 b2 hp hq
    go_enter Try.func32, Try.ntmps32
    go_wp2_with fail
    refine (ho1 _).mono ?_; rintro e w1 ⟨rfl, g1⟩
    go_wp2_with fail
    refine (ho2 _).mono ?_; rintro e w2 ⟨rfl, g2⟩
    have z2 : w1.heap.size < w2.heap.size := by have := g2.2.2; simp at this; omega
    have q20 : w2.cell? ⟨w1.heap.size, 0, none⟩ = some (.int .i64 k1) := by rw [gcell g2 _ _ (by simp)]; simp [go_sem]
    have q21 : w2.cell? ⟨w1.heap.size, 1, none⟩ = some (.bool n) := by rw [gcell g2 _ _ (by simp)]; simp [go_sem]
    go_wp2_with fail
    refine (hq1 _).mono ?_; rintro e w3 ⟨rfl, g3⟩
    have z3 : w2.heap.size < w3.heap.size := by have := g3.2.2; simp at this; omega
    have q31 : w3.cell? ⟨w1.heap.size, 1, none⟩ = some (.bool n) := by rw [gcell g3 _ _ (by simp; omega)]; simp [go_sem, q21, z2]
    have q32 : w3.cell? ⟨w2.heap.size, 1, none⟩ = some (.bool n') := by rw [gcell g3 _ _ (by simp)]; simp [go_sem]
    go_wp2_with fail
    refine (hq2 _).mono ?_; rintro e w4 ⟨rfl, g4⟩
    have q41 : w4.cell? ⟨w1.heap.size, 1, none⟩ = some (.bool n) := by rw [gcell g4 _ _ (by omega)]; exact q31
    have q42 : w4.cell? ⟨w2.heap.size, 1, none⟩ = some (.bool n') := by rw [gcell g4 _ _ (by omega)]; exact q32
    go_wp2
    exact bodyPost_ret (v := .int .i64 (-1)) (by simp [results, Try.results32, go_sem] <;> simp only [*]) rfl ⟨rfl, (by repeat (with_reducible (first | assumption | exact Grown.refl _ | apply Grown.drew | apply Grown.alloc | apply gdrewN | (refine gtrans ?_ (by assumption)))))⟩
  · have ec : cmpz (rkS n m) (rkS n' m') = 1 := by
      rw [r1, r2]; unfold cmpz; cases n <;> cases n' <;> simp at * <;> omega
    have c' : ¬ (p < q) := by omega
    rw [ec]
    clear hk1 hk2 r1 r2 ec h2 h3 b1 b2 hp hq
    go_enter Try.func32, Try.ntmps32
    go_wp2_with fail
    refine (ho1 _).mono ?_; rintro e w1 ⟨rfl, g1⟩
    go_wp2_with fail
    refine (ho2 _).mono ?_; rintro e w2 ⟨rfl, g2⟩
    have z2 : w1.heap.size < w2.heap.size := by have := g2.2.2; simp at this; omega
    have q20 : w2.cell? ⟨w1.heap.size, 0, none⟩ = some (.int .i64 k1) := by rw [gcell g2 _ _ (by simp)]; simp [go_sem]
    have q21 : w2.cell? ⟨w1.heap.size, 1, none⟩ = some (.bool n) := by rw [gcell g2 _ _ (by simp)]; simp [go_sem]
    go_wp2_with fail
    refine (hq1 _).mono ?_; rintro e w3 ⟨rfl, g3⟩
    have z3 : w2.heap.size < w3.heap.size := by have := g3.2.2; simp at this; omega
    have q31 : w3.cell? ⟨w1.heap.size, 1, none⟩ = some (.bool n) := by rw [gcell g3 _ _ (by simp; omega)]; simp [go_sem, q21, z2]
    have q32 : w3.cell? ⟨w2.heap.size, 1, none⟩ = some (.bool n') := by rw [gcell g3 _ _ (by simp)]; simp [go_sem]
    go_wp2_with fail
    refine (hq2 _).mono ?_; rintro e w4 ⟨rfl, g4⟩
    have q41 : w4.cell? ⟨w1.heap.size, 1, none⟩ = some (.bool n) := by rw [gcell g4 _ _ (by omega)]; exact q31
    have q42 : w4.cell? ⟨w2.heap.size, 1, none⟩ = some (.bool n') := by rw [gcell g4 _ _ (by omega)]; exact q32
    go_wp2
    exact bodyPost_ret (v := .int .i64 1) (by simp [results, Try.results32, go_sem] <;> simp only [*]) rfl ⟨rfl, (by repeat (with_reducible (first | assumption | exact Grown.refl _ | apply Grown.drew | apply Grown.alloc | apply gdrewN | (refine gtrans ?_ (by assumption)))))⟩
  · have c' : ¬ (p < q) := by omega
    have c2 : ¬ (q < p) := by omega
    cases n <;> cases n'
    · have ec : cmpz (rkS false m) (rkS false m') = 0 := by
        rw [r1, r2]; unfold cmpz; simp <;> omega
      rw [ec]
      clear hk1 hk2 r1 r2 ec h2 h3 b1 b2 hp hq c
      go_enter Try.func32, Try.ntmps32
      go_wp2_with fail
      refine (ho1 _).mono ?_; rintro e w1 ⟨rfl, g1⟩
      go_wp2_with fail
      refine (ho2 _).mono ?_; rintro e w2 ⟨rfl, g2⟩
      have z2 : w1.heap.size < w2.heap.size := by have := g2.2.2; simp at this; omega
      have q20 : w2.cell? ⟨w1.heap.size, 0, none⟩ = some (.int .i64 k1) := by rw [gcell g2 _ _ (by simp)]; simp [go_sem]
      have q21 : w2.cell? ⟨w1.heap.size, 1, none⟩ = some (.bool false) := by rw [gcell g2 _ _ (by simp)]; simp [go_sem]
      go_wp2_with fail
      refine (hq1 _).mono ?_; rintro e w3 ⟨rfl, g3⟩
      have z3 : w2.heap.size < w3.heap.size := by have := g3.2.2; simp at this; omega
      have q31 : w3.cell? ⟨w1.heap.size, 1, none⟩ = some (.bool false) := by rw [gcell g3 _ _ (by simp; omega)]; simp [go_sem, q21, z2]
      have q32 : w3.cell? ⟨w2.heap.size, 1, none⟩ = some (.bool false) := by rw [gcell g3 _ _ (by simp)]; simp [go_sem]
      go_wp2_with fail
      refine (hq2 _).mono ?_; rintro e w4 ⟨rfl, g4⟩
      have q41 : w4.cell? ⟨w1.heap.size, 1, none⟩ = some (.bool false) := by rw [gcell g4 _ _ (by omega)]; exact q31
      have q42 : w4.cell? ⟨w2.heap.size, 1, none⟩ = some (.bool false) := by rw [gcell g4 _ _ (by omega)]; exact q32
      go_wp2
      exact bodyPost_ret (v := .int .i64 0) (by simp [results, Try.results32, go_sem] <;> simp only [*]) rfl ⟨rfl, (by repeat (with_reducible (first | assumption | exact Grown.refl _ | apply Grown.drew | apply Grown.alloc | apply gdrewN | (refine gtrans ?_ (by assumption)))))⟩
    · have ec : cmpz (rkS false m) (rkS true m') = 1 := by
        rw [r1, r2]; unfold cmpz; simp <;> omega
      rw [ec]
      clear hk1 hk2 r1 r2 ec h2 h3 b1 b2 hp hq c
      go_enter Try.func32, Try.ntmps32
      go_wp2_with fail
      refine (ho1 _).mono ?_; rintro e w1 ⟨rfl, g1⟩
      go_wp2_with fail
      refine (ho2 _).mono ?_; rintro e w2 ⟨rfl, g2⟩
      have z2 : w1.heap.size < w2.heap.size := by have := g2.2.2; simp at this; omega
      have q20 : w2.cell? ⟨w1.heap.size, 0, none⟩ = some (.int .i64 k1) := by rw [gcell g2 _ _ (by simp)]; simp [go_sem]
      have q21 : w2.cell? ⟨w1.heap.size, 1, none⟩ = some (.bool false) := by rw [gcell g2 _ _ (by simp)]; simp [go_sem]
      go_wp2_with fail
      refine (hq1 _).mono ?_; rintro e w3 ⟨rfl, g3⟩
      have z3 : w2.heap.size < w3.heap.size := by have := g3.2.2; simp at this; omega
      have q31 : w3.cell? ⟨w1.heap.size, 1, none⟩ = some (.bool false) := by rw [gcell g3 _ _ (by simp; omega)]; simp [go_sem, q21, z2]
      have q32 : w3.cell? ⟨w2.heap.size, 1, none⟩ = some (.bool true) := by rw [gcell g3 _ _ (by simp)]; simp [go_sem]
      go_wp2_with fail
      refine (hq2 _).mono ?_; rintro e w4 ⟨rfl, g4⟩
      have q41 : w4.cell? ⟨w1.heap.size, 1, none⟩ = some (.bool false) := by rw [gcell g4 _ _ (by omega)]; exact q31
      have q42 : w4.cell? ⟨w2.heap.size, 1, none⟩ = some (.bool true) := by rw [gcell g4 _ _ (by omega)]; exact q32
      go_wp2
      exact bodyPost_ret (v := .int .i64 1) (by simp [results, Try.results32, go_sem] <;> simp only [*]) rfl ⟨rfl, (by repeat (with_reducible (first | assumption | exact Grown.refl _ | apply Grown.drew | apply Grown.alloc | apply gdrewN | (refine gtrans ?_ (by assumption)))))⟩
    · have ec : cmpz (rkS true m) (rkS false m') = (-1) := by
        rw [r1, r2]; unfold cmpz; simp <;> omega
      rw [ec]
      clear hk1 hk2 r1 r2 ec h2 h3 b1 b2 hp hq c
      go_enter Try.func32, Try.ntmps32
      go_wp2_with fail
      refine (ho1 _).mono ?_; rintro e w1 ⟨rfl, g1⟩
      go_wp2_with fail
      refine (ho2 _).mono ?_; rintro e w2 ⟨rfl, g2⟩
      have z2 : w1.heap.size < w2.heap.size := by have := g2.2.2; simp at this; omega
      have q20 : w2.cell? ⟨w1.heap.size, 0, none⟩ = some (.int .i64 k1) := by rw [gcell g2 _ _ (by simp)]; simp [go_sem]
      have q21 : w2.cell? ⟨w1.heap.size, 1, none⟩ = some (.bool true) := by rw [gcell g2 _ _ (by simp)]; simp [go_sem]
      go_wp2_with fail
      refine (hq1 _).mono ?_; rintro e w3 ⟨rfl, g3⟩
      have z3 : w2.heap.size < w3.heap.size := by have := g3.2.2; simp at this; omega
      have q31 : w3.cell? ⟨w1.heap.size, 1, none⟩ = some (.bool true) := by rw [gcell g3 _ _ (by simp; omega)]; simp [go_sem, q21, z2]
      have q32 : w3.cell? ⟨w2.heap.size, 1, none⟩ = some (.bool false) := by rw [gcell g3 _ _ (by simp)]; simp [go_sem]
      go_wp2_with fail
      refine (hq2 _).mono ?_; rintro e w4 ⟨rfl, g4⟩
      have q41 : w4.cell? ⟨w1.heap.size, 1, none⟩ = some (.bool true) := by rw [gcell g4 _ _ (by omega)]; exact q31
      have q42 : w4.cell? ⟨w2.heap.size, 1, none⟩ = some (.bool false) := by rw [gcell g4 _ _ (by omega)]; exact q32
      go_wp2
      exact bodyPost_ret (v := .int .i64 (-1)) (by simp [results, Try.results32, go_sem] <;> simp only [*]) rfl ⟨rfl, (by repeat (with_reducible (first | assumption | exact Grown.refl _ | apply Grown.drew | apply Grown.alloc | apply gdrewN | (refine gtrans ?_ (by assumption)))))⟩
    · have ec : cmpz (rkS true m) (rkS true m') = 0 := by
        rw [r1, r2]; unfold cmpz; simp <;> omega
      rw [ec]
      clear hk1 hk2 r1 r2 ec h2 h3 b1 b2 hp hq c
      go_enter Try.func32, Try.ntmps32
      go_wp2_with fail
      refine (ho1 _).mono ?_; rintro e w1 ⟨rfl, g1⟩
      go_wp2_with fail
      refine (ho2 _).mono ?_; rintro e w2 ⟨rfl, g2⟩
      have z2 : w1.heap.size < w2.heap.size := by have := g2.2.2; simp at this; omega
      have q20 : w2.cell? ⟨w1.heap.size, 0, none⟩ = some (.int .i64 k1) := by rw [gcell g2 _ _ (by simp)]; simp [go_sem]
      have q21 : w2.cell? ⟨w1.heap.size, 1, none⟩ = some (.bool true) := by rw [gcell g2 _ _ (by simp)]; simp [go_sem]
      go_wp2_with fail
      refine (hq1 _).mono ?_; rintro e w3 ⟨rfl, g3⟩
      have z3 : w2.heap.size < w3.heap.size := by have := g3.2.2; simp at this; omega
      have q31 : w3.cell? ⟨w1.heap.size, 1, none⟩ = some (.bool true) := by rw [gcell g3 _ _ (by simp; omega)]; simp [go_sem, q21, z2]
      have q32 : w3.cell? ⟨w2.heap.size, 1, none⟩ = some (.bool true) := by rw [gcell g3 _ _ (by simp)]; simp [go_sem]
      go_wp2_with fail
      refine (hq2 _).mono ?_; rintro e w4 ⟨rfl, g4⟩
      have q41 : w4.cell? ⟨w1.heap.size, 1, none⟩ = some (.bool true) := by rw [gcell g4 _ _ (by omega)]; exact q31
      have q42 : w4.cell? ⟨w2.heap.size, 1, none⟩ = some (.bool true) := by rw [gcell g4 _ _ (by omega)]; exact q32
      go_wp2
      exact bodyPost_ret (v := .int .i64 0) (by simp [results, Try.results32, go_sem] <;> simp only [*]) rfl ⟨rfl, (by repeat (with_reducible (first | assumption | exact Grown.refl _ | apply Grown.drew | apply Grown.alloc | apply gdrewN | (refine gtrans ?_ (by assumption)))))⟩

end Go.Proofs.Ytpmcdhhlhiobiaa
