import Derived.Test.YthdnajcgdngmcaaGreatDoorKDPowerGrows0
import Derived.WalkKit
import Derived.ProofKit
import Derived.RowKit3
import Derived.WalkSpells
import Derived.StillTactics
import Derived.Deep.QuietTactic
import Derived.BigQuiet
import Derived.Below
import Derived.Deep.OwnRows
import Derived.Laws.BitsAllLaws
import Derived.Laws.Slices
import Derived.Laws.Bits64b
import Derived.Laws.FloatArith
import Derived.OwnWalk
import Derived.Laws.Small
import Derived.WalkMore
import Derived.ScopeJumps
import Derived.Scope
import Derived.Deep.RegionHeld3
import Derived.RowKit
import Derived.Deep.CutRange
import Derived.Deep.DeepCutAuto
namespace Go.Proofs.YthdnajcgdngmcaaGreatDoor
open Go.RowKit
theorem nanD9 (n : Bool) (m : Nat) (h1 : 9218868437227405312 < m) (h2 : m < 9223372036854775808) : Ieee.double.read (Fq.wD n m) = .nan n (m - 9218868437227405312) := by
  rw [Fq.read_nan Ieee.double _ Fq.binfD (by rw [Fq.rgD n m h2, Fq.infD]; exact h1), Fq.rgD n m h2, Fq.ngD n m h2, Fq.infD]
theorem infD9 (n : Bool) : Ieee.double.read (Fq.wD n 9218868437227405312) = .infinity n := by
  rw [Fq.read_inf Ieee.double _ Fq.binfD (by rw [Fq.rgD n 9218868437227405312 (by decide), Fq.infD]), Fq.ngD n 9218868437227405312 (by decide)]
theorem finD9 (n : Bool) (m : Nat) (h : m < 9218868437227405312) : ∃ a e, Ieee.double.read (Fq.wD n m) = .number n a e ∧ (a = 0 ↔ m = 0) := by
  rw [Fq.read_fin _ _ (by rw [Fq.rgD n m (by omega), Fq.infD]; exact h), Fq.ngD n m (by omega), Fq.rgD n m (by omega)]
  refine ⟨_, _, rfl, ?_⟩
  unfold Fq.mM
  rw [Fq.binD]
  split <;> omega
theorem wrI9 (s : Bool) : Ieee.double.write (.infinity s) = Fq.wD s 9218868437227405312 := by unfold Ieee.Format.write Ieee.Format.word Fq.wD; rw [Fq.signD, Fq.infD]
/-- the patterns of which a product is no number -/
def badP (m m' : Nat) : Prop := 9218868437227405312 < m ∨ 9218868437227405312 < m' ∨ (m = 9218868437227405312 ∧ m' = 0) ∨ (m = 0 ∧ m' = 9218868437227405312)
theorem mul_bad (n n' : Bool) (m m' : Nat) (hm : m < 9223372036854775808) (hm' : m' < 9223372036854775808) (h : badP m m') : FloatKind.f64.format.mul (Fq.wD n m) (Fq.wD n' m') = none := by
  show Ieee.double.mul _ _ = none
  unfold Ieee.Format.mul
  by_cases c1 : 9218868437227405312 < m
  · rw [nanD9 n m c1 hm]; rfl
  · by_cases c2 : 9218868437227405312 < m'
    · rw [nanD9 n' m' c2 hm']
      by_cases c3 : m = 9218868437227405312
      · rw [c3, infD9]; rfl
      · obtain ⟨a, e, he, _⟩ := finD9 n m (by omega)
        rw [he]; rfl
    · rcases (h.resolve_left c1).resolve_left c2 with ⟨e1, e2⟩ | ⟨e1, e2⟩
      · obtain ⟨a, e, he, hz⟩ := finD9 n' m' (by omega)
        rw [e1, infD9, he]
        unfold Ieee.Datum.product
        simp only
        rw [if_pos (hz.2 e2)]; rfl
      · obtain ⟨a, e, he, hz⟩ := finD9 n m (by omega)
        rw [e2, infD9, he]
        unfold Ieee.Datum.product
        simp only
        rw [if_pos (hz.2 e1)]; rfl
theorem mul_inf (n n' : Bool) (m m' : Nat) (h : ¬ badP m m') (hi : ¬ (m < 9218868437227405312 ∧ m' < 9218868437227405312)) : FloatKind.f64.format.mul (Fq.wD n m) (Fq.wD n' m') = some (Fq.wD (n ^^ n') 9218868437227405312) := by
  unfold badP at h
  show Ieee.double.mul _ _ = _
  unfold Ieee.Format.mul
  by_cases c1 : m = 9218868437227405312
  · rw [c1, infD9]
    by_cases c2 : m' = 9218868437227405312
    · rw [c2, infD9]
      exact congrArg some (wrI9 _)
    · obtain ⟨a, e, he, hz⟩ := finD9 n' m' (by omega)
      rw [he]
      unfold Ieee.Datum.product
      simp only
      rw [if_neg (fun h0 => h (Or.inr (Or.inr (Or.inl ⟨c1, hz.1 h0⟩))))]
      exact congrArg some (wrI9 _)
  · have c2 : m' = 9218868437227405312 := by omega
    obtain ⟨a, e, he, hz⟩ := finD9 n m (by omega)
    rw [c2, infD9, he]
    unfold Ieee.Datum.product
    simp only
    rw [if_neg (fun h0 => h (Or.inr (Or.inr (Or.inr ⟨hz.1 h0, c2⟩)))), show (n ^^ n') = (n' ^^ n) from by cases n <;> cases n' <;> rfl]
    exact congrArg some (wrI9 _)
theorem nan_cut9 (t : Nat) : 9218868437227405312 < (t % 2 * 2 ^ 63 + 0x7ff0000000000000 + 1 + t / 2 % (2 ^ 52 - 1)) % 9223372036854775808 ∧ t % 2 * 2 ^ 63 + 0x7ff0000000000000 + 1 + t / 2 % (2 ^ 52 - 1) < 18446744073709551616 := by
  rw [show (2 : Nat) ^ 63 = 9223372036854775808 from by decide, show (2 : Nat) ^ 52 - 1 = 4503599627370495 from by decide]
  have h1 : t % 2 = 0 ∨ t % 2 = 1 := by omega
  have h2 : t / 2 % 4503599627370495 < 4503599627370495 := Nat.mod_lt _ (by decide)
  generalize t / 2 % 4503599627370495 = b at *
  rcases h1 with h | h <;> rw [h] <;> omega
theorem word_of (R : Nat) (h : R < 18446744073709551616) : ∃ n m, m = R % 9223372036854775808 ∧ R = Fq.wD n m := by
  by_cases c : 9223372036854775808 ≤ R
  · exact ⟨true, R % 9223372036854775808, rfl, by unfold Fq.wD; rw [if_pos rfl]; omega⟩
  · exact ⟨false, R % 9223372036854775808, rfl, by unfold Fq.wD; simp; omega⟩
theorem run_nan_mul (X Y : Nat) (h : FloatKind.f64.format.mul X Y = none) (w : World) : ∃ r, 9218868437227405312 < r % 9223372036854775808 ∧ r < 18446744073709551616 ∧ (binOp .mul 22 (.float .f64 X) (.float .f64 Y)).run Tryz.prog w = .ok (.float .f64 r) w.drew := by
  refine ⟨Question.cut (.nanBits .f64 X Y) _, ?_, ?_, by simp [binOp, Op.floatArith, h]; rfl⟩
  · simp only [Question.cut]; exact (nan_cut9 _).1
  · simp only [Question.cut]; exact (nan_cut9 _).2
end Go.Proofs.YthdnajcgdngmcaaGreatDoor
namespace Go.Proofs.YthdnajcgdngmcaaGreatDoor
open Go.RowKit
theorem run_nan_quo (X Y : Nat) (h : FloatKind.f64.format.div X Y = none) (w : World) : ∃ r, 9218868437227405312 < r % 9223372036854775808 ∧ r < 18446744073709551616 ∧ (binOp .quo 22 (.float .f64 X) (.float .f64 Y)).run Tryz.prog w = .ok (.float .f64 r) w.drew := by
  refine ⟨Question.cut (.nanBits .f64 X Y) _, ?_, ?_, by simp [binOp, Op.floatArith, h]; rfl⟩
  · simp only [Question.cut]; exact (nan_cut9 _).1
  · simp only [Question.cut]; exact (nan_cut9 _).2
/-- the patterns of which a quotient by what is not 0 is no number -/
def badQ (m m' : Nat) : Prop := 9218868437227405312 < m ∨ 9218868437227405312 < m' ∨ (m = 9218868437227405312 ∧ m' = 9218868437227405312)
theorem div_bad (n n' : Bool) (m m' : Nat) (hm : m < 9223372036854775808) (hm' : m' < 9223372036854775808) (h : badQ m m') : FloatKind.f64.format.div (Fq.wD n m) (Fq.wD n' m') = none := by
  show Ieee.double.div _ _ = none
  unfold Ieee.Format.div
  by_cases c1 : 9218868437227405312 < m
  · rw [nanD9 n m c1 hm]; rfl
  · by_cases c2 : 9218868437227405312 < m'
    · rw [nanD9 n' m' c2 hm']
      by_cases c3 : m = 9218868437227405312
      · rw [c3, infD9]; rfl
      · obtain ⟨a, e, he, _⟩ := finD9 n m (by omega)
        rw [he]; rfl
    · obtain ⟨e1, e2⟩ := (h.resolve_left c1).resolve_left c2
      rw [e1, e2, infD9, infD9]; rfl
theorem div_inf (n n' : Bool) (m m' : Nat) (h : m = 9218868437227405312) (h' : m' < 9218868437227405312) : FloatKind.f64.format.div (Fq.wD n m) (Fq.wD n' m') = some (Fq.wD (n ^^ n') 9218868437227405312) := by
  show Ieee.double.div _ _ = _
  unfold Ieee.Format.div
  obtain ⟨a, e, he, hz⟩ := finD9 n' m' h'
  rw [h, infD9, he]
  exact congrArg some (wrI9 _)
theorem near0 (s : Bool) (p : Int) : Ieee.double.nearest s 0 p = Fq.wD s 0 := by
  unfold Ieee.Format.nearest
  rw [if_pos rfl, wdD9]
theorem div_zero (n n' : Bool) (m m' : Nat) (hm : m < 9218868437227405312) (h : m' = 9218868437227405312 ∨ (m = 0 ∧ m' < 9218868437227405312 ∧ m' ≠ 0)) : FloatKind.f64.format.div (Fq.wD n m) (Fq.wD n' m') = some (Fq.wD (n ^^ n') 0) := by
  show Ieee.double.div _ _ = _
  unfold Ieee.Format.div
  obtain ⟨a, e, he, hz⟩ := finD9 n m hm
  rw [he]
  rcases h with h | ⟨h1, h2, h3⟩
  · rw [h, infD9]
    unfold Ieee.Datum.quotient
    simp only [Option.map_some]
    unfold Ieee.Format.write
    simp only
    rw [near0]
  · obtain ⟨b, e', he', hz'⟩ := finD9 n' m' h2
    rw [he']
    have a0 : a = 0 := hz.2 h1
    have b0 : ¬ b = 0 := fun h => h3 (hz'.1 h)
    subst a0
    unfold Ieee.Datum.quotient
    simp only [Nat.zero_shiftLeft, Nat.zero_div, Nat.zero_mod]
    rw [if_neg b0]
    simp only [Option.map_some]
    unfold Ieee.Format.write
    simp only
    exact congrArg some (near0 _ _)
end Go.Proofs.YthdnajcgdngmcaaGreatDoor
namespace Go.Proofs.YthdnajcgdngmcaaGreatDoor
open Go.RowKit
set_option maxRecDepth 20000 in
set_option maxHeartbeats 1000000 in
theorem pdivP_ (d : Int) (n n' : Bool) (m m' : Nat) (hm : m < 9223372036854775808) (hm' : m' < 9223372036854775808) (z' : m' ≠ 0) (hi : ¬ (m < 9218868437227405312 ∧ m' < 9218868437227405312 ∧ m ≠ 0)) (w w9 : World) (RR R2 : Nat) (hrun : (binOp .quo 22 (.float .f64 (Fq.wD n m)) (.float .f64 (Fq.wD n' m'))).run Tryz.prog w = .ok (.float .f64 RR) w9) (hk : Kp w w9) (hpl : Calls Tryz.prog 98 #[.float .f64 RR] w9 fun e w' => e = .returned (.float .f64 R2) ∧ w' = w9) :
    Calls Tryz.prog 114 #[.int .i64 d, .float .f64 (Fq.wD n m), .float .f64 (Fq.wD n' m')] w fun e w' => e = .returned (.float .f64 R2) ∧ Kp w w' := by
  have h1 := mild_ n m hm w
  have h2 := mild_ n' m' hm' w
  have g1 := finite_ n m hm w
  have g2 := finite_ n' m' hm' w
  have o1 := Fq.eqzD n m hm
  have o2 := Fq.eqzD n' m' hm'
  rw [show (m' == 0) = false from by simp [z']] at o2
  obtain ⟨X, hX⟩ : ∃ X, X = Fq.wD n m := ⟨_, rfl⟩
  obtain ⟨Y, hY⟩ : ∃ Y, Y = Fq.wD n' m' := ⟨_, rfl⟩
  rw [← hX] at h1 g1 o1
  rw [← hY] at h2 g2 o2
  rw [← hX, ← hY] at hrun
  rw [← hX, ← hY]
  have HT : Hid (2580562586483294208 ≤ m ∧ m ≤ 6633802251116740608 → ¬ (2580562586483294208 ≤ m' ∧ m' ≤ 6633802251116740608)) := fun h h' => hi ⟨by omega, by omega, by omega⟩
  have HI : Hid (¬ (m < 9218868437227405312 ∧ m' < 9218868437227405312 ∧ m ≠ 0)) := hi
  clear hX hY hi hm hm' z'
  go_enter Tryz.func114, Tryz.ntmps114
  go_wp2
  refine wp_scope_jumps 0 (fun a' w' => w' = w ∧ ∃ u3 u4 u5 u6 u7 u8 u9 u10 u11 u12 u13 u14 u15 u16 u17 u18 u19 u20 u21 u22 u23 u24 u25 u26 u27 u28 u29 u30 u31 u32 u33 u34 u35 u36 u37 u38 u39 u40 u41 u42 u43 u44 u45 u46 u47 u48 u49 u50 u51 u52 u53 u54 : Value, a' = ⟨#[.int .i64 d, .float .f64 X, .float .f64 Y, u3, u4, u5, u6, u7, u8, u9, u10, u11, u12, u13, u14, u15, u16, u17, u18, u19, u20, u21, u22, u23, u24, u25, u26, u27, u28, u29, u30, u31, u32, u33, u34, u35, u36, u37, u38, u39, u40, u41, u42, u43, u44, u45, u46, u47, u48, u49, u50, u51, u52, u53, u54], []⟩) (fun _ _ => 0) rfl ?_ ?_
  · clear g1 g2 o1 o2 hrun hpl HI
    by_cases c1 : 2580562586483294208 ≤ m ∧ m ≤ 6633802251116740608
    · rw [decide_eq_true c1] at h1
      rw [decide_eq_false (HT.out c1)] at h2
      clear c1 HT
      go_wp2_with fail
      refine h1.mono ?_; rintro e w' ⟨rfl, hw'⟩; obtain rfl := hw'.symm; clear hw' h1
      go_wp2_with fail
      refine h2.mono ?_; rintro e w' ⟨rfl, hw'⟩; obtain rfl := hw'.symm; clear hw' h2
      go_wp2_with fail
      go_step3
      exact ⟨rfl, rfl, _, _, _, _, _, _, _, _, _, _, _, _, _, _, _, _, _, _, _, _, _, _, _, _, _, _, _, _, _, _, _, _, _, _, _, _, _, _, _, _, _, _, _, _, _, _, _, _, _, _, _, _, rfl⟩
    · rw [decide_eq_false c1] at h1
      clear c1 HT h2
      go_wp2_with fail
      refine h1.mono ?_; rintro e w' ⟨rfl, hw'⟩; obtain rfl := hw'.symm; clear hw' h1
      go_wp2_with fail
      go_step3
      exact ⟨rfl, rfl, _, _, _, _, _, _, _, _, _, _, _, _, _, _, _, _, _, _, _, _, _, _, _, _, _, _, _, _, _, _, _, _, _, _, _, _, _, _, _, _, _, _, _, _, _, _, _, _, _, _, _, _, rfl⟩
  · rintro a' w' ⟨rfl, u3, u4, u5, u6, u7, u8, u9, u10, u11, u12, u13, u14, u15, u16, u17, u18, u19, u20, u21, u22, u23, u24, u25, u26, u27, u28, u29, u30, u31, u32, u33, u34, u35, u36, u37, u38, u39, u40, u41, u42, u43, u44, u45, u46, u47, u48, u49, u50, u51, u52, u53, u54, rfl⟩
    clear h1 h2 HT
    by_cases c1 : m < 9218868437227405312
    · rw [decide_eq_true c1] at g1
      by_cases c2 : m' < 9218868437227405312
      · rw [decide_eq_true c2] at g2
        have c3 : m = 0 := by have := HI.out; omega
        rw [show (m == 0) = true from by simp [c3]] at o1
        clear c1 c2 c3 HI
        go_wp2_with fail
        refine g1.mono ?_; rintro e w8 ⟨rfl, hw'⟩; obtain rfl := hw'.symm; clear hw' g1
        go_wp2_with fail
        refine g2.mono ?_; rintro e w8 ⟨rfl, hw'⟩; obtain rfl := hw'.symm; clear hw' g2
        go_wp2_with fail
        refine hpl.mono ?_; rintro e w8 ⟨rfl, hw'⟩; obtain rfl := hw'.symm; clear hw' hpl
        go_wp2
        try simp only [Exit.jump]
        exact bodyPost_ret (v := .float .f64 R2) (by simp [results, Tryz.results114, go_sem]) rfl ⟨rfl, hk⟩
      · rw [decide_eq_false c2] at g2
        clear c1 c2 HI o1
        go_wp2_with fail
        refine g1.mono ?_; rintro e w8 ⟨rfl, hw'⟩; obtain rfl := hw'.symm; clear hw' g1
        go_wp2_with fail
        refine g2.mono ?_; rintro e w8 ⟨rfl, hw'⟩; obtain rfl := hw'.symm; clear hw' g2
        go_wp2_with fail
        refine hpl.mono ?_; rintro e w8 ⟨rfl, hw'⟩; obtain rfl := hw'.symm; clear hw' hpl
        go_wp2
        try simp only [Exit.jump]
        exact bodyPost_ret (v := .float .f64 R2) (by simp [results, Tryz.results114, go_sem]) rfl ⟨rfl, hk⟩
    · rw [decide_eq_false c1] at g1
      clear c1 HI o1 g2
      go_wp2_with fail
      refine g1.mono ?_; rintro e w8 ⟨rfl, hw'⟩; obtain rfl := hw'.symm; clear hw' g1
      go_wp2_with fail
      refine hpl.mono ?_; rintro e w8 ⟨rfl, hw'⟩; obtain rfl := hw'.symm; clear hw' hpl
      go_wp2
      try simp only [Exit.jump]
      exact bodyPost_ret (v := .float .f64 R2) (by simp [results, Tryz.results114, go_sem]) rfl ⟨rfl, hk⟩
end Go.Proofs.YthdnajcgdngmcaaGreatDoor
namespace Go.Proofs.YthdnajcgdngmcaaGreatDoor
open Go.RowKit
namespace Fq
set_option maxRecDepth 20000 in
set_option maxHeartbeats 1000000 in
theorem void_ (a b : Nat) (ha : a < 18446744073709551616) (hb : b < 18446744073709551616) (w : World) : Calls Tryz.prog 63 #[.agg #[.float .f64 a, .float .f64 b]] w fun e w' => e = .returned (.bool (decide (a = 9218868437227405312 ∧ b = 18442240474082181120))) ∧ Grown w w' := by
  have t2 := feqI a ha
  have t3 := feqM b hb
  have e1 : (decide (a = 9218868437227405312 ∧ b = 18442240474082181120)) = ((FloatKind.f64.format.order a 9218868437227405312 == some Ordering.eq) && (FloatKind.f64.format.order b 18442240474082181120 == some Ordering.eq)) := by
    rw [t2, t3]; by_cases c1 : a = 9218868437227405312 <;> by_cases c2 : b = 18442240474082181120 <;> simp [c1, c2]
  rw [e1]
  clear e1 t2 t3 ha hb
  have h0 := eqIn6 a 9218868437227405312
  have h1 := eqIn6 b 18442240474082181120
  generalize g1 : (FloatKind.f64.format.order a 9218868437227405312 == some Ordering.eq) = B1 at h0 ⊢
  generalize g2 : (FloatKind.f64.format.order b 18442240474082181120 == some Ordering.eq) = B2 at h1 ⊢
  cases B1 <;> cases B2
  · go_enter Tryz.func63, Tryz.ntmps63
    go_wp2
    go_region_held3 (fun w' => w'.cell? ⟨w.heap.size, 0, none⟩ = some (.float .f64 a) ∧ w'.cell? ⟨w.heap.size, 1, none⟩ = some (.float .f64 b)) (simp [go_sem, World.cell?_alloc_past]) (first | (go_at_call 51; refine (empty6_ _).mono ?_; rintro e w' ⟨rfl, rfl⟩))
    go_wp2
    exact bodyPost_ret (v := .bool false) (by simp [results, Tryz.results63, go_sem] <;> simp only [*]) rfl ⟨rfl, (by repeat (with_reducible (first | assumption | exact Grown.refl _ | apply Grown.drew | apply Grown.alloc | apply gdrewN | (refine Grown.setCell ?_ (by simp <;> omega) _) | (refine gtrans ?_ (by assumption)))))⟩
  · go_enter Tryz.func63, Tryz.ntmps63
    go_wp2
    go_region_held3 (fun w' => w'.cell? ⟨w.heap.size, 0, none⟩ = some (.float .f64 a) ∧ w'.cell? ⟨w.heap.size, 1, none⟩ = some (.float .f64 b)) (simp [go_sem, World.cell?_alloc_past]) (first | (go_at_call 51; refine (empty6_ _).mono ?_; rintro e w' ⟨rfl, rfl⟩))
    go_wp2
    exact bodyPost_ret (v := .bool false) (by simp [results, Tryz.results63, go_sem] <;> simp only [*]) rfl ⟨rfl, (by repeat (with_reducible (first | assumption | exact Grown.refl _ | apply Grown.drew | apply Grown.alloc | apply gdrewN | (refine Grown.setCell ?_ (by simp <;> omega) _) | (refine gtrans ?_ (by assumption)))))⟩
  · go_enter Tryz.func63, Tryz.ntmps63
    go_wp2
    go_region_held3 (fun w' => w'.cell? ⟨w.heap.size, 0, none⟩ = some (.float .f64 a) ∧ w'.cell? ⟨w.heap.size, 1, none⟩ = some (.float .f64 b)) (simp [go_sem, World.cell?_alloc_past]) (first | (go_at_call 51; refine (empty6_ _).mono ?_; rintro e w' ⟨rfl, rfl⟩))
    go_wp2
    exact bodyPost_ret (v := .bool false) (by simp [results, Tryz.results63, go_sem] <;> simp only [*]) rfl ⟨rfl, (by repeat (with_reducible (first | assumption | exact Grown.refl _ | apply Grown.drew | apply Grown.alloc | apply gdrewN | (refine Grown.setCell ?_ (by simp <;> omega) _) | (refine gtrans ?_ (by assumption)))))⟩
  · go_enter Tryz.func63, Tryz.ntmps63
    go_wp2
    go_region_held3 (fun w' => w'.cell? ⟨w.heap.size, 0, none⟩ = some (.float .f64 a) ∧ w'.cell? ⟨w.heap.size, 1, none⟩ = some (.float .f64 b)) (simp [go_sem, World.cell?_alloc_past]) (first | (go_at_call 51; refine (empty6_ _).mono ?_; rintro e w' ⟨rfl, rfl⟩))
    go_wp2
    exact bodyPost_ret (v := .bool true) (by simp [results, Tryz.results63, go_sem] <;> simp only [*]) rfl ⟨rfl, (by repeat (with_reducible (first | assumption | exact Grown.refl _ | apply Grown.drew | apply Grown.alloc | apply gdrewN | (refine Grown.setCell ?_ (by simp <;> omega) _) | (refine gtrans ?_ (by assumption)))))⟩
end Fq
end Go.Proofs.YthdnajcgdngmcaaGreatDoor
namespace Go.Proofs.YthdnajcgdngmcaaGreatDoor
open Go.RowKit
theorem pge9 (x y : Int) (hx : BdZ x) (hy : BdZ y) : (FloatKind.f64.format.order (pw x) (pw y) == some Ordering.gt || FloatKind.f64.format.order (pw x) (pw y) == some Ordering.eq) = decide (y ≤ x) := by
  rw [pgt9 x y hx hy, peq9 x y hx hy]
  by_cases c : y < x <;> by_cases c2 : x = y <;> simp [c, c2] <;> omega
theorem bd_min (x y : Int) (hx : BdZ x) (hy : BdZ y) : BdZ (min x y) := by unfold BdZ at *; omega
end Go.Proofs.YthdnajcgdngmcaaGreatDoor
namespace Go.Proofs.YthdnajcgdngmcaaGreatDoor
open Go.RowKit
theorem void9_ (L H : Int) (h : VdZ L H) (w : World) : Calls Tryz.prog 63 #[.agg #[.float .f64 (pw L), .float .f64 (pw H)]] w fun e w' => e = .returned (.bool (decide (L = 9218868437227405312))) ∧ Kp w w' := by
  have g := Fq.void_ (pw L) (pw H) (pw_lt L h.lo) (pw_lt H h.hi) w
  rw [emp9 L H h] at g
  exact g
end Go.Proofs.YthdnajcgdngmcaaGreatDoor
namespace Go.Proofs.YthdnajcgdngmcaaGreatDoor
open Go.RowKit
theorem stV_zero (k U : Nat) (hU : 0 < U) : stV k U 0 = 0 := by
  unfold stV
  by_cases c : k = 0
  · rw [if_pos c]; rfl
  · rw [if_neg c, if_neg (by omega)]
    have := cutN_mul k false 0 U hU
    rw [Nat.zero_mul] at this
    rw [show (0 : Int).natAbs = 0 from rfl, this, Nat.zero_mul]; rfl
theorem stV_again (k U : Nat) (hU : 0 < U) (V : Int) : stV k U (stV k U V) = stV k U V := by
  by_cases c : k = 0
  · unfold stV
    rw [if_pos c, if_pos c]
    by_cases a : V < 0
    · rw [if_pos a, if_pos (by omega)]
    · rw [if_neg a]
      by_cases b : V = 0
      · rw [if_pos b]; rfl
      · rw [if_neg b, if_neg (by omega), if_neg (by omega)]
  · have key : ∀ (s : Bool) (q : Nat), cutN k s (q * U) U * U = q * U := fun s q => by rw [cutN_mul k s q U hU]
    unfold stV
    rw [if_neg c, if_neg c]
    by_cases a : V < 0
    · rw [if_pos a]
      generalize cutN k true V.natAbs U = q
      by_cases b : -((q * U : Nat) : Int) < 0
      · rw [if_pos b, show (-((q * U : Nat) : Int)).natAbs = q * U from by omega, key]
      · rw [if_neg b, show (-((q * U : Nat) : Int)).natAbs = q * U from by omega, key]; omega
    · rw [if_neg a]
      generalize cutN k false V.natAbs U = q
      rw [if_neg (by omega), show (((q * U : Nat) : Int)).natAbs = q * U from by omega, key]
theorem bmp_neg (k : Nat) (h : k ≠ 1 ∧ k ≠ 2) (s s' : Bool) (q r U : Nat) : bmp k s q r U = bmp k s' q r U := by
  unfold bmp
  rw [if_neg h.1, if_neg h.1, if_neg h.2, if_neg h.2]
theorem bmp_12 (s : Bool) (q r U : Nat) : bmp 1 (!s) q r U = bmp 2 s q r U := by
  unfold bmp
  rw [if_pos rfl, if_neg (by decide), if_pos rfl]
theorem stV_neg (k U : Nat) (hU : 0 < U) (h : k ≠ 1 ∧ k ≠ 2) (V : Int) : stV k U (-V) = -(stV k U V) := by
  by_cases z : V = 0
  · rw [z, show -(0 : Int) = 0 from rfl, stV_zero k U hU]; rfl
  unfold stV
  have e : ∀ A, cutN k true A U = cutN k false A U := fun A => by unfold cutN; rw [bmp_neg k h true false]
  by_cases c : k = 0
  · rw [if_pos c, if_pos c]
    by_cases a : V < 0
    · rw [if_pos a, if_neg (by omega), if_neg (by omega)]; omega
    · rw [if_neg a, if_pos (by omega), if_neg z]
  rw [if_neg c, if_neg c, Int.natAbs_neg, e]
  by_cases a : V < 0
  · rw [if_pos a, if_neg (by omega)]; omega
  · rw [if_neg a, if_pos (by omega)]
theorem stV_12 (U : Nat) (hU : 0 < U) (V : Int) : stV 2 U V = -(stV 1 U (-V)) := by
  by_cases z : V = 0
  · rw [z, show -(0 : Int) = 0 from rfl, stV_zero 1 U hU, stV_zero 2 U hU]; rfl
  unfold stV
  rw [if_neg (show ¬ (2 : Nat) = 0 by decide), if_neg (show ¬ (1 : Nat) = 0 by decide), Int.natAbs_neg]
  have e1 : ∀ A, cutN 1 true A U = cutN 2 false A U := fun A => by unfold cutN; rw [show true = !false from rfl, bmp_12]
  have e2 : ∀ A, cutN 1 false A U = cutN 2 true A U := fun A => by unfold cutN; rw [show false = !true from rfl, bmp_12]
  rw [e1, e2]
  by_cases a : V < 0
  · rw [if_pos a, if_neg (by omega)]
  · rw [if_neg a, if_pos (by omega)]; omega
end Go.Proofs.YthdnajcgdngmcaaGreatDoor
namespace Go.Proofs.YthdnajcgdngmcaaGreatDoor
open Go.RowKit
set_option linter.unusedVariables false
/-- the pattern that answers V of 2^-2148 in the direction d -/
def fmaW (d V : Int) : Nat := if V = 0 then 0 else mdW (decide (V < 0)) (finU 53 2098 9218868437227405311 9218868437227405312 (dirN (decide (V < 0)) d) (rV (dirN (decide (V < 0)) d) 53 V.natAbs 1 (-1074)))
theorem fmaW_g (K : Nat) (hK : K = 1074) (d V : Int) : fmaW d V = pz (g53 d 1 (2 ^ K) V) := by
  unfold fmaW g53 gpl
  rw [show (-1074 : Int) = -(K : Int) from by omega]
  by_cases z : V = 0
  · rw [if_pos z, if_pos z]; rfl
  · rw [if_neg z, if_neg z, mdW_pz, rV_neg]
    by_cases n : V < 0
    · rw [if_pos n, decide_eq_true n]; rfl
    · rw [if_neg n, decide_eq_false n]; rfl
theorem mulW_g (K : Nat) (hK : K = 1074) (d : Int) (n n' : Bool) (m m' : Nat) : mulW d (n ^^ n') (Fq.vV Ieee.double m * Fq.vV Ieee.double m') = pz (g53 d 1 (2 ^ K) (Iv n m * Iv n' m')) := by
  rw [← fmaW_g K hK]
  have e : Iv n m * Iv n' m' = if (n ^^ n') then -((Fq.vV Ieee.double m * Fq.vV Ieee.double m' : Nat) : Int) else ((Fq.vV Ieee.double m * Fq.vV Ieee.double m' : Nat) : Int) := by
    unfold Iv
    rw [Int.natCast_mul]
    cases n <;> cases n' <;> simp [Int.neg_mul, Int.mul_neg]
  rw [e]
  generalize Fq.vV Ieee.double m * Fq.vV Ieee.double m' = P
  generalize (n ^^ n') = s
  unfold mulW fmaW
  by_cases z : P = 0
  · rw [if_pos z, z, if_pos (by cases s <;> rfl)]
  · rw [if_neg z, if_neg (by cases s <;> simp <;> omega)]
    cases s
    · rw [if_neg (by decide), show decide (((P : Nat) : Int) < 0) = false from decide_eq_false (by omega), show ((P : Nat) : Int).natAbs = P from by omega]
    · rw [if_pos rfl, show decide (-((P : Nat) : Int) < 0) = true from decide_eq_true (by omega), show (-((P : Nat) : Int)).natAbs = P from by omega]
theorem divW_g (K : Nat) (hK : K = 1074) (d : Int) (n : Bool) (m B : Nat) : divW d (n ^^ false) (Fq.vV Ieee.double m) B = pz (g53 d (2 ^ K) B (Iv n m)) := by
  rw [show (n ^^ false) = n from by cases n <;> rfl]
  unfold divW g53 gpl
  rw [show (1074 : Int) = (K : Int) from by omega]
  have e : Iv n m = if n then -((Fq.vV Ieee.double m : Nat) : Int) else ((Fq.vV Ieee.double m : Nat) : Int) := by unfold Iv; cases n <;> rfl
  rw [e]
  generalize Fq.vV Ieee.double m = P
  by_cases z : P = 0
  · rw [if_pos z, z, if_pos (by cases n <;> rfl)]; rfl
  · rw [if_neg z, if_neg (by cases n <;> simp <;> omega), mdW_pz, rV_pos]
    cases n
    · simp only [Bool.false_eq_true, if_false]
      rw [if_neg (show ¬ ((P : Nat) : Int) < 0 by omega), show ((P : Nat) : Int).natAbs = P from by omega]
    · simp only [if_true]
      rw [if_pos (show -((P : Nat) : Int) < 0 by omega), show (-((P : Nat) : Int)).natAbs = P from by omega]
end Go.Proofs.YthdnajcgdngmcaaGreatDoor
namespace Go.Proofs.YthdnajcgdngmcaaGreatDoor
open Go.RowKit
set_option linter.unusedVariables false
theorem mulG_ (K : Nat) (hK : K = 1074) (d : Int) (n n' : Bool) (m m' : Nat) (hm : m < 9218868437227405312) (hm' : m' < 9218868437227405312) (hd1 : -9223372036854775808 ≤ d) (hd2 : d < 9223372036854775808) (w : World) (hT : Tab w) (hQ : Fq.Tab w) : Calls Tryz.prog 65 #[.int .i64 d, .float .f64 (Fq.wD n m), .float .f64 (Fq.wD n' m')] w fun e w' => e = .returned (.float .f64 (pz (g53 d 1 (2 ^ K) (Iv n m * Iv n' m')))) ∧ Kp w w' := by
  rw [← mulW_g K hK]
  by_cases z : m = 0 ∨ m' = 0
  · have h0 : mulW d (n ^^ n') (Fq.vV Ieee.double m * Fq.vV Ieee.double m') = 0 := by
      unfold mulW
      refine if_pos (Nat.mul_eq_zero.2 ?_)
      rcases z with z | z
      · exact Or.inl ((vV_zero m).2 z)
      · exact Or.inr ((vV_zero m').2 z)
    rw [h0]
    have hp := Fq.plain_d (n ^^ n') 0 (by decide) w
    rw [show Fq.wD ((n ^^ n') && !((0 : Nat) == 0)) 0 = 0 from by simp; rfl] at hp
    exact pmulP_ d n n' m m' (by omega) (by omega) (fun h => by omega) w w (Fq.wD (n ^^ n') 0) 0 (run_float_arith w .mul 22 .f64 _ _ _ (mul_zero n n' m m' hm hm' z)) (Kp.refl _) hp
  · by_cases ct : (2580562586483294208 ≤ m ∧ m ≤ 6633802251116740608) ∧ (2580562586483294208 ≤ m' ∧ m' ≤ 6633802251116740608)
    · exact pmulQ_ d n n' m m' ct.1 ct.2 w
    · exact pmulE_ d n n' m m' hm hm' (fun h => z (Or.inl h)) (fun h => z (Or.inr h)) ct w hT hQ hd1 hd2
end Go.Proofs.YthdnajcgdngmcaaGreatDoor
namespace Go.Proofs.YthdnajcgdngmcaaGreatDoor
open Go.RowKit
set_option linter.unusedVariables false
theorem iv_nt (n : Bool) (m : Nat) : Iv (!n) m = -Iv n m := by rw [iv_not]
def sgI (n : Bool) : Int := if n then -9218868437227405312 else 9218868437227405312
theorem sgI_not (n : Bool) : sgI (!n) = -sgI n := by cases n <;> rfl
def oM (K : Nat) (d : Int) (n : Bool) (m : Nat) (n' : Bool) (m' : Nat) : Option Int := if 9218868437227405312 < m ∨ 9218868437227405312 < m' ∨ (m = 9218868437227405312 ∧ m' = 0) ∨ (m = 0 ∧ m' = 9218868437227405312) then none else if m = 9218868437227405312 ∨ m' = 9218868437227405312 then some (sgI (n ^^ n')) else some (g53 d 1 (2 ^ K) (Iv n m * Iv n' m'))
def oD (K : Nat) (d : Int) (n : Bool) (m : Nat) (n' : Bool) (m' : Nat) : Option Int := if m' = 0 then (if m = 0 ∨ 9218868437227405312 < m then none else some (sgI n)) else if 9218868437227405312 < m ∨ 9218868437227405312 < m' ∨ (m = 9218868437227405312 ∧ m' = 9218868437227405312) then none else if m = 9218868437227405312 then some (sgI (n ^^ n')) else if m' = 9218868437227405312 then some 0 else some (g53 d (2 ^ K) (Fq.vV Ieee.double m') (Iv (n ^^ n') m))
theorem xor_not9 (n n' : Bool) : ((!n) ^^ n') = !(n ^^ n') := by cases n <;> cases n' <;> rfl
theorem oD_mir (K : Nat) (d : Int) (n : Bool) (m : Nat) (n' : Bool) (m' : Nat) : oD K (-d) (!n) m n' m' = ng (oD K d n m n' m') := by
  unfold oD
  rw [xor_not9, sgI_not, sgI_not, iv_nt, g53_neg]
  by_cases c0 : m' = 0
  · rw [if_pos c0, if_pos c0]
    by_cases c1 : m = 0 ∨ 9218868437227405312 < m
    · rw [if_pos c1, if_pos c1]; rfl
    rw [if_neg c1, if_neg c1]; rfl
  rw [if_neg c0, if_neg c0]
  by_cases c1 : 9218868437227405312 < m ∨ 9218868437227405312 < m' ∨ (m = 9218868437227405312 ∧ m' = 9218868437227405312)
  · rw [if_pos c1, if_pos c1]; rfl
  rw [if_neg c1, if_neg c1]
  by_cases c2 : m = 9218868437227405312
  · rw [if_pos c2, if_pos c2]; rfl
  rw [if_neg c2, if_neg c2]
  by_cases c3 : m' = 9218868437227405312
  · rw [if_pos c3, if_pos c3]; rfl
  rw [if_neg c3, if_neg c3]; rfl
theorem sgI_le (n : Bool) : -9218868437227405312 ≤ sgI n ∧ sgI n ≤ 9218868437227405312 := by cases n <;> decide
def okO (o : Option Int) : Prop := ∀ z, o = some z → -9218868437227405312 ≤ z ∧ z ≤ 9218868437227405312
theorem ok_some (z : Int) (h : -9218868437227405312 ≤ z ∧ z ≤ 9218868437227405312) : okO (some z) := fun y e => by cases e; exact h
theorem ok_none : okO none := fun y e => by cases e
theorem okD (K : Nat) (d : Int) (n : Bool) (m : Nat) (n' : Bool) (m' : Nat) : okO (oD K d n m n' m') := by
  unfold oD
  split
  · split
    · exact ok_none
    · exact ok_some _ (sgI_le _)
  · split
    · exact ok_none
    · split
      · exact ok_some _ (sgI_le _)
      · split
        · exact ok_some _ (by decide)
        · exact ok_some _ (g53_le _ _ _ _)
theorem wD_sg (n : Bool) : Fq.wD n 9218868437227405312 = pz (sgI n) := by cases n <;> decide
end Go.Proofs.YthdnajcgdngmcaaGreatDoor
namespace Go.Proofs.YthdnajcgdngmcaaGreatDoor
open Go.RowKit
theorem vZ_inj (x y : Int) (h : vZ x = vZ y) : x = y := by
  have a := (vZ_iff x y).1 (by omega)
  have b := (vZ_iff y x).1 (by omega)
  omega
theorem stZ_again (K : Nat) (hK : K = 1074) (k : Nat) (z : Int) (hz : BdZ z) : stZ K k (stZ K k z) = stZ K k z := by
  unfold BdZ at hz
  by_cases c : k = 0
  · rw [c]
    have e : ∀ y, stZ K 0 y = (if y < 0 then -4607182418800017408 else if y = 0 then 0 else 4607182418800017408) := fun y => by unfold stZ; rw [if_pos rfl]
    rw [e z]
    by_cases a : z < 0
    · rw [if_pos a, e]; rfl
    · rw [if_neg a]
      by_cases b : z = 0
      · rw [if_pos b, e]; rfl
      · rw [if_neg b, e]; rfl
  by_cases ci : z = 9218868437227405312 ∨ z = -9218868437227405312
  · rw [stZ_inf K k c z ci, stZ_inf K k c z ci]
  · have v := stZ_val K hK k c z (by omega)
    have v2 := stZ_val K hK k c _ v.2
    apply vZ_inj
    rw [v2.1, v.1, stV_again k _ (Nat.two_pow_pos K)]
theorem stZ_neg (K : Nat) (hK : K = 1074) (k : Nat) (h : k ≠ 1 ∧ k ≠ 2) (z : Int) (hz : BdZ z) : stZ K k (-z) = -(stZ K k z) := by
  unfold BdZ at hz
  by_cases c : k = 0
  · rw [c]
    have e : ∀ y, stZ K 0 y = (if y < 0 then -4607182418800017408 else if y = 0 then 0 else 4607182418800017408) := fun y => by unfold stZ; rw [if_pos rfl]
    rw [e, e]
    by_cases a : z < 0 <;> by_cases b : z = 0 <;> simp [a, b] <;> omega
  by_cases ci : z = 9218868437227405312 ∨ z = -9218868437227405312
  · rw [stZ_inf K k c z ci, stZ_inf K k c (-z) (by omega)]
  · have v := stZ_val K hK k c z (by omega)
    have v2 := stZ_val K hK k c (-z) (by omega)
    apply vZ_inj
    rw [v2.1, vZ_neg, vZ_neg, v.1, stV_neg k _ (Nat.two_pow_pos K) h]
theorem stZ_12 (K : Nat) (hK : K = 1074) (z : Int) (hz : BdZ z) : stZ K 2 z = -(stZ K 1 (-z)) := by
  unfold BdZ at hz
  by_cases ci : z = 9218868437227405312 ∨ z = -9218868437227405312
  · rw [stZ_inf K 2 (by decide) z ci, stZ_inf K 1 (by decide) (-z) (by omega)]; omega
  · have v := stZ_val K hK 2 (by decide) z (by omega)
    have v2 := stZ_val K hK 1 (by decide) (-z) (by omega)
    apply vZ_inj
    rw [vZ_neg, v2.1, v.1, vZ_neg, stV_12 _ (Nat.two_pow_pos K)]
end Go.Proofs.YthdnajcgdngmcaaGreatDoor
namespace Go.Proofs.YthdnajcgdngmcaaGreatDoor
open Go.RowKit
set_option linter.unusedVariables false
set_option linter.unusedVariables false
theorem vd_neg (L H : Int) (h : VdZ L H) : VdZ (-H) (-L) := by unfold VdZ at *; omega
end Go.Proofs.YthdnajcgdngmcaaGreatDoor
namespace Go.Proofs.YthdnajcgdngmcaaGreatDoor
open Go.RowKit
set_option linter.unusedVariables false
/-- is a place below 0? -/
def sN (z : Int) : Bool := decide (z < 0)
theorem sN_neg (z : Int) (h : z ≠ 0) : sN (-z) = !(sN z) := by
  unfold sN
  by_cases c : z < 0
  · rw [decide_eq_true c, decide_eq_false (by omega)]; rfl
  · rw [decide_eq_false c, decide_eq_true (by omega)]; rfl
def muZ (K : Nat) (d x y : Int) : Int := (oM K d (sN x) x.natAbs (sN y) y.natAbs).getD 0
def diZ (K : Nat) (d x y : Int) : Int := (oD K d (sN x) x.natAbs (sN y) y.natAbs).getD 0
theorem okD0 {o : Option Int} (h : okO o) : BdZ (o.getD 0) := by
  unfold BdZ
  cases o with
  | none => simp
  | some z => exact h z rfl
theorem diZ_bd (K : Nat) (d x y : Int) : BdZ (diZ K d x y) := okD0 (okD _ _ _ _ _ _)
theorem getD_ng (o : Option Int) : (ng o).getD 0 = -(o.getD 0) := by cases o <;> simp [ng]
theorem diZ_mir (K : Nat) (d x y : Int) (hx : x ≠ 0) : diZ K (-d) (-x) y = -(diZ K d x y) := by
  unfold diZ
  rw [sN_neg x hx, Int.natAbs_neg, oD_mir, getD_ng]
/-- the least of what f makes of two ends -/
def lst (f : Int → Int → Int) (L1 H1 L2 H2 : Int) : Int := if L1 < 0 ∧ 0 < H1 ∧ L2 < 0 ∧ 0 < H2 then min (f H1 L2) (f L1 H2) else if L1 < 0 ∧ 0 < H2 then f L1 H2 else if 0 < H1 ∧ L2 < 0 then f H1 L2 else if H1 ≤ 0 ∧ H2 ≤ 0 then f H1 H2 else f L1 L2
theorem lst_bd (f : Int → Int → Int) (hf : ∀ x y, BdZ (f x y)) (L1 H1 L2 H2 : Int) : BdZ (lst f L1 H1 L2 H2) := by
  unfold lst
  repeat' split
  · exact bd_min _ _ (hf _ _) (hf _ _)
  all_goals exact hf _ _
end Go.Proofs.YthdnajcgdngmcaaGreatDoor
namespace Go.Proofs.YthdnajcgdngmcaaGreatDoor
open Go.RowKit
set_option linter.unusedVariables false
def IsO (o : Option Int) (R : Nat) : Prop := ∀ z, o = some z → R = pz z
theorem bitsP_ (z : Int) (h : -9218868437227405312 ≤ z ∧ z ≤ 9218868437227405312) : IsO (some z) (pz z) := fun y e => by cases e; rfl
theorem bitsI_ (n : Bool) : IsO (some (sgI n)) (Fq.wD n 9218868437227405312) := fun y e => by cases e; exact wD_sg n
theorem bitsQ_ (R : Nat) (h1 : 9218868437227405312 < R % 9223372036854775808) (h2 : R < 18446744073709551616) : IsO none R := fun y e => by cases e
theorem plain0 (s : Bool) (w : World) : Calls Tryz.prog 98 #[.float .f64 (Fq.wD s 0)] w fun e w' => e = .returned (.float .f64 0) ∧ w' = w := by
  have hp := Fq.plain_d s 0 (by decide) w
  rw [show Fq.wD (s && !((0 : Nat) == 0)) 0 = 0 from by simp; rfl] at hp
  exact hp
theorem plainI (s : Bool) (w : World) : Calls Tryz.prog 98 #[.float .f64 (Fq.wD s 9218868437227405312)] w fun e w' => e = .returned (.float .f64 (Fq.wD s 9218868437227405312)) ∧ w' = w := by
  have hp := Fq.plain_d s 9218868437227405312 (by decide) w
  rw [show (s && !((9218868437227405312 : Nat) == 0)) = s from by simp] at hp
  exact hp
theorem plainN (R : Nat) (p1 : 9218868437227405312 < R % 9223372036854775808) (p2 : R < 18446744073709551616) (w : World) : Calls Tryz.prog 98 #[.float .f64 R] w fun e w' => e = .returned (.float .f64 R) ∧ w' = w := by
  obtain ⟨a, b, hb9, hR⟩ := word_of R p2
  have hp := Fq.plain_d a b (by omega) w
  rw [show (a && !(b == 0)) = a from by simp; omega, ← hR] at hp
  exact hp
theorem mulO_ (K : Nat) (hK : K = 1074) (d : Int) (n n' : Bool) (m m' : Nat) (hm : m < 9223372036854775808) (hm' : m' < 9223372036854775808) (hd1 : -9223372036854775808 ≤ d) (hd2 : d < 9223372036854775808) (w : World) (hT : Tab w) (hQ : Fq.Tab w) : Calls Tryz.prog 65 #[.int .i64 d, .float .f64 (Fq.wD n m), .float .f64 (Fq.wD n' m')] w fun e w' => ∃ R, e = .returned (.float .f64 R) ∧ IsO (oM K d n m n' m') R ∧ Kp w w' := by
  by_cases hi : m < 9218868437227405312 ∧ m' < 9218868437227405312
  · have e : oM K d n m n' m' = some (g53 d 1 (2 ^ K) (Iv n m * Iv n' m')) := by
      unfold oM
      rw [if_neg (by omega), if_neg (by omega)]
    rw [e]
    exact (mulG_ K hK d n n' m m' hi.1 hi.2 hd1 hd2 w hT hQ).mono fun e w' h => ⟨_, h.1, bitsP_ _ (g53_le _ _ _ _), h.2⟩
  · by_cases hb : badP m m'
    · have e : oM K d n m n' m' = none := by
        have hb2 := hb
        unfold badP at hb2
        unfold oM
        rw [if_pos hb2]
      rw [e]
      obtain ⟨R, p1, p2, hrun⟩ := run_nan_mul _ _ (mul_bad n n' m m' hm hm' hb) w
      exact (pmulP_ d n n' m m' hm hm' (fun h => hi ⟨h.1, h.2.1⟩) w w.drew R R hrun (Kp.refl _).drew (plainN R p1 p2 w.drew)).mono fun e w' h => ⟨R, h.1, bitsQ_ R p1 p2, h.2⟩
    · have e : oM K d n m n' m' = some (sgI (n ^^ n')) := by
        unfold oM
        unfold badP at hb
        rw [if_neg hb, if_pos (by omega)]
      rw [e]
      exact (pmulP_ d n n' m m' hm hm' (fun h => hi ⟨h.1, h.2.1⟩) w w _ _ (run_float_arith w .mul 22 .f64 _ _ _ (mul_inf n n' m m' hb hi)) (Kp.refl _) (plainI _ w)).mono fun e w' h => ⟨_, h.1, bitsI_ _, h.2⟩
theorem divW_g2 (K : Nat) (hK : K = 1074) (d : Int) (s : Bool) (m B : Nat) : divW d s (Fq.vV Ieee.double m) B = pz (g53 d (2 ^ K) B (Iv s m)) := by
  have h := divW_g K hK d s m B
  rw [show (s ^^ false) = s from by cases s <;> rfl] at h
  exact h
theorem divO_ (K : Nat) (hK : K = 1074) (d : Int) (n n' : Bool) (m m' : Nat) (hm : m < 9223372036854775808) (hm' : m' < 9223372036854775808) (hd1 : -9223372036854775808 ≤ d) (hd2 : d < 9223372036854775808) (w : World) (hT : Tab w) (hQ : Fq.Tab w) : Calls Tryz.prog 114 #[.int .i64 d, .float .f64 (Fq.wD n m), .float .f64 (Fq.wD n' m')] w fun e w' => ∃ R, e = .returned (.float .f64 R) ∧ IsO (oD K d n m n' m') R ∧ Kp w w' := by
  by_cases z' : m' = 0
  · have h := pdivN_ d n n' m hm w
    rw [z']
    by_cases c : m = 0 ∨ 9218868437227405312 < m
    · have e : oD K d n m n' 0 = none := by unfold oD; rw [if_pos rfl, if_pos c]
      rw [e]
      rw [if_pos c] at h
      exact h.mono fun e w' h => ⟨_, h.1, bitsQ_ _ (by decide) (by decide), h.2⟩
    · have e : oD K d n m n' 0 = some (sgI n) := by unfold oD; rw [if_pos rfl, if_neg c]
      rw [e]
      rw [if_neg c] at h
      exact h.mono fun e w' h => ⟨_, h.1, bitsI_ _, h.2⟩
  · by_cases hb : badQ m m'
    · have e : oD K d n m n' m' = none := by have hb2 := hb; unfold badQ at hb2; unfold oD; rw [if_neg z', if_pos hb2]
      rw [e]
      obtain ⟨R, p1, p2, hrun⟩ := run_nan_quo _ _ (div_bad n n' m m' hm hm' hb) w
      exact (pdivP_ d n n' m m' hm hm' z' (fun h => by unfold badQ at hb; omega) w w.drew R R hrun (Kp.refl _).drew (plainN R p1 p2 w.drew)).mono fun e w' h => ⟨R, h.1, bitsQ_ R p1 p2, h.2⟩
    · unfold badQ at hb
      by_cases c1 : m = 9218868437227405312
      · have e : oD K d n m n' m' = some (sgI (n ^^ n')) := by unfold oD; rw [if_neg z', if_neg hb, if_pos c1]
        rw [e]
        exact (pdivP_ d n n' m m' hm hm' z' (fun h => by omega) w w _ _ (run_float_arith w .quo 22 .f64 _ _ _ (div_inf n n' m m' c1 (by omega))) (Kp.refl _) (plainI _ w)).mono fun e w' h => ⟨_, h.1, bitsI_ _, h.2⟩
      · by_cases c2 : m' = 9218868437227405312
        · have e : oD K d n m n' m' = some 0 := by unfold oD; rw [if_neg z', if_neg hb, if_neg c1, if_pos c2]
          rw [e]
          exact (pdivP_ d n n' m m' hm hm' z' (fun h => by omega) w w _ _ (run_float_arith w .quo 22 .f64 _ _ _ (div_zero n n' m m' (by omega) (Or.inl c2))) (Kp.refl _) (plain0 _ w)).mono fun e w' h => ⟨_, h.1, bitsP_ 0 (by decide), h.2⟩
        · have e : oD K d n m n' m' = some (g53 d (2 ^ K) (Fq.vV Ieee.double m') (Iv (n ^^ n') m)) := by unfold oD; rw [if_neg z', if_neg hb, if_neg c1, if_neg c2]
          rw [e]
          suffices h : Calls Tryz.prog 114 #[.int .i64 d, .float .f64 (Fq.wD n m), .float .f64 (Fq.wD n' m')] w fun e w' => e = .returned (.float .f64 (divW d (n ^^ n') (Fq.vV Ieee.double m) (Fq.vV Ieee.double m'))) ∧ Kp w w' by
            rw [divW_g2 K hK] at h
            exact h.mono fun e w' h => ⟨_, h.1, bitsP_ _ (g53_le _ _ _ _), h.2⟩
          by_cases z : m = 0
          · have h0 : divW d (n ^^ n') (Fq.vV Ieee.double m) (Fq.vV Ieee.double m') = 0 := by
              unfold divW
              exact if_pos ((vV_zero m).2 z)
            rw [h0]
            exact pdivP_ d n n' m m' hm hm' z' (fun h => by omega) w w _ _ (run_float_arith w .quo 22 .f64 _ _ _ (div_zero n n' m m' (by omega) (Or.inr ⟨z, by omega, z'⟩))) (Kp.refl _) (plain0 _ w)
          · by_cases ct : (2580562586483294208 ≤ m ∧ m ≤ 6633802251116740608) ∧ (2580562586483294208 ≤ m' ∧ m' ≤ 6633802251116740608)
            · exact pdivQ_ d n n' m m' ct.1 ct.2 w
            · exact pdivE_ d n n' m m' (by omega) (by omega) z z' ct w hQ hd1 hd2
theorem aI (z : Int) (h : BdZ z) : z.natAbs < 9223372036854775808 := by unfold BdZ at h; omega
def TT (w : World) : Prop := Tab w ∧ Fq.Tab w
theorem TT.kp {w w' : World} (h : TT w) (g : Kp w w') : TT w' := ⟨h.1.grown g, h.2.grown g⟩
theorem divP_ (K : Nat) (hK : K = 1074) (d x y : Int) (hd1 : -9223372036854775808 ≤ d) (hd2 : d < 9223372036854775808) (hx : BdZ x) (hy : BdZ y) (zy : y ≠ 0) (hb : ¬ ((x = 9218868437227405312 ∨ x = -9218868437227405312) ∧ (y = 9218868437227405312 ∨ y = -9218868437227405312))) (w : World) (hT : TT w) : Calls Tryz.prog 114 #[.int .i64 d, .float .f64 (pw x), .float .f64 (pw y)] w fun e w' => e = .returned (.float .f64 (pw (diZ K d x y))) ∧ Kp w w' := by
  have h := divO_ K hK d (sN x) (sN y) x.natAbs y.natAbs (aI x hx) (aI y hy) hd1 hd2 w hT.1 hT.2
  refine h.mono ?_
  rintro e w' ⟨R, rfl, hR, k⟩
  have hz : ∃ z, oD K d (sN x) x.natAbs (sN y) y.natAbs = some z := by
    unfold oD
    rw [if_neg (by omega), if_neg (by unfold BdZ at hx hy; omega)]
    repeat' split
    all_goals exact ⟨_, rfl⟩
  obtain ⟨z, hz⟩ := hz
  refine ⟨?_, k⟩
  rw [hR z hz]
  unfold diZ
  rw [hz]; rfl
end Go.Proofs.YthdnajcgdngmcaaGreatDoor
namespace Go.Proofs.YthdnajcgdngmcaaGreatDoor
open Go.RowKit
set_option maxRecDepth 20000 in
set_option maxHeartbeats 1000000 in
theorem quo1_ (X Y Z : Nat) (w : World) (hM : Calls Tryz.prog 114 #[.int .i64 (-1), .float .f64 X, .float .f64 Y] w fun e w' => e = .returned (.float .f64 Z) ∧ Kp w w') : Calls Tryz.prog 104 #[.float .f64 X, .float .f64 Y] w fun e w' => e = .returned (.float .f64 Z) ∧ Kp w w' := by
  go_enter Tryz.func104, Tryz.ntmps104
  go_wp2_with (first | (go_at_call 114; refine hM.mono ?_; rintro e w1 ⟨rfl, g1⟩))
  exact bodyPost_ret (v := .float .f64 Z) (by simp [results, Tryz.results104, go_sem]) rfl ⟨rfl, g1⟩
theorem eq0_pw (x : Int) (hx : BdZ x) : (FloatKind.f64.format.order (pw x) 0 == some Ordering.eq) = decide (x = 0) := by
  have h := peq9 x 0 hx (by unfold BdZ; omega)
  rw [show pw 0 = 0 from rfl] at h
  exact h
theorem lt0_pw (x : Int) (hx : BdZ x) : (FloatKind.f64.format.order (pw x) 0 == some Ordering.lt) = decide (x < 0) := by
  have h := plt9 x 0 hx (by unfold BdZ; omega)
  rw [show pw 0 = 0 from rfl] at h
  exact h
theorem gt0_pw (x : Int) (hx : BdZ x) : (FloatKind.f64.format.order (pw x) 0 == some Ordering.gt) = decide (0 < x) := by
  have h := pgt9 x 0 hx (by unfold BdZ; omega)
  rw [show pw 0 = 0 from rfl] at h
  exact h
theorem le0_pw (x : Int) (hx : BdZ x) : (FloatKind.f64.format.order (pw x) 0 == some Ordering.lt || FloatKind.f64.format.order (pw x) 0 == some Ordering.eq) = decide (x ≤ 0) := by
  have h := ple9 x 0 hx (by unfold BdZ; omega)
  rw [show pw 0 = 0 from rfl] at h
  exact h
theorem ge0_pw (x : Int) (hx : BdZ x) : (FloatKind.f64.format.order (pw x) 0 == some Ordering.gt || FloatKind.f64.format.order (pw x) 0 == some Ordering.eq) = decide (0 ≤ x) := by
  have h := pge9 x 0 hx (by unfold BdZ; omega)
  rw [show pw 0 = 0 from rfl] at h
  exact h
theorem quoP_ (K : Nat) (hK : K = 1074) (x y : Int) (hx : BdZ x) (hy : BdZ y) (zy : y ≠ 0) (hb : ¬ ((x = 9218868437227405312 ∨ x = -9218868437227405312) ∧ (y = 9218868437227405312 ∨ y = -9218868437227405312))) (w : World) (hT : TT w) : Calls Tryz.prog 104 #[.float .f64 (pw x), .float .f64 (pw y)] w fun e w' => e = .returned (.float .f64 (pw (diZ K (-1) x y))) ∧ Kp w w' :=
  quo1_ _ _ _ w (divP_ K hK (-1) x y (by omega) (by omega) hx hy zy hb w hT)
end Go.Proofs.YthdnajcgdngmcaaGreatDoor
namespace Go.Proofs.YthdnajcgdngmcaaGreatDoor
open Go.RowKit
set_option linter.unusedVariables false
set_option maxRecDepth 20000 in
set_option maxHeartbeats 2000000 in
theorem spreadA_ (a b c d NL NH Z1 Z2 Z3 : Nat) (fv : Value) (w : World) (h1 : ∀ W : World, Kp w W → Calls Tryz.prog 138 #[.agg #[.float .f64 a, .float .f64 b], .agg #[.float .f64 c, .float .f64 d], fv] W fun e w' => e = .returned (.float .f64 Z1) ∧ Kp W w') (hN : ∀ w : World, Calls Tryz.prog 30 #[.agg #[.float .f64 a, .float .f64 b]] w fun e w' => e = .returned (.agg #[.float .f64 NL, .float .f64 NH]) ∧ Kp w w') (h2 : ∀ W : World, Kp w W → Calls Tryz.prog 138 #[.agg #[.float .f64 NL, .float .f64 NH], .agg #[.float .f64 c, .float .f64 d], fv] W fun e w' => e = .returned (.float .f64 Z2) ∧ Kp W w') (hm : ∀ w : World, Calls Tryz.prog 67 #[.float .f64 Z2] w fun e w' => e = .returned (.float .f64 Z3) ∧ w' = w) : Calls Tryz.prog 103 #[.agg #[.float .f64 a, .float .f64 b], .agg #[.float .f64 c, .float .f64 d], fv] w fun e w' => e = .returned (.agg #[.float .f64 Z1, .float .f64 Z3]) ∧ Kp w w' := by
  go_enter Tryz.func103, Tryz.ntmps103
  go_wp2
  generalize hW : (((w.alloc (.cells #[.float .f64 a, .float .f64 b] 25)).alloc (.cells #[.float .f64 c, .float .f64 d] 25)).alloc (.cells #[.float .f64 0, .float .f64 0] 25)) = W
  have kw : Kp w W := by rw [← hW]; exact (((Kp.refl w).alloc _).alloc _).alloc _
  have xw0 : W.cell? ⟨w.heap.size, 0, none⟩ = some (.float .f64 a) := by rw [← hW]; simp [go_sem]
  have dw0 : W.drew.cell? ⟨w.heap.size, 0, none⟩ = some (.float .f64 a) := xw0
  have xw1 : W.cell? ⟨w.heap.size, 1, none⟩ = some (.float .f64 b) := by rw [← hW]; simp [go_sem]
  have dw1 : W.drew.cell? ⟨w.heap.size, 1, none⟩ = some (.float .f64 b) := xw1
  have xw2 : W.cell? ⟨w.heap.size + 1, 0, none⟩ = some (.float .f64 c) := by rw [← hW]; simp [go_sem]
  have dw2 : W.drew.cell? ⟨w.heap.size + 1, 0, none⟩ = some (.float .f64 c) := xw2
  have xw3 : W.cell? ⟨w.heap.size + 1, 1, none⟩ = some (.float .f64 d) := by rw [← hW]; simp [go_sem]
  have dw3 : W.drew.cell? ⟨w.heap.size + 1, 1, none⟩ = some (.float .f64 d) := xw3
  have r0 : W.cell? ⟨w.heap.size + 2, 0, none⟩ = some (.float .f64 0) := by rw [← hW]; simp [go_sem]
  have rz0 : W.frozen? ⟨w.heap.size + 2, 0, none⟩ = false := by rw [← hW]; simp [go_sem]
  have r1 : W.cell? ⟨w.heap.size + 2, 1, none⟩ = some (.float .f64 0) := by rw [← hW]; simp [go_sem]
  have rz1 : W.frozen? ⟨w.heap.size + 2, 1, none⟩ = false := by rw [← hW]; simp [go_sem]
  have hn1 : w.heap.size + 2 ≠ w.heap.size := by omega
  have hn2 : w.heap.size + 2 ≠ w.heap.size + 1 := by omega
  clear hW
  go_region_held3 (fun w' => w'.cell? ⟨w.heap.size, 0, none⟩ = some (.float .f64 a) ∧ w'.cell? ⟨w.heap.size, 1, none⟩ = some (.float .f64 b) ∧ w'.cell? ⟨w.heap.size + 1, 0, none⟩ = some (.float .f64 c) ∧ w'.cell? ⟨w.heap.size + 1, 1, none⟩ = some (.float .f64 d)) (first | (with_reducible exact ⟨xw0, xw1, xw2, xw3⟩) | (with_reducible exact ⟨dw0, dw1, dw2, dw3⟩) | (with_reducible exact ⟨aw0, aw1, aw2, aw3⟩) | (with_reducible exact ⟨nw0, nw1, nw2, nw3⟩) | (with_reducible exact ⟨bw0, bw1, bw2, bw3⟩) | (exact ⟨((World.cell?_setCell_far _ _ _ _ hn1).trans ((World.cell?_setCell_far _ _ _ _ hn1).trans bw0)), ((World.cell?_setCell_far _ _ _ _ hn1).trans ((World.cell?_setCell_far _ _ _ _ hn1).trans bw1)), ((World.cell?_setCell_far _ _ _ _ hn2).trans ((World.cell?_setCell_far _ _ _ _ hn2).trans bw2)), ((World.cell?_setCell_far _ _ _ _ hn2).trans ((World.cell?_setCell_far _ _ _ _ hn2).trans bw3))⟩)) (first | (go_at_call_of 138 (Value.agg #[.float .f64 a, .float .f64 b]); refine (h1 _ ?q0).mono ?_; (case q0 => first | exact kw.trans (Kp.drew (Kp.refl _)) | exact kw); rintro e wl ⟨rfl, gl⟩; have kl : Kp W wl := (by first | exact Kp.trans (Kp.drew (Kp.refl _)) gl | exact gl); have aw0 := kkeep kl xw0; have aw1 := kkeep kl xw1; have aw2 := kkeep kl xw2; have aw3 := kkeep kl xw3) | (go_at_call 30; refine (hN _).mono ?_; rintro e wn ⟨rfl, gn⟩; have kn : Kp W wn := Kp.trans kl gn; have nw0 := kkeep kn xw0; have nw1 := kkeep kn xw1; have nw2 := kkeep kn xw2; have nw3 := kkeep kn xw3) | (go_at_call_of 138 (Value.agg #[.float .f64 NL, .float .f64 NH]); refine (h2 _ ?q0).mono ?_; (case q0 => exact kw.trans kn); rintro e wh ⟨rfl, gh⟩; have kh : Kp W wh := Kp.trans kn gh; have bw0 := kkeep kh xw0; have bw1 := kkeep kh xw1; have bw2 := kkeep kh xw2; have bw3 := kkeep kh xw3; have R0 := kkeep kh r0; have Rz0 : wh.frozen? ⟨w.heap.size + 2, 0, none⟩ = false := (kfro kh (cell_lt r0)).trans rz0; have R1 := kkeep kh r1; have Rz1 : wh.frozen? ⟨w.heap.size + 2, 1, none⟩ = false := (kfro kh (cell_lt r1)).trans rz1) | (go_at_call 67; refine (hm _).mono ?_; rintro e wm ⟨rfl, gm⟩; obtain rfl := gm.symm))
  go_wp2
  exact bodyPost_ret (v := .agg #[.float .f64 Z1, .float .f64 Z3]) (by simp [results, Tryz.results103, go_sem, R0, R1]) rfl ⟨rfl, (((Kp.trans kw kh)).setCell (by simp <;> omega) _).setCell (by simp <;> omega) _⟩
end Go.Proofs.YthdnajcgdngmcaaGreatDoor
namespace Go.Proofs.YthdnajcgdngmcaaGreatDoor
open Go.RowKit
set_option linter.unusedVariables false
set_option maxRecDepth 20000 in
set_option maxHeartbeats 1000000 in
theorem from_ (X : Nat) (w : World) : Calls Tryz.prog 136 #[.float .f64 X] w fun e w' => e = .returned (.agg #[.float .f64 X, .float .f64 9218868437227405312]) ∧ Kp w w' := by
  go_enter Tryz.func136, Tryz.ntmps136
  go_wp2_with (first | (go_at_call 8; refine (Fq.inf1_ _).mono ?_; rintro e w1 ⟨rfl, rfl⟩))
  exact bodyPost_ret (v := .agg #[.float .f64 X, .float .f64 9218868437227405312]) (by simp [results, Tryz.results136, go_sem]) rfl ⟨rfl, (by repeat (with_reducible (first | assumption | exact Kp.refl _ | apply Kp.drew | apply Kp.alloc | apply Kp.drewN | (refine Kp.setCell ?_ (by first | omega | (simp <;> omega)) _) | (refine Kp.trans ?_ (by assumption)))))⟩
set_option maxRecDepth 20000 in
set_option maxHeartbeats 1000000 in
theorem upTo_ (X : Nat) (w : World) : Calls Tryz.prog 137 #[.float .f64 X] w fun e w' => e = .returned (.agg #[.float .f64 18442240474082181120, .float .f64 X]) ∧ Kp w w' := by
  go_enter Tryz.func137, Tryz.ntmps137
  go_wp2_with (first | (go_at_call 8; refine (Fq.infm_ _).mono ?_; rintro e w1 ⟨rfl, rfl⟩))
  exact bodyPost_ret (v := .agg #[.float .f64 18442240474082181120, .float .f64 X]) (by simp [results, Tryz.results137, go_sem]) rfl ⟨rfl, (by repeat (with_reducible (first | assumption | exact Kp.refl _ | apply Kp.drew | apply Kp.alloc | apply Kp.drewN | (refine Kp.setCell ?_ (by first | omega | (simp <;> omega)) _) | (refine Kp.trans ?_ (by assumption)))))⟩
set_option maxRecDepth 20000 in
set_option maxHeartbeats 1000000 in
theorem holdsN_ (a b : Nat) (B1 B2 : Bool) (t1 : (FloatKind.f64.format.order a 0 == some Ordering.lt || FloatKind.f64.format.order a 0 == some Ordering.eq) = B1) (t2 : (FloatKind.f64.format.order b 0 == some Ordering.gt || FloatKind.f64.format.order b 0 == some Ordering.eq) = B2) (w : World) : Calls Tryz.prog 93 #[.agg #[.float .f64 a, .float .f64 b]] w fun e w' => e = .returned (.bool (B1 && B2)) ∧ Kp w w' := by
  cases B1 <;> cases B2
  all_goals (
    go_enter Tryz.func93, Tryz.ntmps93
    go_wp2
    exact bodyPost_ret (v := .bool _) (by simp [results, Tryz.results93, go_sem]) rfl ⟨rfl, (by repeat (with_reducible (first | assumption | exact Kp.refl _ | apply Kp.drew | apply Kp.alloc | apply Kp.drewN | (refine Kp.setCell ?_ (by first | omega | (simp <;> omega)) _) | (refine Kp.trans ?_ (by assumption)))))⟩)
end Go.Proofs.YthdnajcgdngmcaaGreatDoor
namespace Go.Proofs.YthdnajcgdngmcaaGreatDoor
open Go.RowKit
set_option linter.unusedVariables false
set_option maxRecDepth 20000 in
set_option maxHeartbeats 2000000 in
theorem byN1_ (a b c d : Nat) (C0 D0 : Bool) (tC0 : (FloatKind.f64.format.order c 0 == some Ordering.eq) = C0) (tD0 : (FloatKind.f64.format.order d 0 == some Ordering.eq) = D0) (q0 : (C0 && D0) = true) (w : World) (hE : ∀ w : World, Calls Tryz.prog 51 #[] w fun e w' => e = .returned (.agg #[.float .f64 9218868437227405312, .float .f64 18442240474082181120]) ∧ Kp w w') : Calls Tryz.prog 102 #[.agg #[.float .f64 a, .float .f64 b], .agg #[.float .f64 c, .float .f64 d]] w fun e w' => e = .returned (.agg #[.float .f64 9218868437227405312, .float .f64 18442240474082181120]) ∧ Kp w w' := by
  go_enter Tryz.func102, Tryz.ntmps102
  go_upto_region 1 with fail
  have kw : Kp w (((w.alloc (.cells #[.float .f64 a, .float .f64 b] 25)).alloc (.cells #[.float .f64 c, .float .f64 d] 25)).alloc (.cells #[.float .f64 0, .float .f64 0] 25)) := (((Kp.refl w).alloc _).alloc _).alloc _
  have sw : H6 (((w.alloc (.cells #[.float .f64 a, .float .f64 b] 25)).alloc (.cells #[.float .f64 c, .float .f64 d] 25)).alloc (.cells #[.float .f64 0, .float .f64 0] 25)) w.heap.size (.float .f64 a) (.float .f64 b) (.float .f64 c) (.float .f64 d) (.float .f64 0) (.float .f64 0) := H6.new w (.float .f64 a) (.float .f64 b) (.float .f64 c) (.float .f64 d) (.float .f64 0) (.float .f64 0) 25 25 25
  generalize (((w.alloc (.cells #[.float .f64 a, .float .f64 b] 25)).alloc (.cells #[.float .f64 c, .float .f64 d] 25)).alloc (.cells #[.float .f64 0, .float .f64 0] 25)) = w1 at kw sw ⊢
  obtain ⟨⟨p0, p1, p2, p3⟩, ⟨p4, p5, p6, p7⟩, ⟨p8, p9, pa, pb⟩⟩ := id sw
  go_upto_region 1 with fail
  go_cut [5] (fun s5 wx => s5 = .bool true ∧ wx = w1)
  case first =>
    cases C0 <;> cases D0 <;> first | (exfalso; revert q0; decide) | skip
    all_goals (
      go_wp2_with fail
      go_meet
      exact ⟨rfl, rfl⟩)
  case rest =>
  obtain ⟨rfl, hwc⟩ := hcut
  replace kw : Kp w wc := (by rw [hwc]; exact kw)
  replace sw := (show H6 wc w.heap.size (.float .f64 a) (.float .f64 b) (.float .f64 c) (.float .f64 d) (.float .f64 0) (.float .f64 0) by rw [hwc]; exact sw)
  clear hwc
  generalize wc = w1 at kw sw ⊢
  obtain ⟨⟨p0, p1, p2, p3⟩, ⟨p4, p5, p6, p7⟩, ⟨p8, p9, pa, pb⟩⟩ := id sw
  go_wp2_with (first | (go_at_call 51; refine (hE _).mono ?_; rintro e wx ⟨rfl, gx⟩; replace kw := Kp.trans kw gx; replace sw := H6.keep sw gx; clear gx; obtain ⟨⟨p0, p1, p2, p3⟩, ⟨p4, p5, p6, p7⟩, ⟨p8, p9, pa, pb⟩⟩ := id sw))
  exact bodyPost_ret (v := .agg #[.float .f64 9218868437227405312, .float .f64 18442240474082181120]) (by simp [results, Tryz.results102, go_sem, p8, p9]) rfl ⟨rfl, (kw.setCell (by simp <;> omega) _).setCell (by simp <;> omega) _⟩
set_option maxRecDepth 20000 in
set_option maxHeartbeats 2000000 in
theorem byN2_ (a b c d : Nat) (C0 D0 A0 B0 : Bool) (tC0 : (FloatKind.f64.format.order c 0 == some Ordering.eq) = C0) (tD0 : (FloatKind.f64.format.order d 0 == some Ordering.eq) = D0) (tA0 : (FloatKind.f64.format.order a 0 == some Ordering.eq) = A0) (tB0 : (FloatKind.f64.format.order b 0 == some Ordering.eq) = B0) (q0 : (C0 && D0) = false) (q1 : (A0 && B0) = true) (w : World)  : Calls Tryz.prog 102 #[.agg #[.float .f64 a, .float .f64 b], .agg #[.float .f64 c, .float .f64 d]] w fun e w' => e = .returned (.agg #[.float .f64 a, .float .f64 b]) ∧ Kp w w' := by
  go_enter Tryz.func102, Tryz.ntmps102
  go_upto_region 1 with fail
  have kw : Kp w (((w.alloc (.cells #[.float .f64 a, .float .f64 b] 25)).alloc (.cells #[.float .f64 c, .float .f64 d] 25)).alloc (.cells #[.float .f64 0, .float .f64 0] 25)) := (((Kp.refl w).alloc _).alloc _).alloc _
  have sw : H6 (((w.alloc (.cells #[.float .f64 a, .float .f64 b] 25)).alloc (.cells #[.float .f64 c, .float .f64 d] 25)).alloc (.cells #[.float .f64 0, .float .f64 0] 25)) w.heap.size (.float .f64 a) (.float .f64 b) (.float .f64 c) (.float .f64 d) (.float .f64 0) (.float .f64 0) := H6.new w (.float .f64 a) (.float .f64 b) (.float .f64 c) (.float .f64 d) (.float .f64 0) (.float .f64 0) 25 25 25
  generalize (((w.alloc (.cells #[.float .f64 a, .float .f64 b] 25)).alloc (.cells #[.float .f64 c, .float .f64 d] 25)).alloc (.cells #[.float .f64 0, .float .f64 0] 25)) = w1 at kw sw ⊢
  obtain ⟨⟨p0, p1, p2, p3⟩, ⟨p4, p5, p6, p7⟩, ⟨p8, p9, pa, pb⟩⟩ := id sw
  go_upto_region 1 with fail
  go_cut [5] (fun s5 wx => s5 = .bool false ∧ wx = w1)
  case first =>
    cases C0 <;> cases D0 <;> first | (exfalso; revert q0; decide) | skip
    all_goals (
      go_wp2_with fail
      go_meet
      exact ⟨rfl, rfl⟩)
  case rest =>
  obtain ⟨rfl, hwc⟩ := hcut
  replace kw : Kp w wc := (by rw [hwc]; exact kw)
  replace sw := (show H6 wc w.heap.size (.float .f64 a) (.float .f64 b) (.float .f64 c) (.float .f64 d) (.float .f64 0) (.float .f64 0) by rw [hwc]; exact sw)
  clear hwc
  generalize wc = w1 at kw sw ⊢
  obtain ⟨⟨p0, p1, p2, p3⟩, ⟨p4, p5, p6, p7⟩, ⟨p8, p9, pa, pb⟩⟩ := id sw
  go_upto_region 3 with fail
  go_cut [15] (fun s15 wx => s15 = .bool true ∧ wx = w1)
  case first =>
    cases A0 <;> cases B0 <;> first | (exfalso; revert q1; decide) | skip
    all_goals (
      go_wp2_with fail
      go_meet
      exact ⟨rfl, rfl⟩)
  case rest =>
  obtain ⟨rfl, hwc⟩ := hcut
  replace kw : Kp w wc := (by rw [hwc]; exact kw)
  replace sw := (show H6 wc w.heap.size (.float .f64 a) (.float .f64 b) (.float .f64 c) (.float .f64 d) (.float .f64 0) (.float .f64 0) by rw [hwc]; exact sw)
  clear hwc
  generalize wc = w1 at kw sw ⊢
  obtain ⟨⟨p0, p1, p2, p3⟩, ⟨p4, p5, p6, p7⟩, ⟨p8, p9, pa, pb⟩⟩ := id sw
  go_wp2_with (fail)
  exact bodyPost_ret (v := .agg #[.float .f64 a, .float .f64 b]) (by simp [results, Tryz.results102, go_sem, p8, p9]) rfl ⟨rfl, (kw.setCell (by simp <;> omega) _).setCell (by simp <;> omega) _⟩
set_option maxRecDepth 20000 in
set_option maxHeartbeats 2000000 in
theorem byN3_ (a b c d : Nat) (C0 D0 A0 B0 Cl Dg : Bool) (tC0 : (FloatKind.f64.format.order c 0 == some Ordering.eq) = C0) (tD0 : (FloatKind.f64.format.order d 0 == some Ordering.eq) = D0) (tA0 : (FloatKind.f64.format.order a 0 == some Ordering.eq) = A0) (tB0 : (FloatKind.f64.format.order b 0 == some Ordering.eq) = B0) (tCl : (FloatKind.f64.format.order c 0 == some Ordering.lt) = Cl) (tDg : (FloatKind.f64.format.order d 0 == some Ordering.gt) = Dg) (q0 : (C0 && D0) = false) (q1 : (A0 && B0) = false) (q2 : (Cl && Dg) = true) (w : World) (hE : ∀ w : World, Calls Tryz.prog 43 #[] w fun e w' => e = .returned (.agg #[.float .f64 18442240474082181120, .float .f64 9218868437227405312]) ∧ Kp w w') : Calls Tryz.prog 102 #[.agg #[.float .f64 a, .float .f64 b], .agg #[.float .f64 c, .float .f64 d]] w fun e w' => e = .returned (.agg #[.float .f64 18442240474082181120, .float .f64 9218868437227405312]) ∧ Kp w w' := by
  go_enter Tryz.func102, Tryz.ntmps102
  go_upto_region 1 with fail
  have kw : Kp w (((w.alloc (.cells #[.float .f64 a, .float .f64 b] 25)).alloc (.cells #[.float .f64 c, .float .f64 d] 25)).alloc (.cells #[.float .f64 0, .float .f64 0] 25)) := (((Kp.refl w).alloc _).alloc _).alloc _
  have sw : H6 (((w.alloc (.cells #[.float .f64 a, .float .f64 b] 25)).alloc (.cells #[.float .f64 c, .float .f64 d] 25)).alloc (.cells #[.float .f64 0, .float .f64 0] 25)) w.heap.size (.float .f64 a) (.float .f64 b) (.float .f64 c) (.float .f64 d) (.float .f64 0) (.float .f64 0) := H6.new w (.float .f64 a) (.float .f64 b) (.float .f64 c) (.float .f64 d) (.float .f64 0) (.float .f64 0) 25 25 25
  generalize (((w.alloc (.cells #[.float .f64 a, .float .f64 b] 25)).alloc (.cells #[.float .f64 c, .float .f64 d] 25)).alloc (.cells #[.float .f64 0, .float .f64 0] 25)) = w1 at kw sw ⊢
  obtain ⟨⟨p0, p1, p2, p3⟩, ⟨p4, p5, p6, p7⟩, ⟨p8, p9, pa, pb⟩⟩ := id sw
  go_upto_region 1 with fail
  go_cut [5] (fun s5 wx => s5 = .bool false ∧ wx = w1)
  case first =>
    cases C0 <;> cases D0 <;> first | (exfalso; revert q0; decide) | skip
    all_goals (
      go_wp2_with fail
      go_meet
      exact ⟨rfl, rfl⟩)
  case rest =>
  obtain ⟨rfl, hwc⟩ := hcut
  replace kw : Kp w wc := (by rw [hwc]; exact kw)
  replace sw := (show H6 wc w.heap.size (.float .f64 a) (.float .f64 b) (.float .f64 c) (.float .f64 d) (.float .f64 0) (.float .f64 0) by rw [hwc]; exact sw)
  clear hwc
  generalize wc = w1 at kw sw ⊢
  obtain ⟨⟨p0, p1, p2, p3⟩, ⟨p4, p5, p6, p7⟩, ⟨p8, p9, pa, pb⟩⟩ := id sw
  go_upto_region 3 with fail
  go_cut [15] (fun s15 wx => s15 = .bool false ∧ wx = w1)
  case first =>
    cases A0 <;> cases B0 <;> first | (exfalso; revert q1; decide) | skip
    all_goals (
      go_wp2_with fail
      go_meet
      exact ⟨rfl, rfl⟩)
  case rest =>
  obtain ⟨rfl, hwc⟩ := hcut
  replace kw : Kp w wc := (by rw [hwc]; exact kw)
  replace sw := (show H6 wc w.heap.size (.float .f64 a) (.float .f64 b) (.float .f64 c) (.float .f64 d) (.float .f64 0) (.float .f64 0) by rw [hwc]; exact sw)
  clear hwc
  generalize wc = w1 at kw sw ⊢
  obtain ⟨⟨p0, p1, p2, p3⟩, ⟨p4, p5, p6, p7⟩, ⟨p8, p9, pa, pb⟩⟩ := id sw
  go_upto_region 5 with fail
  go_cut [25] (fun s25 wx => s25 = .bool true ∧ wx = w1)
  case first =>
    cases Cl <;> cases Dg <;> first | (exfalso; revert q2; decide) | skip
    all_goals (
      go_wp2_with fail
      go_meet
      exact ⟨rfl, rfl⟩)
  case rest =>
  obtain ⟨rfl, hwc⟩ := hcut
  replace kw : Kp w wc := (by rw [hwc]; exact kw)
  replace sw := (show H6 wc w.heap.size (.float .f64 a) (.float .f64 b) (.float .f64 c) (.float .f64 d) (.float .f64 0) (.float .f64 0) by rw [hwc]; exact sw)
  clear hwc
  generalize wc = w1 at kw sw ⊢
  obtain ⟨⟨p0, p1, p2, p3⟩, ⟨p4, p5, p6, p7⟩, ⟨p8, p9, pa, pb⟩⟩ := id sw
  go_wp2_with (first | (go_at_call 43; refine (hE _).mono ?_; rintro e wx ⟨rfl, gx⟩; replace kw := Kp.trans kw gx; replace sw := H6.keep sw gx; clear gx; obtain ⟨⟨p0, p1, p2, p3⟩, ⟨p4, p5, p6, p7⟩, ⟨p8, p9, pa, pb⟩⟩ := id sw))
  exact bodyPost_ret (v := .agg #[.float .f64 18442240474082181120, .float .f64 9218868437227405312]) (by simp [results, Tryz.results102, go_sem, p8, p9]) rfl ⟨rfl, (kw.setCell (by simp <;> omega) _).setCell (by simp <;> omega) _⟩
set_option maxRecDepth 20000 in
set_option maxHeartbeats 2000000 in
theorem byN4_ (a b c d : Nat) (C0 D0 A0 B0 Cl Dg Al Bg : Bool) (tC0 : (FloatKind.f64.format.order c 0 == some Ordering.eq) = C0) (tD0 : (FloatKind.f64.format.order d 0 == some Ordering.eq) = D0) (tA0 : (FloatKind.f64.format.order a 0 == some Ordering.eq) = A0) (tB0 : (FloatKind.f64.format.order b 0 == some Ordering.eq) = B0) (tCl : (FloatKind.f64.format.order c 0 == some Ordering.lt) = Cl) (tDg : (FloatKind.f64.format.order d 0 == some Ordering.gt) = Dg) (tAl : (FloatKind.f64.format.order a 0 == some Ordering.lt) = Al) (tBg : (FloatKind.f64.format.order b 0 == some Ordering.gt) = Bg) (q0 : (C0 && D0) = false) (q1 : (A0 && B0) = false) (q2 : (Cl && Dg) = false) (q3 : (Al && Bg) = true) (w : World) (hE : ∀ w : World, Calls Tryz.prog 43 #[] w fun e w' => e = .returned (.agg #[.float .f64 18442240474082181120, .float .f64 9218868437227405312]) ∧ Kp w w') : Calls Tryz.prog 102 #[.agg #[.float .f64 a, .float .f64 b], .agg #[.float .f64 c, .float .f64 d]] w fun e w' => e = .returned (.agg #[.float .f64 18442240474082181120, .float .f64 9218868437227405312]) ∧ Kp w w' := by
  go_enter Tryz.func102, Tryz.ntmps102
  go_upto_region 1 with fail
  have kw : Kp w (((w.alloc (.cells #[.float .f64 a, .float .f64 b] 25)).alloc (.cells #[.float .f64 c, .float .f64 d] 25)).alloc (.cells #[.float .f64 0, .float .f64 0] 25)) := (((Kp.refl w).alloc _).alloc _).alloc _
  have sw : H6 (((w.alloc (.cells #[.float .f64 a, .float .f64 b] 25)).alloc (.cells #[.float .f64 c, .float .f64 d] 25)).alloc (.cells #[.float .f64 0, .float .f64 0] 25)) w.heap.size (.float .f64 a) (.float .f64 b) (.float .f64 c) (.float .f64 d) (.float .f64 0) (.float .f64 0) := H6.new w (.float .f64 a) (.float .f64 b) (.float .f64 c) (.float .f64 d) (.float .f64 0) (.float .f64 0) 25 25 25
  generalize (((w.alloc (.cells #[.float .f64 a, .float .f64 b] 25)).alloc (.cells #[.float .f64 c, .float .f64 d] 25)).alloc (.cells #[.float .f64 0, .float .f64 0] 25)) = w1 at kw sw ⊢
  obtain ⟨⟨p0, p1, p2, p3⟩, ⟨p4, p5, p6, p7⟩, ⟨p8, p9, pa, pb⟩⟩ := id sw
  go_upto_region 1 with fail
  go_cut [5] (fun s5 wx => s5 = .bool false ∧ wx = w1)
  case first =>
    cases C0 <;> cases D0 <;> first | (exfalso; revert q0; decide) | skip
    all_goals (
      go_wp2_with fail
      go_meet
      exact ⟨rfl, rfl⟩)
  case rest =>
  obtain ⟨rfl, hwc⟩ := hcut
  replace kw : Kp w wc := (by rw [hwc]; exact kw)
  replace sw := (show H6 wc w.heap.size (.float .f64 a) (.float .f64 b) (.float .f64 c) (.float .f64 d) (.float .f64 0) (.float .f64 0) by rw [hwc]; exact sw)
  clear hwc
  generalize wc = w1 at kw sw ⊢
  obtain ⟨⟨p0, p1, p2, p3⟩, ⟨p4, p5, p6, p7⟩, ⟨p8, p9, pa, pb⟩⟩ := id sw
  go_upto_region 3 with fail
  go_cut [15] (fun s15 wx => s15 = .bool false ∧ wx = w1)
  case first =>
    cases A0 <;> cases B0 <;> first | (exfalso; revert q1; decide) | skip
    all_goals (
      go_wp2_with fail
      go_meet
      exact ⟨rfl, rfl⟩)
  case rest =>
  obtain ⟨rfl, hwc⟩ := hcut
  replace kw : Kp w wc := (by rw [hwc]; exact kw)
  replace sw := (show H6 wc w.heap.size (.float .f64 a) (.float .f64 b) (.float .f64 c) (.float .f64 d) (.float .f64 0) (.float .f64 0) by rw [hwc]; exact sw)
  clear hwc
  generalize wc = w1 at kw sw ⊢
  obtain ⟨⟨p0, p1, p2, p3⟩, ⟨p4, p5, p6, p7⟩, ⟨p8, p9, pa, pb⟩⟩ := id sw
  go_upto_region 5 with fail
  go_cut [25] (fun s25 wx => s25 = .bool false ∧ wx = w1)
  case first =>
    cases Cl <;> cases Dg <;> first | (exfalso; revert q2; decide) | skip
    all_goals (
      go_wp2_with fail
      go_meet
      exact ⟨rfl, rfl⟩)
  case rest =>
  obtain ⟨rfl, hwc⟩ := hcut
  replace kw : Kp w wc := (by rw [hwc]; exact kw)
  replace sw := (show H6 wc w.heap.size (.float .f64 a) (.float .f64 b) (.float .f64 c) (.float .f64 d) (.float .f64 0) (.float .f64 0) by rw [hwc]; exact sw)
  clear hwc
  generalize wc = w1 at kw sw ⊢
  obtain ⟨⟨p0, p1, p2, p3⟩, ⟨p4, p5, p6, p7⟩, ⟨p8, p9, pa, pb⟩⟩ := id sw
  go_upto_region 6 with fail
  go_cut [25] (fun s25 wx => s25 = .bool true ∧ wx = w1)
  case first =>
    cases Al <;> cases Bg <;> first | (exfalso; revert q3; decide) | skip
    all_goals (
      go_wp2_with fail
      go_meet
      exact ⟨rfl, rfl⟩)
  case rest =>
  obtain ⟨rfl, hwc⟩ := hcut
  replace kw : Kp w wc := (by rw [hwc]; exact kw)
  replace sw := (show H6 wc w.heap.size (.float .f64 a) (.float .f64 b) (.float .f64 c) (.float .f64 d) (.float .f64 0) (.float .f64 0) by rw [hwc]; exact sw)
  clear hwc
  generalize wc = w1 at kw sw ⊢
  obtain ⟨⟨p0, p1, p2, p3⟩, ⟨p4, p5, p6, p7⟩, ⟨p8, p9, pa, pb⟩⟩ := id sw
  go_wp2_with (first | (go_at_call 43; refine (hE _).mono ?_; rintro e wx ⟨rfl, gx⟩; replace kw := Kp.trans kw gx; replace sw := H6.keep sw gx; clear gx; obtain ⟨⟨p0, p1, p2, p3⟩, ⟨p4, p5, p6, p7⟩, ⟨p8, p9, pa, pb⟩⟩ := id sw))
  exact bodyPost_ret (v := .agg #[.float .f64 18442240474082181120, .float .f64 9218868437227405312]) (by simp [results, Tryz.results102, go_sem, p8, p9]) rfl ⟨rfl, (kw.setCell (by simp <;> omega) _).setCell (by simp <;> omega) _⟩
set_option maxRecDepth 20000 in
set_option maxHeartbeats 2000000 in
theorem byN5_ (a b c d Z : Nat) (C0 D0 A0 B0 Cl Dg Al Bg Ag : Bool) (tC0 : (FloatKind.f64.format.order c 0 == some Ordering.eq) = C0) (tD0 : (FloatKind.f64.format.order d 0 == some Ordering.eq) = D0) (tA0 : (FloatKind.f64.format.order a 0 == some Ordering.eq) = A0) (tB0 : (FloatKind.f64.format.order b 0 == some Ordering.eq) = B0) (tCl : (FloatKind.f64.format.order c 0 == some Ordering.lt) = Cl) (tDg : (FloatKind.f64.format.order d 0 == some Ordering.gt) = Dg) (tAl : (FloatKind.f64.format.order a 0 == some Ordering.lt) = Al) (tBg : (FloatKind.f64.format.order b 0 == some Ordering.gt) = Bg) (tAg : (FloatKind.f64.format.order a 0 == some Ordering.gt || FloatKind.f64.format.order a 0 == some Ordering.eq) = Ag) (q0 : (C0 && D0) = false) (q1 : (A0 && B0) = false) (q2 : (Cl && Dg) = false) (q3 : (Al && Bg) = false) (q4 : (C0 && Ag) = true) (w : World) (hd : ∀ W : World, Kp w W → Calls Tryz.prog 114 #[.int .i64 (-1), .float .f64 a, .float .f64 d] W fun e w' => e = .returned (.float .f64 Z) ∧ Kp W w') : Calls Tryz.prog 102 #[.agg #[.float .f64 a, .float .f64 b], .agg #[.float .f64 c, .float .f64 d]] w fun e w' => e = .returned (.agg #[.float .f64 Z, .float .f64 9218868437227405312]) ∧ Kp w w' := by
  rw [tA0] at tAg
  go_enter Tryz.func102, Tryz.ntmps102
  go_upto_region 1 with fail
  have kw : Kp w (((w.alloc (.cells #[.float .f64 a, .float .f64 b] 25)).alloc (.cells #[.float .f64 c, .float .f64 d] 25)).alloc (.cells #[.float .f64 0, .float .f64 0] 25)) := (((Kp.refl w).alloc _).alloc _).alloc _
  have sw : H6 (((w.alloc (.cells #[.float .f64 a, .float .f64 b] 25)).alloc (.cells #[.float .f64 c, .float .f64 d] 25)).alloc (.cells #[.float .f64 0, .float .f64 0] 25)) w.heap.size (.float .f64 a) (.float .f64 b) (.float .f64 c) (.float .f64 d) (.float .f64 0) (.float .f64 0) := H6.new w (.float .f64 a) (.float .f64 b) (.float .f64 c) (.float .f64 d) (.float .f64 0) (.float .f64 0) 25 25 25
  generalize (((w.alloc (.cells #[.float .f64 a, .float .f64 b] 25)).alloc (.cells #[.float .f64 c, .float .f64 d] 25)).alloc (.cells #[.float .f64 0, .float .f64 0] 25)) = w1 at kw sw ⊢
  obtain ⟨⟨p0, p1, p2, p3⟩, ⟨p4, p5, p6, p7⟩, ⟨p8, p9, pa, pb⟩⟩ := id sw
  go_upto_region 1 with fail
  go_cut [5] (fun s5 wx => s5 = .bool false ∧ wx = w1)
  case first =>
    cases C0 <;> cases D0 <;> first | (exfalso; revert q0; decide) | skip
    all_goals (
      go_wp2_with fail
      go_meet
      exact ⟨rfl, rfl⟩)
  case rest =>
  obtain ⟨rfl, hwc⟩ := hcut
  replace kw : Kp w wc := (by rw [hwc]; exact kw)
  replace sw := (show H6 wc w.heap.size (.float .f64 a) (.float .f64 b) (.float .f64 c) (.float .f64 d) (.float .f64 0) (.float .f64 0) by rw [hwc]; exact sw)
  clear hwc
  generalize wc = w1 at kw sw ⊢
  obtain ⟨⟨p0, p1, p2, p3⟩, ⟨p4, p5, p6, p7⟩, ⟨p8, p9, pa, pb⟩⟩ := id sw
  go_upto_region 3 with fail
  go_cut [15] (fun s15 wx => s15 = .bool false ∧ wx = w1)
  case first =>
    cases A0 <;> cases B0 <;> first | (exfalso; revert q1; decide) | skip
    all_goals (
      go_wp2_with fail
      go_meet
      exact ⟨rfl, rfl⟩)
  case rest =>
  obtain ⟨rfl, hwc⟩ := hcut
  replace kw : Kp w wc := (by rw [hwc]; exact kw)
  replace sw := (show H6 wc w.heap.size (.float .f64 a) (.float .f64 b) (.float .f64 c) (.float .f64 d) (.float .f64 0) (.float .f64 0) by rw [hwc]; exact sw)
  clear hwc
  generalize wc = w1 at kw sw ⊢
  obtain ⟨⟨p0, p1, p2, p3⟩, ⟨p4, p5, p6, p7⟩, ⟨p8, p9, pa, pb⟩⟩ := id sw
  go_upto_region 5 with fail
  go_cut [25] (fun s25 wx => s25 = .bool false ∧ wx = w1)
  case first =>
    cases Cl <;> cases Dg <;> first | (exfalso; revert q2; decide) | skip
    all_goals (
      go_wp2_with fail
      go_meet
      exact ⟨rfl, rfl⟩)
  case rest =>
  obtain ⟨rfl, hwc⟩ := hcut
  replace kw : Kp w wc := (by rw [hwc]; exact kw)
  replace sw := (show H6 wc w.heap.size (.float .f64 a) (.float .f64 b) (.float .f64 c) (.float .f64 d) (.float .f64 0) (.float .f64 0) by rw [hwc]; exact sw)
  clear hwc
  generalize wc = w1 at kw sw ⊢
  obtain ⟨⟨p0, p1, p2, p3⟩, ⟨p4, p5, p6, p7⟩, ⟨p8, p9, pa, pb⟩⟩ := id sw
  go_upto_region 6 with fail
  go_cut [25] (fun s25 wx => s25 = .bool false ∧ wx = w1)
  case first =>
    cases Al <;> cases Bg <;> first | (exfalso; revert q3; decide) | skip
    all_goals (
      go_wp2_with fail
      go_meet
      exact ⟨rfl, rfl⟩)
  case rest =>
  obtain ⟨rfl, hwc⟩ := hcut
  replace kw : Kp w wc := (by rw [hwc]; exact kw)
  replace sw := (show H6 wc w.heap.size (.float .f64 a) (.float .f64 b) (.float .f64 c) (.float .f64 d) (.float .f64 0) (.float .f64 0) by rw [hwc]; exact sw)
  clear hwc
  generalize wc = w1 at kw sw ⊢
  obtain ⟨⟨p0, p1, p2, p3⟩, ⟨p4, p5, p6, p7⟩, ⟨p8, p9, pa, pb⟩⟩ := id sw
  go_upto_region 8 with fail
  go_cut [43] (fun s43 wx => s43 = .bool true ∧ wx = w1)
  case first =>
    cases C0 <;> cases Ag <;> first | (exfalso; revert q4; decide) | skip
    all_goals (
      go_wp2_with fail
      go_meet
      exact ⟨rfl, rfl⟩)
  case rest =>
  obtain ⟨rfl, hwc⟩ := hcut
  replace kw : Kp w wc := (by rw [hwc]; exact kw)
  replace sw := (show H6 wc w.heap.size (.float .f64 a) (.float .f64 b) (.float .f64 c) (.float .f64 d) (.float .f64 0) (.float .f64 0) by rw [hwc]; exact sw)
  clear hwc
  generalize wc = w1 at kw sw ⊢
  obtain ⟨⟨p0, p1, p2, p3⟩, ⟨p4, p5, p6, p7⟩, ⟨p8, p9, pa, pb⟩⟩ := id sw
  go_wp2_with (first | (go_at_call 114; refine (hd _ kw).mono ?_; rintro e wx ⟨rfl, gx⟩; replace kw := Kp.trans kw gx; replace sw := H6.keep sw gx; clear gx; obtain ⟨⟨p0, p1, p2, p3⟩, ⟨p4, p5, p6, p7⟩, ⟨p8, p9, pa, pb⟩⟩ := id sw) | (go_at_call 136; refine (from_ _ _).mono ?_; rintro e wx ⟨rfl, gx⟩; replace kw := Kp.trans kw gx; replace sw := H6.keep sw gx; clear gx; obtain ⟨⟨p0, p1, p2, p3⟩, ⟨p4, p5, p6, p7⟩, ⟨p8, p9, pa, pb⟩⟩ := id sw))
  exact bodyPost_ret (v := .agg #[.float .f64 Z, .float .f64 9218868437227405312]) (by simp [results, Tryz.results102, go_sem, p8, p9]) rfl ⟨rfl, (kw.setCell (by simp <;> omega) _).setCell (by simp <;> omega) _⟩
end Go.Proofs.YthdnajcgdngmcaaGreatDoor
namespace Go.Proofs.YthdnajcgdngmcaaGreatDoor
open Go.RowKit
set_option linter.unusedVariables false
set_option maxRecDepth 20000 in
set_option maxHeartbeats 2000000 in
theorem byN6_ (a b c d Z : Nat) (C0 D0 A0 B0 Cl Dg Al Bg Ag : Bool) (tC0 : (FloatKind.f64.format.order c 0 == some Ordering.eq) = C0) (tD0 : (FloatKind.f64.format.order d 0 == some Ordering.eq) = D0) (tA0 : (FloatKind.f64.format.order a 0 == some Ordering.eq) = A0) (tB0 : (FloatKind.f64.format.order b 0 == some Ordering.eq) = B0) (tCl : (FloatKind.f64.format.order c 0 == some Ordering.lt) = Cl) (tDg : (FloatKind.f64.format.order d 0 == some Ordering.gt) = Dg) (tAl : (FloatKind.f64.format.order a 0 == some Ordering.lt) = Al) (tBg : (FloatKind.f64.format.order b 0 == some Ordering.gt) = Bg) (tAg : (FloatKind.f64.format.order a 0 == some Ordering.gt || FloatKind.f64.format.order a 0 == some Ordering.eq) = Ag) (q0 : (C0 && D0) = false) (q1 : (A0 && B0) = false) (q2 : (Cl && Dg) = false) (q3 : (Al && Bg) = false) (q4 : (C0 && Ag) = false) (q5 : (C0) = true) (w : World) (hd : ∀ W : World, Kp w W → Calls Tryz.prog 114 #[.int .i64 1, .float .f64 b, .float .f64 d] W fun e w' => e = .returned (.float .f64 Z) ∧ Kp W w') : Calls Tryz.prog 102 #[.agg #[.float .f64 a, .float .f64 b], .agg #[.float .f64 c, .float .f64 d]] w fun e w' => e = .returned (.agg #[.float .f64 18442240474082181120, .float .f64 Z]) ∧ Kp w w' := by
  rw [tA0] at tAg
  go_enter Tryz.func102, Tryz.ntmps102
  go_upto_region 1 with fail
  have kw : Kp w (((w.alloc (.cells #[.float .f64 a, .float .f64 b] 25)).alloc (.cells #[.float .f64 c, .float .f64 d] 25)).alloc (.cells #[.float .f64 0, .float .f64 0] 25)) := (((Kp.refl w).alloc _).alloc _).alloc _
  have sw : H6 (((w.alloc (.cells #[.float .f64 a, .float .f64 b] 25)).alloc (.cells #[.float .f64 c, .float .f64 d] 25)).alloc (.cells #[.float .f64 0, .float .f64 0] 25)) w.heap.size (.float .f64 a) (.float .f64 b) (.float .f64 c) (.float .f64 d) (.float .f64 0) (.float .f64 0) := H6.new w (.float .f64 a) (.float .f64 b) (.float .f64 c) (.float .f64 d) (.float .f64 0) (.float .f64 0) 25 25 25
  generalize (((w.alloc (.cells #[.float .f64 a, .float .f64 b] 25)).alloc (.cells #[.float .f64 c, .float .f64 d] 25)).alloc (.cells #[.float .f64 0, .float .f64 0] 25)) = w1 at kw sw ⊢
  obtain ⟨⟨p0, p1, p2, p3⟩, ⟨p4, p5, p6, p7⟩, ⟨p8, p9, pa, pb⟩⟩ := id sw
  go_upto_region 1 with fail
  go_cut [5] (fun s5 wx => s5 = .bool false ∧ wx = w1)
  case first =>
    cases C0 <;> cases D0 <;> first | (exfalso; revert q0; decide) | (exfalso; cases q5; done) | skip
    all_goals (
      go_wp2_with fail
      go_meet
      exact ⟨rfl, rfl⟩)
  case rest =>
  obtain ⟨rfl, hwc⟩ := hcut
  replace kw : Kp w wc := (by rw [hwc]; exact kw)
  replace sw := (show H6 wc w.heap.size (.float .f64 a) (.float .f64 b) (.float .f64 c) (.float .f64 d) (.float .f64 0) (.float .f64 0) by rw [hwc]; exact sw)
  clear hwc
  generalize wc = w1 at kw sw ⊢
  obtain ⟨⟨p0, p1, p2, p3⟩, ⟨p4, p5, p6, p7⟩, ⟨p8, p9, pa, pb⟩⟩ := id sw
  go_upto_region 3 with fail
  go_cut [15] (fun s15 wx => s15 = .bool false ∧ wx = w1)
  case first =>
    cases A0 <;> cases B0 <;> first | (exfalso; revert q1; decide) | (exfalso; cases q5; done) | skip
    all_goals (
      go_wp2_with fail
      go_meet
      exact ⟨rfl, rfl⟩)
  case rest =>
  obtain ⟨rfl, hwc⟩ := hcut
  replace kw : Kp w wc := (by rw [hwc]; exact kw)
  replace sw := (show H6 wc w.heap.size (.float .f64 a) (.float .f64 b) (.float .f64 c) (.float .f64 d) (.float .f64 0) (.float .f64 0) by rw [hwc]; exact sw)
  clear hwc
  generalize wc = w1 at kw sw ⊢
  obtain ⟨⟨p0, p1, p2, p3⟩, ⟨p4, p5, p6, p7⟩, ⟨p8, p9, pa, pb⟩⟩ := id sw
  go_upto_region 5 with fail
  go_cut [25] (fun s25 wx => s25 = .bool false ∧ wx = w1)
  case first =>
    cases Cl <;> cases Dg <;> first | (exfalso; revert q2; decide) | (exfalso; cases q5; done) | skip
    all_goals (
      go_wp2_with fail
      go_meet
      exact ⟨rfl, rfl⟩)
  case rest =>
  obtain ⟨rfl, hwc⟩ := hcut
  replace kw : Kp w wc := (by rw [hwc]; exact kw)
  replace sw := (show H6 wc w.heap.size (.float .f64 a) (.float .f64 b) (.float .f64 c) (.float .f64 d) (.float .f64 0) (.float .f64 0) by rw [hwc]; exact sw)
  clear hwc
  generalize wc = w1 at kw sw ⊢
  obtain ⟨⟨p0, p1, p2, p3⟩, ⟨p4, p5, p6, p7⟩, ⟨p8, p9, pa, pb⟩⟩ := id sw
  go_upto_region 6 with fail
  go_cut [25] (fun s25 wx => s25 = .bool false ∧ wx = w1)
  case first =>
    cases Al <;> cases Bg <;> first | (exfalso; revert q3; decide) | (exfalso; cases q5; done) | skip
    all_goals (
      go_wp2_with fail
      go_meet
      exact ⟨rfl, rfl⟩)
  case rest =>
  obtain ⟨rfl, hwc⟩ := hcut
  replace kw : Kp w wc := (by rw [hwc]; exact kw)
  replace sw := (show H6 wc w.heap.size (.float .f64 a) (.float .f64 b) (.float .f64 c) (.float .f64 d) (.float .f64 0) (.float .f64 0) by rw [hwc]; exact sw)
  clear hwc
  generalize wc = w1 at kw sw ⊢
  obtain ⟨⟨p0, p1, p2, p3⟩, ⟨p4, p5, p6, p7⟩, ⟨p8, p9, pa, pb⟩⟩ := id sw
  go_upto_region 8 with fail
  go_cut [43] (fun s43 wx => s43 = .bool false ∧ wx = w1)
  case first =>
    cases C0 <;> cases Ag <;> first | (exfalso; revert q4; decide) | (exfalso; cases q5; done) | skip
    all_goals (
      go_wp2_with fail
      go_meet
      exact ⟨rfl, rfl⟩)
  case rest =>
  obtain ⟨rfl, hwc⟩ := hcut
  replace kw : Kp w wc := (by rw [hwc]; exact kw)
  replace sw := (show H6 wc w.heap.size (.float .f64 a) (.float .f64 b) (.float .f64 c) (.float .f64 d) (.float .f64 0) (.float .f64 0) by rw [hwc]; exact sw)
  clear hwc
  generalize wc = w1 at kw sw ⊢
  obtain ⟨⟨p0, p1, p2, p3⟩, ⟨p4, p5, p6, p7⟩, ⟨p8, p9, pa, pb⟩⟩ := id sw
  go_upto_region 10 with fail
  go_cut [58] (fun s58 wx => s58 = .bool true ∧ wx = w1)
  case first =>
    cases C0 <;> first | (exfalso; revert q5; decide) | (exfalso; cases q5; done) | skip
    all_goals (
      go_wp2_with fail
      go_meet
      exact ⟨rfl, rfl⟩)
  case rest =>
  obtain ⟨rfl, hwc⟩ := hcut
  replace kw : Kp w wc := (by rw [hwc]; exact kw)
  replace sw := (show H6 wc w.heap.size (.float .f64 a) (.float .f64 b) (.float .f64 c) (.float .f64 d) (.float .f64 0) (.float .f64 0) by rw [hwc]; exact sw)
  clear hwc
  generalize wc = w1 at kw sw ⊢
  obtain ⟨⟨p0, p1, p2, p3⟩, ⟨p4, p5, p6, p7⟩, ⟨p8, p9, pa, pb⟩⟩ := id sw
  go_wp2_with (first | (go_at_call 114; refine (hd _ kw).mono ?_; rintro e wx ⟨rfl, gx⟩; replace kw := Kp.trans kw gx; replace sw := H6.keep sw gx; clear gx; obtain ⟨⟨p0, p1, p2, p3⟩, ⟨p4, p5, p6, p7⟩, ⟨p8, p9, pa, pb⟩⟩ := id sw) | (go_at_call 137; refine (upTo_ _ _).mono ?_; rintro e wx ⟨rfl, gx⟩; replace kw := Kp.trans kw gx; replace sw := H6.keep sw gx; clear gx; obtain ⟨⟨p0, p1, p2, p3⟩, ⟨p4, p5, p6, p7⟩, ⟨p8, p9, pa, pb⟩⟩ := id sw))
  exact bodyPost_ret (v := .agg #[.float .f64 18442240474082181120, .float .f64 Z]) (by simp [results, Tryz.results102, go_sem, p8, p9]) rfl ⟨rfl, (kw.setCell (by simp <;> omega) _).setCell (by simp <;> omega) _⟩
set_option maxRecDepth 20000 in
set_option maxHeartbeats 2000000 in
theorem byN7_ (a b c d Z : Nat) (C0 D0 A0 B0 Cl Dg Al Bg Ag : Bool) (tC0 : (FloatKind.f64.format.order c 0 == some Ordering.eq) = C0) (tD0 : (FloatKind.f64.format.order d 0 == some Ordering.eq) = D0) (tA0 : (FloatKind.f64.format.order a 0 == some Ordering.eq) = A0) (tB0 : (FloatKind.f64.format.order b 0 == some Ordering.eq) = B0) (tCl : (FloatKind.f64.format.order c 0 == some Ordering.lt) = Cl) (tDg : (FloatKind.f64.format.order d 0 == some Ordering.gt) = Dg) (tAl : (FloatKind.f64.format.order a 0 == some Ordering.lt) = Al) (tBg : (FloatKind.f64.format.order b 0 == some Ordering.gt) = Bg) (tAg : (FloatKind.f64.format.order a 0 == some Ordering.gt || FloatKind.f64.format.order a 0 == some Ordering.eq) = Ag) (q0 : (C0 && D0) = false) (q1 : (A0 && B0) = false) (q2 : (Cl && Dg) = false) (q3 : (Al && Bg) = false) (q4 : (C0 && Ag) = false) (q5 : (C0) = false) (q6 : (Ag) = true) (w : World) (hd : ∀ W : World, Kp w W → Calls Tryz.prog 114 #[.int .i64 1, .float .f64 a, .float .f64 c] W fun e w' => e = .returned (.float .f64 Z) ∧ Kp W w') : Calls Tryz.prog 102 #[.agg #[.float .f64 a, .float .f64 b], .agg #[.float .f64 c, .float .f64 d]] w fun e w' => e = .returned (.agg #[.float .f64 18442240474082181120, .float .f64 Z]) ∧ Kp w w' := by
  rw [tA0] at tAg
  go_enter Tryz.func102, Tryz.ntmps102
  go_upto_region 1 with fail
  have kw : Kp w (((w.alloc (.cells #[.float .f64 a, .float .f64 b] 25)).alloc (.cells #[.float .f64 c, .float .f64 d] 25)).alloc (.cells #[.float .f64 0, .float .f64 0] 25)) := (((Kp.refl w).alloc _).alloc _).alloc _
  have sw : H6 (((w.alloc (.cells #[.float .f64 a, .float .f64 b] 25)).alloc (.cells #[.float .f64 c, .float .f64 d] 25)).alloc (.cells #[.float .f64 0, .float .f64 0] 25)) w.heap.size (.float .f64 a) (.float .f64 b) (.float .f64 c) (.float .f64 d) (.float .f64 0) (.float .f64 0) := H6.new w (.float .f64 a) (.float .f64 b) (.float .f64 c) (.float .f64 d) (.float .f64 0) (.float .f64 0) 25 25 25
  generalize (((w.alloc (.cells #[.float .f64 a, .float .f64 b] 25)).alloc (.cells #[.float .f64 c, .float .f64 d] 25)).alloc (.cells #[.float .f64 0, .float .f64 0] 25)) = w1 at kw sw ⊢
  obtain ⟨⟨p0, p1, p2, p3⟩, ⟨p4, p5, p6, p7⟩, ⟨p8, p9, pa, pb⟩⟩ := id sw
  go_upto_region 1 with fail
  go_cut [5] (fun s5 wx => s5 = .bool false ∧ wx = w1)
  case first =>
    cases C0 <;> cases D0 <;> first | (exfalso; revert q0; decide) | (exfalso; cases q5; done) | (exfalso; cases q6; done) | skip
    all_goals (
      go_wp2_with fail
      go_meet
      exact ⟨rfl, rfl⟩)
  case rest =>
  obtain ⟨rfl, hwc⟩ := hcut
  replace kw : Kp w wc := (by rw [hwc]; exact kw)
  replace sw := (show H6 wc w.heap.size (.float .f64 a) (.float .f64 b) (.float .f64 c) (.float .f64 d) (.float .f64 0) (.float .f64 0) by rw [hwc]; exact sw)
  clear hwc
  generalize wc = w1 at kw sw ⊢
  obtain ⟨⟨p0, p1, p2, p3⟩, ⟨p4, p5, p6, p7⟩, ⟨p8, p9, pa, pb⟩⟩ := id sw
  go_upto_region 3 with fail
  go_cut [15] (fun s15 wx => s15 = .bool false ∧ wx = w1)
  case first =>
    cases A0 <;> cases B0 <;> first | (exfalso; revert q1; decide) | (exfalso; cases q5; done) | (exfalso; cases q6; done) | skip
    all_goals (
      go_wp2_with fail
      go_meet
      exact ⟨rfl, rfl⟩)
  case rest =>
  obtain ⟨rfl, hwc⟩ := hcut
  replace kw : Kp w wc := (by rw [hwc]; exact kw)
  replace sw := (show H6 wc w.heap.size (.float .f64 a) (.float .f64 b) (.float .f64 c) (.float .f64 d) (.float .f64 0) (.float .f64 0) by rw [hwc]; exact sw)
  clear hwc
  generalize wc = w1 at kw sw ⊢
  obtain ⟨⟨p0, p1, p2, p3⟩, ⟨p4, p5, p6, p7⟩, ⟨p8, p9, pa, pb⟩⟩ := id sw
  go_upto_region 5 with fail
  go_cut [25] (fun s25 wx => s25 = .bool false ∧ wx = w1)
  case first =>
    cases Cl <;> cases Dg <;> first | (exfalso; revert q2; decide) | (exfalso; cases q5; done) | (exfalso; cases q6; done) | skip
    all_goals (
      go_wp2_with fail
      go_meet
      exact ⟨rfl, rfl⟩)
  case rest =>
  obtain ⟨rfl, hwc⟩ := hcut
  replace kw : Kp w wc := (by rw [hwc]; exact kw)
  replace sw := (show H6 wc w.heap.size (.float .f64 a) (.float .f64 b) (.float .f64 c) (.float .f64 d) (.float .f64 0) (.float .f64 0) by rw [hwc]; exact sw)
  clear hwc
  generalize wc = w1 at kw sw ⊢
  obtain ⟨⟨p0, p1, p2, p3⟩, ⟨p4, p5, p6, p7⟩, ⟨p8, p9, pa, pb⟩⟩ := id sw
  go_upto_region 6 with fail
  go_cut [25] (fun s25 wx => s25 = .bool false ∧ wx = w1)
  case first =>
    cases Al <;> cases Bg <;> first | (exfalso; revert q3; decide) | (exfalso; cases q5; done) | (exfalso; cases q6; done) | skip
    all_goals (
      go_wp2_with fail
      go_meet
      exact ⟨rfl, rfl⟩)
  case rest =>
  obtain ⟨rfl, hwc⟩ := hcut
  replace kw : Kp w wc := (by rw [hwc]; exact kw)
  replace sw := (show H6 wc w.heap.size (.float .f64 a) (.float .f64 b) (.float .f64 c) (.float .f64 d) (.float .f64 0) (.float .f64 0) by rw [hwc]; exact sw)
  clear hwc
  generalize wc = w1 at kw sw ⊢
  obtain ⟨⟨p0, p1, p2, p3⟩, ⟨p4, p5, p6, p7⟩, ⟨p8, p9, pa, pb⟩⟩ := id sw
  go_upto_region 8 with fail
  go_cut [43] (fun s43 wx => s43 = .bool false ∧ wx = w1)
  case first =>
    cases C0 <;> cases Ag <;> first | (exfalso; revert q4; decide) | (exfalso; cases q5; done) | (exfalso; cases q6; done) | skip
    all_goals (
      go_wp2_with fail
      go_meet
      exact ⟨rfl, rfl⟩)
  case rest =>
  obtain ⟨rfl, hwc⟩ := hcut
  replace kw : Kp w wc := (by rw [hwc]; exact kw)
  replace sw := (show H6 wc w.heap.size (.float .f64 a) (.float .f64 b) (.float .f64 c) (.float .f64 d) (.float .f64 0) (.float .f64 0) by rw [hwc]; exact sw)
  clear hwc
  generalize wc = w1 at kw sw ⊢
  obtain ⟨⟨p0, p1, p2, p3⟩, ⟨p4, p5, p6, p7⟩, ⟨p8, p9, pa, pb⟩⟩ := id sw
  go_upto_region 10 with fail
  go_cut [58] (fun s58 wx => s58 = .bool false ∧ wx = w1)
  case first =>
    cases C0 <;> first | (exfalso; revert q5; decide) | (exfalso; cases q5; done) | (exfalso; cases q6; done) | skip
    all_goals (
      go_wp2_with fail
      go_meet
      exact ⟨rfl, rfl⟩)
  case rest =>
  obtain ⟨rfl, hwc⟩ := hcut
  replace kw : Kp w wc := (by rw [hwc]; exact kw)
  replace sw := (show H6 wc w.heap.size (.float .f64 a) (.float .f64 b) (.float .f64 c) (.float .f64 d) (.float .f64 0) (.float .f64 0) by rw [hwc]; exact sw)
  clear hwc
  generalize wc = w1 at kw sw ⊢
  obtain ⟨⟨p0, p1, p2, p3⟩, ⟨p4, p5, p6, p7⟩, ⟨p8, p9, pa, pb⟩⟩ := id sw
  go_upto_region 12 with fail
  go_cut [68] (fun s68 wx => s68 = .bool true ∧ wx = w1)
  case first =>
    cases Ag <;> first | (exfalso; revert q6; decide) | (exfalso; cases q5; done) | (exfalso; cases q6; done) | skip
    all_goals (
      go_wp2_with fail
      go_meet
      exact ⟨rfl, rfl⟩)
  case rest =>
  obtain ⟨rfl, hwc⟩ := hcut
  replace kw : Kp w wc := (by rw [hwc]; exact kw)
  replace sw := (show H6 wc w.heap.size (.float .f64 a) (.float .f64 b) (.float .f64 c) (.float .f64 d) (.float .f64 0) (.float .f64 0) by rw [hwc]; exact sw)
  clear hwc
  generalize wc = w1 at kw sw ⊢
  obtain ⟨⟨p0, p1, p2, p3⟩, ⟨p4, p5, p6, p7⟩, ⟨p8, p9, pa, pb⟩⟩ := id sw
  go_wp2_with (first | (go_at_call 114; refine (hd _ kw).mono ?_; rintro e wx ⟨rfl, gx⟩; replace kw := Kp.trans kw gx; replace sw := H6.keep sw gx; clear gx; obtain ⟨⟨p0, p1, p2, p3⟩, ⟨p4, p5, p6, p7⟩, ⟨p8, p9, pa, pb⟩⟩ := id sw) | (go_at_call 137; refine (upTo_ _ _).mono ?_; rintro e wx ⟨rfl, gx⟩; replace kw := Kp.trans kw gx; replace sw := H6.keep sw gx; clear gx; obtain ⟨⟨p0, p1, p2, p3⟩, ⟨p4, p5, p6, p7⟩, ⟨p8, p9, pa, pb⟩⟩ := id sw))
  exact bodyPost_ret (v := .agg #[.float .f64 18442240474082181120, .float .f64 Z]) (by simp [results, Tryz.results102, go_sem, p8, p9]) rfl ⟨rfl, (kw.setCell (by simp <;> omega) _).setCell (by simp <;> omega) _⟩
set_option maxRecDepth 20000 in
set_option maxHeartbeats 2000000 in
theorem byN8_ (a b c d Z : Nat) (C0 D0 A0 B0 Cl Dg Al Bg Ag : Bool) (tC0 : (FloatKind.f64.format.order c 0 == some Ordering.eq) = C0) (tD0 : (FloatKind.f64.format.order d 0 == some Ordering.eq) = D0) (tA0 : (FloatKind.f64.format.order a 0 == some Ordering.eq) = A0) (tB0 : (FloatKind.f64.format.order b 0 == some Ordering.eq) = B0) (tCl : (FloatKind.f64.format.order c 0 == some Ordering.lt) = Cl) (tDg : (FloatKind.f64.format.order d 0 == some Ordering.gt) = Dg) (tAl : (FloatKind.f64.format.order a 0 == some Ordering.lt) = Al) (tBg : (FloatKind.f64.format.order b 0 == some Ordering.gt) = Bg) (tAg : (FloatKind.f64.format.order a 0 == some Ordering.gt || FloatKind.f64.format.order a 0 == some Ordering.eq) = Ag) (q0 : (C0 && D0) = false) (q1 : (A0 && B0) = false) (q2 : (Cl && Dg) = false) (q3 : (Al && Bg) = false) (q4 : (C0 && Ag) = false) (q5 : (C0) = false) (q6 : (Ag) = false) (w : World) (hd : ∀ W : World, Kp w W → Calls Tryz.prog 114 #[.int .i64 (-1), .float .f64 b, .float .f64 c] W fun e w' => e = .returned (.float .f64 Z) ∧ Kp W w') : Calls Tryz.prog 102 #[.agg #[.float .f64 a, .float .f64 b], .agg #[.float .f64 c, .float .f64 d]] w fun e w' => e = .returned (.agg #[.float .f64 Z, .float .f64 9218868437227405312]) ∧ Kp w w' := by
  rw [tA0] at tAg
  go_enter Tryz.func102, Tryz.ntmps102
  go_upto_region 1 with fail
  have kw : Kp w (((w.alloc (.cells #[.float .f64 a, .float .f64 b] 25)).alloc (.cells #[.float .f64 c, .float .f64 d] 25)).alloc (.cells #[.float .f64 0, .float .f64 0] 25)) := (((Kp.refl w).alloc _).alloc _).alloc _
  have sw : H6 (((w.alloc (.cells #[.float .f64 a, .float .f64 b] 25)).alloc (.cells #[.float .f64 c, .float .f64 d] 25)).alloc (.cells #[.float .f64 0, .float .f64 0] 25)) w.heap.size (.float .f64 a) (.float .f64 b) (.float .f64 c) (.float .f64 d) (.float .f64 0) (.float .f64 0) := H6.new w (.float .f64 a) (.float .f64 b) (.float .f64 c) (.float .f64 d) (.float .f64 0) (.float .f64 0) 25 25 25
  generalize (((w.alloc (.cells #[.float .f64 a, .float .f64 b] 25)).alloc (.cells #[.float .f64 c, .float .f64 d] 25)).alloc (.cells #[.float .f64 0, .float .f64 0] 25)) = w1 at kw sw ⊢
  obtain ⟨⟨p0, p1, p2, p3⟩, ⟨p4, p5, p6, p7⟩, ⟨p8, p9, pa, pb⟩⟩ := id sw
  go_upto_region 1 with fail
  go_cut [5] (fun s5 wx => s5 = .bool false ∧ wx = w1)
  case first =>
    cases C0 <;> cases D0 <;> first | (exfalso; revert q0; decide) | (exfalso; cases q5; done) | (exfalso; cases q6; done) | skip
    all_goals (
      go_wp2_with fail
      go_meet
      exact ⟨rfl, rfl⟩)
  case rest =>
  obtain ⟨rfl, hwc⟩ := hcut
  replace kw : Kp w wc := (by rw [hwc]; exact kw)
  replace sw := (show H6 wc w.heap.size (.float .f64 a) (.float .f64 b) (.float .f64 c) (.float .f64 d) (.float .f64 0) (.float .f64 0) by rw [hwc]; exact sw)
  clear hwc
  generalize wc = w1 at kw sw ⊢
  obtain ⟨⟨p0, p1, p2, p3⟩, ⟨p4, p5, p6, p7⟩, ⟨p8, p9, pa, pb⟩⟩ := id sw
  go_upto_region 3 with fail
  go_cut [15] (fun s15 wx => s15 = .bool false ∧ wx = w1)
  case first =>
    cases A0 <;> cases B0 <;> first | (exfalso; revert q1; decide) | (exfalso; cases q5; done) | (exfalso; cases q6; done) | skip
    all_goals (
      go_wp2_with fail
      go_meet
      exact ⟨rfl, rfl⟩)
  case rest =>
  obtain ⟨rfl, hwc⟩ := hcut
  replace kw : Kp w wc := (by rw [hwc]; exact kw)
  replace sw := (show H6 wc w.heap.size (.float .f64 a) (.float .f64 b) (.float .f64 c) (.float .f64 d) (.float .f64 0) (.float .f64 0) by rw [hwc]; exact sw)
  clear hwc
  generalize wc = w1 at kw sw ⊢
  obtain ⟨⟨p0, p1, p2, p3⟩, ⟨p4, p5, p6, p7⟩, ⟨p8, p9, pa, pb⟩⟩ := id sw
  go_upto_region 5 with fail
  go_cut [25] (fun s25 wx => s25 = .bool false ∧ wx = w1)
  case first =>
    cases Cl <;> cases Dg <;> first | (exfalso; revert q2; decide) | (exfalso; cases q5; done) | (exfalso; cases q6; done) | skip
    all_goals (
      go_wp2_with fail
      go_meet
      exact ⟨rfl, rfl⟩)
  case rest =>
  obtain ⟨rfl, hwc⟩ := hcut
  replace kw : Kp w wc := (by rw [hwc]; exact kw)
  replace sw := (show H6 wc w.heap.size (.float .f64 a) (.float .f64 b) (.float .f64 c) (.float .f64 d) (.float .f64 0) (.float .f64 0) by rw [hwc]; exact sw)
  clear hwc
  generalize wc = w1 at kw sw ⊢
  obtain ⟨⟨p0, p1, p2, p3⟩, ⟨p4, p5, p6, p7⟩, ⟨p8, p9, pa, pb⟩⟩ := id sw
  go_upto_region 6 with fail
  go_cut [25] (fun s25 wx => s25 = .bool false ∧ wx = w1)
  case first =>
    cases Al <;> cases Bg <;> first | (exfalso; revert q3; decide) | (exfalso; cases q5; done) | (exfalso; cases q6; done) | skip
    all_goals (
      go_wp2_with fail
      go_meet
      exact ⟨rfl, rfl⟩)
  case rest =>
  obtain ⟨rfl, hwc⟩ := hcut
  replace kw : Kp w wc := (by rw [hwc]; exact kw)
  replace sw := (show H6 wc w.heap.size (.float .f64 a) (.float .f64 b) (.float .f64 c) (.float .f64 d) (.float .f64 0) (.float .f64 0) by rw [hwc]; exact sw)
  clear hwc
  generalize wc = w1 at kw sw ⊢
  obtain ⟨⟨p0, p1, p2, p3⟩, ⟨p4, p5, p6, p7⟩, ⟨p8, p9, pa, pb⟩⟩ := id sw
  go_upto_region 8 with fail
  go_cut [43] (fun s43 wx => s43 = .bool false ∧ wx = w1)
  case first =>
    cases C0 <;> cases Ag <;> first | (exfalso; revert q4; decide) | (exfalso; cases q5; done) | (exfalso; cases q6; done) | skip
    all_goals (
      go_wp2_with fail
      go_meet
      exact ⟨rfl, rfl⟩)
  case rest =>
  obtain ⟨rfl, hwc⟩ := hcut
  replace kw : Kp w wc := (by rw [hwc]; exact kw)
  replace sw := (show H6 wc w.heap.size (.float .f64 a) (.float .f64 b) (.float .f64 c) (.float .f64 d) (.float .f64 0) (.float .f64 0) by rw [hwc]; exact sw)
  clear hwc
  generalize wc = w1 at kw sw ⊢
  obtain ⟨⟨p0, p1, p2, p3⟩, ⟨p4, p5, p6, p7⟩, ⟨p8, p9, pa, pb⟩⟩ := id sw
  go_upto_region 10 with fail
  go_cut [58] (fun s58 wx => s58 = .bool false ∧ wx = w1)
  case first =>
    cases C0 <;> first | (exfalso; revert q5; decide) | (exfalso; cases q5; done) | (exfalso; cases q6; done) | skip
    all_goals (
      go_wp2_with fail
      go_meet
      exact ⟨rfl, rfl⟩)
  case rest =>
  obtain ⟨rfl, hwc⟩ := hcut
  replace kw : Kp w wc := (by rw [hwc]; exact kw)
  replace sw := (show H6 wc w.heap.size (.float .f64 a) (.float .f64 b) (.float .f64 c) (.float .f64 d) (.float .f64 0) (.float .f64 0) by rw [hwc]; exact sw)
  clear hwc
  generalize wc = w1 at kw sw ⊢
  obtain ⟨⟨p0, p1, p2, p3⟩, ⟨p4, p5, p6, p7⟩, ⟨p8, p9, pa, pb⟩⟩ := id sw
  go_upto_region 12 with fail
  go_cut [68] (fun s68 wx => s68 = .bool false ∧ wx = w1)
  case first =>
    cases Ag <;> first | (exfalso; revert q6; decide) | (exfalso; cases q5; done) | (exfalso; cases q6; done) | skip
    all_goals (
      go_wp2_with fail
      go_meet
      exact ⟨rfl, rfl⟩)
  case rest =>
  obtain ⟨rfl, hwc⟩ := hcut
  replace kw : Kp w wc := (by rw [hwc]; exact kw)
  replace sw := (show H6 wc w.heap.size (.float .f64 a) (.float .f64 b) (.float .f64 c) (.float .f64 d) (.float .f64 0) (.float .f64 0) by rw [hwc]; exact sw)
  clear hwc
  generalize wc = w1 at kw sw ⊢
  obtain ⟨⟨p0, p1, p2, p3⟩, ⟨p4, p5, p6, p7⟩, ⟨p8, p9, pa, pb⟩⟩ := id sw
  go_wp2_with (first | (go_at_call 114; refine (hd _ kw).mono ?_; rintro e wx ⟨rfl, gx⟩; replace kw := Kp.trans kw gx; replace sw := H6.keep sw gx; clear gx; obtain ⟨⟨p0, p1, p2, p3⟩, ⟨p4, p5, p6, p7⟩, ⟨p8, p9, pa, pb⟩⟩ := id sw) | (go_at_call 136; refine (from_ _ _).mono ?_; rintro e wx ⟨rfl, gx⟩; replace kw := Kp.trans kw gx; replace sw := H6.keep sw gx; clear gx; obtain ⟨⟨p0, p1, p2, p3⟩, ⟨p4, p5, p6, p7⟩, ⟨p8, p9, pa, pb⟩⟩ := id sw))
  exact bodyPost_ret (v := .agg #[.float .f64 Z, .float .f64 9218868437227405312]) (by simp [results, Tryz.results102, go_sem, p8, p9]) rfl ⟨rfl, (kw.setCell (by simp <;> omega) _).setCell (by simp <;> omega) _⟩
end Go.Proofs.YthdnajcgdngmcaaGreatDoor
namespace Go.Proofs.YthdnajcgdngmcaaGreatDoor
open Go.RowKit
set_option linter.unusedVariables false
set_option maxRecDepth 20000 in
set_option maxHeartbeats 2000000 in
theorem div6v1_ (a b c d L1 H1 L2 H2 : Nat) (hx : ∀ w : World, Calls Tryz.prog 41 #[.agg #[.float .f64 a, .float .f64 b]] w fun e w' => e = .returned (.agg #[.float .f64 L1, .float .f64 H1]) ∧ Kp w w') (hy : ∀ w : World, Calls Tryz.prog 41 #[.agg #[.float .f64 c, .float .f64 d]] w fun e w' => e = .returned (.agg #[.float .f64 L2, .float .f64 H2]) ∧ Kp w w') (hv1 : ∀ w : World, Calls Tryz.prog 63 #[.agg #[.float .f64 L1, .float .f64 H1]] w fun e w' => e = .returned (.bool true) ∧ Kp w w') (hE : ∀ w : World, Calls Tryz.prog 51 #[] w fun e w' => e = .returned (.agg #[.float .f64 9218868437227405312, .float .f64 18442240474082181120]) ∧ Kp w w') (w : World) : Calls Tryz.prog 66 #[.agg #[.float .f64 a, .float .f64 b], .agg #[.float .f64 c, .float .f64 d]] w fun e w' => e = .returned (.agg #[.float .f64 9218868437227405312, .float .f64 18442240474082181120]) ∧ Kp w w' := by
    go_enter Tryz.func66, Tryz.ntmps66
    go_wp2
    go_region_with (first | (go_at_call_of 41 (Value.agg #[.float .f64 a, .float .f64 b]); refine (hx _).mono ?_; rintro e wx ⟨rfl, gx⟩; first | (have kx := Kp.trans ky gx; have sx := H6.keep sy gx; obtain ⟨⟨p0, p1, p2, p3⟩, ⟨p4, p5, p6, p7⟩, ⟨p8, p9, pa, pb⟩⟩ := id sx) | (have kx : Kp w wx := Kp.trans (((((Kp.refl w).alloc _).alloc _).alloc _).drew) gx; have sx := H6.keep (H6.new w (.float .f64 a) (.float .f64 b) (.float .f64 c) (.float .f64 d) (.float .f64 0) (.float .f64 0) 25 25 25) (Kp.trans (Kp.drew (Kp.refl _)) gx); obtain ⟨⟨p0, p1, p2, p3⟩, ⟨p4, p5, p6, p7⟩, ⟨p8, p9, pa, pb⟩⟩ := id sx)) | (go_at_call_of 41 (Value.agg #[.float .f64 c, .float .f64 d]); refine (hy _).mono ?_; rintro e wy ⟨rfl, gy⟩; first | (have ky := Kp.trans kx gy; have sy := H6.keep sx gy; obtain ⟨⟨p0, p1, p2, p3⟩, ⟨p4, p5, p6, p7⟩, ⟨p8, p9, pa, pb⟩⟩ := id sy) | (have ky : Kp w wy := Kp.trans (((((Kp.refl w).alloc _).alloc _).alloc _).drew) gy; have sy := H6.keep (H6.new w (.float .f64 a) (.float .f64 b) (.float .f64 c) (.float .f64 d) (.float .f64 0) (.float .f64 0) 25 25 25) (Kp.trans (Kp.drew (Kp.refl _)) gy); obtain ⟨⟨p0, p1, p2, p3⟩, ⟨p4, p5, p6, p7⟩, ⟨p8, p9, pa, pb⟩⟩ := id sy)))
    all_goals (first
      | skip
        have sw := H6.put (id sy : H6 wy w.heap.size (.float .f64 a) (.float .f64 b) (.float .f64 c) (.float .f64 d) (.float .f64 0) (.float .f64 0)) (.float .f64 L1) (.float .f64 H1) (.float .f64 L2) (.float .f64 H2)
        have kw : Kp w ((((wy.setCell ⟨w.heap.size, 0, none⟩ (.float .f64 L1)).setCell ⟨w.heap.size, 1, none⟩ (.float .f64 H1)).setCell ⟨w.heap.size + 1, 0, none⟩ (.float .f64 L2)).setCell ⟨w.heap.size + 1, 1, none⟩ (.float .f64 H2)) := (((ky.setCell (Nat.le_refl _) _).setCell (Nat.le_refl _) _).setCell (Nat.le_succ _) _).setCell (Nat.le_succ _) _
        generalize hW : ((((wy.setCell ⟨w.heap.size, 0, none⟩ (.float .f64 L1)).setCell ⟨w.heap.size, 1, none⟩ (.float .f64 H1)).setCell ⟨w.heap.size + 1, 0, none⟩ (.float .f64 L2)).setCell ⟨w.heap.size + 1, 1, none⟩ (.float .f64 H2)) = W at sw kw ⊢
        clear hW
      | skip
        have sw := H6.put (id sx : H6 wx w.heap.size (.float .f64 a) (.float .f64 b) (.float .f64 c) (.float .f64 d) (.float .f64 0) (.float .f64 0)) (.float .f64 L1) (.float .f64 H1) (.float .f64 L2) (.float .f64 H2)
        have kw : Kp w ((((wx.setCell ⟨w.heap.size, 0, none⟩ (.float .f64 L1)).setCell ⟨w.heap.size, 1, none⟩ (.float .f64 H1)).setCell ⟨w.heap.size + 1, 0, none⟩ (.float .f64 L2)).setCell ⟨w.heap.size + 1, 1, none⟩ (.float .f64 H2)) := (((kx.setCell (Nat.le_refl _) _).setCell (Nat.le_refl _) _).setCell (Nat.le_succ _) _).setCell (Nat.le_succ _) _
        generalize hW : ((((wx.setCell ⟨w.heap.size, 0, none⟩ (.float .f64 L1)).setCell ⟨w.heap.size, 1, none⟩ (.float .f64 H1)).setCell ⟨w.heap.size + 1, 0, none⟩ (.float .f64 L2)).setCell ⟨w.heap.size + 1, 1, none⟩ (.float .f64 H2)) = W at sw kw ⊢
        clear hW)
    all_goals (
      obtain ⟨⟨p0, p1, p2, p3⟩, ⟨p4, p5, p6, p7⟩, ⟨p8, p9, pa, pb⟩⟩ := id sw
      go_wp2_with (first | (go_at_call_of 63 (Value.agg #[.float .f64 L1, .float .f64 H1]); refine (hv1 _).mono ?_; rintro e wv ⟨rfl, gv⟩; have kv := Kp.trans kw gv; have sv := H6.keep sw gv; obtain ⟨⟨u0, u1, u2, u3⟩, ⟨u4, u5, u6, u7⟩, ⟨u8, u9, ua, ub⟩⟩ := id sv) | (go_at_call 51; refine (hE _).mono ?_; rintro e we ⟨rfl, ge⟩; obtain ⟨⟨e0, e1, e2, e3⟩, ⟨e4, e5, e6, e7⟩, ⟨e8, e9, ea, eb⟩⟩ := H6.keep sv ge; have ke := Kp.trans kv ge))
      exact bodyPost_ret (v := .agg #[.float .f64 9218868437227405312, .float .f64 18442240474082181120]) (by simp [results, Tryz.results66, go_sem, e8, e9]) rfl ⟨rfl, (ke.setCell (by simp; omega) _).setCell (by simp; omega) _⟩)
set_option maxRecDepth 20000 in
set_option maxHeartbeats 2000000 in
theorem div6v2_ (a b c d L1 H1 L2 H2 : Nat) (hx : ∀ w : World, Calls Tryz.prog 41 #[.agg #[.float .f64 a, .float .f64 b]] w fun e w' => e = .returned (.agg #[.float .f64 L1, .float .f64 H1]) ∧ Kp w w') (hy : ∀ w : World, Calls Tryz.prog 41 #[.agg #[.float .f64 c, .float .f64 d]] w fun e w' => e = .returned (.agg #[.float .f64 L2, .float .f64 H2]) ∧ Kp w w') (hv1 : ∀ w : World, Calls Tryz.prog 63 #[.agg #[.float .f64 L1, .float .f64 H1]] w fun e w' => e = .returned (.bool false) ∧ Kp w w') (hv2 : ∀ w : World, Calls Tryz.prog 63 #[.agg #[.float .f64 L2, .float .f64 H2]] w fun e w' => e = .returned (.bool true) ∧ Kp w w') (hE : ∀ w : World, Calls Tryz.prog 51 #[] w fun e w' => e = .returned (.agg #[.float .f64 9218868437227405312, .float .f64 18442240474082181120]) ∧ Kp w w') (w : World) : Calls Tryz.prog 66 #[.agg #[.float .f64 a, .float .f64 b], .agg #[.float .f64 c, .float .f64 d]] w fun e w' => e = .returned (.agg #[.float .f64 9218868437227405312, .float .f64 18442240474082181120]) ∧ Kp w w' := by
    go_enter Tryz.func66, Tryz.ntmps66
    go_wp2
    go_region_with (first | (go_at_call_of 41 (Value.agg #[.float .f64 a, .float .f64 b]); refine (hx _).mono ?_; rintro e wx ⟨rfl, gx⟩; first | (have kx := Kp.trans ky gx; have sx := H6.keep sy gx; obtain ⟨⟨p0, p1, p2, p3⟩, ⟨p4, p5, p6, p7⟩, ⟨p8, p9, pa, pb⟩⟩ := id sx) | (have kx : Kp w wx := Kp.trans (((((Kp.refl w).alloc _).alloc _).alloc _).drew) gx; have sx := H6.keep (H6.new w (.float .f64 a) (.float .f64 b) (.float .f64 c) (.float .f64 d) (.float .f64 0) (.float .f64 0) 25 25 25) (Kp.trans (Kp.drew (Kp.refl _)) gx); obtain ⟨⟨p0, p1, p2, p3⟩, ⟨p4, p5, p6, p7⟩, ⟨p8, p9, pa, pb⟩⟩ := id sx)) | (go_at_call_of 41 (Value.agg #[.float .f64 c, .float .f64 d]); refine (hy _).mono ?_; rintro e wy ⟨rfl, gy⟩; first | (have ky := Kp.trans kx gy; have sy := H6.keep sx gy; obtain ⟨⟨p0, p1, p2, p3⟩, ⟨p4, p5, p6, p7⟩, ⟨p8, p9, pa, pb⟩⟩ := id sy) | (have ky : Kp w wy := Kp.trans (((((Kp.refl w).alloc _).alloc _).alloc _).drew) gy; have sy := H6.keep (H6.new w (.float .f64 a) (.float .f64 b) (.float .f64 c) (.float .f64 d) (.float .f64 0) (.float .f64 0) 25 25 25) (Kp.trans (Kp.drew (Kp.refl _)) gy); obtain ⟨⟨p0, p1, p2, p3⟩, ⟨p4, p5, p6, p7⟩, ⟨p8, p9, pa, pb⟩⟩ := id sy)))
    all_goals (first
      | skip
        have sw := H6.put (id sy : H6 wy w.heap.size (.float .f64 a) (.float .f64 b) (.float .f64 c) (.float .f64 d) (.float .f64 0) (.float .f64 0)) (.float .f64 L1) (.float .f64 H1) (.float .f64 L2) (.float .f64 H2)
        have kw : Kp w ((((wy.setCell ⟨w.heap.size, 0, none⟩ (.float .f64 L1)).setCell ⟨w.heap.size, 1, none⟩ (.float .f64 H1)).setCell ⟨w.heap.size + 1, 0, none⟩ (.float .f64 L2)).setCell ⟨w.heap.size + 1, 1, none⟩ (.float .f64 H2)) := (((ky.setCell (Nat.le_refl _) _).setCell (Nat.le_refl _) _).setCell (Nat.le_succ _) _).setCell (Nat.le_succ _) _
        generalize hW : ((((wy.setCell ⟨w.heap.size, 0, none⟩ (.float .f64 L1)).setCell ⟨w.heap.size, 1, none⟩ (.float .f64 H1)).setCell ⟨w.heap.size + 1, 0, none⟩ (.float .f64 L2)).setCell ⟨w.heap.size + 1, 1, none⟩ (.float .f64 H2)) = W at sw kw ⊢
        clear hW
      | skip
        have sw := H6.put (id sx : H6 wx w.heap.size (.float .f64 a) (.float .f64 b) (.float .f64 c) (.float .f64 d) (.float .f64 0) (.float .f64 0)) (.float .f64 L1) (.float .f64 H1) (.float .f64 L2) (.float .f64 H2)
        have kw : Kp w ((((wx.setCell ⟨w.heap.size, 0, none⟩ (.float .f64 L1)).setCell ⟨w.heap.size, 1, none⟩ (.float .f64 H1)).setCell ⟨w.heap.size + 1, 0, none⟩ (.float .f64 L2)).setCell ⟨w.heap.size + 1, 1, none⟩ (.float .f64 H2)) := (((kx.setCell (Nat.le_refl _) _).setCell (Nat.le_refl _) _).setCell (Nat.le_succ _) _).setCell (Nat.le_succ _) _
        generalize hW : ((((wx.setCell ⟨w.heap.size, 0, none⟩ (.float .f64 L1)).setCell ⟨w.heap.size, 1, none⟩ (.float .f64 H1)).setCell ⟨w.heap.size + 1, 0, none⟩ (.float .f64 L2)).setCell ⟨w.heap.size + 1, 1, none⟩ (.float .f64 H2)) = W at sw kw ⊢
        clear hW)
    all_goals (
      obtain ⟨⟨p0, p1, p2, p3⟩, ⟨p4, p5, p6, p7⟩, ⟨p8, p9, pa, pb⟩⟩ := id sw
      go_wp2_with (first | (go_at_call_of 63 (Value.agg #[.float .f64 L1, .float .f64 H1]); refine (hv1 _).mono ?_; rintro e wv ⟨rfl, gv⟩; have kv := Kp.trans kw gv; have sv := H6.keep sw gv; obtain ⟨⟨u0, u1, u2, u3⟩, ⟨u4, u5, u6, u7⟩, ⟨u8, u9, ua, ub⟩⟩ := id sv) | (go_at_call_of 63 (Value.agg #[.float .f64 L2, .float .f64 H2]); refine (hv2 _).mono ?_; rintro e wz ⟨rfl, gz⟩; have kz := Kp.trans kv gz; have sz := H6.keep sv gz; obtain ⟨⟨t0, t1, t2, t3⟩, ⟨t4, t5, t6, t7⟩, ⟨t8, t9, ta, tb⟩⟩ := id sz) | (go_at_call 51; refine (hE _).mono ?_; rintro e we ⟨rfl, ge⟩; obtain ⟨⟨e0, e1, e2, e3⟩, ⟨e4, e5, e6, e7⟩, ⟨e8, e9, ea, eb⟩⟩ := H6.keep sz ge; have ke := Kp.trans kz ge))
      exact bodyPost_ret (v := .agg #[.float .f64 9218868437227405312, .float .f64 18442240474082181120]) (by simp [results, Tryz.results66, go_sem, e8, e9]) rfl ⟨rfl, (ke.setCell (by simp; omega) _).setCell (by simp; omega) _⟩)
end Go.Proofs.YthdnajcgdngmcaaGreatDoor
namespace Go.Proofs.YthdnajcgdngmcaaGreatDoor
open Go.RowKit
set_option linter.unusedVariables false
set_option maxRecDepth 20000 in
set_option maxHeartbeats 4000000 in
theorem div6b_ (a b c d L1 H1 L2 H2 : Nat) (hx : ∀ w : World, Calls Tryz.prog 41 #[.agg #[.float .f64 a, .float .f64 b]] w fun e w' => e = .returned (.agg #[.float .f64 L1, .float .f64 H1]) ∧ Kp w w') (hy : ∀ w : World, Calls Tryz.prog 41 #[.agg #[.float .f64 c, .float .f64 d]] w fun e w' => e = .returned (.agg #[.float .f64 L2, .float .f64 H2]) ∧ Kp w w') (hv1 : ∀ w : World, Calls Tryz.prog 63 #[.agg #[.float .f64 L1, .float .f64 H1]] w fun e w' => e = .returned (.bool false) ∧ Kp w w') (hv2 : ∀ w : World, Calls Tryz.prog 63 #[.agg #[.float .f64 L2, .float .f64 H2]] w fun e w' => e = .returned (.bool false) ∧ Kp w w') (hh : ∀ w : World, Calls Tryz.prog 93 #[.agg #[.float .f64 L2, .float .f64 H2]] w fun e w' => e = .returned (.bool true) ∧ Kp w w') (Z1 Z2 : Nat) (w : World) (hs : ∀ W : World, Kp w W → Calls Tryz.prog 102 #[.agg #[.float .f64 L1, .float .f64 H1], .agg #[.float .f64 L2, .float .f64 H2]] W fun e w' => e = .returned (.agg #[.float .f64 Z1, .float .f64 Z2]) ∧ Kp W w') : Calls Tryz.prog 66 #[.agg #[.float .f64 a, .float .f64 b], .agg #[.float .f64 c, .float .f64 d]] w fun e w' => e = .returned (.agg #[.float .f64 Z1, .float .f64 Z2]) ∧ Kp w w' := by
    go_enter Tryz.func66, Tryz.ntmps66
    go_upto_region 1 with fail
    go_cut [] (fun wx => H6 wx w.heap.size (.float .f64 L1) (.float .f64 H1) (.float .f64 L2) (.float .f64 H2) (.float .f64 0) (.float .f64 0) ∧ Kp w wx)
    case first =>
      go_region_with (first | (go_at_call_of 41 (Value.agg #[.float .f64 a, .float .f64 b]); refine (hx _).mono ?_; rintro e wx ⟨rfl, gx⟩; first | (have kx := Kp.trans ky gx; have sx := H6.keep sy gx; obtain ⟨⟨p0, p1, p2, p3⟩, ⟨p4, p5, p6, p7⟩, ⟨p8, p9, pa, pb⟩⟩ := id sx) | (have kx : Kp w wx := Kp.trans ((((Kp.refl w).alloc _).alloc _).alloc _).drew gx; have sx := H6.keep (H6.new w (.float .f64 a) (.float .f64 b) (.float .f64 c) (.float .f64 d) (.float .f64 0) (.float .f64 0) 25 25 25) (Kp.trans (Kp.drew (Kp.refl _)) gx); obtain ⟨⟨p0, p1, p2, p3⟩, ⟨p4, p5, p6, p7⟩, ⟨p8, p9, pa, pb⟩⟩ := id sx)) | (go_at_call_of 41 (Value.agg #[.float .f64 c, .float .f64 d]); refine (hy _).mono ?_; rintro e wy ⟨rfl, gy⟩; first | (have ky := Kp.trans kx gy; have sy := H6.keep sx gy; obtain ⟨⟨p0, p1, p2, p3⟩, ⟨p4, p5, p6, p7⟩, ⟨p8, p9, pa, pb⟩⟩ := id sy) | (have ky : Kp w wy := Kp.trans ((((Kp.refl w).alloc _).alloc _).alloc _).drew gy; have sy := H6.keep (H6.new w (.float .f64 a) (.float .f64 b) (.float .f64 c) (.float .f64 d) (.float .f64 0) (.float .f64 0) 25 25 25) (Kp.trans (Kp.drew (Kp.refl _)) gy); obtain ⟨⟨p0, p1, p2, p3⟩, ⟨p4, p5, p6, p7⟩, ⟨p8, p9, pa, pb⟩⟩ := id sy)))
      all_goals (
        go_wp2_with fail
        go_meet
        first | (exact ⟨H6.put (id sy : H6 wy w.heap.size (.float .f64 a) (.float .f64 b) (.float .f64 c) (.float .f64 d) (.float .f64 0) (.float .f64 0)) (.float .f64 L1) (.float .f64 H1) (.float .f64 L2) (.float .f64 H2), (((ky.setCell (Nat.le_refl _) _).setCell (Nat.le_refl _) _).setCell (Nat.le_succ _) _).setCell (Nat.le_succ _) _⟩) | (exact ⟨H6.put (id sx : H6 wx w.heap.size (.float .f64 a) (.float .f64 b) (.float .f64 c) (.float .f64 d) (.float .f64 0) (.float .f64 0)) (.float .f64 L1) (.float .f64 H1) (.float .f64 L2) (.float .f64 H2), (((kx.setCell (Nat.le_refl _) _).setCell (Nat.le_refl _) _).setCell (Nat.le_succ _) _).setCell (Nat.le_succ _) _⟩))
    case rest =>
    obtain ⟨sw, kw⟩ := hcut
    obtain ⟨⟨p0, p1, p2, p3⟩, ⟨p4, p5, p6, p7⟩, ⟨p8, p9, pa, pb⟩⟩ := id sw
    go_wp2_with (first | (go_at_call_of 63 (Value.agg #[.float .f64 L1, .float .f64 H1]); refine (hv1 _).mono ?_; rintro e wx ⟨rfl, gx⟩; replace kw := Kp.trans kw gx; replace sw := H6.keep sw gx; clear gx; obtain ⟨⟨p0, p1, p2, p3⟩, ⟨p4, p5, p6, p7⟩, ⟨p8, p9, pa, pb⟩⟩ := id sw) | (go_at_call_of 63 (Value.agg #[.float .f64 L2, .float .f64 H2]); refine (hv2 _).mono ?_; rintro e wx ⟨rfl, gx⟩; replace kw := Kp.trans kw gx; replace sw := H6.keep sw gx; clear gx; obtain ⟨⟨p0, p1, p2, p3⟩, ⟨p4, p5, p6, p7⟩, ⟨p8, p9, pa, pb⟩⟩ := id sw) | (go_at_call 93; refine (hh _).mono ?_; rintro e wx ⟨rfl, gx⟩; replace kw := Kp.trans kw gx; replace sw := H6.keep sw gx; clear gx; obtain ⟨⟨p0, p1, p2, p3⟩, ⟨p4, p5, p6, p7⟩, ⟨p8, p9, pa, pb⟩⟩ := id sw) | (go_at_call 102; refine (hs _ kw).mono ?_; rintro e wx ⟨rfl, gx⟩; replace kw := Kp.trans kw gx; replace sw := H6.keep sw gx; clear gx; obtain ⟨⟨p0, p1, p2, p3⟩, ⟨p4, p5, p6, p7⟩, ⟨p8, p9, pa, pb⟩⟩ := id sw))
    exact bodyPost_ret (v := .agg #[.float .f64 Z1, .float .f64 Z2]) (by simp [results, Tryz.results66, go_sem, p8, p9]) rfl ⟨rfl, (kw.setCell (by simp <;> omega) _).setCell (by simp <;> omega) _⟩
set_option maxRecDepth 20000 in
set_option maxHeartbeats 4000000 in
theorem div6n_ (a b c d L1 H1 L2 H2 : Nat) (hx : ∀ w : World, Calls Tryz.prog 41 #[.agg #[.float .f64 a, .float .f64 b]] w fun e w' => e = .returned (.agg #[.float .f64 L1, .float .f64 H1]) ∧ Kp w w') (hy : ∀ w : World, Calls Tryz.prog 41 #[.agg #[.float .f64 c, .float .f64 d]] w fun e w' => e = .returned (.agg #[.float .f64 L2, .float .f64 H2]) ∧ Kp w w') (hv1 : ∀ w : World, Calls Tryz.prog 63 #[.agg #[.float .f64 L1, .float .f64 H1]] w fun e w' => e = .returned (.bool false) ∧ Kp w w') (hv2 : ∀ w : World, Calls Tryz.prog 63 #[.agg #[.float .f64 L2, .float .f64 H2]] w fun e w' => e = .returned (.bool false) ∧ Kp w w') (hh : ∀ w : World, Calls Tryz.prog 93 #[.agg #[.float .f64 L2, .float .f64 H2]] w fun e w' => e = .returned (.bool false) ∧ Kp w w') (Z1 Z2 : Nat) (w : World) (hs : ∀ W : World, Kp w W → Calls Tryz.prog 103 #[.agg #[.float .f64 L1, .float .f64 H1], .agg #[.float .f64 H2, .float .f64 L2], .func (.func 104) #[] #[]] W fun e w' => e = .returned (.agg #[.float .f64 Z1, .float .f64 Z2]) ∧ Kp W w') : Calls Tryz.prog 66 #[.agg #[.float .f64 a, .float .f64 b], .agg #[.float .f64 c, .float .f64 d]] w fun e w' => e = .returned (.agg #[.float .f64 Z1, .float .f64 Z2]) ∧ Kp w w' := by
    go_enter Tryz.func66, Tryz.ntmps66
    go_upto_region 1 with fail
    go_cut [] (fun wx => H6 wx w.heap.size (.float .f64 L1) (.float .f64 H1) (.float .f64 L2) (.float .f64 H2) (.float .f64 0) (.float .f64 0) ∧ Kp w wx)
    case first =>
      go_region_with (first | (go_at_call_of 41 (Value.agg #[.float .f64 a, .float .f64 b]); refine (hx _).mono ?_; rintro e wx ⟨rfl, gx⟩; first | (have kx := Kp.trans ky gx; have sx := H6.keep sy gx; obtain ⟨⟨p0, p1, p2, p3⟩, ⟨p4, p5, p6, p7⟩, ⟨p8, p9, pa, pb⟩⟩ := id sx) | (have kx : Kp w wx := Kp.trans ((((Kp.refl w).alloc _).alloc _).alloc _).drew gx; have sx := H6.keep (H6.new w (.float .f64 a) (.float .f64 b) (.float .f64 c) (.float .f64 d) (.float .f64 0) (.float .f64 0) 25 25 25) (Kp.trans (Kp.drew (Kp.refl _)) gx); obtain ⟨⟨p0, p1, p2, p3⟩, ⟨p4, p5, p6, p7⟩, ⟨p8, p9, pa, pb⟩⟩ := id sx)) | (go_at_call_of 41 (Value.agg #[.float .f64 c, .float .f64 d]); refine (hy _).mono ?_; rintro e wy ⟨rfl, gy⟩; first | (have ky := Kp.trans kx gy; have sy := H6.keep sx gy; obtain ⟨⟨p0, p1, p2, p3⟩, ⟨p4, p5, p6, p7⟩, ⟨p8, p9, pa, pb⟩⟩ := id sy) | (have ky : Kp w wy := Kp.trans ((((Kp.refl w).alloc _).alloc _).alloc _).drew gy; have sy := H6.keep (H6.new w (.float .f64 a) (.float .f64 b) (.float .f64 c) (.float .f64 d) (.float .f64 0) (.float .f64 0) 25 25 25) (Kp.trans (Kp.drew (Kp.refl _)) gy); obtain ⟨⟨p0, p1, p2, p3⟩, ⟨p4, p5, p6, p7⟩, ⟨p8, p9, pa, pb⟩⟩ := id sy)))
      all_goals (
        go_wp2_with fail
        go_meet
        first | (exact ⟨H6.put (id sy : H6 wy w.heap.size (.float .f64 a) (.float .f64 b) (.float .f64 c) (.float .f64 d) (.float .f64 0) (.float .f64 0)) (.float .f64 L1) (.float .f64 H1) (.float .f64 L2) (.float .f64 H2), (((ky.setCell (Nat.le_refl _) _).setCell (Nat.le_refl _) _).setCell (Nat.le_succ _) _).setCell (Nat.le_succ _) _⟩) | (exact ⟨H6.put (id sx : H6 wx w.heap.size (.float .f64 a) (.float .f64 b) (.float .f64 c) (.float .f64 d) (.float .f64 0) (.float .f64 0)) (.float .f64 L1) (.float .f64 H1) (.float .f64 L2) (.float .f64 H2), (((kx.setCell (Nat.le_refl _) _).setCell (Nat.le_refl _) _).setCell (Nat.le_succ _) _).setCell (Nat.le_succ _) _⟩))
    case rest =>
    obtain ⟨sw, kw⟩ := hcut
    obtain ⟨⟨p0, p1, p2, p3⟩, ⟨p4, p5, p6, p7⟩, ⟨p8, p9, pa, pb⟩⟩ := id sw
    go_wp2_with (first | (go_at_call_of 63 (Value.agg #[.float .f64 L1, .float .f64 H1]); refine (hv1 _).mono ?_; rintro e wx ⟨rfl, gx⟩; replace kw := Kp.trans kw gx; replace sw := H6.keep sw gx; clear gx; obtain ⟨⟨p0, p1, p2, p3⟩, ⟨p4, p5, p6, p7⟩, ⟨p8, p9, pa, pb⟩⟩ := id sw) | (go_at_call_of 63 (Value.agg #[.float .f64 L2, .float .f64 H2]); refine (hv2 _).mono ?_; rintro e wx ⟨rfl, gx⟩; replace kw := Kp.trans kw gx; replace sw := H6.keep sw gx; clear gx; obtain ⟨⟨p0, p1, p2, p3⟩, ⟨p4, p5, p6, p7⟩, ⟨p8, p9, pa, pb⟩⟩ := id sw) | (go_at_call 93; refine (hh _).mono ?_; rintro e wx ⟨rfl, gx⟩; replace kw := Kp.trans kw gx; replace sw := H6.keep sw gx; clear gx; obtain ⟨⟨p0, p1, p2, p3⟩, ⟨p4, p5, p6, p7⟩, ⟨p8, p9, pa, pb⟩⟩ := id sw) | (go_at_call 103; refine (hs _ kw).mono ?_; rintro e wx ⟨rfl, gx⟩; replace kw := Kp.trans kw gx; replace sw := H6.keep sw gx; clear gx; obtain ⟨⟨p0, p1, p2, p3⟩, ⟨p4, p5, p6, p7⟩, ⟨p8, p9, pa, pb⟩⟩ := id sw))
    exact bodyPost_ret (v := .agg #[.float .f64 Z1, .float .f64 Z2]) (by simp [results, Tryz.results66, go_sem, p8, p9]) rfl ⟨rfl, (kw.setCell (by simp <;> omega) _).setCell (by simp <;> omega) _⟩
set_option maxRecDepth 20000 in
set_option maxHeartbeats 1000000 in
theorem recip6_ (a b Z1 Z2 : Nat) (w : World) (hs : ∀ W : World, Kp w W → Calls Tryz.prog 66 #[.agg #[.float .f64 4607182418800017408, .float .f64 4607182418800017408], .agg #[.float .f64 a, .float .f64 b]] W fun e w' => e = .returned (.agg #[.float .f64 Z1, .float .f64 Z2]) ∧ Kp W w') : Calls Tryz.prog 29 #[.agg #[.float .f64 a, .float .f64 b]] w fun e w' => e = .returned (.agg #[.float .f64 Z1, .float .f64 Z2]) ∧ Kp w w' := by
  go_enter Tryz.func29, Tryz.ntmps29
  go_wp2_with (first | (go_at_call 66; refine (hs _ (((Kp.refl w).alloc _).alloc _)).mono ?_; rintro e wx ⟨rfl, gx⟩; have kw := Kp.trans (((Kp.refl w).alloc (.cells #[.float .f64 a, .float .f64 b] 25)).alloc (.cells #[.float .f64 0, .float .f64 0] 25)) gx; have sw := Fq.H2.keep (Fq.H2.two0 w (.float .f64 a) (.float .f64 b) (.float .f64 0) (.float .f64 0) 25 25) gx; obtain ⟨p0, p1, p2, p3⟩ := id sw))
  exact bodyPost_ret (v := .agg #[.float .f64 Z1, .float .f64 Z2]) (by simp [results, Tryz.results29, go_sem, p0, p1]) rfl ⟨rfl, (kw.setCell (by simp <;> omega) _).setCell (by simp <;> omega) _⟩
end Go.Proofs.YthdnajcgdngmcaaGreatDoor
namespace Go.Proofs.YthdnajcgdngmcaaGreatDoor
open Go.RowKit
/-- two blocks of two cells, one behind the other -/
def H48 (w : World) (B : Nat) (a b c d : Value) : Prop := Fq.H2 w B a b ∧ Fq.H2 w (B + 1) c d
theorem H48.keep {W w : World} {B : Nat} {a b c d : Value} (h : H48 W B a b c d) (g : Kp W w) : H48 w B a b c d := ⟨Fq.H2.keep h.1 g, Fq.H2.keep h.2 g⟩
theorem H48.new (w : World) (a b c d : Value) (s t : TypeId) : H48 ((w.alloc (.cells #[a, b] s)).alloc (.cells #[c, d] t)) w.heap.size a b c d := by
  refine ⟨?_, ?_⟩ <;> (unfold Fq.H2; simp [go_sem])
theorem H48.put {w : World} {B : Nat} {a b c d : Value} (h : H48 w B a b c d) (a' b' c' d' : Value) : H48 ((((w.setCell ⟨B, 0, none⟩ a').setCell ⟨B, 1, none⟩ b').setCell ⟨B + 1, 0, none⟩ c').setCell ⟨B + 1, 1, none⟩ d') B a' b' c' d' := by
  refine ⟨?_, ?_⟩
  · exact Fq.H2.far (Fq.H2.put h.1 a' b') (by omega) c' d'
  · exact Fq.H2.put (Fq.H2.far h.2 (by omega) a' b') c' d'
end Go.Proofs.YthdnajcgdngmcaaGreatDoor
namespace Go.Proofs.YthdnajcgdngmcaaGreatDoor
open Go.RowKit
set_option linter.unusedVariables false
set_option maxRecDepth 20000 in
set_option maxHeartbeats 1000000 in
theorem lsQ1_ (a b c d Z1 Z2 Z : Nat) (A1 B1 C1 D1 : Bool) (tA1 : (FloatKind.f64.format.order a 0 == some Ordering.lt) = A1) (tB1 : (FloatKind.f64.format.order b 0 == some Ordering.gt) = B1) (tC1 : (FloatKind.f64.format.order c 0 == some Ordering.lt) = C1) (tD1 : (FloatKind.f64.format.order d 0 == some Ordering.gt) = D1) (q : (A1 && B1 && C1 && D1) = true) (w : World) (PL : Nat → Nat → Nat → Prop) (hL : ∀ x y z, PL x y z → ∀ W : World, Kp w W → Calls Tryz.prog 104 #[.float .f64 x, .float .f64 y] W fun e w' => e = .returned (.float .f64 z) ∧ Kp W w') (f1 : PL b c Z1) (f2 : PL a d Z2) (hm : ∀ (ts : Array TypeId) (t : TypeId) (w : World), (Builtin.min_ ts t #[.float .f64 Z1, .float .f64 Z2]).run Tryz.prog w = .ok (.float .f64 Z) w) : Calls Tryz.prog 138 #[.agg #[.float .f64 a, .float .f64 b], .agg #[.float .f64 c, .float .f64 d], .func (.func 104) #[] #[]] w fun e w' => e = .returned (.float .f64 Z) ∧ Kp w w' := by
  go_enter Tryz.func138, Tryz.ntmps138
  go_upto_region 2 with (first | (go_at_call 8; refine (Fq.inf1_ _).mono ?_; rintro e w1 ⟨rfl, g1⟩; have kw : Kp w w1 := (by rw [g1]; exact (((Kp.refl w).alloc _).alloc _)); have sw : H48 w1 w.heap.size (.float .f64 a) (.float .f64 b) (.float .f64 c) (.float .f64 d) := (by rw [g1]; exact H48.new w (.float .f64 a) (.float .f64 b) (.float .f64 c) (.float .f64 d) 25 25); clear g1; obtain ⟨⟨p0, p1, p2, p3⟩, ⟨p4, p5, p6, p7⟩⟩ := id sw))
  go_cut [9] (fun s9 wx => s9 = .bool true ∧ wx = w1)
  case first =>
    cases A1 <;> cases B1 <;> cases C1 <;> cases D1 <;> first | (exfalso; revert q; decide) | skip
    all_goals (
      go_wp2_with fail
      go_meet
      exact ⟨rfl, rfl⟩)
  case rest =>
  obtain ⟨rfl, hwc⟩ := hcut
  replace kw : Kp w wc := (by rw [hwc]; exact kw)
  replace sw := (show H48 wc w.heap.size (.float .f64 a) (.float .f64 b) (.float .f64 c) (.float .f64 d) by rw [hwc]; exact sw)
  clear hwc
  generalize wc = w1 at kw sw ⊢
  obtain ⟨⟨p0, p1, p2, p3⟩, ⟨p4, p5, p6, p7⟩⟩ := id sw
  go_wp2_with (first | (go_at_call 104; refine (hL _ _ _ (by with_reducible first | exact f1 | exact f2) _ kw).mono ?_; rintro e wx ⟨rfl, gx⟩; replace kw := Kp.trans kw gx; replace sw := H48.keep sw gx; clear gx; obtain ⟨⟨p0, p1, p2, p3⟩, ⟨p4, p5, p6, p7⟩⟩ := id sw))
  exact bodyPost_ret (v := .float .f64 Z) (by simp [results, Tryz.results138, go_sem]) rfl ⟨rfl, kw⟩
set_option maxRecDepth 20000 in
set_option maxHeartbeats 1000000 in
theorem lsQ2_ (a b c d Z2 Z : Nat) (A1 B1 C1 D1 : Bool) (tA1 : (FloatKind.f64.format.order a 0 == some Ordering.lt) = A1) (tB1 : (FloatKind.f64.format.order b 0 == some Ordering.gt) = B1) (tC1 : (FloatKind.f64.format.order c 0 == some Ordering.lt) = C1) (tD1 : (FloatKind.f64.format.order d 0 == some Ordering.gt) = D1) (q : (A1 && B1 && C1 && D1) = false) (q2 : (A1 && D1) = true) (w : World) (PL : Nat → Nat → Nat → Prop) (hL : ∀ x y z, PL x y z → ∀ W : World, Kp w W → Calls Tryz.prog 104 #[.float .f64 x, .float .f64 y] W fun e w' => e = .returned (.float .f64 z) ∧ Kp W w') (f1 : PL a d Z2) (f2 : True) (hm : ∀ (ts : Array TypeId) (t : TypeId) (w : World), (Builtin.min_ ts t #[.float .f64 9218868437227405312, .float .f64 Z2]).run Tryz.prog w = .ok (.float .f64 Z) w) : Calls Tryz.prog 138 #[.agg #[.float .f64 a, .float .f64 b], .agg #[.float .f64 c, .float .f64 d], .func (.func 104) #[] #[]] w fun e w' => e = .returned (.float .f64 Z) ∧ Kp w w' := by
  go_enter Tryz.func138, Tryz.ntmps138
  go_upto_region 2 with (first | (go_at_call 8; refine (Fq.inf1_ _).mono ?_; rintro e w1 ⟨rfl, g1⟩; have kw : Kp w w1 := (by rw [g1]; exact (((Kp.refl w).alloc _).alloc _)); have sw : H48 w1 w.heap.size (.float .f64 a) (.float .f64 b) (.float .f64 c) (.float .f64 d) := (by rw [g1]; exact H48.new w (.float .f64 a) (.float .f64 b) (.float .f64 c) (.float .f64 d) 25 25); clear g1; obtain ⟨⟨p0, p1, p2, p3⟩, ⟨p4, p5, p6, p7⟩⟩ := id sw))
  go_cut [9] (fun s9 wx => s9 = .bool false ∧ wx = w1)
  case first =>
    cases A1 <;> cases B1 <;> cases C1 <;> cases D1 <;> first | (exfalso; revert q; decide) | skip
    all_goals (
      go_wp2_with fail
      go_meet
      exact ⟨rfl, rfl⟩)
  case rest =>
  obtain ⟨rfl, hwc⟩ := hcut
  replace kw : Kp w wc := (by rw [hwc]; exact kw)
  replace sw := (show H48 wc w.heap.size (.float .f64 a) (.float .f64 b) (.float .f64 c) (.float .f64 d) by rw [hwc]; exact sw)
  clear hwc
  generalize wc = w1 at kw sw ⊢
  obtain ⟨⟨p0, p1, p2, p3⟩, ⟨p4, p5, p6, p7⟩⟩ := id sw
  go_upto_region 3 with (first | fail)
  go_cut [28] (fun s28 wx => s28 = .bool true ∧ wx = w1)
  case first =>
    cases A1 <;> cases D1 <;> first | (exfalso; revert q2; decide) | skip
    all_goals (
      go_wp2_with fail
      go_meet
      exact ⟨rfl, rfl⟩)
  case rest =>
  obtain ⟨rfl, hwc⟩ := hcut
  replace kw : Kp w wc := (by rw [hwc]; exact kw)
  replace sw := (show H48 wc w.heap.size (.float .f64 a) (.float .f64 b) (.float .f64 c) (.float .f64 d) by rw [hwc]; exact sw)
  clear hwc
  generalize wc = w1 at kw sw ⊢
  obtain ⟨⟨p0, p1, p2, p3⟩, ⟨p4, p5, p6, p7⟩⟩ := id sw
  go_wp2_with (first | (go_at_call 104; refine (hL _ _ _ (by with_reducible first | exact f1 | exact f2) _ kw).mono ?_; rintro e wx ⟨rfl, gx⟩; replace kw := Kp.trans kw gx; replace sw := H48.keep sw gx; clear gx; obtain ⟨⟨p0, p1, p2, p3⟩, ⟨p4, p5, p6, p7⟩⟩ := id sw))
  exact bodyPost_ret (v := .float .f64 Z) (by simp [results, Tryz.results138, go_sem]) rfl ⟨rfl, kw⟩
set_option maxRecDepth 20000 in
set_option maxHeartbeats 1000000 in
theorem lsQ3_ (a b c d Z : Nat) (A1 B1 C1 D1 : Bool) (tA1 : (FloatKind.f64.format.order a 0 == some Ordering.lt) = A1) (tB1 : (FloatKind.f64.format.order b 0 == some Ordering.gt) = B1) (tC1 : (FloatKind.f64.format.order c 0 == some Ordering.lt) = C1) (tD1 : (FloatKind.f64.format.order d 0 == some Ordering.gt) = D1) (q : (A1 && B1 && C1 && D1) = false) (q2 : (A1 && D1) = false) (q3 : (B1 && C1) = true) (w : World) (PL : Nat → Nat → Nat → Prop) (hL : ∀ x y z, PL x y z → ∀ W : World, Kp w W → Calls Tryz.prog 104 #[.float .f64 x, .float .f64 y] W fun e w' => e = .returned (.float .f64 z) ∧ Kp W w') (f1 : PL b c Z) (f2 : True) : Calls Tryz.prog 138 #[.agg #[.float .f64 a, .float .f64 b], .agg #[.float .f64 c, .float .f64 d], .func (.func 104) #[] #[]] w fun e w' => e = .returned (.float .f64 Z) ∧ Kp w w' := by
  go_enter Tryz.func138, Tryz.ntmps138
  go_upto_region 2 with (first | (go_at_call 8; refine (Fq.inf1_ _).mono ?_; rintro e w1 ⟨rfl, g1⟩; have kw : Kp w w1 := (by rw [g1]; exact (((Kp.refl w).alloc _).alloc _)); have sw : H48 w1 w.heap.size (.float .f64 a) (.float .f64 b) (.float .f64 c) (.float .f64 d) := (by rw [g1]; exact H48.new w (.float .f64 a) (.float .f64 b) (.float .f64 c) (.float .f64 d) 25 25); clear g1; obtain ⟨⟨p0, p1, p2, p3⟩, ⟨p4, p5, p6, p7⟩⟩ := id sw))
  go_cut [9] (fun s9 wx => s9 = .bool false ∧ wx = w1)
  case first =>
    cases A1 <;> cases B1 <;> cases C1 <;> cases D1 <;> first | (exfalso; revert q; decide) | skip
    all_goals (
      go_wp2_with fail
      go_meet
      exact ⟨rfl, rfl⟩)
  case rest =>
  obtain ⟨rfl, hwc⟩ := hcut
  replace kw : Kp w wc := (by rw [hwc]; exact kw)
  replace sw := (show H48 wc w.heap.size (.float .f64 a) (.float .f64 b) (.float .f64 c) (.float .f64 d) by rw [hwc]; exact sw)
  clear hwc
  generalize wc = w1 at kw sw ⊢
  obtain ⟨⟨p0, p1, p2, p3⟩, ⟨p4, p5, p6, p7⟩⟩ := id sw
  go_upto_region 3 with (first | fail)
  go_cut [28] (fun s28 wx => s28 = .bool false ∧ wx = w1)
  case first =>
    cases A1 <;> cases D1 <;> first | (exfalso; revert q2; decide) | skip
    all_goals (
      go_wp2_with fail
      go_meet
      exact ⟨rfl, rfl⟩)
  case rest =>
  obtain ⟨rfl, hwc⟩ := hcut
  replace kw : Kp w wc := (by rw [hwc]; exact kw)
  replace sw := (show H48 wc w.heap.size (.float .f64 a) (.float .f64 b) (.float .f64 c) (.float .f64 d) by rw [hwc]; exact sw)
  clear hwc
  generalize wc = w1 at kw sw ⊢
  obtain ⟨⟨p0, p1, p2, p3⟩, ⟨p4, p5, p6, p7⟩⟩ := id sw
  go_upto_region 4 with (first | fail)
  go_cut [37] (fun s37 wx => s37 = .bool true ∧ wx = w1)
  case first =>
    cases B1 <;> cases C1 <;> first | (exfalso; revert q3; decide) | skip
    all_goals (
      go_wp2_with fail
      go_meet
      exact ⟨rfl, rfl⟩)
  case rest =>
  obtain ⟨rfl, hwc⟩ := hcut
  replace kw : Kp w wc := (by rw [hwc]; exact kw)
  replace sw := (show H48 wc w.heap.size (.float .f64 a) (.float .f64 b) (.float .f64 c) (.float .f64 d) by rw [hwc]; exact sw)
  clear hwc
  generalize wc = w1 at kw sw ⊢
  obtain ⟨⟨p0, p1, p2, p3⟩, ⟨p4, p5, p6, p7⟩⟩ := id sw
  go_wp2_with (first | (go_at_call 104; refine (hL _ _ _ (by with_reducible first | exact f1 | exact f2) _ kw).mono ?_; rintro e wx ⟨rfl, gx⟩; replace kw := Kp.trans kw gx; replace sw := H48.keep sw gx; clear gx; obtain ⟨⟨p0, p1, p2, p3⟩, ⟨p4, p5, p6, p7⟩⟩ := id sw))
  exact bodyPost_ret (v := .float .f64 Z) (by simp [results, Tryz.results138, go_sem]) rfl ⟨rfl, kw⟩
set_option maxRecDepth 20000 in
set_option maxHeartbeats 1000000 in
theorem lsQ4_ (a b c d Z : Nat) (A1 B1 C1 D1 B2 D2 : Bool) (tA1 : (FloatKind.f64.format.order a 0 == some Ordering.lt) = A1) (tB1 : (FloatKind.f64.format.order b 0 == some Ordering.gt) = B1) (tC1 : (FloatKind.f64.format.order c 0 == some Ordering.lt) = C1) (tD1 : (FloatKind.f64.format.order d 0 == some Ordering.gt) = D1) (tB2 : (FloatKind.f64.format.order b 0 == some Ordering.lt || FloatKind.f64.format.order b 0 == some Ordering.eq) = B2) (tD2 : (FloatKind.f64.format.order d 0 == some Ordering.lt || FloatKind.f64.format.order d 0 == some Ordering.eq) = D2) (q : (A1 && B1 && C1 && D1) = false) (q2 : (A1 && D1) = false) (q3 : (B1 && C1) = false) (q4 : (B2 && D2) = true) (w : World) (PL : Nat → Nat → Nat → Prop) (hL : ∀ x y z, PL x y z → ∀ W : World, Kp w W → Calls Tryz.prog 104 #[.float .f64 x, .float .f64 y] W fun e w' => e = .returned (.float .f64 z) ∧ Kp W w') (f1 : PL b d Z) (f2 : True) : Calls Tryz.prog 138 #[.agg #[.float .f64 a, .float .f64 b], .agg #[.float .f64 c, .float .f64 d], .func (.func 104) #[] #[]] w fun e w' => e = .returned (.float .f64 Z) ∧ Kp w w' := by
  go_enter Tryz.func138, Tryz.ntmps138
  go_upto_region 2 with (first | (go_at_call 8; refine (Fq.inf1_ _).mono ?_; rintro e w1 ⟨rfl, g1⟩; have kw : Kp w w1 := (by rw [g1]; exact (((Kp.refl w).alloc _).alloc _)); have sw : H48 w1 w.heap.size (.float .f64 a) (.float .f64 b) (.float .f64 c) (.float .f64 d) := (by rw [g1]; exact H48.new w (.float .f64 a) (.float .f64 b) (.float .f64 c) (.float .f64 d) 25 25); clear g1; obtain ⟨⟨p0, p1, p2, p3⟩, ⟨p4, p5, p6, p7⟩⟩ := id sw))
  go_cut [9] (fun s9 wx => s9 = .bool false ∧ wx = w1)
  case first =>
    cases A1 <;> cases B1 <;> cases C1 <;> cases D1 <;> first | (exfalso; revert q; decide) | skip
    all_goals (
      go_wp2_with fail
      go_meet
      exact ⟨rfl, rfl⟩)
  case rest =>
  obtain ⟨rfl, hwc⟩ := hcut
  replace kw : Kp w wc := (by rw [hwc]; exact kw)
  replace sw := (show H48 wc w.heap.size (.float .f64 a) (.float .f64 b) (.float .f64 c) (.float .f64 d) by rw [hwc]; exact sw)
  clear hwc
  generalize wc = w1 at kw sw ⊢
  obtain ⟨⟨p0, p1, p2, p3⟩, ⟨p4, p5, p6, p7⟩⟩ := id sw
  go_upto_region 3 with (first | fail)
  go_cut [28] (fun s28 wx => s28 = .bool false ∧ wx = w1)
  case first =>
    cases A1 <;> cases D1 <;> first | (exfalso; revert q2; decide) | skip
    all_goals (
      go_wp2_with fail
      go_meet
      exact ⟨rfl, rfl⟩)
  case rest =>
  obtain ⟨rfl, hwc⟩ := hcut
  replace kw : Kp w wc := (by rw [hwc]; exact kw)
  replace sw := (show H48 wc w.heap.size (.float .f64 a) (.float .f64 b) (.float .f64 c) (.float .f64 d) by rw [hwc]; exact sw)
  clear hwc
  generalize wc = w1 at kw sw ⊢
  obtain ⟨⟨p0, p1, p2, p3⟩, ⟨p4, p5, p6, p7⟩⟩ := id sw
  go_upto_region 4 with (first | fail)
  go_cut [37] (fun s37 wx => s37 = .bool false ∧ wx = w1)
  case first =>
    cases B1 <;> cases C1 <;> first | (exfalso; revert q3; decide) | skip
    all_goals (
      go_wp2_with fail
      go_meet
      exact ⟨rfl, rfl⟩)
  case rest =>
  obtain ⟨rfl, hwc⟩ := hcut
  replace kw : Kp w wc := (by rw [hwc]; exact kw)
  replace sw := (show H48 wc w.heap.size (.float .f64 a) (.float .f64 b) (.float .f64 c) (.float .f64 d) by rw [hwc]; exact sw)
  clear hwc
  generalize wc = w1 at kw sw ⊢
  obtain ⟨⟨p0, p1, p2, p3⟩, ⟨p4, p5, p6, p7⟩⟩ := id sw
  go_upto_region 5 with (first | fail)
  go_cut [46] (fun s46 wx => s46 = .bool true ∧ wx = w1)
  case first =>
    cases B2 <;> cases D2 <;> first | (exfalso; revert q4; decide) | skip
    all_goals (
      go_wp2_with fail
      go_meet
      exact ⟨rfl, rfl⟩)
  case rest =>
  obtain ⟨rfl, hwc⟩ := hcut
  replace kw : Kp w wc := (by rw [hwc]; exact kw)
  replace sw := (show H48 wc w.heap.size (.float .f64 a) (.float .f64 b) (.float .f64 c) (.float .f64 d) by rw [hwc]; exact sw)
  clear hwc
  generalize wc = w1 at kw sw ⊢
  obtain ⟨⟨p0, p1, p2, p3⟩, ⟨p4, p5, p6, p7⟩⟩ := id sw
  go_wp2_with (first | (go_at_call 104; refine (hL _ _ _ (by with_reducible first | exact f1 | exact f2) _ kw).mono ?_; rintro e wx ⟨rfl, gx⟩; replace kw := Kp.trans kw gx; replace sw := H48.keep sw gx; clear gx; obtain ⟨⟨p0, p1, p2, p3⟩, ⟨p4, p5, p6, p7⟩⟩ := id sw))
  exact bodyPost_ret (v := .float .f64 Z) (by simp [results, Tryz.results138, go_sem]) rfl ⟨rfl, kw⟩
set_option maxRecDepth 20000 in
set_option maxHeartbeats 1000000 in
theorem lsQ5_ (a b c d Z : Nat) (A1 B1 C1 D1 B2 D2 : Bool) (tA1 : (FloatKind.f64.format.order a 0 == some Ordering.lt) = A1) (tB1 : (FloatKind.f64.format.order b 0 == some Ordering.gt) = B1) (tC1 : (FloatKind.f64.format.order c 0 == some Ordering.lt) = C1) (tD1 : (FloatKind.f64.format.order d 0 == some Ordering.gt) = D1) (tB2 : (FloatKind.f64.format.order b 0 == some Ordering.lt || FloatKind.f64.format.order b 0 == some Ordering.eq) = B2) (tD2 : (FloatKind.f64.format.order d 0 == some Ordering.lt || FloatKind.f64.format.order d 0 == some Ordering.eq) = D2) (q : (A1 && B1 && C1 && D1) = false) (q2 : (A1 && D1) = false) (q3 : (B1 && C1) = false) (q4 : (B2 && D2) = false) (w : World) (PL : Nat → Nat → Nat → Prop) (hL : ∀ x y z, PL x y z → ∀ W : World, Kp w W → Calls Tryz.prog 104 #[.float .f64 x, .float .f64 y] W fun e w' => e = .returned (.float .f64 z) ∧ Kp W w') (f1 : PL a c Z) (f2 : True) : Calls Tryz.prog 138 #[.agg #[.float .f64 a, .float .f64 b], .agg #[.float .f64 c, .float .f64 d], .func (.func 104) #[] #[]] w fun e w' => e = .returned (.float .f64 Z) ∧ Kp w w' := by
  go_enter Tryz.func138, Tryz.ntmps138
  go_upto_region 2 with (first | (go_at_call 8; refine (Fq.inf1_ _).mono ?_; rintro e w1 ⟨rfl, g1⟩; have kw : Kp w w1 := (by rw [g1]; exact (((Kp.refl w).alloc _).alloc _)); have sw : H48 w1 w.heap.size (.float .f64 a) (.float .f64 b) (.float .f64 c) (.float .f64 d) := (by rw [g1]; exact H48.new w (.float .f64 a) (.float .f64 b) (.float .f64 c) (.float .f64 d) 25 25); clear g1; obtain ⟨⟨p0, p1, p2, p3⟩, ⟨p4, p5, p6, p7⟩⟩ := id sw))
  go_cut [9] (fun s9 wx => s9 = .bool false ∧ wx = w1)
  case first =>
    cases A1 <;> cases B1 <;> cases C1 <;> cases D1 <;> first | (exfalso; revert q; decide) | skip
    all_goals (
      go_wp2_with fail
      go_meet
      exact ⟨rfl, rfl⟩)
  case rest =>
  obtain ⟨rfl, hwc⟩ := hcut
  replace kw : Kp w wc := (by rw [hwc]; exact kw)
  replace sw := (show H48 wc w.heap.size (.float .f64 a) (.float .f64 b) (.float .f64 c) (.float .f64 d) by rw [hwc]; exact sw)
  clear hwc
  generalize wc = w1 at kw sw ⊢
  obtain ⟨⟨p0, p1, p2, p3⟩, ⟨p4, p5, p6, p7⟩⟩ := id sw
  go_upto_region 3 with (first | fail)
  go_cut [28] (fun s28 wx => s28 = .bool false ∧ wx = w1)
  case first =>
    cases A1 <;> cases D1 <;> first | (exfalso; revert q2; decide) | skip
    all_goals (
      go_wp2_with fail
      go_meet
      exact ⟨rfl, rfl⟩)
  case rest =>
  obtain ⟨rfl, hwc⟩ := hcut
  replace kw : Kp w wc := (by rw [hwc]; exact kw)
  replace sw := (show H48 wc w.heap.size (.float .f64 a) (.float .f64 b) (.float .f64 c) (.float .f64 d) by rw [hwc]; exact sw)
  clear hwc
  generalize wc = w1 at kw sw ⊢
  obtain ⟨⟨p0, p1, p2, p3⟩, ⟨p4, p5, p6, p7⟩⟩ := id sw
  go_upto_region 4 with (first | fail)
  go_cut [37] (fun s37 wx => s37 = .bool false ∧ wx = w1)
  case first =>
    cases B1 <;> cases C1 <;> first | (exfalso; revert q3; decide) | skip
    all_goals (
      go_wp2_with fail
      go_meet
      exact ⟨rfl, rfl⟩)
  case rest =>
  obtain ⟨rfl, hwc⟩ := hcut
  replace kw : Kp w wc := (by rw [hwc]; exact kw)
  replace sw := (show H48 wc w.heap.size (.float .f64 a) (.float .f64 b) (.float .f64 c) (.float .f64 d) by rw [hwc]; exact sw)
  clear hwc
  generalize wc = w1 at kw sw ⊢
  obtain ⟨⟨p0, p1, p2, p3⟩, ⟨p4, p5, p6, p7⟩⟩ := id sw
  go_upto_region 5 with (first | fail)
  go_cut [46] (fun s46 wx => s46 = .bool false ∧ wx = w1)
  case first =>
    cases B2 <;> cases D2 <;> first | (exfalso; revert q4; decide) | skip
    all_goals (
      go_wp2_with fail
      go_meet
      exact ⟨rfl, rfl⟩)
  case rest =>
  obtain ⟨rfl, hwc⟩ := hcut
  replace kw : Kp w wc := (by rw [hwc]; exact kw)
  replace sw := (show H48 wc w.heap.size (.float .f64 a) (.float .f64 b) (.float .f64 c) (.float .f64 d) by rw [hwc]; exact sw)
  clear hwc
  generalize wc = w1 at kw sw ⊢
  obtain ⟨⟨p0, p1, p2, p3⟩, ⟨p4, p5, p6, p7⟩⟩ := id sw
  go_wp2_with (first | (go_at_call 104; refine (hL _ _ _ (by with_reducible first | exact f1 | exact f2) _ kw).mono ?_; rintro e wx ⟨rfl, gx⟩; replace kw := Kp.trans kw gx; replace sw := H48.keep sw gx; clear gx; obtain ⟨⟨p0, p1, p2, p3⟩, ⟨p4, p5, p6, p7⟩⟩ := id sw))
  exact bodyPost_ret (v := .float .f64 Z) (by simp [results, Tryz.results138, go_sem]) rfl ⟨rfl, kw⟩
end Go.Proofs.YthdnajcgdngmcaaGreatDoor
namespace Go.Proofs.YthdnajcgdngmcaaGreatDoor
open Go.RowKit
theorem lsQ9_ (g : Int → Int → Int) (L1 H1 L2 H2 : Int) (b1 : BdZ L1) (b2 : BdZ H1) (b3 : BdZ L2) (b4 : BdZ H2) (w : World) (h1 : 0 < H1 → L2 < 0 → ∀ W : World, Kp w W → Calls Tryz.prog 104 #[.float .f64 (pw H1), .float .f64 (pw L2)] W fun e w' => e = .returned (.float .f64 (pw (g H1 L2))) ∧ Kp W w') (h2 : L1 < 0 → 0 < H2 → ∀ W : World, Kp w W → Calls Tryz.prog 104 #[.float .f64 (pw L1), .float .f64 (pw H2)] W fun e w' => e = .returned (.float .f64 (pw (g L1 H2))) ∧ Kp W w') (h3 : H1 ≤ 0 → H2 ≤ 0 → ¬ (L1 < 0 ∧ 0 < H2) → ∀ W : World, Kp w W → Calls Tryz.prog 104 #[.float .f64 (pw H1), .float .f64 (pw H2)] W fun e w' => e = .returned (.float .f64 (pw (g H1 H2))) ∧ Kp W w') (h4 : ¬ (L1 < 0 ∧ 0 < H2) → ¬ (0 < H1 ∧ L2 < 0) → ¬ (H1 ≤ 0 ∧ H2 ≤ 0) → ∀ W : World, Kp w W → Calls Tryz.prog 104 #[.float .f64 (pw L1), .float .f64 (pw L2)] W fun e w' => e = .returned (.float .f64 (pw (g L1 L2))) ∧ Kp W w') (hg1 : BdZ (g H1 L2)) (hg2 : BdZ (g L1 H2)) : Calls Tryz.prog 138 #[.agg #[.float .f64 (pw L1), .float .f64 (pw H1)], .agg #[.float .f64 (pw L2), .float .f64 (pw H2)], .func (.func 104) #[] #[]] w fun e w' => e = .returned (.float .f64 (pw (lst g L1 H1 L2 H2))) ∧ Kp w w' := by
  unfold lst
  by_cases c1 : L1 < 0 ∧ 0 < H1 ∧ L2 < 0 ∧ 0 < H2
  · rw [if_pos c1]
    exact lsQ1_ _ _ _ _ _ _ _ _ _ _ _ (lt0_pw L1 b1) (gt0_pw H1 b2) (lt0_pw L2 b3) (gt0_pw H2 b4) (by simp [c1]) w (fun x y z => ∀ W : World, Kp w W → Calls Tryz.prog 104 #[.float .f64 x, .float .f64 y] W fun e w' => e = .returned (.float .f64 z) ∧ Kp W w') (fun _ _ _ h => h) (h1 c1.2.1 c1.2.2.1) (h2 c1.1 c1.2.2.2) (min9_ _ _ hg1 hg2)
  rw [if_neg c1]
  have q1 : (decide (L1 < 0) && decide (0 < H1) && decide (L2 < 0) && decide (0 < H2)) = false := by
    by_cases e1 : L1 < 0 <;> by_cases e2 : 0 < H1 <;> by_cases e3 : L2 < 0 <;> by_cases e4 : 0 < H2 <;> simp [e1, e2, e3, e4] <;> omega
  by_cases c2 : L1 < 0 ∧ 0 < H2
  · rw [if_pos c2]
    have hm := min9_ 9218868437227405312 (g L1 H2) (by unfold BdZ; omega) hg2
    rw [pw_I, show min 9218868437227405312 (g L1 H2) = g L1 H2 from by unfold BdZ at hg2; omega] at hm
    exact lsQ2_ _ _ _ _ _ _ _ _ _ _ (lt0_pw L1 b1) (gt0_pw H1 b2) (lt0_pw L2 b3) (gt0_pw H2 b4) q1 (by simp [c2]) w (fun x y z => ∀ W : World, Kp w W → Calls Tryz.prog 104 #[.float .f64 x, .float .f64 y] W fun e w' => e = .returned (.float .f64 z) ∧ Kp W w') (fun _ _ _ h => h) (h2 c2.1 c2.2) trivial hm
  rw [if_neg c2]
  have q2 : (decide (L1 < 0) && decide (0 < H2)) = false := by
    by_cases e1 : L1 < 0 <;> by_cases e4 : 0 < H2 <;> simp [e1, e4] <;> omega
  by_cases c3 : 0 < H1 ∧ L2 < 0
  · rw [if_pos c3]
    exact lsQ3_ _ _ _ _ _ _ _ _ _ (lt0_pw L1 b1) (gt0_pw H1 b2) (lt0_pw L2 b3) (gt0_pw H2 b4) q1 q2 (by simp [c3]) w (fun x y z => ∀ W : World, Kp w W → Calls Tryz.prog 104 #[.float .f64 x, .float .f64 y] W fun e w' => e = .returned (.float .f64 z) ∧ Kp W w') (fun _ _ _ h => h) (h1 c3.1 c3.2) trivial
  rw [if_neg c3]
  have q3 : (decide (0 < H1) && decide (L2 < 0)) = false := by
    by_cases e1 : 0 < H1 <;> by_cases e4 : L2 < 0 <;> simp [e1, e4] <;> omega
  by_cases c4 : H1 ≤ 0 ∧ H2 ≤ 0
  · rw [if_pos c4]
    exact lsQ4_ _ _ _ _ _ _ _ _ _ _ _ (lt0_pw L1 b1) (gt0_pw H1 b2) (lt0_pw L2 b3) (gt0_pw H2 b4) (le0_pw H1 b2) (le0_pw H2 b4) q1 q2 q3 (by simp [c4]) w (fun x y z => ∀ W : World, Kp w W → Calls Tryz.prog 104 #[.float .f64 x, .float .f64 y] W fun e w' => e = .returned (.float .f64 z) ∧ Kp W w') (fun _ _ _ h => h) (h3 c4.1 c4.2 c2) trivial
  rw [if_neg c4]
  have q4 : (decide (H1 ≤ 0) && decide (H2 ≤ 0)) = false := by
    by_cases e1 : H1 ≤ 0 <;> by_cases e4 : H2 ≤ 0 <;> simp [e1, e4] <;> omega
  exact lsQ5_ _ _ _ _ _ _ _ _ _ _ _ (lt0_pw L1 b1) (gt0_pw H1 b2) (lt0_pw L2 b3) (gt0_pw H2 b4) (le0_pw H1 b2) (le0_pw H2 b4) q1 q2 q3 q4 w (fun x y z => ∀ W : World, Kp w W → Calls Tryz.prog 104 #[.float .f64 x, .float .f64 y] W fun e w' => e = .returned (.float .f64 z) ∧ Kp W w') (fun _ _ _ h => h) (h4 c2 c3 c4) trivial
end Go.Proofs.YthdnajcgdngmcaaGreatDoor
namespace Go.Proofs.YthdnajcgdngmcaaGreatDoor
open Go.RowKit
set_option linter.unusedVariables false
def bLo (K : Nat) (L1 H1 L2 H2 : Int) : Int := if L2 = 0 ∧ H2 = 0 then 9218868437227405312 else if L1 = 0 ∧ H1 = 0 then 0 else if L2 < 0 ∧ 0 < H2 then -9218868437227405312 else if L1 < 0 ∧ 0 < H1 then -9218868437227405312 else if L2 = 0 ∧ 0 ≤ L1 then diZ K (-1) L1 H2 else if L2 = 0 then -9218868437227405312 else if 0 ≤ L1 then -9218868437227405312 else diZ K (-1) H1 L2
def bHi (K : Nat) (L1 H1 L2 H2 : Int) : Int := if L2 = 0 ∧ H2 = 0 then -9218868437227405312 else if L1 = 0 ∧ H1 = 0 then 0 else if L2 < 0 ∧ 0 < H2 then 9218868437227405312 else if L1 < 0 ∧ 0 < H1 then 9218868437227405312 else if L2 = 0 ∧ 0 ≤ L1 then 9218868437227405312 else if L2 = 0 then diZ K 1 H1 H2 else if 0 ≤ L1 then diZ K 1 L1 L2 else 9218868437227405312
def dLo (K : Nat) (L1 H1 L2 H2 : Int) : Int := if L1 = 9218868437227405312 ∨ L2 = 9218868437227405312 then 9218868437227405312 else if L2 ≤ 0 ∧ 0 ≤ H2 then bLo K L1 H1 L2 H2 else lst (diZ K (-1)) L1 H1 H2 L2
def dHi (K : Nat) (L1 H1 L2 H2 : Int) : Int := if L1 = 9218868437227405312 ∨ L2 = 9218868437227405312 then -9218868437227405312 else if L2 ≤ 0 ∧ 0 ≤ H2 then bHi K L1 H1 L2 H2 else -(lst (diZ K (-1)) (-H1) (-L1) H2 L2)
theorem and2 (p q : Prop) [Decidable p] [Decidable q] (h : p ∧ q) : (decide p && decide q) = true := by simp [h]
theorem nand2 (p q : Prop) [Decidable p] [Decidable q] (h : ¬ (p ∧ q)) : (decide p && decide q) = false := by
  by_cases a : p <;> by_cases b : q <;> simp [a, b]
  exact h ⟨a, b⟩
theorem entire9_ (w : World) : Calls Tryz.prog 43 #[] w fun e w' => e = .returned (.agg #[.float .f64 18442240474082181120, .float .f64 9218868437227405312]) ∧ Kp w w' := by
  refine (Fq.entire6_ w).mono ?_
  exact fun e w' h => ⟨h.1, by first | exact h.2 | (rw [h.2]; exact (Kp.refl _).alloc _)⟩
theorem byN9_ (K : Nat) (hK : K = 1074) (L1 H1 L2 H2 : Int) (d1 : VdZ L1 H1) (d2 : VdZ L2 H2) (n1 : L1 ≠ 9218868437227405312) (n2 : L2 ≠ 9218868437227405312) (hz : L2 ≤ 0 ∧ 0 ≤ H2) (w : World) (hT : TT w) : Calls Tryz.prog 102 #[.agg #[.float .f64 (pw L1), .float .f64 (pw H1)], .agg #[.float .f64 (pw L2), .float .f64 (pw H2)]] w fun e w' => e = .returned (.agg #[.float .f64 (pw (bLo K L1 H1 L2 H2)), .float .f64 (pw (bHi K L1 H1 L2 H2))]) ∧ Kp w w' := by
  have b1 := d1.lo; have b2 := d1.hi; have b3 := d2.lo; have b4 := d2.hi
  unfold VdZ at d1 d2
  unfold bLo bHi
  have tC0 := eq0_pw L2 b3
  have tD0 := eq0_pw H2 b4
  have tA0 := eq0_pw L1 b1
  have tB0 := eq0_pw H1 b2
  have tCl := lt0_pw L2 b3
  have tDg := gt0_pw H2 b4
  have tAl := lt0_pw L1 b1
  have tBg := gt0_pw H1 b2
  have tAg := ge0_pw L1 b1
  by_cases c0 : L2 = 0 ∧ H2 = 0
  · rw [if_pos c0, if_pos c0, pw_I, pw_MI]
    exact byN1_ _ _ _ _ _ _ tC0 tD0 (and2 _ _ c0) w empty9_
  rw [if_neg c0, if_neg c0]
  by_cases c1 : L1 = 0 ∧ H1 = 0
  · rw [if_pos c1, if_pos c1]
    have h := byN2_ (pw L1) (pw H1) (pw L2) (pw H2) _ _ _ _ tC0 tD0 tA0 tB0 (nand2 _ _ c0) (and2 _ _ c1) w
    rw [c1.1, c1.2] at h ⊢
    exact h
  rw [if_neg c1, if_neg c1]
  by_cases c2 : L2 < 0 ∧ 0 < H2
  · rw [if_pos c2, if_pos c2, pw_I, pw_MI]
    exact byN3_ _ _ _ _ _ _ _ _ _ _ tC0 tD0 tA0 tB0 tCl tDg (nand2 _ _ c0) (nand2 _ _ c1) (and2 _ _ c2) w entire9_
  rw [if_neg c2, if_neg c2]
  by_cases c3 : L1 < 0 ∧ 0 < H1
  · rw [if_pos c3, if_pos c3, pw_I, pw_MI]
    exact byN4_ _ _ _ _ _ _ _ _ _ _ _ _ tC0 tD0 tA0 tB0 tCl tDg tAl tBg (nand2 _ _ c0) (nand2 _ _ c1) (nand2 _ _ c2) (and2 _ _ c3) w entire9_
  rw [if_neg c3, if_neg c3]
  by_cases c4 : L2 = 0 ∧ 0 ≤ L1
  · rw [if_pos c4, if_pos c4, pw_I]
    exact byN5_ _ _ _ _ _ _ _ _ _ _ _ _ _ _ tC0 tD0 tA0 tB0 tCl tDg tAl tBg tAg (nand2 _ _ c0) (nand2 _ _ c1) (nand2 _ _ c2) (nand2 _ _ c3) (and2 _ _ c4) w (fun W k => divP_ K hK (-1) L1 H2 (by omega) (by omega) b1 b4 (by omega) (by omega) W (hT.kp k))
  rw [if_neg c4, if_neg c4]
  by_cases c5 : L2 = 0
  · rw [if_pos c5, if_pos c5, pw_MI]
    exact byN6_ _ _ _ _ _ _ _ _ _ _ _ _ _ _ tC0 tD0 tA0 tB0 tCl tDg tAl tBg tAg (nand2 _ _ c0) (nand2 _ _ c1) (nand2 _ _ c2) (nand2 _ _ c3) (nand2 _ _ c4) (decide_eq_true c5) w (fun W k => divP_ K hK 1 H1 H2 (by omega) (by omega) b2 b4 (by omega) (by omega) W (hT.kp k))
  rw [if_neg c5, if_neg c5]
  by_cases c6 : 0 ≤ L1
  · rw [if_pos c6, if_pos c6, pw_MI]
    exact byN7_ _ _ _ _ _ _ _ _ _ _ _ _ _ _ tC0 tD0 tA0 tB0 tCl tDg tAl tBg tAg (nand2 _ _ c0) (nand2 _ _ c1) (nand2 _ _ c2) (nand2 _ _ c3) (nand2 _ _ c4) (decide_eq_false c5) (decide_eq_true c6) w (fun W k => divP_ K hK 1 L1 L2 (by omega) (by omega) b1 b3 (by omega) (by omega) W (hT.kp k))
  rw [if_neg c6, if_neg c6, pw_I]
  exact byN8_ _ _ _ _ _ _ _ _ _ _ _ _ _ _ tC0 tD0 tA0 tB0 tCl tDg tAl tBg tAg (nand2 _ _ c0) (nand2 _ _ c1) (nand2 _ _ c2) (nand2 _ _ c3) (nand2 _ _ c4) (decide_eq_false c5) (decide_eq_false c6) w (fun W k => divP_ K hK (-1) H1 L2 (by omega) (by omega) b2 b3 (by omega) (by omega) W (hT.kp k))
theorem div9_ (K : Nat) (hK : K = 1074) (a b c d : Nat) (L1 H1 L2 H2 : Int) (hx : Rd a b L1 H1) (hy : Rd c d L2 H2) (w : World) (hT : TT w) : Calls Tryz.prog 66 #[.agg #[.float .f64 a, .float .f64 b], .agg #[.float .f64 c, .float .f64 d]] w fun e w' => e = .returned (.agg #[.float .f64 (pw (dLo K L1 H1 L2 H2)), .float .f64 (pw (dHi K L1 H1 L2 H2))]) ∧ Kp w w' := by
  have v1 := void9_ L1 H1 hx.vd
  have v2 := void9_ L2 H2 hy.vd
  unfold dLo dHi
  by_cases c1 : L1 = 9218868437227405312
  · rw [if_pos (Or.inl c1), if_pos (Or.inl c1), pw_I, pw_MI]
    rw [decide_eq_true c1] at v1
    exact div6v1_ a b c d _ _ _ _ hx.call hy.call v1 empty9_ w
  rw [decide_eq_false c1] at v1
  by_cases c2 : L2 = 9218868437227405312
  · rw [if_pos (Or.inr c2), if_pos (Or.inr c2), pw_I, pw_MI]
    rw [decide_eq_true c2] at v2
    exact div6v2_ a b c d _ _ _ _ hx.call hy.call v1 v2 empty9_ w
  rw [decide_eq_false c2] at v2
  have cE : ¬ (L1 = 9218868437227405312 ∨ L2 = 9218868437227405312) := by omega
  rw [if_neg cE, if_neg cE]
  have b1 := hx.vd.lo; have b2 := hx.vd.hi; have b3 := hy.vd.lo; have b4 := hy.vd.hi
  have hh := holdsN_ (pw L2) (pw H2) _ _ (le0_pw L2 b3) (ge0_pw H2 b4)
  by_cases c3 : L2 ≤ 0 ∧ 0 ≤ H2
  · rw [if_pos c3, if_pos c3]
    rw [and2 _ _ c3] at hh
    exact div6b_ a b c d _ _ _ _ hx.call hy.call v1 v2 hh _ _ w (fun W k => byN9_ K hK L1 H1 L2 H2 hx.vd hy.vd c1 c2 c3 W (hT.kp k))
  rw [if_neg c3, if_neg c3]
  rw [nand2 _ _ c3] at hh
  have d1 := hx.vd
  have d2 := hy.vd
  unfold VdZ at d1 d2
  have gb : ∀ x y, BdZ (diZ K (-1) x y) := diZ_bd K (-1)
  have lo : ∀ (x y : Int), BdZ x → BdZ y → y ≠ 0 → ¬ ((x = 9218868437227405312 ∨ x = -9218868437227405312) ∧ (y = 9218868437227405312 ∨ y = -9218868437227405312)) → ∀ W0 : World, TT W0 → ∀ W : World, Kp W0 W → Calls Tryz.prog 104 #[.float .f64 (pw x), .float .f64 (pw y)] W fun e w' => e = .returned (.float .f64 (pw (diZ K (-1) x y))) ∧ Kp W w' := fun x y g1 g2 zy hb W0 t W k => quoP_ K hK x y g1 g2 zy hb W (t.kp k)
  refine div6n_ a b c d _ _ _ _ hx.call hy.call v1 v2 hh _ _ w (fun W k => ?_)
  have hT := hT.kp k
  exact spreadA_ _ _ _ _ _ _ _ _ _ _ W (fun W' k' => lsQ9_ (diZ K (-1)) L1 H1 H2 L2 b1 b2 b4 b3 W' (fun _ _ => lo _ _ b2 b4 (by omega) (by omega) W' (hT.kp k')) (fun _ _ => lo _ _ b1 b3 (by omega) (by omega) W' (hT.kp k')) (fun _ _ _ => lo _ _ b2 b3 (by omega) (by omega) W' (hT.kp k')) (fun _ _ _ => lo _ _ b1 b4 (by omega) (by omega) W' (hT.kp k')) (gb _ _) (gb _ _)) (neg9_ _ _ _ _ (Rd.of hx.vd)) (fun W' k' => lsQ9_ (diZ K (-1)) (-H1) (-L1) H2 L2 (bd_neg _ b2) (bd_neg _ b1) b4 b3 W' (fun _ _ => lo _ _ (bd_neg _ b1) b4 (by omega) (by omega) W' (hT.kp k')) (fun _ _ => lo _ _ (bd_neg _ b2) b3 (by omega) (by omega) W' (hT.kp k')) (fun _ _ _ => lo _ _ (bd_neg _ b1) b3 (by omega) (by omega) W' (hT.kp k')) (fun _ _ _ => lo _ _ (bd_neg _ b2) b4 (by omega) (by omega) W' (hT.kp k')) (gb _ _) (gb _ _)) (minus9_ _ (lst_bd _ gb _ _ _ _))
theorem pw_of (x : Nat) (h : x ≤ 9218868437227405312) : pw (x : Int) = x := by
  unfold pw
  rw [show decide ((x : Int) < 0) = false from decide_eq_false (by omega), show ((x : Int)).natAbs = x from by omega]; rfl
theorem Rd.num (x y : Nat) (hx : x < 9218868437227405312) (hy : y ≤ 9218868437227405312) (h : x ≤ y) : Rd x y x y := by
  have g : VdZ (x : Int) (y : Int) := Or.inr (by omega)
  have r := Rd.of g
  rw [pw_of x (by omega), pw_of y hy] at r
  exact r
theorem recip9_ (K : Nat) (hK : K = 1074) (a b : Nat) (L H : Int) (hx : Rd a b L H) (w : World) (hT : TT w) : Calls Tryz.prog 29 #[.agg #[.float .f64 a, .float .f64 b]] w fun e w' => e = .returned (.agg #[.float .f64 (pw (dLo K 4607182418800017408 4607182418800017408 L H)), .float .f64 (pw (dHi K 4607182418800017408 4607182418800017408 L H))]) ∧ Kp w w' :=
  recip6_ a b _ _ w (fun W k => div9_ K hK 4607182418800017408 4607182418800017408 a b ((4607182418800017408 : Nat) : Int) ((4607182418800017408 : Nat) : Int) L H (Rd.num 4607182418800017408 4607182418800017408 (by decide) (by decide) (by decide)) hx W (hT.kp k))
end Go.Proofs.YthdnajcgdngmcaaGreatDoor
namespace Go.Proofs.YthdnajcgdngmcaaGreatDoor
open Go.RowKit
set_option linter.unusedVariables false
set_option maxRecDepth 20000 in
set_option maxHeartbeats 1000000 in
theorem magnT_ (X Y M R LO HI : Nat) (ha1 : ∀ w : World, Calls Tryz.prog 92 #[.float .f64 X] w fun e w' => e = .returned (.float .f64 M) ∧ w' = w) (ha2 : ∀ w : World, Calls Tryz.prog 92 #[.float .f64 Y] w fun e w' => e = .returned (.float .f64 R) ∧ w' = w) (hm1 : ∀ (ts : Array TypeId) (t : TypeId) (w : World), (Builtin.max_ ts t #[.float .f64 M, .float .f64 R]).run Tryz.prog w = .ok (.float .f64 HI) w) (hm2 : ∀ (ts : Array TypeId) (t : TypeId) (w : World), (Builtin.min_ ts t #[.float .f64 M, .float .f64 R]).run Tryz.prog w = .ok (.float .f64 LO) w) (hh : ∀ w : World, Calls Tryz.prog 93 #[.agg #[.float .f64 X, .float .f64 Y]] w fun e w' => e = .returned (.bool true) ∧ Kp w w') (w : World) : Calls Tryz.prog 64 #[.agg #[.float .f64 X, .float .f64 Y]] w fun e w' => e = .returned (.tuple #[.float .f64 0, .float .f64 HI]) ∧ Kp w w' := by
  go_enter Tryz.func64, Tryz.ntmps64
  go_wp2
  refine Fq.wp_region_grow (by kernel_rfl) (by kernel_rfl) (fun ι _ G hG hall => ?_)
  have cc0 : ∀ n, (G n).cell? ⟨w.heap.size, 0, none⟩ = some (.float .f64 X) := fun n => Fq.gkeep (hG n) (by simp [go_sem])
  have cc1 : ∀ n, (G n).cell? ⟨w.heap.size, 1, none⟩ = some (.float .f64 Y) := fun n => Fq.gkeep (hG n) (by simp [go_sem])
  repeat (go_big_quiet_step (first | (go_at_call_of 92 (Value.float .f64 X); exact (ha1 _).mono (fun e w' h => ⟨h.1, hall _ (by rw [h.2]; exact hG _)⟩)) | (go_at_call_of 92 (Value.float .f64 Y); exact (ha2 _).mono (fun e w' h => ⟨h.1, hall _ (by rw [h.2]; exact hG _)⟩))))
  refine wpQuiet_nil ?_
  rintro _ ⟨nq, rfl⟩
  have gq : Kp _ (G nq) := hG nq
  have y0 := cc0 nq
  have y1 := cc1 nq
  clear cc0 cc1 hall hG
  have kG : Kp w (G nq) := Kp.trans ((Kp.refl w).alloc _) gq
  clear gq
  generalize G nq = W at y0 y1 kG ⊢
  go_wp2_with (first | (go_at_call 93; refine (hh _).mono ?_; rintro e w2 ⟨rfl, g2⟩; have k2 : Kp w w2 := Kp.trans kG g2))
  exact bodyPost_ret (v := .tuple #[.float .f64 0, .float .f64 HI]) (by simp [results, Tryz.results64, go_sem]) rfl ⟨rfl, k2⟩
set_option maxRecDepth 20000 in
set_option maxHeartbeats 1000000 in
theorem magnF_ (X Y M R LO HI : Nat) (ha1 : ∀ w : World, Calls Tryz.prog 92 #[.float .f64 X] w fun e w' => e = .returned (.float .f64 M) ∧ w' = w) (ha2 : ∀ w : World, Calls Tryz.prog 92 #[.float .f64 Y] w fun e w' => e = .returned (.float .f64 R) ∧ w' = w) (hm1 : ∀ (ts : Array TypeId) (t : TypeId) (w : World), (Builtin.max_ ts t #[.float .f64 M, .float .f64 R]).run Tryz.prog w = .ok (.float .f64 HI) w) (hm2 : ∀ (ts : Array TypeId) (t : TypeId) (w : World), (Builtin.min_ ts t #[.float .f64 M, .float .f64 R]).run Tryz.prog w = .ok (.float .f64 LO) w) (hh : ∀ w : World, Calls Tryz.prog 93 #[.agg #[.float .f64 X, .float .f64 Y]] w fun e w' => e = .returned (.bool false) ∧ Kp w w') (w : World) : Calls Tryz.prog 64 #[.agg #[.float .f64 X, .float .f64 Y]] w fun e w' => e = .returned (.tuple #[.float .f64 LO, .float .f64 HI]) ∧ Kp w w' := by
  go_enter Tryz.func64, Tryz.ntmps64
  go_wp2
  refine Fq.wp_region_grow (by kernel_rfl) (by kernel_rfl) (fun ι _ G hG hall => ?_)
  have cc0 : ∀ n, (G n).cell? ⟨w.heap.size, 0, none⟩ = some (.float .f64 X) := fun n => Fq.gkeep (hG n) (by simp [go_sem])
  have cc1 : ∀ n, (G n).cell? ⟨w.heap.size, 1, none⟩ = some (.float .f64 Y) := fun n => Fq.gkeep (hG n) (by simp [go_sem])
  repeat (go_big_quiet_step (first | (go_at_call_of 92 (Value.float .f64 X); exact (ha1 _).mono (fun e w' h => ⟨h.1, hall _ (by rw [h.2]; exact hG _)⟩)) | (go_at_call_of 92 (Value.float .f64 Y); exact (ha2 _).mono (fun e w' h => ⟨h.1, hall _ (by rw [h.2]; exact hG _)⟩))))
  refine wpQuiet_nil ?_
  rintro _ ⟨nq, rfl⟩
  have gq : Kp _ (G nq) := hG nq
  have y0 := cc0 nq
  have y1 := cc1 nq
  clear cc0 cc1 hall hG
  have kG : Kp w (G nq) := Kp.trans ((Kp.refl w).alloc _) gq
  clear gq
  generalize G nq = W at y0 y1 kG ⊢
  go_wp2_with (first | (go_at_call 93; refine (hh _).mono ?_; rintro e w2 ⟨rfl, g2⟩; have k2 : Kp w w2 := Kp.trans kG g2))
  exact bodyPost_ret (v := .tuple #[.float .f64 LO, .float .f64 HI]) (by simp [results, Tryz.results64, go_sem]) rfl ⟨rfl, k2⟩
set_option maxRecDepth 20000 in
set_option maxHeartbeats 1000000 in
theorem sqrV_ (a b LO HI : Nat) (hr : ∀ w : World, Calls Tryz.prog 41 #[.agg #[.float .f64 a, .float .f64 b]] w fun e w' => e = .returned (.agg #[.float .f64 LO, .float .f64 HI]) ∧ Kp w w') (hv : ∀ w : World, Calls Tryz.prog 63 #[.agg #[.float .f64 LO, .float .f64 HI]] w fun e w' => e = .returned (.bool true) ∧ Kp w w') (hE : ∀ w : World, Calls Tryz.prog 51 #[] w fun e w' => e = .returned (.agg #[.float .f64 9218868437227405312, .float .f64 18442240474082181120]) ∧ Kp w w') (w : World) : Calls Tryz.prog 28 #[.agg #[.float .f64 a, .float .f64 b]] w fun e w' => e = .returned (.agg #[.float .f64 9218868437227405312, .float .f64 18442240474082181120]) ∧ Kp w w' := by
  go_enter Tryz.func28, Tryz.ntmps28
  go_wp2_with (first | (go_at_call 41; refine (hr _).mono ?_; rintro e w1 ⟨rfl, g1⟩; have q0 := Fq.H2.keep (Fq.H2.past (Fq.H2.new w (.float .f64 a) (.float .f64 b) 25) #[.float .f64 0, .float .f64 0] 25) g1; have q1 : Fq.H2 w1 (w.heap.size + 1) (.float .f64 0) (.float .f64 0) := Fq.H2.keep (Fq.H2.two0 w (.float .f64 a) (.float .f64 b) (.float .f64 0) (.float .f64 0) 25 25) g1; have kw : Kp w w1 := Kp.trans (((Kp.refl w).alloc _).alloc _) g1; obtain ⟨x0, x1, x2, x3⟩ := id q0; obtain ⟨y0, y1, y2, y3⟩ := id q1) | (go_at_call 63; refine (hv _).mono ?_; rintro e w2 ⟨rfl, g2⟩; have qx := Fq.H2.keep (Fq.H2.put q0 (.float .f64 LO) (.float .f64 HI)) g2; have qy := Fq.H2.keep (Fq.H2.far q1 (show w.heap.size ≠ w.heap.size + 1 by omega) (.float .f64 LO) (.float .f64 HI)) g2; have kv : Kp w w2 := Kp.trans ((kw.setCell (Nat.le_refl _) _).setCell (Nat.le_refl _) _) g2; obtain ⟨u0, u1, u2, u3⟩ := id qx; obtain ⟨v0, v1, v2, v3⟩ := id qy) | (go_at_call 51; refine (hE _).mono ?_; rintro e w3 ⟨rfl, g3⟩; have ke := Kp.trans kv g3; obtain ⟨e0, e1, e2, e3⟩ := Fq.H2.keep qy g3))
  exact bodyPost_ret (v := .agg #[.float .f64 9218868437227405312, .float .f64 18442240474082181120]) (by simp [results, Tryz.results28, go_sem, e0, e1]) rfl ⟨rfl, (ke.setCell (by simp) _).setCell (by simp) _⟩
set_option maxRecDepth 20000 in
set_option maxHeartbeats 1000000 in
theorem sqrS_ (a b LO HI : Nat) (hr : ∀ w : World, Calls Tryz.prog 41 #[.agg #[.float .f64 a, .float .f64 b]] w fun e w' => e = .returned (.agg #[.float .f64 LO, .float .f64 HI]) ∧ Kp w w') (hv : ∀ w : World, Calls Tryz.prog 63 #[.agg #[.float .f64 LO, .float .f64 HI]] w fun e w' => e = .returned (.bool false) ∧ Kp w w') (ML MH NL NH : Nat) (hmg : ∀ w : World, Calls Tryz.prog 64 #[.agg #[.float .f64 LO, .float .f64 HI]] w fun e w' => e = .returned (.tuple #[.float .f64 ML, .float .f64 MH]) ∧ Kp w w') (w : World) (hA1 : ∀ W : World, Kp w W → Calls Tryz.prog 65 #[.int .i64 (-1), .float .f64 ML, .float .f64 ML] W fun e w' => e = .returned (.float .f64 NL) ∧ Kp W w') (hA2 : ∀ W : World, Kp w W → Calls Tryz.prog 65 #[.int .i64 1, .float .f64 MH, .float .f64 MH] W fun e w' => e = .returned (.float .f64 NH) ∧ Kp W w') : Calls Tryz.prog 28 #[.agg #[.float .f64 a, .float .f64 b]] w fun e w' => e = .returned (.agg #[.float .f64 NL, .float .f64 NH]) ∧ Kp w w' := by
  go_enter Tryz.func28, Tryz.ntmps28
  go_wp2_with (first | (go_at_call 41; refine (hr _).mono ?_; rintro e w1 ⟨rfl, g1⟩; have q0 := Fq.H2.keep (Fq.H2.past (Fq.H2.new w (.float .f64 a) (.float .f64 b) 25) #[.float .f64 0, .float .f64 0] 25) g1; have q1 : Fq.H2 w1 (w.heap.size + 1) (.float .f64 0) (.float .f64 0) := Fq.H2.keep (Fq.H2.two0 w (.float .f64 a) (.float .f64 b) (.float .f64 0) (.float .f64 0) 25 25) g1; have kw : Kp w w1 := Kp.trans (((Kp.refl w).alloc _).alloc _) g1; obtain ⟨x0, x1, x2, x3⟩ := id q0; obtain ⟨y0, y1, y2, y3⟩ := id q1) | (go_at_call 63; refine (hv _).mono ?_; rintro e w2 ⟨rfl, g2⟩; have qx := Fq.H2.keep (Fq.H2.put q0 (.float .f64 LO) (.float .f64 HI)) g2; have qy := Fq.H2.keep (Fq.H2.far q1 (show w.heap.size ≠ w.heap.size + 1 by omega) (.float .f64 LO) (.float .f64 HI)) g2; have kv : Kp w w2 := Kp.trans ((kw.setCell (Nat.le_refl _) _).setCell (Nat.le_refl _) _) g2; obtain ⟨u0, u1, u2, u3⟩ := id qx; obtain ⟨v0, v1, v2, v3⟩ := id qy) | (go_at_call 64; refine (hmg _).mono ?_; rintro e w3 ⟨rfl, g3⟩; have k3 := Kp.trans kv g3) | (go_at_call_of 65 (Value.float .f64 ML); refine (hA1 _ k3).mono ?_; rintro e w4 ⟨rfl, g4⟩; have k4 := Kp.trans k3 g4) | (go_at_call_of 65 (Value.float .f64 MH); refine (hA2 _ k4).mono ?_; rintro e w5 ⟨rfl, g5⟩; have k5 := Kp.trans k4 g5; obtain ⟨e0, e1, e2, e3⟩ := Fq.H2.keep (Fq.H2.keep (Fq.H2.keep qy g3) g4) g5))
  exact bodyPost_ret (v := .agg #[.float .f64 NL, .float .f64 NH]) (by simp [results, Tryz.results28, go_sem, e0, e1]) rfl ⟨rfl, (k5.setCell (by simp) _).setCell (by simp) _⟩
end Go.Proofs.YthdnajcgdngmcaaGreatDoor
namespace Go.Proofs.YthdnajcgdngmcaaGreatDoor
open Go.RowKit
set_option linter.unusedVariables false
theorem mulS_ (K : Nat) (hK : K = 1074) (d x : Int) (hd1 : -9223372036854775808 ≤ d) (hd2 : d < 9223372036854775808) (hx : BdZ x) (w : World) (hT : TT w) : Calls Tryz.prog 65 #[.int .i64 d, .float .f64 (pw x), .float .f64 (pw x)] w fun e w' => e = .returned (.float .f64 (pw (muZ K d x x))) ∧ Kp w w' := by
  have h := mulO_ K hK d (sN x) (sN x) x.natAbs x.natAbs (aI x hx) (aI x hx) hd1 hd2 w hT.1 hT.2
  refine h.mono ?_
  rintro e w' ⟨R, rfl, hR, k⟩
  have hz : ∃ z, oM K d (sN x) x.natAbs (sN x) x.natAbs = some z := by
    unfold oM
    rw [if_neg (by unfold BdZ at hx; omega)]
    repeat' split
    all_goals exact ⟨_, rfl⟩
  obtain ⟨z, hz⟩ := hz
  refine ⟨?_, k⟩
  rw [hR z hz]
  unfold muZ
  rw [hz]; rfl
theorem abs9_ (x : Int) (h : BdZ x) (w : World) : Calls Tryz.prog 92 #[.float .f64 (pw x)] w fun e w' => e = .returned (.float .f64 (pw (x.natAbs : Int))) ∧ w' = w := by
  have g := abs_ (decide (x < 0)) x.natAbs (by have := abs_pw x h; omega) w
  rw [pw_of x.natAbs (abs_pw x h)]
  exact g
def sLo (K : Nat) (L H : Int) : Int := if L = 9218868437227405312 then 9218868437227405312 else muZ K (-1) (sMl L H) (sMl L H)
def sHi (K : Nat) (L H : Int) : Int := if L = 9218868437227405312 then -9218868437227405312 else muZ K 1 (sMh L H) (sMh L H)
theorem bd_abs (x : Int) (h : BdZ x) : BdZ (x.natAbs : Int) := by unfold BdZ at *; omega
theorem sMl_bd (L H : Int) (h1 : BdZ L) (h2 : BdZ H) : BdZ (sMl L H) := by
  unfold sMl
  split
  · unfold BdZ; omega
  · exact bd_min _ _ (bd_abs _ h1) (bd_abs _ h2)
theorem magn9_ (L H : Int) (h1 : BdZ L) (h2 : BdZ H) (w : World) : Calls Tryz.prog 64 #[.agg #[.float .f64 (pw L), .float .f64 (pw H)]] w fun e w' => e = .returned (.tuple #[.float .f64 (pw (sMl L H)), .float .f64 (pw (sMh L H))]) ∧ Kp w w' := by
  have hh := holdsN_ (pw L) (pw H) _ _ (le0_pw L h1) (ge0_pw H h2)
  have hM := max9_ _ _ (bd_abs _ h1) (bd_abs _ h2)
  have hm := min9_ _ _ (bd_abs _ h1) (bd_abs _ h2)
  unfold sMl sMh
  by_cases c : L ≤ 0 ∧ 0 ≤ H
  · rw [if_pos c]
    rw [and2 _ _ c] at hh
    exact magnT_ _ _ _ _ _ _ (abs9_ L h1) (abs9_ H h2) hM hm hh w
  · rw [if_neg c]
    rw [nand2 _ _ c] at hh
    exact magnF_ _ _ _ _ _ _ (abs9_ L h1) (abs9_ H h2) hM hm hh w
theorem sqr9_ (K : Nat) (hK : K = 1074) (a b : Nat) (L H : Int) (hx : Rd a b L H) (w : World) (hT : TT w) : Calls Tryz.prog 28 #[.agg #[.float .f64 a, .float .f64 b]] w fun e w' => e = .returned (.agg #[.float .f64 (pw (sLo K L H)), .float .f64 (pw (sHi K L H))]) ∧ Kp w w' := by
  have v := void9_ L H hx.vd
  unfold sLo sHi
  by_cases c : L = 9218868437227405312
  · rw [if_pos c, if_pos c, pw_I, pw_MI]
    rw [decide_eq_true c] at v
    exact sqrV_ a b _ _ hx.call v empty9_ w
  rw [decide_eq_false c] at v
  rw [if_neg c, if_neg c]
  exact sqrS_ a b _ _ hx.call v _ _ _ _ (magn9_ L H hx.vd.lo hx.vd.hi) w (fun W k => mulS_ K hK (-1) _ (by omega) (by omega) (sMl_bd L H hx.vd.lo hx.vd.hi) W (hT.kp k)) (fun W k => mulS_ K hK 1 _ (by omega) (by omega) (bd_max _ _ (bd_abs _ hx.vd.lo) (bd_abs _ hx.vd.hi)) W (hT.kp k))
end Go.Proofs.YthdnajcgdngmcaaGreatDoor
namespace Go.Proofs.YthdnajcgdngmcaaGreatDoor
open Go.RowKit
theorem vZ_zero : vZ 0 = 0 := vZ_0
theorem vZ_sn (z : Int) : Iv (sN z) z.natAbs = vZ z := rfl
set_option linter.unusedVariables false
theorem diZ_zero (K : Nat) (d y : Int) : diZ K d 0 y = 0 := by
  unfold diZ oD
  have e : ∀ s : Bool, Iv s (0 : Int).natAbs = 0 := fun s => by
    have h := vV0X
    unfold Iv
    rw [show (0 : Int).natAbs = 0 from rfl, h]
    cases s <;> rfl
  rw [e]
  repeat' split
  all_goals first | rfl | (exfalso; omega) | skip
  all_goals (unfold g53 gpl; simp)
theorem diZ_m (K : Nat) (d x y : Int) : diZ K (-d) (-x) y = -(diZ K d x y) := by
  by_cases c : x = 0
  · rw [c, show (-0 : Int) = 0 from rfl, diZ_zero, diZ_zero]; rfl
  · exact diZ_mir K d x y c
theorem diZ_m1 (K : Nat) (x y : Int) : diZ K (-1) (-x) y = -(diZ K 1 x y) := diZ_m K 1 x y
theorem diZ_neg (K : Nat) (d x y : Int) (hy : y ≠ 0) : diZ K d (-x) y = diZ K d x (-y) := by
  by_cases c : x = 0
  · rw [c, show (-0 : Int) = 0 from rfl, diZ_zero, diZ_zero]
  unfold diZ oD
  rw [sN_neg x c, sN_neg y hy, Int.natAbs_neg, Int.natAbs_neg, if_neg (show ¬ y.natAbs = 0 by omega), if_neg (show ¬ y.natAbs = 0 by omega), show ((!(sN x)) ^^ sN y) = (sN x ^^ (!(sN y))) from by cases sN x <;> cases sN y <;> rfl]
theorem diZ_fin (K : Nat) (d x y : Int) (hx : -9218868437227405312 < x ∧ x < 9218868437227405312) (hy : 0 < y ∧ y < 9218868437227405312) : diZ K d x y = g53 d (2 ^ K) (Fq.vV Ieee.double y.natAbs) (vZ x) := by
  unfold diZ oD
  rw [if_neg (by omega), if_neg (by omega), if_neg (by omega), if_neg (by omega)]
  rw [show (sN x ^^ sN y) = sN x from by
    have e : sN y = false := decide_eq_false (by omega)
    rw [e]; cases sN x <;> rfl, vZ_sn]; rfl
theorem diZ_inf (K : Nat) (d x : Int) (hx : -9218868437227405312 < x ∧ x < 9218868437227405312) : diZ K d x 9218868437227405312 = 0 := by
  unfold diZ oD
  rw [if_neg (by omega), if_neg (by omega), if_neg (by omega), if_pos (by omega)]; rfl
def jM (r : Nat) : Nat := if r = 9218868437227405312 then 0 else 4607182418800017408
def jC (r : Nat) : Nat := if r = 9218868437227405312 then 1 else Fq.vV Ieee.double r
theorem vV_one9 : Fq.vV Ieee.double 1 = 1 := by decide +kernel
theorem vone (K : Nat) (hK : K = 1074) : Fq.vV Ieee.double 4607182418800017408 = 2 ^ K := by subst hK; decide +kernel
theorem g53_z9 (K : Nat) (d : Int) : g53 d (2 ^ K) 1 0 = 0 := by
  have h := diZ_fin K d 0 1 (by omega) (by omega)
  rw [diZ_zero, vZ_zero, show (1 : Int).natAbs = 1 from rfl, vV_one9] at h
  exact h.symm
theorem iv_z9 (s : Bool) : Iv s 0 = 0 := by unfold Iv; rw [Fq.vV_zero]; cases s <;> rfl
theorem vZ_p1 : vZ 4607182418800017408 = Iv false 4607182418800017408 := rfl
theorem vZ_m1 : vZ (-4607182418800017408) = Iv true 4607182418800017408 := rfl
theorem one_p (K : Nat) (d z : Int) (hz : 0 < z ∧ z ≤ 9218868437227405312) : diZ K d 4607182418800017408 z = g53 d (2 ^ K) (jC z.natAbs) (Iv false (jM z.natAbs)) := by
  unfold jC jM
  by_cases c : z = 9218868437227405312
  · subst c
    rw [diZ_inf K d _ (by omega), if_pos (by decide), if_pos (by decide), iv_z9, g53_z9]
  · rw [if_neg (by omega), if_neg (by omega), diZ_fin K d _ z (by omega) (by omega), vZ_p1]
theorem one_m (K : Nat) (d z : Int) (hz : 0 < z ∧ z ≤ 9218868437227405312) : diZ K d (-4607182418800017408) z = g53 d (2 ^ K) (jC z.natAbs) (Iv true (jM z.natAbs)) := by
  unfold jC jM
  by_cases c : z = 9218868437227405312
  · subst c
    rw [diZ_inf K d _ (by omega), if_pos (by decide), if_pos (by decide), iv_z9, g53_z9]
  · rw [if_neg (by omega), if_neg (by omega), diZ_fin K d _ z (by omega) (by omega), vZ_m1]
theorem one_n (K : Nat) (d z : Int) (hz : 0 < -z ∧ -z ≤ 9218868437227405312) : diZ K d 4607182418800017408 z = g53 d (2 ^ K) (jC z.natAbs) (Iv true (jM z.natAbs)) := by
  have h := one_m K d (-z) hz
  rw [diZ_neg K d 4607182418800017408 (-z) (by omega), Int.neg_neg, Int.natAbs_neg] at h
  exact h
theorem rec_A (K : Nat) (L H : Int) (hL : 0 ≤ L) (hH : 0 < H) (hi : L < 9218868437227405312 ∧ H ≤ 9218868437227405312) : dLo K 4607182418800017408 4607182418800017408 L H = g53 (-1) (2 ^ K) (jC H.natAbs) (Iv false (jM H.natAbs)) ∧ dHi K 4607182418800017408 4607182418800017408 L H = (if 0 < L then g53 1 (2 ^ K) (jC L.natAbs) (Iv false (jM L.natAbs)) else 9218868437227405312) := by
  rw [← one_p K (-1) H (by omega)]
  unfold dLo dHi bLo bHi
  by_cases c : 0 < L
  · rw [if_pos c, ← one_p K 1 L (by omega), if_neg (by omega), if_neg (by omega), if_neg (by omega), if_neg (by omega)]
    refine ⟨?_, ?_⟩
    · unfold lst
      rw [if_neg (by omega), if_neg (by omega), if_neg (by omega), if_neg (by omega)]
    · unfold lst
      rw [if_neg (by omega)]
      repeat' split
      all_goals first | (exfalso; omega) | (rw [diZ_m1, Int.neg_neg])
  · have e : L = 0 := by omega
    subst e
    rw [if_neg c]
    repeat' split
    all_goals first | (exfalso; omega) | exact ⟨rfl, rfl⟩
theorem rec_B (K : Nat) (L H : Int) (hL : L < 0) (hH : H ≤ 0) (hi : -9218868437227405312 ≤ L ∧ -9218868437227405312 < H) : dLo K 4607182418800017408 4607182418800017408 L H = (if H < 0 then g53 (-1) (2 ^ K) (jC H.natAbs) (Iv true (jM H.natAbs)) else -9218868437227405312) ∧ dHi K 4607182418800017408 4607182418800017408 L H = g53 1 (2 ^ K) (jC L.natAbs) (Iv true (jM L.natAbs)) := by
  rw [← one_n K 1 L (by omega)]
  unfold dLo dHi bLo bHi
  by_cases c : H < 0
  · rw [if_pos c, ← one_n K (-1) H (by omega), if_neg (by omega), if_neg (by omega), if_neg (by omega), if_neg (by omega)]
    refine ⟨?_, ?_⟩
    · unfold lst
      rw [if_neg (by omega)]
      repeat' split
      all_goals first | (exfalso; omega) | rfl
    · unfold lst
      rw [if_neg (by omega)]
      repeat' split
      all_goals first | (exfalso; omega) | (rw [diZ_m1, Int.neg_neg])
  · have e : H = 0 := by omega
    subst e
    rw [if_neg c]
    repeat' split
    all_goals first | (exfalso; omega) | exact ⟨rfl, rfl⟩
end Go.Proofs.YthdnajcgdngmcaaGreatDoor
namespace Go.Proofs.YthdnajcgdngmcaaGreatDoor
open Go.RowKit
set_option linter.unusedVariables false
theorem g53_id (d z : Int) (hz : -9218868437227405312 < z ∧ z < 9218868437227405312) : g53 d 1 1 (vZ z) = z := by
  unfold g53 gpl
  by_cases z0 : z = 0
  · rw [z0, vZ_0, if_pos rfl]
  have hne : vZ z ≠ 0 := fun h => z0 (vZ_inj z 0 (by rw [h, vZ_0]))
  have hab := vZ_abs z
  rw [if_neg hne, hab, Nat.mul_one, rU_vV _ z.natAbs (by omega), rU_vV _ z.natAbs (by omega), fin_vV _ z.natAbs (by omega), fin_vV _ z.natAbs (by omega)]
  by_cases c : z < 0
  · have := vZ_lt7 z 0 c
    rw [vZ_0] at this
    rw [if_pos this]; omega
  · have := vZ_lt7 0 z (by omega)
    rw [vZ_0] at this
    rw [if_neg (by omega)]; omega
theorem pU_one (K : Nat) (d z : Int) (hz : BdZ z) : pU K d 1 z = z := by
  unfold BdZ at hz
  unfold pU
  by_cases a : z = 9218868437227405312
  · rw [if_pos a, a]
  rw [if_neg a]
  by_cases b : z = -9218868437227405312
  · rw [if_pos b, if_pos rfl, b]
  rw [if_neg b, show K * (1 - 1) = 0 from by omega, Nat.pow_zero, Int.pow_succ, Int.pow_zero, Int.one_mul]
  exact g53_id d z (by omega)
theorem n_one (K : Nat) (L H : Int) (h : VdZ L H) : nLo K 1 L H = L ∧ nHi K 1 L H = H := by
  unfold nLo nHi
  by_cases c : L = 9218868437227405312
  · rw [if_pos c, if_pos c, c]; unfold VdZ at h; exact ⟨rfl, by omega⟩
  · rw [if_neg c, if_neg c, if_neg (by decide), if_neg (by decide), if_neg (by decide), if_neg (by decide), if_neg (by decide), if_neg (by decide)]
    exact ⟨pU_one K (-1) L h.lo, pU_one K 1 H h.hi⟩
theorem pU_two (K : Nat) (d z : Int) (hz : 0 ≤ z ∧ z ≤ 9218868437227405312) : pU K d 2 z = muZ K d z z := by
  unfold pU muZ oM sN
  rw [decide_eq_false (show ¬ z < 0 by omega)]
  by_cases a : z = 9218868437227405312
  · rw [if_pos a, if_neg (by omega), if_pos (by omega)]; rfl
  rw [if_neg a, if_neg (by omega), if_neg (by omega), if_neg (by omega), show K * (2 - 1) = K from by omega]
  have e : Iv false z.natAbs = vZ z := by rw [vZ_iv, decide_eq_false (show ¬ z < 0 by omega)]
  rw [e, Int.pow_succ, Int.pow_succ, Int.pow_zero, Int.one_mul]
  rfl
theorem sM_nn (L H : Int) (h : VdZ L H) (c : L ≠ 9218868437227405312) : (0 ≤ sMl L H ∧ sMl L H ≤ 9218868437227405312) ∧ (0 ≤ sMh L H ∧ sMh L H ≤ 9218868437227405312) := by
  unfold sMl sMh VdZ at *
  split <;> omega
theorem n_two (K : Nat) (L H : Int) (h : VdZ L H) : nLo K 2 L H = sLo K L H ∧ nHi K 2 L H = sHi K L H := by
  unfold nLo nHi sLo sHi
  by_cases c : L = 9218868437227405312
  · rw [if_pos c, if_pos c, if_pos c, if_pos c]; exact ⟨rfl, rfl⟩
  · have b := sM_nn L H h c
    rw [if_neg c, if_neg c, if_neg c, if_neg c, if_neg (show ¬ ((2 : Int) < -1024 ∨ 1024 < (2 : Int)) by decide), if_neg (show ¬ ((2 : Int) < -1024 ∨ 1024 < (2 : Int)) by decide), if_neg (show ¬ (2 : Int) < 0 by decide), if_neg (show ¬ (2 : Int) < 0 by decide), if_pos (show (2 : Int) % 2 = 0 by decide), if_pos (show (2 : Int) % 2 = 0 by decide)]
    exact ⟨pU_two K (-1) _ b.1, pU_two K 1 _ b.2⟩
theorem g53_cong (d : Int) (c1 c1' c2 : Nat) (V V' : Int) (h : V.natAbs * c1 = V'.natAbs * c1') (z : V = 0 ↔ V' = 0) (s : V < 0 ↔ V' < 0) : g53 d c1 c2 V = g53 d c1' c2 V' := by
  unfold g53 gpl
  rw [h]
  by_cases a : V = 0
  · rw [if_pos a, if_pos (z.1 a)]
  · rw [if_neg a, if_neg (fun g => a (z.2 g))]
    by_cases b : V < 0
    · rw [if_pos b, if_pos (s.1 b)]
    · rw [if_neg b, if_neg (fun g => b (s.2 g))]
theorem pD_one (K : Nat) (hK : K = 1074) (d z : Int) (hz : BdZ z) (h0 : z ≠ 0) : pD K d 1 z = g53 d (2 ^ K) (jC z.natAbs) (Iv (decide (z < 0)) (jM z.natAbs)) := by
  unfold BdZ at hz
  unfold pD jC jM
  by_cases a : z = 9218868437227405312 ∨ z = -9218868437227405312
  · rw [if_pos a, if_pos (show z.natAbs = 9218868437227405312 by omega), if_pos (show z.natAbs = 9218868437227405312 by omega), iv_z9, g53_z9]
  rw [if_neg a, if_neg (show ¬ z.natAbs = 9218868437227405312 by omega), if_neg (show ¬ z.natAbs = 9218868437227405312 by omega), if_neg h0, vZ_abs, Nat.pow_one, show K * (1 + 1) = K + K from by omega, Nat.pow_add]
  have v1 := vone K hK
  have hp := Nat.two_pow_pos K
  apply g53_cong
  · unfold Iv
    rw [v1]
    by_cases c : z < 0
    · rw [if_pos (show z < 0 ∧ 1 % 2 = 1 from ⟨c, by decide⟩), decide_eq_true c, if_pos rfl, show (-1 : Int).natAbs = 1 from rfl, Int.natAbs_neg, Int.natAbs_natCast, Nat.one_mul]
    · rw [if_neg (show ¬ (z < 0 ∧ 1 % 2 = 1) by omega), decide_eq_false c, if_neg (by decide), Int.natAbs_natCast, show (1 : Int).natAbs = 1 from rfl, Nat.one_mul]
  · unfold Iv
    rw [v1]
    generalize 2 ^ K = P at *
    by_cases c : z < 0 <;> simp [c] <;> omega
  · unfold Iv
    rw [v1]
    generalize 2 ^ K = P at *
    by_cases c : z < 0 <;> simp [c] <;> omega
theorem n_inv (K : Nat) (hK : K = 1074) (L H : Int) (h : VdZ L H) : nLo K (-1) L H = dLo K 4607182418800017408 4607182418800017408 L H ∧ nHi K (-1) L H = dHi K 4607182418800017408 4607182418800017408 L H := by
  have b1 := h.lo
  have b2 := h.hi
  have E : ∀ d z, pnZ K d (-1) z = pD K d 1 z := fun d z => by unfold pnZ; rw [if_neg (by decide), if_neg (by decide)]; rfl
  unfold nLo nHi
  simp only [E]
  by_cases c : L = 9218868437227405312
  · rw [if_pos c, if_pos c]; unfold dLo dHi; rw [if_pos (Or.inr c), if_pos (Or.inr c)]; exact ⟨rfl, rfl⟩
  have hv : L ≤ H ∧ -9218868437227405312 < H ∧ L < 9218868437227405312 := by unfold VdZ at h; omega
  rw [if_neg c, if_neg c, if_neg (show ¬ ((-1 : Int) < -1024 ∨ 1024 < (-1 : Int)) by decide), if_neg (show ¬ ((-1 : Int) < -1024 ∨ 1024 < (-1 : Int)) by decide), if_pos (show (-1 : Int) < 0 by decide), if_pos (show (-1 : Int) < 0 by decide)]
  by_cases z : L = 0 ∧ H = 0
  · rw [if_pos z, if_pos z]
    unfold dLo dHi bLo bHi
    refine ⟨?_, ?_⟩ <;> (repeat' split) <;> first | rfl | (exfalso; omega)
  rw [if_neg z, if_neg z, if_neg (show ¬ (-1 : Int) % 2 = 0 by decide), if_neg (show ¬ (-1 : Int) % 2 = 0 by decide)]
  by_cases s : L < 0 ∧ 0 < H
  · rw [if_pos (Or.inl s), if_pos s]
    unfold dLo dHi bLo bHi
    refine ⟨?_, ?_⟩ <;> (repeat' split) <;> first | rfl | (exfalso; omega)
  rw [if_neg s]
  unfold BdZ at b1 b2
  rcases Int.lt_or_le L 0 with g | g
  · obtain ⟨r1, r2⟩ := rec_B K L H g (by omega) (by omega)
    rw [r1, r2, pD_one K hK 1 L (by unfold BdZ; omega) (by omega), decide_eq_true g]
    refine ⟨?_, rfl⟩
    by_cases q : H = 0
    · rw [if_pos (Or.inr q), if_neg (by omega)]
    · rw [if_neg (by omega), if_pos (by omega), pD_one K hK (-1) H (by unfold BdZ; omega) q, decide_eq_true (show H < 0 by omega)]
  · obtain ⟨r1, r2⟩ := rec_A K L H g (by omega) (by omega)
    rw [r1, r2, if_neg (by omega), pD_one K hK (-1) H (by unfold BdZ; omega) (by omega), decide_eq_false (show ¬ H < 0 by omega)]
    refine ⟨rfl, ?_⟩
    by_cases q : 0 < L
    · rw [if_pos q, pD_one K hK 1 L (by unfold BdZ; omega) (by omega), decide_eq_false (show ¬ L < 0 by omega)]
    · have e : L = 0 := by omega
      rw [if_neg q, e]; unfold pD; rw [if_neg (by decide), if_pos rfl]
end Go.Proofs.YthdnajcgdngmcaaGreatDoor
namespace Go.Proofs.YthdnajcgdngmcaaGreatDoor
open Go.RowKit
set_option linter.unusedVariables false
set_option maxRecDepth 20000 in
set_option maxHeartbeats 8000000 in
theorem proadsA_ (X1 X2 Y1 Y2 : Int) (A1 A2 B1 B2 R1 R2 Q1 Q2 V1 V2 M1 M2 N1 N2 O1 O2 G1 G2 T1 T2 C1 C2 D1 D2 S1 S2 : Nat) (PP : Nat → Nat → Int → Nat → Nat → Prop) (PI : Nat → Nat → Nat → Nat → Nat → Nat → Nat → Prop) (PU : Nat → Nat → Nat → Nat → Nat → Prop) (hP : ∀ x1 x2 N z1 z2, PP x1 x2 N z1 z2 → ∀ w : World, TU7 w → Calls Tryz.prog 11 #[.agg #[.float .f64 x1, .float .f64 x2], .int .i64 N] w fun e w' => e = .returned (.agg #[.float .f64 z1, .float .f64 z2]) ∧ Kp w w') (hI : ∀ f x1 x2 y1 y2 z1 z2, PI f x1 x2 y1 y2 z1 z2 → ∀ w : World, TU7 w → Calls Tryz.prog f #[.agg #[.float .f64 x1, .float .f64 x2], .agg #[.float .f64 y1, .float .f64 y2]] w fun e w' => e = .returned (.agg #[.float .f64 z1, .float .f64 z2]) ∧ Kp w w') (hU : ∀ f x1 x2 z1 z2, PU f x1 x2 z1 z2 → ∀ w : World, TU7 w → Calls Tryz.prog f #[.agg #[.float .f64 x1, .float .f64 x2]] w fun e w' => e = .returned (.agg #[.float .f64 z1, .float .f64 z2]) ∧ Kp w w') (U : Nat → Int) (hO : ∀ x1 x2, ∀ w : World, Calls Tryz.prog 19 #[.agg #[.float .f64 x1, .float .f64 x2]] w fun e w' => e = .returned (.agg #[.int .u64 (U x1), .int .u64 (U x2)]) ∧ Kp w w') (hi1 : ∀ w : World, Calls Tryz.prog 20 #[.agg #[.int .u64 X1, .int .u64 X2]] w fun e w' => e = .returned (.agg #[.float .f64 A1, .float .f64 A2]) ∧ Kp w w') (hi2 : ∀ w : World, Calls Tryz.prog 20 #[.agg #[.int .u64 Y1, .int .u64 Y2]] w fun e w' => e = .returned (.agg #[.float .f64 B1, .float .f64 B2]) ∧ Kp w w') (hr : ∀ w : World, Calls Tryz.prog 23 #[.agg #[.int .u64 X1, .int .u64 X2]] w fun e w' => e = .returned (.agg #[.int .u64 (U R1), .int .u64 (U R2)]) ∧ Kp w w') (fp0 : PP A1 A2 (1) R1 R2) (fp1 : PP A1 A2 (2) Q1 Q2) (fp2 : PP A1 A2 (-1) V1 V2) (fi0 : PI 16 A1 A2 B1 B2 M1 M2) (fi1 : PI 26 N1 N2 O1 O2 G1 G2) (fi2 : PI 16 B1 B2 A1 A2 M1 M2) (fi3 : PI 26 A1 A2 B1 B2 T1 T2) (fi4 : PI 26 B1 B2 A1 A2 T1 T2) (fu0 : PU 28 A1 A2 Q1 Q2) (fu1 : PU 29 A1 A2 V1 V2) (fu2 : PU 30 A1 A2 N1 N2) (fu3 : PU 30 B1 B2 O1 O2) (fu4 : PU 30 G1 G2 M1 M2) (fu5 : PU 14 A1 A2 C1 C2) (fu6 : PU 13 N1 N2 D1 D2) (fu7 : PU 30 D1 D2 C1 C2) (fu8 : PU 25 A1 A2 S1 S2) (fu9 : PU 25 N1 N2 S1 S2) (SL SH NL NH : Nat → Nat) (hsA : ∀ k : Nat, k < 6 → ∀ w : World, Calls Tryz.prog 27 #[.int .i64 (k : Int), .agg #[.float .f64 A1, .float .f64 A2]] w fun e w' => e = .returned (.agg #[.float .f64 (SL k), .float .f64 (SH k)]) ∧ Kp w w') (hsS : ∀ k : Nat, k < 6 → ∀ w : World, Calls Tryz.prog 27 #[.int .i64 (k : Int), .agg #[.float .f64 (SL k), .float .f64 (SH k)]] w fun e w' => e = .returned (.agg #[.float .f64 (SL k), .float .f64 (SH k)]) ∧ Kp w w') (hsN : ∀ k : Nat, k < 6 → k ≠ 1 → k ≠ 2 → ∀ w : World, Calls Tryz.prog 27 #[.int .i64 (k : Int), .agg #[.float .f64 N1, .float .f64 N2]] w fun e w' => e = .returned (.agg #[.float .f64 (NL k), .float .f64 (NH k)]) ∧ Kp w w') (fuN : ∀ k : Nat, k < 6 → PU 30 (SL k) (SH k) (NL k) (NH k)) (hlv : ∀ w : World, TU7 w → Calls Tryz.prog 10 #[] w fun e w' => e = .returned (.bool true) ∧ Kp w w') (w : World) (hT : TU7 w) : Calls Tryz.prog 6 #[.agg #[.int .u64 X1, .int .u64 X2], .agg #[.int .u64 Y1, .int .u64 Y2]] w fun e w' => e = .returned (.bool true) ∧ Kp w w' := by
  have kW : Kp w ((w.alloc (.cells #[.int .u64 X1, .int .u64 X2] 33)).alloc (.cells #[.int .u64 Y1, .int .u64 Y2] 33)) := ((Kp.refl w).alloc _).alloc _
  have qX := H48.new w (.int .u64 X1) (.int .u64 X2) (.int .u64 Y1) (.int .u64 Y2) 33 33
  have hTW := hT.kp kW
  go_enter Tryz.func6, Tryz.ntmps6
  go_upto_region 1 with fail
  generalize hW : ((w.alloc (.cells #[.int .u64 X1, .int .u64 X2] 33)).alloc (.cells #[.int .u64 Y1, .int .u64 Y2] 33)) = W at kW qX hTW ⊢
  clear hW
  obtain ⟨⟨x0, x1, x2, x3⟩, ⟨x4, x5, x6, x7⟩⟩ := id qX
  go_upto_region 2 with (first | (go_at_call 20; refine (hi1 _).mono ?_; rintro e wx ⟨rfl, gx⟩))
  clear x0 x1 x2 x3 x4 x5 x6 x7
  have qa := Fq.H2.new wx (.float .f64 A1) (.float .f64 A2) 25
  have gz := gx.alloc (.cells #[.float .f64 A1, .float .f64 A2] 25)
  replace qX := H48.keep qX gz
  replace hTW := hTW.kp gz
  replace kW := Kp.trans kW gz
  clear gz gx
  generalize hW : wx.alloc (.cells #[.float .f64 A1, .float .f64 A2] 25) = W at qa qX hTW kW ⊢
  generalize wx.heap.size = ba at qa ⊢
  clear hW
  obtain ⟨⟨x0, x1, x2, x3⟩, ⟨x4, x5, x6, x7⟩⟩ := id qX
  go_upto_region 3 with (first | (go_at_call 20; refine (hi2 _).mono ?_; rintro e wx ⟨rfl, gx⟩))
  clear x0 x1 x2 x3 x4 x5 x6 x7
  replace qa := Fq.H2.past (Fq.H2.keep qa gx) #[.float .f64 B1, .float .f64 B2] 25
  have qb := Fq.H2.new wx (.float .f64 B1) (.float .f64 B2) 25
  have gz := gx.alloc (.cells #[.float .f64 B1, .float .f64 B2] 25)
  replace qX := H48.keep qX gz
  replace hTW := hTW.kp gz
  replace kW := Kp.trans kW gz
  clear gz gx
  generalize hW : wx.alloc (.cells #[.float .f64 B1, .float .f64 B2] 25) = W at qa qb qX hTW kW ⊢
  generalize wx.heap.size = bb at qb ⊢
  clear hW
  go_upto_region 3 with fail
  go_cut [36] (fun s36 wx => s36 = .bool false ∧ Kp W wx)
  case first =>
    (
      refine Fq.wp_region_grow (by kernel_rfl) (by kernel_rfl) (fun ι _ G hG hall => ?_)
      have tG : ∀ n, TU7 (G n) := fun n => hTW.kp (hG n)
      have cc0 : ∀ n, (G n).cell? ⟨ba, 0, none⟩ = some (.float .f64 A1) := fun n => Fq.gkeep (hG n) qa.1
      have cc1 : ∀ n, (G n).cell? ⟨ba, 1, none⟩ = some (.float .f64 A2) := fun n => Fq.gkeep (hG n) qa.2.1
      have cc2 : ∀ n, (G n).cell? ⟨bb, 0, none⟩ = some (.float .f64 B1) := fun n => Fq.gkeep (hG n) qb.1
      have cc3 : ∀ n, (G n).cell? ⟨bb, 1, none⟩ = some (.float .f64 B2) := fun n => Fq.gkeep (hG n) qb.2.1
      have cc4 : ∀ n, (G n).cell? ⟨w.heap.size, 0, none⟩ = some (.int .u64 X1) := fun n => Fq.gkeep (hG n) qX.1.1
      have cc5 : ∀ n, (G n).cell? ⟨w.heap.size, 1, none⟩ = some (.int .u64 X2) := fun n => Fq.gkeep (hG n) qX.1.2.1
      repeat (go_big_quiet_step (first | (go_at_call 11; exact (hP _ _ _ _ _ (by first | exact fp0 | exact fp1 | exact fp2) _ (tG _)).mono (fun e w' h => ⟨h.1, hall _ (Fq.gtrans (hG _) h.2)⟩)) | (go_at_call 16; exact (hI 16 _ _ _ _ _ _ (by with_reducible first | exact fi0 | exact fi1 | exact fi2 | exact fi3 | exact fi4) _ (tG _)).mono (fun e w' h => ⟨h.1, hall _ (Fq.gtrans (hG _) h.2)⟩)) | (go_at_call 26; exact (hI 26 _ _ _ _ _ _ (by with_reducible first | exact fi0 | exact fi1 | exact fi2 | exact fi3 | exact fi4) _ (tG _)).mono (fun e w' h => ⟨h.1, hall _ (Fq.gtrans (hG _) h.2)⟩)) | (go_at_call 13; exact (hU 13 _ _ _ _ (by with_reducible first | exact fu0 | exact fu1 | exact fu2 | exact fu3 | exact fu4 | exact fu5 | exact fu6 | exact fu7 | exact fu8 | exact fu9) _ (tG _)).mono (fun e w' h => ⟨h.1, hall _ (Fq.gtrans (hG _) h.2)⟩)) | (go_at_call 14; exact (hU 14 _ _ _ _ (by with_reducible first | exact fu0 | exact fu1 | exact fu2 | exact fu3 | exact fu4 | exact fu5 | exact fu6 | exact fu7 | exact fu8 | exact fu9) _ (tG _)).mono (fun e w' h => ⟨h.1, hall _ (Fq.gtrans (hG _) h.2)⟩)) | (go_at_call 25; exact (hU 25 _ _ _ _ (by with_reducible first | exact fu0 | exact fu1 | exact fu2 | exact fu3 | exact fu4 | exact fu5 | exact fu6 | exact fu7 | exact fu8 | exact fu9) _ (tG _)).mono (fun e w' h => ⟨h.1, hall _ (Fq.gtrans (hG _) h.2)⟩)) | (go_at_call 28; exact (hU 28 _ _ _ _ (by with_reducible first | exact fu0 | exact fu1 | exact fu2 | exact fu3 | exact fu4 | exact fu5 | exact fu6 | exact fu7 | exact fu8 | exact fu9) _ (tG _)).mono (fun e w' h => ⟨h.1, hall _ (Fq.gtrans (hG _) h.2)⟩)) | (go_at_call 29; exact (hU 29 _ _ _ _ (by with_reducible first | exact fu0 | exact fu1 | exact fu2 | exact fu3 | exact fu4 | exact fu5 | exact fu6 | exact fu7 | exact fu8 | exact fu9) _ (tG _)).mono (fun e w' h => ⟨h.1, hall _ (Fq.gtrans (hG _) h.2)⟩)) | (go_at_call 30; exact (hU 30 _ _ _ _ (by with_reducible first | exact fu0 | exact fu1 | exact fu2 | exact fu3 | exact fu4 | exact fu5 | exact fu6 | exact fu7 | exact fu8 | exact fu9) _ (tG _)).mono (fun e w' h => ⟨h.1, hall _ (Fq.gtrans (hG _) h.2)⟩)) | (go_at_call 19; exact (hO _ _ _).mono (fun e w' h => ⟨h.1, hall _ (Fq.gtrans (hG _) h.2)⟩)) | (go_at_call 23; exact (hr _).mono (fun e w' h => ⟨h.1, hall _ (Fq.gtrans (hG _) h.2)⟩))))
      refine wpQuiet_nil ?_
      rintro _ ⟨nq, rfl⟩
      have gq : Kp W (G nq) := hG nq
      clear cc0 cc1 cc2 cc3 cc4 cc5 hall hG tG
      go_wp2_with fail
      go_meet
      exact ⟨rfl, gq⟩)
  case rest =>
  obtain ⟨rfl, gw⟩ := hcut
  replace qa := Fq.H2.keep qa gw
  replace qb := Fq.H2.keep qb gw
  replace qX := H48.keep qX gw
  replace hTW := hTW.kp gw
  replace kW := Kp.trans kW gw
  clear gw
  generalize wc = W at qa qb qX hTW kW ⊢
  go_upto_region 5 with fail
  go_cut [70] (fun s70 wx => s70 = .bool false ∧ Kp W wx)
  case first =>
    (
      refine Fq.wp_region_grow (by kernel_rfl) (by kernel_rfl) (fun ι _ G hG hall => ?_)
      have tG : ∀ n, TU7 (G n) := fun n => hTW.kp (hG n)
      have cc0 : ∀ n, (G n).cell? ⟨ba, 0, none⟩ = some (.float .f64 A1) := fun n => Fq.gkeep (hG n) qa.1
      have cc1 : ∀ n, (G n).cell? ⟨ba, 1, none⟩ = some (.float .f64 A2) := fun n => Fq.gkeep (hG n) qa.2.1
      have cc2 : ∀ n, (G n).cell? ⟨bb, 0, none⟩ = some (.float .f64 B1) := fun n => Fq.gkeep (hG n) qb.1
      have cc3 : ∀ n, (G n).cell? ⟨bb, 1, none⟩ = some (.float .f64 B2) := fun n => Fq.gkeep (hG n) qb.2.1
      have cc4 : ∀ n, (G n).cell? ⟨w.heap.size, 0, none⟩ = some (.int .u64 X1) := fun n => Fq.gkeep (hG n) qX.1.1
      have cc5 : ∀ n, (G n).cell? ⟨w.heap.size, 1, none⟩ = some (.int .u64 X2) := fun n => Fq.gkeep (hG n) qX.1.2.1
      repeat (go_big_quiet_step (first | (go_at_call 11; exact (hP _ _ _ _ _ (by first | exact fp0 | exact fp1 | exact fp2) _ (tG _)).mono (fun e w' h => ⟨h.1, hall _ (Fq.gtrans (hG _) h.2)⟩)) | (go_at_call 16; exact (hI 16 _ _ _ _ _ _ (by with_reducible first | exact fi0 | exact fi1 | exact fi2 | exact fi3 | exact fi4) _ (tG _)).mono (fun e w' h => ⟨h.1, hall _ (Fq.gtrans (hG _) h.2)⟩)) | (go_at_call 26; exact (hI 26 _ _ _ _ _ _ (by with_reducible first | exact fi0 | exact fi1 | exact fi2 | exact fi3 | exact fi4) _ (tG _)).mono (fun e w' h => ⟨h.1, hall _ (Fq.gtrans (hG _) h.2)⟩)) | (go_at_call 13; exact (hU 13 _ _ _ _ (by with_reducible first | exact fu0 | exact fu1 | exact fu2 | exact fu3 | exact fu4 | exact fu5 | exact fu6 | exact fu7 | exact fu8 | exact fu9) _ (tG _)).mono (fun e w' h => ⟨h.1, hall _ (Fq.gtrans (hG _) h.2)⟩)) | (go_at_call 14; exact (hU 14 _ _ _ _ (by with_reducible first | exact fu0 | exact fu1 | exact fu2 | exact fu3 | exact fu4 | exact fu5 | exact fu6 | exact fu7 | exact fu8 | exact fu9) _ (tG _)).mono (fun e w' h => ⟨h.1, hall _ (Fq.gtrans (hG _) h.2)⟩)) | (go_at_call 25; exact (hU 25 _ _ _ _ (by with_reducible first | exact fu0 | exact fu1 | exact fu2 | exact fu3 | exact fu4 | exact fu5 | exact fu6 | exact fu7 | exact fu8 | exact fu9) _ (tG _)).mono (fun e w' h => ⟨h.1, hall _ (Fq.gtrans (hG _) h.2)⟩)) | (go_at_call 28; exact (hU 28 _ _ _ _ (by with_reducible first | exact fu0 | exact fu1 | exact fu2 | exact fu3 | exact fu4 | exact fu5 | exact fu6 | exact fu7 | exact fu8 | exact fu9) _ (tG _)).mono (fun e w' h => ⟨h.1, hall _ (Fq.gtrans (hG _) h.2)⟩)) | (go_at_call 29; exact (hU 29 _ _ _ _ (by with_reducible first | exact fu0 | exact fu1 | exact fu2 | exact fu3 | exact fu4 | exact fu5 | exact fu6 | exact fu7 | exact fu8 | exact fu9) _ (tG _)).mono (fun e w' h => ⟨h.1, hall _ (Fq.gtrans (hG _) h.2)⟩)) | (go_at_call 30; exact (hU 30 _ _ _ _ (by with_reducible first | exact fu0 | exact fu1 | exact fu2 | exact fu3 | exact fu4 | exact fu5 | exact fu6 | exact fu7 | exact fu8 | exact fu9) _ (tG _)).mono (fun e w' h => ⟨h.1, hall _ (Fq.gtrans (hG _) h.2)⟩)) | (go_at_call 19; exact (hO _ _ _).mono (fun e w' h => ⟨h.1, hall _ (Fq.gtrans (hG _) h.2)⟩)) | (go_at_call 23; exact (hr _).mono (fun e w' h => ⟨h.1, hall _ (Fq.gtrans (hG _) h.2)⟩))))
      refine wpQuiet_nil ?_
      rintro _ ⟨nq, rfl⟩
      have gq : Kp W (G nq) := hG nq
      clear cc0 cc1 cc2 cc3 cc4 cc5 hall hG tG
      go_wp2_with fail
      go_meet
      exact ⟨rfl, gq⟩)
  case rest =>
  obtain ⟨rfl, gw⟩ := hcut
  replace qa := Fq.H2.keep qa gw
  replace qb := Fq.H2.keep qb gw
  replace qX := H48.keep qX gw
  replace hTW := hTW.kp gw
  replace kW := Kp.trans kW gw
  clear gw
  generalize wc = W at qa qb qX hTW kW ⊢
  go_upto_region 7 with fail
  go_cut [89] (fun s89 wx => s89 = .bool false ∧ Kp W wx)
  case first =>
    (
      refine Fq.wp_region_grow (by kernel_rfl) (by kernel_rfl) (fun ι _ G hG hall => ?_)
      have tG : ∀ n, TU7 (G n) := fun n => hTW.kp (hG n)
      have cc0 : ∀ n, (G n).cell? ⟨ba, 0, none⟩ = some (.float .f64 A1) := fun n => Fq.gkeep (hG n) qa.1
      have cc1 : ∀ n, (G n).cell? ⟨ba, 1, none⟩ = some (.float .f64 A2) := fun n => Fq.gkeep (hG n) qa.2.1
      have cc2 : ∀ n, (G n).cell? ⟨bb, 0, none⟩ = some (.float .f64 B1) := fun n => Fq.gkeep (hG n) qb.1
      have cc3 : ∀ n, (G n).cell? ⟨bb, 1, none⟩ = some (.float .f64 B2) := fun n => Fq.gkeep (hG n) qb.2.1
      have cc4 : ∀ n, (G n).cell? ⟨w.heap.size, 0, none⟩ = some (.int .u64 X1) := fun n => Fq.gkeep (hG n) qX.1.1
      have cc5 : ∀ n, (G n).cell? ⟨w.heap.size, 1, none⟩ = some (.int .u64 X2) := fun n => Fq.gkeep (hG n) qX.1.2.1
      repeat (go_big_quiet_step (first | (go_at_call 11; exact (hP _ _ _ _ _ (by first | exact fp0 | exact fp1 | exact fp2) _ (tG _)).mono (fun e w' h => ⟨h.1, hall _ (Fq.gtrans (hG _) h.2)⟩)) | (go_at_call 16; exact (hI 16 _ _ _ _ _ _ (by with_reducible first | exact fi0 | exact fi1 | exact fi2 | exact fi3 | exact fi4) _ (tG _)).mono (fun e w' h => ⟨h.1, hall _ (Fq.gtrans (hG _) h.2)⟩)) | (go_at_call 26; exact (hI 26 _ _ _ _ _ _ (by with_reducible first | exact fi0 | exact fi1 | exact fi2 | exact fi3 | exact fi4) _ (tG _)).mono (fun e w' h => ⟨h.1, hall _ (Fq.gtrans (hG _) h.2)⟩)) | (go_at_call 13; exact (hU 13 _ _ _ _ (by with_reducible first | exact fu0 | exact fu1 | exact fu2 | exact fu3 | exact fu4 | exact fu5 | exact fu6 | exact fu7 | exact fu8 | exact fu9) _ (tG _)).mono (fun e w' h => ⟨h.1, hall _ (Fq.gtrans (hG _) h.2)⟩)) | (go_at_call 14; exact (hU 14 _ _ _ _ (by with_reducible first | exact fu0 | exact fu1 | exact fu2 | exact fu3 | exact fu4 | exact fu5 | exact fu6 | exact fu7 | exact fu8 | exact fu9) _ (tG _)).mono (fun e w' h => ⟨h.1, hall _ (Fq.gtrans (hG _) h.2)⟩)) | (go_at_call 25; exact (hU 25 _ _ _ _ (by with_reducible first | exact fu0 | exact fu1 | exact fu2 | exact fu3 | exact fu4 | exact fu5 | exact fu6 | exact fu7 | exact fu8 | exact fu9) _ (tG _)).mono (fun e w' h => ⟨h.1, hall _ (Fq.gtrans (hG _) h.2)⟩)) | (go_at_call 28; exact (hU 28 _ _ _ _ (by with_reducible first | exact fu0 | exact fu1 | exact fu2 | exact fu3 | exact fu4 | exact fu5 | exact fu6 | exact fu7 | exact fu8 | exact fu9) _ (tG _)).mono (fun e w' h => ⟨h.1, hall _ (Fq.gtrans (hG _) h.2)⟩)) | (go_at_call 29; exact (hU 29 _ _ _ _ (by with_reducible first | exact fu0 | exact fu1 | exact fu2 | exact fu3 | exact fu4 | exact fu5 | exact fu6 | exact fu7 | exact fu8 | exact fu9) _ (tG _)).mono (fun e w' h => ⟨h.1, hall _ (Fq.gtrans (hG _) h.2)⟩)) | (go_at_call 30; exact (hU 30 _ _ _ _ (by with_reducible first | exact fu0 | exact fu1 | exact fu2 | exact fu3 | exact fu4 | exact fu5 | exact fu6 | exact fu7 | exact fu8 | exact fu9) _ (tG _)).mono (fun e w' h => ⟨h.1, hall _ (Fq.gtrans (hG _) h.2)⟩)) | (go_at_call 19; exact (hO _ _ _).mono (fun e w' h => ⟨h.1, hall _ (Fq.gtrans (hG _) h.2)⟩)) | (go_at_call 23; exact (hr _).mono (fun e w' h => ⟨h.1, hall _ (Fq.gtrans (hG _) h.2)⟩))))
      refine wpQuiet_nil ?_
      rintro _ ⟨nq, rfl⟩
      have gq : Kp W (G nq) := hG nq
      clear cc0 cc1 cc2 cc3 cc4 cc5 hall hG tG
      go_wp2_with fail
      go_meet
      exact ⟨rfl, gq⟩)
  case rest =>
  obtain ⟨rfl, gw⟩ := hcut
  replace qa := Fq.H2.keep qa gw
  replace qb := Fq.H2.keep qb gw
  replace qX := H48.keep qX gw
  replace hTW := hTW.kp gw
  replace kW := Kp.trans kW gw
  clear gw
  generalize wc = W at qa qb qX hTW kW ⊢
  go_wp2_with fail
  go_loopw [7] (fun i wr => ∃ k : Nat, k ≤ 6 ∧ i = .int .i64 k ∧ Kp W wr) (fun i _ => 6 - (intOf i).toNat)
  case atStart => exact ⟨0, by omega, rfl, Kp.refl _⟩
  case round =>
    obtain ⟨k, hk, rfl, gr⟩ := hrel
    replace qa := Fq.H2.keep qa gr
    replace hTW := hTW.kp gr
    clear qb qX
    by_cases ck : k < 6
    · have i1 : (k : Int) < 6 := by omega
      obtain ⟨a0, a1, a2, a3⟩ := id qa
      go_upto_region 13 with (first | (go_at_call 27; refine (hsA k ck _).mono ?_; rintro e wx ⟨rfl, gx⟩))
      clear a0 a1 a2 a3
      replace gr := Kp.trans gr gx
      replace qa := Fq.H2.past (Fq.H2.keep qa gx) #[.float .f64 (SL k), .float .f64 (SH k)] 25
      have qs := Fq.H2.new wx (.float .f64 (SL k)) (.float .f64 (SH k)) 25
      replace gr := gr.alloc (.cells #[.float .f64 (SL k), .float .f64 (SH k)] 25)
      replace hTW := (hTW.kp gx).kp ((Kp.refl wx).alloc (.cells #[.float .f64 (SL k), .float .f64 (SH k)] 25))
      clear gx
      generalize hW0 : wx.alloc (.cells #[.float .f64 (SL k), .float .f64 (SH k)] 25) = W9 at gr qa qs hTW ⊢
      generalize wx.heap.size = bs at qs ⊢
      clear hW0
      go_upto_region 13 with fail
      go_cut [103] from 90 to 120 (fun s103 wx => s103 = .bool false ∧ Kp W9 wx)
      case first =>
        (
          refine Fq.wp_region_grow (by kernel_rfl) (by kernel_rfl) (fun ι _ G hG hall => ?_)
          have tG : ∀ n, TU7 (G n) := fun n => hTW.kp (hG n)
          have cc0 : ∀ n, (G n).cell? ⟨ba, 0, none⟩ = some (.float .f64 A1) := fun n => Fq.gkeep (hG n) qa.1
          have cc1 : ∀ n, (G n).cell? ⟨ba, 1, none⟩ = some (.float .f64 A2) := fun n => Fq.gkeep (hG n) qa.2.1
          have cc2 : ∀ n, (G n).cell? ⟨bs, 0, none⟩ = some (.float .f64 (SL k)) := fun n => Fq.gkeep (hG n) qs.1
          have cc3 : ∀ n, (G n).cell? ⟨bs, 1, none⟩ = some (.float .f64 (SH k)) := fun n => Fq.gkeep (hG n) qs.2.1
          repeat (go_big_quiet_step (first | (go_at_call 27; exact (hsS k ck _).mono (fun e w' h => ⟨h.1, hall _ (Fq.gtrans (hG _) h.2)⟩)) | (go_at_call 19; exact (hO _ _ _).mono (fun e w' h => ⟨h.1, hall _ (Fq.gtrans (hG _) h.2)⟩))))
          refine wpQuiet_nil ?_
          rintro _ ⟨nq, rfl⟩
          have gq : Kp W9 (G nq) := hG nq
          clear cc0 cc1 cc2 cc3 hall hG tG
          go_wp2_with fail
          go_meet
          exact ⟨rfl, gq⟩)
      case rest =>
      obtain ⟨rfl, gw⟩ := hcut
      replace qa := Fq.H2.keep qa gw
      replace qs := Fq.H2.keep qs gw
      replace hTW := hTW.kp gw
      replace gr := Kp.trans gr gw
      clear gw
      generalize wc = W9 at qa qs hTW gr ⊢
      go_upto_region 15 with fail
      by_cases ck1 : k = 1
      · have j1 : ((k : Int) != 1) = false := by simp; omega
        refine Fq.wp_region_grow (by kernel_rfl) (by kernel_rfl) (fun ι _ G hG hall => ?_)
        have tG : ∀ n, TU7 (G n) := fun n => hTW.kp (hG n)
        have cc0 : ∀ n, (G n).cell? ⟨ba, 0, none⟩ = some (.float .f64 A1) := fun n => Fq.gkeep (hG n) qa.1
        have cc1 : ∀ n, (G n).cell? ⟨ba, 1, none⟩ = some (.float .f64 A2) := fun n => Fq.gkeep (hG n) qa.2.1
        have cc2 : ∀ n, (G n).cell? ⟨bs, 0, none⟩ = some (.float .f64 (SL k)) := fun n => Fq.gkeep (hG n) qs.1
        have cc3 : ∀ n, (G n).cell? ⟨bs, 1, none⟩ = some (.float .f64 (SH k)) := fun n => Fq.gkeep (hG n) qs.2.1
        repeat (go_big_quiet_step (first | fail))
        refine wpQuiet_nil ?_
        rintro _ ⟨nq, rfl⟩
        have gq : Kp W9 (G nq) := hG nq
        clear cc0 cc1 cc2 cc3 hall hG tG
        go_wp2
        exact ⟨⟨k + 1, by omega, by go_num, Kp.trans gr gq⟩, by simp [intOf]; omega⟩
      · have j1 : ((k : Int) != 1) = true := by simp; omega
        by_cases ck2 : k = 2
        · have j2 : ((k : Int) != 2) = false := by simp; omega
          refine Fq.wp_region_grow (by kernel_rfl) (by kernel_rfl) (fun ι _ G hG hall => ?_)
          have tG : ∀ n, TU7 (G n) := fun n => hTW.kp (hG n)
          have cc0 : ∀ n, (G n).cell? ⟨ba, 0, none⟩ = some (.float .f64 A1) := fun n => Fq.gkeep (hG n) qa.1
          have cc1 : ∀ n, (G n).cell? ⟨ba, 1, none⟩ = some (.float .f64 A2) := fun n => Fq.gkeep (hG n) qa.2.1
          have cc2 : ∀ n, (G n).cell? ⟨bs, 0, none⟩ = some (.float .f64 (SL k)) := fun n => Fq.gkeep (hG n) qs.1
          have cc3 : ∀ n, (G n).cell? ⟨bs, 1, none⟩ = some (.float .f64 (SH k)) := fun n => Fq.gkeep (hG n) qs.2.1
          repeat (go_big_quiet_step (first | fail))
          refine wpQuiet_nil ?_
          rintro _ ⟨nq, rfl⟩
          have gq : Kp W9 (G nq) := hG nq
          clear cc0 cc1 cc2 cc3 hall hG tG
          go_wp2
          exact ⟨⟨k + 1, by omega, by go_num, Kp.trans gr gq⟩, by simp [intOf]; omega⟩
        · have j2 : ((k : Int) != 2) = true := by simp; omega
          refine Fq.wp_region_grow (by kernel_rfl) (by kernel_rfl) (fun ι _ G hG hall => ?_)
          have tG : ∀ n, TU7 (G n) := fun n => hTW.kp (hG n)
          have cc0 : ∀ n, (G n).cell? ⟨ba, 0, none⟩ = some (.float .f64 A1) := fun n => Fq.gkeep (hG n) qa.1
          have cc1 : ∀ n, (G n).cell? ⟨ba, 1, none⟩ = some (.float .f64 A2) := fun n => Fq.gkeep (hG n) qa.2.1
          have cc2 : ∀ n, (G n).cell? ⟨bs, 0, none⟩ = some (.float .f64 (SL k)) := fun n => Fq.gkeep (hG n) qs.1
          have cc3 : ∀ n, (G n).cell? ⟨bs, 1, none⟩ = some (.float .f64 (SH k)) := fun n => Fq.gkeep (hG n) qs.2.1
          repeat (go_big_quiet_step (first | (go_at_call_of 30 (Value.agg #[.float .f64 A1, .float .f64 A2]); exact (hU 30 _ _ _ _ fu2 _ (tG _)).mono (fun e w' h => ⟨h.1, hall _ (Fq.gtrans (hG _) h.2)⟩)) | (go_at_call 30; exact (hU 30 _ _ _ _ (fuN k ck) _ (tG _)).mono (fun e w' h => ⟨h.1, hall _ (Fq.gtrans (hG _) h.2)⟩)) | (go_at_call 27; exact (hsN k ck ck1 ck2 _).mono (fun e w' h => ⟨h.1, hall _ (Fq.gtrans (hG _) h.2)⟩)) | (go_at_call 19; exact (hO _ _ _).mono (fun e w' h => ⟨h.1, hall _ (Fq.gtrans (hG _) h.2)⟩))))
          refine wpQuiet_nil ?_
          rintro _ ⟨nq, rfl⟩
          have gq : Kp W9 (G nq) := hG nq
          clear cc0 cc1 cc2 cc3 hall hG tG
          go_wp2
          exact ⟨⟨k + 1, by omega, by go_num, Kp.trans gr gq⟩, by simp [intOf]; omega⟩
    · have i1 : ¬ ((k : Int) < 6) := by omega
      go_wp2_with (first | (go_at_call 10; refine (hlv _ hTW).mono ?_; rintro e wx ⟨rfl, gx⟩))
      exact bodyPost_ret (v := .bool true) (by simp [results, Tryz.results6, go_sem]) rfl ⟨rfl, (Kp.trans (Kp.trans kW gr) gx)⟩
end Go.Proofs.YthdnajcgdngmcaaGreatDoor
namespace Go.Proofs.YthdnajcgdngmcaaGreatDoor
open Go.RowKit
set_option linter.unusedVariables false
theorem min_sym (L1 H1 L2 H2 : Int) : minLo L2 H2 L1 H1 = minLo L1 H1 L2 H2 ∧ minHi L2 H2 L1 H1 = minHi L1 H1 L2 H2 := by
  unfold minLo minHi
  refine ⟨?_, ?_⟩ <;> (repeat' split) <;> omega
theorem max_sym (L1 H1 L2 H2 : Int) : maxLo L2 H2 L1 H1 = maxLo L1 H1 L2 H2 ∧ maxHi L2 H2 L1 H1 = maxHi L1 H1 L2 H2 := by
  unfold maxLo maxHi
  refine ⟨?_, ?_⟩ <;> (repeat' split) <;> omega
theorem min_max (L1 H1 L2 H2 : Int) (d1 : VdZ L1 H1) (d2 : VdZ L2 H2) : -(maxHi (-H1) (-L1) (-H2) (-L2)) = minLo L1 H1 L2 H2 ∧ -(maxLo (-H1) (-L1) (-H2) (-L2)) = minHi L1 H1 L2 H2 := by
  unfold maxLo maxHi minLo minHi VdZ at *
  refine ⟨?_, ?_⟩ <;> (repeat' split) <;> omega
theorem bs_neg (L H : Int) (d : VdZ L H) : bsLo (-H) (-L) = bsLo L H ∧ bsHi (-H) (-L) = bsHi L H := by
  unfold bsLo bsHi sMl sMh VdZ at *
  refine ⟨?_, ?_⟩ <;> (repeat' split) <;> omega
theorem g_again (K : Nat) (hK : K = 1074) (k : Nat) (L H : Int) (d : VdZ L H) : gLo K k (gLo K k L H) (gHi K k L H) = gLo K k L H ∧ gHi K k (gLo K k L H) (gHi K k L H) = gHi K k L H := by
  have v := g_vd K hK k L H d
  by_cases c : L = 9218868437227405312
  · have e1 : gLo K k L H = 9218868437227405312 := by unfold gLo; rw [if_pos c]
    have e2 : gHi K k L H = -9218868437227405312 := by unfold gHi; rw [if_pos c]
    rw [e1, e2]
    unfold gLo gHi; rw [if_pos rfl, if_pos rfl]; exact ⟨rfl, rfl⟩
  · have e1 : gLo K k L H = stZ K k L := by unfold gLo; rw [if_neg c]
    have e2 : gHi K k L H = stZ K k H := by unfold gHi; rw [if_neg c]
    have v2 := stZ_vd K hK k L H d c
    have n2 : stZ K k L ≠ 9218868437227405312 := by
      have m := stZ_mono K hK k L H d.lo d.hi (by unfold VdZ at d; omega)
      unfold VdZ at v2; omega
    rw [e1, e2]
    unfold gLo gHi
    rw [if_neg n2, if_neg n2]
    exact ⟨stZ_again K hK k L d.lo, stZ_again K hK k H d.hi⟩
theorem g_neg (K : Nat) (hK : K = 1074) (k : Nat) (h : k ≠ 1 ∧ k ≠ 2) (L H : Int) (d : VdZ L H) : gLo K k (-H) (-L) = -(gHi K k L H) ∧ gHi K k (-H) (-L) = -(gLo K k L H) := by
  unfold gLo gHi
  by_cases c : L = 9218868437227405312
  · have : -H = 9218868437227405312 := by unfold VdZ at d; omega
    rw [if_pos c, if_pos c, if_pos this, if_pos this]; exact ⟨by omega, by omega⟩
  · have : ¬ -H = 9218868437227405312 := by unfold VdZ at d; omega
    rw [if_neg c, if_neg c, if_neg this, if_neg this]
    exact ⟨stZ_neg K hK k h H d.hi, stZ_neg K hK k h L d.lo⟩
theorem g_12 (K : Nat) (hK : K = 1074) (L H : Int) (d : VdZ L H) : -(gHi K 1 (-H) (-L)) = gLo K 2 L H ∧ -(gLo K 1 (-H) (-L)) = gHi K 2 L H := by
  unfold gLo gHi
  by_cases c : L = 9218868437227405312
  · have : -H = 9218868437227405312 := by unfold VdZ at d; omega
    rw [if_pos c, if_pos c, if_pos this, if_pos this]; exact ⟨by omega, by omega⟩
  · have : ¬ -H = 9218868437227405312 := by unfold VdZ at d; omega
    rw [if_neg c, if_neg c, if_neg this, if_neg this]
    exact ⟨(stZ_12 K hK L d.lo).symm, (stZ_12 K hK H d.hi).symm⟩
theorem proads_ (a b c d : Nat) (ha : a < 18446744073709551616) (hb : b < 18446744073709551616) (hc : c < 18446744073709551616) (hd : d < 18446744073709551616) (w : World) (hT : Tab w) (hQ : Fq.Tab w) : Calls Tryz.prog 6 #[.agg #[.int .u64 ((a : Nat) : Int), .int .u64 ((b : Nat) : Int)], .agg #[.int .u64 ((c : Nat) : Int), .int .u64 ((d : Nat) : Int)]] w fun e w' => e = .returned (.bool true) ∧ Kp w w' := by
  obtain ⟨K, hK⟩ : ∃ K : Nat, K = 1074 := ⟨_, rfl⟩
  obtain ⟨L1, H1, r1⟩ := Rd.ex a b ha hb
  obtain ⟨L2, H2, r2⟩ := Rd.ex c d hc hd
  have d1 := r1.vd
  have d2 := r2.vd
  have n1 := vd_neg _ _ d1
  have n2 := vd_neg _ _ d2
  have rn1 := Rd.of n1
  have rn2 := Rd.of n2
  have p1 := fun w h => pown9_ K hK a b L1 H1 1 r1 w h
  rw [(n_one K L1 H1 d1).1, (n_one K L1 H1 d1).2] at p1
  have p2 := fun w h => pown9_ K hK a b L1 H1 2 r1 w h
  rw [(n_two K L1 H1 d1).1, (n_two K L1 H1 d1).2] at p2
  have p3 := fun w h => pown9_ K hK a b L1 H1 (-1) r1 w h
  rw [(n_inv K hK L1 H1 d1).1, (n_inv K hK L1 H1 d1).2] at p3
  have i1 := fun w => minP9_ a b c d L1 H1 L2 H2 r1 r2 w
  have i2 := fun w => maxP9_ _ _ _ _ _ _ _ _ rn1 rn2 w
  have i3 := fun w => minP9_ c d a b L2 H2 L1 H1 r2 r1 w
  rw [(min_sym L1 H1 L2 H2).1, (min_sym L1 H1 L2 H2).2] at i3
  have i4 := fun w => maxP9_ a b c d L1 H1 L2 H2 r1 r2 w
  have i5 := fun w => maxP9_ c d a b L2 H2 L1 H1 r2 r1 w
  rw [(max_sym L1 H1 L2 H2).1, (max_sym L1 H1 L2 H2).2] at i5
  have u1 := fun w h => sqr9_ K hK a b L1 H1 r1 w h
  have u2 := fun w h => recip9_ K hK a b L1 H1 r1 w h
  have u3 := fun w => neg9_ a b L1 H1 r1 w
  have u4 := fun w => neg9_ c d L2 H2 r2 w
  have u5 := fun w => neg9_ _ _ _ _ (Rd.of (vd_maxP _ _ _ _ n1 n2)) w
  rw [(min_max L1 H1 L2 H2 d1 d2).1, (min_max L1 H1 L2 H2 d1 d2).2] at u5
  have u6 := fun w => stepB2_ K hK a b L1 H1 r1 w
  have u7 := fun w => stepB1_ K hK _ _ _ _ rn1 w
  have u8 := fun w => neg9_ _ _ _ _ (Rd.of (g_vd K hK 1 _ _ n1)) w
  rw [(g_12 K hK L1 H1 d1).1, (g_12 K hK L1 H1 d1).2] at u8
  have u9 := fun w => absP9_ a b L1 H1 r1 w
  have u10 := fun w => absP9_ _ _ _ _ rn1 w
  rw [(bs_neg L1 H1 d1).1, (bs_neg L1 H1 d1).2] at u10
  have s2 : ∀ k : Nat, k < 6 → ∀ w : World, Calls Tryz.prog 27 #[.int .i64 (k : Int), .agg #[.float .f64 (pw (gLo K k L1 H1)), .float .f64 (pw (gHi K k L1 H1))]] w fun e w' => e = .returned (.agg #[.float .f64 (pw (gLo K k L1 H1)), .float .f64 (pw (gHi K k L1 H1))]) ∧ Kp w w' := fun k hk w => by
    have h := step9_ K hK k hk _ _ _ _ (Rd.of (g_vd K hK k L1 H1 d1)) w
    rw [(g_again K hK k L1 H1 d1).1, (g_again K hK k L1 H1 d1).2] at h
    exact h
  have s3 : ∀ k : Nat, k < 6 → k ≠ 1 → k ≠ 2 → ∀ w : World, Calls Tryz.prog 27 #[.int .i64 (k : Int), .agg #[.float .f64 (pw (-H1)), .float .f64 (pw (-L1))]] w fun e w' => e = .returned (.agg #[.float .f64 (pw (-(gHi K k L1 H1))), .float .f64 (pw (-(gLo K k L1 H1)))]) ∧ Kp w w' := fun k hk h1 h2 w => by
    have h := step9_ K hK k hk _ _ _ _ rn1 w
    rw [(g_neg K hK k ⟨h1, h2⟩ L1 H1 d1).1, (g_neg K hK k ⟨h1, h2⟩ L1 H1 d1).2] at h
    exact h
  exact proadsA_ _ _ _ _ a b c d (pw (L1)) (pw (H1)) (pw (sLo K L1 H1)) (pw (sHi K L1 H1)) (pw (dLo K 4607182418800017408 4607182418800017408 L1 H1)) (pw (dHi K 4607182418800017408 4607182418800017408 L1 H1)) (pw (minLo L1 H1 L2 H2)) (pw (minHi L1 H1 L2 H2)) (pw (-H1)) (pw (-L1)) (pw (-H2)) (pw (-L2)) (pw (maxLo (-H1) (-L1) (-H2) (-L2))) (pw (maxHi (-H1) (-L1) (-H2) (-L2))) (pw (maxLo L1 H1 L2 H2)) (pw (maxHi L1 H1 L2 H2)) (pw (gLo K 2 L1 H1)) (pw (gHi K 2 L1 H1)) (pw (gLo K 1 (-H1) (-L1))) (pw (gHi K 1 (-H1) (-L1))) (pw (bsLo L1 H1)) (pw (bsHi L1 H1)) (fun x1 x2 N z1 z2 => ∀ w : World, TU7 w → Calls Tryz.prog 11 #[.agg #[.float .f64 x1, .float .f64 x2], .int .i64 N] w fun e w' => e = .returned (.agg #[.float .f64 z1, .float .f64 z2]) ∧ Kp w w') (fun f x1 x2 y1 y2 z1 z2 => ∀ w : World, TU7 w → Calls Tryz.prog f #[.agg #[.float .f64 x1, .float .f64 x2], .agg #[.float .f64 y1, .float .f64 y2]] w fun e w' => e = .returned (.agg #[.float .f64 z1, .float .f64 z2]) ∧ Kp w w') (fun f x1 x2 z1 z2 => ∀ w : World, TU7 w → Calls Tryz.prog f #[.agg #[.float .f64 x1, .float .f64 x2]] w fun e w' => e = .returned (.agg #[.float .f64 z1, .float .f64 z2]) ∧ Kp w w') (fun _ _ _ _ _ h => h) (fun _ _ _ _ _ _ _ h => h) (fun _ _ _ _ _ h => h) (fun x => (x : Int)) (fun x1 x2 w => out9_ x1 x2 w) (in9_ a b) (in9_ c d) (rread9_ a b L1 H1 r1) p1 p2 p3 (fun w _ => i1 w) (fun w _ => i2 w) (fun w _ => i3 w) (fun w _ => i4 w) (fun w _ => i5 w) u1 u2 (fun w _ => u3 w) (fun w _ => u4 w) (fun w _ => u5 w) (fun w _ => u6 w) (fun w _ => u7 w) (fun w _ => u8 w) (fun w _ => u9 w) (fun w _ => u10 w) (fun k => pw (gLo K k L1 H1)) (fun k => pw (gHi K k L1 H1)) (fun k => pw (-(gHi K k L1 H1))) (fun k => pw (-(gLo K k L1 H1))) (fun k hk w => step9_ K hK k hk a b L1 H1 r1 w) s2 s3 (fun k hk w _ => neg9_ _ _ _ _ (Rd.of (g_vd K hK k L1 H1 d1)) w) lives7_ w ⟨hT, hQ⟩
end Go.Proofs.YthdnajcgdngmcaaGreatDoor
