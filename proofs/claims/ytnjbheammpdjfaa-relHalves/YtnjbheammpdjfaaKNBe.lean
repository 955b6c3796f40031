import Derived.Test.YtnjbheammpdjfaaProg
import Derived.Test.YtnjbheammpdjfaaKXA0
import Derived.Test.YtnjbheammpdjfaaKXQF
import Derived.Test.YtnjbheammpdjfaaKQA
import Derived.Test.YtnjbheammpdjfaaKXQU
import Derived.Test.YtnjbheammpdjfaaKXEA
import Derived.Test.YtnjbheammpdjfaaKXNR
import Derived.Test.YtnjbheammpdjfaaKXNS9
import Derived.Test.YtnjbheammpdjfaaKXNB
import Derived.Test.YtnjbheammpdjfaaKNBd
import Derived.Test.YtnjbheammpdjfaaKQP
import Derived.Test.YtnjbheammpdjfaaKXQD
import Derived.Test.YtnjbheammpdjfaaKXMI
import Derived.Test.YtnjbheammpdjfaaKXEE
import Derived.WalkKit
import Derived.ProofKit
import Derived.RowKit3
import Derived.WalkSpells
import Derived.StillTactics
import Derived.Deep.QuietTactic
import Derived.BigQuiet
import Derived.Below
import Derived.Deep.OwnRows
import Derived.OwnWalk
import Derived.Laws.BitsAllLaws
import Derived.Laws.Slices
import Derived.Laws.Bits64b
import Derived.Laws.FloatArith
import Derived.Deep.RegionHeld3
import Derived.Deep.CutRange
import Derived.Deep.DeepCutAuto
namespace Go.Proofs.Ytnjbheammpdjfaa
open Go.RowKit
set_option maxRecDepth 20000 in
set_option maxHeartbeats 4000000 in
theorem halvesA_ (X1 X2 P1 P2 Q1 Q2 : Int) (A1 A2 B1 B2 a b : Nat) (V : Bool) (hi : ∀ w : World, Calls Try.prog 26 #[.agg #[.int .u64 X1, .int .u64 X2]] w fun e w' => e = .returned (.agg #[.float .f64 a, .float .f64 b]) ∧ Kp w w') (hp : ∀ w : World, Calls Try.prog 24 #[.agg #[.float .f64 a, .float .f64 b]] w fun e w' => e = .returned (.tuple #[.agg #[.float .f64 A1, .float .f64 A2], .agg #[.float .f64 B1, .float .f64 B2], .bool V]) ∧ Kp w w') (hr : ∀ w : World, Calls Try.prog 28 #[.agg #[.int .u64 X1, .int .u64 X2]] w fun e w' => e = .returned (.tuple #[.agg #[.int .u64 P1, .int .u64 P2], .agg #[.int .u64 Q1, .int .u64 Q2], .bool V]) ∧ Kp w w') (ho1 : ∀ w : World, Calls Try.prog 25 #[.agg #[.float .f64 A1, .float .f64 A2]] w fun e w' => e = .returned (.agg #[.int .u64 P1, .int .u64 P2]) ∧ Kp w w') (ho2 : ∀ w : World, Calls Try.prog 25 #[.agg #[.float .f64 B1, .float .f64 B2]] w fun e w' => e = .returned (.agg #[.int .u64 Q1, .int .u64 Q2]) ∧ Kp w w') (w : World) : Calls Try.prog 5 #[.agg #[.int .u64 X1, .int .u64 X2]] w fun e w' => e = .returned (.bool true) ∧ Kp w w' := by
  go_enter Try.func5, Try.ntmps5
  go_upto_region 3 with (first | (go_at_call 26; refine (hi _).mono ?_; rintro e w1 ⟨rfl, g1⟩; have k1 : Kp w w1 := Kp.trans ((Kp.refl w).alloc _) g1; have x0 := Fq.H2.keep (Fq.H2.new w (.int .u64 X1) (.int .u64 X2) 38) g1) | (go_at_call 24; refine (hp _).mono ?_; rintro e w2 ⟨rfl, g2⟩; have k2 := Kp.trans k1 g2; have x1 := Fq.H2.keep x0 g2; have x2 := fun o o2 => (Fq.H2.keep x1 (((Kp.refl w2).alloc o).alloc o2)).1; have x3 := fun o o2 => (Fq.H2.keep x1 (((Kp.refl w2).alloc o).alloc o2)).2.1) | (go_at_call 28; refine (hr _).mono ?_; rintro e w3 ⟨rfl, g3⟩))
  have ql : Fq.H2 ((w3.alloc (.cells #[.int .u64 P1, .int .u64 P2] 38)).alloc (.cells #[.int .u64 Q1, .int .u64 Q2] 38)) w2.heap.size (.float .f64 A1) (.float .f64 A2) := Fq.H2.keep (Fq.H2.past (Fq.H2.new w2 (.float .f64 A1) (.float .f64 A2) 25) #[.float .f64 B1, .float .f64 B2] 25) (Kp.trans g3 (((Kp.refl w3).alloc _).alloc _))
  have qr : Fq.H2 ((w3.alloc (.cells #[.int .u64 P1, .int .u64 P2] 38)).alloc (.cells #[.int .u64 Q1, .int .u64 Q2] 38)) (w2.heap.size + 1) (.float .f64 B1) (.float .f64 B2) := Fq.H2.keep (Fq.H2.two0 w2 (.float .f64 A1) (.float .f64 A2) (.float .f64 B1) (.float .f64 B2) 25 25) (Kp.trans g3 (((Kp.refl w3).alloc _).alloc _))
  have qp : Fq.H2 ((w3.alloc (.cells #[.int .u64 P1, .int .u64 P2] 38)).alloc (.cells #[.int .u64 Q1, .int .u64 Q2] 38)) w3.heap.size (.int .u64 P1) (.int .u64 P2) := Fq.H2.past (Fq.H2.new w3 _ _ 38) _ _
  have qq : Fq.H2 ((w3.alloc (.cells #[.int .u64 P1, .int .u64 P2] 38)).alloc (.cells #[.int .u64 Q1, .int .u64 Q2] 38)) (w3.heap.size + 1) (.int .u64 Q1) (.int .u64 Q2) := Fq.H2.two0 w3 _ _ _ _ _ _
  have kW : Kp w ((w3.alloc (.cells #[.int .u64 P1, .int .u64 P2] 38)).alloc (.cells #[.int .u64 Q1, .int .u64 Q2] 38)) := ((Kp.trans ((k2.alloc _).alloc _) g3).alloc _).alloc _
  generalize hW : (w3.alloc (.cells #[.int .u64 P1, .int .u64 P2] 38)).alloc (.cells #[.int .u64 Q1, .int .u64 Q2] 38) = W at ql qr qp qq kW ⊢
  generalize w2.heap.size = bl at ql qr ⊢
  generalize w3.heap.size = bp at qp qq ⊢
  clear hW k1 k2 g1 g2 g3 x0 x1 x2 x3 hi hp hr
  refine Fq.wp_region_grow (by kernel_rfl) (by kernel_rfl) (fun ι _ G hG hall => ?_)
  have cc0 : ∀ n, (G n).cell? ⟨bl, 0, none⟩ = some (.float .f64 A1) := fun n => Fq.gkeep (hG n) ql.1
  have cc1 : ∀ n, (G n).cell? ⟨bl, 1, none⟩ = some (.float .f64 A2) := fun n => Fq.gkeep (hG n) ql.2.1
  have cc2 : ∀ n, (G n).cell? ⟨bl + 1, 0, none⟩ = some (.float .f64 B1) := fun n => Fq.gkeep (hG n) qr.1
  have cc3 : ∀ n, (G n).cell? ⟨bl + 1, 1, none⟩ = some (.float .f64 B2) := fun n => Fq.gkeep (hG n) qr.2.1
  have cc4 : ∀ n, (G n).cell? ⟨bp, 0, none⟩ = some (.int .u64 P1) := fun n => Fq.gkeep (hG n) qp.1
  have cc5 : ∀ n, (G n).cell? ⟨bp, 1, none⟩ = some (.int .u64 P2) := fun n => Fq.gkeep (hG n) qp.2.1
  have cc6 : ∀ n, (G n).cell? ⟨bp + 1, 0, none⟩ = some (.int .u64 Q1) := fun n => Fq.gkeep (hG n) qq.1
  have cc7 : ∀ n, (G n).cell? ⟨bp + 1, 1, none⟩ = some (.int .u64 Q2) := fun n => Fq.gkeep (hG n) qq.2.1
  repeat (go_big_quiet_step (first | (go_at_call_of 25 (Value.agg #[.float .f64 A1, .float .f64 A2]); exact (ho1 _).mono (fun e w' h => ⟨h.1, hall _ (Fq.gtrans (hG _) h.2)⟩)) | (go_at_call_of 25 (Value.agg #[.float .f64 B1, .float .f64 B2]); exact (ho2 _).mono (fun e w' h => ⟨h.1, hall _ (Fq.gtrans (hG _) h.2)⟩))))
  refine wpQuiet_nil ?_
  rintro _ ⟨nq, rfl⟩
  have gq : Kp W (G nq) := hG nq
  clear cc0 cc1 cc2 cc3 cc4 cc5 cc6 cc7 hall hG
  go_wp2
  exact bodyPost_ret (v := .bool true) (by simp [results, Try.results5, go_sem]) rfl ⟨rfl, (Kp.trans kW gq)⟩

theorem par9 (L H : Int) (h : (L = 9218868437227405312 ∨ L = -9218868437227405312) ∨ (H = 9218868437227405312 ∨ H = -9218868437227405312)) : L % 2 = 0 ∨ H % 2 = 0 := by omega
theorem rpl9_ (L : Int) (h : BdZ L) (w : World) : Calls Try.prog 51 #[.bool true, .int .u64 (pI L)] w fun e w' => e = .returned (.tuple #[.int .i64 L, .bool true]) ∧ Kp w w' := by
  have g := Fq.rplace_D (decide (L < 0)) L.natAbs (abs_pw L h) w
  rw [plz_pw] at g
  exact g
theorem rat9_ (p : Int) (h : BdZ p) (w : World) : Calls Try.prog 53 #[.bool true, .int .i64 p] w fun e w' => e = .returned (.tuple #[.int .u64 (pI p), .bool true]) ∧ Kp w w' := Fq.rat_D p h.1 h.2 w
set_option maxHeartbeats 2000000 in
theorem halves_ (a b : Nat) (ha : a < 18446744073709551616) (hb : b < 18446744073709551616) (w : World) : Calls Try.prog 5 #[.agg #[.int .u64 ((a : Nat) : Int), .int .u64 ((b : Nat) : Int)]] w fun e w' => e = .returned (.bool true) ∧ Kp w w' := by
  obtain ⟨L, H, r⟩ := Rd.ex a b ha hb
  have d := r.vd
  have bl := d.lo
  have bh := d.hi
  have hr := rread9_ a b L H r
  have o0 : ∀ w : World, Calls Try.prog 25 #[.agg #[.float .f64 0, .float .f64 0]] w fun e w' => e = .returned (.agg #[.int .u64 0, .int .u64 0]) ∧ Kp w w' := out9_ 0 0
  have i1 := pI_inj L 9218868437227405312 d.lo (by unfold BdZ; omega)
  rw [show pI 9218868437227405312 = 9218868437227405312 from by decide] at i1
  have dd := d
  unfold VdZ at dd
  by_cases c1 : L = 9218868437227405312
  · have hH : H = -9218868437227405312 := by omega
    exact halvesA_ _ _ _ _ _ _ _ _ _ _ a b false (in9_ a b) (bisN9_ a b L H r (by omega)) (rbisE_ _ _ _ _ hr (by simpa using i1.2 c1) (by rw [hH]; decide)) o0 o0 w
  have t1 : (pI L == 9218868437227405312) = false := by simpa using fun h => c1 (i1.1 h)
  by_cases c2 : H ≤ L + 1
  · exact halvesA_ _ _ _ _ _ _ _ _ _ _ a b false (in9_ a b) (bisN9_ a b L H r c2) (rbisN_ _ _ _ _ L H bl bh hr t1 (rpl9_ L d.lo) (rpl9_ H d.hi) c2) o0 o0 w
  have c3 : L + 1 < H := by omega
  obtain ⟨s, x, hm1, hm2, _⟩ := mid_both (pw L) (pw H) (pw_lt L d.lo) (pw_lt H d.hi)
  by_cases c4 : (L = 9218868437227405312 ∨ L = -9218868437227405312) ∨ (H = 9218868437227405312 ∨ H = -9218868437227405312)
  · have hc := cutP9_ L H d c4
    have hb2 : BdZ (L / 2 + H / 2) := by unfold BdZ; omega
    have hh := floorHalf_ L H bl bh (par9 L H c4)
    have hpp := bisC9_ a b L H r c3 _ hc
    rcases c4 with c4 | c4
    · have j1 := isinf9_ L d.lo
      rw [decide_eq_true c4] at j1
      exact halvesA_ _ _ _ _ _ _ _ _ _ _ a b true (in9_ a b) hpp (rbisL_ _ _ _ _ L H bl bh hr t1 (rpl9_ L d.lo) (rpl9_ H d.hi) c3 _ _ _ _ hh (rat9_ _ hb2) hm2 j1 (isinf9_ H d.hi)) (out9_ _ _) (out9_ _ _) w
    · by_cases c5 : L = 9218868437227405312 ∨ L = -9218868437227405312
      · have j1 := isinf9_ L d.lo
        rw [decide_eq_true c5] at j1
        exact halvesA_ _ _ _ _ _ _ _ _ _ _ a b true (in9_ a b) hpp (rbisL_ _ _ _ _ L H bl bh hr t1 (rpl9_ L d.lo) (rpl9_ H d.hi) c3 _ _ _ _ hh (rat9_ _ hb2) hm2 j1 (isinf9_ H d.hi)) (out9_ _ _) (out9_ _ _) w
      · have j1 := isinf9_ L d.lo
        have j2 := isinf9_ H d.hi
        rw [decide_eq_false c5] at j1
        rw [decide_eq_true c4] at j2
        exact halvesA_ _ _ _ _ _ _ _ _ _ _ a b true (in9_ a b) hpp (rbisH_ _ _ _ _ L H bl bh hr t1 (rpl9_ L d.lo) (rpl9_ H d.hi) c3 _ _ _ hh (rat9_ _ hb2) hm2 j1 j2) (out9_ _ _) (out9_ _ _) w
  · have hc := cutM9_ L H d c4 _ hm1
    have j1 := isinf9_ L d.lo
    have j2 := isinf9_ H d.hi
    rw [decide_eq_false (fun h => c4 (Or.inl h))] at j1
    rw [decide_eq_false (fun h => c4 (Or.inr h))] at j2
    exact halvesA_ _ _ _ _ _ _ _ _ _ _ a b true (in9_ a b) (bisC9_ a b L H r c3 _ hc) (rbisM_ _ _ _ _ L H bl bh hr t1 (rpl9_ L d.lo) (rpl9_ H d.hi) c3 _ hm2 j1 j2) (out9_ _ _) (out9_ _ _) w
end Go.Proofs.Ytnjbheammpdjfaa
