import Derived.Test.YtolghomhigemgaaKXQF
import Derived.Test.YtolghomhigemgaaProg
import Derived.Test.YtolghomhigemgaaKQA
import Derived.Test.YtolghomhigemgaaKXQU
import Derived.Laws.FloatArith
import Derived.WalkKit
import Derived.ProofKit
import Derived.RowKit3
import Derived.Deep.RegionHeld3
import Derived.WalkSpells
import Derived.StillTactics
import Derived.Deep.QuietTactic
import Derived.BigQuiet
import Derived.Below
import Derived.Laws.BitsAllLaws
import Derived.Laws.Slices
import Derived.Laws.Bits64b
namespace Go.Proofs.Ytolghomhigemgaa
open Go.RowKit
namespace Fq

/-- -0 as 0 -/
def pla (x : Nat) : Nat := if x = 9223372036854775808 then 0 else x
open Ieee in
theorem feq (n n' : Bool) (m m' : Nat) (h : m < 9223372036854775808) (h' : m' < 9223372036854775808) : (FloatKind.f64.format.order (wD n m) (wD n' m') == some Ordering.eq) = decide (m ≤ 9218868437227405312 ∧ m' ≤ 9218868437227405312 ∧ plz n m = plz n' m') := by
  by_cases c : 9218868437227405312 < m
  · rw [ordD_nanl n m _ c h, decide_eq_false (by omega)]; rfl
  by_cases c' : 9218868437227405312 < m'
  · rw [ordD_nanr n' m' _ c' h', decide_eq_false (by omega)]; rfl
  rw [ordD n n' m m' (by omega) (by omega)]
  by_cases e : plz n m = plz n' m'
  · rw [cmp_eq e, decide_eq_true ⟨by omega, by omega, e⟩]; rfl
  · rw [decide_eq_false (fun x => e x.2.2)]
    rcases Int.lt_or_gt_of_ne e with g | g
    · rw [cmp_lt g]; rfl
    · rw [cmp_gt g]; rfl
open Ieee in
theorem fle (n n' : Bool) (m m' : Nat) (h : m < 9223372036854775808) (h' : m' < 9223372036854775808) : (FloatKind.f64.format.order (wD n m) (wD n' m') == some Ordering.lt || FloatKind.f64.format.order (wD n m) (wD n' m') == some Ordering.eq) = decide (m ≤ 9218868437227405312 ∧ m' ≤ 9218868437227405312 ∧ plz n m ≤ plz n' m') := by
  by_cases c : 9218868437227405312 < m
  · rw [ordD_nanl n m _ c h, decide_eq_false (by omega)]; rfl
  by_cases c' : 9218868437227405312 < m'
  · rw [ordD_nanr n' m' _ c' h', decide_eq_false (by omega)]; rfl
  rw [ordD n n' m m' (by omega) (by omega)]
  rcases Int.lt_trichotomy (plz n m) (plz n' m') with g | g | g
  · rw [cmp_lt g, decide_eq_true ⟨by omega, by omega, by omega⟩]; rfl
  · rw [cmp_eq g, decide_eq_true ⟨by omega, by omega, by omega⟩]; rfl
  · rw [cmp_gt g, decide_eq_false (by omega)]; rfl
open Ieee in
theorem flt (n n' : Bool) (m m' : Nat) (h : m < 9223372036854775808) (h' : m' < 9223372036854775808) : (FloatKind.f64.format.order (wD n m) (wD n' m') == some Ordering.lt) = decide (m ≤ 9218868437227405312 ∧ m' ≤ 9218868437227405312 ∧ plz n m < plz n' m') := by
  by_cases c : 9218868437227405312 < m
  · rw [ordD_nanl n m _ c h, decide_eq_false (by omega)]; rfl
  by_cases c' : 9218868437227405312 < m'
  · rw [ordD_nanr n' m' _ c' h', decide_eq_false (by omega)]; rfl
  rw [ordD n n' m m' (by omega) (by omega)]
  rcases Int.lt_trichotomy (plz n m) (plz n' m') with g | g | g
  · rw [cmp_lt g, decide_eq_true ⟨by omega, by omega, by omega⟩]; rfl
  · rw [cmp_eq g, decide_eq_false (by omega)]; rfl
  · rw [cmp_gt g, decide_eq_false (by omega)]; rfl
theorem feq0 (x : Nat) (h : x < 18446744073709551616) : (FloatKind.f64.format.order x 0 == some Ordering.eq) = decide (x = 0 ∨ x = 9223372036854775808) := by
  obtain ⟨n, m, hm, rfl⟩ := exD x h
  have g := feq n false m 0 hm (by decide)
  rw [show wD false 0 = 0 from rfl] at g
  rw [g]; congr 1; apply propext
  unfold plz wD
  cases n <;> simp <;> omega
theorem feqI (x : Nat) (h : x < 18446744073709551616) : (FloatKind.f64.format.order x 9218868437227405312 == some Ordering.eq) = decide (x = 9218868437227405312) := by
  obtain ⟨n, m, hm, rfl⟩ := exD x h
  have g := feq n false m 9218868437227405312 hm (by decide)
  rw [show wD false 9218868437227405312 = 9218868437227405312 from rfl] at g
  rw [g]; congr 1; apply propext
  unfold plz wD
  cases n <;> simp <;> omega
theorem feqM (x : Nat) (h : x < 18446744073709551616) : (FloatKind.f64.format.order x 18442240474082181120 == some Ordering.eq) = decide (x = 18442240474082181120) := by
  obtain ⟨n, m, hm, rfl⟩ := exD x h
  have g := feq n true m 9218868437227405312 hm (by decide)
  rw [show wD true 9218868437227405312 = 18442240474082181120 from rfl] at g
  rw [g]; congr 1; apply propext
  unfold plz wD
  cases n <;> simp <;> omega
/-- do two ends make an interval that is not empty? -/
def snd (a b : Nat) : Bool := (FloatKind.f64.format.order a b == some Ordering.lt || FloatKind.f64.format.order a b == some Ordering.eq) && (!(decide (a = 9218868437227405312)) && !(decide (b = 18442240474082181120)))
def rlo (a b : Nat) : Nat := if snd a b then pla a else 9218868437227405312
def rhi (a b : Nat) : Nat := if snd a b then pla b else 18442240474082181120
theorem pla_lt (x : Nat) (h : x < 18446744073709551616) : pla x < 18446744073709551616 := by unfold pla; split <;> omega
theorem rlo_lt (a b : Nat) (h : a < 18446744073709551616) : rlo a b < 18446744073709551616 := by
  unfold rlo; split
  · exact pla_lt a h
  · omega
theorem rhi_lt (a b : Nat) (h : b < 18446744073709551616) : rhi a b < 18446744073709551616 := by
  unfold rhi; split
  · exact pla_lt b h
  · omega
theorem snd_w (n n' : Bool) (m m' : Nat) (h : m < 9223372036854775808) (h' : m' < 9223372036854775808) : snd (wD n m) (wD n' m') = decide (m ≤ 9218868437227405312 ∧ m' ≤ 9218868437227405312 ∧ plz n m ≤ plz n' m' ∧ ¬ (n = false ∧ m = 9218868437227405312) ∧ ¬ (n' = true ∧ m' = 9218868437227405312)) := by
  unfold snd
  rw [fle n n' m m' h h']
  have e1 : (wD n m = 9218868437227405312) ↔ (n = false ∧ m = 9218868437227405312) := by unfold wD; cases n <;> simp; omega
  have e2 : (wD n' m' = 18442240474082181120) ↔ (n' = true ∧ m' = 9218868437227405312) := by unfold wD; cases n' <;> simp <;> omega
  simp only [e1, e2]
  by_cases c1 : m ≤ 9218868437227405312 ∧ m' ≤ 9218868437227405312 ∧ plz n m ≤ plz n' m' <;> by_cases c2 : n = false ∧ m = 9218868437227405312 <;> by_cases c3 : n' = true ∧ m' = 9218868437227405312 <;> simp [c1, c2, c3]
end Fq
namespace Fq

/-- patterns that are no NaN in the order of what they stand for -/
def kyN (x : Nat) : Nat := if 9223372036854775808 ≤ pla x then 18446744073709551615 - pla x else pla x + 9223372036854775808
theorem kyN_w (n : Bool) (m : Nat) (h : m ≤ 9218868437227405312) : (kyN (wD n m) : Int) = if plz n m < 0 then 9223372036854775807 + plz n m else 9223372036854775808 + plz n m := by
  unfold kyN pla wD plz
  cases n <;> simp <;> repeat' split
  all_goals omega
theorem kyN_lt (n n' : Bool) (m m' : Nat) (h : m ≤ 9218868437227405312) (h' : m' ≤ 9218868437227405312) : kyN (wD n m) < kyN (wD n' m') ↔ plz n m < plz n' m' := by
  have e1 := kyN_w n m h
  have e2 := kyN_w n' m' h'
  have : (kyN (wD n m) < kyN (wD n' m')) ↔ ((kyN (wD n m) : Int) < kyN (wD n' m')) := by omega
  rw [this, e1, e2]
  repeat' split
  all_goals omega
end Fq
namespace Fq
theorem Grown.setCell {W w' : World} (h : Grown W w') {a : Addr} (ha : W.heap.size ≤ a.block) (v : Value) : Grown W (w'.setCell a v) := Below.setCell h ha v
@[go_sem] theorem run_store_float6 (P : Program) (w : World) (a : Addr) (m : Mode) (k : FloatKind) (x : Nat) : (store a (.float k x) m).run P w = stored P w a (.float k x) m := run_store P w a _ m rfl
set_option maxRecDepth 20000 in
set_option maxHeartbeats 400000 in
theorem inf1_ (w : World) : Calls Try.prog 30 #[.int .i64 1] w fun e w' => e = .returned (.float .f64 9218868437227405312) ∧ w' = w := by
  have hf : ∀ w : World, (callFunc 23 #[.int .u64 9218868437227405312]).run Try.prog w = .ok (.value (.float .f64 9218868437227405312)) w := ff64 9218868437227405312
  go_enter Try.func30, Try.ntmps30
  go_wp2_with (first | (simp only [hf]))
  exact bodyPost_ret (v := .float .f64 9218868437227405312) (by simp [results, Try.results30, go_sem] <;> simp only [*]) rfl ⟨rfl, rfl⟩
set_option maxRecDepth 20000 in
set_option maxHeartbeats 400000 in
theorem infm_ (w : World) : Calls Try.prog 30 #[.int .i64 (-1)] w fun e w' => e = .returned (.float .f64 18442240474082181120) ∧ w' = w := by
  have hf : ∀ w : World, (callFunc 23 #[.int .u64 18442240474082181120]).run Try.prog w = .ok (.value (.float .f64 18442240474082181120)) w := ff64 18442240474082181120
  go_enter Try.func30, Try.ntmps30
  go_wp2_with (first | (simp only [hf]))
  exact bodyPost_ret (v := .float .f64 18442240474082181120) (by simp [results, Try.results30, go_sem] <;> simp only [*]) rfl ⟨rfl, rfl⟩
set_option maxRecDepth 20000 in
set_option maxHeartbeats 400000 in
theorem plain6_ (x : Nat) (h : x < 18446744073709551616) (w : World) : Calls Try.prog 32 #[.float .f64 x] w fun e w' => e = .returned (.float .f64 (pla x)) ∧ w' = w := by
  have t := feq0 x h
  by_cases c : x = 0 ∨ x = 9223372036854775808
  · rw [decide_eq_true c] at t
    have e : pla x = 0 := by unfold pla; split <;> omega
    rw [e]; clear c e h
    go_enter Try.func32, Try.ntmps32
    go_wp2
    exact bodyPost_ret (v := .float .f64 0) (by simp [results, Try.results32, go_sem] <;> simp only [*]) rfl ⟨rfl, rfl⟩
  · rw [decide_eq_false c] at t
    have e : pla x = x := by unfold pla; rw [if_neg (by omega)]
    rw [e]; clear c e h
    go_enter Try.func32, Try.ntmps32
    go_wp2
    exact bodyPost_ret (v := .float .f64 x) (by simp [results, Try.results32, go_sem] <;> simp only [*]) rfl ⟨rfl, rfl⟩
set_option maxRecDepth 20000 in
set_option maxHeartbeats 400000 in
theorem empty6_ (w : World) : Calls Try.prog 31 #[] w fun e w' => e = .returned (.agg #[.float .f64 9218868437227405312, .float .f64 18442240474082181120]) ∧ w' = w.alloc (.cells #[.float .f64 9218868437227405312, .float .f64 18442240474082181120] 31) := by
  go_enter Try.func31, Try.ntmps31
  go_wp2_with (go_at_call 30; (first | refine (inf1_ _).mono ?_ | refine (infm_ _).mono ?_); rintro e w' ⟨rfl, rfl⟩)
  exact bodyPost_ret (v := .agg #[.float .f64 9218868437227405312, .float .f64 18442240474082181120]) (by simp [results, Try.results31, go_sem] <;> simp only [*]) rfl ⟨rfl, rfl⟩
end Fq
namespace Fq
set_option maxRecDepth 20000 in
set_option maxHeartbeats 1000000 in
theorem read_ (a b : Nat) (ha : a < 18446744073709551616) (hb : b < 18446744073709551616) (w : World) : Calls Try.prog 16 #[.agg #[.float .f64 a, .float .f64 b]] w fun e w' => e = .returned (.agg #[.float .f64 (rlo a b), .float .f64 (rhi a b)]) ∧ Grown w w' := by
  have t2 := feqI a ha
  have t3 := feqM b hb
  have hpa := plain6_ a ha
  have hpb := plain6_ b hb
  by_cases h1 : (FloatKind.f64.format.order a b == some Ordering.lt || FloatKind.f64.format.order a b == some Ordering.eq) = true
  · by_cases h2 : a = 9218868437227405312
    · have es : snd a b = false := by simp [snd, h2]
      rw [decide_eq_true h2] at t2
      rw [show rlo a b = 9218868437227405312 from by simp [rlo, es], show rhi a b = 18442240474082181120 from by simp [rhi, es]]
      clear h2 es ha hb
      go_enter Try.func16, Try.ntmps16
      go_wp2
      go_quiet ((go_at_call 30; first | exact Calls.quiet_of_same (inf1_ _) | exact Calls.quiet_of_same (infm_ _)))
      go_wp2_with (first | (go_at_call 31; refine (empty6_ _).mono ?_; rintro e w' ⟨rfl, rfl⟩))
      exact bodyPost_ret (v := .agg #[.float .f64 9218868437227405312, .float .f64 18442240474082181120]) (by simp [results, Try.results16, go_sem] <;> simp only [*]) rfl ⟨rfl, (by repeat (with_reducible (first | assumption | exact Grown.refl _ | apply Grown.drew | apply Grown.alloc | apply gdrewN | (refine Grown.setCell ?_ (by simp <;> omega) _) | (refine gtrans ?_ (by assumption)))))⟩
    · rw [decide_eq_false h2] at t2
      by_cases h3 : b = 18442240474082181120
      · have es : snd a b = false := by simp [snd, h3]
        rw [decide_eq_true h3] at t3
        rw [show rlo a b = 9218868437227405312 from by simp [rlo, es], show rhi a b = 18442240474082181120 from by simp [rhi, es]]
        clear h2 h3 es ha hb
        go_enter Try.func16, Try.ntmps16
        go_wp2
        go_quiet ((go_at_call 30; first | exact Calls.quiet_of_same (inf1_ _) | exact Calls.quiet_of_same (infm_ _)))
        go_wp2_with (first | (go_at_call 31; refine (empty6_ _).mono ?_; rintro e w' ⟨rfl, rfl⟩))
        exact bodyPost_ret (v := .agg #[.float .f64 9218868437227405312, .float .f64 18442240474082181120]) (by simp [results, Try.results16, go_sem] <;> simp only [*]) rfl ⟨rfl, (by repeat (with_reducible (first | assumption | exact Grown.refl _ | apply Grown.drew | apply Grown.alloc | apply gdrewN | (refine Grown.setCell ?_ (by simp <;> omega) _) | (refine gtrans ?_ (by assumption)))))⟩
      · have es : snd a b = true := by simp only [snd, h1, h2, h3]; simp
        rw [decide_eq_false h3] at t3
        rw [show rlo a b = pla a from by simp [rlo, es], show rhi a b = pla b from by simp [rhi, es]]
        clear h2 h3 es ha hb
        go_enter Try.func16, Try.ntmps16
        go_wp2
        go_quiet ((go_at_call 30; first | exact Calls.quiet_of_same (inf1_ _) | exact Calls.quiet_of_same (infm_ _)))
        go_wp2
        go_region_held3 (fun w' => w'.cell? ⟨w.heap.size, 0, none⟩ = some (.float .f64 a) ∧ w'.cell? ⟨w.heap.size, 1, none⟩ = some (.float .f64 b)) (simp [go_sem, World.cell?_alloc_past]) (first | (go_at_call 32; (first | refine (hpa _).mono ?_ | refine (hpb _).mono ?_); rintro e w' ⟨rfl, rfl⟩))
        go_wp2
        exact bodyPost_ret (v := .agg #[.float .f64 (pla a), .float .f64 (pla b)]) (by simp [results, Try.results16, go_sem] <;> simp only [*]) rfl ⟨rfl, (by repeat (with_reducible (first | assumption | exact Grown.refl _ | apply Grown.drew | apply Grown.alloc | apply gdrewN | (refine Grown.setCell ?_ (by simp <;> omega) _) | (refine gtrans ?_ (by assumption)))))⟩
  · have h1' : (FloatKind.f64.format.order a b == some Ordering.lt || FloatKind.f64.format.order a b == some Ordering.eq) = false := by simpa using h1
    have es : snd a b = false := by simp only [snd, h1']; simp
    rw [show rlo a b = 9218868437227405312 from by simp [rlo, es], show rhi a b = 18442240474082181120 from by simp [rhi, es]]
    clear h1 es ha hb t2 t3
    go_enter Try.func16, Try.ntmps16
    go_wp2
    go_quiet ((go_at_call 30; first | exact Calls.quiet_of_same (inf1_ _) | exact Calls.quiet_of_same (infm_ _)))
    go_wp2_with (first | (go_at_call 31; refine (empty6_ _).mono ?_; rintro e w' ⟨rfl, rfl⟩))
    exact bodyPost_ret (v := .agg #[.float .f64 9218868437227405312, .float .f64 18442240474082181120]) (by simp [results, Try.results16, go_sem] <;> simp only [*]) rfl ⟨rfl, (by repeat (with_reducible (first | assumption | exact Grown.refl _ | apply Grown.drew | apply Grown.alloc | apply gdrewN | (refine Grown.setCell ?_ (by simp <;> omega) _) | (refine gtrans ?_ (by assumption)))))⟩
end Fq
namespace Fq

theorem gfroz {W w : World} (h : Grown W w) {a : Addr} (_hb : a.block < W.heap.size) : w.frozen? a = W.frozen? a := Below.frozen h _hb
theorem gsize {W w : World} (h : Grown W w) : W.heap.size ≤ w.heap.size := Below.size h
/-- a block of two cells that may be written -/
def H2 (w : World) (b : Nat) (u v : Value) : Prop := w.cell? ⟨b, 0, none⟩ = some u ∧ w.cell? ⟨b, 1, none⟩ = some v ∧ w.frozen? ⟨b, 0, none⟩ = false ∧ w.frozen? ⟨b, 1, none⟩ = false
theorem H2.keep {W w : World} {b : Nat} {u v : Value} (h : H2 W b u v) (g : Grown W w) : H2 w b u v :=
  ⟨gkeep g h.1, gkeep g h.2.1, (gfroz g (cell_lt h.1)).trans h.2.2.1, (gfroz g (cell_lt h.1)).trans h.2.2.2⟩
theorem H2.lt {w : World} {b : Nat} {u v : Value} (h : H2 w b u v) : b < w.heap.size := cell_lt h.1
theorem H2.new (w : World) (u v : Value) (t : TypeId) : H2 (w.alloc (.cells #[u, v] t)) w.heap.size u v := by
  unfold H2; simp [go_sem]
theorem H2.past {w : World} {b : Nat} {u v : Value} (h : H2 w b u v) (c : Array Value) (t : TypeId) : H2 (w.alloc (.cells c t)) b u v := h.keep (Grown.alloc (Grown.refl _) c t)
theorem H2.drew {w : World} {b : Nat} {u v : Value} (h : H2 w b u v) : H2 w.drew b u v := h.keep (Grown.drew (Grown.refl _))
theorem H2.drewN {w : World} {b : Nat} {u v : Value} (h : H2 w b u v) (n : Nat) : H2 (w.drewN n) b u v := h.keep (gdrewN n (Grown.refl _))
theorem void_read (a b : Nat) : decide (rlo a b = 9218868437227405312 ∧ rhi a b = 18442240474082181120) = !(snd a b) := by
  by_cases c : snd a b = true
  · rw [c]
    have h : a ≠ 9218868437227405312 := by
      intro h; rw [h] at c; simp [snd] at c
    have : rlo a b ≠ 9218868437227405312 := by simp only [rlo, c, if_true, pla]; split <;> omega
    simp [this]
  · have c : snd a b = false := by simpa using c
    simp [rlo, rhi, c]
def nlo (a b : Nat) : Nat := if snd a b then pla a else 0
def nhi (a b : Nat) : Nat := if snd a b then pla b else 0
def ner (a b : Nat) : Int := if snd a b then 0 else 1
end Fq
namespace Fq

theorem H2.two (w : World) (a b c d : Value) (s t : TypeId) : H2 (((w.alloc (.cells #[a, b] s)).drew).alloc (.cells #[c, d] t)) (w.heap.size + 1) c d := by
  unfold H2; simp [go_sem]
theorem H2.put {w : World} {b : Nat} {u v : Value} (h : H2 w b u v) (u' v' : Value) : H2 ((w.setCell ⟨b, 0, none⟩ u').setCell ⟨b, 1, none⟩ v') b u' v' := by
  obtain ⟨h0, h1, h2, h3⟩ := h
  unfold H2; simp [go_sem, h0, h1, h2, h3]
theorem H2.far {w : World} {b : Nat} {u v : Value} (h : H2 w b u v) {c : Nat} (hne : c ≠ b) (u' v' : Value) : H2 ((w.setCell ⟨c, 0, none⟩ u').setCell ⟨c, 1, none⟩ v') b u v := by
  obtain ⟨h0, h1, h2, h3⟩ := h
  refine ⟨?_, ?_, ?_, ?_⟩
  · rw [World.cell?_setCell_far _ _ _ _ (by simpa using hne), World.cell?_setCell_far _ _ _ _ (by simpa using hne)]; exact h0
  · rw [World.cell?_setCell_far _ _ _ _ (by simpa using hne), World.cell?_setCell_far _ _ _ _ (by simpa using hne)]; exact h1
  · simp only [World.frozen?_setCell]; exact h2
  · simp only [World.frozen?_setCell]; exact h3
end Fq
namespace Fq

theorem xor_full (Y : Nat) (h : Y < 18446744073709551616) : 18446744073709551615 ^^^ Y = 18446744073709551615 - Y := by
  have e : 18446744073709551615 - Y = 2 ^ 64 - (Y + 1) := by omega
  rw [e, show 18446744073709551615 = 2 ^ 64 - 1 from by decide]
  apply Nat.eq_of_testBit_eq
  intro i
  rw [Nat.testBit_xor, Nat.testBit_two_pow_sub_one, Nat.testBit_two_pow_sub_succ (by omega)]
  by_cases c : i < 64
  · simp [c]
  · have : Y.testBit i = false := Nat.testBit_lt_two_pow (Nat.lt_of_lt_of_le (show Y < 2 ^ 64 by omega) (Nat.pow_le_pow_right (by decide) (by omega)))
    simp [c, this]
theorem noTop6 (n : Bool) (m X : Nat) (hm : m < 9223372036854775808) (hX : X = wD n m) : bits .andNot .u64 (X : Int) 9223372036854775808 = (m : Int) ∧ X < 18446744073709551616 := by
  have hX9 : X < 18446744073709551616 := by rw [hX]; unfold wD; split <;> omega
  have h := u64_andNot_nat X 9223372036854775808 hX9 (by decide)
  have e : X % 9223372036854775808 = m := by rw [hX]; unfold wD; split <;> omega
  rw [show 18446744073709551615 - 9223372036854775808 = 2 ^ 63 - 1 from by decide, Nat.and_two_pow_sub_one_eq_mod, show (2 : Nat) ^ 63 = 9223372036854775808 from by decide, e] at h
  exact ⟨h, hX9⟩
set_option maxRecDepth 20000 in
set_option maxHeartbeats 400000 in
theorem isnan6_ (n : Bool) (m : Nat) (hm : m < 9223372036854775808) (w : World) : Calls Try.prog 33 #[.int .u64 ((wD n m : Nat) : Int)] w fun e w' => e = .returned (.bool (decide (9218868437227405312 < m))) ∧ w' = w := by
  obtain ⟨X, hX⟩ : ∃ X, X = wD n m := ⟨_, rfl⟩
  have f1 := (noTop6 n m X hm hX).1
  rw [← hX]
  clear hX hm
  by_cases c : 9218868437227405312 < m
  · have t1 : 9218868437227405312 < (m : Int) := by omega
    rw [decide_eq_true c]
    clear c
    go_enter Try.func33, Try.ntmps33
    go_wp2
    exact bodyPost_ret (v := .bool true) (by simp [results, Try.results33, go_sem] <;> omega) rfl ⟨rfl, rfl⟩
  · have t1 : ¬ (9218868437227405312 < (m : Int)) := by omega
    rw [decide_eq_false c]
    clear c
    go_enter Try.func33, Try.ntmps33
    go_wp2
    exact bodyPost_ret (v := .bool false) (by simp [results, Try.results33, go_sem] <;> omega) rfl ⟨rfl, rfl⟩
set_option maxRecDepth 20000 in
set_option maxHeartbeats 400000 in
theorem rplain6_ (n : Bool) (m : Nat) (hm : m ≤ 9218868437227405312) (w : World) : Calls Try.prog 22 #[.int .u64 ((wD n m : Nat) : Int)] w fun e w' => e = .returned (.int .u64 ((pla (wD n m) : Nat) : Int)) ∧ w' = w := by
  have hn := isnan6_ n m (by omega)
  rw [decide_eq_false (by omega)] at hn
  obtain ⟨X, hX⟩ : ∃ X, X = wD n m := ⟨_, rfl⟩
  rw [← hX] at hn ⊢
  clear hX hm
  by_cases c : X = 9223372036854775808
  · have t : ((X : Int) == 9223372036854775808) = true := by rw [c]; rfl
    rw [show pla X = 0 from by simp [pla, c]]
    clear c hn
    go_enter Try.func22, Try.ntmps22
    go_wp2
    exact bodyPost_ret (v := .int .u64 0) (by simp [results, Try.results22, go_sem] <;> simp only [*]) rfl ⟨rfl, rfl⟩
  · have t : ((X : Int) == 9223372036854775808) = false := by simp; omega
    rw [show pla X = X from by simp [pla, c]]
    clear c
    go_enter Try.func22, Try.ntmps22
    go_wp2_with (first | (go_at_call 33; refine (hn _).mono ?_; rintro e w' ⟨rfl, rfl⟩))
    exact bodyPost_ret (v := .int .u64 (X : Int)) (by simp [results, Try.results22, go_sem] <;> simp only [*]) rfl ⟨rfl, rfl⟩
set_option maxRecDepth 20000 in
set_option maxHeartbeats 400000 in
theorem key6_ (n : Bool) (m : Nat) (hm : m ≤ 9218868437227405312) (w : World) : Calls Try.prog 40 #[.int .u64 ((wD n m : Nat) : Int)] w fun e w' => e = .returned (.int .u64 ((kyN (wD n m) : Nat) : Int)) ∧ w' = w := by
  have hp := rplain6_ n m hm
  have hb : pla (wD n m) < 18446744073709551616 := pla_lt _ (by unfold wD; split <;> omega)
  obtain ⟨X, hX⟩ : ∃ X, X = wD n m := ⟨_, rfl⟩
  rw [← hX] at hp hb ⊢
  unfold kyN
  obtain ⟨Y, hY⟩ : ∃ Y, Y = pla X := ⟨_, rfl⟩
  rw [← hY] at hp hb ⊢
  clear hX hm hY
  by_cases c : 9223372036854775808 ≤ Y
  · have t : 9223372036854775808 ≤ (Y : Int) := by omega
    have u : bits .xor .u64 IntKind.u64.max (Y : Int) = ((18446744073709551615 - Y : Nat) : Int) := by
      have h := u64_xor_nat 18446744073709551615 Y (by decide) hb
      rw [xor_full Y hb] at h
      exact h
    rw [if_pos c]
    clear c hb
    obtain ⟨Z, hZ⟩ : ∃ Z : Nat, Z = 18446744073709551615 - Y := ⟨_, rfl⟩
    rw [← hZ] at u ⊢
    clear hZ
    go_enter Try.func40, Try.ntmps40
    go_wp2_with (first | (go_at_call 22; refine (hp _).mono ?_; rintro e w' ⟨rfl, rfl⟩))
    exact bodyPost_ret (v := .int .u64 (Z : Int)) (by simp [results, Try.results40, go_sem] <;> simp only [*]) rfl ⟨rfl, rfl⟩
  · have t : decide (9223372036854775808 ≤ (Y : Int)) = false := decide_eq_false (by omega)
    have u : bits .or .u64 (Y : Int) 9223372036854775808 = ((Y + 9223372036854775808 : Nat) : Int) := by
      have h := u64_or_nat Y 9223372036854775808 hb (by decide)
      have h9 := Nat.two_pow_add_eq_or_of_lt (i := 63) (b := Y) (by omega) 1
      rw [show 2 ^ 63 * 1 = 9223372036854775808 from by decide] at h9
      rw [Nat.or_comm, ← h9, Nat.add_comm] at h
      exact h
    rw [if_neg c]
    clear c hb
    obtain ⟨Z, hZ⟩ : ∃ Z : Nat, Z = Y + 9223372036854775808 := ⟨_, rfl⟩
    rw [← hZ] at u ⊢
    clear hZ
    go_enter Try.func40, Try.ntmps40
    go_wp2_with (first | (go_at_call 22; refine (hp _).mono ?_; rintro e w' ⟨rfl, rfl⟩))
    exact bodyPost_ret (v := .int .u64 (Z : Int)) (by simp [results, Try.results40, go_sem] <;> simp only [*]) rfl ⟨rfl, rfl⟩
set_option maxRecDepth 20000 in
set_option maxHeartbeats 400000 in
theorem above6_ (n n' : Bool) (m m' : Nat) (hm : m < 9223372036854775808) (hm' : m' < 9223372036854775808) (w : World) : Calls Try.prog 34 #[.int .u64 ((wD n m : Nat) : Int), .int .u64 ((wD n' m' : Nat) : Int)] w fun e w' => e = .returned (.bool (decide (m ≤ 9218868437227405312 ∧ m' ≤ 9218868437227405312 ∧ plz n' m' < plz n m))) ∧ w' = w := by
  have hn := isnan6_ n m hm
  have hn' := isnan6_ n' m' hm'
  have kl := kyN_lt n' n m' m
  have hk := key6_ n m
  have hk' := key6_ n' m'
  have e1 : m ≤ 9218868437227405312 → m' ≤ 9218868437227405312 → decide (m ≤ 9218868437227405312 ∧ m' ≤ 9218868437227405312 ∧ plz n' m' < plz n m) = decide ((kyN (wD n' m') : Int) < (kyN (wD n m) : Int)) := by
    intro h1 h2
    have kl := kl h2 h1
    have : ((kyN (wD n' m') : Int) < (kyN (wD n m) : Int)) ↔ plz n' m' < plz n m := by rw [← kl]; omega
    simp only [this]; congr 1; apply propext; omega
  clear kl
  obtain ⟨X, hX⟩ : ∃ X, X = wD n m := ⟨_, rfl⟩
  obtain ⟨Y, hY⟩ : ∃ Y, Y = wD n' m' := ⟨_, rfl⟩
  rw [← hX] at hn hk e1 ⊢
  rw [← hY] at hn' hk' e1 ⊢
  clear hX hY
  by_cases c1 : 9218868437227405312 < m
  · rw [decide_eq_true c1] at hn
    rw [decide_eq_false (by omega)]
    clear c1 e1 hk hk' hm hm' hn'
    go_enter Try.func34, Try.ntmps34
    go_wp2_with (first | (go_at_call 33; refine (hn _).mono ?_; rintro e w' ⟨rfl, rfl⟩))
    exact bodyPost_ret (v := .bool false) (by simp [results, Try.results34, go_sem] <;> simp only [*]) rfl ⟨rfl, rfl⟩
  rw [decide_eq_false c1] at hn
  by_cases c2 : 9218868437227405312 < m'
  · rw [decide_eq_true c2] at hn'
    rw [decide_eq_false (by omega)]
    clear c1 c2 e1 hk hk' hm hm'
    go_enter Try.func34, Try.ntmps34
    go_wp2_with (first | (go_at_call_of 33 (Value.int .u64 (X : Int)); refine (hn _).mono ?_; rintro e w' ⟨rfl, rfl⟩) | (go_at_call_of 33 (Value.int .u64 (Y : Int)); refine (hn' _).mono ?_; rintro e w' ⟨rfl, rfl⟩))
    exact bodyPost_ret (v := .bool false) (by simp [results, Try.results34, go_sem] <;> simp only [*]) rfl ⟨rfl, rfl⟩
  rw [decide_eq_false c2] at hn'
  have hk := hk (by omega)
  have hk' := hk' (by omega)
  rw [e1 (by omega) (by omega)]
  clear e1 c1 c2 hm hm'
  generalize kyN X = KX at hk ⊢
  generalize kyN Y = KY at hk' ⊢
  go_enter Try.func34, Try.ntmps34
  go_wp2_with (first | (go_at_call_of 33 (Value.int .u64 (X : Int)); refine (hn _).mono ?_; rintro e w' ⟨rfl, rfl⟩) | (go_at_call_of 33 (Value.int .u64 (Y : Int)); refine (hn' _).mono ?_; rintro e w' ⟨rfl, rfl⟩) | (go_at_call_of 40 (Value.int .u64 (X : Int)); refine (hk _).mono ?_; rintro e w' ⟨rfl, rfl⟩) | (go_at_call_of 40 (Value.int .u64 (Y : Int)); refine (hk' _).mono ?_; rintro e w' ⟨rfl, rfl⟩))
  exact bodyPost_ret (v := .bool (decide ((KY : Int) < (KX : Int)))) (by simp [results, Try.results34, go_sem] <;> simp only [*]) rfl ⟨rfl, rfl⟩
end Fq
namespace Fq
set_option maxRecDepth 20000 in
set_option maxHeartbeats 400000 in
theorem rempty_ (w : World) : Calls Try.prog 6 #[] w fun e w' => e = .returned (.agg #[.int .u64 9218868437227405312, .int .u64 18442240474082181120]) ∧ w' = w.alloc (.cells #[.int .u64 9218868437227405312, .int .u64 18442240474082181120] 24) := by
  go_enter Try.func6, Try.ntmps6
  go_wp2
  exact bodyPost_ret (v := .agg #[.int .u64 9218868437227405312, .int .u64 18442240474082181120]) (by simp [results, Try.results6, go_sem] <;> simp only [*]) rfl ⟨rfl, rfl⟩
set_option maxRecDepth 20000 in
set_option maxHeartbeats 1000000 in
theorem sound_ (n n' : Bool) (m m' : Nat) (hm : m < 9223372036854775808) (hm' : m' < 9223372036854775808) (w : World) : Calls Try.prog 21 #[.agg #[.int .u64 (((wD n m) : Nat) : Int), .int .u64 (((wD n' m') : Nat) : Int)]] w fun e w' => e = .returned (.bool (snd (wD n m) (wD n' m'))) ∧ w' = w.alloc (.cells #[.int .u64 (((wD n m) : Nat) : Int), .int .u64 (((wD n' m') : Nat) : Int)] 24) := by
  have hn := isnan6_ n m hm
  have hn' := isnan6_ n' m' hm'
  have ha := above6_ n n' m m' hm hm'
  have es := snd_w n n' m m' hm hm'
  have e1 : (wD n m = 9218868437227405312) ↔ (n = false ∧ m = 9218868437227405312) := by unfold wD; cases n <;> simp; omega
  have e2 : (wD n' m' = 18442240474082181120) ↔ (n' = true ∧ m' = 9218868437227405312) := by unfold wD; cases n' <;> simp <;> omega
  obtain ⟨X, hX⟩ : ∃ X, X = wD n m := ⟨_, rfl⟩
  obtain ⟨Y, hY⟩ : ∃ Y, Y = wD n' m' := ⟨_, rfl⟩
  rw [← hX] at hn ha es e1 ⊢
  rw [← hY] at hn' ha es e2 ⊢
  clear hX hY
  rw [es]
  by_cases c1 : 9218868437227405312 < m
  · rw [decide_eq_true c1] at hn
    rw [decide_eq_false (by omega)]
    clear c1 es e1 e2 hm hm' hn' ha
    go_enter Try.func21, Try.ntmps21
    go_wp2_with (first | (go_at_call_of 33 (Value.int .u64 (X : Int)); refine (hn _).mono ?_; rintro e w' ⟨rfl, rfl⟩))
    exact bodyPost_ret (v := .bool false) (by simp [results, Try.results21, go_sem] <;> simp only [*]) rfl ⟨rfl, rfl⟩
  rw [decide_eq_false c1] at hn
  by_cases c2 : 9218868437227405312 < m'
  · rw [decide_eq_true c2] at hn'
    rw [decide_eq_false (by omega)]
    clear c1 c2 es e1 e2 hm hm' ha
    go_enter Try.func21, Try.ntmps21
    go_wp2_with (first | (go_at_call_of 33 (Value.int .u64 (X : Int)); refine (hn _).mono ?_; rintro e w' ⟨rfl, rfl⟩) | (go_at_call_of 33 (Value.int .u64 (Y : Int)); refine (hn' _).mono ?_; rintro e w' ⟨rfl, rfl⟩))
    exact bodyPost_ret (v := .bool false) (by simp [results, Try.results21, go_sem] <;> simp only [*]) rfl ⟨rfl, rfl⟩
  rw [decide_eq_false c2] at hn'
  by_cases c3 : plz n' m' < plz n m
  · rw [decide_eq_true ⟨by omega, by omega, c3⟩] at ha
    rw [decide_eq_false (by omega)]
    clear c1 c2 c3 es e1 e2 hm hm'
    go_enter Try.func21, Try.ntmps21
    go_wp2_with (first | (go_at_call_of 33 (Value.int .u64 (X : Int)); refine (hn _).mono ?_; rintro e w' ⟨rfl, rfl⟩) | (go_at_call_of 33 (Value.int .u64 (Y : Int)); refine (hn' _).mono ?_; rintro e w' ⟨rfl, rfl⟩) | (go_at_call 34; refine (ha _).mono ?_; rintro e w' ⟨rfl, rfl⟩))
    exact bodyPost_ret (v := .bool false) (by simp [results, Try.results21, go_sem] <;> simp only [*]) rfl ⟨rfl, rfl⟩
  rw [decide_eq_false (by omega)] at ha
  by_cases c4 : X = 9218868437227405312
  · have t4 : ((X : Int) != 9218868437227405312) = false := by rw [c4]; rfl
    rw [decide_eq_false (fun h => h.2.2.2.1 (e1.mp c4))]
    clear c1 c2 c3 c4 es e1 e2 hm hm'
    go_enter Try.func21, Try.ntmps21
    go_wp2_with (first | (go_at_call_of 33 (Value.int .u64 (X : Int)); refine (hn _).mono ?_; rintro e w' ⟨rfl, rfl⟩) | (go_at_call_of 33 (Value.int .u64 (Y : Int)); refine (hn' _).mono ?_; rintro e w' ⟨rfl, rfl⟩) | (go_at_call 34; refine (ha _).mono ?_; rintro e w' ⟨rfl, rfl⟩))
    exact bodyPost_ret (v := .bool false) (by simp [results, Try.results21, go_sem] <;> simp only [*]) rfl ⟨rfl, rfl⟩
  have t4 : ((X : Int) != 9218868437227405312) = true := by simp; omega
  by_cases c5 : Y = 18442240474082181120
  · have t5 : ((Y : Int) != 18442240474082181120) = false := by rw [c5]; rfl
    rw [decide_eq_false (fun h => h.2.2.2.2 (e2.mp c5))]
    clear c1 c2 c3 c4 c5 es e1 e2 hm hm'
    go_enter Try.func21, Try.ntmps21
    go_wp2_with (first | (go_at_call_of 33 (Value.int .u64 (X : Int)); refine (hn _).mono ?_; rintro e w' ⟨rfl, rfl⟩) | (go_at_call_of 33 (Value.int .u64 (Y : Int)); refine (hn' _).mono ?_; rintro e w' ⟨rfl, rfl⟩) | (go_at_call 34; refine (ha _).mono ?_; rintro e w' ⟨rfl, rfl⟩))
    exact bodyPost_ret (v := .bool false) (by simp [results, Try.results21, go_sem] <;> simp only [*]) rfl ⟨rfl, rfl⟩
  have t5 : ((Y : Int) != 18442240474082181120) = true := by simp; omega
  rw [decide_eq_true ⟨by omega, by omega, by omega, fun h => c4 (e1.mpr h), fun h => c5 (e2.mpr h)⟩]
  clear c1 c2 c3 c4 c5 es e1 e2 hm hm'
  go_enter Try.func21, Try.ntmps21
  go_wp2_with (first | (go_at_call_of 33 (Value.int .u64 (X : Int)); refine (hn _).mono ?_; rintro e w' ⟨rfl, rfl⟩) | (go_at_call_of 33 (Value.int .u64 (Y : Int)); refine (hn' _).mono ?_; rintro e w' ⟨rfl, rfl⟩) | (go_at_call 34; refine (ha _).mono ?_; rintro e w' ⟨rfl, rfl⟩))
  exact bodyPost_ret (v := .bool true) (by simp [results, Try.results21, go_sem] <;> simp only [*]) rfl ⟨rfl, rfl⟩
set_option maxRecDepth 20000 in
set_option maxHeartbeats 1000000 in
theorem rread_ (n n' : Bool) (m m' : Nat) (hm : m < 9223372036854775808) (hm' : m' < 9223372036854775808) (w : World) : Calls Try.prog 5 #[.agg #[.int .u64 (((wD n m) : Nat) : Int), .int .u64 (((wD n' m') : Nat) : Int)]] w fun e w' => e = .returned (.agg #[.int .u64 (((rlo (wD n m) (wD n' m')) : Nat) : Int), .int .u64 (((rhi (wD n m) (wD n' m')) : Nat) : Int)]) ∧ Grown w w' := by
  have hs := sound_ n n' m m' hm hm'
  have es := snd_w n n' m m' hm hm'
  have hp := rplain6_ n m
  have hp' := rplain6_ n' m'
  obtain ⟨X, hX⟩ : ∃ X, X = wD n m := ⟨_, rfl⟩
  obtain ⟨Y, hY⟩ : ∃ Y, Y = wD n' m' := ⟨_, rfl⟩
  rw [← hX] at hs es hp ⊢
  rw [← hY] at hs es hp' ⊢
  clear hX hY
  by_cases c : snd X Y = true
  · rw [c] at hs
    rw [show rlo X Y = pla X from by simp [rlo, c], show rhi X Y = pla Y from by simp [rhi, c]]
    rw [c] at es
    replace es := of_decide_eq_true es.symm
    replace hp := hp es.1
    replace hp' := hp' es.2.1
    clear es c hm hm'
    generalize ((pla X : Nat) : Int) = PX at hp ⊢
    generalize ((pla Y : Nat) : Int) = PY at hp' ⊢
    generalize (X : Int) = X at hs hp ⊢
    generalize (Y : Int) = Y at hs hp' ⊢
    go_enter Try.func5, Try.ntmps5
    go_wp2_with (first | (go_at_call 21; refine (hs _).mono ?_; rintro e w' ⟨rfl, rfl⟩))
    go_region_held3 (fun w' => w'.cell? ⟨w.heap.size, 0, none⟩ = some (.int .u64 X) ∧ w'.cell? ⟨w.heap.size, 1, none⟩ = some (.int .u64 Y)) (simp [go_sem, World.cell?_alloc_past]) (first | (go_at_call_of 22 (Value.int .u64 X); refine (hp _).mono ?_; rintro e w' ⟨rfl, rfl⟩) | (go_at_call_of 22 (Value.int .u64 Y); refine (hp' _).mono ?_; rintro e w' ⟨rfl, rfl⟩))
    go_wp2
    exact bodyPost_ret (v := .agg #[.int .u64 PX, .int .u64 PY]) (by simp [results, Try.results5, go_sem] <;> simp only [*]) rfl ⟨rfl, (by repeat (with_reducible (first | assumption | exact Grown.refl _ | apply Grown.drew | apply Grown.alloc | apply gdrewN | (refine Grown.setCell ?_ (by simp <;> omega) _) | (refine gtrans ?_ (by assumption)))))⟩
  · have c : snd X Y = false := by simpa using c
    rw [c] at hs
    rw [show rlo X Y = 9218868437227405312 from by simp [rlo, c], show rhi X Y = 18442240474082181120 from by simp [rhi, c]]
    clear es c hm hm' hp hp'
    go_enter Try.func5, Try.ntmps5
    go_wp2_with (first | (go_at_call 21; refine (hs _).mono ?_; rintro e w' ⟨rfl, rfl⟩) | (go_at_call 6; refine (rempty_ _).mono ?_; rintro e w' ⟨rfl, rfl⟩))
    exact bodyPost_ret (v := .agg #[.int .u64 9218868437227405312, .int .u64 18442240474082181120]) (by simp [results, Try.results5, go_sem] <;> simp only [*]) rfl ⟨rfl, (by repeat (with_reducible (first | assumption | exact Grown.refl _ | apply Grown.drew | apply Grown.alloc | apply gdrewN | (refine Grown.setCell ?_ (by simp <;> omega) _) | (refine gtrans ?_ (by assumption)))))⟩
end Fq
namespace Fq
end Fq
namespace Fq
theorem eqIn6 (a c : Nat) (w : World) : (Op.equalIn 9999 28 (.float .f64 a) (.float .f64 c)).run Try.prog w = .ok (FloatKind.f64.format.order a c == some Ordering.eq) w := by kernel_rfl
end Fq
end Go.Proofs.Ytolghomhigemgaa
