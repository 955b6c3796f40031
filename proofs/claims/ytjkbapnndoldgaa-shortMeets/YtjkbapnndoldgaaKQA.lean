import Derived.Test.YtjkbapnndoldgaaKQM
import Derived.Test.YtjkbapnndoldgaaProg
import Derived.BigQuiet
import Derived.Deep.QuietTactic
import Derived.Deep.RegionHeld3
import Derived.Laws.Bits64b
import Derived.Laws.Slices
import Derived.ProofKit
import Derived.RowKit3
import Derived.StillTactics
import Derived.WalkKit
import Derived.WalkSpells
namespace Go.Proofs.Ytjkbapnndoldgaa
open Go.RowKit
namespace Fq
def Grown (W w' : World) : Prop := Below W.heap.size W w'
theorem Grown.refl (W : World) : Grown W W := Below.refl _ _
theorem Grown.alloc {W w' : World} (h : Grown W w') (c : Array Value) (t : TypeId) : Grown W (w'.alloc (.cells c t)) := Below.alloc h (Below.size h) _
theorem Grown.drew {W w' : World} (h : Grown W w') : Grown W w'.drew := Below.drew h
theorem gtrans {a b c : World} (h : Grown a b) (g : Grown b c) : Grown a c := Below.trans h (Below.mono g (Below.size h))
theorem gdrewN {a b : World} (n : Nat) (h : Grown a b) : Grown a (b.drewN n) := by
  induction n with
  | zero => exact h
  | succ n ih => exact Below.drew ih
theorem gcell {W w : World} (h : Grown W w) (b o : Nat) (hb : b < W.heap.size) : w.cell? ⟨b, o, none⟩ = W.cell? ⟨b, o, none⟩ := Below.cell h hb
theorem cell_lt {w : World} {b o : Nat} {v : Value} (h : w.cell? ⟨b, o, none⟩ = some v) : b < w.heap.size := by
  unfold World.cell? at h
  by_cases c : b < w.heap.size
  · exact c
  · rw [Array.getElem?_eq_none (by simpa using c)] at h; simp at h
theorem gkeep {W w : World} {b o : Nat} {v : Value} (g : Grown W w) (h : W.cell? ⟨b, o, none⟩ = some v) : w.cell? ⟨b, o, none⟩ = some v := by
  rw [gcell g b o (cell_lt h)]; exact h
theorem fb64 (x : Nat) (w : World) : (callFunc 46 #[.float .f64 x]).run Try.prog w = .ok (.value (.int .u64 (x : Int))) w := by kernel_rfl
theorem ff64 (x : Nat) (w : World) : (callFunc 42 #[.int .u64 (x : Int)]).run Try.prog w = .ok (.value (.float .f64 x)) w := by kernel_rfl
end Fq
namespace Fq

theorem wp_region_grow {P : Program} {id : Nat} {Q : Exit → Act → World → Prop} {a : Act} {w : World} {l : List Oper} (hm : P.follows .mixedOrders = true) (hB : Region.lexB .any l.toArray = true)
    (h : ∀ (ι : Type) (_ : Nonempty ι) (G : ι → World), (∀ n, Grown w (G n)) → (∀ w', Grown w w' → ∃ n, w' = G n) → wpQuiet P l.toArray (fun w' => ∃ n, w' = G n) (fun a' => ∀ w', (∃ n, w' = G n) → Q .normal a' w') l a) :
    (Code.region id l.toArray true).wp P Q a w := by
  have hh := h {w' : World // Grown w w'} ⟨⟨w, Grown.refl w⟩⟩ Subtype.val (fun n => n.2) (fun w' hw => ⟨⟨w', hw⟩, rfl⟩)
  exact wp_region_quiet (C := fun w' => ∃ n : {w' : World // Grown w w'}, w' = n.val) hm hB ⟨⟨_, (Grown.refl w).drew⟩, rfl⟩ (by simpa using hh)
end Fq
namespace Fq

def pla (x : Nat) : Nat := if x = 9223372036854775808 then 0 else x
open Ieee in
theorem feq (n n' : Bool) (m m' : Nat) (h : m < 9223372036854775808) (h' : m' < 9223372036854775808) : (FloatKind.f64.format.order (wD n m) (wD n' m') == some Ordering.eq) = decide (m ≤ 9218868437227405312 ∧ m' ≤ 9218868437227405312 ∧ plz n m = plz n' m') := by
  by_cases c : 9218868437227405312 < m
  · rw [ordD_nanl n m _ c h, decide_eq_false (by omega)]; rfl
  by_cases c' : 9218868437227405312 < m'
  · rw [ordD_nanr n' m' _ c' h', decide_eq_false (by omega)]; rfl
  rw [ordD n n' m m' (by omega) (by omega)]
  by_cases e : plz n m = plz n' m'
  · rw [cmp_eq e, decide_eq_true ⟨by omega, by omega, e⟩]; rfl
  · rw [decide_eq_false (fun x => e x.2.2)]
    rcases Int.lt_or_gt_of_ne e with g | g
    · rw [cmp_lt g]; rfl
    · rw [cmp_gt g]; rfl
open Ieee in
theorem fle (n n' : Bool) (m m' : Nat) (h : m < 9223372036854775808) (h' : m' < 9223372036854775808) : (FloatKind.f64.format.order (wD n m) (wD n' m') == some Ordering.lt || FloatKind.f64.format.order (wD n m) (wD n' m') == some Ordering.eq) = decide (m ≤ 9218868437227405312 ∧ m' ≤ 9218868437227405312 ∧ plz n m ≤ plz n' m') := by
  by_cases c : 9218868437227405312 < m
  · rw [ordD_nanl n m _ c h, decide_eq_false (by omega)]; rfl
  by_cases c' : 9218868437227405312 < m'
  · rw [ordD_nanr n' m' _ c' h', decide_eq_false (by omega)]; rfl
  rw [ordD n n' m m' (by omega) (by omega)]
  rcases Int.lt_trichotomy (plz n m) (plz n' m') with g | g | g
  · rw [cmp_lt g, decide_eq_true ⟨by omega, by omega, by omega⟩]; rfl
  · rw [cmp_eq g, decide_eq_true ⟨by omega, by omega, by omega⟩]; rfl
  · rw [cmp_gt g, decide_eq_false (by omega)]; rfl
theorem feq0 (x : Nat) (h : x < 18446744073709551616) : (FloatKind.f64.format.order x 0 == some Ordering.eq) = decide (x = 0 ∨ x = 9223372036854775808) := by
  obtain ⟨n, m, hm, rfl⟩ := exD x h
  have g := feq n false m 0 hm (by decide)
  rw [show wD false 0 = 0 from rfl] at g
  rw [g]; congr 1; apply propext
  unfold plz wD
  cases n <;> simp <;> omega
theorem feqI (x : Nat) (h : x < 18446744073709551616) : (FloatKind.f64.format.order x 9218868437227405312 == some Ordering.eq) = decide (x = 9218868437227405312) := by
  obtain ⟨n, m, hm, rfl⟩ := exD x h
  have g := feq n false m 9218868437227405312 hm (by decide)
  rw [show wD false 9218868437227405312 = 9218868437227405312 from rfl] at g
  rw [g]; congr 1; apply propext
  unfold plz wD
  cases n <;> simp <;> omega
theorem feqM (x : Nat) (h : x < 18446744073709551616) : (FloatKind.f64.format.order x 18442240474082181120 == some Ordering.eq) = decide (x = 18442240474082181120) := by
  obtain ⟨n, m, hm, rfl⟩ := exD x h
  have g := feq n true m 9218868437227405312 hm (by decide)
  rw [show wD true 9218868437227405312 = 18442240474082181120 from rfl] at g
  rw [g]; congr 1; apply propext
  unfold plz wD
  cases n <;> simp <;> omega
def snd (a b : Nat) : Bool := (FloatKind.f64.format.order a b == some Ordering.lt || FloatKind.f64.format.order a b == some Ordering.eq) && (!(decide (a = 9218868437227405312)) && !(decide (b = 18442240474082181120)))
def rlo (a b : Nat) : Nat := if snd a b then pla a else 9218868437227405312
def rhi (a b : Nat) : Nat := if snd a b then pla b else 18442240474082181120
theorem pla_lt (x : Nat) (h : x < 18446744073709551616) : pla x < 18446744073709551616 := by unfold pla; split <;> omega
theorem snd_w (n n' : Bool) (m m' : Nat) (h : m < 9223372036854775808) (h' : m' < 9223372036854775808) : snd (wD n m) (wD n' m') = decide (m ≤ 9218868437227405312 ∧ m' ≤ 9218868437227405312 ∧ plz n m ≤ plz n' m' ∧ ¬ (n = false ∧ m = 9218868437227405312) ∧ ¬ (n' = true ∧ m' = 9218868437227405312)) := by
  unfold snd
  rw [fle n n' m m' h h']
  have e1 : (wD n m = 9218868437227405312) ↔ (n = false ∧ m = 9218868437227405312) := by unfold wD; cases n <;> simp; omega
  have e2 : (wD n' m' = 18442240474082181120) ↔ (n' = true ∧ m' = 9218868437227405312) := by unfold wD; cases n' <;> simp <;> omega
  simp only [e1, e2]
  by_cases c1 : m ≤ 9218868437227405312 ∧ m' ≤ 9218868437227405312 ∧ plz n m ≤ plz n' m' <;> by_cases c2 : n = false ∧ m = 9218868437227405312 <;> by_cases c3 : n' = true ∧ m' = 9218868437227405312 <;> simp [c1, c2, c3]
end Fq
namespace Fq

def kyN (x : Nat) : Nat := if 9223372036854775808 ≤ pla x then 18446744073709551615 - pla x else pla x + 9223372036854775808
theorem kyN_w (n : Bool) (m : Nat) (h : m ≤ 9218868437227405312) : (kyN (wD n m) : Int) = if plz n m < 0 then 9223372036854775807 + plz n m else 9223372036854775808 + plz n m := by
  unfold kyN pla wD plz
  cases n <;> simp <;> repeat' split
  all_goals omega
theorem kyN_lt (n n' : Bool) (m m' : Nat) (h : m ≤ 9218868437227405312) (h' : m' ≤ 9218868437227405312) : kyN (wD n m) < kyN (wD n' m') ↔ plz n m < plz n' m' := by
  have e1 := kyN_w n m h
  have e2 := kyN_w n' m' h'
  have : (kyN (wD n m) < kyN (wD n' m')) ↔ ((kyN (wD n m) : Int) < kyN (wD n' m')) := by omega
  rw [this, e1, e2]
  repeat' split
  all_goals omega
end Fq
namespace Fq
theorem Grown.setCell {W w' : World} (h : Grown W w') {a : Addr} (ha : W.heap.size ≤ a.block) (v : Value) : Grown W (w'.setCell a v) := Below.setCell h ha v
@[go_sem] theorem run_store_float6 (P : Program) (w : World) (a : Addr) (m : Mode) (k : FloatKind) (x : Nat) : (store a (.float k x) m).run P w = stored P w a (.float k x) m := run_store P w a _ m rfl
set_option maxRecDepth 20000 in
set_option maxHeartbeats 400000 in
theorem inf1_ (w : World) : Calls Try.prog 62 #[.int .i64 1] w fun e w' => e = .returned (.float .f64 9218868437227405312) ∧ w' = w := by
  have hf : ∀ w : World, (callFunc 42 #[.int .u64 9218868437227405312]).run Try.prog w = .ok (.value (.float .f64 9218868437227405312)) w := ff64 9218868437227405312
  go_enter Try.func62, Try.ntmps62
  go_wp2_with (first | (simp only [hf]))
  exact bodyPost_ret (v := .float .f64 9218868437227405312) (by simp [results, Try.results62, go_sem] <;> simp only [*]) rfl ⟨rfl, rfl⟩
set_option maxRecDepth 20000 in
set_option maxHeartbeats 400000 in
theorem infm_ (w : World) : Calls Try.prog 62 #[.int .i64 (-1)] w fun e w' => e = .returned (.float .f64 18442240474082181120) ∧ w' = w := by
  have hf : ∀ w : World, (callFunc 42 #[.int .u64 18442240474082181120]).run Try.prog w = .ok (.value (.float .f64 18442240474082181120)) w := ff64 18442240474082181120
  go_enter Try.func62, Try.ntmps62
  go_wp2_with (first | (simp only [hf]))
  exact bodyPost_ret (v := .float .f64 18442240474082181120) (by simp [results, Try.results62, go_sem] <;> simp only [*]) rfl ⟨rfl, rfl⟩
set_option maxRecDepth 20000 in
set_option maxHeartbeats 400000 in
theorem plain6_ (x : Nat) (h : x < 18446744073709551616) (w : World) : Calls Try.prog 63 #[.float .f64 x] w fun e w' => e = .returned (.float .f64 (pla x)) ∧ w' = w := by
  have t := feq0 x h
  by_cases c : x = 0 ∨ x = 9223372036854775808
  · rw [decide_eq_true c] at t
    have e : pla x = 0 := by unfold pla; split <;> omega
    rw [e]; clear c e h
    go_enter Try.func63, Try.ntmps63
    go_wp2
    exact bodyPost_ret (v := .float .f64 0) (by simp [results, Try.results63, go_sem] <;> simp only [*]) rfl ⟨rfl, rfl⟩
  · rw [decide_eq_false c] at t
    have e : pla x = x := by unfold pla; rw [if_neg (by omega)]
    rw [e]; clear c e h
    go_enter Try.func63, Try.ntmps63
    go_wp2
    exact bodyPost_ret (v := .float .f64 x) (by simp [results, Try.results63, go_sem] <;> simp only [*]) rfl ⟨rfl, rfl⟩
set_option maxRecDepth 20000 in
set_option maxHeartbeats 400000 in
theorem empty6_ (w : World) : Calls Try.prog 38 #[] w fun e w' => e = .returned (.agg #[.float .f64 9218868437227405312, .float .f64 18442240474082181120]) ∧ w' = w.alloc (.cells #[.float .f64 9218868437227405312, .float .f64 18442240474082181120] 40) := by
  go_enter Try.func38, Try.ntmps38
  go_wp2_with (go_at_call 62; (first | refine (inf1_ _).mono ?_ | refine (infm_ _).mono ?_); rintro e w' ⟨rfl, rfl⟩)
  exact bodyPost_ret (v := .agg #[.float .f64 9218868437227405312, .float .f64 18442240474082181120]) (by simp [results, Try.results38, go_sem] <;> simp only [*]) rfl ⟨rfl, rfl⟩
end Fq
end Go.Proofs.Ytjkbapnndoldgaa
