import Derived.Test.YtjkbapnndoldgaaKH8Q
import Derived.Test.YtjkbapnndoldgaaKSHmfar
namespace Go.Proofs.Ytjkbapnndoldgaa
open Go.RowKit

def ix : List Int → Int → Nat
  | [], _ => 0
  | c :: cs, x => if c = x then 0 else ix cs x + 1
theorem ix_hit (cs : List Int) (x : Int) (k : Nat) (hk : k < cs.length) (h : ∀ i, i < k → cs.getD i 0 ≠ x) (e : cs.getD k 0 = x) : ix cs x = k := by
  induction cs generalizing k with
  | nil => simp at hk
  | cons c cs ih =>
    cases k with
    | zero => simp at e; simp [ix, e]
    | succ k =>
      have h0 := h 0 (by omega)
      simp at h0
      rw [ix, if_neg h0, ih k (by simpa using hk) (fun i hi => by simpa using h (i + 1) (by omega)) (by simpa using e)]
theorem ix_none (cs : List Int) (x : Int) (h : ∀ i, i < cs.length → cs.getD i 0 ≠ x) : ix cs x = cs.length := by
  induction cs with
  | nil => rfl
  | cons c cs ih =>
    have h0 := h 0 (by simp)
    simp at h0
    rw [ix, if_neg h0, ih (fun i hi => by simpa using h (i + 1) (by simpa using hi))]
    simp
def plN (cs : List Int) (x : Int) : Nat := if x = -9218868437227405312 then 0 else 4 * (ix cs x + 1)
theorem pI_MI : pI (-9218868437227405312) = 18442240474082181120 := by decide
set_option maxRecDepth 20000 in
set_option maxHeartbeats 2000000 in
theorem place_ (x : Int) (hx : BdZ x) (cs : List Int) (hc : ∀ i, i < cs.length → BdZ (cs.getD i 0)) (hl : cs.length ≤ 4) (p : Option Addr) (K c base : Nat) (hK : K = cs.length) (w : World) (hown : U9.Own w base (.slice p K c) (cs.map pI)) : Calls Try.prog 105 #[.int .u64 (pI x), .slice p K c] w fun e w' => e = .returned (.int .i64 ((plN cs x : Nat) : Int)) ∧ w' = w := by
  obtain ⟨p', c', hv, harr, _⟩ := hown.arr
  have hp : p = p' := by injection hv
  rw [← hp] at harr
  have HK : Hid (K = cs.length) := hK
  have HR : Hid (U9.Arr w p (cs.map pI)) := harr
  have HX : Hid (BdZ x) := hx
  have HC : Hid (∀ i, i < cs.length → BdZ (cs.getD i 0)) := hc
  have hK4 : K ≤ 4 := by omega
  clear hown hv harr hp hc hl hK hx
  by_cases c1 : x = -9218868437227405312
  · have t1 : (pI x == 18442240474082181120) = true := by rw [c1, pI_MI]; rfl
    rw [show plN cs x = 0 from by unfold plN; rw [if_pos c1]]
    generalize pI x = X at t1 ⊢
    clear c1 HC HX HR HK
    go_enter Try.func105, Try.ntmps105
    go_wp2
    exact bodyPost_ret (v := .int .i64 0) (by simp [results, Try.results105, go_sem]) rfl ⟨rfl, rfl⟩
  · have t1 : (pI x == 18442240474082181120) = false := by
      have h := pI_inj x (-9218868437227405312) HX.out (by unfold BdZ; omega)
      rw [pI_MI] at h
      simpa using fun e => c1 (h.1 e)
    have HP : Hid (plN cs x = 4 * (ix cs x + 1)) := by unfold plN; rw [if_neg c1]; trivial
    have HE : Hid (∀ i, i < cs.length → (pI (cs.getD i 0) = pI x ↔ cs.getD i 0 = x)) := fun i hi => pI_inj _ _ (HC.out i hi) HX.out
    obtain ⟨X, hX⟩ : ∃ X, X = pI x := ⟨_, rfl⟩
    rw [← hX] at t1 HE ⊢
    generalize plN cs x = PL at HP ⊢
    clear c1 hX HC HX
    go_enter Try.func105, Try.ntmps105
    go_wp2
    go_loop [5] (fun i => ∃ k : Nat, i = .int .i64 k ∧ k ≤ K ∧ Hid (∀ i, i < k → cs.getD i 0 ≠ x)) (fun i => K - (intOf i).toNat)
    case atStart => exact ⟨0, rfl, Nat.zero_le _, fun i hi => by omega⟩
    case round =>
      obtain ⟨k, rfl, hk, HH⟩ := hrel
      have hKe := HK.out
      have hPe := HP.out
      by_cases ck : k < K
      · obtain ⟨b, off, rfl, hc'⟩ := HR.out.at (k := k) (by simp; omega)
        have e1 := hc' k (by simp; omega)
        rw [show (cs.map pI).getD k 0 = pI (cs.getD k 0) from by simp [List.getD, show k < cs.length from by omega]] at e1
        have he := HE.out k (by omega)
        by_cases c2 : cs.getD k 0 = x
        · have hix := ix_hit cs x k (by omega) HH.out c2
          have t2 : (pI (cs.getD k 0) == X) = true := by simpa using he.2 c2
          have hPL : ((PL : Nat) : Int) = 4 * ((k : Int) + 1) := by rw [hPe, hix]; omega
          generalize pI (cs.getD k 0) = Y at e1 t2
          clear hix c2 he hc' HH HE HP HR HK hKe hPe
          have HPL : Hid (((PL : Nat) : Int) = 4 * ((k : Int) + 1)) := hPL
          clear hPL
          go_wp2
          exact bodyPost_ret (v := .int .i64 (4 * ((k : Int) + 1))) (by simp [results, Try.results105, go_sem]) rfl ⟨by rw [HPL.out], rfl⟩
        · have t2 : (pI (cs.getD k 0) == X) = false := by simpa using fun h => c2 (he.1 h)
          have hN : Hid (∀ i, i < k + 1 → cs.getD i 0 ≠ x) := fun i hi => by
            by_cases e : i = k
            · rw [e]; exact c2
            · exact HH.out i (by omega)
          generalize pI (cs.getD k 0) = Y at e1 t2
          clear c2 he hc' HH HE HP HR HK hKe hPe
          go_wp2
          exact ⟨⟨k + 1, by go_num, by omega, hN⟩, by simp [intOf]; omega⟩
      · have hix := ix_none cs x (fun i hi => HH.out i (by omega))
        have hPL : ((PL : Nat) : Int) = 4 * ((K : Int) + 1) := by rw [hPe, hix, hKe]; omega
        clear hix HH HE HP HR HK hKe hPe
        have HPL : Hid (((PL : Nat) : Int) = 4 * ((K : Int) + 1)) := hPL
        clear hPL
        go_wp2
        exact bodyPost_ret (v := .int .i64 (4 * ((K : Int) + 1))) (by simp [results, Try.results105, go_sem]) rfl ⟨by rw [HPL.out], rfl⟩
set_option linter.unusedVariables false

def H3 (w : World) (b : Nat) (u v t : Value) : Prop := w.cell? ⟨b, 0, none⟩ = some u ∧ w.cell? ⟨b, 1, none⟩ = some v ∧ w.cell? ⟨b, 2, none⟩ = some t ∧ w.frozen? ⟨b, 0, none⟩ = false ∧ w.frozen? ⟨b, 1, none⟩ = false ∧ w.frozen? ⟨b, 2, none⟩ = false
theorem H3.keep {W w : World} {b : Nat} {u v t : Value} (h : H3 W b u v t) (g : Kp W w) : H3 w b u v t :=
  ⟨kkeep g h.1, kkeep g h.2.1, kkeep g h.2.2.1, (Fq.gfroz g (cell_lt h.1)).trans h.2.2.2.1, (Fq.gfroz g (cell_lt h.1)).trans h.2.2.2.2.1, (Fq.gfroz g (cell_lt h.1)).trans h.2.2.2.2.2⟩
theorem H3.new (w : World) (u v t : Value) (s : TypeId) : H3 (w.alloc (.cells #[u, v, t] s)) w.heap.size u v t := by
  unfold H3; simp [go_sem]
theorem H3.past {w : World} {b : Nat} {u v t : Value} (h : H3 w b u v t) (c : Array Value) (s : TypeId) : H3 (w.alloc (.cells c s)) b u v t := h.keep ((Kp.refl _).alloc _)
theorem H3.put {w : World} {b : Nat} {u v t : Value} (h : H3 w b u v t) (u' v' t' : Value) : H3 (((w.setCell ⟨b, 0, none⟩ u').setCell ⟨b, 1, none⟩ v').setCell ⟨b, 2, none⟩ t') b u' v' t' := by
  obtain ⟨h0, h1, h2, h3, h4, h5⟩ := h
  unfold H3; simp [go_sem, h0, h1, h2, h3, h4, h5]
theorem H3.far {w : World} {b : Nat} {u v t : Value} (h : H3 w b u v t) {c : Nat} (hne : c ≠ b) (u' v' t' : Value) : H3 (((w.setCell ⟨c, 0, none⟩ u').setCell ⟨c, 1, none⟩ v').setCell ⟨c, 2, none⟩ t') b u v t := by
  obtain ⟨h0, h1, h2, h3, h4, h5⟩ := h
  have f : ∀ k, ((((w.setCell ⟨c, 0, none⟩ u').setCell ⟨c, 1, none⟩ v').setCell ⟨c, 2, none⟩ t')).cell? ⟨b, k, none⟩ = w.cell? ⟨b, k, none⟩ := fun k => by
    rw [World.cell?_setCell_far _ _ _ _ (by simpa using hne), World.cell?_setCell_far _ _ _ _ (by simpa using hne), World.cell?_setCell_far _ _ _ _ (by simpa using hne)]
  refine ⟨(f 0).trans h0, (f 1).trans h1, (f 2).trans h2, ?_, ?_, ?_⟩
  · simp only [World.frozen?_setCell]; exact h3
  · simp only [World.frozen?_setCell]; exact h4
  · simp only [World.frozen?_setCell]; exact h5

def hsB (N : Bool) (P Q p : Nat) : Bool := !N && (decide (P ≤ p) && decide (p ≤ Q))
set_option maxRecDepth 20000 in
set_option maxHeartbeats 2000000 in
theorem has_ (N : Bool) (P Q p : Nat) (w : World) : Calls Try.prog 106 #[.agg #[.bool N, .int .i64 (P : Int), .int .i64 (Q : Int)], .int .i64 (p : Int)] w fun e w' => e = .returned (.bool (hsB N P Q p)) ∧ Kp w w' := by
  unfold hsB
  by_cases c1 : P ≤ p
  · have t1 : (P : Int) ≤ (p : Int) := by omega
    rw [decide_eq_true c1]
    by_cases c2 : p ≤ Q
    · have t2 : (p : Int) ≤ (Q : Int) := by omega
      rw [decide_eq_true c2]
      clear c1 c2
      cases N
      all_goals (
        go_enter Try.func106, Try.ntmps106
        go_wp2
        exact bodyPost_ret (v := .bool _) (by simp [results, Try.results106, go_sem]) rfl ⟨rfl, (by repeat (with_reducible (first | assumption | exact Kp.refl _ | apply Kp.drew | apply Kp.alloc | apply Kp.drewN | (refine Kp.setCell ?_ (by first | omega | (simp <;> omega)) _) | (refine Kp.trans ?_ (by assumption)))))⟩)
    · have t2 : ¬ (p : Int) ≤ (Q : Int) := by omega
      rw [decide_eq_false c2]
      clear c1 c2
      cases N
      all_goals (
        go_enter Try.func106, Try.ntmps106
        go_wp2
        exact bodyPost_ret (v := .bool false) (by simp [results, Try.results106, go_sem] <;> omega) rfl ⟨rfl, (by repeat (with_reducible (first | assumption | exact Kp.refl _ | apply Kp.drew | apply Kp.alloc | apply Kp.drewN | (refine Kp.setCell ?_ (by first | omega | (simp <;> omega)) _) | (refine Kp.trans ?_ (by assumption)))))⟩)
  · have t1 : ¬ (P : Int) ≤ (p : Int) := by omega
    rw [decide_eq_false c1]
    clear c1
    cases N
    all_goals (
      go_enter Try.func106, Try.ntmps106
      go_wp2
      exact bodyPost_ret (v := .bool false) (by simp [results, Try.results106, go_sem] <;> omega) rfl ⟨rfl, (by repeat (with_reducible (first | assumption | exact Kp.refl _ | apply Kp.drew | apply Kp.alloc | apply Kp.drewN | (refine Kp.setCell ?_ (by first | omega | (simp <;> omega)) _) | (refine Kp.trans ?_ (by assumption)))))⟩)
set_option maxRecDepth 20000 in
set_option maxHeartbeats 1000000 in
theorem asked5_ (a b : Nat) (w : World) : Calls Try.prog 107 #[.int .i64 5, .int .i64 (a : Int), .int .i64 (b : Int)] w fun e w' => e = .returned (.bool (decide (a ≠ b))) ∧ w' = w := by
  by_cases c : a ≠ b
  · have t : (a : Int) ≠ (b : Int) := by omega
    have t' : ((a : Int) == (b : Int)) = decide (a = b) := by by_cases e : a = b <;> simp [e] <;> omega
    rw [decide_eq_true c]
    go_enter Try.func107, Try.ntmps107
    go_wp2
    exact bodyPost_ret (v := .bool true) (by simp [results, Try.results107, go_sem] <;> omega) rfl ⟨rfl, rfl⟩
  · have t : ¬ ((a : Int) ≠ (b : Int)) := by omega
    have t' : ((a : Int) == (b : Int)) = decide (a = b) := by by_cases e : a = b <;> simp [e] <;> omega
    rw [decide_eq_false c]
    go_enter Try.func107, Try.ntmps107
    go_wp2
    exact bodyPost_ret (v := .bool false) (by simp [results, Try.results107, go_sem] <;> omega) rfl ⟨rfl, rfl⟩
end Go.Proofs.Ytjkbapnndoldgaa
