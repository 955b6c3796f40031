import Derived.Test.YthdcjalkclnneaaProg
import Derived.Test.YthdcjalkclnneaaM
import Derived.Test.YthdcjalkclnneaaA
import Derived.Test.YthdcjalkclnneaaIM
import Derived.Test.YthdcjalkclnneaaIA
import Derived.Test.YthdcjalkclnneaaIB
import Derived.Test.YthdcjalkclnneaaIC
import Derived.Test.YthdcjalkclnneaaIH
import Derived.Test.YthdcjalkclnneaaIW
import Derived.Test.YthdcjalkclnneaaIN
import Derived.Test.YthdcjalkclnneaaIR
import Derived.Test.YthdcjalkclnneaaIS
import Derived.Test.YthdcjalkclnneaaIX
import Derived.Test.YthdcjalkclnneaaIK
import Derived.Test.YthdcjalkclnneaaIG
import Derived.WalkKit
import Derived.ProofKit
import Derived.RowKit3
import Derived.Deep.RegionHeld3
import Derived.WalkSpells
import Derived.StillTactics
import Derived.Laws.FloatArith
import Derived.Deep.QuietTactic
import Derived.BigQuiet
namespace Go.Proofs.Ythdcjalkclnneaa
open Go.RowKit
set_option maxRecDepth 20000 in
set_option maxHeartbeats 2000000 in
theorem makes_ (n n' : Bool) (m m' : Nat) (hm : m < 9223372036854775808) (hm' : m' < 9223372036854775808) (w : World) : Calls Try.prog 3 #[.agg #[.int .u64 (((wD n m) : Nat) : Int), .int .u64 (((wD n' m') : Nat) : Int)]] w fun e w' => e = .returned (.bool true) ∧ Grown w w' := by
  have bX : wD n m < 18446744073709551616 := by unfold wD; split <;> omega
  have bY : wD n' m' < 18446744073709551616 := by unfold wD; split <;> omega
  have hN := new_ (wD n m) (wD n' m') bX bY
  have hP := point_ (wD n m) bX
  have hR := rnew_ n n' m m' hm hm'
  have hR2 := rnew_ n n m m hm hm
  have f1 := ff64 (wD n m)
  have f2 := ff64 (wD n' m')
  have h1 : ∀ e : Int, e = ner (wD n m) (wD n' m') → True := fun _ _ => trivial
  have o1 := out_ (nlo (wD n m) (wD n' m')) (nhi (wD n m) (wD n' m'))
  have o2 := out_ (nlo (wD n m) (wD n m)) (nhi (wD n m) (wD n m))
  unfold ner at hN hP
  clear h1 bX bY hm hm'
  generalize snd (wD n m) (wD n' m') = s at hN hR
  generalize snd (wD n m) (wD n m) = s2 at hP hR2
  generalize nlo (wD n m) (wD n' m') = A1 at hN hR o1
  generalize nhi (wD n m) (wD n' m') = A2 at hN hR o1
  generalize nlo (wD n m) (wD n m) = B1 at hP hR2 o2
  generalize nhi (wD n m) (wD n m) = B2 at hP hR2 o2
  generalize wD n m = X at *
  generalize wD n' m' = Y at *
  generalize (A1 : Int) = A1I at hR o1
  generalize (A2 : Int) = A2I at hR o1
  generalize (B1 : Int) = B1I at hR2 o2
  generalize (B2 : Int) = B2I at hR2 o2
  generalize (X : Int) = XI at *
  generalize (Y : Int) = YI at *
  obtain ⟨E, hE⟩ : ∃ E : Int, E = if s = true then 0 else 1 := ⟨_, rfl⟩
  obtain ⟨E2, hE2⟩ : ∃ E2 : Int, E2 = if s2 = true then 0 else 1 := ⟨_, rfl⟩
  rw [← hE] at hN
  rw [← hE2] at hP
  cases s <;> cases s2
  · have hE' : E = 1 := hE
    have hE2' : E2 = 1 := hE2
    subst hE' hE2'
    clear hE hE2
    go_enter Try.func3, Try.ntmps3
    go_wp2
    go_region_held3 (fun w' => w'.cell? ⟨w.heap.size, 0, none⟩ = some (.int .u64 XI) ∧ w'.cell? ⟨w.heap.size, 1, none⟩ = some (.int .u64 YI)) (first | (exact ⟨q0.1, q0.2.1⟩) | (exact ⟨(H2.past q0 _ _).1, (H2.past q0 _ _).2.1⟩) | (exact ⟨(H2.far q0 (by omega) _ _).1, (H2.far q0 (by omega) _ _).2.1⟩) | (simp [go_sem])) (first | (go_at_call 5; refine (hN _).mono ?_; rintro e w1 ⟨rfl, g1⟩; have q0 : H2 w1 w.heap.size (.int .u64 XI) (.int .u64 YI) := (by refine H2.keep ?_ g1; exact H2.keep (H2.new w (.int .u64 XI) (.int .u64 YI) 24) (by repeat (with_reducible (first | assumption | exact Grown.refl _ | apply Grown.drew | apply Grown.alloc | apply gdrewN | (refine Grown.setCell ?_ (by simp <;> omega) _) | (refine gtrans ?_ (by assumption)))))); have gw1 : Grown w w1 := (by repeat (with_reducible (first | assumption | exact Grown.refl _ | apply Grown.drew | apply Grown.alloc | apply gdrewN | (refine Grown.setCell ?_ (by simp <;> omega) _) | (refine gtrans ?_ (by assumption))))); first | (have q9 := H2.keep (H2.two w (.int .u64 XI) (.int .u64 YI) (.float .f64 0) (.float .f64 0) 24 27) g1; obtain ⟨b0, b1, b2, b3⟩ := id q9) | skip))
    all_goals (first
      | skip
        generalize hW1 : World.setCell _ _ _ = W1
        have qx : H2 W1 w.heap.size (.int .u64 XI) (.int .u64 YI) := by rw [← hW1]; exact H2.far q0 (by omega) _ _
        have qg : H2 W1 (w.heap.size + 1) (.float .f64 A1) (.float .f64 A2) := by rw [← hW1]; exact H2.put q9 _ _
        have gW : Grown w W1 := by rw [← hW1]; exact Grown.setCell (Grown.setCell gw1 (Nat.le_succ _) _) (Nat.le_succ _) _
        have hbg : w.heap.size < w.heap.size + 1 := Nat.lt_succ_self _
        generalize w.heap.size + 1 = bg at qg hbg ⊢
        skip
      | skip
        generalize hW1 : World.alloc w1 _ = W1
        have qx : H2 W1 w.heap.size (.int .u64 XI) (.int .u64 YI) := by rw [← hW1]; exact H2.past q0 _ _
        have qg : H2 W1 w1.heap.size (.float .f64 A1) (.float .f64 A2) := by rw [← hW1]; exact H2.new _ _ _ _
        have gW : Grown w W1 := by rw [← hW1]; exact Grown.alloc gw1 _ _
        have hbg : w.heap.size < w1.heap.size := H2.lt q0
        generalize w1.heap.size = bg at qg hbg ⊢
        skip)
    all_goals (
      have qg0 := qg
      obtain ⟨x0, x1, x2, x3⟩ := id qx
      go_wp2_with (first | (go_at_call 7; refine (hR _).mono ?_; rintro e w2 ⟨rfl, g2⟩))
      clear x0 x1 x2 x3
      replace qx := H2.past (H2.keep qx g2) #[.int .u64 A1I, .int .u64 A2I] 24
      replace qg := H2.past (H2.keep qg g2) #[.int .u64 A1I, .int .u64 A2I] 24
      have qw := H2.new w2 (.int .u64 A1I) (.int .u64 A2I) 24
      replace gW := Grown.alloc (gtrans gW g2) #[.int .u64 A1I, .int .u64 A2I] 24
      have hbw : w.heap.size ≤ w2.heap.size := Nat.le_trans (Nat.le_of_lt hbg) (Nat.le_of_lt (H2.lt (H2.keep qg0 g2)))
      have hne : bg ≠ w2.heap.size := Nat.ne_of_lt (H2.lt (H2.keep qg0 g2))
      have hnx : w.heap.size ≠ w2.heap.size := Nat.ne_of_lt (Nat.lt_trans hbg (H2.lt (H2.keep qg0 g2)))
      generalize hW2 : w2.alloc (.cells #[.int .u64 A1I, .int .u64 A2I] 24) = W2 at qx qg qw gW ⊢
      generalize w2.heap.size = bw at hbw hne hnx qw ⊢
      clear hW2 g2 qg0
      refine wp_region_grow (by kernel_rfl) (by kernel_rfl) (fun ι _ G hG hall => ?_)
      have c0 : ∀ n, (G n).cell? ⟨bg, 0, none⟩ = some (.float .f64 A1) := fun n => gkeep (hG n) qg.1
      have c1 : ∀ n, (G n).cell? ⟨bg, 1, none⟩ = some (.float .f64 A2) := fun n => gkeep (hG n) qg.2.1
      have c2 : ∀ n, (G n).cell? ⟨bw, 0, none⟩ = some (.int .u64 A1I) := fun n => gkeep (hG n) qw.1
      have c3 : ∀ n, (G n).cell? ⟨bw, 1, none⟩ = some (.int .u64 A2I) := fun n => gkeep (hG n) qw.2.1
      repeat (go_big_quiet_step (first | (go_at_call 8; exact (o1 _).mono (fun e w' h => ⟨h.1, hall _ (gtrans (hG _) h.2)⟩))))
      refine wpQuiet_nil ?_
      rintro _ ⟨nq, rfl⟩
      have gq := hG nq
      replace qx := H2.keep qx gq
      replace qg := H2.keep qg gq
      replace qw := H2.keep qw gq
      replace gW := gtrans gW gq
      generalize G nq = W3 at qx qg qw gW ⊢
      clear c0 c1 c2 c3 hall gq hG
      obtain ⟨x0, x1, x2, x3⟩ := id qx
      obtain ⟨y0, y1, y2, y3⟩ := id qg
      go_wp2_with (first | (go_at_call 9; refine (hP _).mono ?_; rintro e w4 ⟨rfl, g4⟩; obtain ⟨u0, u1, u2, u3⟩ := H2.keep qg g4; obtain ⟨v0, v1, v2, v3⟩ := H2.keep qx g4) | (go_at_call 7; refine (hR2 _).mono ?_; rintro e w6 ⟨rfl, g6⟩; have qw6 := H2.keep (H2.far (H2.keep qw g4) hne (.float .f64 B1) (.float .f64 B2)) g6; obtain ⟨t0, t1, t2, t3⟩ := id qw6))
      clear x0 x1 x2 x3 y0 y1 y2 y3 u0 u1 u2 u3 v0 v1 v2 v3 t0 t1 t2 t3
      replace qg := H2.far (H2.keep (H2.put (H2.keep qg g4) (.float .f64 B1) (.float .f64 B2)) g6) (Ne.symm hne) (.int .u64 B1I) (.int .u64 B2I)
      replace qx := H2.far (H2.keep (H2.far (H2.keep qx g4) (Ne.symm (Nat.ne_of_lt hbg)) (.float .f64 B1) (.float .f64 B2)) g6) (Ne.symm hnx) (.int .u64 B1I) (.int .u64 B2I)
      replace qw := H2.put qw6 (.int .u64 B1I) (.int .u64 B2I)
      replace gW : Grown w ((w6.setCell ⟨bw, 0, none⟩ (.int .u64 B1I)).setCell ⟨bw, 1, none⟩ (.int .u64 B2I)) := by
        have gW4 := Grown.setCell (Grown.setCell (gtrans gW g4) (a := ⟨bg, 0, none⟩) (Nat.le_of_lt hbg) (.float .f64 B1)) (a := ⟨bg, 1, none⟩) (Nat.le_of_lt hbg) (.float .f64 B2)
        exact Grown.setCell (Grown.setCell (gtrans gW4 g6) hbw _) hbw _
      generalize hW7 : (w6.setCell ⟨bw, 0, none⟩ (.int .u64 B1I)).setCell ⟨bw, 1, none⟩ (.int .u64 B2I) = W7 at qx qg qw gW ⊢
      clear hW7 g6 g4 qw6
      refine wp_region_grow (by kernel_rfl) (by kernel_rfl) (fun ι _ G hG hall => ?_)
      have c0 : ∀ n, (G n).cell? ⟨bg, 0, none⟩ = some (.float .f64 B1) := fun n => gkeep (hG n) qg.1
      have c1 : ∀ n, (G n).cell? ⟨bg, 1, none⟩ = some (.float .f64 B2) := fun n => gkeep (hG n) qg.2.1
      have c2 : ∀ n, (G n).cell? ⟨bw, 0, none⟩ = some (.int .u64 B1I) := fun n => gkeep (hG n) qw.1
      have c3 : ∀ n, (G n).cell? ⟨bw, 1, none⟩ = some (.int .u64 B2I) := fun n => gkeep (hG n) qw.2.1
      repeat (go_big_quiet_step (first | (go_at_call 8; exact (o2 _).mono (fun e w' h => ⟨h.1, hall _ (gtrans (hG _) h.2)⟩))))
      refine wpQuiet_nil ?_
      rintro _ ⟨nq, rfl⟩
      have gq := hG nq
      replace qx := H2.keep qx gq
      replace qg := H2.keep qg gq
      replace qw := H2.keep qw gq
      replace gW := gtrans gW gq
      generalize G nq = W8 at qx qg qw gW ⊢
      clear c0 c1 c2 c3 hall gq hG
      go_wp2
      exact bodyPost_ret (v := .bool true) (by simp [results, Try.results3, go_sem] <;> simp only [*]) rfl ⟨rfl, gW⟩)
  · have hE' : E = 1 := hE
    have hE2' : E2 = 0 := hE2
    subst hE' hE2'
    clear hE hE2
    go_enter Try.func3, Try.ntmps3
    go_wp2
    go_region_held3 (fun w' => w'.cell? ⟨w.heap.size, 0, none⟩ = some (.int .u64 XI) ∧ w'.cell? ⟨w.heap.size, 1, none⟩ = some (.int .u64 YI)) (first | (exact ⟨q0.1, q0.2.1⟩) | (exact ⟨(H2.past q0 _ _).1, (H2.past q0 _ _).2.1⟩) | (exact ⟨(H2.far q0 (by omega) _ _).1, (H2.far q0 (by omega) _ _).2.1⟩) | (simp [go_sem])) (first | (go_at_call 5; refine (hN _).mono ?_; rintro e w1 ⟨rfl, g1⟩; have q0 : H2 w1 w.heap.size (.int .u64 XI) (.int .u64 YI) := (by refine H2.keep ?_ g1; exact H2.keep (H2.new w (.int .u64 XI) (.int .u64 YI) 24) (by repeat (with_reducible (first | assumption | exact Grown.refl _ | apply Grown.drew | apply Grown.alloc | apply gdrewN | (refine Grown.setCell ?_ (by simp <;> omega) _) | (refine gtrans ?_ (by assumption)))))); have gw1 : Grown w w1 := (by repeat (with_reducible (first | assumption | exact Grown.refl _ | apply Grown.drew | apply Grown.alloc | apply gdrewN | (refine Grown.setCell ?_ (by simp <;> omega) _) | (refine gtrans ?_ (by assumption))))); first | (have q9 := H2.keep (H2.two w (.int .u64 XI) (.int .u64 YI) (.float .f64 0) (.float .f64 0) 24 27) g1; obtain ⟨b0, b1, b2, b3⟩ := id q9) | skip))
    all_goals (first
      | skip
        generalize hW1 : World.setCell _ _ _ = W1
        have qx : H2 W1 w.heap.size (.int .u64 XI) (.int .u64 YI) := by rw [← hW1]; exact H2.far q0 (by omega) _ _
        have qg : H2 W1 (w.heap.size + 1) (.float .f64 A1) (.float .f64 A2) := by rw [← hW1]; exact H2.put q9 _ _
        have gW : Grown w W1 := by rw [← hW1]; exact Grown.setCell (Grown.setCell gw1 (Nat.le_succ _) _) (Nat.le_succ _) _
        have hbg : w.heap.size < w.heap.size + 1 := Nat.lt_succ_self _
        generalize w.heap.size + 1 = bg at qg hbg ⊢
        skip
      | skip
        generalize hW1 : World.alloc w1 _ = W1
        have qx : H2 W1 w.heap.size (.int .u64 XI) (.int .u64 YI) := by rw [← hW1]; exact H2.past q0 _ _
        have qg : H2 W1 w1.heap.size (.float .f64 A1) (.float .f64 A2) := by rw [← hW1]; exact H2.new _ _ _ _
        have gW : Grown w W1 := by rw [← hW1]; exact Grown.alloc gw1 _ _
        have hbg : w.heap.size < w1.heap.size := H2.lt q0
        generalize w1.heap.size = bg at qg hbg ⊢
        skip)
    all_goals (
      have qg0 := qg
      obtain ⟨x0, x1, x2, x3⟩ := id qx
      go_wp2_with (first | (go_at_call 7; refine (hR _).mono ?_; rintro e w2 ⟨rfl, g2⟩))
      clear x0 x1 x2 x3
      replace qx := H2.past (H2.keep qx g2) #[.int .u64 A1I, .int .u64 A2I] 24
      replace qg := H2.past (H2.keep qg g2) #[.int .u64 A1I, .int .u64 A2I] 24
      have qw := H2.new w2 (.int .u64 A1I) (.int .u64 A2I) 24
      replace gW := Grown.alloc (gtrans gW g2) #[.int .u64 A1I, .int .u64 A2I] 24
      have hbw : w.heap.size ≤ w2.heap.size := Nat.le_trans (Nat.le_of_lt hbg) (Nat.le_of_lt (H2.lt (H2.keep qg0 g2)))
      have hne : bg ≠ w2.heap.size := Nat.ne_of_lt (H2.lt (H2.keep qg0 g2))
      have hnx : w.heap.size ≠ w2.heap.size := Nat.ne_of_lt (Nat.lt_trans hbg (H2.lt (H2.keep qg0 g2)))
      generalize hW2 : w2.alloc (.cells #[.int .u64 A1I, .int .u64 A2I] 24) = W2 at qx qg qw gW ⊢
      generalize w2.heap.size = bw at hbw hne hnx qw ⊢
      clear hW2 g2 qg0
      refine wp_region_grow (by kernel_rfl) (by kernel_rfl) (fun ι _ G hG hall => ?_)
      have c0 : ∀ n, (G n).cell? ⟨bg, 0, none⟩ = some (.float .f64 A1) := fun n => gkeep (hG n) qg.1
      have c1 : ∀ n, (G n).cell? ⟨bg, 1, none⟩ = some (.float .f64 A2) := fun n => gkeep (hG n) qg.2.1
      have c2 : ∀ n, (G n).cell? ⟨bw, 0, none⟩ = some (.int .u64 A1I) := fun n => gkeep (hG n) qw.1
      have c3 : ∀ n, (G n).cell? ⟨bw, 1, none⟩ = some (.int .u64 A2I) := fun n => gkeep (hG n) qw.2.1
      repeat (go_big_quiet_step (first | (go_at_call 8; exact (o1 _).mono (fun e w' h => ⟨h.1, hall _ (gtrans (hG _) h.2)⟩))))
      refine wpQuiet_nil ?_
      rintro _ ⟨nq, rfl⟩
      have gq := hG nq
      replace qx := H2.keep qx gq
      replace qg := H2.keep qg gq
      replace qw := H2.keep qw gq
      replace gW := gtrans gW gq
      generalize G nq = W3 at qx qg qw gW ⊢
      clear c0 c1 c2 c3 hall gq hG
      obtain ⟨x0, x1, x2, x3⟩ := id qx
      obtain ⟨y0, y1, y2, y3⟩ := id qg
      go_wp2_with (first | (go_at_call 9; refine (hP _).mono ?_; rintro e w4 ⟨rfl, g4⟩; obtain ⟨u0, u1, u2, u3⟩ := H2.keep qg g4; obtain ⟨v0, v1, v2, v3⟩ := H2.keep qx g4) | (go_at_call 7; refine (hR2 _).mono ?_; rintro e w6 ⟨rfl, g6⟩; have qw6 := H2.keep (H2.far (H2.keep qw g4) hne (.float .f64 B1) (.float .f64 B2)) g6; obtain ⟨t0, t1, t2, t3⟩ := id qw6))
      clear x0 x1 x2 x3 y0 y1 y2 y3 u0 u1 u2 u3 v0 v1 v2 v3 t0 t1 t2 t3
      replace qg := H2.far (H2.keep (H2.put (H2.keep qg g4) (.float .f64 B1) (.float .f64 B2)) g6) (Ne.symm hne) (.int .u64 B1I) (.int .u64 B2I)
      replace qx := H2.far (H2.keep (H2.far (H2.keep qx g4) (Ne.symm (Nat.ne_of_lt hbg)) (.float .f64 B1) (.float .f64 B2)) g6) (Ne.symm hnx) (.int .u64 B1I) (.int .u64 B2I)
      replace qw := H2.put qw6 (.int .u64 B1I) (.int .u64 B2I)
      replace gW : Grown w ((w6.setCell ⟨bw, 0, none⟩ (.int .u64 B1I)).setCell ⟨bw, 1, none⟩ (.int .u64 B2I)) := by
        have gW4 := Grown.setCell (Grown.setCell (gtrans gW g4) (a := ⟨bg, 0, none⟩) (Nat.le_of_lt hbg) (.float .f64 B1)) (a := ⟨bg, 1, none⟩) (Nat.le_of_lt hbg) (.float .f64 B2)
        exact Grown.setCell (Grown.setCell (gtrans gW4 g6) hbw _) hbw _
      generalize hW7 : (w6.setCell ⟨bw, 0, none⟩ (.int .u64 B1I)).setCell ⟨bw, 1, none⟩ (.int .u64 B2I) = W7 at qx qg qw gW ⊢
      clear hW7 g6 g4 qw6
      refine wp_region_grow (by kernel_rfl) (by kernel_rfl) (fun ι _ G hG hall => ?_)
      have c0 : ∀ n, (G n).cell? ⟨bg, 0, none⟩ = some (.float .f64 B1) := fun n => gkeep (hG n) qg.1
      have c1 : ∀ n, (G n).cell? ⟨bg, 1, none⟩ = some (.float .f64 B2) := fun n => gkeep (hG n) qg.2.1
      have c2 : ∀ n, (G n).cell? ⟨bw, 0, none⟩ = some (.int .u64 B1I) := fun n => gkeep (hG n) qw.1
      have c3 : ∀ n, (G n).cell? ⟨bw, 1, none⟩ = some (.int .u64 B2I) := fun n => gkeep (hG n) qw.2.1
      repeat (go_big_quiet_step (first | (go_at_call 8; exact (o2 _).mono (fun e w' h => ⟨h.1, hall _ (gtrans (hG _) h.2)⟩))))
      refine wpQuiet_nil ?_
      rintro _ ⟨nq, rfl⟩
      have gq := hG nq
      replace qx := H2.keep qx gq
      replace qg := H2.keep qg gq
      replace qw := H2.keep qw gq
      replace gW := gtrans gW gq
      generalize G nq = W8 at qx qg qw gW ⊢
      clear c0 c1 c2 c3 hall gq hG
      go_wp2
      exact bodyPost_ret (v := .bool true) (by simp [results, Try.results3, go_sem] <;> simp only [*]) rfl ⟨rfl, gW⟩)
  · have hE' : E = 0 := hE
    have hE2' : E2 = 1 := hE2
    subst hE' hE2'
    clear hE hE2
    go_enter Try.func3, Try.ntmps3
    go_wp2
    go_region_held3 (fun w' => w'.cell? ⟨w.heap.size, 0, none⟩ = some (.int .u64 XI) ∧ w'.cell? ⟨w.heap.size, 1, none⟩ = some (.int .u64 YI)) (first | (exact ⟨q0.1, q0.2.1⟩) | (exact ⟨(H2.past q0 _ _).1, (H2.past q0 _ _).2.1⟩) | (exact ⟨(H2.far q0 (by omega) _ _).1, (H2.far q0 (by omega) _ _).2.1⟩) | (simp [go_sem])) (first | (go_at_call 5; refine (hN _).mono ?_; rintro e w1 ⟨rfl, g1⟩; have q0 : H2 w1 w.heap.size (.int .u64 XI) (.int .u64 YI) := (by refine H2.keep ?_ g1; exact H2.keep (H2.new w (.int .u64 XI) (.int .u64 YI) 24) (by repeat (with_reducible (first | assumption | exact Grown.refl _ | apply Grown.drew | apply Grown.alloc | apply gdrewN | (refine Grown.setCell ?_ (by simp <;> omega) _) | (refine gtrans ?_ (by assumption)))))); have gw1 : Grown w w1 := (by repeat (with_reducible (first | assumption | exact Grown.refl _ | apply Grown.drew | apply Grown.alloc | apply gdrewN | (refine Grown.setCell ?_ (by simp <;> omega) _) | (refine gtrans ?_ (by assumption))))); first | (have q9 := H2.keep (H2.two w (.int .u64 XI) (.int .u64 YI) (.float .f64 0) (.float .f64 0) 24 27) g1; obtain ⟨b0, b1, b2, b3⟩ := id q9) | skip))
    all_goals (first
      | skip
        generalize hW1 : World.setCell _ _ _ = W1
        have qx : H2 W1 w.heap.size (.int .u64 XI) (.int .u64 YI) := by rw [← hW1]; exact H2.far q0 (by omega) _ _
        have qg : H2 W1 (w.heap.size + 1) (.float .f64 A1) (.float .f64 A2) := by rw [← hW1]; exact H2.put q9 _ _
        have gW : Grown w W1 := by rw [← hW1]; exact Grown.setCell (Grown.setCell gw1 (Nat.le_succ _) _) (Nat.le_succ _) _
        have hbg : w.heap.size < w.heap.size + 1 := Nat.lt_succ_self _
        generalize w.heap.size + 1 = bg at qg hbg ⊢
        skip
      | skip
        generalize hW1 : World.alloc w1 _ = W1
        have qx : H2 W1 w.heap.size (.int .u64 XI) (.int .u64 YI) := by rw [← hW1]; exact H2.past q0 _ _
        have qg : H2 W1 w1.heap.size (.float .f64 A1) (.float .f64 A2) := by rw [← hW1]; exact H2.new _ _ _ _
        have gW : Grown w W1 := by rw [← hW1]; exact Grown.alloc gw1 _ _
        have hbg : w.heap.size < w1.heap.size := H2.lt q0
        generalize w1.heap.size = bg at qg hbg ⊢
        skip)
    all_goals (
      have qg0 := qg
      obtain ⟨x0, x1, x2, x3⟩ := id qx
      go_wp2_with (first | (go_at_call 7; refine (hR _).mono ?_; rintro e w2 ⟨rfl, g2⟩))
      clear x0 x1 x2 x3
      replace qx := H2.past (H2.keep qx g2) #[.int .u64 A1I, .int .u64 A2I] 24
      replace qg := H2.past (H2.keep qg g2) #[.int .u64 A1I, .int .u64 A2I] 24
      have qw := H2.new w2 (.int .u64 A1I) (.int .u64 A2I) 24
      replace gW := Grown.alloc (gtrans gW g2) #[.int .u64 A1I, .int .u64 A2I] 24
      have hbw : w.heap.size ≤ w2.heap.size := Nat.le_trans (Nat.le_of_lt hbg) (Nat.le_of_lt (H2.lt (H2.keep qg0 g2)))
      have hne : bg ≠ w2.heap.size := Nat.ne_of_lt (H2.lt (H2.keep qg0 g2))
      have hnx : w.heap.size ≠ w2.heap.size := Nat.ne_of_lt (Nat.lt_trans hbg (H2.lt (H2.keep qg0 g2)))
      generalize hW2 : w2.alloc (.cells #[.int .u64 A1I, .int .u64 A2I] 24) = W2 at qx qg qw gW ⊢
      generalize w2.heap.size = bw at hbw hne hnx qw ⊢
      clear hW2 g2 qg0
      refine wp_region_grow (by kernel_rfl) (by kernel_rfl) (fun ι _ G hG hall => ?_)
      have c0 : ∀ n, (G n).cell? ⟨bg, 0, none⟩ = some (.float .f64 A1) := fun n => gkeep (hG n) qg.1
      have c1 : ∀ n, (G n).cell? ⟨bg, 1, none⟩ = some (.float .f64 A2) := fun n => gkeep (hG n) qg.2.1
      have c2 : ∀ n, (G n).cell? ⟨bw, 0, none⟩ = some (.int .u64 A1I) := fun n => gkeep (hG n) qw.1
      have c3 : ∀ n, (G n).cell? ⟨bw, 1, none⟩ = some (.int .u64 A2I) := fun n => gkeep (hG n) qw.2.1
      repeat (go_big_quiet_step (first | (go_at_call 8; exact (o1 _).mono (fun e w' h => ⟨h.1, hall _ (gtrans (hG _) h.2)⟩))))
      refine wpQuiet_nil ?_
      rintro _ ⟨nq, rfl⟩
      have gq := hG nq
      replace qx := H2.keep qx gq
      replace qg := H2.keep qg gq
      replace qw := H2.keep qw gq
      replace gW := gtrans gW gq
      generalize G nq = W3 at qx qg qw gW ⊢
      clear c0 c1 c2 c3 hall gq hG
      obtain ⟨x0, x1, x2, x3⟩ := id qx
      obtain ⟨y0, y1, y2, y3⟩ := id qg
      go_wp2_with (first | (go_at_call 9; refine (hP _).mono ?_; rintro e w4 ⟨rfl, g4⟩; obtain ⟨u0, u1, u2, u3⟩ := H2.keep qg g4; obtain ⟨v0, v1, v2, v3⟩ := H2.keep qx g4) | (go_at_call 7; refine (hR2 _).mono ?_; rintro e w6 ⟨rfl, g6⟩; have qw6 := H2.keep (H2.far (H2.keep qw g4) hne (.float .f64 B1) (.float .f64 B2)) g6; obtain ⟨t0, t1, t2, t3⟩ := id qw6))
      clear x0 x1 x2 x3 y0 y1 y2 y3 u0 u1 u2 u3 v0 v1 v2 v3 t0 t1 t2 t3
      replace qg := H2.far (H2.keep (H2.put (H2.keep qg g4) (.float .f64 B1) (.float .f64 B2)) g6) (Ne.symm hne) (.int .u64 B1I) (.int .u64 B2I)
      replace qx := H2.far (H2.keep (H2.far (H2.keep qx g4) (Ne.symm (Nat.ne_of_lt hbg)) (.float .f64 B1) (.float .f64 B2)) g6) (Ne.symm hnx) (.int .u64 B1I) (.int .u64 B2I)
      replace qw := H2.put qw6 (.int .u64 B1I) (.int .u64 B2I)
      replace gW : Grown w ((w6.setCell ⟨bw, 0, none⟩ (.int .u64 B1I)).setCell ⟨bw, 1, none⟩ (.int .u64 B2I)) := by
        have gW4 := Grown.setCell (Grown.setCell (gtrans gW g4) (a := ⟨bg, 0, none⟩) (Nat.le_of_lt hbg) (.float .f64 B1)) (a := ⟨bg, 1, none⟩) (Nat.le_of_lt hbg) (.float .f64 B2)
        exact Grown.setCell (Grown.setCell (gtrans gW4 g6) hbw _) hbw _
      generalize hW7 : (w6.setCell ⟨bw, 0, none⟩ (.int .u64 B1I)).setCell ⟨bw, 1, none⟩ (.int .u64 B2I) = W7 at qx qg qw gW ⊢
      clear hW7 g6 g4 qw6
      refine wp_region_grow (by kernel_rfl) (by kernel_rfl) (fun ι _ G hG hall => ?_)
      have c0 : ∀ n, (G n).cell? ⟨bg, 0, none⟩ = some (.float .f64 B1) := fun n => gkeep (hG n) qg.1
      have c1 : ∀ n, (G n).cell? ⟨bg, 1, none⟩ = some (.float .f64 B2) := fun n => gkeep (hG n) qg.2.1
      have c2 : ∀ n, (G n).cell? ⟨bw, 0, none⟩ = some (.int .u64 B1I) := fun n => gkeep (hG n) qw.1
      have c3 : ∀ n, (G n).cell? ⟨bw, 1, none⟩ = some (.int .u64 B2I) := fun n => gkeep (hG n) qw.2.1
      repeat (go_big_quiet_step (first | (go_at_call 8; exact (o2 _).mono (fun e w' h => ⟨h.1, hall _ (gtrans (hG _) h.2)⟩))))
      refine wpQuiet_nil ?_
      rintro _ ⟨nq, rfl⟩
      have gq := hG nq
      replace qx := H2.keep qx gq
      replace qg := H2.keep qg gq
      replace qw := H2.keep qw gq
      replace gW := gtrans gW gq
      generalize G nq = W8 at qx qg qw gW ⊢
      clear c0 c1 c2 c3 hall gq hG
      go_wp2
      exact bodyPost_ret (v := .bool true) (by simp [results, Try.results3, go_sem] <;> simp only [*]) rfl ⟨rfl, gW⟩)
  · have hE' : E = 0 := hE
    have hE2' : E2 = 0 := hE2
    subst hE' hE2'
    clear hE hE2
    go_enter Try.func3, Try.ntmps3
    go_wp2
    go_region_held3 (fun w' => w'.cell? ⟨w.heap.size, 0, none⟩ = some (.int .u64 XI) ∧ w'.cell? ⟨w.heap.size, 1, none⟩ = some (.int .u64 YI)) (first | (exact ⟨q0.1, q0.2.1⟩) | (exact ⟨(H2.past q0 _ _).1, (H2.past q0 _ _).2.1⟩) | (exact ⟨(H2.far q0 (by omega) _ _).1, (H2.far q0 (by omega) _ _).2.1⟩) | (simp [go_sem])) (first | (go_at_call 5; refine (hN _).mono ?_; rintro e w1 ⟨rfl, g1⟩; have q0 : H2 w1 w.heap.size (.int .u64 XI) (.int .u64 YI) := (by refine H2.keep ?_ g1; exact H2.keep (H2.new w (.int .u64 XI) (.int .u64 YI) 24) (by repeat (with_reducible (first | assumption | exact Grown.refl _ | apply Grown.drew | apply Grown.alloc | apply gdrewN | (refine Grown.setCell ?_ (by simp <;> omega) _) | (refine gtrans ?_ (by assumption)))))); have gw1 : Grown w w1 := (by repeat (with_reducible (first | assumption | exact Grown.refl _ | apply Grown.drew | apply Grown.alloc | apply gdrewN | (refine Grown.setCell ?_ (by simp <;> omega) _) | (refine gtrans ?_ (by assumption))))); first | (have q9 := H2.keep (H2.two w (.int .u64 XI) (.int .u64 YI) (.float .f64 0) (.float .f64 0) 24 27) g1; obtain ⟨b0, b1, b2, b3⟩ := id q9) | skip))
    all_goals (first
      | skip
        generalize hW1 : World.setCell _ _ _ = W1
        have qx : H2 W1 w.heap.size (.int .u64 XI) (.int .u64 YI) := by rw [← hW1]; exact H2.far q0 (by omega) _ _
        have qg : H2 W1 (w.heap.size + 1) (.float .f64 A1) (.float .f64 A2) := by rw [← hW1]; exact H2.put q9 _ _
        have gW : Grown w W1 := by rw [← hW1]; exact Grown.setCell (Grown.setCell gw1 (Nat.le_succ _) _) (Nat.le_succ _) _
        have hbg : w.heap.size < w.heap.size + 1 := Nat.lt_succ_self _
        generalize w.heap.size + 1 = bg at qg hbg ⊢
        skip
      | skip
        generalize hW1 : World.alloc w1 _ = W1
        have qx : H2 W1 w.heap.size (.int .u64 XI) (.int .u64 YI) := by rw [← hW1]; exact H2.past q0 _ _
        have qg : H2 W1 w1.heap.size (.float .f64 A1) (.float .f64 A2) := by rw [← hW1]; exact H2.new _ _ _ _
        have gW : Grown w W1 := by rw [← hW1]; exact Grown.alloc gw1 _ _
        have hbg : w.heap.size < w1.heap.size := H2.lt q0
        generalize w1.heap.size = bg at qg hbg ⊢
        skip)
    all_goals (
      have qg0 := qg
      obtain ⟨x0, x1, x2, x3⟩ := id qx
      go_wp2_with (first | (go_at_call 7; refine (hR _).mono ?_; rintro e w2 ⟨rfl, g2⟩))
      clear x0 x1 x2 x3
      replace qx := H2.past (H2.keep qx g2) #[.int .u64 A1I, .int .u64 A2I] 24
      replace qg := H2.past (H2.keep qg g2) #[.int .u64 A1I, .int .u64 A2I] 24
      have qw := H2.new w2 (.int .u64 A1I) (.int .u64 A2I) 24
      replace gW := Grown.alloc (gtrans gW g2) #[.int .u64 A1I, .int .u64 A2I] 24
      have hbw : w.heap.size ≤ w2.heap.size := Nat.le_trans (Nat.le_of_lt hbg) (Nat.le_of_lt (H2.lt (H2.keep qg0 g2)))
      have hne : bg ≠ w2.heap.size := Nat.ne_of_lt (H2.lt (H2.keep qg0 g2))
      have hnx : w.heap.size ≠ w2.heap.size := Nat.ne_of_lt (Nat.lt_trans hbg (H2.lt (H2.keep qg0 g2)))
      generalize hW2 : w2.alloc (.cells #[.int .u64 A1I, .int .u64 A2I] 24) = W2 at qx qg qw gW ⊢
      generalize w2.heap.size = bw at hbw hne hnx qw ⊢
      clear hW2 g2 qg0
      refine wp_region_grow (by kernel_rfl) (by kernel_rfl) (fun ι _ G hG hall => ?_)
      have c0 : ∀ n, (G n).cell? ⟨bg, 0, none⟩ = some (.float .f64 A1) := fun n => gkeep (hG n) qg.1
      have c1 : ∀ n, (G n).cell? ⟨bg, 1, none⟩ = some (.float .f64 A2) := fun n => gkeep (hG n) qg.2.1
      have c2 : ∀ n, (G n).cell? ⟨bw, 0, none⟩ = some (.int .u64 A1I) := fun n => gkeep (hG n) qw.1
      have c3 : ∀ n, (G n).cell? ⟨bw, 1, none⟩ = some (.int .u64 A2I) := fun n => gkeep (hG n) qw.2.1
      repeat (go_big_quiet_step (first | (go_at_call 8; exact (o1 _).mono (fun e w' h => ⟨h.1, hall _ (gtrans (hG _) h.2)⟩))))
      refine wpQuiet_nil ?_
      rintro _ ⟨nq, rfl⟩
      have gq := hG nq
      replace qx := H2.keep qx gq
      replace qg := H2.keep qg gq
      replace qw := H2.keep qw gq
      replace gW := gtrans gW gq
      generalize G nq = W3 at qx qg qw gW ⊢
      clear c0 c1 c2 c3 hall gq hG
      obtain ⟨x0, x1, x2, x3⟩ := id qx
      obtain ⟨y0, y1, y2, y3⟩ := id qg
      go_wp2_with (first | (go_at_call 9; refine (hP _).mono ?_; rintro e w4 ⟨rfl, g4⟩; obtain ⟨u0, u1, u2, u3⟩ := H2.keep qg g4; obtain ⟨v0, v1, v2, v3⟩ := H2.keep qx g4) | (go_at_call 7; refine (hR2 _).mono ?_; rintro e w6 ⟨rfl, g6⟩; have qw6 := H2.keep (H2.far (H2.keep qw g4) hne (.float .f64 B1) (.float .f64 B2)) g6; obtain ⟨t0, t1, t2, t3⟩ := id qw6))
      clear x0 x1 x2 x3 y0 y1 y2 y3 u0 u1 u2 u3 v0 v1 v2 v3 t0 t1 t2 t3
      replace qg := H2.far (H2.keep (H2.put (H2.keep qg g4) (.float .f64 B1) (.float .f64 B2)) g6) (Ne.symm hne) (.int .u64 B1I) (.int .u64 B2I)
      replace qx := H2.far (H2.keep (H2.far (H2.keep qx g4) (Ne.symm (Nat.ne_of_lt hbg)) (.float .f64 B1) (.float .f64 B2)) g6) (Ne.symm hnx) (.int .u64 B1I) (.int .u64 B2I)
      replace qw := H2.put qw6 (.int .u64 B1I) (.int .u64 B2I)
      replace gW : Grown w ((w6.setCell ⟨bw, 0, none⟩ (.int .u64 B1I)).setCell ⟨bw, 1, none⟩ (.int .u64 B2I)) := by
        have gW4 := Grown.setCell (Grown.setCell (gtrans gW g4) (a := ⟨bg, 0, none⟩) (Nat.le_of_lt hbg) (.float .f64 B1)) (a := ⟨bg, 1, none⟩) (Nat.le_of_lt hbg) (.float .f64 B2)
        exact Grown.setCell (Grown.setCell (gtrans gW4 g6) hbw _) hbw _
      generalize hW7 : (w6.setCell ⟨bw, 0, none⟩ (.int .u64 B1I)).setCell ⟨bw, 1, none⟩ (.int .u64 B2I) = W7 at qx qg qw gW ⊢
      clear hW7 g6 g4 qw6
      refine wp_region_grow (by kernel_rfl) (by kernel_rfl) (fun ι _ G hG hall => ?_)
      have c0 : ∀ n, (G n).cell? ⟨bg, 0, none⟩ = some (.float .f64 B1) := fun n => gkeep (hG n) qg.1
      have c1 : ∀ n, (G n).cell? ⟨bg, 1, none⟩ = some (.float .f64 B2) := fun n => gkeep (hG n) qg.2.1
      have c2 : ∀ n, (G n).cell? ⟨bw, 0, none⟩ = some (.int .u64 B1I) := fun n => gkeep (hG n) qw.1
      have c3 : ∀ n, (G n).cell? ⟨bw, 1, none⟩ = some (.int .u64 B2I) := fun n => gkeep (hG n) qw.2.1
      repeat (go_big_quiet_step (first | (go_at_call 8; exact (o2 _).mono (fun e w' h => ⟨h.1, hall _ (gtrans (hG _) h.2)⟩))))
      refine wpQuiet_nil ?_
      rintro _ ⟨nq, rfl⟩
      have gq := hG nq
      replace qx := H2.keep qx gq
      replace qg := H2.keep qg gq
      replace qw := H2.keep qw gq
      replace gW := gtrans gW gq
      generalize G nq = W8 at qx qg qw gW ⊢
      clear c0 c1 c2 c3 hall gq hG
      go_wp2
      exact bodyPost_ret (v := .bool true) (by simp [results, Try.results3, go_sem] <;> simp only [*]) rfl ⟨rfl, gW⟩)
end Go.Proofs.Ythdcjalkclnneaa
