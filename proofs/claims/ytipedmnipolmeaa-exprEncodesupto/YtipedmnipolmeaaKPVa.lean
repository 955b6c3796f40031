import Derived.Test.YtipedmnipolmeaaKEC
import Derived.Test.YtipedmnipolmeaaKEO
namespace Go.Proofs.Ytipedmnipolmeaa
open Go.RowKit
namespace Fq

theorem fpla (x : Nat) (h : x < 18446744073709551616) (hn : x % 9223372036854775808 ≤ 9218868437227405312) : (FloatKind.f64.format.order x (pla x) == some Ordering.eq) = true := by
  obtain ⟨n, m, hm, rfl⟩ := exD x h
  have e : (wD n m) % 9223372036854775808 = m := by unfold wD; split <;> omega
  rw [e] at hn
  by_cases c : wD n m = 9223372036854775808
  · rw [show pla (wD n m) = 0 from by simp [pla, c], c]
    have := feq0 9223372036854775808 (by decide)
    rw [this]; decide
  · rw [show pla (wD n m) = wD n m from by simp [pla, c], feq n n m m hm hm]; simp [hn]
theorem vld_eq (a b : Nat) (ha : a < 18446744073709551616) (hb : b < 18446744073709551616) : (((FloatKind.f64.format.order a (rlo a b) == some Ordering.eq) && (FloatKind.f64.format.order b (rhi a b) == some Ordering.eq)) && (!(decide (a = 9223372036854775808)) && !(decide (b = 9223372036854775808)))) = vld a b := by
  unfold vld
  by_cases c : snd a b = true
  · obtain ⟨n, m, hm, rfl⟩ := exD a ha
    obtain ⟨n', m', hm', rfl⟩ := exD b hb
    have es := snd_w n n' m m' hm hm'
    rw [c] at es
    have es := of_decide_eq_true es.symm
    have i1 : (wD n m) % 9223372036854775808 = m := by unfold wD; split <;> omega
    have i2 : (wD n' m') % 9223372036854775808 = m' := by unfold wD; split <;> omega
    have h1 : ¬ (wD n m = 9218868437227405312) := by
      intro h; rw [h] at c; simp [snd] at c
    rw [show rlo (wD n m) (wD n' m') = pla (wD n m) from by simp [rlo, c], show rhi (wD n m) (wD n' m') = pla (wD n' m') from by simp [rhi, c], fpla _ ha (by rw [i1]; exact es.1), fpla _ hb (by rw [i2]; exact es.2.1), c, show decide (wD n m = 9218868437227405312 ∧ wD n' m' = 18442240474082181120) = false from decide_eq_false (fun h => h1 h.1)]
    rfl
  · have c : snd a b = false := by simpa using c
    rw [show rlo a b = 9218868437227405312 from by simp [rlo, c], show rhi a b = 18442240474082181120 from by simp [rhi, c], feqI a ha, feqM b hb, c]
    by_cases c1 : a = 9218868437227405312 <;> by_cases c2 : b = 18442240474082181120 <;> simp [c1, c2]
set_option maxRecDepth 20000 in
set_option maxHeartbeats 2000000 in
theorem valid_ (a b : Nat) (ha : a < 18446744073709551616) (hb : b < 18446744073709551616) (w : World) : Calls Try.prog 40 #[.agg #[.float .f64 a, .float .f64 b]] w fun e w' => e = .returned (.bool (vld a b)) ∧ Grown w w' := by
  have hr := read_ a b ha hb
  have q1 := eqIn6 a (rlo a b)
  have q2 := eqIn6 b (rhi a b)
  have n1 := signedNought_ a ha
  have n2 := signedNought_ b hb
  rw [← vld_eq a b ha hb]
  clear ha hb
  generalize (FloatKind.f64.format.order a (rlo a b) == some Ordering.eq) = E1 at q1 ⊢
  generalize (FloatKind.f64.format.order b (rhi a b) == some Ordering.eq) = E2 at q2 ⊢
  generalize decide (a = 9223372036854775808) = E3 at n1 ⊢
  generalize decide (b = 9223372036854775808) = E4 at n2 ⊢
  generalize rlo a b = LO at hr q1
  generalize rhi a b = HI at hr q2
  have ST : ∀ ι : Type, True := fun _ => trivial
  clear ST
  cases E1
  · cases E2 <;> cases E3 <;> cases E4 <;> (
      go_enter Try.func40, Try.ntmps40
      go_wp2
      refine wp_region_grow (by kernel_rfl) (by kernel_rfl) (fun ι _ G hG hall => ?_)
      have c0 : ∀ n, (G n).cell? ⟨w.heap.size, 0, none⟩ = some (.float .f64 a) := fun n => gkeep (hG n) (by simp [go_sem])
      have c1 : ∀ n, (G n).cell? ⟨w.heap.size, 1, none⟩ = some (.float .f64 b) := fun n => gkeep (hG n) (by simp [go_sem])
      repeat (go_big_quiet_step (first | (go_at_call 59; exact (hr _).mono (fun e w' h => ⟨h.1, hall _ (gtrans (hG _) h.2)⟩)) | (go_at_call_of 60 (Value.float .f64 a); exact (n1 _).mono (fun e w' h => ⟨h.1, hall _ (by rw [h.2]; exact hG _)⟩)) | (go_at_call_of 60 (Value.float .f64 b); exact (n2 _).mono (fun e w' h => ⟨h.1, hall _ (by rw [h.2]; exact hG _)⟩))))
      refine wpQuiet_nil ?_
      rintro _ ⟨nq, rfl⟩
      have gq := hG nq
      clear c0 c1 hall
      go_wp2
      exact bodyPost_ret (v := .bool false) (by simp [results, Try.results40, go_sem] <;> simp only [*]) rfl ⟨rfl, (by repeat (with_reducible (first | assumption | exact Grown.refl _ | apply Grown.drew | apply Grown.alloc | apply gdrewN | (refine Grown.setCell ?_ (by simp <;> omega) _) | (refine gtrans ?_ (by assumption)))))⟩)
  cases E2
  · cases E3 <;> cases E4 <;> (
      go_enter Try.func40, Try.ntmps40
      go_wp2
      refine wp_region_grow (by kernel_rfl) (by kernel_rfl) (fun ι _ G hG hall => ?_)
      have c0 : ∀ n, (G n).cell? ⟨w.heap.size, 0, none⟩ = some (.float .f64 a) := fun n => gkeep (hG n) (by simp [go_sem])
      have c1 : ∀ n, (G n).cell? ⟨w.heap.size, 1, none⟩ = some (.float .f64 b) := fun n => gkeep (hG n) (by simp [go_sem])
      repeat (go_big_quiet_step (first | (go_at_call 59; exact (hr _).mono (fun e w' h => ⟨h.1, hall _ (gtrans (hG _) h.2)⟩)) | (go_at_call_of 60 (Value.float .f64 a); exact (n1 _).mono (fun e w' h => ⟨h.1, hall _ (by rw [h.2]; exact hG _)⟩)) | (go_at_call_of 60 (Value.float .f64 b); exact (n2 _).mono (fun e w' h => ⟨h.1, hall _ (by rw [h.2]; exact hG _)⟩))))
      refine wpQuiet_nil ?_
      rintro _ ⟨nq, rfl⟩
      have gq := hG nq
      clear c0 c1 hall
      go_wp2
      exact bodyPost_ret (v := .bool false) (by simp [results, Try.results40, go_sem] <;> simp only [*]) rfl ⟨rfl, (by repeat (with_reducible (first | assumption | exact Grown.refl _ | apply Grown.drew | apply Grown.alloc | apply gdrewN | (refine Grown.setCell ?_ (by simp <;> omega) _) | (refine gtrans ?_ (by assumption)))))⟩)
  cases E3
  · cases E4
    · (
      go_enter Try.func40, Try.ntmps40
      go_wp2
      refine wp_region_grow (by kernel_rfl) (by kernel_rfl) (fun ι _ G hG hall => ?_)
      have c0 : ∀ n, (G n).cell? ⟨w.heap.size, 0, none⟩ = some (.float .f64 a) := fun n => gkeep (hG n) (by simp [go_sem])
      have c1 : ∀ n, (G n).cell? ⟨w.heap.size, 1, none⟩ = some (.float .f64 b) := fun n => gkeep (hG n) (by simp [go_sem])
      repeat (go_big_quiet_step (first | (go_at_call 59; exact (hr _).mono (fun e w' h => ⟨h.1, hall _ (gtrans (hG _) h.2)⟩)) | (go_at_call_of 60 (Value.float .f64 a); exact (n1 _).mono (fun e w' h => ⟨h.1, hall _ (by rw [h.2]; exact hG _)⟩)) | (go_at_call_of 60 (Value.float .f64 b); exact (n2 _).mono (fun e w' h => ⟨h.1, hall _ (by rw [h.2]; exact hG _)⟩))))
      refine wpQuiet_nil ?_
      rintro _ ⟨nq, rfl⟩
      have gq := hG nq
      clear c0 c1 hall
      go_wp2
      exact bodyPost_ret (v := .bool true) (by simp [results, Try.results40, go_sem] <;> simp only [*]) rfl ⟨rfl, (by repeat (with_reducible (first | assumption | exact Grown.refl _ | apply Grown.drew | apply Grown.alloc | apply gdrewN | (refine Grown.setCell ?_ (by simp <;> omega) _) | (refine gtrans ?_ (by assumption)))))⟩)
    · (
      go_enter Try.func40, Try.ntmps40
      go_wp2
      refine wp_region_grow (by kernel_rfl) (by kernel_rfl) (fun ι _ G hG hall => ?_)
      have c0 : ∀ n, (G n).cell? ⟨w.heap.size, 0, none⟩ = some (.float .f64 a) := fun n => gkeep (hG n) (by simp [go_sem])
      have c1 : ∀ n, (G n).cell? ⟨w.heap.size, 1, none⟩ = some (.float .f64 b) := fun n => gkeep (hG n) (by simp [go_sem])
      repeat (go_big_quiet_step (first | (go_at_call 59; exact (hr _).mono (fun e w' h => ⟨h.1, hall _ (gtrans (hG _) h.2)⟩)) | (go_at_call_of 60 (Value.float .f64 a); exact (n1 _).mono (fun e w' h => ⟨h.1, hall _ (by rw [h.2]; exact hG _)⟩)) | (go_at_call_of 60 (Value.float .f64 b); exact (n2 _).mono (fun e w' h => ⟨h.1, hall _ (by rw [h.2]; exact hG _)⟩))))
      refine wpQuiet_nil ?_
      rintro _ ⟨nq, rfl⟩
      have gq := hG nq
      clear c0 c1 hall
      go_wp2
      exact bodyPost_ret (v := .bool false) (by simp [results, Try.results40, go_sem] <;> simp only [*]) rfl ⟨rfl, (by repeat (with_reducible (first | assumption | exact Grown.refl _ | apply Grown.drew | apply Grown.alloc | apply gdrewN | (refine Grown.setCell ?_ (by simp <;> omega) _) | (refine gtrans ?_ (by assumption)))))⟩)
  · cases E4 <;> (
      go_enter Try.func40, Try.ntmps40
      go_wp2
      refine wp_region_grow (by kernel_rfl) (by kernel_rfl) (fun ι _ G hG hall => ?_)
      have c0 : ∀ n, (G n).cell? ⟨w.heap.size, 0, none⟩ = some (.float .f64 a) := fun n => gkeep (hG n) (by simp [go_sem])
      have c1 : ∀ n, (G n).cell? ⟨w.heap.size, 1, none⟩ = some (.float .f64 b) := fun n => gkeep (hG n) (by simp [go_sem])
      repeat (go_big_quiet_step (first | (go_at_call 59; exact (hr _).mono (fun e w' h => ⟨h.1, hall _ (gtrans (hG _) h.2)⟩)) | (go_at_call_of 60 (Value.float .f64 a); exact (n1 _).mono (fun e w' h => ⟨h.1, hall _ (by rw [h.2]; exact hG _)⟩)) | (go_at_call_of 60 (Value.float .f64 b); exact (n2 _).mono (fun e w' h => ⟨h.1, hall _ (by rw [h.2]; exact hG _)⟩))))
      refine wpQuiet_nil ?_
      rintro _ ⟨nq, rfl⟩
      have gq := hG nq
      clear c0 c1 hall
      go_wp2
      exact bodyPost_ret (v := .bool false) (by simp [results, Try.results40, go_sem] <;> simp only [*]) rfl ⟨rfl, (by repeat (with_reducible (first | assumption | exact Grown.refl _ | apply Grown.drew | apply Grown.alloc | apply gdrewN | (refine Grown.setCell ?_ (by simp <;> omega) _) | (refine gtrans ?_ (by assumption)))))⟩)
end Fq
end Go.Proofs.Ytipedmnipolmeaa
