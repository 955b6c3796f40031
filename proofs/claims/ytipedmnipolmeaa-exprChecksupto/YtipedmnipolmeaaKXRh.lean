import Derived.Test.YtipedmnipolmeaaKXRe
import Derived.Test.YtipedmnipolmeaaKXRg
namespace Go.Proofs.Ytipedmnipolmeaa
open Go.RowKit
open Go
namespace X7
set_option linter.unusedVariables false
set_option maxRecDepth 20000 in
set_option maxHeartbeats 4000000 in
theorem exprchecksE_ (V : Int) (pc pk : Option Addr) (cc ck : Nat) (ps : List (Nat × Nat)) (L : List I5) (he : (chk V ps L).2 ≠ 0) (w : World) (hx : AG ULV w pc ps) (hy : AI w pk L) (hw : Wq ps) (lx : ps.length ≤ 1048576) (ly : L.length ≤ 1048576) :
    Calls Try.prog 3 #[.agg #[.int .i64 V, .slice pc ps.length cc, .slice pk L.length ck]] w fun e w' => e = .returned (.bool true) ∧ Kp w w' := by
  obtain ⟨R, hR⟩ : ∃ R, R = chk V ps L := ⟨_, rfl⟩
  have hma := fun (W : World) (g : Kp w W) => made2_ V pc pk cc ck ps L W (hx.grown g) (hy.grown g) lx ly
  have hrc := fun (W : World) (g : Kp w W) => rcheck_ V pc pk cc ck ps L W (hx.grown g) (hy.grown g) hw lx ly
  have hpc := fun (W : World) (qa qb : Option Addr) (da db : Nat) (ha : AG FLV W qa ps) (hb : AI W qb L) => pcheck_ V qa qb da db ps L W ha hb hw lx ly
  have hnw := fun (W : World) (qa qb : Option Addr) (da db : Nat) (ha : AG FLV W qa ps) (hb : AI W qb L) => newE_ V qa qb da db ps L he W ha hb hw lx ly
  rw [← hR] at hrc hpc hnw he
  generalize ps.length = N at hma hrc hpc hnw ⊢
  generalize L.length = M at hma hrc hpc hnw ⊢
  have z0 : (w.alloc (.cells #[.int .i64 V, .slice pc N cc, .slice pk M ck] 25)).cell? ⟨w.heap.size, 0, none⟩ = some (.int .i64 V) := by simp [go_sem]
  have z1 : (w.alloc (.cells #[.int .i64 V, .slice pc N cc, .slice pk M ck] 25)).cell? ⟨w.heap.size, 1, none⟩ = some (.slice pc N cc) := by simp [go_sem]
  have z2 : (w.alloc (.cells #[.int .i64 V, .slice pc N cc, .slice pk M ck] 25)).cell? ⟨w.heap.size, 2, none⟩ = some (.slice pk M ck) := by simp [go_sem]
  have kw : Kp w (w.alloc (.cells #[.int .i64 V, .slice pc N cc, .slice pk M ck] 25)) := (Kp.refl w).alloc _
  obtain ⟨n, e⟩ := R
  simp only at hrc hpc he hnw
  have dE : (e == 0) = false := beq_eq_false_iff_ne.2 he
  have ne : (e != e) = false := by simp
  clear he
  clear hR hx hy hw lx ly
  go_enter Try.func3, Try.ntmps3
  go_upto_region 3 with (first | (go_at_call 7; refine (hma _ kw).mono ?_; rintro e1 w1 ⟨pa, ca, pb, cb, rfl, ha, hb, g1⟩; replace kw := kw.trans g1; replace z0 := kkeep g1 z0; replace z1 := kkeep g1 z1; replace z2 := kkeep g1 z2; have hq := hpc w1 pa pb ca cb ha hb; clear ha hb g1) | (go_at_call 6; refine hq.mono ?_; rintro e2 w2 ⟨rfl, g2⟩; replace kw := kw.trans g2; replace z0 := kkeep g2 z0; replace z1 := kkeep g2 z1; replace z2 := kkeep g2 z2; clear hq g2) | (go_at_call 8; refine (hrc _ kw).mono ?_; rintro e3 w3 ⟨rfl, g3⟩; replace kw := kw.trans g3; replace z0 := kkeep g3 z0; replace z1 := kkeep g3 z1; replace z2 := kkeep g3 z2; clear g3))
  have nn : (n != n) = false := by simp
  clear hpc hrc
  go_wp2_with (first | (go_at_call 7; refine (hma _ kw).mono ?_; rintro e1 w4 ⟨pa2, ca2, pb2, cb2, rfl, ha, hb, g4⟩; replace kw := kw.trans g4; have hq2 := hnw w4 pa2 pb2 ca2 cb2 ha hb; clear ha hb g4) | (go_at_call 9; refine hq2.mono ?_; rintro e2 w5 ⟨rfl, g5⟩; replace kw := kw.trans g5; clear hq2 g5))
  exact bodyPost_ret (v := .bool true) (by simp [results, Try.results3, go_sem]) rfl ⟨rfl, kw⟩
set_option maxRecDepth 20000 in
set_option maxHeartbeats 4000000 in
theorem exprchecksO_ (V : Int) (pc pk : Option Addr) (cc ck : Nat) (ps : List (Nat × Nat)) (L : List I5) (he : (chk V ps L).2 = 0) (w : World) (hx : AG ULV w pc ps) (hy : AI w pk L) (hw : Wq ps) (lx : ps.length ≤ 1048576) (ly : L.length ≤ 1048576) :
    Calls Try.prog 3 #[.agg #[.int .i64 V, .slice pc ps.length cc, .slice pk L.length ck]] w fun e w' => e = .returned (.bool true) ∧ Kp w w' := by
  obtain ⟨R, hR⟩ : ∃ R, R = chk V ps L := ⟨_, rfl⟩
  have hma := fun (W : World) (g : Kp w W) => made2_ V pc pk cc ck ps L W (hx.grown g) (hy.grown g) lx ly
  have hrc := fun (W : World) (g : Kp w W) => rcheck_ V pc pk cc ck ps L W (hx.grown g) (hy.grown g) hw lx ly
  have hpc := fun (W : World) (qa qb : Option Addr) (da db : Nat) (ha : AG FLV W qa ps) (hb : AI W qb L) => pcheck_ V qa qb da db ps L W ha hb hw lx ly
  have hnw := fun (W : World) (qa qb : Option Addr) (da db : Nat) (ha : AG FLV W qa ps) (hb : AI W qb L) => newO_ V qa qb da db ps L he W ha hb hw lx ly
  rw [← hR] at hrc hpc he
  generalize ps.length = N at hma hrc hpc hnw ⊢
  generalize L.length = M at hma hrc hpc hnw ⊢
  have z0 : (w.alloc (.cells #[.int .i64 V, .slice pc N cc, .slice pk M ck] 25)).cell? ⟨w.heap.size, 0, none⟩ = some (.int .i64 V) := by simp [go_sem]
  have z1 : (w.alloc (.cells #[.int .i64 V, .slice pc N cc, .slice pk M ck] 25)).cell? ⟨w.heap.size, 1, none⟩ = some (.slice pc N cc) := by simp [go_sem]
  have z2 : (w.alloc (.cells #[.int .i64 V, .slice pc N cc, .slice pk M ck] 25)).cell? ⟨w.heap.size, 2, none⟩ = some (.slice pk M ck) := by simp [go_sem]
  have kw : Kp w (w.alloc (.cells #[.int .i64 V, .slice pc N cc, .slice pk M ck] 25)) := (Kp.refl w).alloc _
  obtain ⟨n, e⟩ := R
  simp only at hrc hpc he
  subst he
  clear hR hx hy hw lx ly
  go_enter Try.func3, Try.ntmps3
  go_upto_region 3 with (first | (go_at_call 7; refine (hma _ kw).mono ?_; rintro e1 w1 ⟨pa, ca, pb, cb, rfl, ha, hb, g1⟩; replace kw := kw.trans g1; replace z0 := kkeep g1 z0; replace z1 := kkeep g1 z1; replace z2 := kkeep g1 z2; have hq := hpc w1 pa pb ca cb ha hb; clear ha hb g1) | (go_at_call 6; refine hq.mono ?_; rintro e2 w2 ⟨rfl, g2⟩; replace kw := kw.trans g2; replace z0 := kkeep g2 z0; replace z1 := kkeep g2 z1; replace z2 := kkeep g2 z2; clear hq g2) | (go_at_call 8; refine (hrc _ kw).mono ?_; rintro e3 w3 ⟨rfl, g3⟩; replace kw := kw.trans g3; replace z0 := kkeep g3 z0; replace z1 := kkeep g3 z1; replace z2 := kkeep g3 z2; clear g3))
  have nn : (n != n) = false := by simp
  clear hpc hrc
  go_wp2_with (first | (go_at_call 7; refine (hma _ kw).mono ?_; rintro e1 w4 ⟨pa2, ca2, pb2, cb2, rfl, ha, hb, g4⟩; replace kw := kw.trans g4; have hq2 := hnw w4 pa2 pb2 ca2 cb2 ha hb; clear ha hb g4) | (go_at_call 9; refine hq2.mono ?_; rintro e2 w5 ⟨⟨ad, rfl⟩, g5⟩; replace kw := kw.trans g5; clear hq2 g5))
  exact bodyPost_ret (v := .bool true) (by simp [results, Try.results3, go_sem]) rfl ⟨rfl, kw⟩
set_option maxRecDepth 20000 in
set_option maxHeartbeats 4000000 in
theorem exprchecks_ (V : Int) (pc pk : Option Addr) (cc ck : Nat) (ps : List (Nat × Nat)) (L : List I5)  (w : World) (hx : AG ULV w pc ps) (hy : AI w pk L) (hw : Wq ps) (lx : ps.length ≤ 1048576) (ly : L.length ≤ 1048576) :
    Calls Try.prog 3 #[.agg #[.int .i64 V, .slice pc ps.length cc, .slice pk L.length ck]] w fun e w' => e = .returned (.bool true) ∧ Kp w w' := by
  by_cases he : (chk V ps L).2 = 0
  · exact exprchecksO_ V pc pk cc ck ps L he w hx hy hw lx ly
  · exact exprchecksE_ V pc pk cc ck ps L he w hx hy hw lx ly
end X7
end Go.Proofs.Ytipedmnipolmeaa
