import Derived.Test.YtipedmnipolmeaaKXQd
import Derived.Test.YtipedmnipolmeaaKXRc
import Derived.Test.YtipedmnipolmeaaKXRf
namespace Go.Proofs.Ytipedmnipolmeaa
open Go.RowKit
open Go
namespace X7
set_option linter.unusedVariables false
theorem made2_ (V : Int) (p q : Option Addr) (c d : Nat) (ps : List (Nat × Nat)) (L : List I5) (w : World) (hx : AG ULV w p ps) (hy : AI w q L) (lx : ps.length ≤ 1048576) (ly : L.length ≤ 1048576) :
    Calls Try.prog 7 #[.agg #[.int .i64 V, .slice p ps.length c, .slice q L.length d]] w fun e w' => ∃ pa ca pb cb, e = .returned (.agg #[.int .i64 V, .slice pa ps.length ca, .slice pb L.length cb]) ∧ AG FLV w' pa ps ∧ AI w' pb L ∧ Kp w w' := by
  refine (made_ V p q c d ps L w hx hy lx ly).mono ?_
  rintro e w' ⟨vc, vk, rfl, ho, hi, hk⟩
  obtain ⟨pa, ca, rfl, ha, -⟩ := ho.arr
  obtain ⟨pb, cb, rfl, hb, -, -⟩ := hi.arr
  exact ⟨pa, ca, pb, cb, rfl, ha, hb, hk⟩
set_option maxRecDepth 20000 in
set_option maxHeartbeats 4000000 in
theorem newE_ (V : Int) (pc pk : Option Addr) (cc ck : Nat) (ps : List (Nat × Nat)) (L : List I5) (he : (chk V ps L).2 ≠ 0) (w : World) (hx : AG FLV w pc ps) (hy : AI w pk L) (hw : Wq ps) (lx : ps.length ≤ 1048576) (ly : L.length ≤ 1048576) :
    Calls Try.prog 9 #[.agg #[.int .i64 V, .slice pc ps.length cc, .slice pk L.length ck]] w fun e w' => e = .returned (.tuple #[.pointer none, .int .i64 (chk V ps L).2]) ∧ Kp w w' := by
  obtain ⟨R, hR⟩ : ∃ R, R = chk V ps L := ⟨_, rfl⟩
  have hch := fun (W : World) (g : Kp w W) => pcheck_ V pc pk cc ck ps L W (hx.grown g) (hy.grown g) hw lx ly
  rw [← hR] at hch
  have hcI := fun (W : World) (g : Kp w W) => cloneI_ pc cc ps W (hx.grown g) lx
  have hcN := fun (W : World) (g : Kp w W) => cloneN_ pk ck L W (hy.grown g) ly
  generalize ps.length = N at hch hcI ⊢
  generalize L.length = M at hch hcN ⊢
  have z0 : (w.alloc (.cells #[.int .i64 V, .slice pc N cc, .slice pk M ck] 32)).cell? ⟨w.heap.size, 0, none⟩ = some (.int .i64 V) := by simp [go_sem]
  have z1 : (w.alloc (.cells #[.int .i64 V, .slice pc N cc, .slice pk M ck] 32)).cell? ⟨w.heap.size, 1, none⟩ = some (.slice pc N cc) := by simp [go_sem]
  have z2 : (w.alloc (.cells #[.int .i64 V, .slice pc N cc, .slice pk M ck] 32)).cell? ⟨w.heap.size, 2, none⟩ = some (.slice pk M ck) := by simp [go_sem]
  have kw : Kp w (w.alloc (.cells #[.int .i64 V, .slice pc N cc, .slice pk M ck] 32)) := (Kp.refl w).alloc _
  obtain ⟨n, e⟩ := R
  simp only at hch
  rw [← hR] at he ⊢
  have dE : (e == 0) = false := beq_eq_false_iff_ne.2 he
  have dE' : (e != 0) = true := by simpa using he
  simp only
  clear he hR hx hy hw lx ly hcI hcN
  go_enter Try.func9, Try.ntmps9
  go_wp2_with (first | (go_at_call 6; refine (hch _ kw).mono ?_; rintro e1 w1 ⟨rfl, g1⟩; have k1 := kw.trans g1; replace z0 := kkeep g1 z0; replace z1 := kkeep g1 z1; replace z2 := kkeep g1 z2))
  exact bodyPost_ret (v := .tuple #[.pointer none, .int .i64 e]) (by simp [results, Try.results9, go_sem]) rfl ⟨rfl, k1⟩
set_option maxRecDepth 20000 in
set_option maxHeartbeats 4000000 in
theorem newO_ (V : Int) (pc pk : Option Addr) (cc ck : Nat) (ps : List (Nat × Nat)) (L : List I5) (he : (chk V ps L).2 = 0) (w : World) (hx : AG FLV w pc ps) (hy : AI w pk L) (hw : Wq ps) (lx : ps.length ≤ 1048576) (ly : L.length ≤ 1048576) :
    Calls Try.prog 9 #[.agg #[.int .i64 V, .slice pc ps.length cc, .slice pk L.length ck]] w fun e w' => (∃ a, e = .returned (.tuple #[.pointer (some a), .int .i64 0])) ∧ Kp w w' := by
  obtain ⟨R, hR⟩ : ∃ R, R = chk V ps L := ⟨_, rfl⟩
  have hch := fun (W : World) (g : Kp w W) => pcheck_ V pc pk cc ck ps L W (hx.grown g) (hy.grown g) hw lx ly
  rw [← hR] at hch
  have hcI := fun (W : World) (g : Kp w W) => cloneI_ pc cc ps W (hx.grown g) lx
  have hcN := fun (W : World) (g : Kp w W) => cloneN_ pk ck L W (hy.grown g) ly
  generalize ps.length = N at hch hcI ⊢
  generalize L.length = M at hch hcN ⊢
  have z0 : (w.alloc (.cells #[.int .i64 V, .slice pc N cc, .slice pk M ck] 32)).cell? ⟨w.heap.size, 0, none⟩ = some (.int .i64 V) := by simp [go_sem]
  have z1 : (w.alloc (.cells #[.int .i64 V, .slice pc N cc, .slice pk M ck] 32)).cell? ⟨w.heap.size, 1, none⟩ = some (.slice pc N cc) := by simp [go_sem]
  have z2 : (w.alloc (.cells #[.int .i64 V, .slice pc N cc, .slice pk M ck] 32)).cell? ⟨w.heap.size, 2, none⟩ = some (.slice pk M ck) := by simp [go_sem]
  have kw : Kp w (w.alloc (.cells #[.int .i64 V, .slice pc N cc, .slice pk M ck] 32)) := (Kp.refl w).alloc _
  obtain ⟨n, e⟩ := R
  simp only at hch
  rw [← hR] at he
  simp only at he
  subst he
  clear hR hx hy hw lx ly
  go_enter Try.func9, Try.ntmps9
  go_upto_region 4 with (first | (go_at_call 6; refine (hch _ kw).mono ?_; rintro e1 w1 ⟨rfl, g1⟩; have k1 := kw.trans g1; replace z0 := kkeep g1 z0; replace z1 := kkeep g1 z1; replace z2 := kkeep g1 z2))
  clear hch g1 kw
  generalize w.heap.size = B0 at z0 z1 z2 ⊢
  have z0' : w1.drew.cell? ⟨B0, 0, none⟩ = some (.int .i64 V) := z0
  have z1' : w1.drew.cell? ⟨B0, 1, none⟩ = some (.slice pc N cc) := z1
  have z2' : w1.drew.cell? ⟨B0, 2, none⟩ = some (.slice pk M ck) := z2
  have kd : Kp w w1.drew := k1.drew
  go_region_held3 (fun w' => w'.cell? ⟨B0, 0, none⟩ = some (.int .i64 V) ∧ w'.cell? ⟨B0, 1, none⟩ = some (.slice pc N cc) ∧ w'.cell? ⟨B0, 2, none⟩ = some (.slice pk M ck)) (first | (with_reducible exact ⟨z0, z1, z2⟩) | (with_reducible exact ⟨z0', z1', z2'⟩) | (with_reducible exact ⟨za0, za1, za2⟩) | (with_reducible exact ⟨zb0, zb1, zb2⟩) | (exact ⟨kkeep ((Kp.refl wb).alloc _) zb0, kkeep ((Kp.refl wb).alloc _) zb1, kkeep ((Kp.refl wb).alloc _) zb2⟩) | (exact ⟨kkeep ((Kp.refl wa).alloc _) za0, kkeep ((Kp.refl wa).alloc _) za1, kkeep ((Kp.refl wa).alloc _) za2⟩)) (first | (go_at_call 27; first | (refine (hcI _ kd).mono ?_; rintro e9 wa ⟨pa, ca, rfl, oa, ga⟩; have ka : Kp w1.drew wa := ga; have kka := kd.trans ga; have za0 := kkeep ka z0'; have za1 := kkeep ka z1'; have za2 := kkeep ka z2') | (refine (hcI _ kkb).mono ?_; rintro e9 wa ⟨pa, ca, rfl, oa, ga⟩; have ka : Kp w1.drew wa := kb.trans ga; have kka := kkb.trans ga; have za0 := kkeep ka z0'; have za1 := kkeep ka z1'; have za2 := kkeep ka z2')) | (go_at_call 28; first | (refine (hcN _ kd).mono ?_; rintro e9 wb ⟨pb, cb, rfl, ob, gb⟩; have kb : Kp w1.drew wb := gb; have kkb := kd.trans gb; have zb0 := kkeep kb z0'; have zb1 := kkeep kb z1'; have zb2 := kkeep kb z2') | (refine (hcN _ kka).mono ?_; rintro e9 wb ⟨pb, cb, rfl, ob, gb⟩; have kb : Kp w1.drew wb := ka.trans gb; have kkb := kka.trans gb; have zb0 := kkeep kb z0'; have zb1 := kkeep kb z1'; have zb2 := kkeep kb z2')))
  all_goals (
    go_wp2
    exact bodyPost_ret (v := .tuple #[.pointer (some _), .int .i64 0]) (by simp [results, Try.results9, go_sem]; try rfl) rfl ⟨⟨_, rfl⟩, by first | exact kka.alloc _ | exact kkb.alloc _⟩)
end X7
end Go.Proofs.Ytipedmnipolmeaa
