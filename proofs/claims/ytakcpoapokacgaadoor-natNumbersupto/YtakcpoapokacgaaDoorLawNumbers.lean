import Derived.Test.YtakcpoapokacgaaDoorProg
import Derived.Test.YtakcpoapokacgaaDoorRows
import Derived.Test.YtakcpoapokacgaaDoorProg
import Derived.Test.YtakcpoapokacgaaDoorA
import Derived.Test.YtakcpoapokacgaaDoorA2
import Derived.Test.YtakcpoapokacgaaDoorA3
import Derived.Test.YtakcpoapokacgaaDoorA4
import Derived.Test.YtakcpoapokacgaaDoorMN
import Derived.Test.YtakcpoapokacgaaDoorMV
import Derived.Test.YtakcpoapokacgaaDoorMP
import Derived.Test.YtakcpoapokacgaaDoorMD
import Derived.Test.YtakcpoapokacgaaDoorMS
import Derived.Test.YtakcpoapokacgaaDoorMC
import Derived.Test.YtakcpoapokacgaaDoorT1
import Derived.Test.YtakcpoapokacgaaDoorT2
import Derived.Test.YtakcpoapokacgaaDoorSM
import Derived.Test.YtakcpoapokacgaaDoorA5
import Derived.Test.YtakcpoapokacgaaDoorA6
import Derived.Test.YtakcpoapokacgaaDoorHB
import Derived.Test.YtakcpoapokacgaaDoorMM
import Derived.Test.YtakcpoapokacgaaDoorMW
import Derived.Test.YtakcpoapokacgaaDoorTZ
import Derived.Test.YtakcpoapokacgaaDoorRC
import Derived.Test.YtakcpoapokacgaaDoorNC
import Derived.Test.YtakcpoapokacgaaDoorLN
import Derived.Test.YtakcpoapokacgaaDoorW4
import Derived.Test.YtakcpoapokacgaaDoorNSm
import Derived.Test.YtakcpoapokacgaaDoorZE
import Derived.Test.YtakcpoapokacgaaDoorHB2
import Derived.Test.YtakcpoapokacgaaDoorHL
import Derived.Test.YtakcpoapokacgaaDoorHE2
import Derived.Test.YtakcpoapokacgaaDoorKA
import Derived.Test.YtakcpoapokacgaaDoorKW
import Derived.Test.YtakcpoapokacgaaDoorCards
import Derived.Test.YtakcpoapokacgaaDoorTie
import Derived.WalkKit
import Derived.ProofKit
import Derived.RowKit3
import Derived.WalkSpells
import Derived.StillTactics
import Derived.Deep.QuietTactic
import Derived.BigQuiet
import Derived.Below
import Derived.Deep.OwnRows
import Derived.OpenShut
import Derived.ChangeSlices
import Derived.Carry
import Derived.Deep.DeepHandedRow
import Derived.Deep.DeepWitnessRowRef
import Derived.Lib.LaidTab
import Derived.LaidMore
import Derived.Stop.Joined
import Derived.SevenTiedAt
import Derived.MakeChecks
import Derived.OwnWalk
namespace Go.Proofs.YtakcpoapokacgaaDoor
open Go.RowKit
set_option maxRecDepth 20000 in
set_option maxHeartbeats 1000000 in
theorem numbers_ (p q : Option Addr) (c d : Nat) (xs ys : List Int) (x : Nat) (hx64 : x < 18446744073709551616) (w : World) (hT : Tab w) (hx : Arr w p xs) (hy : Arr w q ys) (hwx : Wd xs) (hwy : Wd ys) (lx : xs.length ≤ 1048576) (ly : ys.length ≤ 1048576) :
    Calls Tryd.prog 3 #[.slice p xs.length c, .slice q ys.length d, .int .u64 (x : Int)] w fun e w' => e = .returned (.bool true) ∧ Kp w w' := by
  have hx2 : (dig x).length ≤ 2 := by
    have e : (dig x).length = len32 x := rfl
    by_cases g : len32 x ≤ 2
    · omega
    · have := len32_lt x 2 (by omega)
      omega
  have h0 := fun w' (k : Kp w w') => held2_ 0 x 0 F0 (ask2_norm x 0) (want2_norm x 0) p q c d xs ys w' (hT.grown k) (hx.grown k) (hy.grown k) hwx hwy lx ly (fun us vs h _ => ⟨Nat.le_trans (by simp only [F0, nz_length]; exact Nat.le_trans (tl_le us) h) (by decide), by simp [F0]⟩)
  have h1 := fun w' (k : Kp w w') => held2_ 1 x 0 (F1 x) (ask2_small x hx64 0) (want2_small x hx64 0) p q c d xs ys w' (hT.grown k) (hx.grown k) (hy.grown k) hwx hwy lx ly (fun us vs _ _ => ⟨Nat.le_trans hx2 (by decide), by simp [F1]⟩)
  have h2 := fun w' (k : Kp w w') => held2_ 2 x 0 F2 (ask2_word x 0) (want2_word x 0) p q c d xs ys w' (hT.grown k) (hx.grown k) (hy.grown k) hwx hwy lx ly (fun us vs _ _ => ⟨by simp [F2], by simp [F2]⟩)
  have h3 := fun w' (k : Kp w w') => held2_ 3 x 0 F3 (ask2_cmp x 0) (want2_cmp x 0) p q c d xs ys w' (hT.grown k) (hx.grown k) (hy.grown k) hwx hwy lx ly (fun us vs _ _ => ⟨by simp [F3], by simp [F3]⟩)
  have h4 := fun w' (k : Kp w w') => held2_ 3 x 0 F3 (ask2_cmp x 0) (want2_cmp x 0) q p d c ys xs w' (hT.grown k) (hy.grown k) (hx.grown k) hwy hwx ly lx (fun us vs _ _ => ⟨by simp [F3], by simp [F3]⟩)
  have h5 := fun w' (k : Kp w w') => held2_ 4 x 0 F4 (ask2_bits x 0) (want2_bits x 0) p q c d xs ys w' (hT.grown k) (hx.grown k) (hy.grown k) hwx hwy lx ly (fun us vs _ _ => ⟨by simp [F4], by simp [F4]⟩)
  have h6 := fun w' (k : Kp w w') => held2_ 5 x 0 F5 (ask2_zeros x 0) (want2_zeros x 0) p q c d xs ys w' (hT.grown k) (hx.grown k) (hy.grown k) hwx hwy lx ly (fun us vs _ _ => ⟨by simp [F5], by simp [F5]⟩)
  obtain ⟨N, hN⟩ : ∃ N, N = xs.length := ⟨_, rfl⟩
  obtain ⟨M, hM⟩ : ∃ M, M = ys.length := ⟨_, rfl⟩
  rw [← hN, ← hM] at h0
  rw [← hN, ← hM] at h1
  rw [← hN, ← hM] at h2
  rw [← hN, ← hM] at h3
  rw [← hN, ← hM] at h4
  rw [← hN, ← hM] at h5
  rw [← hN, ← hM] at h6
  rw [← hN, ← hM]
  have K : Kp w w := Kp.refl w
  clear hT hx hy hwx hwy lx ly hN hM hx2 hx64
  go_enter Tryd.func3, Tryd.ntmps3
  go_wp2_with fail
  refine (h0 _ K).mono ?_; rintro e w1 ⟨rfl, k1⟩
  replace K := K.trans k1
  clear h0 k1
  go_wp2_with fail
  refine (h1 _ K).mono ?_; rintro e w2 ⟨rfl, k2⟩
  replace K := K.trans k2
  clear h1 k2
  go_wp2_with fail
  refine (h2 _ K).mono ?_; rintro e w3 ⟨rfl, k3⟩
  replace K := K.trans k3
  clear h2 k3
  go_wp2_with fail
  refine (h3 _ K).mono ?_; rintro e w4 ⟨rfl, k4⟩
  replace K := K.trans k4
  clear h3 k4
  go_wp2_with fail
  refine (h4 _ K).mono ?_; rintro e w5 ⟨rfl, k5⟩
  replace K := K.trans k5
  clear h4 k5
  go_wp2_with fail
  refine (h5 _ K).mono ?_; rintro e w6 ⟨rfl, k6⟩
  replace K := K.trans k6
  clear h5 k6
  go_wp2_with fail
  refine (h6 _ K).mono ?_; rintro e w7 ⟨rfl, k7⟩
  replace K := K.trans k7
  clear h6 k7
  go_wp2
  exact bodyPost_ret (v := .bool true) (by simp [results, Tryd.results3, go_sem] <;> simp only [*]) rfl ⟨rfl, K⟩

namespace natNumbers
open Go.ChangeShapes Go.WideShapes Go.ChangeAt Go.RowKit
theorem own : ownKnob Tryd.prog.godebug = none := by kernel_rfl
theorem gTab : Tryd.prog.globalNamed "math/bits.deBruijn32tab" = some 0 := by kernel_rfl
theorem tabEq : (Rows.laid_math_bits_deBruijn32tab : DataW Unit) = Lib.tabData .u8 tabL := rfl
theorem tab_of_laid {W : World} (h : laidMetH Tryd.prog Rows.natNumbersUptoRow.laid W) : Tab W := by
  have h0 : laidMetH Tryd.prog [("math/bits.deBruijn32tab", Rows.laid_math_bits_deBruijn32tab)] W := h
  rw [MakeChecks.laidMetH_plain _ _ _ (by kernel_rfl), tabEq] at h0
  have ht := Lib.tabIs_of_head (t := 81) (e := 5) (n := 32) gTab (by kernel_rfl) (by kernel_rfl) (by kernel_rfl) (by kernel_rfl) (by kernel_rfl) h0
  exact fun i hi => ht.cell gTab i (by simpa [tabL] using hi)
theorem laidOut : laidOutB Tryd.prog = true := by kernel_rfl
theorem cells25 : Tryd.prog.cellsOf 38 = 1 := by kernel_rfl
theorem bulk_len {H : Type} (l : List (DataW H)) : l.length ≤ Rows.uptoBulkAll l := by
  induction l with
  | nil => simp [Rows.uptoBulkAll]
  | cons x r ih =>
    have h1 : 1 ≤ Rows.uptoBulk x := by cases x <;> first | (simp [Rows.uptoBulk]; done) | (rename_i l; cases l <;> simp [Rows.uptoBulk])
    simp only [Rows.uptoBulkAll, List.length_cons]
    omega
theorem opened {H : Type} {enc : TypeId × Value → H} {W : World} {base : Nat} {v : Value} {d : DataW H} {ps : List MemPlace} (hv : Value.okWide Tryd.prog W .any base 22 v) (h : DataW.Trod enc Tryd.prog W 0 (fun _ => true) true 22 v d ps) (hb : Rows.uptoBulk d ≤ 1048576) :
    ∃ p cap xs, v = .slice p xs.length cap ∧ Arr W p xs ∧ Wd xs ∧ xs.length ≤ 1048576 := by
  obtain ⟨a0, len, cap, rfl⟩ := okWide_slice Tryd.underlying22 hv
  obtain ⟨fuel, hf⟩ := h
  rcases open_ints Tryd.underlying22 Tryd.underlying38 cells25 hf with ⟨hcs, hx⟩ | ⟨a, len', cap', zs, hcs, _, hl, hm, hz, hx, hcell, hwz⟩
  · simp [Value.cells] at hcs
    obtain ⟨rfl, rfl, rfl⟩ := hcs
    exact ⟨none, 0, [], rfl, Or.inl rfl, Wd.nil, by simp⟩
  · simp [Value.cells] at hcs
    obtain ⟨rfl, rfl, rfl⟩ := hcs
    simp only [Prod.mk.injEq] at hx
    obtain ⟨rfl, rfl⟩ := hx
    simp only [if_true] at hz
    have hlen : (zs.take len).length = len := by rw [List.length_take]; omega
    have hle : len ≤ 1048576 := by
      have h1 := bulk_len (lits (H := H) .u32 (zs.take len))
      have h2 : (lits (H := H) .u32 (zs.take len)).length = len := by simp [lits]; omega
      simp only [Rows.uptoBulk] at hb
      omega
    refine ⟨some a, cap, zs.take len, by rw [hlen], ?_, ?_, by omega⟩
    · by_cases c : len = 0
      · left; subst c; simp
      · right
        obtain ⟨b, off, rfl, hc⟩ := ints_at hcell (by omega)
        refine ⟨b, off, rfl, fun j hj => ?_⟩
        have hj' : j < len := by omega
        rw [hc j (by omega)]
        simp [List.getD, hj']
    · intro j
      have e1 : IntKind.u32.min = 0 := rfl
      have e2 : IntKind.u32.max = 4294967295 := rfl
      by_cases c : j < (zs.take len).length
      · have hmem : (zs.take len).getD j 0 ∈ zs := by
          have : (zs.take len).getD j 0 = (zs.take len)[j] := by rw [List.getD, List.getElem?_eq_getElem c]; rfl
          rw [this]; exact List.mem_of_mem_take (List.getElem_mem c)
        obtain ⟨z, hzz⟩ : ∃ z, z = (zs.take len).getD j 0 := ⟨_, rfl⟩
        rw [← hzz] at hmem ⊢
        have h5 := hwz _ hmem
        simp [Lit.wf, e1, e2] at h5
        omega
      · have : (zs.take len).getD j 0 = 0 := by
          rw [List.getD, List.getElem?_eq_none (by omega)]; rfl
        omega
theorem contract (H : Type) (enc : TypeId × Value → H) (W : World) (base : Nat) (args : Array Value) (ds gs : List (DataW H)) (before : List MemPlace)
    (hval : ∀ (j : Nat) t v, Tryd.f3.params[j]? = some t → args[j]? = some v → Value.okWide Tryd.prog W .any base t v)
    (hW : DataW.Whole enc Tryd.prog Tryd.f3.params.toList Rows.natNumbersSpec.vars false W args.toList ds gs before) (hL : Tab W) (hk : Rows.uptoSmall H (ds ++ gs) = true) :
    Calls Tryd.prog 3 args W fun e W' => ∃ v, e = .returned v ∧ Rows.natNumbersSpec.post enc Tryd.prog Tryd.f3 false true false false W args v W' := by
  have hW' := hW
  obtain ⟨p, q, hA0, hV, rfl, hfz, hnd⟩ := hW
  have hA : DataW.TrodAll enc Tryd.prog W 0 (fun _ => true) true Tryd.f3.params.toList args.toList ds p := hA0
  rw [Tryd.params3] at hA hval
  obtain ⟨v0, vs0, d0, ds0, p0, q0, hargs, rfl, rfl, h0, r0⟩ := trodAll_cons hA
  obtain ⟨v1, vs1, d1, ds1, p1, q1, rfl, rfl, rfl, h1, r1⟩ := trodAll_cons r0
  obtain ⟨v2, vs2, d2, ds2, p2, q2, rfl, rfl, rfl, h2, r2⟩ := trodAll_cons r1
  obtain ⟨rfl, rfl, rfl⟩ := trodAll_nil r2
  obtain rfl : args = #[v0, v1, v2] := by cases args; simp_all
  obtain ⟨rfl, rfl⟩ := trodVars_none hV
  clear hA0
  simp only [List.append_nil] at hW' hk
  have hb : Rows.uptoBulkAll [d0, d1, d2] ≤ 1048576 := of_decide_eq_true hk
  simp only [Rows.uptoBulkAll] at hb
  have hlt : ∀ x ∈ p0 ++ (p1 ++ p2), x.block < W.heap.size := fun x hx => by simpa using hW'.lt x (by simpa using hx)
  have ha0 : ∀ (W' : World), Below W.heap.size W W' → DataW.Trod enc Tryd.prog W' 0 (fun b => decide (b < W.heap.size)) true 22 v0 d0 p0 :=
    fun W' hn => Below.trod laidOut (by kernel_rfl) (of_decide_eq_true (by kernel_rfl)) h0 hn (fun x hx => hlt x (List.mem_append_left _ hx))
  have ha1 : ∀ (W' : World), Below W.heap.size W W' → DataW.Trod enc Tryd.prog W' 0 (fun b => decide (b < W.heap.size)) true 22 v1 d1 p1 :=
    fun W' hn => Below.trod laidOut (by kernel_rfl) (of_decide_eq_true (by kernel_rfl)) h1 hn (fun x hx => hlt x (List.mem_append_right _ (List.mem_append_left _ hx)))
  have ha2 : ∀ (W' : World), Below W.heap.size W W' → DataW.Trod enc Tryd.prog W' 0 (fun b => decide (b < W.heap.size)) true 23 v2 d2 p2 :=
    fun W' hn => Below.trod laidOut (by kernel_rfl) (of_decide_eq_true (by kernel_rfl)) h2 hn (fun x hx => hlt x (List.mem_append_right _ (List.mem_append_right _ hx)))
  obtain ⟨pa, ca, xs, rfl, hx, hwx, lx⟩ := opened (hval 0 22 v0 rfl rfl) h0 (by omega)
  obtain ⟨pb, cb, ys, rfl, hy, hwy, ly⟩ := opened (hval 1 22 v1 rfl rfl) h1 (by omega)
  obtain ⟨z, rfl, rfl, rfl, hwz⟩ := open_int Tryd.underlying23 (hval 2 23 v2 rfl rfl) h2
  have hz0 : 0 ≤ z ∧ z < 18446744073709551616 := by
    have e1 : IntKind.u64.min = 0 := rfl
    have e2 : IntKind.u64.max = 18446744073709551615 := rfl
    simp [Lit.wf, e1, e2] at hwz
    omega
  obtain ⟨x, rfl⟩ := Int.eq_ofNat_of_zero_le hz0.1
  refine (numbers_ pa pb ca cb xs ys x (by omega) W hL hx hy hwx hwy lx ly).mono fun e W' ⟨he, hnx⟩ => ?_
  subst he
  refine ⟨_, rfl, _, _, _, [], _, [], hW', ?_, trodAll_cons_mk (ha0 _ hnx) (trodAll_cons_mk (ha1 _ hnx) (trodAll_cons_mk (ha2 _ hnx) trodAll_mk0)), rfl, Below.frame hnx _, fun h => by cases h⟩
  exact trodAll_cons_mk (shut_bool Tryd.underlying4 _) trodAll_mk0
theorem laid_met (os : Os) : laidMet Tryd.prog Rows.natNumbersUptoRow.laid ((World.doorLaid Tryd.prog 14 os).forCall (fun _ _ => 0) ⟨#[], #[.slice none 0 0, .slice none 0 0, .int .u64 0], []⟩).memory :=
  laidMet_of_run' 8 (by kernel_rfl) (by kernel_rfl)
theorem reads (os : Os) {H : Type} (enc : TypeId × Value → H) : ∃ places, DataW.whole enc Tryd.prog ((World.doorLaid Tryd.prog 14 os).forCall (fun _ _ => 0) ⟨#[], #[.slice none 0 0, .slice none 0 0, .int .u64 0], []⟩).memory Tryd.f3.params.toList Rows.natNumbersSpec.vars false #[Value.slice none 0 0, .slice none 0 0, .int .u64 0].toList 8 = some ([.nil, .nil, .lit (.int .u64 0)], [], places) :=
  ⟨[], by kernel_rfl⟩
set_option maxRecDepth 100000 in
theorem liftedUpto (os : Os) (started : os.Started) (H : Type) (enc : TypeId × Value → H) (F : Stop.Interp) :
    ReturnsInHanded {} Tryd.checked os 3 .any ((Rows.OpenSpec.upto Rows.natNumbersSpec).preRow enc Tryd.prog Tryd.f3 Rows.natNumbersUptoRow.domain false Rows.natNumbersUptoRow.laid) (((Rows.OpenSpec.upto Rows.natNumbersSpec).at F).post enc Tryd.prog Tryd.f3 false true false false) := by
  obtain ⟨places, hx⟩ := reads os enc
  refine returnsInHanded_of_row (C := Tryd.checked) (s := Rows.OpenSpec.upto Rows.natNumbersSpec) own started (by kernel_rfl) Tryd.func3
    (witness_row_atRef (enc := enc) (C := Tryd.checked) false (World.doorLaid Tryd.prog 14 os) #[.slice none 0 0, .slice none 0 0, .int .u64 0] rfl (by kernel_rfl) (by kernel_rfl) (by kernel_rfl)
      (OpenSpec.preRow_of_cond 8 hx (by kernel_rfl) (fun k hk => by cases hk; kernel_rfl) (by kernel_rfl) (laid_met os))) ?_
  intro W base args ds gs before hval hW c1 c2 c3 hl _ _
  first | exact contract H enc W base args ds gs before hval hW (tab_of_laid hl) (c1 _ rfl) | exact contract H enc W base args ds gs before hval hW (tab_of_laid hl) (c2 _ rfl) | exact contract H enc W base args ds gs before hval hW (tab_of_laid hl) (c3 _ rfl)
theorem saidUpto : Rows.NatNumbersUptoSaid :=
  OpenClaim.holds_of_cond 3 Tryd.f3 rfl rfl rfl rfl rfl rfl rfl ⟨rfl, rfl, rfl, rfl, rfl⟩ rfl rfl rfl rfl rfl (by kernel_rfl) Tryd.func3 (by kernel_rfl)
    (of_decide_eq_true (by kernel_rfl)) (by unfold Func.isWrapper; first | (rw [if_pos (by decide +kernel)]; kernel_rfl) | (rw [if_neg (by decide +kernel)]; exact ⟨rfl, rfl⟩))
    (fun os started H enc _ F => by rw [OpenClaim.pre_eq_preRow]; exact liftedUpto os started H enc F)
theorem plain (f : FuncId) (fn : Func) (hf : Tryd.pinned.checked.prog.funcNamed "verge/vergelaw2.NatNumbers" = some f) (hfn : Tryd.pinned.checked.prog.funcs[f]? = some fn) :
    false = Tryd.pinned.checked.prog.looks [] ∧ ∀ (j : Nat) t, fn.params[j]? = some t → Tryd.pinned.checked.prog.wantsStandIn t = false := by
  obtain rfl : f = 3 := Option.some.inj ((show Tryd.prog.funcNamed "verge/vergelaw2.NatNumbers" = some 3 by kernel_rfl).symm.trans hf) |>.symm
  obtain rfl : fn = Tryd.f3 := (Option.some.inj (Tryd.func3.symm.trans hfn)).symm
  refine ⟨by kernel_rfl, fun j t ht => ?_⟩
  rw [Tryd.params3] at ht
  have h : t = 22 ∨ t = 22 ∨ t = 23 := by simpa using Array.mem_of_getElem? ht
  rcases h with rfl | rfl | rfl
  · exact (show Tryd.prog.wantsStandIn 22 = false by kernel_rfl)
  · exact (show Tryd.prog.wantsStandIn 22 = false by kernel_rfl)
  · exact (show Tryd.prog.wantsStandIn 23 = false by kernel_rfl)
end natNumbers
theorem natNumbers_holds : Rows.NatNumbersUptoCardSaid :=
  Claim7.holds_tied_plain_at .later [] _ _ _ _ natNumbers.saidUpto (fun _ h => by cases h) (by kernel_rfl) (fun _ h => by cases h) natNumbersUpto_row_tie rfl ⟨rfl, rfl⟩ (by kernel_rfl) rfl natNumbers.plain (by kernel_rfl)
end Go.Proofs.YtakcpoapokacgaaDoor
