import Derived.Test.YtaamimpanpgifaaProg
import Derived.Test.YtaamimpanpgifaaRows
import Derived.Test.YtaamimpanpgifaaKA
import Derived.Test.YtaamimpanpgifaaKA2
import Derived.Test.YtaamimpanpgifaaKA3
import Derived.Test.YtaamimpanpgifaaKA4
import Derived.Test.YtaamimpanpgifaaKXM
import Derived.Test.YtaamimpanpgifaaKXT
import Derived.Test.YtaamimpanpgifaaKA5
import Derived.Test.YtaamimpanpgifaaKAT
import Derived.Test.YtaamimpanpgifaaKLB
import Derived.Test.YtaamimpanpgifaaKLN
import Derived.Test.YtaamimpanpgifaaKPR
import Derived.Test.YtaamimpanpgifaaKSL
import Derived.Test.YtaamimpanpgifaaKSR
import Derived.Test.YtaamimpanpgifaaKNF
import Derived.Test.YtaamimpanpgifaaKXQ
import Derived.Test.YtaamimpanpgifaaKTO
import Derived.Test.YtaamimpanpgifaaKHB
import Derived.Test.YtaamimpanpgifaaKBW
import Derived.Test.YtaamimpanpgifaaKNSm
import Derived.Test.YtaamimpanpgifaaKW4
import Derived.Test.YtaamimpanpgifaaKRW
import Derived.Test.YtaamimpanpgifaaKNA
import Derived.Test.YtaamimpanpgifaaKNS
import Derived.Test.YtaamimpanpgifaaKNM
import Derived.Test.YtaamimpanpgifaaKNPw
import Derived.Test.YtaamimpanpgifaaKXS
import Derived.Test.YtaamimpanpgifaaKLI
import Derived.Test.YtaamimpanpgifaaKLS
import Derived.Test.YtaamimpanpgifaaKRG
import Derived.Test.YtaamimpanpgifaaKGW
import Derived.WalkKit
import Derived.ProofKit
import Derived.RowKit3
import Derived.WalkSpells
import Derived.StillTactics
import Derived.Deep.QuietTactic
import Derived.BigQuiet
import Derived.Below
import Derived.Deep.OwnRows
import Derived.OpenShut
import Derived.ChangeSlices
import Derived.Carry
import Derived.JoinedCond
import Derived.OwnWalk
namespace Go.Proofs.Ytaamimpanpgifaa
open Go.RowKit

namespace natGrows
open Go.ChangeShapes Go.WideShapes Go.ChangeAt Go.RowKit
set_option maxRecDepth 20000 in
theorem own : ownKnob Try.prog.godebug = none := by kernel_rfl
set_option maxRecDepth 20000 in
theorem laidOut : laidOutB Try.prog = true := by kernel_rfl
set_option maxRecDepth 20000 in
theorem cells25 : Try.prog.cellsOf 37 = 1 := by kernel_rfl
set_option maxRecDepth 20000 in
theorem bulk_len {H : Type} (l : List (DataW H)) : l.length ≤ Rows.uptoBulkAll l := by
  induction l with
  | nil => simp [Rows.uptoBulkAll]
  | cons x r ih =>
    have h1 : 1 ≤ Rows.uptoBulk x := by cases x <;> first | (simp [Rows.uptoBulk]; done) | (rename_i l; cases l <;> simp [Rows.uptoBulk])
    simp only [Rows.uptoBulkAll, List.length_cons]
    omega
set_option maxRecDepth 20000 in
theorem opened {H : Type} {enc : TypeId × Value → H} {W : World} {base : Nat} {v : Value} {d : DataW H} {ps : List MemPlace} (hv : Value.okWide Try.prog W .any base 22 v) (h : DataW.Trod enc Try.prog W 0 (fun _ => true) true 22 v d ps) (hb : Rows.uptoBulk d ≤ 1048576) :
    ∃ p cap xs, v = .slice p xs.length cap ∧ Arr W p xs ∧ Wd xs ∧ xs.length ≤ 1048576 := by
  obtain ⟨a0, len, cap, rfl⟩ := okWide_slice Try.underlying22 hv
  obtain ⟨fuel, hf⟩ := h
  rcases open_ints Try.underlying22 Try.underlying37 cells25 hf with ⟨hcs, hx⟩ | ⟨a, len', cap', zs, hcs, _, hl, hm, hz, hx, hcell, hwz⟩
  · simp [Value.cells] at hcs
    obtain ⟨rfl, rfl, rfl⟩ := hcs
    exact ⟨none, 0, [], rfl, Or.inl rfl, Wd.nil, by simp⟩
  · simp [Value.cells] at hcs
    obtain ⟨rfl, rfl, rfl⟩ := hcs
    simp only [Prod.mk.injEq] at hx
    obtain ⟨rfl, rfl⟩ := hx
    simp only [if_true] at hz
    have hlen : (zs.take len).length = len := by rw [List.length_take]; omega
    have hle : len ≤ 1048576 := by
      have h1 := bulk_len (lits (H := H) .u32 (zs.take len))
      have h2 : (lits (H := H) .u32 (zs.take len)).length = len := by simp [lits]; omega
      simp only [Rows.uptoBulk] at hb
      omega
    refine ⟨some a, cap, zs.take len, by rw [hlen], ?_, ?_, by omega⟩
    · by_cases c : len = 0
      · left; subst c; simp
      · right
        obtain ⟨b, off, rfl, hc⟩ := ints_at hcell (by omega)
        refine ⟨b, off, rfl, fun j hj => ?_⟩
        have hj' : j < len := by omega
        rw [hc j (by omega)]
        simp [List.getD, hj']
    · intro j
      have e1 : IntKind.u32.min = 0 := rfl
      have e2 : IntKind.u32.max = 4294967295 := rfl
      by_cases c : j < (zs.take len).length
      · have hmem : (zs.take len).getD j 0 ∈ zs := by
          have : (zs.take len).getD j 0 = (zs.take len)[j] := by rw [List.getD, List.getElem?_eq_getElem c]; rfl
          rw [this]; exact List.mem_of_mem_take (List.getElem_mem c)
        obtain ⟨z, hzz⟩ : ∃ z, z = (zs.take len).getD j 0 := ⟨_, rfl⟩
        rw [← hzz] at hmem ⊢
        have h5 := hwz _ hmem
        simp [Lit.wf, e1, e2] at h5
        omega
      · have : (zs.take len).getD j 0 = 0 := by
          rw [List.getD, List.getElem?_eq_none (by omega)]; rfl
        omega
set_option maxRecDepth 20000 in
theorem contract (H : Type) (enc : TypeId × Value → H) (W : World) (base : Nat) (args : Array Value) (ds gs : List (DataW H)) (before : List MemPlace)
    (hval : ∀ (j : Nat) t v, Try.f4.params[j]? = some t → args[j]? = some v → Value.okWide Try.prog W .any base t v)
    (hW : DataW.Whole enc Try.prog Try.f4.params.toList Rows.natGrowsSpec.vars false W args.toList ds gs before) (hk : Rows.uptoSmall H (ds ++ gs) = true) :
    Calls Try.prog 4 args W fun e W' => ∃ v, e = .returned v ∧ Rows.natGrowsSpec.post enc Try.prog Try.f4 false true false false W args v W' := by
  have hW' := hW
  obtain ⟨p, q, hA0, hV, rfl, hfz, hnd⟩ := hW
  have hA : DataW.TrodAll enc Try.prog W 0 (fun _ => true) true Try.f4.params.toList args.toList ds p := hA0
  rw [Try.params4] at hA hval
  obtain ⟨v0, vs0, d0, ds0, p0, q0, hargs, rfl, rfl, h0, r0⟩ := trodAll_cons hA
  obtain ⟨v1, vs1, d1, ds1, p1, q1, rfl, rfl, rfl, h1, r1⟩ := trodAll_cons r0
  obtain ⟨v2, vs2, d2, ds2, p2, q2, rfl, rfl, rfl, h2, r2⟩ := trodAll_cons r1
  obtain ⟨rfl, rfl, rfl⟩ := trodAll_nil r2
  obtain rfl : args = #[v0, v1, v2] := by cases args; simp_all
  obtain ⟨rfl, rfl⟩ := trodVars_none hV
  clear hA0
  simp only [List.append_nil] at hW' hk
  have hb : Rows.uptoBulkAll [d0, d1, d2] ≤ 1048576 := of_decide_eq_true hk
  simp only [Rows.uptoBulkAll] at hb
  have hlt : ∀ x, x ∈ p0 ∨ x ∈ p1 ∨ x ∈ p2 → x.block < W.heap.size := fun x hx => by simpa using hW'.lt x (by simpa [List.mem_append] using hx)
  have ha0 : ∀ (W' : World), Below W.heap.size W W' → DataW.Trod enc Try.prog W' 0 (fun b => decide (b < W.heap.size)) true 22 v0 d0 p0 :=
    fun W' hn => Below.trod laidOut (by kernel_rfl) (of_decide_eq_true (by kernel_rfl)) h0 hn (fun x hx => hlt x (Or.inl hx))
  have ha1 : ∀ (W' : World), Below W.heap.size W W' → DataW.Trod enc Try.prog W' 0 (fun b => decide (b < W.heap.size)) true 3 v1 d1 p1 :=
    fun W' hn => Below.trod laidOut (by kernel_rfl) (of_decide_eq_true (by kernel_rfl)) h1 hn (fun x hx => hlt x (Or.inr (Or.inl hx)))
  have ha2 : ∀ (W' : World), Below W.heap.size W W' → DataW.Trod enc Try.prog W' 0 (fun b => decide (b < W.heap.size)) true 3 v2 d2 p2 :=
    fun W' hn => Below.trod laidOut (by kernel_rfl) (of_decide_eq_true (by kernel_rfl)) h2 hn (fun x hx => hlt x (Or.inr (Or.inr (hx))))
  obtain ⟨pa0, ca0, xs0, rfl, hx0, hwx0, lx0⟩ := opened (hval 0 22 v0 rfl rfl) h0 (by omega)
  obtain ⟨z1, rfl⟩ := okWide_int Try.underlying3 (hval 1 3 v1 rfl rfl)
  obtain ⟨z2, rfl⟩ := okWide_int Try.underlying3 (hval 2 3 v2 rfl rfl)
  refine (grows_ pa0 ca0 xs0 z1 z2 W hx0 hwx0 lx0).mono fun e W' ⟨he, hnx⟩ => ?_
  subst he
  refine ⟨_, rfl, _, _, _, [], _, [], hW', ?_, trodAll_cons_mk (ha0 _ hnx) (trodAll_cons_mk (ha1 _ hnx) (trodAll_cons_mk (ha2 _ hnx) trodAll_mk0)), rfl, Below.frame hnx _, fun h => by cases h⟩
  exact trodAll_cons_mk (shut_bool Try.underlying4 _) trodAll_mk0
set_option maxRecDepth 100000 in
theorem liftedUpto (os : Os) (started : os.Started) (H : Type) (enc : TypeId × Value → H) (F : Stop.Interp) :
    ReturnsInHanded {} Try.checked os 4 .any ((Rows.OpenSpec.upto Rows.natGrowsSpec).pre6 enc Try.prog Try.f4 Rows.natGrowsUptoRow.domain false) (((Rows.OpenSpec.upto Rows.natGrowsSpec).at F).post enc Try.prog Try.f4 false true false false) := by
  refine returnsInHanded_of_cond (C := Try.checked) (s := Rows.OpenSpec.upto Rows.natGrowsSpec) (k := Rows.uptoSmall) rfl own started (by kernel_rfl) Try.func4
    (OpenSpec.witness (enc := enc) (C := Try.checked) (s := Rows.OpenSpec.upto Rows.natGrowsSpec) (k := Rows.uptoSmall) rfl false ⟨#[], #[.slice none 0 0, .int .i64 0, .int .i64 0], []⟩ 8 (by kernel_rfl) (by kernel_rfl) (by kernel_rfl)
      (x := ([.nil, .lit (.int .i64 0), .lit (.int .i64 0)], [], [])) (by kernel_rfl) rfl (by kernel_rfl)) ?_
  intro W base args ds gs before hval hW _ hk _
  exact contract H enc W base args ds gs before hval hW hk
end natGrows
set_option maxRecDepth 20000 in
theorem natGrows_holds : Rows.NatGrowsUptoSaid :=
  OpenClaim.holds_of_cond 4 Try.f4 rfl rfl rfl rfl rfl rfl rfl ⟨rfl, rfl, rfl, rfl, rfl⟩ rfl rfl rfl rfl rfl (by kernel_rfl) Try.func4 (by kernel_rfl)
    (of_decide_eq_true (by kernel_rfl)) (by unfold Func.isWrapper; first | (rw [if_pos (by decide +kernel)]; kernel_rfl) | (rw [if_neg (by decide +kernel)]; exact ⟨rfl, rfl⟩))
    (fun os started H enc _ F => natGrows.liftedUpto os started H enc F)
end Go.Proofs.Ytaamimpanpgifaa
