import Derived.Test.YtjblehmafjcncaaDoorProg
import Derived.Test.YtjblehmafjcncaaDoorRows
import Derived.Test.YtjblehmafjcncaaDoorKXA0
import Derived.Test.YtjblehmafjcncaaDoorKXM
import Derived.Test.YtjblehmafjcncaaDoorKXT
import Derived.Test.YtjblehmafjcncaaDoorKHB
import Derived.Test.YtjblehmafjcncaaDoorKXTZ
import Derived.Test.YtjblehmafjcncaaDoorKRC
import Derived.Test.YtjblehmafjcncaaDoorKNC
import Derived.Test.YtjblehmafjcncaaDoorKLN
import Derived.Test.YtjblehmafjcncaaDoorKW4
import Derived.Test.YtjblehmafjcncaaDoorKNSm
import Derived.Test.YtjblehmafjcncaaDoorKHB2
import Derived.Test.YtjblehmafjcncaaDoorKYAK
import Derived.Test.YtjblehmafjcncaaDoorKXQQ
import Derived.Test.YtjblehmafjcncaaDoorKXYP
import Derived.Test.YtjblehmafjcncaaDoorKXNM
import Derived.Test.YtjblehmafjcncaaDoorKXRMU
import Derived.Test.YtjblehmafjcncaaDoorKBW
import Derived.Test.YtjblehmafjcncaaDoorKXRO2
import Derived.Test.YtjblehmafjcncaaDoorKXYB
import Derived.Test.YtjblehmafjcncaaDoorKXS
import Derived.Test.YtjblehmafjcncaaDoorKLS
import Derived.Test.YtjblehmafjcncaaDoorKXA
import Derived.Test.YtjblehmafjcncaaDoorKXYN
import Derived.Test.YtjblehmafjcncaaDoorKYM
import Derived.Test.YtjblehmafjcncaaDoorCards
import Derived.Test.YtjblehmafjcncaaDoorTie
import Derived.WalkKit
import Derived.ProofKit
import Derived.RowKit3
import Derived.WalkSpells
import Derived.StillTactics
import Derived.Deep.QuietTactic
import Derived.BigQuiet
import Derived.Below
import Derived.Deep.OwnRows
import Derived.OpenShut
import Derived.ChangeSlices
import Derived.Carry
import Derived.Deep.DeepHandedRow
import Derived.Deep.DeepWitnessRowRef
import Derived.Lib.LaidTab
import Derived.LaidMore
import Derived.Stop.Joined
import Derived.SevenTiedAt
import Derived.MakeChecks
import Derived.OwnWalk
import Derived.Deep.Slices
namespace Go.Proofs.YtjblehmafjcncaaDoor
open Go.RowKit

namespace natPlays
open Go.ChangeShapes Go.WideShapes Go.ChangeAt Go.RowKit
theorem own : ownKnob Tryd.prog.godebug = none := by kernel_rfl
theorem laid_tail {P : Program} {W : World} {x : String × DataW Unit} {rest : List (String × DataW Unit)} (h : laidMet P (x :: rest) W) : laidMet P rest W := by
  obtain ⟨ps, hl, hn, hc⟩ := h
  obtain ⟨n, d⟩ := x
  obtain ⟨g, t, cs, fuel, p, q, _, _, _, _, hq, rfl⟩ := hl
  exact ⟨q, hq, (List.nodup_append.1 hn).2.1, fun b off hm => hc b off (List.mem_append_right _ hm)⟩
set_option maxRecDepth 100000 in
theorem gTab0 : Tryd.prog.globalNamed "math/bits.deBruijn32tab" = some 0 := by kernel_rfl
set_option maxRecDepth 100000 in
theorem tabEq0 : (Rows.laid_math_bits_deBruijn32tab : DataW Unit) = Lib.tabData .u8 tabL := rfl
set_option maxRecDepth 100000 in
theorem tab_of_laid0 {W : World} (h : laidMetH Tryd.prog Rows.natPlaysUptoRow.laid W) : Tab W := by
  have h0 : laidMetH Tryd.prog [("math/bits.deBruijn32tab", Rows.laid_math_bits_deBruijn32tab)] W := h
  rw [MakeChecks.laidMetH_plain _ _ _ (by kernel_rfl)] at h0
  rw [tabEq0] at h0
  have ht := Lib.tabIs_of_head (t := 80) (e := 5) (n := 32) gTab0 (by kernel_rfl) (by kernel_rfl) (by kernel_rfl) (by kernel_rfl) (by kernel_rfl) h0
  exact fun i hi => ht.cell gTab0 i (by simpa [tabL] using hi)
theorem laidOut : laidOutB Tryd.prog = true := by kernel_rfl
theorem cells25 : Tryd.prog.cellsOf 38 = 1 := by kernel_rfl
theorem bulk_len {H : Type} (l : List (DataW H)) : l.length ≤ Rows.uptoBulkAll l := by
  induction l with
  | nil => simp [Rows.uptoBulkAll]
  | cons x r ih =>
    have h1 : 1 ≤ Rows.uptoBulk x := by cases x <;> first | (simp [Rows.uptoBulk]; done) | (rename_i l; cases l <;> simp [Rows.uptoBulk])
    simp only [Rows.uptoBulkAll, List.length_cons]
    omega
theorem openS {H : Type} {enc : TypeId × Value → H} {W : World} {v : Value} {fuel : Nat} {y : DataW H × List MemPlace} (hf : DataW.trod enc Tryd.prog W 0 (fun _ => true) true fuel 24 [v] = some y) :
    ∃ p cap xs, v = .slice p xs.length cap ∧ Arr W p xs ∧ Wd xs ∧ xs.length ≤ cap ∧ xs.length ≤ Rows.uptoBulk y.1 := by
  rcases open_ints Tryd.underlying24 Tryd.underlying38 cells25 hf with ⟨hcs, hx⟩ | ⟨a, len, cap, zs, hcs, _, hl, hm, hz, hx, hcell, hwz⟩
  · simp at hcs
    subst hcs
    exact ⟨none, 0, [], rfl, Or.inl rfl, Wd.nil, by simp, by simp⟩
  · simp at hcs
    subst hcs
    subst hx
    simp only [if_true] at hz
    have hlen : (zs.take len).length = len := by rw [List.length_take]; omega
    refine ⟨some a, cap, zs.take len, by rw [hlen], ?_, ?_, by omega, ?_⟩
    · by_cases c : len = 0
      · left; subst c; simp
      · right
        obtain ⟨b, off, rfl, hc⟩ := ints_at hcell (by omega)
        refine ⟨b, off, rfl, fun j hj => ?_⟩
        have hj' : j < len := by omega
        rw [hc j (by omega)]
        simp [List.getD, hj']
    · intro j
      have e1 : IntKind.u32.min = 0 := rfl
      have e2 : IntKind.u32.max = 4294967295 := rfl
      by_cases c : j < (zs.take len).length
      · have hmem : (zs.take len).getD j 0 ∈ zs := by
          have : (zs.take len).getD j 0 = (zs.take len)[j] := by rw [List.getD, List.getElem?_eq_getElem c]; rfl
          rw [this]; exact List.mem_of_mem_take (List.getElem_mem c)
        obtain ⟨z, hzz⟩ : ∃ z, z = (zs.take len).getD j 0 := ⟨_, rfl⟩
        rw [← hzz] at hmem ⊢
        have h5 := hwz _ hmem
        simp [Lit.wf, e1, e2] at h5
        omega
      · have : (zs.take len).getD j 0 = 0 := by
          rw [List.getD, List.getElem?_eq_none (by omega)]; rfl
        omega
    · have h1 := bulk_len (lits (H := H) .u32 (zs.take len))
      have h2 : (lits (H := H) .u32 (zs.take len)).length = len := by simp [lits]; omega
      simp only [Rows.uptoBulk]
      omega
theorem bnd {z : Int} (h : (Lit.int .i64 z).wf = true) : -9223372036854775808 ≤ z ∧ z < 9223372036854775808 := by
  have e1 : IntKind.i64.min = -9223372036854775808 := rfl
  have e2 : IntKind.i64.max = 9223372036854775807 := rfl
  simp [Lit.wf, e1, e2] at h
  omega
theorem bulk_mem {H : Type} (l : List (DataW H)) (x : DataW H) (h : x ∈ l) : Rows.uptoBulk x ≤ Rows.uptoBulkAll l := by
  induction l with
  | nil => cases h
  | cons y r ih =>
    simp only [Rows.uptoBulkAll]
    rcases List.mem_cons.1 h with rfl | h
    · omega
    · have := ih h; omega
instance : Inhabited Lst := ⟨⟨none, 0, []⟩⟩
theorem spot_at {w : World} {a : Addr} {v : Value} (h : w.cell? (a.add 0) = some v) : ∃ b off, a = ⟨b, off, none⟩ := by
  obtain ⟨b, off, spot⟩ := a
  have hspot : spot = none := by simpa [Addr.add] using World.cell?_spot h
  subst hspot
  exact ⟨b, off, rfl⟩
set_option maxRecDepth 100000 in
theorem opened1 {H : Type} {enc : TypeId × Value → H} {W : World} {base : Nat} {v : Value} {d : DataW H} {ps : List MemPlace} (hv : Value.okWide Tryd.prog W .any base 22 v) (h : DataW.Trod enc Tryd.prog W 0 (fun _ => true) true 22 v d ps) (hb : Rows.uptoBulk d ≤ 1048576) :
    ∃ p c fs, v = .slice p (fs : List Lst).length c ∧ Fst W p fs ∧ fs.length ≤ 1048576 := by
  obtain ⟨a0, len0, cap0, rfl⟩ := okWide_slice Tryd.underlying22 hv
  obtain ⟨fuel, hf⟩ := h
  rcases Go.Deep.open_slice1 Tryd.underlying22 (by kernel_rfl) hf with ⟨hcs, hx⟩ | ⟨a, len, cap, m, n, V, D, Pl, hcs, _, hl, hm, hmm, hx, hall⟩
  · simp [Value.cells] at hcs
    obtain ⟨rfl, rfl, rfl⟩ := hcs
    exact ⟨none, 0, [], rfl, Or.inl rfl, by simp⟩
  · simp [Value.cells] at hcs
    obtain ⟨rfl, rfl, rfl⟩ := hcs
    simp only [if_true] at hmm
    simp only [Prod.mk.injEq] at hx
    obtain ⟨rfl, -⟩ := hx
    simp only [Rows.uptoBulk] at hb
    have hlen : len0 ≤ 1048576 := by
      have h1 := bulk_len ((List.range len0).map D)
      have h2 : ((List.range len0).map D).length = len0 := by simp
      omega
    have each : ∀ j, j < len0 → ∃ l : Lst, W.cell? (a.add j) = some l.v ∧ Arr W l.p l.xs ∧ Wd l.xs ∧ l.xs.length ≤ 1048576 := fun j hj => by
      obtain ⟨h1, h2⟩ := hall j (by omega)
      obtain ⟨p, c, xs, e, ha, hw, hc, hbx⟩ := openS h2
      refine ⟨⟨p, c, xs⟩, by rw [h1, e]; rfl, ha, hw, ?_⟩
      have h3 := bulk_mem ((List.range len0).map D) (D j) (List.mem_map.2 ⟨j, List.mem_range.2 hj, rfl⟩)
      simp only at hbx ⊢
      omega
    obtain ⟨y, hy⟩ := Go.Deep.choose_lt each
    refine ⟨some a, cap0, (List.range len0).map y, by simp, ?_, by simp; omega⟩
    by_cases c0 : len0 = 0
    · left; rw [c0]; rfl
    · right
      obtain ⟨b, off, rfl⟩ := spot_at (hy 0 (by omega)).1
      refine ⟨b, off, rfl, fun j l hj => ?_⟩
      have hjl : j < len0 := by
        have := (List.getElem?_eq_some_iff.1 hj).1
        simpa using this
      have hl : l = y j := by
        rw [List.getElem?_map, List.getElem?_range hjl] at hj
        exact (Option.some.inj hj).symm
      subst hl
      have h := hy j hjl
      rw [Go.WideShapes.add_plain] at h
      exact h
set_option maxRecDepth 100000 in
theorem opened2 {H : Type} {enc : TypeId × Value → H} {W : World} {base : Nat} {v : Value} {d : DataW H} {ps : List MemPlace} (hv : Value.okWide Tryd.prog W .any base 23 v) (h : DataW.Trod enc Tryd.prog W 0 (fun _ => true) true 23 v d ps) (hb : Rows.uptoBulk d ≤ 1048576) :
    ∃ p c S st, v = .slice p S c ∧ Stp W p S st ∧ S ≤ 1048576 := by
  obtain ⟨a0, len0, cap0, rfl⟩ := okWide_slice Tryd.underlying23 hv
  obtain ⟨fuel, hf⟩ := h
  have hc4 : Tryd.prog.cellsOf 28 = 4 := by kernel_rfl
  have hc1 : Tryd.prog.cellsOf 3 = 1 := by kernel_rfl
  rcases Go.Deep.open_slice Tryd.underlying23 hf with ⟨hcs, hx⟩ | ⟨a, len, cap, m, n, D, Pl, hcs, _, hl, hm, hmm, hx, hall⟩
  · simp [Value.cells] at hcs
    obtain ⟨rfl, rfl, rfl⟩ := hcs
    exact ⟨none, 0, 0, fun _ _ => 0, rfl, Or.inl rfl, by simp⟩
  · simp [Value.cells] at hcs
    obtain ⟨rfl, rfl, rfl⟩ := hcs
    simp only [if_true] at hmm
    simp only [Prod.mk.injEq] at hx
    obtain ⟨rfl, -⟩ := hx
    simp only [Rows.uptoBulk] at hb
    have hlen : len0 ≤ 1048576 := by
      have h1 := bulk_len ((List.range len0).map D)
      have h2 : ((List.range len0).map D).length = len0 := by simp
      omega
    have each : ∀ j, j < len0 → ∃ z : Nat → Int, ∀ f, f < 4 → W.cell? ((a.add (j * 4)).add f) = some (.int .i64 (z f)) ∧ -9223372036854775808 ≤ z f ∧ z f < 9223372036854775808 := fun j hj => by
      obtain ⟨cs', h1, h2⟩ := hall j (by omega)
      rw [hc4] at h1
      obtain ⟨-, hl4, hcl⟩ := World.cells?_some h1
      obtain ⟨b0, b1, b2, b3, rfl⟩ : ∃ b0 b1 b2 b3, cs' = [b0, b1, b2, b3] := by
        match cs', hl4 with
        | [b0, b1, b2, b3], _ => exact ⟨b0, b1, b2, b3, rfl⟩
      obtain ⟨ys, k, -, -, -, hyl, hfl⟩ := DataW.trod_struct Tryd.underlying28 h2
      match ys, hyl with
      | [y0, y1, y2, y3], _ =>
        have r0 : DataW.trod enc Tryd.prog W 0 (fun _ => true) true k 3 (([b0, b1, b2, b3].drop 0).take (Tryd.prog.cellsOf 3)) = some y0 := hfl 0 _ rfl
        have r1 : DataW.trod enc Tryd.prog W 0 (fun _ => true) true k 3 (([b0, b1, b2, b3].drop 1).take (Tryd.prog.cellsOf 3)) = some y1 := hfl 1 _ rfl
        have r2 : DataW.trod enc Tryd.prog W 0 (fun _ => true) true k 3 (([b0, b1, b2, b3].drop 2).take (Tryd.prog.cellsOf 3)) = some y2 := hfl 2 _ rfl
        have r3 : DataW.trod enc Tryd.prog W 0 (fun _ => true) true k 3 (([b0, b1, b2, b3].drop 3).take (Tryd.prog.cellsOf 3)) = some y3 := hfl 3 _ rfl
        rw [hc1] at r0 r1 r2 r3
        have f0 : DataW.trod enc Tryd.prog W 0 (fun _ => true) true k 3 [b0] = some y0 := r0
        have f1 : DataW.trod enc Tryd.prog W 0 (fun _ => true) true k 3 [b1] = some y1 := r1
        have f2 : DataW.trod enc Tryd.prog W 0 (fun _ => true) true k 3 [b2] = some y2 := r2
        have f3 : DataW.trod enc Tryd.prog W 0 (fun _ => true) true k 3 [b3] = some y3 := r3
        obtain ⟨z0, g0, -, w0⟩ := DataW.trod_int Tryd.underlying3 f0
        obtain ⟨z1, g1, -, w1⟩ := DataW.trod_int Tryd.underlying3 f1
        obtain ⟨z2, g2, -, w2⟩ := DataW.trod_int Tryd.underlying3 f2
        obtain ⟨z3, g3, -, w3⟩ := DataW.trod_int Tryd.underlying3 f3
        simp at g0 g1 g2 g3
        subst g0 g1 g2 g3
        refine ⟨fun f => [z0, z1, z2, z3].getD f 0, fun f hf4 => ?_⟩
        have h5 := hcl f hf4
        match f, hf4 with
        | 0, _ => exact ⟨h5, bnd w0⟩
        | 1, _ => exact ⟨h5, bnd w1⟩
        | 2, _ => exact ⟨h5, bnd w2⟩
        | 3, _ => exact ⟨h5, bnd w3⟩
    obtain ⟨z, hz⟩ := Go.Deep.choose_lt each
    refine ⟨some a, cap0, len0, z, rfl, ?_, hlen⟩
    by_cases c0 : len0 = 0
    · exact Or.inl c0
    · right
      have h0 := (hz 0 (by omega) 0 (by omega)).1
      rw [Nat.zero_mul] at h0
      obtain ⟨b, off, rfl⟩ := spot_at (a := a) (by simpa [Addr.add] using h0)
      refine ⟨b, off, rfl, fun j hj f hf4 => ?_⟩
      have h := hz j hj f hf4
      rw [Go.WideShapes.add_plain, Go.WideShapes.add_plain] at h
      exact h
set_option maxRecDepth 100000 in
theorem contract (H : Type) (enc : TypeId × Value → H) (W : World) (base : Nat) (args : Array Value) (ds gs : List (DataW H)) (before : List MemPlace)
    (hval : ∀ (j : Nat) t v, Tryd.f3.params[j]? = some t → args[j]? = some v → Value.okWide Tryd.prog W .any base t v)
    (hW : DataW.Whole enc Tryd.prog Tryd.f3.params.toList Rows.natPlaysSpec.vars false W args.toList ds gs before) (hL0 : Tab W) (hk : Rows.uptoSmall H (ds ++ gs) = true) :
    Calls Tryd.prog 3 args W fun e W' => ∃ v, e = .returned v ∧ Rows.natPlaysSpec.post enc Tryd.prog Tryd.f3 false true false false W args v W' := by
  have hW' := hW
  obtain ⟨p, q, hA0, hV, rfl, hfz, hnd⟩ := hW
  have hA : DataW.TrodAll enc Tryd.prog W 0 (fun _ => true) true Tryd.f3.params.toList args.toList ds p := hA0
  rw [Tryd.params3] at hA hval
  obtain ⟨v0, vs0, d0, ds0, p0, q0, hargs, rfl, rfl, h0, r0⟩ := trodAll_cons hA
  obtain ⟨v1, vs1, d1, ds1, p1, q1, rfl, rfl, rfl, h1, r1⟩ := trodAll_cons r0
  obtain ⟨rfl, rfl, rfl⟩ := trodAll_nil r1
  obtain rfl : args = #[v0, v1] := by cases args; simp_all
  obtain ⟨rfl, rfl⟩ := trodVars_none hV
  clear hA0
  simp only [List.append_nil] at hW' hk
  have hb : Rows.uptoBulkAll [d0, d1] ≤ 1048576 := of_decide_eq_true hk
  simp only [Rows.uptoBulkAll] at hb
  have hlt : ∀ x ∈ p0 ++ p1, x.block < W.heap.size := fun x hx => by simpa using hW'.lt x (by simpa using hx)
  have ha0 : ∀ (W' : World), Below W.heap.size W W' → DataW.Trod enc Tryd.prog W' 0 (fun b => decide (b < W.heap.size)) true 22 v0 d0 p0 :=
    fun W' hn => Below.trod laidOut (by kernel_rfl) (of_decide_eq_true (by kernel_rfl)) h0 hn (fun x hx => hlt x (List.mem_append_left _ hx))
  have ha1 : ∀ (W' : World), Below W.heap.size W W' → DataW.Trod enc Tryd.prog W' 0 (fun b => decide (b < W.heap.size)) true 23 v1 d1 p1 :=
    fun W' hn => Below.trod laidOut (by kernel_rfl) (of_decide_eq_true (by kernel_rfl)) h1 hn (fun x hx => hlt x (List.mem_append_right _ hx))
  obtain ⟨pf, cf, fs, rfl, hf, lf⟩ := opened1 (hval 0 22 v0 rfl rfl) h0 (by omega)
  obtain ⟨ps, cs, S, st, rfl, hs, lS⟩ := opened2 (hval 1 23 v1 rfl rfl) h1 (by omega)
  refine (plays_ pf ps cf cs S fs st W hL0 hf hs lf lS).mono fun e W' ⟨he, hnx⟩ => ?_
  subst he
  refine ⟨_, rfl, _, _, _, [], _, [], hW', ?_, trodAll_cons_mk (ha0 _ hnx) (trodAll_cons_mk (ha1 _ hnx) trodAll_mk0), rfl, Below.frame hnx _, fun h => by cases h⟩
  exact trodAll_cons_mk (shut_bool Tryd.underlying4 _) trodAll_mk0
set_option maxRecDepth 100000 in
theorem laid_met (os : Os) : laidMet Tryd.prog Rows.natPlaysUptoRow.laid ((World.doorLaid Tryd.prog 14 os).forCall (fun _ _ => 0) ⟨#[], #[.slice none 0 0, .slice none 0 0], []⟩).memory :=
  laidMet_of_run' 8 (by kernel_rfl) (by kernel_rfl)
set_option maxRecDepth 100000 in
theorem reads (os : Os) {H : Type} (enc : TypeId × Value → H) : ∃ places, DataW.whole enc Tryd.prog ((World.doorLaid Tryd.prog 14 os).forCall (fun _ _ => 0) ⟨#[], #[.slice none 0 0, .slice none 0 0], []⟩).memory Tryd.f3.params.toList Rows.natPlaysSpec.vars false #[Value.slice none 0 0, .slice none 0 0].toList 8 = some ([.nil, .nil], [], places) :=
  ⟨[], by kernel_rfl⟩
set_option maxRecDepth 100000 in
theorem liftedUpto (os : Os) (started : os.Started) (H : Type) (enc : TypeId × Value → H) (F : Stop.Interp) :
    ReturnsInHanded {} Tryd.checked os 3 .any ((Rows.OpenSpec.upto Rows.natPlaysSpec).preRow enc Tryd.prog Tryd.f3 Rows.natPlaysUptoRow.domain false Rows.natPlaysUptoRow.laid) (((Rows.OpenSpec.upto Rows.natPlaysSpec).at F).post enc Tryd.prog Tryd.f3 false true false false) := by
  obtain ⟨places, hx⟩ := reads os enc
  refine returnsInHanded_of_row (C := Tryd.checked) (s := Rows.OpenSpec.upto Rows.natPlaysSpec) own started (by kernel_rfl) Tryd.func3
    (witness_row_atRef (enc := enc) (C := Tryd.checked) false (World.doorLaid Tryd.prog 14 os) #[.slice none 0 0, .slice none 0 0] rfl (by kernel_rfl) (by kernel_rfl) (by kernel_rfl)
      (OpenSpec.preRow_of_cond 8 hx (by kernel_rfl) (fun k hk => by cases hk; kernel_rfl) (by kernel_rfl) (laid_met os))) ?_
  intro W base args ds gs before hval hW c1 c2 c3 hl _ _
  first | exact contract H enc W base args ds gs before hval hW (tab_of_laid0 hl) (c1 _ rfl) | exact contract H enc W base args ds gs before hval hW (tab_of_laid0 hl) (c2 _ rfl) | exact contract H enc W base args ds gs before hval hW (tab_of_laid0 hl) (c3 _ rfl)
set_option maxRecDepth 100000 in
theorem saidUpto : Rows.NatPlaysUptoSaid :=
  OpenClaim.holds_of_cond 3 Tryd.f3 rfl rfl rfl rfl rfl rfl rfl ⟨rfl, rfl, rfl, rfl, rfl⟩ rfl rfl rfl rfl rfl (by kernel_rfl) Tryd.func3 (by kernel_rfl)
    (of_decide_eq_true (by kernel_rfl)) (by unfold Func.isWrapper; first | (rw [if_pos (by decide +kernel)]; kernel_rfl) | (rw [if_neg (by decide +kernel)]; exact ⟨rfl, rfl⟩))
    (fun os started H enc _ F => by rw [OpenClaim.pre_eq_preRow]; exact liftedUpto os started H enc F)
set_option maxRecDepth 100000 in
theorem plain (f : FuncId) (fn : Func) (hf : Tryd.pinned.checked.prog.funcNamed "verge/vergelaw2.NatPlays" = some f) (hfn : Tryd.pinned.checked.prog.funcs[f]? = some fn) :
    false = Tryd.pinned.checked.prog.looks [] ∧ ∀ (j : Nat) t, fn.params[j]? = some t → Tryd.pinned.checked.prog.wantsStandIn t = false := by
  obtain rfl : f = 3 := Option.some.inj ((show Tryd.prog.funcNamed "verge/vergelaw2.NatPlays" = some 3 by kernel_rfl).symm.trans hf) |>.symm
  obtain rfl : fn = Tryd.f3 := (Option.some.inj (Tryd.func3.symm.trans hfn)).symm
  refine ⟨by kernel_rfl, fun j t ht => ?_⟩
  rw [Tryd.params3] at ht
  have h : t = 22 ∨ t = 23 := by simpa using Array.mem_of_getElem? ht
  rcases h with rfl | rfl
  · exact (show Tryd.prog.wantsStandIn 22 = false by kernel_rfl)
  · exact (show Tryd.prog.wantsStandIn 23 = false by kernel_rfl)
end natPlays
set_option maxRecDepth 100000 in
theorem natPlays_holds : Rows.NatPlaysUptoCardSaid :=
  Claim7.holds_tied_plain_at .later [] _ _ _ _ natPlays.saidUpto (fun _ h => by cases h) (by kernel_rfl) (fun _ h => by cases h) natPlaysUpto_row_tie rfl ⟨rfl, rfl⟩ (by kernel_rfl) rfl natPlays.plain (by kernel_rfl)
end Go.Proofs.YtjblehmafjcncaaDoor
