import Derived.Test.YtjblehmafjcncaaDoorKXA0
import Derived.Test.YtjblehmafjcncaaDoorKXM
import Derived.Test.YtjblehmafjcncaaDoorKXT
import Derived.Test.YtjblehmafjcncaaDoorKHB
import Derived.Test.YtjblehmafjcncaaDoorKXTZ
import Derived.Test.YtjblehmafjcncaaDoorKRC
import Derived.Test.YtjblehmafjcncaaDoorKNC
import Derived.Test.YtjblehmafjcncaaDoorKLN
import Derived.Test.YtjblehmafjcncaaDoorKW4
import Derived.Test.YtjblehmafjcncaaDoorKNSm
import Derived.Test.YtjblehmafjcncaaDoorKHB2
import Derived.Test.YtjblehmafjcncaaDoorKYAK
import Derived.Test.YtjblehmafjcncaaDoorKXQQ
import Derived.Test.YtjblehmafjcncaaDoorKXYP
import Derived.Test.YtjblehmafjcncaaDoorKXNM
import Derived.Test.YtjblehmafjcncaaDoorKXRMU
import Derived.Test.YtjblehmafjcncaaDoorKBW
import Derived.Test.YtjblehmafjcncaaDoorKXRO2
import Derived.Test.YtjblehmafjcncaaDoorKXYB
import Derived.Test.YtjblehmafjcncaaDoorKXS
import Derived.Test.YtjblehmafjcncaaDoorKLS
import Derived.Test.YtjblehmafjcncaaDoorKXA
import Derived.Test.YtjblehmafjcncaaDoorKXYN
import Derived.WalkKit
import Derived.ProofKit
import Derived.RowKit3
import Derived.WalkSpells
import Derived.StillTactics
import Derived.Deep.QuietTactic
import Derived.BigQuiet
import Derived.Below
import Derived.Deep.OwnRows
import Derived.OwnWalk
import Derived.Deep.RegionWith
import Derived.Deep.RegionHeld3
import Derived.Deep.DeepCutAuto
import Derived.Deep.CutBlock
namespace Go.Proofs.YtjblehmafjcncaaDoor
open Go.RowKit
set_option maxRecDepth 20000 in
set_option maxHeartbeats 2000000 in
theorem plays_ (pf ps : Option Addr) (cf cs S : Nat) (fs : List Lst) (st : Nat → Nat → Int) (w : World) (hT : Tab w) (hf : Fst w pf fs) (hs : Stp w ps S st) (lf0 : fs.length ≤ 1048576) (lS : S ≤ 1048576) :
    Calls Tryd.prog 3 #[.slice pf fs.length cf, .slice ps S cs] w fun e w' => e = .returned (.bool true) ∧ Kp w w' := by
  obtain ⟨k0, hk0, hk1, hk2, hk3⟩ : ∃ k0, Tryd.prog.info? 24 = some k0 ∧ k0.zero = some (.slice none 0 0) ∧ k0.size = 1 ∧ k0.bytes = 24 := ⟨_, rfl, rfl, rfl, rfl⟩
  obtain ⟨NF, hNF⟩ : ∃ NF, NF = fs.length := ⟨_, rfl⟩
  have lf : NF ≤ 1048576 := by omega
  rw [← hNF]
  have HF : Hid (NF = fs.length ∧ Fst w pf fs ∧ Stp w ps S st ∧ Tab w) := ⟨hNF, hf, hs, hT⟩
  clear hNF hf hs hT
  go_enter Tryd.func3, Tryd.ntmps3
  go_wp2
  go_loopw [5, 6, 7] (fun s5 s6 s7 wr => ∃ (i cp cq : Nat) (p q : Option Addr) (ls ms : List Lst), s5 = .slice p i cp ∧ s6 = .slice q i cq ∧ s7 = .int .i64 (i : Int) ∧ i ≤ 8 ∧ PSt w wr p i cp ls q i cq ms ∧ ls.map Lst.xs = ms.map Lst.xs) (fun _ _ i _ => 8 - (intOf i).toNat)
  case atStart =>
    exact ⟨0, 0, 0, none, none, [], [], rfl, rfl, rfl, by omega, ⟨Kp.refl _, ⟨rfl, Or.inl ⟨rfl, rfl, rfl⟩⟩, ⟨rfl, Or.inl ⟨rfl, rfl, rfl⟩⟩, (fun g h => by cases h), (fun g h => by cases h), (fun g h => by cases h), (fun l h => by cases h), (fun l h => by cases h)⟩, rfl⟩
  case round =>
    obtain ⟨i, cp, cq, p, q, ls, ms, rfl, rfl, rfl, hi, hst, hxs⟩ := hrel
    by_cases ci : i < 8
    · have t0 : (i : Int) < 8 := by omega
      -- the list that is taken
      have hrest : ∀ (lp : Option Addr) (lc : Nat) (X : List Int) (w1 : World), Kp wr w1 → Arr w1 lp X → Wd X → X.length ≤ 1048576 → True := fun _ _ _ _ _ _ _ _ => trivial
      clear hrest
      by_cases cf1 : i < NF
      · have t1 : (i : Int) < (NF : Int) := by omega
        obtain ⟨bf, off, rfl, hcell⟩ : ∃ b off, pf = some ⟨b, off, none⟩ ∧ ∀ j l, fs[j]? = some l → w.cell? ⟨b, off + j, none⟩ = some l.v ∧ Arr w l.p l.xs ∧ Wd l.xs ∧ l.xs.length ≤ 1048576 := by
          rcases HF.out.2.1 with h | h
          · have := HF.out.1; rw [h] at this; simp at this; omega
          · exact h
        have hlt : i < fs.length := by rw [← HF.out.1]; exact cf1
        obtain ⟨e1, ar, wd, ln⟩ := hcell i (fs[i]) (List.getElem?_eq_getElem hlt)
        obtain ⟨l0, hl0⟩ : ∃ l0, l0 = fs[i] := ⟨_, rfl⟩
        rw [← hl0] at e1 ar wd ln
        replace e1 := kkeep hst.k e1
        unfold Lst.v at e1
        have h1 := short9_ l0.p l0.c 200 l0.xs wr (ar.grown hst.k) ln
        obtain ⟨L0, hL0⟩ : ∃ L0, L0 = l0.xs.length := ⟨_, rfl⟩
        rw [← hL0] at e1 h1
        have HW : Hid (Wd l0.xs ∧ l0.xs.length ≤ 1048576 ∧ PSt w wr p i cp ls q i cq ms ∧ ls.map Lst.xs = ms.map Lst.xs) := ⟨wd, ln, hst, hxs⟩
        clear hcell hl0 hL0 hlt ar wd ln hst hxs
        go_wp2_with fail
        refine h1.mono ?_; rintro e w1 ⟨gl, lc, rfl, hgl, ha, hlc, k1⟩
        obtain ⟨X, hX⟩ : ∃ X, X = l0.xs.take 200 := ⟨_, rfl⟩
        rw [← hX] at ha hlc ⊢
        have hwX : Wd X := by rw [hX]; exact wd_take9 HW.out.1 _
        have hlX : X.length ≤ 1048576 := by rw [hX, List.length_take]; omega
        have hst : PSt w w1 p i cp ls q i cq ms := HW.out.2.2.1.grown k1
        have hxs := HW.out.2.2.2
        have tl : TwoL p q w1 ⟨some ⟨gl, 0, none⟩, lc, X⟩ := TwoL.of ha hwX hlX hlc (fun b off e => by cases e; exact hgl) HW.out.2.2.1.r1.lt HW.out.2.2.1.r2.lt
        clear h1 e1 HW hX hlc hgl ha k1
        obtain ⟨LX, hLX⟩ : ∃ LX, LX = X.length := ⟨_, rfl⟩
        have HX : Hid (LX = X.length) := hLX
        rw [← hLX]
        clear hLX hwX hlX
        have q1 := copied_ (some ⟨gl, 0, none⟩) lc X w1 tl.arr (by have := tl.2.1; simp only at this; omega)
        have q2 : Calls Tryd.prog 5 #[.slice (some ⟨gl, 0, none⟩) LX lc] w1 fun e w' => ∃ g, e = .returned (.slice (some ⟨g, 0, none⟩) LX LX) ∧ w1.heap.size ≤ g ∧ Rw w' g LX X ∧ Kp w1 w' := by rw [HX.out]; exact q1
        clear q1
        go_wp2_with fail
        refine q2.mono ?_; rintro e w2 ⟨g2, rfl, hg2, rg2, k2⟩
        have hstb := hst.grown k2
        have tw : TwoL p q w2 ⟨some ⟨g2, 0, none⟩, LX, X⟩ := by have h9 := rg2; have h8 := tl.2.1; have h7 := tl.1; simp only at h8 h7; rw [HX.out] at h9 ⊢; exact Ls.two h9 h7 h8 hg2 hst.r1.lt hst.r2.lt
        have hv : Lst.v ⟨some ⟨g2, 0, none⟩, LX, X⟩ = .slice (some ⟨g2, 0, none⟩) LX LX := by unfold Lst.v; simp only; rw [← HX.out]
        have kal := (Kp.refl w2).alloc (.cells (List.replicate 1 (Value.slice (some ⟨g2, 0, none⟩) LX LX)).toArray 24)
        have hstc := hstb.grown kal
        have tl2 := (tl.grown k2).grown kal
        have tw2 := tw.grown kal
        have hsp := hstc.r1
        clear q2 hst hstb tw tl rg2 hg2 k2 kal
        go_wp2_with (first | (at_builtin; refine wpList_app _ rfl (.tmp 30) (.tmp 33) 22 rfl 24 k0 (.slice none 0 0) 24 Tryd.underlying22 hk0 hk1 hk2 hk3 rfl p i cp (ls.map Lst.v) rfl hsp.1 hsp.2 ⟨w2.heap.size, 0, none⟩ 1 1 (List.replicate 1 (.slice (some ⟨g2, 0, none⟩) LX LX)) rfl (by decide) rfl (rep_cell w2 (.slice (some ⟨g2, 0, none⟩) LX LX) 24 1) (rep_ok _ 1 rfl) (by unfold maxLen; omega) (by omega) ?_))
        intro g3 c3 w3 hle f9 hf9 hfv9 hor9
        have hst3 := hstc.push1 tw2 hle ⟨f9, hf9, by rw [hv]; exact hfv9⟩ (by rw [hv]; simpa using hor9)
        have tl : TwoL (some ⟨g3, 0, none⟩) q w3 ⟨(some ⟨gl, 0, none⟩), lc, X⟩ := hstc.push1l tw2 tl2 (by rw [hv]; simpa using hor9)
        clear hstc hsp tw2 tl2 hf9 hfv9 hor9 hv
        have hst4 := hst3.swap
        replace tl := tl.swap
        clear hst3
        have q1 := copied_ (some ⟨gl, 0, none⟩) lc X w3 tl.arr (by have := tl.2.1; simp only at this; omega)
        have q2 : Calls Tryd.prog 5 #[.slice (some ⟨gl, 0, none⟩) LX lc] w3 fun e w' => ∃ g, e = .returned (.slice (some ⟨g, 0, none⟩) LX LX) ∧ w3.heap.size ≤ g ∧ Rw w' g LX X ∧ Kp w3 w' := by rw [HX.out]; exact q1
        clear q1
        go_wp2_with fail
        refine q2.mono ?_; rintro e w4 ⟨g4, rfl, hg2, rg2, k2⟩
        have hst4b := hst4.grown k2
        have tw : TwoL q (some ⟨g3, 0, none⟩) w4 ⟨some ⟨g4, 0, none⟩, LX, X⟩ := by have h9 := rg2; have h8 := tl.2.1; have h7 := tl.1; simp only at h8 h7; rw [HX.out] at h9 ⊢; exact Ls.two h9 h7 h8 hg2 hst4.r1.lt hst4.r2.lt
        have hv : Lst.v ⟨some ⟨g4, 0, none⟩, LX, X⟩ = .slice (some ⟨g4, 0, none⟩) LX LX := by unfold Lst.v; simp only; rw [← HX.out]
        have kal := (Kp.refl w4).alloc (.cells (List.replicate 1 (Value.slice (some ⟨g4, 0, none⟩) LX LX)).toArray 24)
        have hst4c := hst4b.grown kal
        have tl2 := (tl.grown k2).grown kal
        have tw2 := tw.grown kal
        have hsp := hst4c.r1
        clear q2 hst4 hst4b tw tl rg2 hg2 k2 kal
        go_wp2_with (first | (at_builtin; refine wpList_app _ rfl (.tmp 35) (.tmp 38) 22 rfl 24 k0 (.slice none 0 0) 24 Tryd.underlying22 hk0 hk1 hk2 hk3 rfl q i cq (ms.map Lst.v) rfl hsp.1 hsp.2 ⟨w4.heap.size, 0, none⟩ 1 1 (List.replicate 1 (.slice (some ⟨g4, 0, none⟩) LX LX)) rfl (by decide) rfl (rep_cell w4 (.slice (some ⟨g4, 0, none⟩) LX LX) 24 1) (rep_ok _ 1 rfl) (by unfold maxLen; omega) (by omega) ?_))
        intro g5 c5 w5 hle f9 hf9 hfv9 hor9
        have hst5 := hst4c.push1 tw2 hle ⟨f9, hf9, by rw [hv]; exact hfv9⟩ (by rw [hv]; simpa using hor9)
        have tl : TwoL (some ⟨g5, 0, none⟩) (some ⟨g3, 0, none⟩) w5 ⟨(some ⟨gl, 0, none⟩), lc, X⟩ := hst4c.push1l tw2 tl2 (by rw [hv]; simpa using hor9)
        clear hst4c hsp tw2 tl2 hf9 hfv9 hor9 hv
        have hst6 := hst5.swap
        clear hst5 tl
        go_wp2
        exact ⟨⟨i + 1, c3, c5, some ⟨g3, 0, none⟩, some ⟨g5, 0, none⟩, ls ++ [⟨some ⟨g2, 0, none⟩, LX, X⟩], ms ++ [⟨some ⟨g4, 0, none⟩, LX, X⟩], rfl, rfl, by go_num, by omega, hst6, by rw [List.map_append, List.map_append, hxs]; rfl⟩, by simp [intOf]; omega⟩
      · have t1 : ¬ ((i : Int) < (NF : Int)) := by omega
        have tl : TwoL p q wr ⟨none, 0, []⟩ := ⟨Wd.nil, by simp, by simp, Or.inl rfl⟩
        have q1 := copied_ none 0 [] wr (Or.inl rfl) (by simp)
        have q2 : Calls Tryd.prog 5 #[.slice none 0 0] wr fun e w' => ∃ g, e = .returned (.slice (some ⟨g, 0, none⟩) 0 0) ∧ wr.heap.size ≤ g ∧ Rw w' g 0 [] ∧ Kp wr w' := q1
        clear q1
        go_wp2_with fail
        refine q2.mono ?_; rintro e w2 ⟨g2, rfl, hg2, rg2, k2⟩
        have hstb := hst.grown k2
        have tw : TwoL p q w2 ⟨some ⟨g2, 0, none⟩, 0, []⟩ := Ls.two (xs := []) rg2 Wd.nil (by simp) hg2 hst.r1.lt hst.r2.lt
        have hv : Lst.v ⟨some ⟨g2, 0, none⟩, 0, []⟩ = .slice (some ⟨g2, 0, none⟩) 0 0 := rfl
        have kal := (Kp.refl w2).alloc (.cells (List.replicate 1 (Value.slice (some ⟨g2, 0, none⟩) 0 0)).toArray 24)
        have hstc := hstb.grown kal
        have tl2 := (tl.grown k2).grown kal
        have tw2 := tw.grown kal
        have hsp := hstc.r1
        clear q2 hst hstb tw tl rg2 hg2 k2 kal
        go_wp2_with (first | (at_builtin; refine wpList_app _ rfl (.tmp 30) (.tmp 33) 22 rfl 24 k0 (.slice none 0 0) 24 Tryd.underlying22 hk0 hk1 hk2 hk3 rfl p i cp (ls.map Lst.v) rfl hsp.1 hsp.2 ⟨w2.heap.size, 0, none⟩ 1 1 (List.replicate 1 (.slice (some ⟨g2, 0, none⟩) 0 0)) rfl (by decide) rfl (rep_cell w2 (.slice (some ⟨g2, 0, none⟩) 0 0) 24 1) (rep_ok _ 1 rfl) (by unfold maxLen; omega) (by omega) ?_))
        intro g3 c3 w3 hle f9 hf9 hfv9 hor9
        have hst3 := hstc.push1 tw2 hle ⟨f9, hf9, by rw [hv]; exact hfv9⟩ (by rw [hv]; simpa using hor9)
        have tl : TwoL (some ⟨g3, 0, none⟩) q w3 ⟨none, 0, []⟩ := hstc.push1l tw2 tl2 (by rw [hv]; simpa using hor9)
        clear hstc hsp tw2 tl2 hf9 hfv9 hor9 hv
        have hst4 := hst3.swap
        replace tl := tl.swap
        clear hst3
        have q1 := copied_ none 0 [] w3 (Or.inl rfl) (by simp)
        have q2 : Calls Tryd.prog 5 #[.slice none 0 0] w3 fun e w' => ∃ g, e = .returned (.slice (some ⟨g, 0, none⟩) 0 0) ∧ w3.heap.size ≤ g ∧ Rw w' g 0 [] ∧ Kp w3 w' := q1
        clear q1
        go_wp2_with fail
        refine q2.mono ?_; rintro e w4 ⟨g4, rfl, hg2, rg2, k2⟩
        have hst4b := hst4.grown k2
        have tw : TwoL q (some ⟨g3, 0, none⟩) w4 ⟨some ⟨g4, 0, none⟩, 0, []⟩ := Ls.two (xs := []) rg2 Wd.nil (by simp) hg2 hst4.r1.lt hst4.r2.lt
        have hv : Lst.v ⟨some ⟨g4, 0, none⟩, 0, []⟩ = .slice (some ⟨g4, 0, none⟩) 0 0 := rfl
        have kal := (Kp.refl w4).alloc (.cells (List.replicate 1 (Value.slice (some ⟨g4, 0, none⟩) 0 0)).toArray 24)
        have hst4c := hst4b.grown kal
        have tl2 := (tl.grown k2).grown kal
        have tw2 := tw.grown kal
        have hsp := hst4c.r1
        clear q2 hst4 hst4b tw tl rg2 hg2 k2 kal
        go_wp2_with (first | (at_builtin; refine wpList_app _ rfl (.tmp 35) (.tmp 38) 22 rfl 24 k0 (.slice none 0 0) 24 Tryd.underlying22 hk0 hk1 hk2 hk3 rfl q i cq (ms.map Lst.v) rfl hsp.1 hsp.2 ⟨w4.heap.size, 0, none⟩ 1 1 (List.replicate 1 (.slice (some ⟨g4, 0, none⟩) 0 0)) rfl (by decide) rfl (rep_cell w4 (.slice (some ⟨g4, 0, none⟩) 0 0) 24 1) (rep_ok _ 1 rfl) (by unfold maxLen; omega) (by omega) ?_))
        intro g5 c5 w5 hle f9 hf9 hfv9 hor9
        have hst5 := hst4c.push1 tw2 hle ⟨f9, hf9, by rw [hv]; exact hfv9⟩ (by rw [hv]; simpa using hor9)
        have tl : TwoL (some ⟨g5, 0, none⟩) (some ⟨g3, 0, none⟩) w5 ⟨none, 0, []⟩ := hst4c.push1l tw2 tl2 (by rw [hv]; simpa using hor9)
        clear hst4c hsp tw2 tl2 hf9 hfv9 hor9 hv
        have hst6 := hst5.swap
        clear hst5 tl
        go_wp2
        exact ⟨⟨i + 1, c3, c5, some ⟨g3, 0, none⟩, some ⟨g5, 0, none⟩, ls ++ [⟨some ⟨g2, 0, none⟩, 0, []⟩], ms ++ [⟨some ⟨g4, 0, none⟩, 0, []⟩], rfl, rfl, by go_num, by omega, hst6, by rw [List.map_append, List.map_append, hxs]; rfl⟩, by simp [intOf]; omega⟩
    · have hi8 : i = 8 := by omega
      subst hi8
      have t0 : ¬ (((8 : Nat) : Int) < 8) := by omega
      have t0' : ¬ ((8 : Int) < 8) := by omega
      clear ci hi
      obtain ⟨e8, he8⟩ : ∃ e8 : Nat, e8 = 8 := ⟨_, rfl⟩
      have HS : Hid (PSt w wr p 8 cp ls q 8 cq ms ∧ ls.map Lst.xs = ms.map Lst.xs) := ⟨hst, hxs⟩
      clear hst hxs he8
      go_wp2
      go_loopw [9] (fun s9 wr => ∃ (i : Nat) (ls ms : List Lst), s9 = .int .i64 (i : Int) ∧ i ≤ S ∧ PSt w wr p 8 cp ls q 8 cq ms ∧ ls.map Lst.xs = ms.map Lst.xs) (fun i _ => S - (intOf i).toNat)
      case atStart => exact ⟨0, ls, ms, rfl, by omega, HS.out.1, HS.out.2⟩
      case round =>
        clear HS
        obtain ⟨i, ls, ms, rfl, hi, hst, hxs⟩ := hrel
        by_cases ci : i < S ∧ i < 200
        · obtain ⟨c1, c2⟩ := ci
          have t1 : (i : Int) < (S : Int) := by omega
          have t2 : (i : Int) < 200 := by omega
          obtain ⟨bs, off, rfl, hcell⟩ : ∃ b off, ps = some ⟨b, off, none⟩ ∧ ∀ j, j < S → ∀ f, f < 4 → w.cell? ⟨b, off + j * 4 + f, none⟩ = some (.int .i64 (st j f)) ∧ -9223372036854775808 ≤ st j f ∧ st j f < 9223372036854775808 := by
            rcases HF.out.2.2.1 with h | h
            · omega
            · exact h
          obtain ⟨e0, b0⟩ := hcell i c1 0 (by omega)
          obtain ⟨e1, b1⟩ := hcell i c1 1 (by omega)
          obtain ⟨e2, b2⟩ := hcell i c1 2 (by omega)
          obtain ⟨e3, b3⟩ := hcell i c1 3 (by omega)
          rw [Nat.add_zero] at e0
          replace e0 := kkeep hst.k e0
          replace e1 := kkeep hst.k e1
          replace e2 := kkeep hst.k e2
          replace e3 := kkeep hst.k e3
          obtain ⟨z0, hz0⟩ : ∃ z, z = st i 0 := ⟨_, rfl⟩
          obtain ⟨z1, hz1⟩ : ∃ z, z = st i 1 := ⟨_, rfl⟩
          obtain ⟨z2, hz2⟩ : ∃ z, z = st i 2 := ⟨_, rfl⟩
          obtain ⟨z3, hz3⟩ : ∃ z, z = st i 3 := ⟨_, rfl⟩
          rw [← hz0] at e0
          rw [← hz1] at e1
          rw [← hz2] at e2
          rw [← hz3] at e3 b3
          have HI : Hid (i < S ∧ PSt w wr p 8 cp ls q 8 cq ms ∧ ls.map Lst.xs = ms.map Lst.xs ∧ Tab wr ∧ -9223372036854775808 ≤ z3 ∧ z3 < 9223372036854775808) := ⟨c1, hst, hxs, HF.out.2.2.2.grown hst.k, b3.1, b3.2⟩
          have hi9 : i ≤ 1048576 := by omega
          have HC : Hid (i < S) := c1
          clear hcell b0 b1 b2 b3 hz0 hz1 hz2 hz3 hst hxs hi c1 c2
          go_upto_block 3 with fail
          refine wp_block ?_
          refine plA w wr _ i S cs bs off cp cq p q z0 z1 z2 z3 ls ms HI e0 e1 e2 e3 t1 hi9 lS _ _ _ _ _ _ _ _ _ _ _ _ _ _ _ _ _ _ _ _ _ _ _ _ _ _ _ _ _ _ _ _ _ _ _ _ _ _ _ _ _ _ _ _ _ _ _ _ _ _ _ _ _ _ _ _ _ _ _ _ _ _ _ _ _ _ _ _ _ _ _ _ _ _ _ _ _ _ _ _ _ _ _ _ _ _ _ _ _ _ _ _ _ _ _ _ _ _ _ _ _ _ _ _ _ _ _ _ _ _ _ _ _ _ _ _ _ _ _ _ _ _ _ _ _ _ _ _ _ _ _ _ _ _ _ _ _ _ _ _ _ _ _ _ _ _ _ _ _ _ _ _ _ _ _ _ _ _ _ _ _ _ _ _ _ _ _ _ _ _ _ _ _ _ _ _ _ _ _ _ _ _ _ _ _ _ _ _ _ _ _ _ _ _ _ _ _ _ _ _ _ _ _ _ _ _ _ ?_
          intro v4 v10 v11 v12 v13 v14 v15 v16 v50 v51 v52 v53 v54 v55 v56 v57 v58 v59 v60 v61 v62 v63 v64 v65 v66 v67 v68 v69 v70 v71 v72 v73 v74 v75 v76 v77 v78 v79 v80 v81 v82 v83 v84 v85 v86 v87 v88 v89 v90 v91 v92 v93 v94 v95 v96 v97 v98 v99 v100 v101 v102 v103 v104 v105 v106 v107 v108 v109 v110 v111 v112 v113 v114 v115 v116 v117 v118 v119 v120 v121 v122 v123 v124 v125 v126 v127 v128 v129 v130 v131 v132 v133 v134 v135 v136 v137 v138 v139 v140 v141 v142 v143 v144 v145 v146 v147 v148 v149 v150 v151 v152 v153 v154 v155 v156 v157 v158 v159 v160 v161 v162 v163 v164 v165 v166 v167 v168 v169 v170 v171 v172 v173 v174 v175 v176 v177 v178 v179 v180 v181 v182 v183 v184 v185 v186 v187 v188 v189 v190 v191 v192 v193 v194 v195 v196 v197 v198 v199 v200 v201 v202 v203 v204 v205 v206 v207 v208 v209 w' ls' ms' h1 h2
          have HZ : Hid (PSt w w' p 8 cp ls' q 8 cq ms' ∧ ls'.map Lst.xs = ms'.map Lst.xs) := ⟨h1, h2⟩
          clear h1 h2 HI e0 e1 e2 e3
          go_wp2
          exact ⟨⟨i + 1, ls', ms', by go_num, by have := HC.out; omega, HZ.out.1, HZ.out.2⟩, by have := HC.out; simp [intOf]; omega⟩
        · have hli := lives_ wr
          have hk9 := hst.k
          by_cases c1 : i < S
          · have t1 : (i : Int) < (S : Int) := by omega
            have t2 : ¬ ((i : Int) < 200) := by omega
            clear HF hst hxs hi ci c1
            go_wp2_with fail
            refine hli.mono ?_; rintro e w9 ⟨rfl, k9⟩
            have hk := hk9.trans k9
            clear hli hk9 k9
            go_wp2
            exact bodyPost_ret (v := .bool true) (by simp [results, Tryd.results3, go_sem]) rfl ⟨rfl, hk⟩
          · have t1 : ¬ ((i : Int) < (S : Int)) := by omega
            clear HF hst hxs hi ci c1
            go_wp2_with fail
            refine hli.mono ?_; rintro e w9 ⟨rfl, k9⟩
            have hk := hk9.trans k9
            clear hli hk9 k9
            go_wp2
            exact bodyPost_ret (v := .bool true) (by simp [results, Tryd.results3, go_sem]) rfl ⟨rfl, hk⟩
end Go.Proofs.YtjblehmafjcncaaDoor
