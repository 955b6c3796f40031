import Derived.Test.YtkjcnnjgaififaaDoorProg
import Derived.Test.YtkjcnnjgaififaaDoorKA
import Derived.Test.YtkjcnnjgaififaaDoorKA2
import Derived.Test.YtkjcnnjgaififaaDoorKA3
import Derived.Test.YtkjcnnjgaififaaDoorKA4
import Derived.Test.YtkjcnnjgaififaaDoorKA5
import Derived.Test.YtkjcnnjgaififaaDoorKXA
import Derived.Test.YtkjcnnjgaififaaDoorKXM
import Derived.Test.YtkjcnnjgaififaaDoorKXS
import Derived.WalkKit
import Derived.ProofKit
import Derived.RowKit3
import Derived.WalkSpells
import Derived.StillTactics
import Derived.Deep.QuietTactic
import Derived.BigQuiet
import Derived.Below
import Derived.Deep.OwnRows
import Derived.OwnWalk
namespace Go.Proofs.YtkjcnnjgaififaaDoor
open Go.RowKit

def Fits (wr : World) (m : Int) (p : Option Addr) (N : Nat) (M : Int) : Prop := Arr wr p (List.replicate N m) ∧ N ≤ 1099511627776 ∧ M = (N : Int)
set_option maxRecDepth 20000 in
set_option maxHeartbeats 2000000 in
theorem apart_ (B0 T : Nat) (P : Nat → Option Addr) (n c : Nat → Nat) (w : World) (hL : Lists w B0 T P n c) :
    Calls Tryd.prog 46 #[.slice (some ⟨B0, 0, none⟩) T T] w fun e w' => e = .returned (.bool true) ∧ Ks w.heap.size (Lists.X T P) w w' := by
  have HL : Hid (Lists w B0 T P n c) := hL
  have hT := hL.few
  have h0 := hL.start
  clear hL
  go_enter Tryd.func46, Tryd.ntmps46
  go_wp2
  go_loopw [3] (fun a wr => ∃ (i : Nat) (R : List Mrk), a = .int .i64 i ∧ i ≤ T ∧ Lv w wr T P c R ∧ (∀ t g, t < i → P t = some ⟨g, 0, none⟩ → (g, c t, n t, 1000 + (t : Int)) ∈ R)) (fun a _ => T - (intOf a).toNat)
  case atStart => exact ⟨0, _, rfl, Nat.zero_le _, h0, fun t g h => by omega⟩
  case round =>
    clear h0
    obtain ⟨i, R, rfl, hi, hv, hm⟩ := hrel
    by_cases ci : i < T
    · have i1 : (i : Int) < (T : Int) := by omega
      have HM : Hid (∀ t g, t < i → P t = some ⟨g, 0, none⟩ → (g, c t, n t, 1000 + (t : Int)) ∈ R) := hm
      have hln := HL.out.len i ci
      have hin : ∃ f, (∀ g, P i = some ⟨g, 0, none⟩ → wr.rowIs g 25 (c i) f) := by
        rcases HL.out.elt i ci with ⟨h1, _, _⟩ | ⟨g, h1, _⟩
        · exact ⟨fun _ => undef, fun g hg => by rw [h1] at hg; cases hg⟩
        · obtain ⟨f, hf, _⟩ := hv.inv.1 _ _ _ _ (hv.all i g ci h1)
          exact ⟨f, fun g' hg' => by rw [h1] at hg'; cases hg'; exact hf⟩
      clear hm
      go_wp2
      go_loopw [4] (fun a wq => ∃ j : Nat, a = .int .i64 j ∧ j ≤ n i ∧ Lv w wq T P c R ∧ ∃ f, ∀ g, P i = some ⟨g, 0, none⟩ → wq.rowIs g 25 (c i) f ∧ ∀ x, x < j → f x = .int .u32 (1000 + (i : Int))) (fun a _ => n i - (intOf a).toNat)
      case atStart =>
        obtain ⟨f, hf⟩ := hin
        exact ⟨0, rfl, Nat.zero_le _, hv, f, fun g hg => ⟨hf g hg, fun x hx => by omega⟩⟩
      case round =>
        clear hin hv
        obtain ⟨j, rfl, hj, hv, f, hf⟩ := hrel
        have eB := (HL.out.b0 hv.ks).cell ci
        by_cases cj : j < n i
        · rcases HL.out.elt i ci with ⟨_, h2, _⟩ | ⟨g, hP, hnc, hne, _⟩
          · omega
          · obtain ⟨hr, hx⟩ := hf g hP
            have e1 := hr.cell (i := j) (by omega)
            have e2 := hr.frozen j
            have hv2 := hv.write ci hP j
            have hr2 := hr.set j (.int .u32 (1000 + (i : Int)))
            rw [hP] at eB
            obtain ⟨ni, hni⟩ : ∃ ni, ni = n i := ⟨_, rfl⟩
            obtain ⟨cpi, hci⟩ : ∃ cpi, cpi = c i := ⟨_, rfl⟩
            rw [← hni] at eB cj hln
            rw [← hci] at eB
            have f1 : IntKind.u32.wrap (1000 + (i : Int)) = 1000 + (i : Int) := by rw [IntKind.wrap_u32]; omega
            have i2 : (j : Int) < (ni : Int) := by omega
            obtain ⟨V, hV⟩ : ∃ V, wr.cell? ⟨g, j, none⟩ = some V := ⟨_, e1⟩
            clear HL HM e1 hv hr
            go_wp2
            exact ⟨⟨j + 1, by go_num, by omega, hv2, _, fun g' hg' => by
              rw [hP] at hg'
              cases hg'
              exact ⟨hr2, fun x hx' => by
                by_cases d : x = j
                · rw [if_pos d]
                · rw [if_neg d]; exact hx x (by omega)⟩⟩, by simp [intOf]; omega⟩
        · have hjn : j = n i := by omega
          have hend : ∃ R', Lv w wr T P c R' ∧ (∀ t g, t < i + 1 → P t = some ⟨g, 0, none⟩ → (g, c t, n t, 1000 + (t : Int)) ∈ R') := by
            rcases HL.out.elt i ci with ⟨h1, _, _⟩ | ⟨g, h1, _⟩
            · exact ⟨R, hv, fun t g' ht hg' => by
                by_cases d : t < i
                · exact HM.out t g' d hg'
                · have e : t = i := by omega
                  subst e; rw [h1] at hg'; cases hg'⟩
            · obtain ⟨hr, hx⟩ := hf g h1
              refine ⟨(g, c i, n i, 1000 + (i : Int)) :: R, ⟨hv.inv.cons ⟨f, hr, fun x hx' => hx x (by omega)⟩ (fun cp k m' hm' => hv.inv.2 g cp k m' _ _ _ hm' (hv.all i g ci h1)), fun t g' ht hg' => List.mem_cons_of_mem _ (hv.all t g' ht hg'), fun b cp k m hm' => ?_, hv.ks⟩, fun t g' ht hg' => ?_⟩
              · rcases List.mem_cons.1 hm' with e | e
                · cases e; exact Or.inr ⟨i, ci, h1⟩
                · exact hv.own _ _ _ _ e
              · by_cases d : t < i
                · exact List.mem_cons_of_mem _ (HM.out t g' d hg')
                · have e : t = i := by omega
                  subst e; rw [h1] at hg'; cases hg'; exact List.mem_cons_self
          obtain ⟨R', hv', hm'⟩ := hend
          obtain ⟨ni, hni⟩ : ∃ ni, ni = n i := ⟨_, rfl⟩
          obtain ⟨cpi, hci⟩ : ∃ cpi, cpi = c i := ⟨_, rfl⟩
          obtain ⟨pi, hpi⟩ : ∃ pi, pi = P i := ⟨_, rfl⟩
          rw [← hni, ← hci, ← hpi] at eB
          rw [← hni] at cj
          have i2 : ¬ ((j : Int) < (ni : Int)) := by omega
          clear HL HM hv hf hni hci hpi
          go_wp2
          exact ⟨⟨i + 1, R', by go_num, by omega, hv', hm'⟩, by simp [intOf]; omega⟩
    · have i1 : ¬ ((i : Int) < (T : Int)) := by omega
      have hst : St w wr T P n c R 0 0 none none 0 0 [] [] := ⟨hv, fun t g ht hg => hm t g (by omega) hg, Or.inl ⟨rfl, rfl, rfl⟩, Or.inl ⟨rfl, rfl, rfl⟩, fun g hg => (by cases hg), rfl, rfl, fun t ht => by omega, fun t ht => by omega⟩
      clear hm hv
      obtain ⟨i0, hi0, hi1, hi2, hi3⟩ := inf32p
      obtain ⟨k0, hk0, hk1, hk2, hk3⟩ := inf26p
      go_wp2
      go_loopw [5, 6, 7] (fun a b d wr => ∃ (i : Nat) (R : List Mrk) (sp qp : Option Addr) (sc qc : Nat) (S Q : List Value), a = .slice sp i sc ∧ b = .slice qp i qc ∧ d = .int .i64 i ∧ i ≤ T ∧ St w wr T P n c R i i sp qp sc qc S Q) (fun _ _ d _ => T - (intOf d).toNat)
      case atStart => exact ⟨0, _, none, none, 0, 0, [], [], rfl, rfl, rfl, Nat.zero_le _, hst⟩
      case round =>
        clear hst i1 hi
        obtain ⟨i, R, sp, qp, sc, qc, S, Q, rfl, rfl, rfl, hi, hst⟩ := hrel
        by_cases ci : i < T
        · have i1 : (i : Int) < (T : Int) := by omega
          have hln := HL.out.len i ci
          have eB := (HL.out.b0 hst.lv.ks).cell ci
          have hch : Ch R (P i) (n i) (c i) (1000 + (i : Int)) := by
            rcases HL.out.elt i ci with h1 | ⟨g, h1, h2, _⟩
            · exact Or.inl h1
            · exact Or.inr ⟨g, h1, h2, hst.ful i g ci h1⟩
          have f1 : IntKind.u32.wrap (1000 + (i : Int)) = 1000 + (i : Int) := by rw [IntKind.wrap_u32]; omega
          have HI : Hid (i < T ∧ n i ≤ 549755813888) := ⟨ci, hln⟩
          have HC : Hid (Ch R (P i) (n i) (c i) (1000 + (i : Int))) := hch
          clear hch
          go_wp2
          go_loopw [9, 10] (fun a b wr => ∃ (k : Nat) (R : List Mrk) (vp : Option Addr) (vc : Nat), a = .slice vp (n i + k) vc ∧ b = .int .i64 k ∧ k ≤ 16 ∧ St w wr T P n c R i i sp qp sc qc S Q ∧ Ch R vp (n i + k) vc (1000 + (i : Int))) (fun _ b _ => 16 - (intOf b).toNat)
          case atStart => exact ⟨0, R, P i, c i, rfl, rfl, by omega, hst, HC.out⟩
          case round =>
            clear hst HC eB
            obtain ⟨k, R, vp, vc, rfl, rfl, hk, hst, hch⟩ := hrel
            obtain ⟨m, hm⟩ : ∃ m, m = 1000 + (i : Int) := ⟨_, rfl⟩
            rw [← hm] at hch
            have hhp := fun o => Ch.hp (hst.lv.inv.alloc o) hch
            by_cases ck : k < 16
            · obtain ⟨len, hlen⟩ : ∃ len, len = n i + k := ⟨_, rfl⟩
              have hlb : len + 1 ≤ 549755813904 := by omega
              rw [← hlen] at hhp hch ⊢
              have i2 : (k : Int) < 16 := by omega
              have HM : Hid (m = 1000 + (i : Int) ∧ len = n i + k) := ⟨hm, hlen⟩
              rw [← hm]
              clear hm hlen HL
              go_wp2_with (first | (at_builtin; refine wpList_app _ rfl (.tmp 55) (.tmp 57) 26 rfl 25 i0 (.int .u32 0) 4 Tryd.underlying26 hi0 hi1 hi2 hi3 rfl vp len vc (List.replicate len (.int .u32 m)) rfl (by simp) (hhp _) ⟨wr.heap.size, 0, none⟩ 1 1 (List.replicate 1 (.int .u32 m)) rfl (by decide) rfl (rep_cell wr (.int .u32 m) 25 1) (rep_ok _ 1 rfl) (by unfold maxLen; omega) (by omega) ?_))
              intro g' cap' w1 hle f hf hfm hor
              have hst2 := (hst.alloc (.cells (List.replicate 1 (Value.int .u32 m)).toArray 25)).marks (s := 1) hch hf hfm (by simpa using hor)
              have hch2 : Ch ((g', cap', len + 1, m) :: R) (some ⟨g', 0, none⟩) (len + 1) cap' m := Or.inr ⟨g', rfl, hle, List.mem_cons_self⟩
              clear hst hch hhp hf hfm hor
              go_wp2
              have el : len + 1 = n i + (k + 1) := by have := HM.out.2; omega
              rw [el] at hst2 hch2
              exact ⟨⟨k + 1, _, some ⟨g', 0, none⟩, cap', by rw [el], by go_num, by omega, hst2, hch2⟩, by simp [intOf]; omega⟩
            · have hk16 : k = 16 := by omega
              have i2 : ¬ ((k : Int) < 16) := by omega
              obtain ⟨len, hlen⟩ : ∃ len, len = n i + k := ⟨_, rfl⟩
              rw [← hlen] at hch ⊢
              obtain ⟨g, rfl, hlc, hin⟩ : ∃ g, vp = some ⟨g, 0, none⟩ ∧ len ≤ vc ∧ (g, vc, len, m) ∈ R := by
                rcases hch with ⟨_, h, _⟩ | h
                · omega
                · exact h
              have hu : ∃ a cp, Value.slice (some ⟨g, 0, none⟩) len vc = .slice (some ⟨a, 0, none⟩) (n i + 16) cp ∧ n i + 16 ≤ cp ∧ (a, cp, n i + 16, 1000 + (i : Int)) ∈ R := ⟨g, vc, by rw [hlen, hk16], by omega, by rw [← hm, ← hk16, ← hlen]; exact hin⟩
              have hsp := fun o => Sw.hp (hst.alloc o).ss hst.sl
              have HM : Hid (m = 1000 + (i : Int) ∧ len = n i + k ∧ k = 16) := ⟨hm, hlen, hk16⟩
              have HU : Hid (∃ a cp, Value.slice (some ⟨g, 0, none⟩) len vc = .slice (some ⟨a, 0, none⟩) (n i + 16) cp ∧ n i + 16 ≤ cp ∧ (a, cp, n i + 16, 1000 + (i : Int)) ∈ R) := hu
              have hiT : i + 1 ≤ 1000 := by omega
              rw [← hm]
              clear hm hlen hk16 hu hch hhp hin
              go_wp2_with (first | (at_builtin; refine wpList_app _ rfl (.tmp 59) (.tmp 61) 46 rfl 26 k0 (.slice none 0 0) 24 Tryd.underlying46 hk0 hk1 hk2 hk3 rfl sp i sc S rfl hst.sl (hsp _) ⟨wr.heap.size, 0, none⟩ 1 1 (List.replicate 1 (.slice (some ⟨g, 0, none⟩) len vc)) rfl (by decide) rfl (rep_cell wr (.slice (some ⟨g, 0, none⟩) len vc) 26 1) (rep_ok _ 1 rfl) (by unfold maxLen; omega) (by omega) ?_))
              intro g1 c1 w1 hle1 f1' hf1 hfm1 hor1
              have hst2 := (hst.alloc (.cells (List.replicate 1 (Value.slice (some ⟨g, 0, none⟩) len vc)).toArray 26)).slow HU.out hle1 hf1 hfm1 (by simpa using hor1)
              clear hst hsp hf1 hfm1 hor1 HU
              have eB2 := (HL.out.b0 hst2.lv.ks).cell HI.out.1
              have hch0 : Ch R (P i) (n i) (c i) m := by
                rw [HM.out.1]
                rcases HL.out.elt i HI.out.1 with h1 | ⟨g, h1, h2, _⟩
                · exact Or.inl h1
                · exact Or.inr ⟨g, h1, h2, hst2.ful i g HI.out.1 h1⟩
              have hhp := fun o => Ch.hp (hst2.lv.inv.alloc o) hch0
              go_wp2_with (first | (at_builtin; refine wpList_app _ rfl (.tmp 68) (.tmp 117) 26 rfl 25 i0 (.int .u32 0) 4 Tryd.underlying26 hi0 hi1 hi2 hi3 rfl (P i) (n i) (c i) (List.replicate (n i) (.int .u32 m)) rfl (by simp) (hhp _) ⟨w1.heap.size, 0, none⟩ 48 48 (List.replicate 48 (.int .u32 m)) rfl (by decide) rfl (rep_cell w1 (.int .u32 m) 25 48) (rep_ok _ 48 rfl) (by unfold maxLen; omega) (by omega) ?_))
              intro g2 c2 w2 hle2 f2' hf2 hfm2 hor2
              have hst3 := (hst2.alloc (.cells (List.replicate 48 (Value.int .u32 m)).toArray 25)).marks (s := 48) hch0 hf2 hfm2 (by simpa using hor2)
              clear hst2 hhp hf2 hfm2 hor2 eB2 hch0
              have hsq := fun o => Sw.hp (hst3.alloc o).qs hst3.ql
              go_wp2_with (first | (at_builtin; refine wpList_app _ rfl (.tmp 67) (.tmp 119) 46 rfl 26 k0 (.slice none 0 0) 24 Tryd.underlying46 hk0 hk1 hk2 hk3 rfl qp i qc Q rfl hst3.ql (hsq _) ⟨w2.heap.size, 0, none⟩ 1 1 (List.replicate 1 (.slice (some ⟨g2, 0, none⟩) (n i + 48) c2)) rfl (by decide) rfl (rep_cell w2 (.slice (some ⟨g2, 0, none⟩) (n i + 48) c2) 26 1) (rep_ok _ 1 rfl) (by unfold maxLen; omega) (by omega) ?_))
              intro g3 c3 w3 hle3 f3' hf3 hfm3 hor3
              have hst4 := (hst3.alloc (.cells (List.replicate 1 (Value.slice (some ⟨g2, 0, none⟩) (n i + 48) c2)).toArray 26)).quick ⟨g2, c2, rfl, hle2, by rw [← HM.out.1]; exact List.mem_cons_self⟩ hle3 hf3 hfm3 (by simpa using hor3)
              clear hst3 hsq hf3 hfm3 hor3
              go_wp2
              exact ⟨⟨i + 1, _, _, _, _, _, _, _, rfl, rfl, by go_num, by omega, hst4⟩, by simp [intOf]; omega⟩
        · have i1 : ¬ ((i : Int) < (T : Int)) := by omega
          have hiT : i = T := by omega
          have HT : Hid (i = T) := hiT
          clear hiT
          obtain ⟨w5, hw5⟩ : ∃ w5, w5 = wr := ⟨_, rfl⟩
          rw [← hw5] at hst
          have k5 : Kp w5 wr := by rw [hw5]; exact Kp.refl _
          clear hw5
          go_wp2
          go_loopw [12] (fun a wr => ∃ t : Nat, a = .int .i64 t ∧ t ≤ T ∧ Kp w5 wr) (fun a _ => T - (intOf a).toNat)
          case atStart => exact ⟨0, rfl, Nat.zero_le _, k5⟩
          case round =>
            clear k5 i1
            obtain ⟨t, rfl, ht, kp⟩ := hrel
            by_cases ct : t < T
            · have i1 : (t : Int) < (T : Int) := by omega
              have i2 : (t : Int) < (i : Int) := by have := HT.out; omega
              have hti : t < i := by have := HT.out; omega
              have hln := HL.out.len t ct
              have e0 := kkeep kp ((HL.out.b0 hst.lv.ks).cell ct)
              obtain ⟨a1, c1, hS, l1, hm1⟩ := hst.sm t hti
              obtain ⟨a2, c2, hQ, l2, hm2⟩ := hst.qm t hti
              obtain ⟨gs, rfl, e1⟩ : ∃ gs, sp = some ⟨gs, 0, none⟩ ∧ wr.cell? ⟨gs, t, none⟩ = some (.slice (some ⟨a1, 0, none⟩) (n t + 16) c1) := by
                rcases hst.ss with ⟨_, h, _⟩ | ⟨g, f, h1, h2, h3, h4, _⟩
                · have := hst.sl; omega
                · exact ⟨g, h1, kkeep kp (by rw [h2.cell (by have := hst.sl; omega), h4 _ _ hS])⟩
              obtain ⟨gq, rfl, e2⟩ : ∃ gq, qp = some ⟨gq, 0, none⟩ ∧ wr.cell? ⟨gq, t, none⟩ = some (.slice (some ⟨a2, 0, none⟩) (n t + 48) c2) := by
                rcases hst.qs with ⟨_, h, _⟩ | ⟨g, f, h1, h2, h3, h4, _⟩
                · have := hst.ql; omega
                · exact ⟨g, h1, kkeep kp (by rw [h2.cell (by have := hst.ql; omega), h4 _ _ hQ])⟩
              have f1 : IntKind.u32.wrap (1000 + (t : Int)) = 1000 + (t : Int) := by rw [IntKind.wrap_u32]; omega
              have z0 : Fits wr (1000 + (t : Int)) (P t) (n t) (n t : Int) := by
                refine ⟨?_, by omega, rfl⟩
                rcases HL.out.elt t ct with ⟨_, h2, _⟩ | ⟨b, h1, h2, _⟩
                · rw [h2]; exact Or.inl rfl
                · rw [h1]; exact (hst.lv.inv.arr (hst.ful t b ct h1) h2).grown kp
              have z1 : Fits wr (1000 + (t : Int)) (some ⟨a1, 0, none⟩) (n t + 16) ((n t : Int) + 16) := ⟨(hst.lv.inv.arr hm1 l1).grown kp, by omega, by omega⟩
              have z2 : Fits wr (1000 + (t : Int)) (some ⟨a2, 0, none⟩) (n t + 48) ((n t : Int) + 48) := ⟨(hst.lv.inv.arr hm2 l2).grown kp, by omega, by omega⟩
              clear hst HL HT hm1 hm2 l1 l2 hS hQ hti
              go_wp2
              refine wp_region_kp (by kernel_rfl) (by kernel_rfl) (fun ι _ G hG hall => ?_)
              have d0 : ∀ n', (G n').cell? ⟨B0, t, none⟩ = some (.slice (P t) (n t) (c t)) := fun n' => kkeep (hG n') e0
              have d1 : ∀ n', (G n').cell? ⟨gs, t, none⟩ = some (.slice (some ⟨a1, 0, none⟩) (n t + 16) c1) := fun n' => kkeep (hG n') e1
              have d2 : ∀ n', (G n').cell? ⟨gq, t, none⟩ = some (.slice (some ⟨a2, 0, none⟩) (n t + 48) c2) := fun n' => kkeep (hG n') e2
              have hq : ∀ n' p N c M, Fits wr (1000 + (t : Int)) p N M → Calls Tryd.prog 68 #[.slice p N c, .int .u32 (1000 + (t : Int)), .int .i64 M] (G n') fun e w' => e = .returned (.bool true) ∧ ∃ n, w' = G n := fun n' p N c M h => by
                rw [h.2.2]
                exact (full_ p c N _ (G n') (h.1.grown (hG n')) h.2.1).mono (fun e w' h => ⟨h.1, n', h.2⟩)
              repeat (go_big_quiet_step (exact hq _ _ _ _ _ (by with_reducible (first | exact z0 | exact z1 | exact z2))))
              refine wpQuiet_nil ?_
              rintro _ ⟨nq, rfl⟩
              have gq' := hG nq
              clear d0 d1 d2 hall hq z0 z1 z2
              go_wp2
              exact ⟨⟨t + 1, by go_num, by omega, Kp.trans kp gq'⟩, by simp [intOf]; omega⟩
            · have i1 : ¬ ((t : Int) < (T : Int)) := by omega
              have hks : Ks w.heap.size (Lists.X T P) w wr := by
                obtain ⟨h1, h2, h3, h4, h5⟩ := hst.lv.ks
                exact ⟨kp.os.trans h1, kp.tape.trans h2, kp.output.trans h3, Nat.le_trans h4 kp.size, fun k hk hx => by rw [kp.block k (by omega)]; exact h5 k hk hx⟩
              clear hst HL HT
              go_wp2
              exact bodyPost_ret (v := .bool true) (by simp [results, Tryd.results46, go_sem] <;> simp only [*]) rfl ⟨rfl, hks⟩
end Go.Proofs.YtkjcnnjgaififaaDoor
