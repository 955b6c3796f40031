import Derived.Test.YteedfmghgkmofaaGreatDoorKTOl
import Derived.Deep.RegionHeld
import Derived.OrdersHeld
namespace Go.Proofs.YteedfmghgkmofaaGreatDoor
open Go.RowKit
set_option linter.unusedVariables false
set_option linter.unusedSimpArgs false

theorem Bk.cellsTo {b : Nat} {t : TypeId} : ∀ (vs : List Value) (o : Nat) (w : World) (C : Array Value), Bk w b C t → ∃ D, Bk (w.setCells b o vs) b D t ∧ D.size = C.size ∧ (∀ j, j < o → D[j]? = C[j]?) ∧ (∀ j, o + vs.length ≤ j → D[j]? = C[j]?) ∧ (∀ j, j < vs.length → o + j < C.size → D[o + j]? = vs[j]?)
  | [], o, w, C, h => ⟨C, h, rfl, fun _ _ => rfl, fun _ _ => rfl, fun j hj => by simp at hj⟩
  | v :: vs, o, w, C, h => by
    obtain ⟨D, d1, d2, d3, d4, d5⟩ := Bk.cellsTo vs (o + 1) _ _ (h.put o v)
    refine ⟨D, d1, by rw [d2]; simp, fun j hj => ?_, fun j hj => ?_, fun j hj hs => ?_⟩
    · rw [d3 j (by omega), Array.getElem?_setIfInBounds_ne (by omega)]
    · rw [d4 j (by simp at hj; omega), Array.getElem?_setIfInBounds_ne (by simp at hj; omega)]
    · cases j with
      | zero =>
        rw [Nat.add_zero, d3 o (by omega), Array.getElem?_setIfInBounds_self_of_lt (by simpa using hs)]; rfl
      | succ j =>
        have := d5 j (by simpa using hj) (by simp; omega)
        rw [show o + (j + 1) = o + 1 + j by omega, this]; rfl
theorem Kb.cellsTo (b : Nat) : ∀ (vs : List Value) (o : Nat) (a w : World), Kb b a w → Kb b a (w.setCells b o vs)
  | [], _, _, _, h => h
  | v :: vs, o, a, w, h => Kb.cellsTo b vs (o + 1) a _ (h.setCell o v)
theorem Sb.setW {w : World} {b : Nat} {ws : List Nat} {k : Nat} {s : Int} (h : Sb w b ws k s) (z : List Nat) (hz : z.length = 67) : Sb (w.setCells b 0 (wc z).toList) b z k s := by
  obtain ⟨D, d1, d2, d3, d4, d5⟩ := Bk.cellsTo (wc z).toList 0 w _ h.2
  have e : D = wc z ++ #[.int .u64 (k : Int), .int .i64 s] := by
    apply Array.ext_getElem?
    intro j
    have hzs : (wc z).size = 67 := by rw [wc_size, hz]
    have hws : (wc ws).size = 67 := by rw [wc_size, h.1]
    by_cases c : j < 67
    · have := d5 j (by simpa [hzs] using c) (by rw [Array.size_append, hws]; omega)
      rw [Nat.zero_add] at this
      rw [this, Array.getElem?_append_left (by omega)]; simp
    · rw [d4 j (by simp [hzs]; omega), Array.getElem?_append_right (by omega), Array.getElem?_append_right (by omega), hzs, hws]
  rw [e] at d1
  exact ⟨hz, d1⟩
theorem storeS {w : World} {b : Nat} {ws : List Nat} {k : Nat} {s : Int} (h : Sb w b ws k s) (z : List Nat) (hz : z.length = 67) : (storeVar 52 ⟨b, 0, none⟩ (.agg (wc z))).run Tryz.prog w = .ok () (w.setCells b 0 (wc z).toList) := by
  refine run_storeVar_mid w b 0 52 (wc z) (fun j hj => ?_) (by rw [wc_size, hz]; exact infoW) (wc_one z)
  rw [wc_size, hz] at hj
  rw [Nat.zero_add]
  exact ⟨by rw [h.2.word j (by rw [h.1]; exact hj)]; rfl, h.2.frozen j⟩
theorem exF {P : Program} {ρ : Operand → Value} {op : Oper} {t : TypeId} {x : Operand} {i : Nat} {w : World} {v : Value} (ho : op.op = .fieldAddr t x i) (p : Value) (hx : ρ x = p) (hr : (Instr.fieldAt t p i).run P w = .ok v w) : (execOp ρ op).run P w = .ok (.value v) w := by
  unfold execOp
  simp only [ho, hx, Sem.run_bind, Sem.run_pure, Result.andThen_ok, hr]
theorem wpo_load {P : Program} {op : Oper} {a : Act} {w : World} {K : Act → World → Prop} {Q : Exit → Act → World → Prop} (ty : TypeId) (x : Operand) (ho : op.op = .load ty x) (b o : Nat) (hx : a.eval x = .pointer (some ⟨b, o, none⟩)) (v : Value) (hr : (loadVar ty ⟨b, o, none⟩).run P w = .ok v w) (h : K (a.put op.dst v) w) : op.wp P a w K Q := by
  unfold Oper.wp execOp
  simp only [ho, hx, Instr.loadAt, Instr.sureAddr, Sem.run_bind, Sem.run_pure, Result.andThen_ok, hr]
  exact h
theorem wpo_store {P : Program} {op : Oper} {a : Act} {w : World} {K : Act → World → Prop} {Q : Exit → Act → World → Prop} (ty : TypeId) (x y : Operand) (ho : op.op = .store ty x y) (b o : Nat) (hx : a.eval x = .pointer (some ⟨b, o, none⟩)) (v : Value) (hy : a.eval y = v) (w2 : World) (hr : (storeVar ty ⟨b, o, none⟩ v).run P w = .ok () w2) (h : K (a.put op.dst undef) w2) : op.wp P a w K Q := by
  unfold Oper.wp execOp
  simp only [ho, hx, hy, Instr.storeAt, Instr.sureAddr, Sem.run_bind, Sem.run_pure, Result.andThen_ok, hr]
  exact h
theorem merge_cells {w1 : World} {b1 b2 : Nat} {ws1 ws2 z : List Nat} {k1 k2 : Nat} {s1 s2 : Int} (h1 : Sb w1 b1 ws1 k1 s1) (h2 : Sb w1 b2 ws2 k2 s2) (hz : z.length = 67) : (w1.setCells b1 0 (wc z).toList).cell? ⟨b2, 67, none⟩ = some (.int .u64 (k2 : Int)) ∧ (w1.setCells b1 0 (wc z).toList).cell? ⟨b2, 68, none⟩ = some (.int .i64 s2) := by
  by_cases c : b2 = b1
  · subst c
    have a1 := h1.setW z hz
    exact ⟨by rw [a1.terms, ← h1.terms, h2.terms], by rw [a1.state, ← h1.state, h2.state]⟩
  · have a2 := h2.kb (Kb.cellsTo b1 (wc z).toList 0 w1 w1 (Kb.refl _ _)) c
    exact ⟨a2.terms, a2.state⟩
set_option maxRecDepth 20000 in
set_option maxHeartbeats 2000000 in
theorem merge_ (b1 b2 : Nat) (ws1 ws2 : List Nat) (V1 V2 : Int) (hV1 : Rep ws1 V1) (hV2 : Rep ws2 V2) (k1 k2 : Nat) (s1 s2 : Int) (w : World) (h1 : Sb w b1 ws1 k1 s1) (h2 : Sb w b2 ws2 k2 s2) : Calls Tryz.prog 25 #[.pointer (some ⟨b1, 0, none⟩), .pointer (some ⟨b2, 0, none⟩)] w fun e w' => ∃ z, (∃ v, e = .returned v) ∧ Sb w' b1 z ((k1 + k2) % 18446744073709551616) (grS ((k1 + k2) % 18446744073709551616) (jn s1 s2)) ∧ Rep z (V1 + V2) ∧ Kb b1 w w' := by
  have hpl := plus_ ws1 ws2 V1 V2 hV1 hV2
  have hl1 : (loadVar 52 ⟨b1, 0, none⟩).run Tryz.prog w.drew = .ok (.agg (wc ws1)) w.drew := loadS (w := w.drew) h1
  have hl2 : (loadVar 52 ⟨b2, 0, none⟩).run Tryz.prog w.drew = .ok (.agg (wc ws2)) w.drew := loadS (w := w.drew) h2
  generalize hC1 : wc ws1 = C1 at hpl hl1
  generalize hC2 : wc ws2 = C2 at hpl hl2
  have HC : Hid (wc ws1 = C1 ∧ wc ws2 = C2) := ⟨hC1, hC2⟩
  clear hC1 hC2
  go_enter Tryz.func25, Tryz.ntmps25
  go_upto_region 0 with fail
  refine wp_region_held_drew (S := fun _ => True) (by kernel_rfl) trivial (fun _ => ?_)
  refine wpAnyH_take (i := 0) (v := .pointer (some ⟨b1, 0, none⟩)) rfl (by kernel_rfl) (by kernel_rfl) (by kernel_rfl) (fun _ _ _ h => h) (Or.inl ⟨by rfl, fun w _ => rfl⟩) trivial ?_
  try simp only [Act.put, List.getElem_toArray, List.getElem_cons_zero, List.getElem_cons_succ, List.setIfInBounds_toArray, List.set_cons_zero, List.set_cons_succ]
  refine wpAnyH_take (i := 1) (v := .pointer (some ⟨b1, 0, none⟩)) rfl (by kernel_rfl) (by kernel_rfl) (by kernel_rfl) (fun _ _ _ h => h) (Or.inl ⟨by rfl, fun w _ => rfl⟩) trivial ?_
  try simp only [Act.put, List.getElem_toArray, List.getElem_cons_zero, List.getElem_cons_succ, List.setIfInBounds_toArray, List.set_cons_zero, List.set_cons_succ]
  refine wpAnyH_take (i := 2) (v := .pointer (some ⟨b1, 0, none⟩)) rfl (by kernel_rfl) (by kernel_rfl) (by kernel_rfl) (fun _ _ _ h => h) (Or.inl ⟨by rfl, fun w _ => rfl⟩) trivial ?_
  try simp only [Act.put, List.getElem_toArray, List.getElem_cons_zero, List.getElem_cons_succ, List.setIfInBounds_toArray, List.set_cons_zero, List.set_cons_succ]
  refine wpAnyH_take (i := 3) (v := .pointer (some ⟨b1, 0, none⟩)) rfl (by kernel_rfl) (by kernel_rfl) (by kernel_rfl) (fun _ _ _ h => h) (Or.inl ⟨by rfl, fun w _ => exF rfl _ rfl (fa0 b1 w)⟩) trivial ?_
  try simp only [Act.put, List.getElem_toArray, List.getElem_cons_zero, List.getElem_cons_succ, List.setIfInBounds_toArray, List.set_cons_zero, List.set_cons_succ]
  refine wpAnyH_take (i := 5) (v := .pointer (some ⟨b2, 0, none⟩)) rfl (by kernel_rfl) (by kernel_rfl) (by kernel_rfl) (fun _ _ _ h => h) (Or.inl ⟨by rfl, fun w _ => rfl⟩) trivial ?_
  try simp only [Act.put, List.getElem_toArray, List.getElem_cons_zero, List.getElem_cons_succ, List.setIfInBounds_toArray, List.set_cons_zero, List.set_cons_succ]
  refine wpAnyH_take (i := 6) (v := .pointer (some ⟨b2, 0, none⟩)) rfl (by kernel_rfl) (by kernel_rfl) (by kernel_rfl) (fun _ _ _ h => h) (Or.inl ⟨by rfl, fun w _ => rfl⟩) trivial ?_
  try simp only [Act.put, List.getElem_toArray, List.getElem_cons_zero, List.getElem_cons_succ, List.setIfInBounds_toArray, List.set_cons_zero, List.set_cons_succ]
  refine wpAnyH_take (i := 7) (v := .pointer (some ⟨b2, 0, none⟩)) rfl (by kernel_rfl) (by kernel_rfl) (by kernel_rfl) (fun _ _ _ h => h) (Or.inl ⟨by rfl, fun w _ => exF rfl _ rfl (fa0 b2 w)⟩) trivial ?_
  try simp only [Act.put, List.getElem_toArray, List.getElem_cons_zero, List.getElem_cons_succ, List.setIfInBounds_toArray, List.set_cons_zero, List.set_cons_succ]
  refine wpAnyH_ready (rs := [4, 8]) (by kernel_rfl) (by simp) ?_
  refine AllReadyH.cons rfl (fun K hK => ?_) (AllReadyH.cons rfl (fun K hK => ?_) AllReadyH.nil)
  · rw [if_pos (by rfl)]
    refine wpo_load 52 _ rfl b1 0 rfl _ hl1 ?_
    refine hK.out _ _ trivial (fun _ => ?_)
    clear hK K
    try simp only [Act.put, List.getElem_toArray, List.getElem_cons_zero, List.getElem_cons_succ, List.setIfInBounds_toArray, List.set_cons_zero, List.set_cons_succ]
    refine wpAnyH_ready (rs := [8]) (by kernel_rfl) (by simp) ?_
    refine AllReadyH.cons rfl (fun K hK => ?_) AllReadyH.nil
    rw [if_pos (by rfl)]
    refine wpo_load 52 _ rfl b2 0 rfl _ hl2 ?_
    refine hK.out _ _ trivial (fun _ => ?_)
    clear hK K
    try simp only [Act.put, List.getElem_toArray, List.getElem_cons_zero, List.getElem_cons_succ, List.setIfInBounds_toArray, List.set_cons_zero, List.set_cons_succ]
    refine wpAnyH_ready (rs := [9]) (by kernel_rfl) (by simp) ?_
    refine AllReadyH.cons rfl (fun K hK => ?_) AllReadyH.nil
    go_simp
    refine (hpl _).mono ?_
    rintro e w1 ⟨z, rfl, hz, g1⟩
    go_wp2_with fail
    refine hK.out _ _ trivial (fun _ => ?_)
    clear hK K
    try simp only [Act.put, List.getElem_toArray, List.getElem_cons_zero, List.getElem_cons_succ, List.setIfInBounds_toArray, List.set_cons_zero, List.set_cons_succ]
    refine wpAnyH_take (i := 10) (v := .pointer (some ⟨b1, 0, none⟩)) rfl (by kernel_rfl) (by kernel_rfl) (by kernel_rfl) (fun _ _ _ h => h) (Or.inl ⟨by rfl, fun w _ => rfl⟩) trivial ?_
    try simp only [Act.put, List.getElem_toArray, List.getElem_cons_zero, List.getElem_cons_succ, List.setIfInBounds_toArray, List.set_cons_zero, List.set_cons_succ]
    refine wpAnyH_take (i := 11) (v := .pointer (some ⟨b1, 0, none⟩)) rfl (by kernel_rfl) (by kernel_rfl) (by kernel_rfl) (fun _ _ _ h => h) (Or.inl ⟨by rfl, fun w _ => exF rfl _ rfl (fa0 b1 w)⟩) trivial ?_
    try simp only [Act.put, List.getElem_toArray, List.getElem_cons_zero, List.getElem_cons_succ, List.setIfInBounds_toArray, List.set_cons_zero, List.set_cons_succ]
    refine wpAnyH_ready (rs := [12]) (by kernel_rfl) (by simp) ?_
    refine AllReadyH.cons rfl (fun K hK => ?_) AllReadyH.nil
    rw [if_pos (by rfl)]
    have g2 : Kp w w1 := ((Kp.refl w).drew).trans g1
    have h1' := h1.kp g2
    have h2' := h2.kp g2
    refine wpo_store 52 _ _ rfl b1 0 rfl _ rfl _ (storeS h1' z hz.1) ?_
    refine hK.out _ _ trivial (fun _ => ?_)
    clear hK K
    try simp only [Act.put, List.getElem_toArray, List.getElem_cons_zero, List.getElem_cons_succ, List.setIfInBounds_toArray, List.set_cons_zero, List.set_cons_succ]
    refine wpAnyH_done (by kernel_rfl) ?_ _
    obtain ⟨q67, q68⟩ := merge_cells h1' h2' hz.1
    have hZ := h1'.setW z hz.1
    have kb : Kb b1 w (w1.setCells b1 0 (wc z).toList) := Kb.cellsTo b1 _ 0 w w1 (Kb.of g2)
    generalize w1.setCells b1 0 (wc z).toList = W at *
    have hgr := fun (W' : World) (h : Sb W' b1 z k1 s1) => grow_ b1 z k1 k2 s1 s2 W' h
    have d67 : W.drew.cell? ⟨b2, 67, none⟩ = some (.int .u64 (k2 : Int)) := q67
    have d68 : W.drew.cell? ⟨b2, 68, none⟩ = some (.int .i64 s2) := q68
    have hgr2 := hgr W.drew hZ
    have kb2 : Kb b1 w W.drew := kb.drew
    clear h1' h2' g1 g2 h1 h2 hpl hV1 hV2 hgr hZ kb
    go_wp2_with fail
    first | (go_region_with (go_at_call 56; refine hgr2.mono ?_; rintro e w9 ⟨⟨v9, rfl⟩, hS9, k9⟩)) | fail
    all_goals (
      go_wp2
      exact bodyPost_end (v := .tuple #[]) (by kernel_rfl) rfl (by first | exact ⟨⟨_, rfl⟩, z, hS9, hz, kb2.trans k9⟩ | exact ⟨z, ⟨_, rfl⟩, hS9, hz, kb2.trans k9⟩))
  · rw [if_pos (by rfl)]
    refine wpo_load 52 _ rfl b2 0 rfl _ hl2 ?_
    refine hK.out _ _ trivial (fun _ => ?_)
    clear hK K
    try simp only [Act.put, List.getElem_toArray, List.getElem_cons_zero, List.getElem_cons_succ, List.setIfInBounds_toArray, List.set_cons_zero, List.set_cons_succ]
    refine wpAnyH_ready (rs := [4]) (by kernel_rfl) (by simp) ?_
    refine AllReadyH.cons rfl (fun K hK => ?_) AllReadyH.nil
    rw [if_pos (by rfl)]
    refine wpo_load 52 _ rfl b1 0 rfl _ hl1 ?_
    refine hK.out _ _ trivial (fun _ => ?_)
    clear hK K
    try simp only [Act.put, List.getElem_toArray, List.getElem_cons_zero, List.getElem_cons_succ, List.setIfInBounds_toArray, List.set_cons_zero, List.set_cons_succ]
    refine wpAnyH_ready (rs := [9]) (by kernel_rfl) (by simp) ?_
    refine AllReadyH.cons rfl (fun K hK => ?_) AllReadyH.nil
    go_simp
    refine (hpl _).mono ?_
    rintro e w1 ⟨z, rfl, hz, g1⟩
    go_wp2_with fail
    refine hK.out _ _ trivial (fun _ => ?_)
    clear hK K
    try simp only [Act.put, List.getElem_toArray, List.getElem_cons_zero, List.getElem_cons_succ, List.setIfInBounds_toArray, List.set_cons_zero, List.set_cons_succ]
    refine wpAnyH_take (i := 10) (v := .pointer (some ⟨b1, 0, none⟩)) rfl (by kernel_rfl) (by kernel_rfl) (by kernel_rfl) (fun _ _ _ h => h) (Or.inl ⟨by rfl, fun w _ => rfl⟩) trivial ?_
    try simp only [Act.put, List.getElem_toArray, List.getElem_cons_zero, List.getElem_cons_succ, List.setIfInBounds_toArray, List.set_cons_zero, List.set_cons_succ]
    refine wpAnyH_take (i := 11) (v := .pointer (some ⟨b1, 0, none⟩)) rfl (by kernel_rfl) (by kernel_rfl) (by kernel_rfl) (fun _ _ _ h => h) (Or.inl ⟨by rfl, fun w _ => exF rfl _ rfl (fa0 b1 w)⟩) trivial ?_
    try simp only [Act.put, List.getElem_toArray, List.getElem_cons_zero, List.getElem_cons_succ, List.setIfInBounds_toArray, List.set_cons_zero, List.set_cons_succ]
    refine wpAnyH_ready (rs := [12]) (by kernel_rfl) (by simp) ?_
    refine AllReadyH.cons rfl (fun K hK => ?_) AllReadyH.nil
    rw [if_pos (by rfl)]
    have g2 : Kp w w1 := ((Kp.refl w).drew).trans g1
    have h1' := h1.kp g2
    have h2' := h2.kp g2
    refine wpo_store 52 _ _ rfl b1 0 rfl _ rfl _ (storeS h1' z hz.1) ?_
    refine hK.out _ _ trivial (fun _ => ?_)
    clear hK K
    try simp only [Act.put, List.getElem_toArray, List.getElem_cons_zero, List.getElem_cons_succ, List.setIfInBounds_toArray, List.set_cons_zero, List.set_cons_succ]
    refine wpAnyH_done (by kernel_rfl) ?_ _
    obtain ⟨q67, q68⟩ := merge_cells h1' h2' hz.1
    have hZ := h1'.setW z hz.1
    have kb : Kb b1 w (w1.setCells b1 0 (wc z).toList) := Kb.cellsTo b1 _ 0 w w1 (Kb.of g2)
    generalize w1.setCells b1 0 (wc z).toList = W at *
    have hgr := fun (W' : World) (h : Sb W' b1 z k1 s1) => grow_ b1 z k1 k2 s1 s2 W' h
    have d67 : W.drew.cell? ⟨b2, 67, none⟩ = some (.int .u64 (k2 : Int)) := q67
    have d68 : W.drew.cell? ⟨b2, 68, none⟩ = some (.int .i64 s2) := q68
    have hgr2 := hgr W.drew hZ
    have kb2 : Kb b1 w W.drew := kb.drew
    clear h1' h2' g1 g2 h1 h2 hpl hV1 hV2 hgr hZ kb
    go_wp2_with fail
    first | (go_region_with (go_at_call 56; refine hgr2.mono ?_; rintro e w9 ⟨⟨v9, rfl⟩, hS9, k9⟩)) | fail
    all_goals (
      go_wp2
      exact bodyPost_end (v := .tuple #[]) (by kernel_rfl) rfl (by first | exact ⟨⟨_, rfl⟩, z, hS9, hz, kb2.trans k9⟩ | exact ⟨z, ⟨_, rfl⟩, hS9, hz, kb2.trans k9⟩))
end Go.Proofs.YteedfmghgkmofaaGreatDoor
