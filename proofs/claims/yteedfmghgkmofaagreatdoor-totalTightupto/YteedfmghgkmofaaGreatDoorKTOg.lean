import Derived.Test.YteedfmghgkmofaaGreatDoorKMR14
import Derived.Test.YteedfmghgkmofaaGreatDoorKTOd
import Derived.Test.YteedfmghgkmofaaGreatDoorKXQF
namespace Go.Proofs.YteedfmghgkmofaaGreatDoor
open Go.RowKit

theorem Sb.kp {w w' : World} {b : Nat} {ws : List Nat} {k : Nat} {s : Int} (h : Sb w b ws k s) (g : Kp w w') : Sb w' b ws k s := ⟨h.1, h.2.kp g⟩
theorem Sb.kb {w w' : World} {b c : Nat} {ws : List Nat} {k : Nat} {s : Int} (h : Sb w b ws k s) (g : Kb c w w') (hne : b ≠ c) : Sb w' b ws k s := ⟨h.1, h.2.kb g hne⟩
def tV (n : Bool) (m K : Nat) : Int := Iv n m * ((2 ^ K : Nat) : Int)
theorem lay_val (n : Bool) (m K : Nat) (hK : K = 1074) (hm : m < 9218868437227405312) (E : Nat) (hE : Fq.epD m + 2148 = (E : Int)) : sgI (n && !(m == 0)) * (((0 * 18446744073709551616 + Fq.sgD m) * 2 ^ E : Nat) : Int) = tV n m K := by
  obtain ⟨v1, v2, v3, v4, v5⟩ := Fq.vlsgD m hm
  have v1 : Fq.sgD m * 2 ^ (Fq.epD m + 1074).toNat = Fq.vV Ieee.double m := v1
  have e1 : E = (Fq.epD m + 1074).toNat + K := by omega
  rw [e1, Nat.pow_add, Nat.zero_mul, Nat.zero_add, ← Nat.mul_assoc, v1]
  unfold tV Iv sgI
  by_cases z : m = 0
  · have z2 : Fq.vV Ieee.double m = 0 := by rw [← v1, v3.1 z, Nat.zero_mul]
    rw [z2]; simp
  · rw [show (n && !(m == 0)) = n from by simp [z], Int.natCast_mul]
    cases n <;> simp [Int.neg_mul]
theorem fin0 (n : Bool) (m : Nat) (hm : m < 9218868437227405312) : tS n m = 0 := by unfold tS; rw [if_neg (by omega), if_neg (by omega)]
theorem sg64 (x : Nat) (h : x < 9007199254740992) : x < 18446744073709551616 := by omega
set_option maxRecDepth 20000 in
set_option maxHeartbeats 600000 in
theorem add_ (n : Bool) (m K : Nat) (hK : K = 1074) (hm : m < 9218868437227405312) (b : Nat) (ws : List Nat) (V : Int) (hV : Rep ws V) (k : Nat) (s : Int) (w : World) (hS : Sb w b ws k s) : Calls Tryz.prog 17 #[.pointer (some ⟨b, 0, none⟩), .float .f64 (Fq.wD n m)] w fun e w' => ∃ ws' : List Nat, (∃ v, e = .returned v) ∧ Sb w' b ws' ((k + 1) % 18446744073709551616) (grS ((k + 1) % 18446744073709551616) (jn s 0)) ∧ Rep ws' (V + tV n m K) ∧ Kb b w w' := by
  have hsp := Fq.split_d n m hm
  have hso := stateOf_ n m (by omega)
  rw [fin0 n m hm] at hso
  obtain ⟨v1, v2, v3, v4, v5⟩ := Fq.vlsgD m hm
  obtain ⟨E, hE⟩ : ∃ E : Nat, Fq.epD m + 2148 = (E : Int) := ⟨(Fq.epD m + 2148).toNat, by omega⟩
  have hval := lay_val n m K hK hm E hE
  have hE2 : E = E / 64 * 64 + E % 64 := by omega
  have hly := fun (w1 : World) (h1 : Bk w1 b (wc ws ++ #[.int .u64 (k : Int), .int .i64 s]) 54) => lay_ (n && !(m == 0)) 0 (Fq.sgD m) (E / 64) (E % 64) (Fq.epD m) (by decide) (sg64 _ v2) (by rw [hE, ← hE2]) (Nat.mod_lt _ (by decide)) (by omega) b ws _ _ V hV w1 h1
  rw [← hE2, hval] at hly
  have hgr := fun (w2 : World) (us : List Nat) (h2 : Sb w2 b us k s) => grow_ b us k 1 s 0 w2 h2
  generalize Fq.wD n m = X at *
  generalize Fq.sgD m = sg at *
  generalize Fq.epD m = ep at *
  generalize (n && !(m == 0)) = ng at *
  clear hval hE2 hE v1 v2 v3 v4 v5
  go_enter Tryz.func17, Tryz.ntmps17
  go_wp2_with (first | (go_at_call 53; refine (hsp _).mono ?_; rintro e w1 ⟨rfl, g1⟩; replace hS := hS.kp g1; have kA : Kb b w w1 := Kb.of g1; have hly := hly w1 hS.2) | (go_at_call 55; refine hly.mono ?_; rintro e w2 ⟨us, ⟨v9, rfl⟩, hB, hR, k2⟩; have hgr := hgr w2 us ⟨hR.1, hB⟩) | (go_at_call 58; refine (hso _).mono ?_; rintro e w' ⟨rfl, hw'⟩; obtain rfl := hw'.symm; clear hw') | (go_at_call 56; refine hgr.mono ?_; rintro e w3 ⟨⟨v8, rfl⟩, hZ, k3⟩))
  exact bodyPost_end (v := .tuple #[]) (by kernel_rfl) rfl (by first | exact ⟨⟨_, rfl⟩, us, hZ, hR, (kA.trans k2).trans k3⟩ | exact ⟨us, ⟨_, rfl⟩, hZ, hR, (kA.trans k2).trans k3⟩)
set_option maxRecDepth 20000 in
set_option maxHeartbeats 600000 in
theorem addX_ (n : Bool) (m : Nat) (hm : 9218868437227405312 ≤ m) (hm2 : m < 9223372036854775808) (b : Nat) (ws : List Nat) (k : Nat) (s : Int) (w : World) (hS : Sb w b ws k s) : Calls Tryz.prog 17 #[.pointer (some ⟨b, 0, none⟩), .float .f64 (Fq.wD n m)] w fun e w' => (∃ v, e = .returned v) ∧ Sb w' b ws ((k + 1) % 18446744073709551616) (grS ((k + 1) % 18446744073709551616) (jn s (tS n m))) ∧ Kb b w w' := by
  have hsp := Fq.splitx_d n m hm hm2
  have hso := stateOf_ n m hm2
  have hgr := fun (w2 : World) (us : List Nat) (h2 : Sb w2 b us k s) => grow_ b us k 1 s (tS n m) w2 h2
  generalize Fq.wD n m = X at *
  generalize tS n m = TS at *
  clear hm hm2
  go_enter Tryz.func17, Tryz.ntmps17
  go_wp2_with (first | (go_at_call 53; refine (hsp _).mono ?_; rintro e w1 ⟨rfl, g1⟩; replace hS := hS.kp g1; have kA : Kb b w w1 := Kb.of g1; have hgr := hgr w1 ws hS) | (go_at_call 58; refine (hso _).mono ?_; rintro e w' ⟨rfl, hw'⟩; obtain rfl := hw'.symm; clear hw') | (go_at_call 56; refine hgr.mono ?_; rintro e w3 ⟨⟨v8, rfl⟩, hZ, k3⟩))
  exact bodyPost_end (v := .tuple #[]) (by kernel_rfl) rfl ⟨⟨_, rfl⟩, hZ, kA.trans k3⟩

theorem Bk.word0 {w : World} {b : Nat} {ws : List Nat} {t : TypeId} (h : Bk w b (wc ws) t) (j : Nat) (hj : j < ws.length) : w.cell? ⟨b, j, none⟩ = some (.int .u64 ((ws.getD j 0 : Nat) : Int)) := by
  rw [h.cell j, wc_get ws j hj]
theorem Bk.setw0 {w : World} {b : Nat} {ws : List Nat} {t : TypeId} (h : Bk w b (wc ws) t) (j x : Nat) : Bk (w.setCell ⟨b, j, none⟩ (.int .u64 (x : Int))) b (wc (ws.set j x)) t := by
  have q := h.put j (.int .u64 (x : Int))
  rwa [wc_set] at q
theorem zeroW : ∀ w : World, (zeroValue 52).run Tryz.prog w = .ok (.agg (wc (List.replicate 67 0))) w := (zero_of_info (P := Tryz.prog) (t := 52) (v := .agg (wc (List.replicate 67 0))) (n := 67) (by kernel_rfl)).1
theorem loadW {w : World} {b : Nat} {ws : List Nat} {t : TypeId} (h : Bk w b (wc ws) t) (hl : ws.length = 67) : (loadVar 52 ⟨b, 0, none⟩).run Tryz.prog w = .ok (.agg (wc ws)) w :=
  run_loadVar_row w b t 52 (wc ws) (0, 0) _ h undW rfl (by rw [wc_size, hl]; exact infoW)
theorem storeW {w : World} {b : Nat} {C : Array Value} {ws : List Nat} {t : TypeId} (h : Bk w b C t) (hC : C.size = 67) (hl : ws.length = 67) : (storeVar 52 ⟨b, 0, none⟩ (.agg (wc ws))).run Tryz.prog w = .ok () (w.setRow b (wc ws)) :=
  run_storeVar_row w b t 52 C (wc ws) h (by rw [wc_size, hl]; exact infoW) (by rw [wc_size, hl, hC]) (wc_one ws)
theorem putW {w : World} {b : Nat} {C : Array Value} {ws : List Nat} {t : TypeId} (h : Bk w b C t) (hC : C.size = 67) (hl : ws.length = 67) : (storeCells ⟨b, 0, none⟩ (wc ws).toList 0).run Tryz.prog w = .ok () (w.setRow b (wc ws)) := by
  have := storeW (ws := ws) h hC hl
  have hi := infoW
  cases hq : Tryz.prog.info? 52 with
  | none => simp [hq] at hi
  | some i =>
    have hs : (wc ws).size = i.size := by simp [hq] at hi; rw [wc_size, hl, hi]
    simpa [storeVar, sizeOf, typeInfo, hq, Value.cells, hs] using this
theorem results_cell1 {fn : Func} {p : Tmp} {ty : TypeId} (h : fn.results = #[.cell p ty]) (tmps : Array Value) (P : Program) (w : World) :
    (results fn tmps).run P w = ((asAddr (tmps.getD p undef)).run P w).andThen fun a w₁ => (loadVar ty a).run P w₁ := by
  simp only [results, h]
  simp [Sem.run_bind, Result.andThen]
theorem wpl_load {P : Program} {ops : Array Oper} {rest : List Oper} {op : Oper} {a : Act} {w : World} {Q : Exit → Act → World → Prop} (hgd : op.guard = none) (ty : TypeId) (x : Operand) (ho : op.op = .load ty x) (b o : Nat) (hx : a.eval x = .pointer (some ⟨b, o, none⟩)) (v : Value) (hr : (loadVar ty ⟨b, o, none⟩).run P w = .ok v w) (h : wpList P ops Q rest (a.put op.dst v) w) : wpList P ops Q (op :: rest) a w :=
  wpList_plain hgd fun _ hK => by
    unfold Oper.wp execOp
    simp only [ho, hx, Instr.loadAt, Instr.sureAddr, Sem.run_bind, Sem.run_pure, Result.andThen_ok, hr]
    exact hK _ _ h
theorem wpl_val {P : Program} {ops : Array Oper} {rest : List Oper} {op : Oper} {a : Act} {w : World} {Q : Exit → Act → World → Prop} (hgd : op.guard = none) (v : Value) (hr : (execOp a.eval op).run P w = .ok (.value v) w) (h : wpList P ops Q rest (a.put op.dst v) w) : wpList P ops Q (op :: rest) a w :=
  wpList_plain hgd fun _ hK => by
    unfold Oper.wp
    rw [hr]
    exact hK _ _ h
theorem wpl_field {P : Program} {ops : Array Oper} {rest : List Oper} {op : Oper} {a : Act} {w : World} {Q : Exit → Act → World → Prop} (hgd : op.guard = none) (t : TypeId) (x : Operand) (i : Nat) (ho : op.op = .fieldAddr t x i) (p v : Value) (hx : a.eval x = p) (hr : (Instr.fieldAt t p i).run P w = .ok v w) (h : wpList P ops Q rest (a.put op.dst v) w) : wpList P ops Q (op :: rest) a w :=
  wpList_plain hgd fun _ hK => by
    unfold Oper.wp execOp
    simp only [ho, hx, Sem.run_bind, Sem.run_pure, Result.andThen_ok, hr]
    exact hK _ _ h
theorem wpl_store {P : Program} {ops : Array Oper} {rest : List Oper} {op : Oper} {a : Act} {w : World} {Q : Exit → Act → World → Prop} (hgd : op.guard = none) (ty : TypeId) (x y : Operand) (ho : op.op = .store ty x y) (b o : Nat) (hx : a.eval x = .pointer (some ⟨b, o, none⟩)) (v : Value) (hy : a.eval y = v) (w2 : World) (hr : (storeVar ty ⟨b, o, none⟩ v).run P w = .ok () w2) (h : wpList P ops Q rest (a.put op.dst undef) w2) : wpList P ops Q (op :: rest) a w :=
  wpList_plain hgd fun _ hK => by
    unfold Oper.wp execOp
    simp only [ho, hx, hy, Instr.storeAt, Instr.sureAddr, Sem.run_bind, Sem.run_pure, Result.andThen_ok, hr]
    exact hK _ _ h
theorem Bk.setRow {w : World} {b : Nat} {C : Array Value} {t : TypeId} (h : Bk w b C t) (D : Array Value) : Bk (w.setRow b D) b D t := setRow_heap w b C D t (0, 0) h
theorem Kp.setRow {a w : World} (h : Kp a w) {b : Nat} (hb : a.heap.size ≤ b) (D : Array Value) : Kp a (w.setRow b D) := by
  refine ⟨h.os, h.tape, h.output, by have := h.size; simpa [World.setRow] using this, fun k hk => ?_⟩
  rw [← Below.block h k hk]
  simp only [World.setRow, Array.getElem?_modify]
  rw [if_neg (by omega)]
set_option maxRecDepth 20000 in
set_option maxHeartbeats 1000000 in
theorem plus_ (a c9 : List Nat) (V U : Int) (ha : Rep a V) (hc : Rep c9 U) (w : World) : Calls Tryz.prog 65 #[.agg (wc a), .agg (wc c9)] w fun e w' => ∃ z : List Nat, e = .returned (.agg (wc z)) ∧ Rep z (V + U) ∧ Kp w w' := by
  have hz := zeroW
  have hW : Hid (Rep a V ∧ Rep c9 U) := ⟨ha, hc⟩
  obtain ⟨Ca, hCa⟩ : ∃ Ca, Ca = wc a := ⟨_, rfl⟩
  rw [← hCa]
  obtain ⟨Cc, hCc⟩ : ∃ Cc, Cc = wc c9 := ⟨_, rfl⟩
  rw [← hCc]
  have hZs : (wc (List.replicate 67 0)).size = 67 := by rw [wc_size, List.length_replicate]
  generalize wc (List.replicate 67 0) = Z at hz hZs
  have HC : Hid (Ca = wc a ∧ Cc = wc c9) := ⟨hCa, hCc⟩
  have HZ : Hid (Z.size = 67) := hZs
  obtain ⟨g, hg⟩ : ∃ g, g = w.heap.size := ⟨_, rfl⟩
  have HG : Hid (g = w.heap.size) := hg
  clear hCa hCc hc ha hZs
  go_enter Tryz.func65, Tryz.ntmps65
  go_wp2
  rw [← hg]
  clear hz hg
  go_loopw [5, 7] (fun cc ii wr => ∃ (i c : Nat) (z : List Nat), cc = .int .u64 (c : Int) ∧ ii = .int .i64 (i : Int) ∧ i ≤ 67 ∧ Plu a c9 z i c ∧ Bk wr g (wc z) 52 ∧ Bk wr (g + 1) (wc c9) 52 ∧ Bk wr (g + 1 + 1) Z 52 ∧ Kp w wr) (fun _ i _ => 67 - (intOf i).toNat)
  case atStart =>
    have e := HG.out
    obtain ⟨c1, c2⟩ := HC.out
    rw [e, c1, c2]
    obtain ⟨ha, hc⟩ := hW.out
    exact ⟨0, 0, a, rfl, rfl, by omega, Plu.start ha.1 ha.2.1, ((Bk.new _ _ _).alloc _).alloc _, (Bk.newAt (by simp) _ _).alloc _, Bk.newAt (by simp) _ _, (((Kp.refl w).alloc _).alloc _).alloc _⟩
  case round =>
    obtain ⟨i, c, z, rfl, rfl, hi, hP, b1, b2, b3, hk⟩ := hrel
    obtain ⟨ha, hc⟩ := hW.out
    by_cases ci : i < 67
    · have e1 := b1.word0 i (by rw [hP.1]; exact ci)
      have e2 := b1.frozen i
      rw [hP.2.2.2.2 i (Nat.le_refl _)] at e1
      have e3 := b2.word0 i (by rw [hc.1]; exact ci)
      have had := add64_ (a.getD i 0) (c9.getD i 0) c hP.2.2.1
      have hP2 := hP.next ha.1 hc.1 ha.2.1 hc.2.1 ci
      generalize (a.getD i 0 + c9.getD i 0 + c) % 18446744073709551616 = x at *
      generalize (a.getD i 0 + c9.getD i 0 + c) / 18446744073709551616 = c2 at *
      generalize a.getD i 0 = ya at *
      generalize c9.getD i 0 = yc at *
      have b1' := b1.setw0 i x
      have b2' := b2.far ⟨g, i, none⟩ (.int .u64 (x : Int)) (show g ≠ g + 1 by omega)
      have b3' := b3.far ⟨g, i, none⟩ (.int .u64 (x : Int)) (show g ≠ g + 1 + 1 by omega)
      have hk' : Kp w (wr.setCell ⟨g, i, none⟩ (.int .u64 (x : Int))) := hk.setCell (by rw [HG.out]; exact Nat.le_refl _) _
      have j1 : (i : Int) < 67 := by omega
      have j2 : i + 1 ≤ 67 := by omega
      have j3 : 67 - (i + 1) < 67 - i := by omega
      clear hP b1 b2 b3 hk hi hc ha
      go_wp2_with (fail)
      first | (go_region_with (fail)) | fail
      all_goals (
        go_wp2
        exact ⟨⟨i + 1, c2, z.set i x, rfl, by go_num, j2, hP2, b1'.drew, b2'.drew, b3'.drew, hk'.drew⟩, (show 67 - (i + 1) < 67 - i from j3)⟩)
    · have hi67 : i = 67 := by omega
      have hP : Plu a c9 z 67 c := by rw [hi67] at hP; exact hP
      have hR := hP.rep ha hc
      have t1 : ¬ ((i : Int) < 67) := by omega
      have hld := loadW b1 hP.1
      have hst := storeW (ws := z) b3 HZ.out hP.1
      have b4 := b3.setRow (wc z)
      have hld2 := loadW b4 hP.1
      have k4 : Kp w (wr.setRow (g + 1 + 1) (wc z)) := hk.setRow (by rw [HG.out]; omega) _
      clear hP b1 b2 hc b3 hk hi hi67 ci ha b4
      go_upto_region 7 with fail
      refine wp_region_list ?_
      refine wpl_load rfl 52 _ rfl g 0 rfl _ hld ?_
      refine wpl_store rfl 52 _ _ rfl (g + 1 + 1) 0 rfl _ rfl _ hst ?_
      go_wp2
      exact bodyPost_ret (v := .agg (wc z)) (by rw [results_cell1 (p := 4) (ty := 52) Tryz.results65]; exact hld2) rfl ⟨z, rfl, hR, k4⟩
set_option maxRecDepth 20000 in
set_option maxHeartbeats 1000000 in
theorem turned_ (a : List Nat) (V : Int) (ha : Rep a V) (w : World) : Calls Tryz.prog 66 #[.agg (wc a)] w fun e w' => ∃ z : List Nat, e = .returned (.agg (wc z)) ∧ Rep z (-V) ∧ Kp w w' := by
  have hz := zeroW
  have hW : Hid (Rep a V) := ha
  obtain ⟨Ca, hCa⟩ : ∃ Ca, Ca = wc a := ⟨_, rfl⟩
  rw [← hCa]
  have hZs : (wc (List.replicate 67 0)).size = 67 := by rw [wc_size, List.length_replicate]
  generalize wc (List.replicate 67 0) = Z at hz hZs
  have HC : Hid (Ca = wc a) := hCa
  have HZ : Hid (Z.size = 67) := hZs
  obtain ⟨g, hg⟩ : ∃ g, g = w.heap.size := ⟨_, rfl⟩
  have HG : Hid (g = w.heap.size) := hg
  clear hCa  ha hZs
  go_enter Tryz.func66, Tryz.ntmps66
  go_wp2
  rw [← hg]
  clear hz hg
  go_loopw [3, 5] (fun cc ii wr => ∃ (i c : Nat) (z : List Nat), cc = .int .u64 (c : Int) ∧ ii = .int .i64 (i : Int) ∧ i ≤ 67 ∧ Trn a z i c ∧ Bk wr g (wc z) 52 ∧ Bk wr (g + 1) Z 52 ∧ Kp w wr) (fun _ i _ => 67 - (intOf i).toNat)
  case atStart =>
    have e := HG.out
    have c1 := HC.out
    rw [e, c1]
    have ha := hW.out
    exact ⟨0, 1, a, rfl, rfl, by omega, Trn.start ha.1 ha.2.1, (Bk.new _ _ _).alloc _, Bk.newAt (by simp) _ _, ((Kp.refl w).alloc _).alloc _⟩
  case round =>
    obtain ⟨i, c, z, rfl, rfl, hi, hP, b1, b3, hk⟩ := hrel
    have ha := hW.out
    by_cases ci : i < 67
    · have e1 := b1.word0 i (by rw [hP.1]; exact ci)
      have e2 := b1.frozen i
      rw [hP.2.2.2.2 i (Nat.le_refl _)] at e1
      have hx := xorN (a.getD i 0) (ha.2.1 i)
      have had : ∀ w : World, _ := fun w => add64_ (18446744073709551615 - a.getD i 0) 0 c hP.2.2.1 w
      rw [show ((0 : Nat) : Int) = 0 from rfl] at had
      have hP2 := hP.next ha.1 ha.2.1 ci
      generalize (18446744073709551615 - a.getD i 0 + 0 + c) % 18446744073709551616 = x at *
      generalize (18446744073709551615 - a.getD i 0 + 0 + c) / 18446744073709551616 = c2 at *
      generalize a.getD i 0 = ya at *
      generalize 18446744073709551615 - ya = yn at *
      have b1' := b1.setw0 i x
      have b3' := b3.far ⟨g, i, none⟩ (.int .u64 (x : Int)) (show g ≠ g + 1 by omega)
      have hk' : Kp w (wr.setCell ⟨g, i, none⟩ (.int .u64 (x : Int))) := hk.setCell (by rw [HG.out]; exact Nat.le_refl _) _
      have j1 : (i : Int) < 67 := by omega
      have j2 : i + 1 ≤ 67 := by omega
      have j3 : 67 - (i + 1) < 67 - i := by omega
      clear hP b1 b3 hk hi ha
      go_wp2_with (fail)
      all_goals (
        try go_wp2
        exact ⟨⟨i + 1, c2, z.set i x, rfl, by go_num, j2, hP2, b1', b3', hk'⟩, (show 67 - (i + 1) < 67 - i from j3)⟩)
    · have hi67 : i = 67 := by omega
      have hP : Trn a z 67 c := by rw [hi67] at hP; exact hP
      have hR := hP.rep ha
      have t1 : ¬ ((i : Int) < 67) := by omega
      have hld := loadW b1 hP.1
      have hst := storeW (ws := z) b3 HZ.out hP.1
      have b4 := b3.setRow (wc z)
      have hld2 := loadW b4 hP.1
      have k4 : Kp w (wr.setRow (g + 1) (wc z)) := hk.setRow (by rw [HG.out]; omega) _
      clear hP b1 b3 hk hi hi67 ci ha b4
      go_upto_region 7 with fail
      refine wp_region_list ?_
      refine wpl_load rfl 52 _ rfl g 0 rfl _ hld ?_
      refine wpl_store rfl 52 _ _ rfl (g + 1) 0 rfl _ rfl _ hst ?_
      go_wp2
      exact bodyPost_ret (v := .agg (wc z)) (by rw [results_cell1 (p := 2) (ty := 52) Tryz.results66]; exact hld2) rfl ⟨z, rfl, hR, k4⟩
end Go.Proofs.YteedfmghgkmofaaGreatDoor
