import Derived.Test.YtcckdceijgdgoaaKPKn
namespace Go.Proofs.Ytcckdceijgdgoaa
open Go.RowKit
open Go
namespace B8
theorem arr_one (w : World) (R : Int) : Arr (w.alloc (.cells #[.int .u8 R] 5)) (some ⟨w.heap.size, 0, none⟩) [R] := Or.inr ⟨_, 0, rfl, fun j hj => by
  have : j = 0 := by simp at hj; omega
  subst this; simp [go_sem]⟩
end B8
open Go
namespace B8
theorem wpList_app {P : Program} (w : World) {ops : Array Oper} {rest : List Oper} {o : Oper} {a : Act} {Q : Exit → Act → World → Prop} (hw : Region.wanted o (yielded ops a.tmps) = true) (s x : Operand) (t : TypeId)
    (ho : o.op = .call { callee := .builtin .append, args := #[s, x], argTypes := #[t, t] }) (v u v' : Value) (w' : World) (hs : a.eval s = v) (hx : a.eval x = u)
    (hr : (Builtin.append_ #[t, t] o.type #[v, u]).run P w = .ok v' w') (h : wpList P ops Q rest (a.put o.dst v') w') : wpList P ops Q (o :: rest) a w := by
  refine wpList_step fun K hK => ?_
  rw [if_pos hw]
  unfold Oper.wp execOp
  simp only [ho, resolve, invoke, builtin, Sem.run_bind, Sem.run_pure, Result.andThen_ok, List.map_toArray, List.map_cons, List.map_nil, hs, hx, hr]
  exact hK _ _ h
theorem app_run (w : World) (base : Nat) (v : Value) (xs ys : List Int) (b off m c : Nat) (hown : Own w base v xs) (ha : Arr w (some ⟨b, off, none⟩) ys) (hl : ys.length = m) (hb : xs.length + m ≤ 1048576) (hbase : base ≤ w.heap.size) :
    ∃ v' w', (Builtin.append_ #[35, 35] 35 #[v, .slice (some ⟨b, off, none⟩) m c]).run Try.prog w = .ok v' w' ∧ Own w' base v' (xs ++ ys) ∧ (∀ W : World, Kp W w → (∀ k, v.ownBlock = some k → W.heap.size ≤ k) → Kp W w') := by
  obtain ⟨i0, hi0, hi1, hi2, hi3⟩ := inf8p
  obtain ⟨v', w', hr, ho, hg, -⟩ := run_append_own (P := Try.prog) w base 35 35 5 i0 (.int .u8 0) 1 1 Try.underlying35 hi0 hi1 hi2 hi3 rfl (by decide) v xs.length (xs.map (Value.int .u8)) hown ⟨b, off, none⟩ m c (ys.map (Value.int .u8)) (by rw [List.length_map, hl]; omega) (fun j u hu => by
    have hj : j < ys.length := by
      have := (List.getElem?_eq_some_iff.1 hu).1
      simpa using this
    obtain ⟨b', off', e, hc⟩ := ha.at hj
    obtain ⟨rfl, rfl⟩ : b = b' ∧ off = off' := by simpa using e
    rw [addr_add, hc j hj]
    simpa [List.getD, hj] using hu) (fun u hu => by obtain ⟨x, _, rfl⟩ := List.mem_map.1 hu; rfl) (by unfold maxLen; omega) (by omega) hbase
  refine ⟨v', w', hr, ?_, fun W hk hW => hk.grown hg hW⟩
  unfold Own
  rw [List.length_append, List.map_append, hl]
  exact ho
end B8
end Go.Proofs.Ytcckdceijgdgoaa
