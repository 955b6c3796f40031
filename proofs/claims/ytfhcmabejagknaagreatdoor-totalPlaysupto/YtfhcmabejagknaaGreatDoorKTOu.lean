import Derived.Test.YtfhcmabejagknaaGreatDoorKTQf
import Derived.Deep.RegionHeld
import Derived.OrdersHeld
set_option maxHeartbeats 2000000
set_option maxRecDepth 20000
namespace Go.Proofs.YtfhcmabejagknaaGreatDoor
open Go.RowKit
set_option linter.unusedVariables false
set_option linter.unusedSimpArgs false

theorem Bk.cellsTo {b:Nat} {t:TypeId}:∀ (vs:List Value) (o:Nat) (w:World) (C:Array Value),Bk w b C t→∃ D,Bk (w.setCells b o vs) b D t∧D.size = C.size∧(∀ j,j < o→D[j]? = C[j]?)∧(∀ j,o + vs.length≤j→D[j]? = C[j]?)∧(∀ j,j < vs.length→o + j < C.size→D[o + j]? = vs[j]?)
  | [],o,w,C,h=>⟨C,h,rfl,fun _ _=>rfl,fun _ _=>rfl,fun j hj=>by simp at hj⟩
  | v :: vs,o,w,C,h=>by
    obtain ⟨D,d1,d2,d3,d4,d5⟩:=Bk.cellsTo vs (o + 1) _ _ (h.put o v)
    refine ⟨D,d1,by rw [d2];simp,fun j hj=>?_,fun j hj=>?_,fun j hj hs=>?_⟩
    · rw [d3 j (by omega),Array.getElem?_setIfInBounds_ne (by omega)]
    · rw [d4 j (by simp at hj;omega),Array.getElem?_setIfInBounds_ne (by simp at hj;omega)]
    · cases j with
      | zero =>
        rw [Nat.add_zero,d3 o (by omega),Array.getElem?_setIfInBounds_self_of_lt (by simpa using hs)];rfl
      | succ j =>
        have:=d5 j (by simpa using hj) (by simp;omega)
        rw [show o + (j + 1) = o + 1 + j by omega,this];rfl
theorem Kb.cellsTo (b:Nat):∀ (vs:List Value) (o:Nat) (a w:World),Kb b a w→Kb b a (w.setCells b o vs)
  | [],_,_,_,h=>h
  | v :: vs,o,a,w,h=>Kb.cellsTo b vs (o + 1) a _ (h.setCell o v)
theorem Sb.setW {w:World} {b:Nat} {ws:List Nat} {k:Nat} {s:Int} (h:Sb w b ws k s) (z:List Nat) (hz:z.length = 67):Sb (w.setCells b 0 (wc z).toList) b z k s:=by
  obtain ⟨D,d1,d2,d3,d4,d5⟩:=Bk.cellsTo (wc z).toList 0 w _ h.2
  have e:D = wc z ++ #[.int .u64 (k:Int),.int .i64 s]:=by
    apply Array.ext_getElem?
    intro j
    have hzs:(wc z).size = 67:=by rw [wc_size,hz]
    have hws:(wc ws).size = 67:=by rw [wc_size,h.1]
    by_cases c:j < 67
    · have:=d5 j (by simpa [hzs] using c) (by rw [Array.size_append,hws];omega)
      rw [Nat.zero_add] at this
      rw [this,Array.getElem?_append_left (by omega)];simp
    · rw [d4 j (by simp [hzs];omega),Array.getElem?_append_right (by omega),Array.getElem?_append_right (by omega),hzs,hws]
  rw [e] at d1
  exact ⟨hz,d1⟩
theorem storeS {w:World} {b:Nat} {ws:List Nat} {k:Nat} {s:Int} (h:Sb w b ws k s) (z:List Nat) (hz:z.length = 67):(storeVar 39 ⟨b,0,none⟩ (.agg (wc z))).run Tryz.prog w = .ok () (w.setCells b 0 (wc z).toList):=by
  refine run_storeVar_mid w b 0 39 (wc z) (fun j hj=>?_) (by rw [wc_size,hz];exact infoW) (wc_one z)
  rw [wc_size,hz] at hj
  rw [Nat.zero_add]
  exact ⟨by rw [h.2.word j (by rw [h.1];exact hj)];rfl,h.2.frozen j⟩
theorem exF {P:Program} {ρ:Operand→Value} {op:Oper} {t:TypeId} {x:Operand} {i:Nat} {w:World} {v:Value} (ho:op.op = .fieldAddr t x i) (p:Value) (hx:ρ x = p) (hr:(Instr.fieldAt t p i).run P w = .ok v w):(execOp ρ op).run P w = .ok (.value v) w:=by
  unfold execOp
  simp only [ho,hx,Sem.run_bind,Sem.run_pure,Result.andThen_ok,hr]
theorem wpo_load {P:Program} {op:Oper} {a:Act} {w:World} {K:Act→World→Prop} {Q:Exit→Act→World→Prop} (ty:TypeId) (x:Operand) (ho:op.op = .load ty x) (b o:Nat) (hx:a.eval x = .pointer (some ⟨b,o,none⟩)) (v:Value) (hr:(loadVar ty ⟨b,o,none⟩).run P w = .ok v w) (h:K (a.put op.dst v) w):op.wp P a w K Q:=by
  unfold Oper.wp execOp
  simp only [ho,hx,Instr.loadAt,Instr.sureAddr,Sem.run_bind,Sem.run_pure,Result.andThen_ok,hr]
  exact h
theorem wpo_store {P:Program} {op:Oper} {a:Act} {w:World} {K:Act→World→Prop} {Q:Exit→Act→World→Prop} (ty:TypeId) (x y:Operand) (ho:op.op = .store ty x y) (b o:Nat) (hx:a.eval x = .pointer (some ⟨b,o,none⟩)) (v:Value) (hy:a.eval y = v) (w2:World) (hr:(storeVar ty ⟨b,o,none⟩ v).run P w = .ok () w2) (h:K (a.put op.dst undef) w2):op.wp P a w K Q:=by
  unfold Oper.wp execOp
  simp only [ho,hx,hy,Instr.storeAt,Instr.sureAddr,Sem.run_bind,Sem.run_pure,Result.andThen_ok,hr]
  exact h
theorem merge_cells {w1:World} {b1 b2:Nat} {ws1 ws2 z:List Nat} {k1 k2:Nat} {s1 s2:Int} (h1:Sb w1 b1 ws1 k1 s1) (h2:Sb w1 b2 ws2 k2 s2) (hz:z.length = 67):(w1.setCells b1 0 (wc z).toList).cell? ⟨b2,67,none⟩ = some (.int .u64 (k2:Int))∧(w1.setCells b1 0 (wc z).toList).cell? ⟨b2,68,none⟩ = some (.int .i64 s2):=by
  by_cases c:b2 = b1
  · subst c
    have a1:=h1.setW z hz
    exact ⟨by rw [a1.terms,← h1.terms,h2.terms],by rw [a1.state,← h1.state,h2.state]⟩
  · have a2:=h2.kb (Kb.cellsTo b1 (wc z).toList 0 w1 w1 (Kb.refl _ _)) c
    exact ⟨a2.terms,a2.state⟩
theorem merge_ (b1 b2:Nat) (ws1 ws2:List Nat) (V1 V2:Int) (hV1:Rep ws1 V1) (hV2:Rep ws2 V2) (k1 k2:Nat) (s1 s2:Int) (w:World) (h1:Sb w b1 ws1 k1 s1) (h2:Sb w b2 ws2 k2 s2):Calls Tryz.prog 13 #[.pointer (some ⟨b1,0,none⟩),.pointer (some ⟨b2,0,none⟩)] w fun e w'=>∃ z,(∃ v,e = .returned v)∧Sb w' b1 z ((k1 + k2) % 18446744073709551616) (grS ((k1 + k2) % 18446744073709551616) (jn s1 s2))∧Rep z (V1 + V2)∧Kb b1 w w':=by
  have hpl:=plus_ ws1 ws2 V1 V2 hV1 hV2
  have hl1:(loadVar 39 ⟨b1,0,none⟩).run Tryz.prog w.drew = .ok (.agg (wc ws1)) w.drew:=loadS (w:=w.drew) h1
  have hl2:(loadVar 39 ⟨b2,0,none⟩).run Tryz.prog w.drew = .ok (.agg (wc ws2)) w.drew:=loadS (w:=w.drew) h2
  generalize hC1:wc ws1 = C1 at hpl hl1
  generalize hC2:wc ws2 = C2 at hpl hl2
  have HC:Hid (wc ws1 = C1∧wc ws2 = C2):=⟨hC1,hC2⟩
  clear hC1 hC2
  go_enter Tryz.func13,Tryz.ntmps13
  go_upto_region 0 with fail
  refine wp_region_held_drew (S:=fun _=>True) (by kernel_rfl) trivial (fun _=>?_)
  refine wpAnyH_take (i:=0) (v:=.pointer (some ⟨b1,0,none⟩)) rfl (by kernel_rfl) (by kernel_rfl) (by kernel_rfl) (fun _ _ _ h=>h) (Or.inl ⟨by rfl,fun w _=>rfl⟩) trivial ?_
  try simp only [Act.put,List.getElem_toArray,List.getElem_cons_zero,List.getElem_cons_succ,List.setIfInBounds_toArray,List.set_cons_zero,List.set_cons_succ]
  refine wpAnyH_take (i:=1) (v:=.pointer (some ⟨b1,0,none⟩)) rfl (by kernel_rfl) (by kernel_rfl) (by kernel_rfl) (fun _ _ _ h=>h) (Or.inl ⟨by rfl,fun w _=>rfl⟩) trivial ?_
  try simp only [Act.put,List.getElem_toArray,List.getElem_cons_zero,List.getElem_cons_succ,List.setIfInBounds_toArray,List.set_cons_zero,List.set_cons_succ]
  refine wpAnyH_take (i:=2) (v:=.pointer (some ⟨b1,0,none⟩)) rfl (by kernel_rfl) (by kernel_rfl) (by kernel_rfl) (fun _ _ _ h=>h) (Or.inl ⟨by rfl,fun w _=>rfl⟩) trivial ?_
  try simp only [Act.put,List.getElem_toArray,List.getElem_cons_zero,List.getElem_cons_succ,List.setIfInBounds_toArray,List.set_cons_zero,List.set_cons_succ]
  refine wpAnyH_take (i:=3) (v:=.pointer (some ⟨b1,0,none⟩)) rfl (by kernel_rfl) (by kernel_rfl) (by kernel_rfl) (fun _ _ _ h=>h) (Or.inl ⟨by rfl,fun w _=>exF rfl _ rfl (fa0 b1 w)⟩) trivial ?_
  try simp only [Act.put,List.getElem_toArray,List.getElem_cons_zero,List.getElem_cons_succ,List.setIfInBounds_toArray,List.set_cons_zero,List.set_cons_succ]
  refine wpAnyH_take (i:=5) (v:=.pointer (some ⟨b2,0,none⟩)) rfl (by kernel_rfl) (by kernel_rfl) (by kernel_rfl) (fun _ _ _ h=>h) (Or.inl ⟨by rfl,fun w _=>rfl⟩) trivial ?_
  try simp only [Act.put,List.getElem_toArray,List.getElem_cons_zero,List.getElem_cons_succ,List.setIfInBounds_toArray,List.set_cons_zero,List.set_cons_succ]
  refine wpAnyH_take (i:=6) (v:=.pointer (some ⟨b2,0,none⟩)) rfl (by kernel_rfl) (by kernel_rfl) (by kernel_rfl) (fun _ _ _ h=>h) (Or.inl ⟨by rfl,fun w _=>rfl⟩) trivial ?_
  try simp only [Act.put,List.getElem_toArray,List.getElem_cons_zero,List.getElem_cons_succ,List.setIfInBounds_toArray,List.set_cons_zero,List.set_cons_succ]
  refine wpAnyH_take (i:=7) (v:=.pointer (some ⟨b2,0,none⟩)) rfl (by kernel_rfl) (by kernel_rfl) (by kernel_rfl) (fun _ _ _ h=>h) (Or.inl ⟨by rfl,fun w _=>exF rfl _ rfl (fa0 b2 w)⟩) trivial ?_
  try simp only [Act.put,List.getElem_toArray,List.getElem_cons_zero,List.getElem_cons_succ,List.setIfInBounds_toArray,List.set_cons_zero,List.set_cons_succ]
  refine wpAnyH_ready (rs:=[4,8]) (by kernel_rfl) (by simp) ?_
  refine AllReadyH.cons rfl (fun K hK=>?_) (AllReadyH.cons rfl (fun K hK=>?_) AllReadyH.nil)
  · rw [if_pos (by rfl)]
    refine wpo_load 39 _ rfl b1 0 rfl _ hl1 ?_
    refine hK.out _ _ trivial (fun _=>?_)
    clear hK K
    try simp only [Act.put,List.getElem_toArray,List.getElem_cons_zero,List.getElem_cons_succ,List.setIfInBounds_toArray,List.set_cons_zero,List.set_cons_succ]
    refine wpAnyH_ready (rs:=[8]) (by kernel_rfl) (by simp) ?_
    refine AllReadyH.cons rfl (fun K hK=>?_) AllReadyH.nil
    rw [if_pos (by rfl)]
    refine wpo_load 39 _ rfl b2 0 rfl _ hl2 ?_
    refine hK.out _ _ trivial (fun _=>?_)
    clear hK K
    try simp only [Act.put,List.getElem_toArray,List.getElem_cons_zero,List.getElem_cons_succ,List.setIfInBounds_toArray,List.set_cons_zero,List.set_cons_succ]
    refine wpAnyH_ready (rs:=[9]) (by kernel_rfl) (by simp) ?_
    refine AllReadyH.cons rfl (fun K hK=>?_) AllReadyH.nil
    go_simp
    refine (hpl _).mono ?_
    rintro e w1 ⟨z,rfl,hz,g1⟩
    go_wp2_with fail
    refine hK.out _ _ trivial (fun _=>?_)
    clear hK K
    try simp only [Act.put,List.getElem_toArray,List.getElem_cons_zero,List.getElem_cons_succ,List.setIfInBounds_toArray,List.set_cons_zero,List.set_cons_succ]
    refine wpAnyH_take (i:=10) (v:=.pointer (some ⟨b1,0,none⟩)) rfl (by kernel_rfl) (by kernel_rfl) (by kernel_rfl) (fun _ _ _ h=>h) (Or.inl ⟨by rfl,fun w _=>rfl⟩) trivial ?_
    try simp only [Act.put,List.getElem_toArray,List.getElem_cons_zero,List.getElem_cons_succ,List.setIfInBounds_toArray,List.set_cons_zero,List.set_cons_succ]
    refine wpAnyH_take (i:=11) (v:=.pointer (some ⟨b1,0,none⟩)) rfl (by kernel_rfl) (by kernel_rfl) (by kernel_rfl) (fun _ _ _ h=>h) (Or.inl ⟨by rfl,fun w _=>exF rfl _ rfl (fa0 b1 w)⟩) trivial ?_
    try simp only [Act.put,List.getElem_toArray,List.getElem_cons_zero,List.getElem_cons_succ,List.setIfInBounds_toArray,List.set_cons_zero,List.set_cons_succ]
    refine wpAnyH_ready (rs:=[12]) (by kernel_rfl) (by simp) ?_
    refine AllReadyH.cons rfl (fun K hK=>?_) AllReadyH.nil
    rw [if_pos (by rfl)]
    have g2:Kp w w1:=((Kp.refl w).drew).trans g1
    have h1':=h1.kp g2
    have h2':=h2.kp g2
    refine wpo_store 39 _ _ rfl b1 0 rfl _ rfl _ (storeS h1' z hz.1) ?_
    refine hK.out _ _ trivial (fun _=>?_)
    clear hK K
    try simp only [Act.put,List.getElem_toArray,List.getElem_cons_zero,List.getElem_cons_succ,List.setIfInBounds_toArray,List.set_cons_zero,List.set_cons_succ]
    refine wpAnyH_done (by kernel_rfl) ?_ _
    obtain ⟨q67,q68⟩:=merge_cells h1' h2' hz.1
    have hZ:=h1'.setW z hz.1
    have kb:Kb b1 w (w1.setCells b1 0 (wc z).toList):=Kb.cellsTo b1 _ 0 w w1 (Kb.of g2)
    generalize w1.setCells b1 0 (wc z).toList = W at *
    have hgr:=fun (W':World) (h:Sb W' b1 z k1 s1)=>grow_ b1 z k1 k2 s1 s2 W' h
    have d67:W.drew.cell? ⟨b2,67,none⟩ = some (.int .u64 (k2:Int)):=q67
    have d68:W.drew.cell? ⟨b2,68,none⟩ = some (.int .i64 s2):=q68
    have hgr2:=hgr W.drew hZ
    have kb2:Kb b1 w W.drew:=kb.drew
    clear h1' h2' g1 g2 h1 h2 hpl hV1 hV2 hgr hZ kb
    go_wp2_with fail
    first | (go_region_with (go_at_call 31;refine hgr2.mono ?_;rintro e w9 ⟨⟨v9,rfl⟩,hS9,k9⟩)) | fail
    all_goals (
      go_wp2
      exact bodyPost_end (v:=.tuple #[]) (by kernel_rfl) rfl (by first | exact ⟨⟨_,rfl⟩,z,hS9,hz,kb2.trans k9⟩ | exact ⟨z,⟨_,rfl⟩,hS9,hz,kb2.trans k9⟩))
  · rw [if_pos (by rfl)]
    refine wpo_load 39 _ rfl b2 0 rfl _ hl2 ?_
    refine hK.out _ _ trivial (fun _=>?_)
    clear hK K
    try simp only [Act.put,List.getElem_toArray,List.getElem_cons_zero,List.getElem_cons_succ,List.setIfInBounds_toArray,List.set_cons_zero,List.set_cons_succ]
    refine wpAnyH_ready (rs:=[4]) (by kernel_rfl) (by simp) ?_
    refine AllReadyH.cons rfl (fun K hK=>?_) AllReadyH.nil
    rw [if_pos (by rfl)]
    refine wpo_load 39 _ rfl b1 0 rfl _ hl1 ?_
    refine hK.out _ _ trivial (fun _=>?_)
    clear hK K
    try simp only [Act.put,List.getElem_toArray,List.getElem_cons_zero,List.getElem_cons_succ,List.setIfInBounds_toArray,List.set_cons_zero,List.set_cons_succ]
    refine wpAnyH_ready (rs:=[9]) (by kernel_rfl) (by simp) ?_
    refine AllReadyH.cons rfl (fun K hK=>?_) AllReadyH.nil
    go_simp
    refine (hpl _).mono ?_
    rintro e w1 ⟨z,rfl,hz,g1⟩
    go_wp2_with fail
    refine hK.out _ _ trivial (fun _=>?_)
    clear hK K
    try simp only [Act.put,List.getElem_toArray,List.getElem_cons_zero,List.getElem_cons_succ,List.setIfInBounds_toArray,List.set_cons_zero,List.set_cons_succ]
    refine wpAnyH_take (i:=10) (v:=.pointer (some ⟨b1,0,none⟩)) rfl (by kernel_rfl) (by kernel_rfl) (by kernel_rfl) (fun _ _ _ h=>h) (Or.inl ⟨by rfl,fun w _=>rfl⟩) trivial ?_
    try simp only [Act.put,List.getElem_toArray,List.getElem_cons_zero,List.getElem_cons_succ,List.setIfInBounds_toArray,List.set_cons_zero,List.set_cons_succ]
    refine wpAnyH_take (i:=11) (v:=.pointer (some ⟨b1,0,none⟩)) rfl (by kernel_rfl) (by kernel_rfl) (by kernel_rfl) (fun _ _ _ h=>h) (Or.inl ⟨by rfl,fun w _=>exF rfl _ rfl (fa0 b1 w)⟩) trivial ?_
    try simp only [Act.put,List.getElem_toArray,List.getElem_cons_zero,List.getElem_cons_succ,List.setIfInBounds_toArray,List.set_cons_zero,List.set_cons_succ]
    refine wpAnyH_ready (rs:=[12]) (by kernel_rfl) (by simp) ?_
    refine AllReadyH.cons rfl (fun K hK=>?_) AllReadyH.nil
    rw [if_pos (by rfl)]
    have g2:Kp w w1:=((Kp.refl w).drew).trans g1
    have h1':=h1.kp g2
    have h2':=h2.kp g2
    refine wpo_store 39 _ _ rfl b1 0 rfl _ rfl _ (storeS h1' z hz.1) ?_
    refine hK.out _ _ trivial (fun _=>?_)
    clear hK K
    try simp only [Act.put,List.getElem_toArray,List.getElem_cons_zero,List.getElem_cons_succ,List.setIfInBounds_toArray,List.set_cons_zero,List.set_cons_succ]
    refine wpAnyH_done (by kernel_rfl) ?_ _
    obtain ⟨q67,q68⟩:=merge_cells h1' h2' hz.1
    have hZ:=h1'.setW z hz.1
    have kb:Kb b1 w (w1.setCells b1 0 (wc z).toList):=Kb.cellsTo b1 _ 0 w w1 (Kb.of g2)
    generalize w1.setCells b1 0 (wc z).toList = W at *
    have hgr:=fun (W':World) (h:Sb W' b1 z k1 s1)=>grow_ b1 z k1 k2 s1 s2 W' h
    have d67:W.drew.cell? ⟨b2,67,none⟩ = some (.int .u64 (k2:Int)):=q67
    have d68:W.drew.cell? ⟨b2,68,none⟩ = some (.int .i64 s2):=q68
    have hgr2:=hgr W.drew hZ
    have kb2:Kb b1 w W.drew:=kb.drew
    clear h1' h2' g1 g2 h1 h2 hpl hV1 hV2 hgr hZ kb
    go_wp2_with fail
    first | (go_region_with (go_at_call 31;refine hgr2.mono ?_;rintro e w9 ⟨⟨v9,rfl⟩,hS9,k9⟩)) | fail
    all_goals (
      go_wp2
      exact bodyPost_end (v:=.tuple #[]) (by kernel_rfl) rfl (by first | exact ⟨⟨_,rfl⟩,z,hS9,hz,kb2.trans k9⟩ | exact ⟨z,⟨_,rfl⟩,hS9,hz,kb2.trans k9⟩))

def St (w:World) (b:Nat) (V:Int) (k:Nat) (s:Int):Prop:=∃ ws,Rep ws V∧Sb w b ws k s
theorem St.kp {w w':World} {b:Nat} {V:Int} {k:Nat} {s:Int} (h:St w b V k s) (g:Kp w w'):St w' b V k s:=by
  obtain ⟨ws,h1,h2⟩:=h;exact ⟨ws,h1,h2.kp g⟩
theorem St.kb {w w':World} {b c:Nat} {V:Int} {k:Nat} {s:Int} (h:St w b V k s) (g:Kb c w w') (hne:b≠c):St w' b V k s:=by
  obtain ⟨ws,h1,h2⟩:=h;exact ⟨ws,h1,h2.kb g hne⟩
theorem St.lt {w:World} {b:Nat} {V:Int} {k:Nat} {s:Int} (h:St w b V k s):b < w.heap.size:=by
  obtain ⟨ws,h1,h2⟩:=h;exact h2.2.lt
def xV (X K:Nat):Int:=if X % 9223372036854775808 < 9218868437227405312 then tV (decide (9223372036854775808≤X)) (X % 9223372036854775808) K else 0
def xS (X:Nat):Int:=tS (decide (9223372036854775808≤X)) (X % 9223372036854775808)
theorem wD_parts (n:Bool) (m:Nat) (hm:m < 9223372036854775808):Fq.wD n m % 9223372036854775808 = m∧decide (9223372036854775808≤Fq.wD n m) = n:=by
  unfold Fq.wD
  cases n
  · simp;omega
  · simp;omega
theorem xV_le (X K:Nat) (hK:K = 1074):(xV X K).natAbs≤tb K:=by
  unfold xV
  by_cases c:X % 9223372036854775808 < 9218868437227405312
  · rw [if_pos c];exact tV_le _ _ K hK c
  · rw [if_neg c];simp

def rdW (d V s:Int):Nat:=if s = 0 then fmaW d V else limW s
theorem stround_ (d:Int) (hd1:-9223372036854775808≤d) (hd2:d < 9223372036854775808) (b:Nat) (V:Int) (k:Nat) (s:Int) (hb:V.natAbs < wh) (w:World) (h:St w b V k s) (hT:Tab w) (hQ:Fq.Tab w):Calls Tryz.prog 18 #[.pointer (some ⟨b,0,none⟩),.int .i64 d] w fun e w'=>e = .returned (.float .f64 (rdW d V s))∧Kp w w':=by
  obtain ⟨ws,h1,h2⟩:=h
  unfold rdW
  by_cases c:s = 0
  · rw [if_pos c];subst c;exact roundF_ d hd1 hd2 b ws V h1 hb k w h2 hT hQ
  · rw [if_neg c];exact roundX_ d b ws k s c w h2
theorem St.zero (w:World):St (w.alloc (.cells (wc (List.replicate 67 0) ++ #[.int .u64 0,.int .i64 0]) 41)) w.heap.size 0 0 0:=⟨_,Rep.zero,Sb.zero w⟩
theorem more_ s1 p1 l1 c1 q1 k1 d1 (P M N:Bool) (T n:Nat) (hT:T + n≤4611686018427387904) (w:World):Calls Tryz.prog 34 #[.agg #[.bool s1,.slice p1 l1 c1,.slice q1 k1 d1,.bool P,.bool M,.bool N,.int .u64 (T:Int)],.int .u64 (n:Int)] w fun e w'=>e = .returned (.agg #[.bool s1,.slice p1 l1 c1,.slice q1 k1 d1,.bool P,.bool M,.bool N,.int .u64 ((T + n:Nat):Int)])∧Kp w w':=by
  have t1:IntKind.u64.wrap ((T:Int) + (n:Int)) = ((T + n:Nat):Int):=by rw [IntKind.wrap_u64];omega
  have t2:¬ (4611686018427387904 < ((T + n:Nat):Int)):=by omega
  generalize ((T + n:Nat):Int) = TT at *
  clear hT
  go_enter Tryz.func34,Tryz.ntmps34
  go_wp2
  exact bodyPost_ret (v:=.agg #[.bool s1,.slice p1 l1 c1,.slice q1 k1 d1,.bool P,.bool M,.bool N,.int .u64 TT]) (by simp [results,Tryz.results34,go_sem]) rfl ⟨rfl,(by repeat (with_reducible (first | assumption | exact Kp.refl _ | apply Kp.drew | apply Kp.alloc | apply Kp.drewN | (refine Kp.setCell ?_ (by first | omega | (simp <;> omega)) _) | (refine Kp.trans ?_ (by assumption)))))⟩
def stI (P M N:Bool):Int:=if N || (P && M) then 2 else if P then 1 else if M then -1 else 0
theorem rstate_ s1 p1 l1 c1 q1 k1 d1 (P M N:Bool) (T:Int) (w:World):Calls Tryz.prog 27 #[.agg #[.bool s1,.slice p1 l1 c1,.slice q1 k1 d1,.bool P,.bool M,.bool N,.int .u64 T]] w fun e w'=>e = .returned (.int .i64 (stI P M N))∧Kp w w':=by
  cases P <;> cases M <;> cases N
  · go_enter Tryz.func27,Tryz.ntmps27
    go_wp2
    exact bodyPost_ret (v:=.int .i64 0) (by simp [results,Tryz.results27,go_sem]) rfl ⟨rfl,(by repeat (with_reducible (first | assumption | exact Kp.refl _ | apply Kp.drew | apply Kp.alloc | apply Kp.drewN | (refine Kp.setCell ?_ (by first | omega | (simp <;> omega)) _) | (refine Kp.trans ?_ (by assumption)))))⟩
  · go_enter Tryz.func27,Tryz.ntmps27
    go_wp2
    exact bodyPost_ret (v:=.int .i64 2) (by simp [results,Tryz.results27,go_sem]) rfl ⟨rfl,(by repeat (with_reducible (first | assumption | exact Kp.refl _ | apply Kp.drew | apply Kp.alloc | apply Kp.drewN | (refine Kp.setCell ?_ (by first | omega | (simp <;> omega)) _) | (refine Kp.trans ?_ (by assumption)))))⟩
  · go_enter Tryz.func27,Tryz.ntmps27
    go_wp2
    exact bodyPost_ret (v:=.int .i64 (-1)) (by simp [results,Tryz.results27,go_sem]) rfl ⟨rfl,(by repeat (with_reducible (first | assumption | exact Kp.refl _ | apply Kp.drew | apply Kp.alloc | apply Kp.drewN | (refine Kp.setCell ?_ (by first | omega | (simp <;> omega)) _) | (refine Kp.trans ?_ (by assumption)))))⟩
  · go_enter Tryz.func27,Tryz.ntmps27
    go_wp2
    exact bodyPost_ret (v:=.int .i64 2) (by simp [results,Tryz.results27,go_sem]) rfl ⟨rfl,(by repeat (with_reducible (first | assumption | exact Kp.refl _ | apply Kp.drew | apply Kp.alloc | apply Kp.drewN | (refine Kp.setCell ?_ (by first | omega | (simp <;> omega)) _) | (refine Kp.trans ?_ (by assumption)))))⟩
  · go_enter Tryz.func27,Tryz.ntmps27
    go_wp2
    exact bodyPost_ret (v:=.int .i64 1) (by simp [results,Tryz.results27,go_sem]) rfl ⟨rfl,(by repeat (with_reducible (first | assumption | exact Kp.refl _ | apply Kp.drew | apply Kp.alloc | apply Kp.drewN | (refine Kp.setCell ?_ (by first | omega | (simp <;> omega)) _) | (refine Kp.trans ?_ (by assumption)))))⟩
  · go_enter Tryz.func27,Tryz.ntmps27
    go_wp2
    exact bodyPost_ret (v:=.int .i64 2) (by simp [results,Tryz.results27,go_sem]) rfl ⟨rfl,(by repeat (with_reducible (first | assumption | exact Kp.refl _ | apply Kp.drew | apply Kp.alloc | apply Kp.drewN | (refine Kp.setCell ?_ (by first | omega | (simp <;> omega)) _) | (refine Kp.trans ?_ (by assumption)))))⟩
  · go_enter Tryz.func27,Tryz.ntmps27
    go_wp2
    exact bodyPost_ret (v:=.int .i64 2) (by simp [results,Tryz.results27,go_sem]) rfl ⟨rfl,(by repeat (with_reducible (first | assumption | exact Kp.refl _ | apply Kp.drew | apply Kp.alloc | apply Kp.drewN | (refine Kp.setCell ?_ (by first | omega | (simp <;> omega)) _) | (refine Kp.trans ?_ (by assumption)))))⟩
  · go_enter Tryz.func27,Tryz.ntmps27
    go_wp2
    exact bodyPost_ret (v:=.int .i64 2) (by simp [results,Tryz.results27,go_sem]) rfl ⟨rfl,(by repeat (with_reducible (first | assumption | exact Kp.refl _ | apply Kp.drew | apply Kp.alloc | apply Kp.drewN | (refine Kp.setCell ?_ (by first | omega | (simp <;> omega)) _) | (refine Kp.trans ?_ (by assumption)))))⟩

def tq (T n:Nat):Nat:=if 4611686018427387904 < T + n then 4611686018427387904 else T + n
def nq (N:Bool) (T n:Nat):Bool:=N || decide (4611686018427387904 < T + n)
theorem tq_le (T n:Nat):tq T n≤4611686018427387904:=by unfold tq;split <;> omega
theorem moreG_ s1 p1 l1 c1 q1 k1 d1 (P M N:Bool) (T n:Nat) (hT:T≤4611686018427387904) (hn:n≤4611686018427387904) (w:World):Calls Tryz.prog 34 #[.agg #[.bool s1,.slice p1 l1 c1,.slice q1 k1 d1,.bool P,.bool M,.bool N,.int .u64 (T:Int)],.int .u64 (n:Int)] w fun e w'=>e = .returned (.agg #[.bool s1,.slice p1 l1 c1,.slice q1 k1 d1,.bool P,.bool M,.bool (nq N T n),.int .u64 ((tq T n:Nat):Int)])∧Kp w w':=by
  unfold tq nq
  by_cases c:4611686018427387904 < T + n
  · rw [if_pos c,decide_eq_true c,Bool.or_true]
    have t1:IntKind.u64.wrap ((T:Int) + (n:Int)) = ((T + n:Nat):Int):=by rw [IntKind.wrap_u64];omega
    have t2:4611686018427387904 < ((T + n:Nat):Int):=by omega
    generalize ((T + n:Nat):Int) = TT at *
    clear hT hn c
    go_enter Tryz.func34,Tryz.ntmps34
    go_wp2
    exact bodyPost_ret (v:=.agg #[.bool s1,.slice p1 l1 c1,.slice q1 k1 d1,.bool P,.bool M,.bool true,.int .u64 4611686018427387904]) (by simp [results,Tryz.results34,go_sem]) rfl ⟨rfl,(by repeat (with_reducible (first | assumption | exact Kp.refl _ | apply Kp.drew | apply Kp.alloc | apply Kp.drewN | (refine Kp.setCell ?_ (by first | omega | (simp <;> omega)) _) | (refine Kp.trans ?_ (by assumption)))))⟩
  · rw [if_neg c,decide_eq_false c,Bool.or_false]
    exact more_ s1 p1 l1 c1 q1 k1 d1 P M N T n (by omega) w
theorem more1_ s1 p1 l1 c1 q1 k1 d1 (P M N:Bool) (T:Nat) (hT:T≤4611686018427387904) (w:World):Calls Tryz.prog 34 #[.agg #[.bool s1,.slice p1 l1 c1,.slice q1 k1 d1,.bool P,.bool M,.bool N,.int .u64 (T:Int)],.int .u64 1] w fun e w'=>e = .returned (.agg #[.bool s1,.slice p1 l1 c1,.slice q1 k1 d1,.bool P,.bool M,.bool (nq N T 1),.int .u64 ((tq T 1:Nat):Int)])∧Kp w w':=moreG_ s1 p1 l1 c1 q1 k1 d1 P M N T 1 hT (by decide) w
theorem ends_ s1 p1 l1 c1 q1 k1 d1 (P M N:Bool) (T:Int) (hz:stI P M N≠0) (w:World):Calls Tryz.prog 51 #[.agg #[.bool s1,.slice p1 l1 c1,.slice q1 k1 d1,.bool P,.bool M,.bool N,.int .u64 T]] w fun e w'=>e = .returned (.int .u64 ((limW (stI P M N):Nat):Int))∧Kp w w':=by
  have hst:=rstate_ s1 p1 l1 c1 q1 k1 d1 P M N T
  have cs:stI P M N = 1∨stI P M N = -1∨stI P M N = 2:=by unfold stI at hz ⊢;cases P <;> cases M <;> cases N <;> simp at hz ⊢
  generalize stI P M N = S at *
  rcases cs with rfl | rfl | rfl
  · go_enter Tryz.func51,Tryz.ntmps51
    go_wp2_with (first | (go_at_call 27;refine (hst _).mono ?_;rintro e w1 ⟨rfl,g1⟩;have r0:=kkeep g1 (b:=w.heap.size) (o:=0) (v:=.bool s1) (by simp);have r1:=kkeep g1 (b:=w.heap.size) (o:=1) (v:=.slice p1 l1 c1) (by simp);have r2:=kkeep g1 (b:=w.heap.size) (o:=2) (v:=.slice q1 k1 d1) (by simp);have r3:=kkeep g1 (b:=w.heap.size) (o:=3) (v:=.bool P) (by simp);have r4:=kkeep g1 (b:=w.heap.size) (o:=4) (v:=.bool M) (by simp);have r5:=kkeep g1 (b:=w.heap.size) (o:=5) (v:=.bool N) (by simp);have r6:=kkeep g1 (b:=w.heap.size) (o:=6) (v:=.int .u64 T) (by simp)))
    exact bodyPost_ret (v:=.int .u64 9218868437227405312) (by simp [results,Tryz.results51,go_sem]) rfl ⟨rfl,((Kp.refl w).alloc _).trans g1⟩
  · go_enter Tryz.func51,Tryz.ntmps51
    go_wp2_with (first | (go_at_call 27;refine (hst _).mono ?_;rintro e w1 ⟨rfl,g1⟩;have r0:=kkeep g1 (b:=w.heap.size) (o:=0) (v:=.bool s1) (by simp);have r1:=kkeep g1 (b:=w.heap.size) (o:=1) (v:=.slice p1 l1 c1) (by simp);have r2:=kkeep g1 (b:=w.heap.size) (o:=2) (v:=.slice q1 k1 d1) (by simp);have r3:=kkeep g1 (b:=w.heap.size) (o:=3) (v:=.bool P) (by simp);have r4:=kkeep g1 (b:=w.heap.size) (o:=4) (v:=.bool M) (by simp);have r5:=kkeep g1 (b:=w.heap.size) (o:=5) (v:=.bool N) (by simp);have r6:=kkeep g1 (b:=w.heap.size) (o:=6) (v:=.int .u64 T) (by simp)))
    exact bodyPost_ret (v:=.int .u64 18442240474082181120) (by simp [results,Tryz.results51,go_sem]) rfl ⟨rfl,((Kp.refl w).alloc _).trans g1⟩
  · go_enter Tryz.func51,Tryz.ntmps51
    go_wp2_with (first | (go_at_call 27;refine (hst _).mono ?_;rintro e w1 ⟨rfl,g1⟩;have r0:=kkeep g1 (b:=w.heap.size) (o:=0) (v:=.bool s1) (by simp);have r1:=kkeep g1 (b:=w.heap.size) (o:=1) (v:=.slice p1 l1 c1) (by simp);have r2:=kkeep g1 (b:=w.heap.size) (o:=2) (v:=.slice q1 k1 d1) (by simp);have r3:=kkeep g1 (b:=w.heap.size) (o:=3) (v:=.bool P) (by simp);have r4:=kkeep g1 (b:=w.heap.size) (o:=4) (v:=.bool M) (by simp);have r5:=kkeep g1 (b:=w.heap.size) (o:=5) (v:=.bool N) (by simp);have r6:=kkeep g1 (b:=w.heap.size) (o:=6) (v:=.int .u64 T) (by simp)))
    exact bodyPost_ret (v:=.int .u64 9221120237041090561) (by simp [results,Tryz.results51,go_sem]) rfl ⟨rfl,((Kp.refl w).alloc _).trans g1⟩
theorem rround_ (d:Int) s1 p1 l1 c1 q1 k1 d1 (P M N:Bool) (T:Int) (V:Int) (E K B:Nat) (hK:K = 1074) (hE:E = K + K) (hB:B≤60000) (hV:V.natAbs < 2 ^ B) (b1:Nat) (w:World) (h1:Dy b1 w s1 p1 l1 c1 q1 k1 d1 V E):Calls Tryz.prog 19 #[.agg #[.bool s1,.slice p1 l1 c1,.slice q1 k1 d1,.bool P,.bool M,.bool N,.int .u64 T],.int .i64 d] w fun e w'=>e = .returned (.int .u64 ((rdW d V (stI P M N):Nat):Int))∧Kp w w':=by
  have hst:=rstate_ s1 p1 l1 c1 q1 k1 d1 P M N T
  have hbi:=fun (w':World) (g:Kp w w')=>dybits_ d s1 p1 l1 c1 q1 k1 d1 V E K B hK hE hB hV b1 w' (h1.kp g)
  unfold rdW
  by_cases c:stI P M N = 0
  · rw [if_pos c]
    rw [c] at hst
    generalize fmaW d V = R at *
    clear hK hE hB hV h1 c
    go_enter Tryz.func19,Tryz.ntmps19
    go_wp2_with (first | (go_at_call 27;refine (hst _).mono ?_;rintro e w1 ⟨rfl,g1⟩;have r0:=kkeep g1 (b:=w.heap.size) (o:=0) (v:=.bool s1) (by simp);have r1:=kkeep g1 (b:=w.heap.size) (o:=1) (v:=.slice p1 l1 c1) (by simp);have r2:=kkeep g1 (b:=w.heap.size) (o:=2) (v:=.slice q1 k1 d1) (by simp);have r3:=kkeep g1 (b:=w.heap.size) (o:=3) (v:=.bool P) (by simp);have r4:=kkeep g1 (b:=w.heap.size) (o:=4) (v:=.bool M) (by simp);have r5:=kkeep g1 (b:=w.heap.size) (o:=5) (v:=.bool N) (by simp);have r6:=kkeep g1 (b:=w.heap.size) (o:=6) (v:=.int .u64 T) (by simp)) | (go_at_call 52;refine (hbi _ ?q9).mono ?_;(case q9=>exact ((Kp.refl w).alloc _).trans g1);rintro e w2 ⟨rfl,g2⟩))
    exact bodyPost_ret (v:=.int .u64 (R:Int)) (by simp [results,Tryz.results19,go_sem]) rfl ⟨rfl,(((Kp.refl w).alloc _).trans g1).trans g2⟩
  · rw [if_neg c]
    have hen:=ends_ s1 p1 l1 c1 q1 k1 d1 P M N T c
    have t:(stI P M N != 0) = true:=by simpa using c
    generalize limW (stI P M N) = R at *
    generalize stI P M N = S at *
    clear hK hE hB hV h1 c hbi
    go_enter Tryz.func19,Tryz.ntmps19
    go_wp2_with (first | (go_at_call 27;refine (hst _).mono ?_;rintro e w1 ⟨rfl,g1⟩;have r0:=kkeep g1 (b:=w.heap.size) (o:=0) (v:=.bool s1) (by simp);have r1:=kkeep g1 (b:=w.heap.size) (o:=1) (v:=.slice p1 l1 c1) (by simp);have r2:=kkeep g1 (b:=w.heap.size) (o:=2) (v:=.slice q1 k1 d1) (by simp);have r3:=kkeep g1 (b:=w.heap.size) (o:=3) (v:=.bool P) (by simp);have r4:=kkeep g1 (b:=w.heap.size) (o:=4) (v:=.bool M) (by simp);have r5:=kkeep g1 (b:=w.heap.size) (o:=5) (v:=.bool N) (by simp);have r6:=kkeep g1 (b:=w.heap.size) (o:=6) (v:=.int .u64 T) (by simp)) | (go_at_call 51;refine (hen _).mono ?_;rintro e w2 ⟨rfl,g2⟩))
    exact bodyPost_ret (v:=.int .u64 (R:Int)) (by simp [results,Tryz.results19,go_sem]) rfl ⟨rfl,(((Kp.refl w).alloc _).trans g1).trans g2⟩

def H7c (w:World) (b:Nat) (v0 v1 v2 v3 v4 v5 v6:Value):Prop:=w.cell? ⟨b,0,none⟩ = some v0∧w.cell? ⟨b,1,none⟩ = some v1∧w.cell? ⟨b,2,none⟩ = some v2∧w.cell? ⟨b,3,none⟩ = some v3∧w.cell? ⟨b,4,none⟩ = some v4∧w.cell? ⟨b,5,none⟩ = some v5∧w.cell? ⟨b,6,none⟩ = some v6∧w.frozen? ⟨b,0,none⟩ = false∧w.frozen? ⟨b,1,none⟩ = false∧w.frozen? ⟨b,2,none⟩ = false∧w.frozen? ⟨b,3,none⟩ = false∧w.frozen? ⟨b,4,none⟩ = false∧w.frozen? ⟨b,5,none⟩ = false∧w.frozen? ⟨b,6,none⟩ = false
theorem H7c.keep {W w:World} {b:Nat} {v0 v1 v2 v3 v4 v5 v6:Value} (h:H7c W b v0 v1 v2 v3 v4 v5 v6) (g:Kp W w):H7c w b v0 v1 v2 v3 v4 v5 v6:=by
  obtain ⟨h0,h1,h2,h3,h4,h5,h6,h7,h8,h9,h10,h11,h12,h13⟩:=h
  exact ⟨kkeep g h0,kkeep g h1,kkeep g h2,kkeep g h3,kkeep g h4,kkeep g h5,kkeep g h6,(kfro g (cell_lt h0)).trans h7,(kfro g (cell_lt h0)).trans h8,(kfro g (cell_lt h0)).trans h9,(kfro g (cell_lt h0)).trans h10,(kfro g (cell_lt h0)).trans h11,(kfro g (cell_lt h0)).trans h12,(kfro g (cell_lt h0)).trans h13⟩
theorem H7c.new (w:World) (v0 v1 v2 v3 v4 v5 v6:Value) (t:TypeId):H7c (w.alloc (.cells #[v0,v1,v2,v3,v4,v5,v6] t)) w.heap.size v0 v1 v2 v3 v4 v5 v6:=by
  unfold H7c;simp [go_sem]
theorem H7c.lt {w:World} {b:Nat} {v0 v1 v2 v3 v4 v5 v6:Value} (h:H7c w b v0 v1 v2 v3 v4 v5 v6):b < w.heap.size:=cell_lt h.1
theorem H7c.put {w:World} {b:Nat} {v0 v1 v2 v3 v4 v5 v6:Value} (h:H7c w b v0 v1 v2 v3 v4 v5 v6) (u0 u1 u2 u3 u4 u5 u6:Value):H7c ((((((((w.setCell ⟨b,0,none⟩ u0).setCell ⟨b,1,none⟩ u1).setCell ⟨b,2,none⟩ u2).setCell ⟨b,3,none⟩ u3).setCell ⟨b,4,none⟩ u4).setCell ⟨b,5,none⟩ u5).setCell ⟨b,6,none⟩ u6)) b u0 u1 u2 u3 u4 u5 u6:=by
  obtain ⟨h0,h1,h2,h3,h4,h5,h6,h7,h8,h9,h10,h11,h12,h13⟩:=h
  unfold H7c;simp [go_sem,h0,h1,h2,h3,h4,h5,h6,h7,h8,h9,h10,h11,h12,h13]
theorem H7c.far1 {w:World} {b:Nat} {v0 v1 v2 v3 v4 v5 v6:Value} (h:H7c w b v0 v1 v2 v3 v4 v5 v6) (x:Addr) (hne:x.block≠b) (u:Value):H7c (w.setCell x u) b v0 v1 v2 v3 v4 v5 v6:=by
  obtain ⟨h0,h1,h2,h3,h4,h5,h6,h7,h8,h9,h10,h11,h12,h13⟩:=h
  exact ⟨(World.cell?_setCell_far _ _ _ _ hne).trans h0,(World.cell?_setCell_far _ _ _ _ hne).trans h1,(World.cell?_setCell_far _ _ _ _ hne).trans h2,(World.cell?_setCell_far _ _ _ _ hne).trans h3,(World.cell?_setCell_far _ _ _ _ hne).trans h4,(World.cell?_setCell_far _ _ _ _ hne).trans h5,(World.cell?_setCell_far _ _ _ _ hne).trans h6,(World.frozen?_setCell _ _ _ _).trans h7,(World.frozen?_setCell _ _ _ _).trans h8,(World.frozen?_setCell _ _ _ _).trans h9,(World.frozen?_setCell _ _ _ _).trans h10,(World.frozen?_setCell _ _ _ _).trans h11,(World.frozen?_setCell _ _ _ _).trans h12,(World.frozen?_setCell _ _ _ _).trans h13⟩

theorem Dy.set {base:Nat} {w:World} {s1:Bool} {p1:Option Addr} {l1 c1:Nat} {q1:Option Addr} {k1 d1:Nat} {V:Int} {E:Nat} (h:Dy base w s1 p1 l1 c1 q1 k1 d1 V E) {x:Addr} (hx:x.block < base) (u:Value):Dy base (w.setCell x u) s1 p1 l1 c1 q1 k1 d1 V E:=by
  obtain ⟨a,j,h1,h2,h3⟩:=h
  exact ⟨a,j,Own.setOther h1 hx u,Own.setOther h2 hx u,h3⟩
theorem radd4_ (n:Bool) (m K B:Nat) (hK:K = 1074) (hm:m < 9218868437227405312) (hB:B≤60000) s1 p1 l1 c1 q1 k1 d1 (P M N N1:Bool) (T:Nat) (TT:Int) (hmo:∀ w:World,Calls Tryz.prog 34 #[.agg #[.bool s1,.slice p1 l1 c1,.slice q1 k1 d1,.bool P,.bool M,.bool N,.int .u64 (T:Int)],.int .u64 1] w fun e w'=>e = .returned (.agg #[.bool s1,.slice p1 l1 c1,.slice q1 k1 d1,.bool P,.bool M,.bool N1,.int .u64 TT])∧Kp w w') (V:Int) (hV:V.natAbs < 2 ^ B) (hV2:(tV n m K).natAbs < 2 ^ B) (b1:Nat) (w:World) (h1:Dy b1 w s1 p1 l1 c1 q1 k1 d1 V (K + K)):Calls Tryz.prog 10 #[.agg #[.bool s1,.slice p1 l1 c1,.slice q1 k1 d1,.bool P,.bool M,.bool N,.int .u64 (T:Int)],.int .u64 ((Fq.wD n m:Nat):Int)] w fun e w'=>∃ s3 p3 l3 c3 q3 k3 d3,e = .returned (.agg #[.bool s3,.slice p3 l3 c3,.slice q3 k3 d3,.bool P,.bool M,.bool N1,.int .u64 TT])∧Dy w.heap.size w' s3 p3 l3 c3 q3 k3 d3 (V + tV n m K) (K + K)∧Kp w w':=by
  have hin:=isnan_ n m (by omega)
  have hii:=isinf_ n m (by omega)
  rw [decide_eq_false (by omega)] at hin hii
  have hfb:=dyfrom_ n m K hK hm
  have hra:=fun (W:World) s2 p2 l2 c2 q2 k2 d2 (b2:Nat) (g:Kp w W) (h2:Dy b2 W s2 p2 l2 c2 q2 k2 d2 (Iv n m) K)=>dyadd_ s1 p1 l1 c1 q1 k1 d1 s2 p2 l2 c2 q2 k2 d2 V (tV n m K) (K + K) B hB (by omega) hV hV2 b1 b2 W (h1.kp g) (h2.up K)
  generalize ((Fq.wD n m:Nat):Int) = X at *
  generalize tV n m K = TV at *
  generalize Iv n m = IV at *
  have h7:H7c ((w.alloc (.cells #[.bool s1,.slice p1 l1 c1,.slice q1 k1 d1,.bool P,.bool M,.bool N,.int .u64 (T:Int)] 30)).alloc (.cells #[.bool false,.slice none 0 0,.slice none 0 0,.bool false,.bool false,.bool false,.int .u64 0] 30)) w.heap.size (.bool s1) (.slice p1 l1 c1) (.slice q1 k1 d1) (.bool P) (.bool M) (.bool N) (.int .u64 (T:Int)):=(H7c.new w (.bool s1) (.slice p1 l1 c1) (.slice q1 k1 d1) (.bool P) (.bool M) (.bool N) (.int .u64 (T:Int)) 30).keep ((Kp.refl _).alloc _)
  have h8:H7c ((w.alloc (.cells #[.bool s1,.slice p1 l1 c1,.slice q1 k1 d1,.bool P,.bool M,.bool N,.int .u64 (T:Int)] 30)).alloc (.cells #[.bool false,.slice none 0 0,.slice none 0 0,.bool false,.bool false,.bool false,.int .u64 0] 30)) (w.heap.size + 1) (.bool false) (.slice none 0 0) (.slice none 0 0) (.bool false) (.bool false) (.bool false) (.int .u64 0):=by
    have:=H7c.new (w.alloc (.cells #[.bool s1,.slice p1 l1 c1,.slice q1 k1 d1,.bool P,.bool M,.bool N,.int .u64 (T:Int)] 30)) (.bool false) (.slice none 0 0) (.slice none 0 0) (.bool false) (.bool false) (.bool false) (.int .u64 0) 30
    simpa using this
  have kw:Kp w ((w.alloc (.cells #[.bool s1,.slice p1 l1 c1,.slice q1 k1 d1,.bool P,.bool M,.bool N,.int .u64 (T:Int)] 30)).alloc (.cells #[.bool false,.slice none 0 0,.slice none 0 0,.bool false,.bool false,.bool false,.int .u64 0] 30)):=((Kp.refl w).alloc _).alloc _
  have hb1:w.heap.size≤w.heap.size:=Nat.le_refl _
  clear hK hm hB hV hV2 h1
  go_enter Tryz.func10,Tryz.ntmps10
  go_upto_region 1 with fail
  generalize ((w.alloc (.cells #[.bool s1,.slice p1 l1 c1,.slice q1 k1 d1,.bool P,.bool M,.bool N,.int .u64 (T:Int)] 30)).alloc (.cells #[.bool false,.slice none 0 0,.slice none 0 0,.bool false,.bool false,.bool false,.int .u64 0] 30)) = W0 at *
  generalize hb9:w.heap.size = b at h7 h8 ⊢
  rw [hb9] at hb1
  have hbw:w.heap.size≤b:=by rw [hb9];exact hb1
  obtain ⟨r0,r1,r2,r3,r4,r5,r6,r7,r8,r9,r10,r11,r12,r13⟩:=id h7
  obtain ⟨t0,t1,t2,t3,t4,t5,t6,t7,t8,t9,t10,t11,t12,t13⟩:=id h8
  go_upto_region 2 with (first | (go_at_call 34;refine (hmo _).mono ?_;rintro e W1 ⟨rfl,g1⟩;replace h7:=h7.keep g1;replace h8:=h8.keep g1;replace kw:=kw.trans g1;clear r0 r1 r2 r3 r4 r5 r6 r7 r8 r9 r10 r11 r12 r13 t0 t1 t2 t3 t4 t5 t6 t7 t8 t9 t10 t11 t12 t13;obtain ⟨r0,r1,r2,r3,r4,r5,r6,r7,r8,r9,r10,r11,r12,r13⟩:=id h7;obtain ⟨t0,t1,t2,t3,t4,t5,t6,t7,t8,t9,t10,t11,t12,t13⟩:=id h8))
  have q7:=H7c.put h7 (.bool s1) (.slice p1 l1 c1) (.slice q1 k1 d1) (.bool P) (.bool M) (.bool N1) (.int .u64 TT)
  have q8:H7c (((((((W1.setCell ⟨b,0,none⟩ (.bool s1)).setCell ⟨b,1,none⟩ (.slice p1 l1 c1)).setCell ⟨b,2,none⟩ (.slice q1 k1 d1)).setCell ⟨b,3,none⟩ (.bool P)).setCell ⟨b,4,none⟩ (.bool M)).setCell ⟨b,5,none⟩ (.bool N1)).setCell ⟨b,6,none⟩ (.int .u64 TT)) (b + 1) (.bool false) (.slice none 0 0) (.slice none 0 0) (.bool false) (.bool false) (.bool false) (.int .u64 0):=(H7c.far1 (H7c.far1 (H7c.far1 (H7c.far1 (H7c.far1 (H7c.far1 (H7c.far1 h8 ⟨b,0,none⟩ (show b≠b + 1 by omega) _) ⟨b,1,none⟩ (show b≠b + 1 by omega) _) ⟨b,2,none⟩ (show b≠b + 1 by omega) _) ⟨b,3,none⟩ (show b≠b + 1 by omega) _) ⟨b,4,none⟩ (show b≠b + 1 by omega) _) ⟨b,5,none⟩ (show b≠b + 1 by omega) _) ⟨b,6,none⟩ (show b≠b + 1 by omega) _)
  have kq:Kp w (((((((W1.setCell ⟨b,0,none⟩ (.bool s1)).setCell ⟨b,1,none⟩ (.slice p1 l1 c1)).setCell ⟨b,2,none⟩ (.slice q1 k1 d1)).setCell ⟨b,3,none⟩ (.bool P)).setCell ⟨b,4,none⟩ (.bool M)).setCell ⟨b,5,none⟩ (.bool N1)).setCell ⟨b,6,none⟩ (.int .u64 TT)):=(((((((kw.setCell hbw _).setCell hbw _).setCell hbw _).setCell hbw _).setCell hbw _).setCell hbw _).setCell hbw _)
  generalize (((((((W1.setCell ⟨b,0,none⟩ (.bool s1)).setCell ⟨b,1,none⟩ (.slice p1 l1 c1)).setCell ⟨b,2,none⟩ (.slice q1 k1 d1)).setCell ⟨b,3,none⟩ (.bool P)).setCell ⟨b,4,none⟩ (.bool M)).setCell ⟨b,5,none⟩ (.bool N1)).setCell ⟨b,6,none⟩ (.int .u64 TT)) = W2 at q7 q8 kq ⊢
  clear h7 h8 kw r0 r1 r2 r3 r4 r5 r6 r7 r8 r9 r10 r11 r12 r13 t0 t1 t2 t3 t4 t5 t6 t7 t8 t9 t10 t11 t12 t13
  obtain ⟨r0,r1,r2,r3,r4,r5,r6,r7,r8,r9,r10,r11,r12,r13⟩:=id q7
  go_upto_region 10 with (first | (go_at_call 35;refine (hin _).mono ?_;rintro e w' ⟨rfl,hw'⟩;obtain rfl:=hw'.symm;clear hw') | (go_at_call 36;refine (hii _).mono ?_;rintro e w' ⟨rfl,hw'⟩;obtain rfl:=hw'.symm;clear hw'))
  have h7d:H7c W2.drew b (.bool s1) (.slice p1 l1 c1) (.slice q1 k1 d1) (.bool P) (.bool M) (.bool N1) (.int .u64 TT):=q7
  have h8d:H7c W2.drew (b + 1) (.bool false) (.slice none 0 0) (.slice none 0 0) (.bool false) (.bool false) (.bool false) (.int .u64 0):=q8
  have kwd:Kp w W2.drew:=kq.drew
  clear r0 r1 r2 r3 r4 r5 r6 r7 r8 r9 r10 r11 r12 r13 q7 q8 kq hin hii hmo
  obtain ⟨r0,r1,r2,r3,r4,r5,r6,r7,r8,r9,r10,r11,r12,r13⟩:=id h7d
  first | (go_region_with (first | (go_at_call 39;refine (hfb _).mono ?_;rintro e W3 ⟨s2,p2,l2,c2,q2,k2,d2,rfl,D2,g3⟩;have kw3:=kwd.trans g3;have h73:=h7d.keep g3;have h83:=h8d.keep g3;obtain ⟨u0,u1,u2,u3,u4,u5,u6,u7,u8,u9,u10,u11,u12,u13⟩:=id h73;obtain ⟨x0,x1,x2,x3,x4,x5,x6,x7,x8,x9,x10,x11,x12,x13⟩:=id h83;have hra3:=hra W3 s2 p2 l2 c2 q2 k2 d2 _ kw3 D2) | (go_at_call 38;refine hra3.mono ?_;rintro e W4 ⟨s3,p3,l3,c3,q3,k3,d3,rfl,D3,g4⟩;have kw4:=kw3.trans g4;have h74:=h73.keep g4;have h84:=h83.keep g4;obtain ⟨y0,y1,y2,y3,y4,y5,y6,y7,y8,y9,y10,y11,y12,y13⟩:=id h74;obtain ⟨z0,z1,z2,z3,z4,z5,z6,z7,z8,z9,z10,z11,z12,z13⟩:=id h84))) | fail
  all_goals (
    go_wp2
    have hl3:=h83.lt
    have hk3:=kw3.size
    refine bodyPost_ret (v:=.agg #[.bool s3,.slice p3 l3 c3,.slice q3 k3 d3,.bool P,.bool M,.bool N1,.int .u64 TT]) (by simp [results,Tryz.results10,go_sem,z0,z1,z2,z3,z4,z5,z6]) rfl ⟨s3,p3,l3,c3,q3,k3,d3,rfl, ?_, ?_⟩
    · refine Dy.mono ?_ hk3
      exact (Dy.set (Dy.set (Dy.set (Dy.set (Dy.set (Dy.set (Dy.set (Dy.set (Dy.set (Dy.set D3 (x:=⟨b,0,none⟩) (show b < W3.heap.size by omega) _) (x:=⟨b,1,none⟩) (show b < W3.heap.size by omega) _) (x:=⟨b,2,none⟩) (show b < W3.heap.size by omega) _) (x:=⟨b + 1,0,none⟩) (show b + 1 < W3.heap.size by omega) _) (x:=⟨b + 1,1,none⟩) (show b + 1 < W3.heap.size by omega) _) (x:=⟨b + 1,2,none⟩) (show b + 1 < W3.heap.size by omega) _) (x:=⟨b + 1,3,none⟩) (show b + 1 < W3.heap.size by omega) _) (x:=⟨b + 1,4,none⟩) (show b + 1 < W3.heap.size by omega) _) (x:=⟨b + 1,5,none⟩) (show b + 1 < W3.heap.size by omega) _) (x:=⟨b + 1,6,none⟩) (show b + 1 < W3.heap.size by omega) _)
    · exact ((((((((((kw4.setCell hbw _).setCell hbw _).setCell hbw _).setCell (show w.heap.size≤b + 1 by omega) _).setCell (show w.heap.size≤b + 1 by omega) _).setCell (show w.heap.size≤b + 1 by omega) _).setCell (show w.heap.size≤b + 1 by omega) _).setCell (show w.heap.size≤b + 1 by omega) _).setCell (show w.heap.size≤b + 1 by omega) _).setCell (show w.heap.size≤b + 1 by omega) _))
theorem dig_zero6:dig 0 = []:=by decide +kernel
theorem dig_one6:dig 1 = [1]:=by decide +kernel
theorem int0X_ (E9:Nat) (w:World):Calls Tryz.prog 28 #[.int .i64 0] w fun e w'=>∃ s p l c q k d,e = .returned (.agg #[.bool s,.slice p l c,.slice q k d])∧Dy w.heap.size w' s p l c q k d 0 E9∧Kp w w':=by
  obtain ⟨B,hB⟩:∃ B,B = w.heap.size:=⟨_,rfl⟩
  obtain ⟨w0,hw0⟩:∃ w0,w0 = w.alloc (.cells #[.bool false,.slice none 0 0,.slice none 0 0] 27):=⟨_,rfl⟩
  have kw:Kp w w0:=by rw [hw0];exact (Kp.refl w).alloc _
  have r0:w0.cell? ⟨B,0,none⟩ = some (.bool false):=by rw [hw0,hB];simp [go_sem]
  have r1:w0.cell? ⟨B,1,none⟩ = some (.slice none 0 0):=by rw [hw0,hB];simp [go_sem]
  have r2:w0.cell? ⟨B,2,none⟩ = some (.slice none 0 0):=by rw [hw0,hB];simp [go_sem]
  have f0:w0.frozen? ⟨B,0,none⟩ = false:=by rw [hw0,hB];simp [go_sem]
  have f1:w0.frozen? ⟨B,1,none⟩ = false:=by rw [hw0,hB];simp [go_sem]
  have f2:w0.frozen? ⟨B,2,none⟩ = false:=by rw [hw0,hB];simp [go_sem]
  have hlt:=cell_lt r0
  have hs:=rsmall_ 0 (by decide) w0
  have HW:Hid (w0 = w.alloc (.cells #[.bool false,.slice none 0 0,.slice none 0 0] 27)∧B = w.heap.size∧Kp w w0):=⟨hw0,hB,kw⟩
  clear hw0 hB kw
  go_enter Tryz.func28,Tryz.ntmps28
  go_wp2_with fail
  rw [← HW.out.2.1]
  try rw [← HW.out.1]
  refine hs.mono ?_;rintro e w1 ⟨v,rfl,ho,k1⟩
  obtain ⟨pv,cv,rfl,hav,hcv⟩:=ho.arr
  obtain ⟨L,hL⟩:∃ L,L = (dig 0).length:=⟨_,rfl⟩
  rw [← hL]
  obtain ⟨g4,hg4⟩:∃ g4,g4 = w1.heap.size:=⟨_,rfl⟩
  obtain ⟨w4,hw4⟩:∃ w4,w4 = w1.alloc (.cells #[.int .u32 1] 86):=⟨_,rfl⟩
  have k4:Kp w1 w4:=by rw [hw4];exact (Kp.refl _).alloc _
  have ar4:Arr w4 (some ⟨g4,0,none⟩) (dig 1):=by
    have h:=(row1 w1 1).all rfl
    rw [← hw4,← hg4] at h
    rw [dig_one6]
    exact h
  have h:=fracX_ false (.slice pv (dig 0).length cv) (.slice (some ⟨g4,0,none⟩) (dig 1).length 1) (dig 0) (dig 1) 0 w4 ⟨pv,cv,rfl,hav.grown k4,hcv⟩ ⟨some ⟨g4,0,none⟩,1,rfl,ar4,by rw [dig_one6];decide⟩ (Wd_dig _) (Wd_dig _) (by rw [dig_zero6];decide) (by rw [dig_one6];decide) (by rw [val_dig];decide) (by decide)
  rw [val_dig,val_dig] at h
  rw [show (dig 1).length = 1 from by rw [dig_one6];rfl] at h
  rw [← hL] at h
  have k04:=k1.trans k4
  have HG:Hid (g4 = w1.heap.size∧w4 = w1.alloc (.cells #[.int .u32 1] 86)):=⟨hg4,hw4⟩
  replace r0:=kkeep k04 r0
  replace r1:=kkeep k04 r1
  replace r2:=kkeep k04 r2
  replace f0:=(kfro k04 hlt).trans f0
  replace f1:=(kfro k04 hlt).trans f1
  replace f2:=(kfro k04 hlt).trans f2
  have HK:Hid (Kp w0 w4∧B < w0.heap.size):=⟨k04,hlt⟩
  have hlt4:=cell_lt r0
  clear hs ho hav hcv hL hg4 hw4 k4 ar4 k1 k04 hlt
  go_wp2_with fail
  rw [← HG.out.1,← HG.out.2]
  refine h.mono ?_;rintro e w5 ⟨vn,vd,a',b',ng,rfl,o1,o2,ff,k5⟩
  obtain ⟨pn,cn,rfl,an,ln⟩:=o1.arr
  obtain ⟨pd,cd,rfl,ad,ld⟩:=o2.arr
  replace r0:=kkeep k5 r0
  replace r1:=kkeep k5 r1
  replace r2:=kkeep k5 r2
  replace f0:=(kfro k5 hlt4).trans f0
  replace f1:=(kfro k5 hlt4).trans f1
  replace f2:=(kfro k5 hlt4).trans f2
  have z1:a' = 0∧b' = 1:=ff.1.2.1 rfl
  have hp:Dy w4.heap.size w5 ng pn (dig a').length cn pd (dig b').length cd 0 E9 :=
    ⟨a',0,o1,by rw [z1.2] at o2 ⊢;exact o2,⟨Nat.zero_le _,Or.inr rfl,by rw [z1.1];simp⟩,fun h=>absurd rfl h⟩
  have hq:=(((hp.set (x:=⟨B,0,none⟩) hlt4 (.bool ng)).set (x:=⟨B,1,none⟩) hlt4 (.slice pn (dig a').length cn)).set (x:=⟨B,2,none⟩) hlt4 (.slice pd (dig b').length cd)).mono (b2:=w.heap.size) (by have h1:=Below.size HW.out.2.2;have h2:=Below.size HK.out.1;omega)
  have hkw:Kp w (((w5.setCell ⟨B,0,none⟩ (.bool ng)).setCell ⟨B,1,none⟩ (.slice pn (dig a').length cn)).setCell ⟨B,2,none⟩ (.slice pd (dig b').length cd)):=by
    have hB:=HW.out.2.1
    exact ((((HW.out.2.2.trans HK.out.1).trans k5).setCell (by rw [hB];exact Nat.le_refl _) _).setCell (by rw [hB];exact Nat.le_refl _) _).setCell (by rw [hB];exact Nat.le_refl _) _
  generalize (dig a').length = La at hq hkw ⊢
  generalize (dig b').length = Lb at hq hkw ⊢
  have HO:Hid (_∧_):=⟨hq,hkw⟩
  clear h hp hq hkw o1 o2 ff z1 k5 an ln ad ld hlt4 HG
  go_wp2
  exact bodyPost_ret (v:=.agg #[.bool ng,.slice pn La cn,.slice pd Lb cd]) (by simp [results,Tryz.results28,go_sem,r0,r1,r2]) rfl ⟨ng,pn,La,cn,pd,Lb,cd,rfl,HO.out.1,HO.out.2⟩
end Go.Proofs.YtfhcmabejagknaaGreatDoor
