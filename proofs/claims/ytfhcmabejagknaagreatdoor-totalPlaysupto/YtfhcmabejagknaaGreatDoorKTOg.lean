import Derived.Test.YtfhcmabejagknaaGreatDoorKMR23
import Derived.Test.YtfhcmabejagknaaGreatDoorKTOm
import Derived.Test.YtfhcmabejagknaaGreatDoorKXP
import Derived.Laws.AppendOwn
import Derived.Laws.MakeOwn
import Derived.Laws.StructEq
set_option maxHeartbeats 1000000
set_option maxRecDepth 20000
namespace Go.Proofs.YtfhcmabejagknaaGreatDoor
open Go.RowKit

theorem Sb.kp {w w':World} {b:Nat} {ws:List Nat} {k:Nat} {s:Int} (h:Sb w b ws k s) (g:Kp w w'):Sb w' b ws k s:=⟨h.1,h.2.kp g⟩
theorem Sb.kb {w w':World} {b c:Nat} {ws:List Nat} {k:Nat} {s:Int} (h:Sb w b ws k s) (g:Kb c w w') (hne:b≠c):Sb w' b ws k s:=⟨h.1,h.2.kb g hne⟩
def tV (n:Bool) (m K:Nat):Int:=Iv n m * ((2 ^ K:Nat):Int)
theorem lay_val (n:Bool) (m K:Nat) (hK:K = 1074) (hm:m < 9218868437227405312) (E:Nat) (hE:Fq.epD m + 2148 = (E:Int)):sgI (n && !(m == 0)) * (((0 * 18446744073709551616 + Fq.sgD m) * 2 ^ E:Nat):Int) = tV n m K:=by
  obtain ⟨v1,v2,v3,v4,v5⟩:=Fq.vlsgD m hm
  have v1:Fq.sgD m * 2 ^ (Fq.epD m + 1074).toNat = Fq.vV Ieee.double m:=v1
  have e1:E = (Fq.epD m + 1074).toNat + K:=by omega
  rw [e1,Nat.pow_add,Nat.zero_mul,Nat.zero_add,← Nat.mul_assoc,v1]
  unfold tV Iv sgI
  by_cases z:m = 0
  · have z2:Fq.vV Ieee.double m = 0:=by rw [← v1,v3.1 z,Nat.zero_mul]
    rw [z2];simp
  · rw [show (n && !(m == 0)) = n from by simp [z],Int.natCast_mul]
    cases n <;> simp [Int.neg_mul]
theorem fin0 (n:Bool) (m:Nat) (hm:m < 9218868437227405312):tS n m = 0:=by unfold tS;rw [if_neg (by omega),if_neg (by omega)]
theorem sg64 (x:Nat) (h:x < 9007199254740992):x < 18446744073709551616:=by omega
theorem add_ (n:Bool) (m K:Nat) (hK:K = 1074) (hm:m < 9218868437227405312) (b:Nat) (ws:List Nat) (V:Int) (hV:Rep ws V) (k:Nat) (s:Int) (w:World) (hS:Sb w b ws k s):Calls Tryz.prog 8 #[.pointer (some ⟨b,0,none⟩),.float .f64 (Fq.wD n m)] w fun e w'=>∃ ws':List Nat,(∃ v,e = .returned v)∧Sb w' b ws' ((k + 1) % 18446744073709551616) (grS ((k + 1) % 18446744073709551616) (jn s 0))∧Rep ws' (V + tV n m K)∧Kb b w w':=by
  have hsp:=Fq.split_d n m hm
  have hso:=stateOf_ n m (by omega)
  rw [fin0 n m hm] at hso
  obtain ⟨v1,v2,v3,v4,v5⟩:=Fq.vlsgD m hm
  obtain ⟨E,hE⟩:∃ E:Nat,Fq.epD m + 2148 = (E:Int):=⟨(Fq.epD m + 2148).toNat,by omega⟩
  have hval:=lay_val n m K hK hm E hE
  have hE2:E = E / 64 * 64 + E % 64:=by omega
  have hly:=fun (w1:World) (h1:Bk w1 b (wc ws ++ #[.int .u64 (k:Int),.int .i64 s]) 41)=>lay_ (n && !(m == 0)) 0 (Fq.sgD m) (E / 64) (E % 64) (Fq.epD m) (by decide) (sg64 _ v2) (by rw [hE,← hE2]) (Nat.mod_lt _ (by decide)) (by omega) b ws _ _ V hV w1 h1
  rw [← hE2,hval] at hly
  have hgr:=fun (w2:World) (us:List Nat) (h2:Sb w2 b us k s)=>grow_ b us k 1 s 0 w2 h2
  generalize Fq.wD n m = X at *
  generalize Fq.sgD m = sg at *
  generalize Fq.epD m = ep at *
  generalize (n && !(m == 0)) = ng at *
  clear hval hE2 hE v1 v2 v3 v4 v5
  go_enter Tryz.func8,Tryz.ntmps8
  go_wp2_with (first | (go_at_call 29;refine (hsp _).mono ?_;rintro e w1 ⟨rfl,g1⟩;replace hS:=hS.kp g1;have kA:Kb b w w1:=Kb.of g1;have hly:=hly w1 hS.2) | (go_at_call 30;refine hly.mono ?_;rintro e w2 ⟨us,⟨v9,rfl⟩,hB,hR,k2⟩;have hgr:=hgr w2 us ⟨hR.1,hB⟩) | (go_at_call 32;refine (hso _).mono ?_;rintro e w' ⟨rfl,hw'⟩;obtain rfl:=hw'.symm;clear hw') | (go_at_call 31;refine hgr.mono ?_;rintro e w3 ⟨⟨v8,rfl⟩,hZ,k3⟩))
  exact bodyPost_end (v:=.tuple #[]) (by kernel_rfl) rfl (by first | exact ⟨⟨_,rfl⟩,us,hZ,hR,(kA.trans k2).trans k3⟩ | exact ⟨us,⟨_,rfl⟩,hZ,hR,(kA.trans k2).trans k3⟩)
theorem addX_ (n:Bool) (m:Nat) (hm:9218868437227405312≤m) (hm2:m < 9223372036854775808) (b:Nat) (ws:List Nat) (k:Nat) (s:Int) (w:World) (hS:Sb w b ws k s):Calls Tryz.prog 8 #[.pointer (some ⟨b,0,none⟩),.float .f64 (Fq.wD n m)] w fun e w'=>(∃ v,e = .returned v)∧Sb w' b ws ((k + 1) % 18446744073709551616) (grS ((k + 1) % 18446744073709551616) (jn s (tS n m)))∧Kb b w w':=by
  have hsp:=Fq.splitx_d n m hm hm2
  have hso:=stateOf_ n m hm2
  have hgr:=fun (w2:World) (us:List Nat) (h2:Sb w2 b us k s)=>grow_ b us k 1 s (tS n m) w2 h2
  generalize Fq.wD n m = X at *
  generalize tS n m = TS at *
  clear hm hm2
  go_enter Tryz.func8,Tryz.ntmps8
  go_wp2_with (first | (go_at_call 29;refine (hsp _).mono ?_;rintro e w1 ⟨rfl,g1⟩;replace hS:=hS.kp g1;have kA:Kb b w w1:=Kb.of g1;have hgr:=hgr w1 ws hS) | (go_at_call 32;refine (hso _).mono ?_;rintro e w' ⟨rfl,hw'⟩;obtain rfl:=hw'.symm;clear hw') | (go_at_call 31;refine hgr.mono ?_;rintro e w3 ⟨⟨v8,rfl⟩,hZ,k3⟩))
  exact bodyPost_end (v:=.tuple #[]) (by kernel_rfl) rfl ⟨⟨_,rfl⟩,hZ,kA.trans k3⟩

theorem Bk.word0 {w:World} {b:Nat} {ws:List Nat} {t:TypeId} (h:Bk w b (wc ws) t) (j:Nat) (hj:j < ws.length):w.cell? ⟨b,j,none⟩ = some (.int .u64 ((ws.getD j 0:Nat):Int)):=by
  rw [h.cell j,wc_get ws j hj]
theorem Bk.setw0 {w:World} {b:Nat} {ws:List Nat} {t:TypeId} (h:Bk w b (wc ws) t) (j x:Nat):Bk (w.setCell ⟨b,j,none⟩ (.int .u64 (x:Int))) b (wc (ws.set j x)) t:=by
  have q:=h.put j (.int .u64 (x:Int))
  rwa [wc_set] at q
theorem zeroW:∀ w:World,(zeroValue 39).run Tryz.prog w = .ok (.agg (wc (List.replicate 67 0))) w:=(zero_of_info (P:=Tryz.prog) (t:=39) (v:=.agg (wc (List.replicate 67 0))) (n:=67) (by kernel_rfl)).1
theorem loadW {w:World} {b:Nat} {ws:List Nat} {t:TypeId} (h:Bk w b (wc ws) t) (hl:ws.length = 67):(loadVar 39 ⟨b,0,none⟩).run Tryz.prog w = .ok (.agg (wc ws)) w :=
  run_loadVar_row w b t 39 (wc ws) (0,0) _ h undW rfl (by rw [wc_size,hl];exact infoW)
theorem storeW {w:World} {b:Nat} {C:Array Value} {ws:List Nat} {t:TypeId} (h:Bk w b C t) (hC:C.size = 67) (hl:ws.length = 67):(storeVar 39 ⟨b,0,none⟩ (.agg (wc ws))).run Tryz.prog w = .ok () (w.setRow b (wc ws)) :=
  run_storeVar_row w b t 39 C (wc ws) h (by rw [wc_size,hl];exact infoW) (by rw [wc_size,hl,hC]) (wc_one ws)
theorem putW {w:World} {b:Nat} {C:Array Value} {ws:List Nat} {t:TypeId} (h:Bk w b C t) (hC:C.size = 67) (hl:ws.length = 67):(storeCells ⟨b,0,none⟩ (wc ws).toList 0).run Tryz.prog w = .ok () (w.setRow b (wc ws)):=by
  have:=storeW (ws:=ws) h hC hl
  have hi:=infoW
  cases hq:Tryz.prog.info? 39 with
  | none=>simp [hq] at hi
  | some i =>
    have hs:(wc ws).size = i.size:=by simp [hq] at hi;rw [wc_size,hl,hi]
    simpa [storeVar,sizeOf,typeInfo,hq,Value.cells,hs] using this
theorem results_cell1 {fn:Func} {p:Tmp} {ty:TypeId} (h:fn.results = #[.cell p ty]) (tmps:Array Value) (P:Program) (w:World) :
    (results fn tmps).run P w = ((asAddr (tmps.getD p undef)).run P w).andThen fun a w₁=>(loadVar ty a).run P w₁:=by
  simp only [results,h]
  simp [Sem.run_bind,Result.andThen]
theorem wpl_load {P:Program} {ops:Array Oper} {rest:List Oper} {op:Oper} {a:Act} {w:World} {Q:Exit→Act→World→Prop} (hgd:op.guard = none) (ty:TypeId) (x:Operand) (ho:op.op = .load ty x) (b o:Nat) (hx:a.eval x = .pointer (some ⟨b,o,none⟩)) (v:Value) (hr:(loadVar ty ⟨b,o,none⟩).run P w = .ok v w) (h:wpList P ops Q rest (a.put op.dst v) w):wpList P ops Q (op :: rest) a w :=
  wpList_plain hgd fun _ hK=>by
    unfold Oper.wp execOp
    simp only [ho,hx,Instr.loadAt,Instr.sureAddr,Sem.run_bind,Sem.run_pure,Result.andThen_ok,hr]
    exact hK _ _ h
theorem wpl_val {P:Program} {ops:Array Oper} {rest:List Oper} {op:Oper} {a:Act} {w:World} {Q:Exit→Act→World→Prop} (hgd:op.guard = none) (v:Value) (hr:(execOp a.eval op).run P w = .ok (.value v) w) (h:wpList P ops Q rest (a.put op.dst v) w):wpList P ops Q (op :: rest) a w :=
  wpList_plain hgd fun _ hK=>by
    unfold Oper.wp
    rw [hr]
    exact hK _ _ h
theorem wpl_field {P:Program} {ops:Array Oper} {rest:List Oper} {op:Oper} {a:Act} {w:World} {Q:Exit→Act→World→Prop} (hgd:op.guard = none) (t:TypeId) (x:Operand) (i:Nat) (ho:op.op = .fieldAddr t x i) (p v:Value) (hx:a.eval x = p) (hr:(Instr.fieldAt t p i).run P w = .ok v w) (h:wpList P ops Q rest (a.put op.dst v) w):wpList P ops Q (op :: rest) a w :=
  wpList_plain hgd fun _ hK=>by
    unfold Oper.wp execOp
    simp only [ho,hx,Sem.run_bind,Sem.run_pure,Result.andThen_ok,hr]
    exact hK _ _ h
theorem wpl_store {P:Program} {ops:Array Oper} {rest:List Oper} {op:Oper} {a:Act} {w:World} {Q:Exit→Act→World→Prop} (hgd:op.guard = none) (ty:TypeId) (x y:Operand) (ho:op.op = .store ty x y) (b o:Nat) (hx:a.eval x = .pointer (some ⟨b,o,none⟩)) (v:Value) (hy:a.eval y = v) (w2:World) (hr:(storeVar ty ⟨b,o,none⟩ v).run P w = .ok () w2) (h:wpList P ops Q rest (a.put op.dst undef) w2):wpList P ops Q (op :: rest) a w :=
  wpList_plain hgd fun _ hK=>by
    unfold Oper.wp execOp
    simp only [ho,hx,hy,Instr.storeAt,Instr.sureAddr,Sem.run_bind,Sem.run_pure,Result.andThen_ok,hr]
    exact hK _ _ h
theorem Bk.setRow {w:World} {b:Nat} {C:Array Value} {t:TypeId} (h:Bk w b C t) (D:Array Value):Bk (w.setRow b D) b D t:=setRow_heap w b C D t (0,0) h
theorem Kp.setRow {a w:World} (h:Kp a w) {b:Nat} (hb:a.heap.size≤b) (D:Array Value):Kp a (w.setRow b D):=by
  refine ⟨h.os,h.tape,h.output,by have:=h.size;simpa [World.setRow] using this,fun k hk=>?_⟩
  rw [← Below.block h k hk]
  simp only [World.setRow,Array.getElem?_modify]
  rw [if_neg (by omega)]
theorem plus_ (a c9:List Nat) (V U:Int) (ha:Rep a V) (hc:Rep c9 U) (w:World):Calls Tryz.prog 44 #[.agg (wc a),.agg (wc c9)] w fun e w'=>∃ z:List Nat,e = .returned (.agg (wc z))∧Rep z (V + U)∧Kp w w':=by
  have hz:=zeroW
  have hW:Hid (Rep a V∧Rep c9 U):=⟨ha,hc⟩
  obtain ⟨Ca,hCa⟩:∃ Ca,Ca = wc a:=⟨_,rfl⟩
  rw [← hCa]
  obtain ⟨Cc,hCc⟩:∃ Cc,Cc = wc c9:=⟨_,rfl⟩
  rw [← hCc]
  have hZs:(wc (List.replicate 67 0)).size = 67:=by rw [wc_size,List.length_replicate]
  generalize wc (List.replicate 67 0) = Z at hz hZs
  have HC:Hid (Ca = wc a∧Cc = wc c9):=⟨hCa,hCc⟩
  have HZ:Hid (Z.size = 67):=hZs
  obtain ⟨g,hg⟩:∃ g,g = w.heap.size:=⟨_,rfl⟩
  have HG:Hid (g = w.heap.size):=hg
  clear hCa hCc hc ha hZs
  go_enter Tryz.func44,Tryz.ntmps44
  go_wp2
  rw [← hg]
  clear hz hg
  go_loopw [5,7] (fun cc ii wr=>∃ (i c:Nat) (z:List Nat),cc = .int .u64 (c:Int)∧ii = .int .i64 (i:Int)∧i≤67∧Plu a c9 z i c∧Bk wr g (wc z) 39∧Bk wr (g + 1) (wc c9) 39∧Bk wr (g + 1 + 1) Z 39∧Kp w wr) (fun _ i _=>67 - (intOf i).toNat)
  case atStart =>
    have e:=HG.out
    obtain ⟨c1,c2⟩:=HC.out
    rw [e,c1,c2]
    obtain ⟨ha,hc⟩:=hW.out
    exact ⟨0,0,a,rfl,rfl,by omega,Plu.start ha.1 ha.2.1,((Bk.new _ _ _).alloc _).alloc _,(Bk.newAt (by simp) _ _).alloc _,Bk.newAt (by simp) _ _,(((Kp.refl w).alloc _).alloc _).alloc _⟩
  case round =>
    obtain ⟨i,c,z,rfl,rfl,hi,hP,b1,b2,b3,hk⟩:=hrel
    obtain ⟨ha,hc⟩:=hW.out
    by_cases ci:i < 67
    · have e1:=b1.word0 i (by rw [hP.1];exact ci)
      have e2:=b1.frozen i
      rw [hP.2.2.2.2 i (Nat.le_refl _)] at e1
      have e3:=b2.word0 i (by rw [hc.1];exact ci)
      have had:=add64_ (a.getD i 0) (c9.getD i 0) c hP.2.2.1
      have hP2:=hP.next ha.1 hc.1 ha.2.1 hc.2.1 ci
      generalize (a.getD i 0 + c9.getD i 0 + c) % 18446744073709551616 = x at *
      generalize (a.getD i 0 + c9.getD i 0 + c) / 18446744073709551616 = c2 at *
      generalize a.getD i 0 = ya at *
      generalize c9.getD i 0 = yc at *
      have b1':=b1.setw0 i x
      have b2':=b2.far ⟨g,i,none⟩ (.int .u64 (x:Int)) (show g≠g + 1 by omega)
      have b3':=b3.far ⟨g,i,none⟩ (.int .u64 (x:Int)) (show g≠g + 1 + 1 by omega)
      have hk':Kp w (wr.setCell ⟨g,i,none⟩ (.int .u64 (x:Int))):=hk.setCell (by rw [HG.out];exact Nat.le_refl _) _
      have j1:(i:Int) < 67:=by omega
      have j2:i + 1≤67:=by omega
      have j3:67 - (i + 1) < 67 - i:=by omega
      clear hP b1 b2 b3 hk hi hc ha
      go_wp2_with (fail)
      first | (go_region_with (fail)) | fail
      all_goals (
        go_wp2
        exact ⟨⟨i + 1,c2,z.set i x,rfl,by go_num,j2,hP2,b1'.drew,b2'.drew,b3'.drew,hk'.drew⟩,(show 67 - (i + 1) < 67 - i from j3)⟩)
    · have hi67:i = 67:=by omega
      have hP:Plu a c9 z 67 c:=by rw [hi67] at hP;exact hP
      have hR:=hP.rep ha hc
      have t1:¬ ((i:Int) < 67):=by omega
      have hld:=loadW b1 hP.1
      have hst:=storeW (ws:=z) b3 HZ.out hP.1
      have b4:=b3.setRow (wc z)
      have hld2:=loadW b4 hP.1
      have k4:Kp w (wr.setRow (g + 1 + 1) (wc z)):=hk.setRow (by rw [HG.out];omega) _
      clear hP b1 b2 hc b3 hk hi hi67 ci ha b4
      go_upto_region 7 with fail
      refine wp_region_list ?_
      refine wpl_load rfl 39 _ rfl g 0 rfl _ hld ?_
      refine wpl_store rfl 39 _ _ rfl (g + 1 + 1) 0 rfl _ rfl _ hst ?_
      go_wp2
      exact bodyPost_ret (v:=.agg (wc z)) (by rw [results_cell1 (p:=4) (ty:=39) Tryz.results44];exact hld2) rfl ⟨z,rfl,hR,k4⟩
theorem turned_ (a:List Nat) (V:Int) (ha:Rep a V) (w:World):Calls Tryz.prog 45 #[.agg (wc a)] w fun e w'=>∃ z:List Nat,e = .returned (.agg (wc z))∧Rep z (-V)∧Kp w w':=by
  have hz:=zeroW
  have hW:Hid (Rep a V):=ha
  obtain ⟨Ca,hCa⟩:∃ Ca,Ca = wc a:=⟨_,rfl⟩
  rw [← hCa]
  have hZs:(wc (List.replicate 67 0)).size = 67:=by rw [wc_size,List.length_replicate]
  generalize wc (List.replicate 67 0) = Z at hz hZs
  have HC:Hid (Ca = wc a):=hCa
  have HZ:Hid (Z.size = 67):=hZs
  obtain ⟨g,hg⟩:∃ g,g = w.heap.size:=⟨_,rfl⟩
  have HG:Hid (g = w.heap.size):=hg
  clear hCa  ha hZs
  go_enter Tryz.func45,Tryz.ntmps45
  go_wp2
  rw [← hg]
  clear hz hg
  go_loopw [3,5] (fun cc ii wr=>∃ (i c:Nat) (z:List Nat),cc = .int .u64 (c:Int)∧ii = .int .i64 (i:Int)∧i≤67∧Trn a z i c∧Bk wr g (wc z) 39∧Bk wr (g + 1) Z 39∧Kp w wr) (fun _ i _=>67 - (intOf i).toNat)
  case atStart =>
    have e:=HG.out
    have c1:=HC.out
    rw [e,c1]
    have ha:=hW.out
    exact ⟨0,1,a,rfl,rfl,by omega,Trn.start ha.1 ha.2.1,(Bk.new _ _ _).alloc _,Bk.newAt (by simp) _ _,((Kp.refl w).alloc _).alloc _⟩
  case round =>
    obtain ⟨i,c,z,rfl,rfl,hi,hP,b1,b3,hk⟩:=hrel
    have ha:=hW.out
    by_cases ci:i < 67
    · have e1:=b1.word0 i (by rw [hP.1];exact ci)
      have e2:=b1.frozen i
      rw [hP.2.2.2.2 i (Nat.le_refl _)] at e1
      have hx:=xorN (a.getD i 0) (ha.2.1 i)
      have had:∀ w:World,_:=fun w=>add64_ (18446744073709551615 - a.getD i 0) 0 c hP.2.2.1 w
      rw [show ((0:Nat):Int) = 0 from rfl] at had
      have hP2:=hP.next ha.1 ha.2.1 ci
      generalize (18446744073709551615 - a.getD i 0 + 0 + c) % 18446744073709551616 = x at *
      generalize (18446744073709551615 - a.getD i 0 + 0 + c) / 18446744073709551616 = c2 at *
      generalize a.getD i 0 = ya at *
      generalize 18446744073709551615 - ya = yn at *
      have b1':=b1.setw0 i x
      have b3':=b3.far ⟨g,i,none⟩ (.int .u64 (x:Int)) (show g≠g + 1 by omega)
      have hk':Kp w (wr.setCell ⟨g,i,none⟩ (.int .u64 (x:Int))):=hk.setCell (by rw [HG.out];exact Nat.le_refl _) _
      have j1:(i:Int) < 67:=by omega
      have j2:i + 1≤67:=by omega
      have j3:67 - (i + 1) < 67 - i:=by omega
      clear hP b1 b3 hk hi ha
      go_wp2_with (fail)
      all_goals (
        try go_wp2
        exact ⟨⟨i + 1,c2,z.set i x,rfl,by go_num,j2,hP2,b1',b3',hk'⟩,(show 67 - (i + 1) < 67 - i from j3)⟩)
    · have hi67:i = 67:=by omega
      have hP:Trn a z 67 c:=by rw [hi67] at hP;exact hP
      have hR:=hP.rep ha
      have t1:¬ ((i:Int) < 67):=by omega
      have hld:=loadW b1 hP.1
      have hst:=storeW (ws:=z) b3 HZ.out hP.1
      have b4:=b3.setRow (wc z)
      have hld2:=loadW b4 hP.1
      have k4:Kp w (wr.setRow (g + 1) (wc z)):=hk.setRow (by rw [HG.out];omega) _
      clear hP b1 b3 hk hi hi67 ci ha b4
      go_upto_region 7 with fail
      refine wp_region_list ?_
      refine wpl_load rfl 39 _ rfl g 0 rfl _ hld ?_
      refine wpl_store rfl 39 _ _ rfl (g + 1) 0 rfl _ rfl _ hst ?_
      go_wp2
      exact bodyPost_ret (v:=.agg (wc z)) (by rw [results_cell1 (p:=2) (ty:=39) Tryz.results45];exact hld2) rfl ⟨z,rfl,hR,k4⟩

theorem nat_step (L:List Int) (z:List Nat) (i x:Nat) (hi:i < z.length) (hx:x = z.getD i 0) (hl:L.length = 2 * i) (hv:val L = wv (z.take i)):val (L ++ [((x % 4294967296:Nat):Int),((x / 4294967296:Nat):Int)]) = wv (z.take (i + 1)):=by
  rw [val_append,wv_take_succ z i hi,← hx,hl,hv]
  simp only [val,Int.toNat_natCast,Nat.mul_zero,Nat.add_zero]
  rw [Nat.pow_mul,show (4294967296:Nat) ^ 2 = 18446744073709551616 from rfl]
  have e:=Nat.mod_add_div x 4294967296
  generalize x % 4294967296 = r at *
  generalize x / 4294967296 = q at *
  rw [e,Nat.mul_comm]
theorem nat_wd (L:List Int) (x:Nat) (h:Wd L) (hx:x < 18446744073709551616):Wd (L ++ [((x % 4294967296:Nat):Int),((x / 4294967296:Nat):Int)]) :=
  h.append (Wd.mk ⟨by omega,by omega⟩ (Wd.mk ⟨by omega,by omega⟩ Wd.nil))
theorem Own.push2 {w:World} {base:Nat} {v:Value} {xs:List Int} {X Y:Int} (h:w.ownsRow base 86 1 v (xs.length + 2) (xs.map (Value.int .u32) ++ [.int .u32 X,.int .u32 Y])):Own w base v (xs ++ [X,Y]):=by
  unfold Own
  rw [List.length_append,List.map_append]
  exact h
theorem natP_ (ws:List Nat) (V:Int) (hV:Rep ws V) (hb:V.natAbs < wh) (c0:¬ V < 0) (w:World):Calls Tryz.prog 49 #[.agg (wc ws)] w fun e w'=>∃ (v:Value) (xs:List Int),e = .returned (.tuple #[.bool false,v])∧Own w' w.heap.size v xs∧Wd xs∧xs.length = 134∧val xs = V.natAbs∧Kp w w':=by
  have hbl:=below_ ws hV.1 hV.2.1
  rw [show decide (9223372036854775808≤ws.getD 66 0) = false from by simp only [decide_eq_false_iff_not,hV.below hb];exact c0] at hbl
  obtain ⟨i0,hi0,hi1,hi2,hi3⟩:=inf32p
  have hmk:∀ w:World,(Instr.makeSlice 25 (.int .i64 0) (.int .i64 134)).run Tryz.prog w = .ok (.slice (some ⟨w.heap.size,0,none⟩) 0 134) (w.alloc (.cells (madeCells #[.int .u32 0] 134) 86)):=fun w=>by
    have:=run_make (P:=Tryz.prog) w 25 86 i0 (.int .u32 0) Tryz.underlying25 hi0 hi1 .i64 .i64 0 134 (by decide) (by decide) (by rw [hi3];decide) (by decide)
    rw [hi2] at this
    exact this
  have hms:(madeCells #[.int .u32 0] 134:Array Value).size = 134:=size_madeCells _ _
  generalize (madeCells #[.int .u32 0] 134:Array Value) = MC at *
  have hval:=hV.val hb
  rw [if_neg c0] at hval
  have hval:wv ws = V.natAbs:=by omega
  have HV:Hid (Rep ws V∧wv ws = V.natAbs):=⟨hV,hval⟩
  have hl:=hV.1
  have hs:=wc_size ws
  rw [hl] at hs
  have hn0:Bk (w.alloc (.cells (wc ws) 39)) w.heap.size (wc ws) 39:=Bk.new _ _ _
  have hld:=loadW hn0 hl
  have HN:Hid (Bk (w.alloc (.cells (wc ws) 39)) w.heap.size (wc ws) 39∧Kp w (w.alloc (.cells (wc ws) 39))):=⟨hn0,(Kp.refl w).alloc _⟩
  clear hV hb c0 hval hn0
  go_enter Tryz.func49,Tryz.ntmps49
  go_upto_region 1 with fail
  refine wp_region_list ?_
  refine wpl_load rfl 39 _ rfl w.heap.size 0 rfl _ hld ?_
  go_upto_region 5 with (first | (go_at_call 81;refine (hbl _).mono ?_;rintro e w1 ⟨rfl,g1⟩))
  obtain ⟨hn0,kw0⟩:=HN.out
  obtain ⟨hV,hval⟩:=HV.out
  have hzl:=hV.1
  have hzf:=hV.2.1
  have k9:=kw0.trans g1
  have h9:=hn0.kp g1
  have o9:=(World.ownsRow_made (base:=w.heap.size) (size:=1) (e:=86) w1 MC 134 k9.size (by decide) (by rw [hms]))
  have h9:=h9.alloc (.cells MC 86)
  have k9:=k9.alloc (.cells MC 86)
  clear hV hn0 kw0 g1 hbl hld hl hs
  generalize w1 = W1 at *
  generalize hW2:W1.alloc (.cells MC 86) = W2 at *
  generalize W1.heap.size = gb at *
  have hldT:=loadW h9 hzl
  refine wp_region_list ?_
  refine wpl_load rfl 39 _ rfl w.heap.size 0 rfl _ hldT ?_
  have HD:Hid (ws.length = 67∧Wf ws∧wv ws = V.natAbs):=⟨hzl,hzf,hval⟩
  clear HV HN hldT h9 hzl hzf hval hms hmk
  go_wp2
  go_loopw [3,13] (fun vv ii wr=>∃ (v:Value) (i:Nat) (xs:List Int),v = vv∧ii = .int .i64 (i:Int)∧i≤67∧Own wr w.heap.size v xs∧xs.length = 2 * i∧Wd xs∧val xs = wv (ws.take i)∧Kp w wr) (fun _ i _=>67 - (intOf i).toNat)
  case atStart=>exact ⟨_,0,[],rfl,rfl,by omega,o9,rfl,Wd.nil,by simp [val,wv],k9⟩
  case round =>
    clear o9 k9
    obtain ⟨v,i,xs,rfl,rfl,hi,hown,hxl,hwx,hvx,hkp⟩:=hrel
    obtain ⟨hzl,hzf,hval⟩:=HD.out
    by_cases ci:i < 67
    · have ix:=idxW (wc ws) i _ ci (wc_get ws i (by omega))
      have hx:=hzf i
      have hv2:=nat_step xs ws i (ws.getD i 0) (by omega) rfl hxl hvx
      have hw2:=nat_wd xs (ws.getD i 0) hwx hx
      generalize ws.getD i 0 = x at *
      have f1:IntKind.u32.wrap (x:Int) = ((x % 4294967296:Nat):Int):=by rw [IntKind.wrap_u32];omega
      have f2:(x:Int) / 4294967296 = ((x / 4294967296:Nat):Int):=by omega
      have f3:IntKind.u32.wrap ((x / 4294967296:Nat):Int) = ((x / 4294967296:Nat):Int):=by rw [IntKind.wrap_u32];omega
      generalize ((x / 4294967296:Nat):Int) = XH at *
      generalize ((x % 4294967296:Nat):Int) = XL at *
      have hob:=own_block hown
      have hl2:(xs ++ [XL,XH]).length = 2 * (i + 1):=by rw [List.length_append,hxl];simp;omega
      have hown':wr.ownsRow w.heap.size 86 1 v xs.length (xs.map (Value.int .u32)):=hown
      have j1:(i:Int) < 67:=by omega
      have j2:i + 1≤67:=by omega
      have j3:67 - (i + 1) < 67 - i:=by omega
      have j4:xs.length + 2≤134:=by omega
      have hsz:=hkp.size
      clear hxl hwx hvx hx hown hi hzl hzf hval HD
      go_wp2_with (first | (at_builtin;refine wpList_append_own _ rfl _ _ 25 rfl w.heap.size 86 i0 (.int .u32 0) 1 4 Tryz.underlying25 hi0 hi1 hi2 hi3 rfl (by decide) _ _ _ rfl (hown'.alloc _) ⟨wr.heap.size,0,none⟩ 2 2 [.int .u32 XL,.int .u32 XH] rfl rfl ?c1 ?c2 ?c3 ?c4 ?c5 ?_))
      case c1 =>
        intro j' u hj'
        match j',hj' with
        | 0,hj'=>simp at hj';subst hj';simp [Addr.add]
        | 1,hj'=>simp at hj';subst hj';simp [Addr.add]
      case c2=>intro u hu;simp at hu;rcases hu with rfl | rfl <;> rfl
      case c3=>unfold maxLen;omega
      case c4=>omega
      case c5=>simp;omega
      intro v' w1 hown2 hgrow _
      have hO:Own w1 w.heap.size v' (xs ++ [XL,XH]):=Own.push2 hown2
      have hK2:Kp w w1:=(hkp.alloc _).grown hgrow hob
      clear hown2 hgrow hown' hkp hob hsz
      go_wp2
      exact ⟨⟨_,i + 1,_,rfl,by go_num,j2,hO,hl2,hw2,hv2,hK2⟩,(show 67 - (i + 1) < 67 - i from j3)⟩
    · have hi67:i = 67:=by omega
      have hv3:val xs = V.natAbs:=by rw [hvx,hi67,List.take_of_length_le (by omega),hval]
      have hl3:xs.length = 134:=by omega
      have t1:¬ ((i:Int) < 67):=by omega
      clear hxl hvx hi hi67 ci hzl hzf hval HD
      go_wp2
      exact bodyPost_ret (v:=.tuple #[.bool false,v]) (by simp [results,Tryz.results49,go_sem]) rfl ⟨v,rfl,xs,hown,hwx,hl3,hv3,hkp⟩
theorem natN_ (ws:List Nat) (V:Int) (hV:Rep ws V) (hb:V.natAbs < wh) (c0:V < 0) (w:World):Calls Tryz.prog 49 #[.agg (wc ws)] w fun e w'=>∃ (v:Value) (xs:List Int),e = .returned (.tuple #[.bool true,v])∧Own w' w.heap.size v xs∧Wd xs∧xs.length = 134∧val xs = V.natAbs∧Kp w w':=by
  have hbl:=below_ ws hV.1 hV.2.1
  rw [show decide (9223372036854775808≤ws.getD 66 0) = true from by simp only [decide_eq_true_eq,hV.below hb];exact c0] at hbl
  obtain ⟨i0,hi0,hi1,hi2,hi3⟩:=inf32p
  have hmk:∀ w:World,(Instr.makeSlice 25 (.int .i64 0) (.int .i64 134)).run Tryz.prog w = .ok (.slice (some ⟨w.heap.size,0,none⟩) 0 134) (w.alloc (.cells (madeCells #[.int .u32 0] 134) 86)):=fun w=>by
    have:=run_make (P:=Tryz.prog) w 25 86 i0 (.int .u32 0) Tryz.underlying25 hi0 hi1 .i64 .i64 0 134 (by decide) (by decide) (by rw [hi3];decide) (by decide)
    rw [hi2] at this
    exact this
  have hms:(madeCells #[.int .u32 0] 134:Array Value).size = 134:=size_madeCells _ _
  generalize (madeCells #[.int .u32 0] 134:Array Value) = MC at *
  have htu:=turned_ ws V hV
  have HV:Hid (V.natAbs < wh∧V < 0):=⟨hb,c0⟩
  have hl:=hV.1
  have hs:=wc_size ws
  rw [hl] at hs
  have hn0:Bk (w.alloc (.cells (wc ws) 39)) w.heap.size (wc ws) 39:=Bk.new _ _ _
  have hld:=loadW hn0 hl
  have HN:Hid (Bk (w.alloc (.cells (wc ws) 39)) w.heap.size (wc ws) 39∧Kp w (w.alloc (.cells (wc ws) 39))):=⟨hn0,(Kp.refl w).alloc _⟩
  clear hV hb c0  hn0
  go_enter Tryz.func49,Tryz.ntmps49
  go_upto_region 1 with fail
  refine wp_region_list ?_
  refine wpl_load rfl 39 _ rfl w.heap.size 0 rfl _ hld ?_
  go_upto_region 3 with (first | (go_at_call 81;refine (hbl _).mono ?_;rintro e w1 ⟨rfl,g1⟩))
  obtain ⟨hn0,kw0⟩:=HN.out
  have hn1:=hn0.kp g1
  have hld3:=loadW hn1 hl
  refine wp_region_list ?_
  refine wpl_load rfl 39 _ rfl w.heap.size 0 rfl _ hld3 ?_
  go_upto_region 5 with (first | (go_at_call 45;refine (htu _).mono ?_;rintro e w2 ⟨z,rfl,hz,g2⟩;have hn2:=hn1.kp g2;have hst:=putW (ws:=z) hn2 (by rw [wc_size,hl]) hz.1;have hn3:=hn2.setRow (wc z);have hzs:(wc z).size = 67:=(by rw [wc_size,hz.1])))
  have kp3:Kp w (w2.setRow w.heap.size (wc z)):=((kw0.trans g1).trans g2).setRow (Nat.le_refl _) _
  have hval:=hz.val (by rw [Int.natAbs_neg];exact HV.out.1)
  rw [if_neg (by have:=HV.out.2;omega)] at hval
  have hval:wv z = V.natAbs:=by have:=HV.out.2;omega
  have hzl:=hz.1
  have hzf:=hz.2.1
  have k9:=kp3
  have h9:=hn3
  have o9:=(World.ownsRow_made (base:=w.heap.size) (size:=1) (e:=86) (w2.setRow w.heap.size (wc z)) MC 134 k9.size (by decide) (by rw [hms]))
  rw [show (w2.setRow w.heap.size (wc z)).heap.size = w2.heap.size from by simp [World.setRow]] at o9
  have h9:=h9.alloc (.cells MC 86)
  have k9:=k9.alloc (.cells MC 86)
  generalize w2.setRow w.heap.size (wc z) = W1 at *
  generalize w2.heap.size = gb at *
  clear hz hst hn2 hn3 kp3 hn1 hn0 kw0 g1 g2 hbl htu hld hld3 hl hs hzs
  generalize hW2:W1.alloc (.cells MC 86) = W2 at *
  have hldT:=loadW h9 hzl
  refine wp_region_list ?_
  refine wpl_load rfl 39 _ rfl w.heap.size 0 rfl _ hldT ?_
  have HD:Hid (z.length = 67∧Wf z∧wv z = V.natAbs):=⟨hzl,hzf,hval⟩
  clear HV HN hldT h9 hzl hzf hval hms hmk
  go_wp2
  go_loopw [3,13] (fun vv ii wr=>∃ (v:Value) (i:Nat) (xs:List Int),v = vv∧ii = .int .i64 (i:Int)∧i≤67∧Own wr w.heap.size v xs∧xs.length = 2 * i∧Wd xs∧val xs = wv (z.take i)∧Kp w wr) (fun _ i _=>67 - (intOf i).toNat)
  case atStart=>exact ⟨_,0,[],rfl,rfl,by omega,o9,rfl,Wd.nil,by simp [val,wv],k9⟩
  case round =>
    clear o9 k9
    obtain ⟨v,i,xs,rfl,rfl,hi,hown,hxl,hwx,hvx,hkp⟩:=hrel
    obtain ⟨hzl,hzf,hval⟩:=HD.out
    by_cases ci:i < 67
    · have ix:=idxW (wc z) i _ ci (wc_get z i (by omega))
      have hx:=hzf i
      have hv2:=nat_step xs z i (z.getD i 0) (by omega) rfl hxl hvx
      have hw2:=nat_wd xs (z.getD i 0) hwx hx
      generalize z.getD i 0 = x at *
      have f1:IntKind.u32.wrap (x:Int) = ((x % 4294967296:Nat):Int):=by rw [IntKind.wrap_u32];omega
      have f2:(x:Int) / 4294967296 = ((x / 4294967296:Nat):Int):=by omega
      have f3:IntKind.u32.wrap ((x / 4294967296:Nat):Int) = ((x / 4294967296:Nat):Int):=by rw [IntKind.wrap_u32];omega
      generalize ((x / 4294967296:Nat):Int) = XH at *
      generalize ((x % 4294967296:Nat):Int) = XL at *
      have hob:=own_block hown
      have hl2:(xs ++ [XL,XH]).length = 2 * (i + 1):=by rw [List.length_append,hxl];simp;omega
      have hown':wr.ownsRow w.heap.size 86 1 v xs.length (xs.map (Value.int .u32)):=hown
      have j1:(i:Int) < 67:=by omega
      have j2:i + 1≤67:=by omega
      have j3:67 - (i + 1) < 67 - i:=by omega
      have j4:xs.length + 2≤134:=by omega
      have hsz:=hkp.size
      clear hxl hwx hvx hx hown hi hzl hzf hval HD
      go_wp2_with (first | (at_builtin;refine wpList_append_own _ rfl _ _ 25 rfl w.heap.size 86 i0 (.int .u32 0) 1 4 Tryz.underlying25 hi0 hi1 hi2 hi3 rfl (by decide) _ _ _ rfl (hown'.alloc _) ⟨wr.heap.size,0,none⟩ 2 2 [.int .u32 XL,.int .u32 XH] rfl rfl ?c1 ?c2 ?c3 ?c4 ?c5 ?_))
      case c1 =>
        intro j' u hj'
        match j',hj' with
        | 0,hj'=>simp at hj';subst hj';simp [Addr.add]
        | 1,hj'=>simp at hj';subst hj';simp [Addr.add]
      case c2=>intro u hu;simp at hu;rcases hu with rfl | rfl <;> rfl
      case c3=>unfold maxLen;omega
      case c4=>omega
      case c5=>simp;omega
      intro v' w1 hown2 hgrow _
      have hO:Own w1 w.heap.size v' (xs ++ [XL,XH]):=Own.push2 hown2
      have hK2:Kp w w1:=(hkp.alloc _).grown hgrow hob
      clear hown2 hgrow hown' hkp hob hsz
      go_wp2
      exact ⟨⟨_,i + 1,_,rfl,by go_num,j2,hO,hl2,hw2,hv2,hK2⟩,(show 67 - (i + 1) < 67 - i from j3)⟩
    · have hi67:i = 67:=by omega
      have hv3:val xs = V.natAbs:=by rw [hvx,hi67,List.take_of_length_le (by omega),hval]
      have hl3:xs.length = 134:=by omega
      have t1:¬ ((i:Int) < 67):=by omega
      clear hxl hvx hi hi67 ci hzl hzf hval HD
      go_wp2
      exact bodyPost_ret (v:=.tuple #[.bool true,v]) (by simp [results,Tryz.results49,go_sem]) rfl ⟨v,rfl,xs,hown,hwx,hl3,hv3,hkp⟩

theorem all_words:∀ (xs ys:List Nat),xs.length = ys.length→((List.range xs.length).all fun i=>xs.getD i 0 == ys.getD i 0) = (xs == ys)
  | [],[],_=>rfl
  | x :: xs,y :: ys,h=>by
    have ih:=all_words xs ys (by simpa using h)
    rw [List.length_cons,List.range_succ_eq_map,List.all_cons,List.all_map]
    simp only [List.getD_cons_zero,Function.comp_def,List.getD_cons_succ,ih]
    simp [List.cons_beq_cons]
  | [],_ :: _,h=>by simp at h
  | _ :: _,[],h=>by simp at h
theorem undU:Tryz.prog.underlying 28 = some (.int .u64):=by kernel_rfl
theorem sizU (w:World):(sizeOf 28).run Tryz.prog w = .ok 1 w:=by kernel_rfl
theorem eqIn (d:Nat) (xs ys:List Nat) (hx:xs.length = 67) (hy:ys.length = 67) (w:World):(Op.equalIn (d + 2) 39 (.agg (wc xs)) (.agg (wc ys))).run Tryz.prog w = .ok (xs == ys) w:=by
  rw [← all_words xs ys (hx.trans hy.symm),hx,List.range_eq_range',Op.equalIn]
  simp only [Sem.run_bind,run_underlying undW,Result.andThen_ok,sizU,Std.Legacy.Range.forIn_eq_forIn_range',Std.Legacy.Range.size,Nat.sub_zero,Nat.add_sub_cancel,Nat.div_one]
  have hl:∀ i ∈ List.range' 0 67 1,i < 67:=fun i hi=>by simpa using (List.mem_range'_1.1 hi).2
  generalize List.range' 0 67 1 = l at hl ⊢
  induction l with
  | nil=>simp
  | cons i l ih =>
    have hi:i < 67:=hl i (by simp)
    have px:(part 28 (wc xs) (i * 1)).run Tryz.prog w = .ok (.int .u64 ((xs.getD i 0:Nat):Int)) w:=by
      simp [part,isAgg,run_underlying undU,wc_get xs i (by omega)]
    have py:(part 28 (wc ys) (i * 1)).run Tryz.prog w = .ok (.int .u64 ((ys.getD i 0:Nat):Int)) w:=by
      simp [part,isAgg,run_underlying undU,wc_get ys i (by omega)]
    have pe:(Op.equalIn (d + 1) 28 (.int .u64 ((xs.getD i 0:Nat):Int)) (.int .u64 ((ys.getD i 0:Nat):Int))).run Tryz.prog w = .ok (xs.getD i 0 == ys.getD i 0) w:=by
      generalize xs.getD i 0 = p
      generalize ys.getD i 0 = q
      have:=run_equalIn_int (P:=Tryz.prog) w d 28 .u64 .u64 (p:Int) (q:Int) undU
      rw [show ((p:Int) == (q:Int)) = (p == q) from by rw [Bool.eq_iff_iff,beq_iff_eq,beq_iff_eq];omega] at this
      exact this
    simp only [List.forIn_cons,Sem.run_bind,px,py,pe,Result.andThen_ok,List.all_cons]
    cases hb:(xs.getD i 0 == ys.getD i 0)
    · simp
    · simp only [Bool.not_true,Bool.false_eq_true,if_false,Sem.run_pure,Result.andThen_ok,Bool.true_and]
      exact ih fun j hj=>hl j (by simp [hj])
theorem eqW (a b:List Nat) (ha:a.length = 67) (hb:b.length = 67) (w:World):(binOp .eql 39 (.agg (wc a)) (.agg (wc b))).run Tryz.prog w = .ok (.bool (decide (a = b))) w:=by
  rw [run_eql_struct,eqIn 9998 a b ha hb]
  simp only [Result.andThen_ok]
  congr 2
  rw [Bool.eq_iff_iff];simp
theorem sign_ (ws:List Nat) (V:Int) (hV:Rep ws V) (hb:V.natAbs < wh) (w:World):Calls Tryz.prog 60 #[.agg (wc ws)] w fun e w'=>e = .returned (.int .i64 (if V < 0 then -1 else if V = 0 then 0 else 1))∧Kp w w':=by
  have hbl:=below_ ws hV.1 hV.2.1
  have hl:=hV.1
  have hz:=zeroW
  have hzs:(wc (List.replicate 67 0)).size = 67:=by rw [wc_size,List.length_replicate]
  have hn0:Bk (w.alloc (.cells (wc ws) 39)) w.heap.size (wc ws) 39:=Bk.new _ _ _
  have hld:=loadW hn0 hl
  have hs:=wc_size ws
  rw [hl] at hs
  by_cases c0:V < 0
  · rw [if_pos c0]
    rw [show decide (9223372036854775808≤ws.getD 66 0) = true from by simp only [decide_eq_true_eq,hV.below hb];exact c0] at hbl
    clear hV hb c0 hz hzs
    go_enter Tryz.func60,Tryz.ntmps60
    go_upto_region 1 with fail
    refine wp_region_list ?_
    refine wpl_load rfl 39 _ rfl w.heap.size 0 rfl _ hld ?_
    go_wp2_with (first | (go_at_call 81;refine (hbl _).mono ?_;rintro e w1 ⟨rfl,g1⟩))
    exact bodyPost_ret (v:=.int .i64 (-1)) (by simp [results,Tryz.results60,go_sem]) rfl ⟨rfl,((Kp.refl w).alloc _).trans g1⟩
  · rw [if_neg c0]
    rw [show decide (9223372036854775808≤ws.getD 66 0) = false from by simp only [decide_eq_false_iff_not,hV.below hb];exact c0] at hbl
    have hq:=eqW ws (List.replicate 67 0) hl List.length_replicate
    rw [show decide (ws = List.replicate 67 0) = decide (V = 0) from decide_eq_decide.2 (hV.iszero hb)] at hq
    generalize wc (List.replicate 67 0) = Z at *
    by_cases c1:V = 0
    · rw [if_pos c1]
      rw [decide_eq_true c1] at hq
      clear hV hb c0 c1
      go_enter Tryz.func60,Tryz.ntmps60
      go_upto_region 1 with fail
      refine wp_region_list ?_
      refine wpl_load rfl 39 _ rfl w.heap.size 0 rfl _ hld ?_
      go_upto_region 3 with (first | (go_at_call 81;refine (hbl _).mono ?_;rintro e w1 ⟨rfl,g1⟩;have hld2:=loadW (hn0.kp g1) hl))
      refine wp_region_list ?_
      refine wpl_load rfl 39 _ rfl w.heap.size 0 rfl _ hld2 ?_
      go_wp2
      exact bodyPost_ret (v:=.int .i64 0) (by simp [results,Tryz.results60,go_sem]) rfl ⟨rfl,((Kp.refl w).alloc _).trans g1⟩
    · rw [if_neg c1]
      rw [decide_eq_false c1] at hq
      clear hV hb c0 c1
      go_enter Tryz.func60,Tryz.ntmps60
      go_upto_region 1 with fail
      refine wp_region_list ?_
      refine wpl_load rfl 39 _ rfl w.heap.size 0 rfl _ hld ?_
      go_upto_region 3 with (first | (go_at_call 81;refine (hbl _).mono ?_;rintro e w1 ⟨rfl,g1⟩;have hld2:=loadW (hn0.kp g1) hl))
      refine wp_region_list ?_
      refine wpl_load rfl 39 _ rfl w.heap.size 0 rfl _ hld2 ?_
      go_wp2
      exact bodyPost_ret (v:=.int .i64 1) (by simp [results,Tryz.results60,go_sem]) rfl ⟨rfl,((Kp.refl w).alloc _).trans g1⟩
def fmaW (d V:Int):Nat:=if V = 0 then 0 else mdW (decide (V < 0)) (finU 53 2098 9218868437227405311 9218868437227405312 (dirN (decide (V < 0)) d) (rV (dirN (decide (V < 0)) d) 53 V.natAbs 1 (-1074)))
theorem mul_fma (d V:Int) (ng:Bool) (P:Nat) (hP:V.natAbs = P) (hng:V≠0→ng = decide (V < 0)):mulW d ng P = fmaW d V:=by
  unfold mulW fmaW
  by_cases c:V = 0
  · rw [if_pos c,if_pos (by rw [← hP,c];rfl)]
  · rw [if_neg c,if_neg (by omega),hng c,hP]
theorem of_fma (d:Int) (ng:Bool) (c:Nat) (low V:Int) (h1:-2148≤low) (h2:low≤8192) (hb:blen c≤524288) (hV:V = if ng then -((c * 2 ^ (low + 2148).toNat:Nat):Int) else ((c * 2 ^ (low + 2148).toNat:Nat):Int)):ofW d ng c low = fmaW d V:=by
  obtain ⟨k,hk⟩:∃ k,k = (low + 2148).toNat:=⟨_,rfl⟩
  rw [← hk] at hV
  rw [of_mul d ng c low (c * 2 ^ k) h1 h2 hb (by rw [hk])]
  obtain ⟨C,hC⟩:∃ C,C = c * 2 ^ k:=⟨_,rfl⟩
  rw [← hC] at hV ⊢
  refine mul_fma d V ng _ ?_ ?_
  · rw [hV];cases ng <;> simp
  · intro hv
    rw [hV] at hv ⊢
    cases ng
    · simp
    · simp at hv ⊢;omega
def limW (s:Int):Nat:=if s = 2 then 9221120237041090561 else if 0≤s then 9218868437227405312 else 18442240474082181120
theorem infT_ (s:Int) (w:World):Calls Tryz.prog 80 #[.int .i64 s] w fun e w'=>e = .returned (.float .f64 (if 0≤s then 9218868437227405312 else 18442240474082181120))∧w' = w:=by
  have h1:∀ w:World,(callFunc 33 #[.int .u64 9218868437227405312]).run Tryz.prog w = .ok (.value (.float .f64 9218868437227405312)) w:=Fq.ff64 9218868437227405312
  have h2:∀ w:World,(callFunc 33 #[.int .u64 18442240474082181120]).run Tryz.prog w = .ok (.value (.float .f64 18442240474082181120)) w:=Fq.ff64 18442240474082181120
  by_cases c:0≤s
  · rw [if_pos c]
    go_enter Tryz.func80,Tryz.ntmps80
    go_wp2
    exact bodyPost_ret (v:=.float .f64 9218868437227405312) (by simp [results,Tryz.results80,go_sem]) rfl ⟨rfl,rfl⟩
  · rw [if_neg c]
    go_enter Tryz.func80,Tryz.ntmps80
    go_wp2
    exact bodyPost_ret (v:=.float .f64 18442240474082181120) (by simp [results,Tryz.results80,go_sem]) rfl ⟨rfl,rfl⟩
theorem limit_ (s:Int) (w:World):Calls Tryz.prog 48 #[.int .i64 s] w fun e w'=>e = .returned (.float .f64 (limW s))∧w' = w:=by
  have h1:=infT_ s
  have h2:=mnan_
  unfold limW
  by_cases c:s = 2
  · rw [if_pos c]
    subst c
    clear h1
    go_enter Tryz.func48,Tryz.ntmps48
    go_wp2_with (first | (go_at_call 53;refine (h2 _).mono ?_;rintro e w' ⟨rfl,hw'⟩;obtain rfl:=hw'.symm;clear hw'))
    exact bodyPost_ret (v:=.float .f64 9221120237041090561) (by simp [results,Tryz.results48,go_sem]) rfl ⟨rfl,rfl⟩
  · rw [if_neg c]
    have t:(s == 2) = false:=by simpa using c
    generalize (if 0≤s then 9218868437227405312 else 18442240474082181120:Nat) = R at *
    clear c
    go_enter Tryz.func48,Tryz.ntmps48
    go_wp2_with (first | (go_at_call 80;refine (h1 _).mono ?_;rintro e w' ⟨rfl,hw'⟩;obtain rfl:=hw'.symm;clear hw'))
    exact bodyPost_ret (v:=.float .f64 R) (by simp [results,Tryz.results48,go_sem]) rfl ⟨rfl,rfl⟩
theorem fa0 (b:Nat) (w:World):(Instr.fieldAt 41 (.pointer (some ⟨b,0,none⟩)) 0).run Tryz.prog w = .ok (.pointer (some ⟨b,0,none⟩)) w:=by kernel_rfl
theorem loadS {w:World} {b:Nat} {ws:List Nat} {k:Nat} {s:Int} (h:Sb w b ws k s):(loadVar 39 ⟨b,0,none⟩).run Tryz.prog w = .ok (.agg (wc ws)) w:=by
  have:=run_loadVar_mid (P:=Tryz.prog) w b 0 39 (wc ws).toList _ (fun j v hv=>by
    rw [Nat.zero_add,h.2.cell]
    have hj:j < (wc ws).size:=by
      have:=(List.getElem?_eq_some_iff.1 hv).1
      simpa using this
    rw [Array.getElem?_append_left hj]
    simpa using hv) undW rfl (by rw [Array.length_toList,wc_size,h.1];exact infoW)
  simpa using this
theorem round_val (d V:Int) (xs:List Int) (hl:xs.length = 134) (hw:Wd xs) (hv:val xs = V.natAbs):ofW d (decide (V < 0)) (val xs) (-2148) = fmaW d V:=by
  refine of_fma d _ _ (-2148) V (by decide) (by decide) ?_ ?_
  · have h:=val_lt xs hw
    rw [hl,show (4294967296:Nat) = 2 ^ 32 from rfl,← Nat.pow_mul] at h
    exact Nat.le_trans ((blen_le_iff (val xs) (32 * 134)).2 h) (by decide)
  · rw [hv,show ((-2148:Int) + 2148).toNat = 0 from rfl,Nat.pow_zero,Nat.mul_one]
    by_cases c:V < 0
    · rw [decide_eq_true c];simp;omega
    · rw [decide_eq_false c];simp;omega
theorem roundF_ (d:Int) (hd1:-9223372036854775808≤d) (hd2:d < 9223372036854775808) (b:Nat) (ws:List Nat) (V:Int) (hV:Rep ws V) (hb:V.natAbs < wh) (k:Nat) (w:World) (hS:Sb w b ws k 0) (hT:Tab w) (hQ:Fq.Tab w):Calls Tryz.prog 18 #[.pointer (some ⟨b,0,none⟩),.int .i64 d] w fun e w'=>e = .returned (.float .f64 (fmaW d V))∧Kp w w':=by
  have hnt:∀ w:World,Calls Tryz.prog 49 #[.agg (wc ws)] w fun e w'=>∃ (v:Value) (xs:List Int),e = .returned (.tuple #[.bool (decide (V < 0)),v])∧Own w' w.heap.size v xs∧Wd xs∧xs.length = 134∧val xs = V.natAbs∧Kp w w':=fun w=>by
    by_cases c:V < 0
    · rw [decide_eq_true c];exact natN_ ws V hV hb c w
    · rw [decide_eq_false c];exact natP_ ws V hV hb c w
  have hof:∀ (w1:World) (p:Option Addr) (c:Nat) (xs:List Int),Arr w1 p xs→Wd xs→xs.length = 134→xs.length≤c→val xs = V.natAbs→Kp w w1→Calls Tryz.prog 50 #[.int .i64 d,.bool (decide (V < 0)),.slice p xs.length c,.int .i64 (-2148)] w1 fun e w'=>e = .returned (.float .f64 (fmaW d V))∧Kp w1 w':=fun w1 p c xs hx hw hl hc hv g=>by
    have:=pof_ d (decide (V < 0)) p c xs (-2148) w1 (hT.grown g) (Fq.Tab.grown hQ g) hd1 hd2 hx hw (by omega) hc
    rw [round_val d V xs hl hw hv] at this
    exact this
  have c1:=hS.state
  have hld:=loadS hS
  generalize fmaW d V = R at *
  generalize decide (V < 0) = ng at *
  clear hV hb hT hQ hd1 hd2
  go_enter Tryz.func18,Tryz.ntmps18
  go_upto_region 3 with fail
  refine wp_region_list ?_
  refine wpl_val rfl _ rfl ?_
  refine wpl_val rfl _ rfl ?_
  refine wpl_field rfl _ _ _ rfl _ _ rfl (fa0 b _) ?_
  refine wpl_load rfl 39 _ rfl b 0 rfl _ hld ?_
  go_wp2_with (first | (go_at_call 49;refine (hnt _).mono ?_;rintro e w1 ⟨v,xs,rfl,ho,hwx,hxl,hvx,g1⟩;obtain ⟨p,c,rfl,hx,hc⟩:=ho.arr;have hof:=hof w1 p c xs hx hwx hxl hc hvx g1;clear hxl hvx hx hc hwx ho) | (go_at_call 50;refine hof.mono ?_;rintro e w2 ⟨rfl,g2⟩))
  exact bodyPost_ret (v:=.float .f64 R) (by simp [results,Tryz.results18,go_sem]) rfl ⟨rfl,g1.trans g2⟩
end Go.Proofs.YtfhcmabejagknaaGreatDoor
