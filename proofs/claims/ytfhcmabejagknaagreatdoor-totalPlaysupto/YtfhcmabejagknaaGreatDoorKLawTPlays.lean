import Derived.Test.YtfhcmabejagknaaGreatDoorCards
import Derived.Test.YtfhcmabejagknaaGreatDoorKTVi
import Derived.Test.YtfhcmabejagknaaGreatDoorRows
import Derived.Test.YtfhcmabejagknaaGreatDoorTie
import Derived.Carry
import Derived.ChangeSlices
import Derived.Deep.DeepHandedRow
import Derived.Deep.DeepWitnessRowRef
import Derived.Deep.Slices
import Derived.LaidMore
import Derived.MakeChecks
import Derived.OpenShut
import Derived.SevenTiedAt
import Derived.Stop.Joined
set_option maxRecDepth 100000
namespace Go.Proofs.YtfhcmabejagknaaGreatDoor
open Go.RowKit

namespace totalPlays
open Go.ChangeShapes Go.WideShapes Go.ChangeAt Go.RowKit
set_option linter.unusedVariables false
theorem own:ownKnob Tryz.prog.godebug = none:=by kernel_rfl
theorem laid_tail {P:Program} {W:World} {x:String × DataW Unit} {rest:List (String × DataW Unit)} (h:laidMet P (x :: rest) W):laidMet P rest W:=by
  obtain ⟨ps,hl,hn,hc⟩:=h
  obtain ⟨n,d⟩:=x
  obtain ⟨g,t,cs,fuel,p,q,_,_,_,_,hq,rfl⟩:=hl
  exact ⟨q,hq,(List.nodup_append.1 hn).2.1,fun b off hm=>hc b off (List.mem_append_right _ hm)⟩
theorem gTab0 : Tryz.prog.globalNamed "math/bits.deBruijn32tab" = some 2 := by kernel_rfl
theorem tabEq0:(Rows.laid_math_bits_deBruijn32tab:DataW Unit) = Lib.tabData .u8 tabL:=rfl
theorem tab_of_laid0 {W:World} (h:laidMetH Tryz.prog Rows.totalPlaysUptoRow.laid W):Tab W:=by
  have h0 : laidMetH Tryz.prog [("math/bits.deBruijn32tab", Rows.laid_math_bits_deBruijn32tab), ("math/bits.deBruijn64tab", Rows.laid_math_bits_deBruijn64tab)] W := h
  rw [MakeChecks.laidMetH_plain _ _ _ (by kernel_rfl)] at h0
  rw [tabEq0] at h0
  have ht:=Lib.tabIs_of_head (t:=164) (e:=5) (n:=32) gTab0 (by kernel_rfl) (by kernel_rfl) (by kernel_rfl) (by kernel_rfl) (by kernel_rfl) h0
  exact fun i hi=>ht.cell gTab0 i (by simpa [tabL] using hi)
theorem gTab1 : Tryz.prog.globalNamed "math/bits.deBruijn64tab" = some 1 := by kernel_rfl
theorem tabEq1:(Rows.laid_math_bits_deBruijn64tab:DataW Unit) = Lib.tabData .u8 Fq.tabL:=rfl
theorem tab_of_laid1 {W:World} (h:laidMetH Tryz.prog Rows.totalPlaysUptoRow.laid W):Fq.Tab W:=by
  have h0 : laidMetH Tryz.prog [("math/bits.deBruijn32tab", Rows.laid_math_bits_deBruijn32tab), ("math/bits.deBruijn64tab", Rows.laid_math_bits_deBruijn64tab)] W := h
  rw [MakeChecks.laidMetH_plain _ _ _ (by kernel_rfl)] at h0
  replace h0:=laid_tail h0
  rw [tabEq1] at h0
  have ht:=Lib.tabIs_of_head (t:=155) (e:=5) (n:=64) gTab1 (by kernel_rfl) (by kernel_rfl) (by kernel_rfl) (by kernel_rfl) (by kernel_rfl) h0
  exact fun i hi=>ht.cell gTab1 i (by simpa [Fq.tabL] using hi)
theorem laidOut:laidOutB Tryz.prog = true:=by kernel_rfl
theorem bulk_len {H:Type} (l:List (DataW H)):l.length≤Rows.uptoBulkAll l:=by
  induction l with
  | nil=>simp [Rows.uptoBulkAll]
  | cons x r ih =>
    have h1:1≤Rows.uptoBulk x:=by cases x <;> first | (simp [Rows.uptoBulk];done) | (rename_i l;cases l <;> simp [Rows.uptoBulk])
    simp only [Rows.uptoBulkAll,List.length_cons]
    omega
theorem bndI {z:Int} (h:(Lit.int .i64 z).wf = true):-9223372036854775808≤z∧z < 9223372036854775808:=by
  have e1:IntKind.i64.min = -9223372036854775808:=rfl
  have e2:IntKind.i64.max = 9223372036854775807:=rfl
  simp [Lit.wf,e1,e2] at h
  omega
theorem bndU {z:Int} (h:(Lit.int .u64 z).wf = true):0≤z∧z < 18446744073709551616:=by
  have e1:IntKind.u64.min = 0:=rfl
  have e2:IntKind.u64.max = 18446744073709551615:=rfl
  simp [Lit.wf,e1,e2] at h
  omega
theorem op_Tm {H:Type} {enc:TypeId × Value→H} {W:World} {a0 a1 a2 a3 a4 a5 a6:Value} {fuel:Nat} {y:DataW H × List MemPlace} (hf:DataW.trod enc Tryz.prog W 0 (fun _=>true) true fuel 36 [a0,a1,a2,a3,a4,a5,a6] = some y):(∃ z:Int,a0 = .int .i64 z∧(-9223372036854775808≤z∧z < 9223372036854775808))∧(∃ z:Int,a1 = .int .i64 z∧(-9223372036854775808≤z∧z < 9223372036854775808))∧(∃ z:Int,a2 = .int .i64 z∧(-9223372036854775808≤z∧z < 9223372036854775808))∧(∃ z:Nat,a3 = .int .u64 (z:Int)∧z < 18446744073709551616)∧(∃ z:Nat,a4 = .int .u64 (z:Int)∧z < 18446744073709551616)∧(∃ z:Int,a5 = .int .i64 z∧(-9223372036854775808≤z∧z < 9223372036854775808))∧(∃ z:Int,a6 = .int .i64 z∧(-9223372036854775808≤z∧z < 9223372036854775808)):=by
  obtain ⟨ys,m,rfl,hx,hl,hyl,hfl⟩:=DataW.trod_struct Tryz.underlying36 hf
  match ys,hyl with
  | [y0,y1,y2,y3,y4,y5,y6],_ =>
    have k0:Tryz.prog.cellsOf 3 = 1:=by kernel_rfl
    have r0:DataW.trod enc Tryz.prog W 0 (fun _=>true) true m 3 (([a0,a1,a2,a3,a4,a5,a6].drop 0).take (Tryz.prog.cellsOf 3)) = some y0:=hfl 0 _ rfl
    rw [k0] at r0
    have f0:DataW.trod enc Tryz.prog W 0 (fun _=>true) true m 3 [a0] = some y0:=r0
    have k1:Tryz.prog.cellsOf 3 = 1:=by kernel_rfl
    have r1:DataW.trod enc Tryz.prog W 0 (fun _=>true) true m 3 (([a0,a1,a2,a3,a4,a5,a6].drop 1).take (Tryz.prog.cellsOf 3)) = some y1:=hfl 1 _ rfl
    rw [k1] at r1
    have f1:DataW.trod enc Tryz.prog W 0 (fun _=>true) true m 3 [a1] = some y1:=r1
    have k2:Tryz.prog.cellsOf 3 = 1:=by kernel_rfl
    have r2:DataW.trod enc Tryz.prog W 0 (fun _=>true) true m 3 (([a0,a1,a2,a3,a4,a5,a6].drop 2).take (Tryz.prog.cellsOf 3)) = some y2:=hfl 2 _ rfl
    rw [k2] at r2
    have f2:DataW.trod enc Tryz.prog W 0 (fun _=>true) true m 3 [a2] = some y2:=r2
    have k3:Tryz.prog.cellsOf 28 = 1:=by kernel_rfl
    have r3:DataW.trod enc Tryz.prog W 0 (fun _=>true) true m 28 (([a0,a1,a2,a3,a4,a5,a6].drop 3).take (Tryz.prog.cellsOf 28)) = some y3:=hfl 3 _ rfl
    rw [k3] at r3
    have f3:DataW.trod enc Tryz.prog W 0 (fun _=>true) true m 28 [a3] = some y3:=r3
    have k4:Tryz.prog.cellsOf 28 = 1:=by kernel_rfl
    have r4:DataW.trod enc Tryz.prog W 0 (fun _=>true) true m 28 (([a0,a1,a2,a3,a4,a5,a6].drop 4).take (Tryz.prog.cellsOf 28)) = some y4:=hfl 4 _ rfl
    rw [k4] at r4
    have f4:DataW.trod enc Tryz.prog W 0 (fun _=>true) true m 28 [a4] = some y4:=r4
    have k5:Tryz.prog.cellsOf 3 = 1:=by kernel_rfl
    have r5:DataW.trod enc Tryz.prog W 0 (fun _=>true) true m 3 (([a0,a1,a2,a3,a4,a5,a6].drop 5).take (Tryz.prog.cellsOf 3)) = some y5:=hfl 5 _ rfl
    rw [k5] at r5
    have f5:DataW.trod enc Tryz.prog W 0 (fun _=>true) true m 3 [a5] = some y5:=r5
    have k6:Tryz.prog.cellsOf 3 = 1:=by kernel_rfl
    have r6:DataW.trod enc Tryz.prog W 0 (fun _=>true) true m 3 (([a0,a1,a2,a3,a4,a5,a6].drop 6).take (Tryz.prog.cellsOf 3)) = some y6:=hfl 6 _ rfl
    rw [k6] at r6
    have f6:DataW.trod enc Tryz.prog W 0 (fun _=>true) true m 3 [a6] = some y6:=r6
    clear r0 r1 r2 r3 r4 r5 r6 hfl
    obtain ⟨z0,g0,-,w0⟩:=DataW.trod_int Tryz.underlying3 f0
    simp at g0
    obtain ⟨z1,g1,-,w1⟩:=DataW.trod_int Tryz.underlying3 f1
    simp at g1
    obtain ⟨z2,g2,-,w2⟩:=DataW.trod_int Tryz.underlying3 f2
    simp at g2
    obtain ⟨z3,g3,-,w3⟩:=DataW.trod_int Tryz.underlying28 f3
    obtain ⟨n3,rfl⟩:=Int.eq_ofNat_of_zero_le (bndU w3).1
    simp at g3
    obtain ⟨z4,g4,-,w4⟩:=DataW.trod_int Tryz.underlying28 f4
    obtain ⟨n4,rfl⟩:=Int.eq_ofNat_of_zero_le (bndU w4).1
    simp at g4
    obtain ⟨z5,g5,-,w5⟩:=DataW.trod_int Tryz.underlying3 f5
    simp at g5
    obtain ⟨z6,g6,-,w6⟩:=DataW.trod_int Tryz.underlying3 f6
    simp at g6
    exact ⟨⟨z0,g0,bndI w0⟩,⟨z1,g1,bndI w1⟩,⟨z2,g2,bndI w2⟩,⟨n3,g3,by have:=(bndU w3).2;omega⟩,⟨n4,g4,by have:=(bndU w4).2;omega⟩,⟨z5,g5,bndI w5⟩,⟨z6,g6,bndI w6⟩⟩
theorem ce53:Tryz.prog.cellsOf 36 = 7:=by kernel_rfl
theorem openedT {H:Type} {enc:TypeId × Value→H} {W:World} {base:Nat} {v:Value} {d:DataW H} {ps:List MemPlace} (hv:Value.okWide Tryz.prog W .any base 22 v) (h:DataW.Trod enc Tryz.prog W 0 (fun _=>true) true 22 v d ps) :
    ∃ p cap L,v = .slice p (List.length L) cap∧ArrP W p L∧StpOk L∧L.length≤Rows.uptoBulk d:=by
  obtain ⟨a0,len,cap,rfl⟩:=okWide_slice Tryz.underlying22 hv
  obtain ⟨fuel,hf⟩:=h
  rcases Go.Deep.open_slice Tryz.underlying22 hf with ⟨hcs,hx⟩ | ⟨a,len',cap',m,n,D,Pl,hcs,_,hl,hm,hmm,hx,hcell⟩
  · simp [Value.cells] at hcs
    obtain ⟨rfl,rfl,rfl⟩:=hcs
    exact ⟨none,0,[],rfl,Or.inl rfl,fun j hj=>by simp at hj,by simp⟩
  · simp [Value.cells] at hcs
    obtain ⟨rfl,rfl,rfl⟩:=hcs
    simp only [Prod.mk.injEq] at hx
    obtain ⟨rfl,rfl⟩:=hx
    simp only [if_true] at hmm
    rw [ce53] at hcell
    have hbk:len≤Rows.uptoBulk (DataW.slice ((List.range len).map D) ((List.range (m - len)).map fun j=>D (len + j))):=by
      have h1:=bulk_len ((List.range len).map D)
      rw [List.length_map,List.length_range] at h1
      simp only [Rows.uptoBulk]
      omega
    by_cases c0:len = 0
    · subst c0
      exact ⟨some a,cap,[],rfl,Or.inl rfl,fun j hj=>by simp at hj,by simp⟩
    · obtain ⟨b,off,spot⟩:=a
      have hspot:spot = none:=by
        obtain ⟨cs',h1,h2⟩:=hcell 0 (by omega)
        obtain ⟨_,hlen,hc⟩:=World.cells?_some h1
        match cs',hlen with
        | [c0,c1,c2,c3,c4,c5,c6],_ =>
          have:=hc 0 (by decide)
          simpa [Addr.add] using World.cell?_spot this
      subst hspot
      have key:∀ i,i < len→∃ t:Stp,(t.2.2.2.1 < 18446744073709551616∧t.2.2.2.2.1 < 18446744073709551616∧(-9223372036854775808≤t.2.2.2.2.2.1∧t.2.2.2.2.2.1 < 9223372036854775808)∧t.2.2.2.2.2.2 < 9223372036854775808)∧W.cell? ⟨b,off + i * 7,none⟩ = some (.int .i64 t.1)∧W.cell? ⟨b,off + i * 7 + 1,none⟩ = some (.int .i64 t.2.1)∧W.cell? ⟨b,off + i * 7 + 2,none⟩ = some (.int .i64 t.2.2.1)∧W.cell? ⟨b,off + i * 7 + 3,none⟩ = some (.int .u64 ((t.2.2.2.1:Nat):Int))∧W.cell? ⟨b,off + i * 7 + 4,none⟩ = some (.int .u64 ((t.2.2.2.2.1:Nat):Int))∧W.cell? ⟨b,off + i * 7 + 5,none⟩ = some (.int .i64 t.2.2.2.2.2.1)∧W.cell? ⟨b,off + i * 7 + 6,none⟩ = some (.int .i64 t.2.2.2.2.2.2):=by
        intro i hi
        obtain ⟨cs',h1,h2⟩:=hcell i (by omega)
        obtain ⟨_,hlen,hc⟩:=World.cells?_some h1
        match cs',hlen with
        | [c0,c1,c2,c3,c4,c5,c6],_ =>
          obtain ⟨⟨O,rfl,hO⟩,⟨S,rfl,hS⟩,⟨T,rfl,hT⟩,⟨X,rfl,hX⟩,⟨Y,rfl,hY⟩,⟨e,rfl,he⟩,⟨m9,rfl,hm9⟩⟩:=op_Tm h2
          have e0:=hc 0 (by decide)
          have e1:=hc 1 (by decide)
          have e2:=hc 2 (by decide)
          have e3:=hc 3 (by decide)
          have e4:=hc 4 (by decide)
          have e5:=hc 5 (by decide)
          have e6:=hc 6 (by decide)
          rw [Go.WideShapes.add_plain,Go.WideShapes.add_plain] at e0 e1 e2 e3 e4 e5 e6
          exact ⟨(O,S,T,X,Y,e,m9),⟨hX,hY,(by dsimp only;omega),(by dsimp only;omega)⟩,e0,e1,e2,e3,e4,e5,e6⟩
      let f:Nat→Stp:=fun i=>if h:i < len then Classical.choose (key i h) else (0,0,0,0,0,0,0)
      have hf2:∀ i (h:i < len),f i = Classical.choose (key i h):=fun i h=>by simp only [f,h,dif_pos]
      have hg:∀ i,i < len→((List.range len).map f).getD i (0,0,0,0,0,0,0) = f i:=fun i h=>by
        simp [List.getD,h]
      have hlen:((List.range len).map f).length = len:=by simp
      refine ⟨some ⟨b,off,none⟩,cap,(List.range len).map f,by rw [hlen],Or.inr ⟨b,off,rfl,fun j hj=>?_⟩,fun j hj=>?_,by rw [hlen];exact hbk⟩
      · have hj:j < len:=by omega
        have k:=Classical.choose_spec (key j hj)
        rw [hg j hj,hf2 j hj]
        exact k.2
      · have hj:j < len:=by omega
        have k:=Classical.choose_spec (key j hj)
        rw [hg j hj,hf2 j hj]
        exact k.1
theorem contract (H:Type) (enc:TypeId × Value→H) (W:World) (base:Nat) (args:Array Value) (ds gs:List (DataW H)) (before:List MemPlace)
    (hval:∀ (j:Nat) t v,Tryz.f3.params[j]? = some t→args[j]? = some v→Value.okWide Tryz.prog W .any base t v)
    (hW:DataW.Whole enc Tryz.prog Tryz.f3.params.toList Rows.totalPlaysSpec.vars false W args.toList ds gs before) (hL0:Tab W) (hL1:Fq.Tab W) (hk:Rows.uptoSmall H (ds ++ gs) = true) :
    Calls Tryz.prog 3 args W fun e W'=>∃ v,e = .returned v∧Rows.totalPlaysSpec.post enc Tryz.prog Tryz.f3 false true false false W args v W':=by
  have hW':=hW
  obtain ⟨p,q,hA0,hV,rfl,hfz,hnd⟩:=hW
  have hA:DataW.TrodAll enc Tryz.prog W 0 (fun _=>true) true Tryz.f3.params.toList args.toList ds p:=hA0
  rw [Tryz.params3] at hA hval
  obtain ⟨v0,vs0,d0,ds0,p0,q0,hargs,rfl,rfl,h0,r0⟩:=trodAll_cons hA
  obtain ⟨rfl,rfl,rfl⟩:=trodAll_nil r0
  obtain rfl:args = #[v0]:=by cases args;simp_all
  obtain ⟨rfl,rfl⟩:=trodVars_none hV
  clear hA0
  simp only [List.append_nil] at hW' hk
  have hb:Rows.uptoBulkAll [d0]≤1048576:=of_decide_eq_true hk
  simp only [Rows.uptoBulkAll] at hb
  have hlt:∀ x,x ∈ p0→x.block < W.heap.size:=fun x hx=>by simpa using hW'.lt x (by simpa [List.mem_append] using hx)
  have ha0:∀ (W':World),Below W.heap.size W W'→DataW.Trod enc Tryz.prog W' 0 (fun b=>decide (b < W.heap.size)) true 22 v0 d0 p0 :=
    fun W' hn=>Below.trod laidOut (by kernel_rfl) (of_decide_eq_true (by kernel_rfl)) h0 hn (fun x hx=>hlt x (hx))
  obtain ⟨px0,cx0,x0,rfl,ax0,wx0,lx0⟩:=openedT (hval 0 22 v0 rfl rfl) h0
  replace lx0:x0.length≤1048576:=by omega
  refine (tplays_ 1074 rfl px0 cx0 x0 wx0 lx0 W ax0 hL0 hL1).mono fun e W' ⟨he,hnx⟩=>?_
  subst he
  refine ⟨_,rfl,_,_,_,[],_,[],hW', ?_,trodAll_cons_mk (ha0 _ hnx) trodAll_mk0,rfl,Below.frame hnx _,fun h=>by cases h⟩
  exact trodAll_cons_mk (shut_bool Tryz.underlying4 _) trodAll_mk0
theorem laid_met (os:Os):laidMet Tryz.prog Rows.totalPlaysUptoRow.laid ((World.doorLaid Tryz.prog 14 os).forCall (fun _ _=>0) ⟨#[],#[.slice none 0 0],[]⟩).memory :=
  laidMet_of_run' 8 (by kernel_rfl) (by kernel_rfl)
theorem reads (os:Os) {H:Type} (enc:TypeId × Value→H):∃ places,DataW.whole enc Tryz.prog ((World.doorLaid Tryz.prog 14 os).forCall (fun _ _=>0) ⟨#[],#[.slice none 0 0],[]⟩).memory Tryz.f3.params.toList Rows.totalPlaysSpec.vars false #[Value.slice none 0 0].toList 8 = some ([.nil],[],places) :=
  ⟨[],by kernel_rfl⟩
theorem liftedUpto (os:Os) (started:os.Started) (H:Type) (enc:TypeId × Value→H) (F:Stop.Interp) :
    ReturnsInHanded {} Tryz.checked os 3 .any ((Rows.OpenSpec.upto Rows.totalPlaysSpec).preRow enc Tryz.prog Tryz.f3 Rows.totalPlaysUptoRow.domain false Rows.totalPlaysUptoRow.laid) (((Rows.OpenSpec.upto Rows.totalPlaysSpec).at F).post enc Tryz.prog Tryz.f3 false true false false):=by
  obtain ⟨places,hx⟩:=reads os enc
  refine returnsInHanded_of_row (C:=Tryz.checked) (s:=(Rows.OpenSpec.upto Rows.totalPlaysSpec)) own started (by kernel_rfl) Tryz.func3
    (witness_row_atRef (enc:=enc) (C:=Tryz.checked) false (World.doorLaid Tryz.prog 14 os) #[.slice none 0 0] rfl (by kernel_rfl) (by kernel_rfl) (by kernel_rfl)
      (OpenSpec.preRow_of_cond 8 hx (by kernel_rfl) (fun k hk=>by cases hk;kernel_rfl) (by kernel_rfl) (laid_met os))) ?_
  intro W base args ds gs before hval hW c1 c2 c3 hl _ _
  first | exact contract H enc W base args ds gs before hval hW (tab_of_laid0 hl) (tab_of_laid1 hl) (c1 _ rfl) | exact contract H enc W base args ds gs before hval hW (tab_of_laid0 hl) (tab_of_laid1 hl) (c2 _ rfl) | exact contract H enc W base args ds gs before hval hW (tab_of_laid0 hl) (tab_of_laid1 hl) (c3 _ rfl)
theorem saidUpto:Rows.TotalPlaysUptoSaid :=
  OpenClaim.holds_of_cond 3 Tryz.f3 rfl rfl rfl rfl rfl rfl rfl ⟨rfl,rfl,rfl,rfl,rfl⟩ rfl rfl rfl rfl rfl (by kernel_rfl) Tryz.func3 (by kernel_rfl)
    (of_decide_eq_true (by kernel_rfl)) (by unfold Func.isWrapper;first | (rw [if_pos (by decide +kernel)];kernel_rfl) | (rw [if_neg (by decide +kernel)];exact ⟨rfl,rfl⟩))
    (fun os started H enc _ F=>by rw [OpenClaim.pre_eq_preRow];exact liftedUpto os started H enc F)
theorem plain (f : FuncId) (fn : Func) (hf : Tryz.pinned.checked.prog.funcNamed "verge/vergelaw4.TotalPlays" = some f) (hfn : Tryz.pinned.checked.prog.funcs[f]? = some fn) :
    false = Tryz.pinned.checked.prog.looks []∧∀ (j:Nat) t,fn.params[j]? = some t→Tryz.pinned.checked.prog.wantsStandIn t = false:=by
  obtain rfl : f = 3 := Option.some.inj ((show Tryz.prog.funcNamed "verge/vergelaw4.TotalPlays" = some 3 by kernel_rfl).symm.trans hf) |>.symm
  obtain rfl:fn = Tryz.f3:=(Option.some.inj (Tryz.func3.symm.trans hfn)).symm
  refine ⟨by kernel_rfl,fun j t ht=>?_⟩
  rw [Tryz.params3] at ht
  have h:t = 22:=by simpa using Array.mem_of_getElem? ht
  rcases h with rfl
  · exact (show Tryz.prog.wantsStandIn 22 = false by kernel_rfl)
end totalPlays
theorem totalPlays_holds:Rows.TotalPlaysUptoCardSaid :=
  Claim7.holds_tied_plain_at .later [] _ _ _ _ totalPlays.saidUpto (fun _ h=>by cases h) (by kernel_rfl) (fun _ h=>by cases h) totalPlaysUpto_row_tie rfl ⟨rfl,rfl⟩ (by kernel_rfl) rfl totalPlays.plain (by kernel_rfl)
end Go.Proofs.YtfhcmabejagknaaGreatDoor
