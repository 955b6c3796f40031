import Derived.Test.YtmpjcknaelgnoaaGreatDoorCards
import Derived.Test.YtmpjcknaelgnoaaGreatDoorKRVh
import Derived.Test.YtmpjcknaelgnoaaGreatDoorRows
import Derived.Test.YtmpjcknaelgnoaaGreatDoorTie
import Derived.Carry
import Derived.ChangeSlices
import Derived.Deep.DeepHandedRow
import Derived.Deep.DeepWitnessRowRef
import Derived.LaidMore
import Derived.Lib.SmallJoins
import Derived.MakeChecks
import Derived.OpenShut
import Derived.SevenTiedAt
import Derived.Stop.Joined
set_option maxRecDepth 100000
namespace Go.Proofs.YtmpjcknaelgnoaaGreatDoor
open Go.RowKit

namespace revAdds
open Go.ChangeShapes Go.WideShapes Go.ChangeAt Go.RowKit
theorem cellsTwo:Tryz.prog.cellsOf 24=2:=by kernel_rfl
theorem own:ownKnob Tryz.prog.godebug=none:=by kernel_rfl
theorem laid_tail {P:Program} {W:World} {x:String × DataW Unit} {rest:List (String × DataW Unit)} (h:laidMet P (x :: rest) W):laidMet P rest W:=by
 obtain ⟨ps,hl,hn,hc⟩:=h
 obtain ⟨n,d⟩:=x
 obtain ⟨g,t,cs,fuel,p,q,_,_,_,_,hq,rfl⟩:=hl
 exact ⟨q,hq,(List.nodup_append.1 hn).2.1,fun b off hm=>hc b off (List.mem_append_right _ hm)⟩
theorem gTab0 : Tryz.prog.globalNamed "math/bits.deBruijn32tab" = some 2 := by kernel_rfl
theorem tabEq0:(Rows.laid_math_bits_deBruijn32tab:DataW Unit)=Lib.tabData .u8 tabL:=rfl
theorem tab_of_laid0 {W:World} (h:laidMetH Tryz.prog Rows.revAddsRow.laid W):Tab W:=by
 have h0 : laidMetH Tryz.prog [("math/bits.deBruijn32tab", Rows.laid_math_bits_deBruijn32tab), ("math/bits.deBruijn64tab", Rows.laid_math_bits_deBruijn64tab)] W := h
 rw [MakeChecks.laidMetH_plain _ _ _ (by kernel_rfl)] at h0
 rw [tabEq0] at h0
 have ht:=Lib.tabIs_of_head (t:=226) (e:=5) (n:=32) gTab0 (by kernel_rfl) (by kernel_rfl) (by kernel_rfl) (by kernel_rfl) (by kernel_rfl) h0
 exact fun i hi=>ht.cell gTab0 i (by simpa [tabL] using hi)
theorem gTab1 : Tryz.prog.globalNamed "math/bits.deBruijn64tab" = some 1 := by kernel_rfl
theorem tabEq1:(Rows.laid_math_bits_deBruijn64tab:DataW Unit)=Lib.tabData .u8 Fq.tabL:=rfl
theorem tab_of_laid1 {W:World} (h:laidMetH Tryz.prog Rows.revAddsRow.laid W):Fq.Tab W:=by
 have h0 : laidMetH Tryz.prog [("math/bits.deBruijn32tab", Rows.laid_math_bits_deBruijn32tab), ("math/bits.deBruijn64tab", Rows.laid_math_bits_deBruijn64tab)] W := h
 rw [MakeChecks.laidMetH_plain _ _ _ (by kernel_rfl)] at h0
 replace h0:=laid_tail h0
 rw [tabEq1] at h0
 have ht:=Lib.tabIs_of_head (t:=194) (e:=5) (n:=64) gTab1 (by kernel_rfl) (by kernel_rfl) (by kernel_rfl) (by kernel_rfl) (by kernel_rfl) h0
 exact fun i hi=>ht.cell gTab1 i (by simpa [Fq.tabL] using hi)
theorem laidOut:laidOutB Tryz.prog=true:=by kernel_rfl
theorem bndU {z:Int} (h:(Lit.int .u64 z).wf=true):0≤z∧z<18446744073709551616:=by
 have e1:IntKind.u64.min=0:=rfl
 have e2:IntKind.u64.max=18446744073709551615:=rfl
 simp [Lit.wf,e1,e2] at h
 omega
theorem bndI {z:Int} (h:(Lit.int .i64 z).wf=true):-9223372036854775808≤z∧z<9223372036854775808:=by
 have e1:IntKind.i64.min = -9223372036854775808:=rfl
 have e2:IntKind.i64.max=9223372036854775807:=rfl
 simp [Lit.wf,e1,e2] at h
 omega
theorem bulk_len {H:Type} (l:List (DataW H)):l.length≤Rows.uptoBulkAll l:=by
 induction l with
 | nil=>simp [Rows.uptoBulkAll]
 | cons x r ih =>
   have h1:1≤Rows.uptoBulk x:=by cases x <;> first | (simp [Rows.uptoBulk];done) | (rename_i l;cases l <;> simp [Rows.uptoBulk])
   simp only [Rows.uptoBulkAll,List.length_cons]
   omega
theorem op_I {H:Type} {enc:TypeId × Value→H} {W:World} {a0 a1:Value} {fuel:Nat} {y:DataW H × List MemPlace} (hf:DataW.trod enc Tryz.prog W 0 (fun _=>true) true fuel 24 [a0,a1]=some y):(∃ z:Nat,a0=.int .u64 (z:Int)∧z<18446744073709551616)∧(∃ z:Nat,a1=.int .u64 (z:Int)∧z<18446744073709551616):=by
 obtain ⟨ys,m,rfl,hx,hl,hyl,hfl⟩:=DataW.trod_struct Tryz.underlying24 hf
 match ys,hyl with
 | [y0,y1],_ =>
   have k0:Tryz.prog.cellsOf 22=1:=by kernel_rfl
   have r0:DataW.trod enc Tryz.prog W 0 (fun _=>true) true m 22 (([a0,a1].drop 0).take (Tryz.prog.cellsOf 22))=some y0:=hfl 0 _ rfl
   rw [k0] at r0
   have f0:DataW.trod enc Tryz.prog W 0 (fun _=>true) true m 22 [a0]=some y0:=r0
   have k1:Tryz.prog.cellsOf 22=1:=by kernel_rfl
   have r1:DataW.trod enc Tryz.prog W 0 (fun _=>true) true m 22 (([a0,a1].drop 1).take (Tryz.prog.cellsOf 22))=some y1:=hfl 1 _ rfl
   rw [k1] at r1
   have f1:DataW.trod enc Tryz.prog W 0 (fun _=>true) true m 22 [a1]=some y1:=r1
   clear r0 r1 hfl
   obtain ⟨z0,g0,-,w0⟩:=DataW.trod_int Tryz.underlying22 f0
   obtain ⟨n0,rfl⟩:=Int.eq_ofNat_of_zero_le (bndU w0).1
   simp at g0
   obtain ⟨z1,g1,-,w1⟩:=DataW.trod_int Tryz.underlying22 f1
   obtain ⟨n1,rfl⟩:=Int.eq_ofNat_of_zero_le (bndU w1).1
   simp at g1
   exact ⟨⟨n0,g0,by have:=(bndU w0).2;omega⟩,⟨n1,g1,by have:=(bndU w1).2;omega⟩⟩
theorem top_I {H:Type} {enc:TypeId × Value→H} {W:World} {base:Nat} {v:Value} {d:DataW H} {ps:List MemPlace} (hv:Value.okWide Tryz.prog W .any base 24 v) (h:DataW.Trod enc Tryz.prog W 0 (fun _=>true) true 24 v d ps) :
  ∃ a0 a1,v=.agg #[a0,a1]∧∃ fuel,DataW.trod enc Tryz.prog W 0 (fun _=>true) true fuel 24 [a0,a1]=some (d,ps):=by
 obtain ⟨cs,rfl,hsz⟩:=okWide_struct Tryz.underlying24 hv
 obtain ⟨fuel,hf⟩:=h
 have hc:Tryz.prog.cellsOf 24=2:=by kernel_rfl
 rw [hc] at hsz
 obtain ⟨a0,a1,rfl⟩:∃ a0 a1,cs=#[a0,a1]:=by
  obtain ⟨l⟩:=cs
  match l,hsz with
  | [a0,a1],_=>exact ⟨a0,a1,rfl⟩
 exact ⟨a0,a1,rfl,fuel,hf⟩
theorem op_N {H:Type} {enc:TypeId × Value→H} {W:World} {a0 a1 a2 a3 a4 a5:Value} {fuel:Nat} {y:DataW H × List MemPlace} (hf:DataW.trod enc Tryz.prog W 0 (fun _=>true) true fuel 26 [a0,a1,a2,a3,a4,a5]=some y):(∃ z:Nat,a0=.int .u64 (z:Int)∧z<18446744073709551616)∧(∃ z:Nat,a1=.int .u64 (z:Int)∧z<18446744073709551616)∧(∃ z:Nat,a2=.int .u64 (z:Int)∧z<18446744073709551616)∧(∃ z:Nat,a3=.int .u64 (z:Int)∧z<18446744073709551616)∧(∃ z:Nat,a4=.int .u64 (z:Int)∧z<18446744073709551616)∧(∃ z:Nat,a5=.int .u64 (z:Int)∧z<18446744073709551616):=by
 obtain ⟨ys,m,rfl,hx,hl,hyl,hfl⟩:=DataW.trod_struct Tryz.underlying26 hf
 match ys,hyl with
 | [y0,y1,y2],_ =>
   have k0:Tryz.prog.cellsOf 24=2:=by kernel_rfl
   have r0:DataW.trod enc Tryz.prog W 0 (fun _=>true) true m 24 (([a0,a1,a2,a3,a4,a5].drop 0).take (Tryz.prog.cellsOf 24))=some y0:=hfl 0 _ rfl
   rw [k0] at r0
   have f0:DataW.trod enc Tryz.prog W 0 (fun _=>true) true m 24 [a0,a1]=some y0:=r0
   have k1:Tryz.prog.cellsOf 24=2:=by kernel_rfl
   have r1:DataW.trod enc Tryz.prog W 0 (fun _=>true) true m 24 (([a0,a1,a2,a3,a4,a5].drop 2).take (Tryz.prog.cellsOf 24))=some y1:=hfl 1 _ rfl
   rw [k1] at r1
   have f1:DataW.trod enc Tryz.prog W 0 (fun _=>true) true m 24 [a2,a3]=some y1:=r1
   have k2:Tryz.prog.cellsOf 24=2:=by kernel_rfl
   have r2:DataW.trod enc Tryz.prog W 0 (fun _=>true) true m 24 (([a0,a1,a2,a3,a4,a5].drop 4).take (Tryz.prog.cellsOf 24))=some y2:=hfl 2 _ rfl
   rw [k2] at r2
   have f2:DataW.trod enc Tryz.prog W 0 (fun _=>true) true m 24 [a4,a5]=some y2:=r2
   clear r0 r1 r2 hfl
   obtain ⟨s0_0,s0_1⟩:=op_I f0
   obtain ⟨s1_0,s1_1⟩:=op_I f1
   obtain ⟨s2_0,s2_1⟩:=op_I f2
   exact ⟨s0_0,s0_1,s1_0,s1_1,s2_0,s2_1⟩
theorem top_N {H:Type} {enc:TypeId × Value→H} {W:World} {base:Nat} {v:Value} {d:DataW H} {ps:List MemPlace} (hv:Value.okWide Tryz.prog W .any base 26 v) (h:DataW.Trod enc Tryz.prog W 0 (fun _=>true) true 26 v d ps) :
  ∃ a0 a1 a2 a3 a4 a5,v=.agg #[a0,a1,a2,a3,a4,a5]∧∃ fuel,DataW.trod enc Tryz.prog W 0 (fun _=>true) true fuel 26 [a0,a1,a2,a3,a4,a5]=some (d,ps):=by
 obtain ⟨cs,rfl,hsz⟩:=okWide_struct Tryz.underlying26 hv
 obtain ⟨fuel,hf⟩:=h
 have hc:Tryz.prog.cellsOf 26=6:=by kernel_rfl
 rw [hc] at hsz
 obtain ⟨a0,a1,a2,a3,a4,a5,rfl⟩:∃ a0 a1 a2 a3 a4 a5,cs=#[a0,a1,a2,a3,a4,a5]:=by
  obtain ⟨l⟩:=cs
  match l,hsz with
  | [a0,a1,a2,a3,a4,a5],_=>exact ⟨a0,a1,a2,a3,a4,a5,rfl⟩
 exact ⟨a0,a1,a2,a3,a4,a5,rfl,fuel,hf⟩
theorem contract (H:Type) (enc:TypeId × Value→H) (W:World) (base:Nat) (args:Array Value) (ds gs:List (DataW H)) (before:List MemPlace)
  (hval:∀ (j:Nat) t v,Tryz.f3.params[j]? = some t→args[j]? = some v→Value.okWide Tryz.prog W .any base t v)
  (hW:DataW.Whole enc Tryz.prog Tryz.f3.params.toList Rows.revAddsSpec.vars false W args.toList ds gs before) (hL0:Tab W) (hL1:Fq.Tab W) :
  Calls Tryz.prog 3 args W fun e W'=>∃ v,e=.returned v∧Rows.revAddsSpec.post enc Tryz.prog Tryz.f3 false true false false W args v W':=by
 have hW':=hW
 obtain ⟨p,q,hA0,hV,rfl,hfz,hnd⟩:=hW
 have hA:DataW.TrodAll enc Tryz.prog W 0 (fun _=>true) true Tryz.f3.params.toList args.toList ds p:=hA0
 rw [Tryz.params3] at hA hval
 obtain ⟨v0,vs0,d0,ds0,p0,q0,hargs,rfl,rfl,h0,r0⟩:=trodAll_cons hA
 obtain ⟨rfl,rfl,rfl⟩:=trodAll_nil r0
 obtain rfl:args=#[v0]:=by cases args;simp_all
 obtain ⟨rfl,rfl⟩:=trodVars_none hV
 clear hA0
 simp only [List.append_nil] at hW'
 have hlt:∀ x,x ∈ p0→x.block<W.heap.size:=fun x hx=>by simpa using hW'.lt x (by simpa [List.mem_append] using hx)
 have ha0:∀ (W':World),Below W.heap.size W W'→DataW.Trod enc Tryz.prog W' 0 (fun b=>decide (b<W.heap.size)) true 26 v0 d0 p0 :=
  fun W' hn=>Below.trod laidOut (by kernel_rfl) (of_decide_eq_true (by kernel_rfl)) h0 hn (fun x hx=>hlt x hx)
 obtain ⟨b0_0,b0_1,b0_2,b0_3,b0_4,b0_5,rfl,fu0,hf0⟩:=top_N (hval 0 26 v0 rfl rfl) h0
 obtain ⟨⟨x0_0,rfl,lx0_0⟩,⟨x0_1,rfl,lx0_1⟩,⟨x0_2,rfl,lx0_2⟩,⟨x0_3,rfl,lx0_3⟩,⟨x0_4,rfl,lx0_4⟩,⟨x0_5,rfl,lx0_5⟩⟩:=op_N hf0
 refine (raddslaw_ x0_0 x0_1 x0_2 x0_3 x0_4 x0_5 lx0_0 lx0_1 lx0_2 lx0_3 lx0_4 lx0_5 W hL0 hL1).mono fun e W' ⟨he,hnx⟩=>?_
 subst he
 refine ⟨_,rfl,_,_,_,[],_,[],hW', ?_,trodAll_cons_mk (ha0 _ hnx) trodAll_mk0,rfl,World.keptBut_mono (fun _ f=>f.elim) (Below.frame hnx (fun _=>False)),fun h=>by cases h⟩
 exact trodAll_cons_mk (shut_bool Tryz.underlying4 _) trodAll_mk0
theorem laid_met (os:Os):laidMet Tryz.prog Rows.revAddsRow.laid ((World.doorLaid Tryz.prog 14 os).forCall (fun _ _=>0) ⟨#[],#[.agg #[.int .u64 0,.int .u64 0,.int .u64 0,.int .u64 0,.int .u64 0,.int .u64 0]],[]⟩).memory :=
 laidMet_of_run' 8 (by kernel_rfl) (by kernel_rfl)
theorem reads (os:Os) {H:Type} (enc:TypeId × Value→H):∃ places,DataW.whole enc Tryz.prog ((World.doorLaid Tryz.prog 14 os).forCall (fun _ _=>0) ⟨#[],#[.agg #[.int .u64 0,.int .u64 0,.int .u64 0,.int .u64 0,.int .u64 0,.int .u64 0]],[]⟩).memory Tryz.f3.params.toList Rows.revAddsSpec.vars false #[Value.agg #[.int .u64 0,.int .u64 0,.int .u64 0,.int .u64 0,.int .u64 0,.int .u64 0]].toList 8=some ([.agg [.agg [.lit (.int .u64 0),.lit (.int .u64 0)],.agg [.lit (.int .u64 0),.lit (.int .u64 0)],.agg [.lit (.int .u64 0),.lit (.int .u64 0)]]],[],places) :=
 ⟨[],by kernel_rfl⟩
theorem lifted (os:Os) (started:os.Started) (H:Type) (enc:TypeId × Value→H) (F:Stop.Interp) :
  ReturnsInHanded {} Tryz.checked os 3 .any ((OpenSpec.ofChange Rows.revAddsSpec).preRow enc Tryz.prog Tryz.f3 Rows.revAddsRow.domain false Rows.revAddsRow.laid) (((OpenSpec.ofChange Rows.revAddsSpec).at F).post enc Tryz.prog Tryz.f3 false true false false):=by
 obtain ⟨places,hx⟩:=reads os enc
 refine returnsInHanded_of_row (C:=Tryz.checked) (s:=OpenSpec.ofChange Rows.revAddsSpec) own started (by kernel_rfl) Tryz.func3
  (witness_row_atRef (enc:=enc) (C:=Tryz.checked) false (World.doorLaid Tryz.prog 14 os) #[.agg #[.int .u64 0,.int .u64 0,.int .u64 0,.int .u64 0,.int .u64 0,.int .u64 0]] rfl (by kernel_rfl) (by kernel_rfl) (by kernel_rfl)
   (OpenSpec.preRow_of_cond 8 hx (by kernel_rfl) (fun k hk=>by cases hk) (by kernel_rfl) (laid_met os))) ?_
 intro W base args ds gs before hval hW _ _ _ hl _ _
 exact contract H enc W base args ds gs before hval hW (tab_of_laid0 hl) (tab_of_laid1 hl)
theorem said:Rows.RevAddsSaid :=
 OpenClaim.holds_of_cond 3 Tryz.f3 rfl rfl rfl rfl rfl rfl rfl ⟨rfl,rfl,rfl,rfl,rfl⟩ rfl rfl rfl rfl rfl (by kernel_rfl) Tryz.func3 (by kernel_rfl)
  (of_decide_eq_true (by kernel_rfl)) (by unfold Func.isWrapper;first | (rw [if_pos (by decide +kernel)];kernel_rfl) | (rw [if_neg (by decide +kernel)];exact ⟨rfl,rfl⟩))
  (fun os started H enc _ F=>by rw [OpenClaim.pre_eq_preRow];exact lifted os started H enc F)
theorem plain (f : FuncId) (fn : Func) (hf : Tryz.pinned.checked.prog.funcNamed "verge/vergelaw10.RevAdds" = some f) (hfn : Tryz.pinned.checked.prog.funcs[f]? = some fn) :
  false=Tryz.pinned.checked.prog.looks []∧∀ (j:Nat) t,fn.params[j]? = some t→Tryz.pinned.checked.prog.wantsStandIn t=false:=by
 obtain rfl : f = 3 := Option.some.inj ((show Tryz.prog.funcNamed "verge/vergelaw10.RevAdds" = some 3 by kernel_rfl).symm.trans hf) |>.symm
 obtain rfl:fn=Tryz.f3:=(Option.some.inj (Tryz.func3.symm.trans hfn)).symm
 refine ⟨by kernel_rfl,fun j t ht=>?_⟩
 rw [Tryz.params3] at ht
 have h:t=26:=by simpa using Array.mem_of_getElem? ht
 rcases h with rfl
 exact (show Tryz.prog.wantsStandIn 26=false by kernel_rfl)
end revAdds
theorem revAdds_holds:Rows.RevAddsCardSaid :=
 Claim7.holds_tied_plain_at .later [] _ _ _ _ revAdds.said (fun _ h=>by cases h) (by kernel_rfl) (fun _ h=>by cases h) revAdds_row_tie rfl ⟨rfl,rfl⟩ (by kernel_rfl) rfl revAdds.plain (by kernel_rfl)
end Go.Proofs.YtmpjcknaelgnoaaGreatDoor
