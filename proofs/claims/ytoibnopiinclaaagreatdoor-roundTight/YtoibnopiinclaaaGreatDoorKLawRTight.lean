import Derived.Test.YtoibnopiinclaaaGreatDoorCards
import Derived.Test.YtoibnopiinclaaaGreatDoorKXTZC
import Derived.Test.YtoibnopiinclaaaGreatDoorRows
import Derived.Test.YtoibnopiinclaaaGreatDoorTie
import Derived.Carry
import Derived.ChangeSlices
import Derived.Deep.DeepHandedRow
import Derived.Deep.DeepWitnessRowRef
import Derived.LaidMore
import Derived.Laws.IdiomArrays
import Derived.MakeChecks
import Derived.OpenShut
import Derived.SevenTiedAt
import Derived.Stop.Joined
set_option maxRecDepth 100000
namespace Go.Proofs.YtoibnopiinclaaaGreatDoor
open Go.RowKit

namespace roundTight
open Go.ChangeShapes Go.WideShapes Go.ChangeAt Go.RowKit
theorem own:ownKnob Tryz.prog.godebug = none:=by kernel_rfl
theorem laid_tail {P:Program} {W:World} {x:String × DataW Unit} {rest:List (String × DataW Unit)} (h:laidMet P (x :: rest) W):laidMet P rest W:=by
  obtain ⟨ps,hl,hn,hc⟩:=h
  obtain ⟨n,d⟩:=x
  obtain ⟨g,t,cs,fuel,p,q,_,_,_,_,hq,rfl⟩:=hl
  exact ⟨q,hq,(List.nodup_append.1 hn).2.1,fun b off hm=>hc b off (List.mem_append_right _ hm)⟩
theorem gTab0 : Tryz.prog.globalNamed "math/bits.deBruijn32tab" = some 2 := by kernel_rfl
theorem tabEq0:(Rows.laid_math_bits_deBruijn32tab:DataW Unit) = Lib.tabData .u8 tabL:=rfl
theorem tab_of_laid0 {W:World} (h:laidMetH Tryz.prog Rows.roundTightRow.laid W):Tab W:=by
  have h0 : laidMetH Tryz.prog [("math/bits.deBruijn32tab", Rows.laid_math_bits_deBruijn32tab), ("math/bits.deBruijn64tab", Rows.laid_math_bits_deBruijn64tab)] W := h
  rw [MakeChecks.laidMetH_plain _ _ _ (by kernel_rfl)] at h0
  rw [tabEq0] at h0
  have ht:=Lib.tabIs_of_head (t:=137) (e:=5) (n:=32) gTab0 (by kernel_rfl) (by kernel_rfl) (by kernel_rfl) (by kernel_rfl) (by kernel_rfl) h0
  exact fun i hi=>ht.cell gTab0 i (by simpa [tabL] using hi)
theorem gTab1 : Tryz.prog.globalNamed "math/bits.deBruijn64tab" = some 1 := by kernel_rfl
theorem tabEq1:(Rows.laid_math_bits_deBruijn64tab:DataW Unit) = Lib.tabData .u8 Fq.tabL:=rfl
theorem tab_of_laid1 {W:World} (h:laidMetH Tryz.prog Rows.roundTightRow.laid W):Fq.Tab W:=by
  have h0 : laidMetH Tryz.prog [("math/bits.deBruijn32tab", Rows.laid_math_bits_deBruijn32tab), ("math/bits.deBruijn64tab", Rows.laid_math_bits_deBruijn64tab)] W := h
  rw [MakeChecks.laidMetH_plain _ _ _ (by kernel_rfl)] at h0
  replace h0:=laid_tail h0
  rw [tabEq1] at h0
  have ht:=Lib.tabIs_of_head (t:=98) (e:=5) (n:=64) gTab1 (by kernel_rfl) (by kernel_rfl) (by kernel_rfl) (by kernel_rfl) (by kernel_rfl) h0
  exact fun i hi=>ht.cell gTab1 i (by simpa [Fq.tabL] using hi)
theorem bndU {z:Int} (h:(Lit.int .u64 z).wf = true):0≤z∧z < 18446744073709551616:=by
  have e1:IntKind.u64.min = 0:=rfl
  have e2:IntKind.u64.max = 18446744073709551615:=rfl
  simp [Lit.wf,e1,e2] at h
  omega
theorem laidOut:laidOutB Tryz.prog = true:=by kernel_rfl
theorem opened {H:Type} {enc:TypeId × Value→H} {W:World} {base:Nat} {v:Value} {d:DataW H} {ps:List MemPlace} (hv:Value.okWide Tryz.prog W .any base 23 v) (h:DataW.Trod enc Tryz.prog W 0 (fun _=>true) true 23 v d ps) :
    ∃ x y z:Int,v = .agg #[.int .u64 x,.int .u64 y,.int .u64 z]∧(0≤x∧x < 18446744073709551616)∧(0≤y∧y < 18446744073709551616)∧(0≤z∧z < 18446744073709551616):=by
  have hc3:Tryz.prog.cellsOf 23 = 3:=by kernel_rfl
  have hc1:Tryz.prog.cellsOf 22 = 1:=by kernel_rfl
  simp only [Value.okWide,Tryz.underlying23] at hv
  obtain ⟨cs,rfl,hsz,_⟩:=hv
  rw [hc3] at hsz
  obtain ⟨a0,a1,a2,rfl⟩:∃ a0 a1 a2,cs = #[a0,a1,a2]:=by
    obtain ⟨l⟩:=cs
    match l,hsz with
    | [a0,a1,a2],_=>exact ⟨a0,a1,a2,rfl⟩
  obtain ⟨fuel,hf⟩:=h
  obtain ⟨y0,y1,y2,m,_,h0,h1,h2⟩:=trod_array3 Tryz.underlying23 hc1 hf
  obtain ⟨a,ea,_,wa⟩:=DataW.trod_int Tryz.underlying22 h0
  obtain ⟨b,eb,_,wb⟩:=DataW.trod_int Tryz.underlying22 h1
  obtain ⟨c,ec,_,wc⟩:=DataW.trod_int Tryz.underlying22 h2
  simp at ea eb ec
  subst ea;subst eb;subst ec
  exact ⟨a,b,c,rfl,bndU wa,bndU wb,bndU wc⟩
theorem contract (H:Type) (enc:TypeId × Value→H) (W:World) (base:Nat) (args:Array Value) (ds gs:List (DataW H)) (before:List MemPlace)
    (hval:∀ (j:Nat) t v,Tryz.f3.params[j]? = some t→args[j]? = some v→Value.okWide Tryz.prog W .any base t v)
    (hW:DataW.Whole enc Tryz.prog Tryz.f3.params.toList Rows.roundTightSpec.vars false W args.toList ds gs before) (hL0:Tab W) (hL1:Fq.Tab W) :
    Calls Tryz.prog 3 args W fun e W'=>∃ v,e = .returned v∧Rows.roundTightSpec.post enc Tryz.prog Tryz.f3 false true false false W args v W':=by
  have hW':=hW
  obtain ⟨p,q,hA0,hV,rfl,hfz,hnd⟩:=hW
  have hA:DataW.TrodAll enc Tryz.prog W 0 (fun _=>true) true Tryz.f3.params.toList args.toList ds p:=hA0
  rw [Tryz.params3] at hA hval
  obtain ⟨v1,vs1,d1,ds1,p1,q1,hargs,rfl,rfl,h1,r1⟩:=trodAll_cons hA
  obtain ⟨rfl,rfl,rfl⟩:=trodAll_nil r1
  obtain rfl:args = #[v1]:=by cases args;simp_all
  obtain ⟨rfl,rfl⟩:=trodVars_none hV
  clear hA0
  simp only [List.append_nil] at hW'
  have hlt:∀ x ∈ p1,x.block < W.heap.size:=fun x hx=>by simpa using hW'.lt x (by simpa using hx)
  have ha1:∀ (W':World),Below W.heap.size W W'→DataW.Trod enc Tryz.prog W' 0 (fun b=>decide (b < W.heap.size)) true 23 v1 d1 p1 :=
    fun W' hn=>Below.trod laidOut (by kernel_rfl) (of_decide_eq_true (by kernel_rfl)) h1 hn hlt
  obtain ⟨zx,zy,zz,rfl,bx,by_,bz⟩:=opened (hval 0 23 v1 rfl rfl) h1
  obtain ⟨x,rfl⟩:=Int.eq_ofNat_of_zero_le bx.1
  obtain ⟨y,rfl⟩:=Int.eq_ofNat_of_zero_le by_.1
  obtain ⟨z,rfl⟩:=Int.eq_ofNat_of_zero_le bz.1
  refine (tights_ x y z W hL0 hL1 (by omega) (by omega) (by omega)).mono fun e W' ⟨he,hnx⟩=>?_
  subst he
  refine ⟨_,rfl,_,_,_,[],_,[],hW', ?_,trodAll_cons_mk (ha1 _ hnx) trodAll_mk0,rfl,Below.frame hnx _,fun h=>by cases h⟩
  exact trodAll_cons_mk (shut_bool Tryz.underlying4 _) trodAll_mk0
theorem laid_met (os:Os):laidMet Tryz.prog Rows.roundTightRow.laid ((World.doorLaid Tryz.prog 14 os).forCall (fun _ _=>0) ⟨#[],#[.agg #[.int .u64 0,.int .u64 0,.int .u64 0]],[]⟩).memory :=
  laidMet_of_run' 8 (by kernel_rfl) (by kernel_rfl)
theorem reads (os:Os) {H:Type} (enc:TypeId × Value→H):∃ places,DataW.whole enc Tryz.prog ((World.doorLaid Tryz.prog 14 os).forCall (fun _ _=>0) ⟨#[],#[.agg #[.int .u64 0,.int .u64 0,.int .u64 0]],[]⟩).memory Tryz.f3.params.toList Rows.roundTightSpec.vars false #[Value.agg #[.int .u64 0,.int .u64 0,.int .u64 0]].toList 8 = some ([.agg [.lit (.int .u64 0),.lit (.int .u64 0),.lit (.int .u64 0)]],[],places) :=
  ⟨[],by kernel_rfl⟩
theorem lifted (os:Os) (started:os.Started) (H:Type) (enc:TypeId × Value→H) (F:Stop.Interp) :
    ReturnsInHanded {} Tryz.checked os 3 .any ((OpenSpec.ofChange Rows.roundTightSpec).preRow enc Tryz.prog Tryz.f3 Rows.roundTightRow.domain false Rows.roundTightRow.laid) (((OpenSpec.ofChange Rows.roundTightSpec).at F).post enc Tryz.prog Tryz.f3 false true false false):=by
  obtain ⟨places,hx⟩:=reads os enc
  refine returnsInHanded_of_row (C:=Tryz.checked) (s:=OpenSpec.ofChange Rows.roundTightSpec) own started (by kernel_rfl) Tryz.func3
    (witness_row_atRef (enc:=enc) (C:=Tryz.checked) false (World.doorLaid Tryz.prog 14 os) #[.agg #[.int .u64 0,.int .u64 0,.int .u64 0]] rfl (by kernel_rfl) (by kernel_rfl) (by kernel_rfl)
      (OpenSpec.preRow_of_cond 8 hx (by kernel_rfl) (fun k hk=>by cases hk) (by kernel_rfl) (laid_met os))) ?_
  intro W base args ds gs before hval hW _ _ _ hl _ _
  exact contract H enc W base args ds gs before hval hW (tab_of_laid0 hl) (tab_of_laid1 hl)
theorem said:Rows.RoundTightSaid :=
  OpenClaim.holds_of_cond 3 Tryz.f3 rfl rfl rfl rfl rfl rfl rfl ⟨rfl,rfl,rfl,rfl,rfl⟩ rfl rfl rfl rfl rfl (by kernel_rfl) Tryz.func3 (by kernel_rfl)
    (of_decide_eq_true (by kernel_rfl)) (by unfold Func.isWrapper;first | (rw [if_pos (by decide +kernel)];kernel_rfl) | (rw [if_neg (by decide +kernel)];exact ⟨rfl,rfl⟩))
    (fun os started H enc _ F=>by rw [OpenClaim.pre_eq_preRow];exact lifted os started H enc F)
theorem plain (f : FuncId) (fn : Func) (hf : Tryz.pinned.checked.prog.funcNamed "verge/vergelaw3.RoundTight" = some f) (hfn : Tryz.pinned.checked.prog.funcs[f]? = some fn) :
    false = Tryz.pinned.checked.prog.looks []∧∀ (j:Nat) t,fn.params[j]? = some t→Tryz.pinned.checked.prog.wantsStandIn t = false:=by
  obtain rfl : f = 3 := Option.some.inj ((show Tryz.prog.funcNamed "verge/vergelaw3.RoundTight" = some 3 by kernel_rfl).symm.trans hf) |>.symm
  obtain rfl:fn = Tryz.f3:=(Option.some.inj (Tryz.func3.symm.trans hfn)).symm
  refine ⟨by kernel_rfl,fun j t ht=>?_⟩
  rw [Tryz.params3] at ht
  have h:t = 23:=by simpa using Array.mem_of_getElem? ht
  subst h
  exact (show Tryz.prog.wantsStandIn 23 = false by kernel_rfl)
end roundTight
theorem roundTight_holds:Rows.RoundTightCardSaid :=
  Claim7.holds_tied_plain_at .later [] _ _ _ _ roundTight.said (fun _ h=>by cases h) (by kernel_rfl) (fun _ h=>by cases h) roundTight_row_tie rfl ⟨rfl,rfl⟩ (by kernel_rfl) rfl roundTight.plain (by kernel_rfl)
end Go.Proofs.YtoibnopiinclaaaGreatDoor
