import Derived.Test.YtcfnialfpblfmaaGreatDoorCards
import Derived.Test.YtcfnialfpblfmaaGreatDoorKWPu
import Derived.Test.YtcfnialfpblfmaaGreatDoorRows
import Derived.Test.YtcfnialfpblfmaaGreatDoorTie
import Derived.Carry
import Derived.ChangeSlices
import Derived.Deep.DeepHandedRow
import Derived.Deep.DeepWitnessRowRef
import Derived.LaidMore
import Derived.Lib.SmallJoins
import Derived.MakeChecks
import Derived.OpenShut
import Derived.SevenTiedAt
import Derived.Stop.Joined
set_option maxRecDepth 100000
namespace Go.Proofs.YtcfnialfpblfmaaGreatDoor
open Go.RowKit

namespace powerHolds
open Go.ChangeShapes Go.WideShapes Go.ChangeAt Go.RowKit
theorem cellsTwo:Tryz.prog.cellsOf 33=2:=by kernel_rfl
theorem own:ownKnob Tryz.prog.godebug=none:=by kernel_rfl
theorem laid_tail {P:Program} {W:World} {x:String × DataW Unit} {rest:List (String × DataW Unit)} (h:laidMet P (x :: rest) W):laidMet P rest W:=by
 obtain ⟨ps,hl,hn,hc⟩:=h
 obtain ⟨n,d⟩:=x
 obtain ⟨g,t,cs,fuel,p,q,_,_,_,_,hq,rfl⟩:=hl
 exact ⟨q,hq,(List.nodup_append.1 hn).2.1,fun b off hm=>hc b off (List.mem_append_right _ hm)⟩
theorem gTab0 : Tryz.prog.globalNamed "math/bits.deBruijn32tab" = some 2 := by kernel_rfl
theorem tabEq0:(Rows.laid_math_bits_deBruijn32tab:DataW Unit)=Lib.tabData .u8 tabL:=rfl
theorem tab_of_laid0 {W:World} (h:laidMetH Tryz.prog Rows.powerHoldsRow.laid W):Tab W:=by
 have h0 : laidMetH Tryz.prog [("math/bits.deBruijn32tab", Rows.laid_math_bits_deBruijn32tab), ("math/bits.deBruijn64tab", Rows.laid_math_bits_deBruijn64tab)] W := h
 rw [MakeChecks.laidMetH_plain _ _ _ (by kernel_rfl)] at h0
 rw [tabEq0] at h0
 have ht:=Lib.tabIs_of_head (t:=186) (e:=5) (n:=32) gTab0 (by kernel_rfl) (by kernel_rfl) (by kernel_rfl) (by kernel_rfl) (by kernel_rfl) h0
 exact fun i hi=>ht.cell gTab0 i (by simpa [tabL] using hi)
theorem gTab1 : Tryz.prog.globalNamed "math/bits.deBruijn64tab" = some 1 := by kernel_rfl
theorem tabEq1:(Rows.laid_math_bits_deBruijn64tab:DataW Unit)=Lib.tabData .u8 Fq.tabL:=rfl
theorem tab_of_laid1 {W:World} (h:laidMetH Tryz.prog Rows.powerHoldsRow.laid W):Fq.Tab W:=by
 have h0 : laidMetH Tryz.prog [("math/bits.deBruijn32tab", Rows.laid_math_bits_deBruijn32tab), ("math/bits.deBruijn64tab", Rows.laid_math_bits_deBruijn64tab)] W := h
 rw [MakeChecks.laidMetH_plain _ _ _ (by kernel_rfl)] at h0
 replace h0:=laid_tail h0
 rw [tabEq1] at h0
 have ht:=Lib.tabIs_of_head (t:=153) (e:=5) (n:=64) gTab1 (by kernel_rfl) (by kernel_rfl) (by kernel_rfl) (by kernel_rfl) (by kernel_rfl) h0
 exact fun i hi=>ht.cell gTab1 i (by simpa [Fq.tabL] using hi)
theorem bndU {z:Int} (h:(Lit.int .u64 z).wf=true):0≤z∧z<18446744073709551616:=by
 have e1:IntKind.u64.min=0:=rfl
 have e2:IntKind.u64.max=18446744073709551615:=rfl
 simp [Lit.wf,e1,e2] at h
 omega
theorem contract (H:Type) (enc:TypeId × Value→H) (W:World) (base:Nat) (args:Array Value) (ds gs:List (DataW H)) (before:List MemPlace)
  (hval:∀ (j:Nat) t v,Tryz.f5.params[j]? = some t→args[j]? = some v→Value.okWide Tryz.prog W .any base t v)
  (hW:DataW.Whole enc Tryz.prog Tryz.f5.params.toList Rows.powerHoldsSpec.vars false W args.toList ds gs before) (hL0:Tab W) (hL1:Fq.Tab W) :
  Calls Tryz.prog 5 args W fun e W'=>∃ v,e=.returned v∧Rows.powerHoldsSpec.post enc Tryz.prog Tryz.f5 false true false false W args v W':=by
 have hW':=hW
 obtain ⟨p,q,hA0,hV,rfl,hfz,hnd⟩:=hW
 have hA:DataW.TrodAll enc Tryz.prog W 0 (fun _=>true) true Tryz.f5.params.toList args.toList ds p:=hA0
 rw [Tryz.params5] at hA hval
 obtain ⟨v0,vs0,d0,ds0,p0,q0,hargs,rfl,rfl,h0,r0⟩:=trodAll_cons hA
 obtain ⟨v1,vs1,d1,ds1,p1,q1,rfl,rfl,rfl,h1,r1⟩:=trodAll_cons r0
 obtain ⟨v2,vs2,d2,ds2,p2,q2,rfl,rfl,rfl,h2,r2⟩:=trodAll_cons r1
 obtain ⟨v3,vs3,d3,ds3,p3,q3,rfl,rfl,rfl,h3,r3⟩:=trodAll_cons r2
 obtain ⟨v4,vs4,d4,ds4,p4,q4,rfl,rfl,rfl,h4,r4⟩:=trodAll_cons r3
 obtain ⟨rfl,rfl,rfl⟩:=trodAll_nil r4
 obtain rfl:args=#[v0,v1,v2,v3,v4]:=by cases args;simp_all
 obtain ⟨rfl,rfl⟩:=trodVars_none hV
 clear hA0
 simp only [List.append_nil] at hW'
 obtain ⟨p9,rfl,rfl,rfl,wp9⟩:=open_int Tryz.underlying31 (hval 2 31 v2 rfl rfl) h2
 obtain ⟨q9,rfl,rfl,rfl,wq9⟩:=open_int Tryz.underlying31 (hval 3 31 v3 rfl rfl) h3
 obtain ⟨n9,rfl,rfl,rfl,wn9⟩:=open_int Tryz.underlying3 (hval 4 3 v4 rfl rfl) h4
 have hz5:=bndU wp9
 have hz6:=bndU wq9
 obtain ⟨p8,rfl⟩:=Int.eq_ofNat_of_zero_le hz5.1
 obtain ⟨q8,rfl⟩:=Int.eq_ofNat_of_zero_le hz6.1
 obtain ⟨c0,c1,y0,y1,fm,rfl,rfl,rfl,hy0,hy1⟩:=Go.Joins.open_agg2 Tryz.underlying33 (by kernel_rfl) cellsTwo (hval 0 33 v0 rfl rfl) h0
 obtain ⟨a,e0,rfl,wa⟩:=DataW.trod_int Tryz.underlying31 hy0
 obtain ⟨b,e1,rfl,wb⟩:=DataW.trod_int Tryz.underlying31 hy1
 obtain ⟨c2,c3,y2,y3,fm2,rfl,rfl,rfl,hy2,hy3⟩:=Go.Joins.open_agg2 Tryz.underlying33 (by kernel_rfl) cellsTwo (hval 1 33 v1 rfl rfl) h1
 obtain ⟨c,e2,rfl,wc⟩:=DataW.trod_int Tryz.underlying31 hy2
 obtain ⟨d,e3,rfl,wd⟩:=DataW.trod_int Tryz.underlying31 hy3
 simp at e0 e1 e2 e3
 subst e0 e1 e2 e3
 have hz1:=bndU wa
 have hz2:=bndU wb
 have hz3:=bndU wc
 have hz4:=bndU wd
 obtain ⟨x,rfl⟩:=Int.eq_ofNat_of_zero_le hz1.1
 obtain ⟨y,rfl⟩:=Int.eq_ofNat_of_zero_le hz2.1
 obtain ⟨z,rfl⟩:=Int.eq_ofNat_of_zero_le hz3.1
 obtain ⟨u,rfl⟩:=Int.eq_ofNat_of_zero_le hz4.1
 have sr:∀ (W':World) (sp:Nat→Bool) (x y:Int),(Lit.int .u64 x).wf=true→(Lit.int .u64 y).wf=true→DataW.Trod enc Tryz.prog W' 0 sp true 33 (.agg #[.int .u64 x,.int .u64 y]) (.agg [.lit (.int .u64 x),.lit (.int .u64 y)]) []:=fun W' sp x y wa wb =>
  Go.Joins.shut_agg2 (y0:=(.lit (.int .u64 x),[])) (y1:=(.lit (.int .u64 y),[])) Tryz.underlying33 (by kernel_rfl) cellsTwo ⟨1,by simp [DataW.trod,Tryz.underlying31,wa]⟩ ⟨1,by simp [DataW.trod,Tryz.underlying31,wb]⟩
 refine (pholds_ x y z u p8 q8 n9 (by omega) (by omega) (by omega) (by omega) (by omega) (by omega) W hL0 hL1).mono fun e W' ⟨he,hnx⟩=>?_
 subst he
 refine ⟨_,rfl,_,_,_,[],_,[],hW', ?_,trodAll_cons_mk (sr _ _ _ _ wa wb) (trodAll_cons_mk (sr _ _ _ _ wc wd) (trodAll_cons_mk (shut_int Tryz.underlying31 wp9) (trodAll_cons_mk (shut_int Tryz.underlying31 wq9) (trodAll_cons_mk (shut_int Tryz.underlying3 wn9) trodAll_mk0)))),rfl,World.keptBut_mono (fun _ f=>f.elim) (Below.frame hnx (fun _=>False)),fun h=>by cases h⟩
 exact trodAll_cons_mk (shut_bool Tryz.underlying4 _) trodAll_mk0
theorem laid_met (os:Os):laidMet Tryz.prog Rows.powerHoldsRow.laid ((World.doorLaid Tryz.prog 14 os).forCall (fun _ _=>0) ⟨#[],#[.agg #[.int .u64 0,.int .u64 0],.agg #[.int .u64 0,.int .u64 0],.int .u64 0,.int .u64 0,.int .i64 0],[]⟩).memory :=
 laidMet_of_run' 8 (by kernel_rfl) (by kernel_rfl)
theorem reads (os:Os) {H:Type} (enc:TypeId × Value→H):∃ places,DataW.whole enc Tryz.prog ((World.doorLaid Tryz.prog 14 os).forCall (fun _ _=>0) ⟨#[],#[.agg #[.int .u64 0,.int .u64 0],.agg #[.int .u64 0,.int .u64 0],.int .u64 0,.int .u64 0,.int .i64 0],[]⟩).memory Tryz.f5.params.toList Rows.powerHoldsSpec.vars false #[Value.agg #[.int .u64 0,.int .u64 0],.agg #[.int .u64 0,.int .u64 0],.int .u64 0,.int .u64 0,.int .i64 0].toList 8=some ([.agg [.lit (.int .u64 0),.lit (.int .u64 0)],.agg [.lit (.int .u64 0),.lit (.int .u64 0)],.lit (.int .u64 0),.lit (.int .u64 0),.lit (.int .i64 0)],[],places) :=
 ⟨[],by kernel_rfl⟩
theorem lifted (os:Os) (started:os.Started) (H:Type) (enc:TypeId × Value→H) (F:Stop.Interp) :
  ReturnsInHanded {} Tryz.checked os 5 .any ((OpenSpec.ofChange Rows.powerHoldsSpec).preRow enc Tryz.prog Tryz.f5 Rows.powerHoldsRow.domain false Rows.powerHoldsRow.laid) (((OpenSpec.ofChange Rows.powerHoldsSpec).at F).post enc Tryz.prog Tryz.f5 false true false false):=by
 obtain ⟨places,hx⟩:=reads os enc
 refine returnsInHanded_of_row (C:=Tryz.checked) (s:=OpenSpec.ofChange Rows.powerHoldsSpec) own started (by kernel_rfl) Tryz.func5
  (witness_row_atRef (enc:=enc) (C:=Tryz.checked) false (World.doorLaid Tryz.prog 14 os) #[.agg #[.int .u64 0,.int .u64 0],.agg #[.int .u64 0,.int .u64 0],.int .u64 0,.int .u64 0,.int .i64 0] rfl (by kernel_rfl) (by kernel_rfl) (by kernel_rfl)
   (OpenSpec.preRow_of_cond 8 hx (by kernel_rfl) (fun k hk=>by cases hk) (by kernel_rfl) (laid_met os))) ?_
 intro W base args ds gs before hval hW _ _ _ hl _ _
 exact contract H enc W base args ds gs before hval hW (tab_of_laid0 hl) (tab_of_laid1 hl)
theorem said:Rows.PowerHoldsSaid :=
 OpenClaim.holds_of_cond 5 Tryz.f5 rfl rfl rfl rfl rfl rfl rfl ⟨rfl,rfl,rfl,rfl,rfl⟩ rfl rfl rfl rfl rfl (by kernel_rfl) Tryz.func5 (by kernel_rfl)
  (of_decide_eq_true (by kernel_rfl)) (by unfold Func.isWrapper;first | (rw [if_pos (by decide +kernel)];kernel_rfl) | (rw [if_neg (by decide +kernel)];exact ⟨rfl,rfl⟩))
  (fun os started H enc _ F=>by rw [OpenClaim.pre_eq_preRow];exact lifted os started H enc F)
theorem plain (f : FuncId) (fn : Func) (hf : Tryz.pinned.checked.prog.funcNamed "verge/vergelaw7.PowerHolds" = some f) (hfn : Tryz.pinned.checked.prog.funcs[f]? = some fn) :
  false=Tryz.pinned.checked.prog.looks []∧∀ (j:Nat) t,fn.params[j]? = some t→Tryz.pinned.checked.prog.wantsStandIn t=false:=by
 obtain rfl : f = 5 := Option.some.inj ((show Tryz.prog.funcNamed "verge/vergelaw7.PowerHolds" = some 5 by kernel_rfl).symm.trans hf) |>.symm
 obtain rfl:fn=Tryz.f5:=(Option.some.inj (Tryz.func5.symm.trans hfn)).symm
 refine ⟨by kernel_rfl,fun j t ht=>?_⟩
 rw [Tryz.params5] at ht
 have h:t=33∨t=31∨t=3:=by simpa using Array.mem_of_getElem? ht
 rcases h with rfl | rfl | rfl
 ·exact (show Tryz.prog.wantsStandIn 33=false by kernel_rfl)
 ·exact (show Tryz.prog.wantsStandIn 31=false by kernel_rfl)
 ·exact (show Tryz.prog.wantsStandIn 3=false by kernel_rfl)
end powerHolds
theorem powerHolds_holds:Rows.PowerHoldsCardSaid :=
 Claim7.holds_tied_plain_at .later [] _ _ _ _ powerHolds.said (fun _ h=>by cases h) (by kernel_rfl) (fun _ h=>by cases h) powerHolds_row_tie rfl ⟨rfl,rfl⟩ (by kernel_rfl) rfl powerHolds.plain (by kernel_rfl)
end Go.Proofs.YtcfnialfpblfmaaGreatDoor
