import Derived.Test.YtmpjcknaelgnoaaGreatDoorCards
import Derived.Test.YtmpjcknaelgnoaaGreatDoorKRNg
import Derived.Test.YtmpjcknaelgnoaaGreatDoorRows
import Derived.Test.YtmpjcknaelgnoaaGreatDoorTie
import Derived.Carry
import Derived.ChangeSlices
import Derived.Deep.DeepHandedRow
import Derived.Deep.DeepWitnessRowRef
import Derived.LaidMore
import Derived.Lib.SmallJoins
import Derived.MakeChecks
import Derived.OpenShut
import Derived.SevenTiedAt
import Derived.Stop.Joined
set_option maxRecDepth 100000
namespace Go.Proofs.YtmpjcknaelgnoaaGreatDoor
open Go.RowKit

namespace revMuls
open Go.ChangeShapes Go.WideShapes Go.ChangeAt Go.RowKit
theorem FY:Tryz.prog.cellsOf 24=2:=by kernel_rfl
theorem own:ownKnob Tryz.prog.godebug=none:=by kernel_rfl
theorem uV {P:Program}{W:World}{x:String × DataW Unit}{rest:List (String × DataW Unit)}(h:laidMet P (x :: rest) W):laidMet P rest W:=by
 obtain⟨l,i,f,c⟩:=h
 obtain⟨n,d⟩:=x
 obtain⟨g,t,k,a,p,q,_,_,_,_,j,rfl⟩:=i
 exact⟨q,j,(List.nodup_append.1 f).2.1,fun b off hm=>c b off (List.mem_append_right _ hm)⟩
theorem BI : Tryz.prog.globalNamed "math/bits.deBruijn32tab" = some 2 := by kernel_rfl
theorem Cd:(Rows.laid_math_bits_deBruijn32tab:DataW Unit)=Lib.tabData .u8 rC:=rfl
theorem oE {W:World}(h:laidMetH Tryz.prog Rows.revMulsRow.laid W):Tab W:=by
 have h0 : laidMetH Tryz.prog [("math/bits.deBruijn32tab", Rows.laid_math_bits_deBruijn32tab), ("math/bits.deBruijn64tab", Rows.laid_math_bits_deBruijn64tab)] W := h
 rw[MakeChecks.laidMetH_plain _ _ _ (by kernel_rfl)]at h0
 rw[Cd]at h0
 have ht:=Lib.tabIs_of_head (t:=226) (e:=5) (n:=32) BI (by kernel_rfl) (by kernel_rfl) (by kernel_rfl) (by kernel_rfl) (by kernel_rfl) h0
 exact fun i hi=>ht.cell BI i (by simpa [rC]using hi)
theorem BH : Tryz.prog.globalNamed "math/bits.deBruijn64tab" = some 1 := by kernel_rfl
theorem B8:(Rows.laid_math_bits_deBruijn64tab:DataW Unit)=Lib.tabData .u8 Fq.rC:=rfl
theorem oC {W:World}(h:laidMetH Tryz.prog Rows.revMulsRow.laid W):Fq.Tab W:=by
 have h0 : laidMetH Tryz.prog [("math/bits.deBruijn32tab", Rows.laid_math_bits_deBruijn32tab), ("math/bits.deBruijn64tab", Rows.laid_math_bits_deBruijn64tab)] W := h
 rw[MakeChecks.laidMetH_plain _ _ _ (by kernel_rfl)]at h0
 replace h0:=uV h0
 rw[B8]at h0
 have ht:=Lib.tabIs_of_head (t:=194) (e:=5) (n:=64) BH (by kernel_rfl) (by kernel_rfl) (by kernel_rfl) (by kernel_rfl) (by kernel_rfl) h0
 exact fun i hi=>ht.cell BH i (by simpa [Fq.rC]using hi)
theorem Ag:laidOutB Tryz.prog=true:=by kernel_rfl
theorem AP {z:Int}(h:(Lit.int .u64 z).wf=true):0≤z∧z<18446744073709551616:=by
 have a:IntKind.u64.min=0:=rfl
 have b:IntKind.u64.max=18446744073709551615:=rfl
 simp[Lit.wf,a,b]at h
 omega
theorem Iy {z:Int}(h:(Lit.int .i64 z).wf=true):-9223372036854775808≤z∧z<9223372036854775808:=by
 have a:IntKind.i64.min = -9223372036854775808:=rfl
 have b:IntKind.i64.max=9223372036854775807:=rfl
 simp[Lit.wf,a,b]at h
 omega
theorem F5 {H:Type}(l:List (DataW H)):l.length≤Rows.uptoBulkAll l:=by
 induction l with
 | nil=>simp[Rows.uptoBulkAll]
 | cons x r ih =>
   have a:1≤Rows.uptoBulk x:=by cases x<;>first|(simp[Rows.uptoBulk];done)|(rename_i l;cases l<;>simp[Rows.uptoBulk])
   simp only[Rows.uptoBulkAll,eI]
   omega
theorem CZ {H:Type}{enc:TypeId × Value→H}{W:World}{a0 a1:Value}{fuel:Nat}{y:DataW H × List MemPlace}(hf:DataW.trod enc Tryz.prog W 0 (fun _=>true) true fuel 24 [a0,a1]=some y):(∃z:Nat,a0=.int .u64 (z:Int)∧z<18446744073709551616)∧(∃z:Nat,a1=.int .u64 (z:Int)∧z<18446744073709551616):=by
 obtain⟨k,m,rfl,u,t,c,a⟩:=DataW.trod_struct Tryz.underlying24 hf
 match k,c with
 | [y0,y1],_ =>
   have l:Tryz.prog.cellsOf 22=1:=by kernel_rfl
   have d:DataW.trod enc Tryz.prog W 0 (fun _=>true) true m 22 (([a0,a1].drop 0).take (Tryz.prog.cellsOf 22))=some y0:=a 0 _ rfl
   rw[l]at d
   have j:DataW.trod enc Tryz.prog W 0 (fun _=>true) true m 22 [a0]=some y0:=d
   have o:Tryz.prog.cellsOf 22=1:=by kernel_rfl
   have b:DataW.trod enc Tryz.prog W 0 (fun _=>true) true m 22 (([a0,a1].drop 1).take (Tryz.prog.cellsOf 22))=some y1:=a 1 _ rfl
   rw[o]at b
   have n:DataW.trod enc Tryz.prog W 0 (fun _=>true) true m 22 [a1]=some y1:=b
   clear d b a
   obtain⟨s,g,-,i⟩:=DataW.trod_int Tryz.underlying22 j
   obtain⟨q,rfl⟩:=eu (AP i).1
   simp at g
   obtain⟨r,f,-,h⟩:=DataW.trod_int Tryz.underlying22 n
   obtain⟨p,rfl⟩:=eu (AP h).1
   simp at f
   exact⟨⟨q,g,by have:=(AP i).2;omega⟩,⟨p,f,by have:=(AP h).2;omega⟩⟩
theorem Hh {H:Type}{enc:TypeId × Value→H}{W:World}{base:Nat}{v:Value}{d:DataW H}{ps:List MemPlace}(hv:Value.okWide Tryz.prog W .any base 24 v)(h:DataW.Trod enc Tryz.prog W 0 (fun _=>true) true 24 v d ps) :
  ∃a0 a1,v=.agg #[a0,a1]∧∃fuel,DataW.trod enc Tryz.prog W 0 (fun _=>true) true fuel 24 [a0,a1]=some (d,ps):=by
 obtain⟨b,rfl,a⟩:=okWide_struct Tryz.underlying24 hv
 obtain⟨fuel,f⟩:=h
 have c:Tryz.prog.cellsOf 24=2:=by kernel_rfl
 rw[c]at a
 obtain⟨a0,a1,rfl⟩:∃a0 a1,b=#[a0,a1]:=by
  obtain⟨l⟩:=b
  match l,a with
  | [a0,a1],_=>exact⟨a0,a1,rfl⟩
 exact⟨a0,a1,rfl,fuel,f⟩
theorem GM {H:Type}{enc:TypeId × Value→H}{W:World}{a0 a1 a2 a3 a4 a5:Value}{fuel:Nat}{y:DataW H × List MemPlace}(hf:DataW.trod enc Tryz.prog W 0 (fun _=>true) true fuel 26 [a0,a1,a2,a3,a4,a5]=some y):(∃z:Nat,a0=.int .u64 (z:Int)∧z<18446744073709551616)∧(∃z:Nat,a1=.int .u64 (z:Int)∧z<18446744073709551616)∧(∃z:Nat,a2=.int .u64 (z:Int)∧z<18446744073709551616)∧(∃z:Nat,a3=.int .u64 (z:Int)∧z<18446744073709551616)∧(∃z:Nat,a4=.int .u64 (z:Int)∧z<18446744073709551616)∧(∃z:Nat,a5=.int .u64 (z:Int)∧z<18446744073709551616):=by
 obtain⟨q,m,rfl,u,x,l,a⟩:=DataW.trod_struct Tryz.underlying26 hf
 match q,l with
 | [y0,y1,y2],_ =>
   have p:Tryz.prog.cellsOf 24=2:=by kernel_rfl
   have k:DataW.trod enc Tryz.prog W 0 (fun _=>true) true m 24 (([a0,a1,a2,a3,a4,a5].drop 0).take (Tryz.prog.cellsOf 24))=some y0:=a 0 _ rfl
   rw[p]at k
   have n:DataW.trod enc Tryz.prog W 0 (fun _=>true) true m 24 [a0,a1]=some y0:=k
   have t:Tryz.prog.cellsOf 24=2:=by kernel_rfl
   have j:DataW.trod enc Tryz.prog W 0 (fun _=>true) true m 24 (([a0,a1,a2,a3,a4,a5].drop 2).take (Tryz.prog.cellsOf 24))=some y1:=a 1 _ rfl
   rw[t]at j
   have s:DataW.trod enc Tryz.prog W 0 (fun _=>true) true m 24 [a2,a3]=some y1:=j
   have r:Tryz.prog.cellsOf 24=2:=by kernel_rfl
   have i:DataW.trod enc Tryz.prog W 0 (fun _=>true) true m 24 (([a0,a1,a2,a3,a4,a5].drop 4).take (Tryz.prog.cellsOf 24))=some y2:=a 2 _ rfl
   rw[r]at i
   have o:DataW.trod enc Tryz.prog W 0 (fun _=>true) true m 24 [a4,a5]=some y2:=i
   clear k j i a
   obtain⟨b,c⟩:=CZ n
   obtain⟨f,d⟩:=CZ s
   obtain⟨h,g⟩:=CZ o
   exact⟨b,c,f,d,h,g⟩
theorem EE {H:Type}{enc:TypeId × Value→H}{W:World}{base:Nat}{v:Value}{d:DataW H}{ps:List MemPlace}(hv:Value.okWide Tryz.prog W .any base 26 v)(h:DataW.Trod enc Tryz.prog W 0 (fun _=>true) true 26 v d ps) :
  ∃a0 a1 a2 a3 a4 a5,v=.agg #[a0,a1,a2,a3,a4,a5]∧∃fuel,DataW.trod enc Tryz.prog W 0 (fun _=>true) true fuel 26 [a0,a1,a2,a3,a4,a5]=some (d,ps):=by
 obtain⟨b,rfl,a⟩:=okWide_struct Tryz.underlying26 hv
 obtain⟨fuel,f⟩:=h
 have c:Tryz.prog.cellsOf 26=6:=by kernel_rfl
 rw[c]at a
 obtain⟨a0,a1,a2,a3,a4,a5,rfl⟩:∃a0 a1 a2 a3 a4 a5,b=#[a0,a1,a2,a3,a4,a5]:=by
  obtain⟨l⟩:=b
  match l,a with
  | [a0,a1,a2,a3,a4,a5],_=>exact⟨a0,a1,a2,a3,a4,a5,rfl⟩
 exact⟨a0,a1,a2,a3,a4,a5,rfl,fuel,f⟩
theorem yz (H:Type)(enc:TypeId × Value→H)(W:World)(base:Nat)(args:Array Value)(ds gs:List (DataW H))(before:List MemPlace)
  (hval:∀(j:Nat) t v,Tryz.f4.params[j]? = some t→args[j]? = some v→Value.okWide Tryz.prog W .any base t v)
  (hW:DataW.Whole enc Tryz.prog Tryz.f4.params.toList Rows.revMulsSpec.vars false W args.toList ds gs before)(hL0:Tab W)(hL1:Fq.Tab W) :
  Calls Tryz.prog 4 args W fun e W'=>∃v,e=.returned v∧Rows.revMulsSpec.post enc Tryz.prog Tryz.f4 false true false false W args v W':=by
 have d:=hW
 obtain⟨p,q,y,T,rfl,R,Q⟩:=hW
 have I:DataW.TrodAll enc Tryz.prog W 0 (fun _=>true) true Tryz.f4.params.toList args.toList ds p:=y
 rw[Tryz.params4]at I hval
 obtain⟨A,P,O,U,F,X,B,rfl,rfl,L,V⟩:=trodAll_cons I
 obtain⟨rfl,rfl,rfl⟩:=trodAll_nil V
 obtain rfl:args=#[A]:=by cases args;simp_all
 obtain⟨rfl,rfl⟩:=trodVars_none T
 clear y
 simp only[List.append_nil]at d
 have C:∀x,x ∈ F→x.block<W.heap.size:=fun x hx=>by simpa using d.lt x (by simpa [List.mem_append]using hx)
 have z:∀(W':World),Below W.heap.size W W'→DataW.Trod enc Tryz.prog W' 0 (fun b=>decide (b<W.heap.size)) true 26 A O F :=
  fun W' hn=>Below.trod Ag (by kernel_rfl) (cM (by kernel_rfl)) L hn (fun x hx=>C x hx)
 obtain⟨J,N,K,M,G,E,rfl,S,D⟩:=EE (hval 0 26 A rfl rfl) L
 obtain⟨⟨r,rfl,g⟩,⟨s,rfl,c⟩,⟨o,rfl,i⟩,⟨m,rfl,a⟩,⟨n,rfl,l⟩,⟨u,rfl,k⟩⟩:=GM D
 refine(wJ r s o m n u g c i a l k W hL0 hL1).mono fun e W' ⟨he,hnx⟩=>?_
 subst he
 refine⟨_,rfl,_,_,_,[],_,[],d, ?_,trodAll_cons_mk (z _ hnx) trodAll_mk0,rfl,World.keptBut_mono (fun _ f=>f.elim) (Below.frame hnx (fun _=>False)),fun h=>by cases h⟩
 exact trodAll_cons_mk (shut_bool Tryz.underlying4 _) trodAll_mk0
theorem xQ (os:Os):laidMet Tryz.prog Rows.revMulsRow.laid ((World.doorLaid Tryz.prog 14 os).forCall (fun _ _=>0) ⟨#[],#[.agg #[.int .u64 0,.int .u64 0,.int .u64 0,.int .u64 0,.int .u64 0,.int .u64 0]],[]⟩).memory :=
 laidMet_of_run' 8 (by kernel_rfl) (by kernel_rfl)
theorem reads (os:Os){H:Type}(enc:TypeId × Value→H):∃places,DataW.whole enc Tryz.prog ((World.doorLaid Tryz.prog 14 os).forCall (fun _ _=>0) ⟨#[],#[.agg #[.int .u64 0,.int .u64 0,.int .u64 0,.int .u64 0,.int .u64 0,.int .u64 0]],[]⟩).memory Tryz.f4.params.toList Rows.revMulsSpec.vars false #[Value.agg #[.int .u64 0,.int .u64 0,.int .u64 0,.int .u64 0,.int .u64 0,.int .u64 0]].toList 8=some ([.agg [.agg [.lit (.int .u64 0),.lit (.int .u64 0)],.agg [.lit (.int .u64 0),.lit (.int .u64 0)],.agg [.lit (.int .u64 0),.lit (.int .u64 0)]]],[],places) :=
 ⟨[],by kernel_rfl⟩
theorem Dj (os:Os)(started:os.Started)(H:Type)(enc:TypeId × Value→H)(F:Stop.Interp) :
  ReturnsInHanded {} Tryz.checked os 4 .any ((OpenSpec.ofChange Rows.revMulsSpec).preRow enc Tryz.prog Tryz.f4 Rows.revMulsRow.domain false Rows.revMulsRow.laid) (((OpenSpec.ofChange Rows.revMulsSpec).at F).post enc Tryz.prog Tryz.f4 false true false false):=by
 obtain⟨f,l⟩:=reads os enc
 refine returnsInHanded_of_row (C:=Tryz.checked) (s:=OpenSpec.ofChange Rows.revMulsSpec) own started (by kernel_rfl) Tryz.func4
  (witness_row_atRef (enc:=enc) (C:=Tryz.checked) false (World.doorLaid Tryz.prog 14 os) #[.agg #[.int .u64 0,.int .u64 0,.int .u64 0,.int .u64 0,.int .u64 0,.int .u64 0]] rfl (by kernel_rfl) (by kernel_rfl) (by kernel_rfl)
   (OpenSpec.preRow_of_cond 8 l (by kernel_rfl) (fun k hk=>by cases hk) (by kernel_rfl) (xQ os))) ?_
 intro W b c h j a d i _ _ _ g _ _
 exact yz H enc W b c h j a d i (oE g) (oC g)
theorem H8:Rows.RevMulsSaid :=
 OpenClaim.holds_of_cond 4 Tryz.f4 rfl rfl rfl rfl rfl rfl rfl ⟨rfl,rfl,rfl,rfl,rfl⟩ rfl rfl rfl rfl rfl (by kernel_rfl) Tryz.func4 (by kernel_rfl)
  (cM (by kernel_rfl)) (by unfold Func.isWrapper;first|(rw[if_pos (by decide +kernel)];kernel_rfl)|(rw[if_neg (by decide +kernel)];exact⟨rfl,rfl⟩))
  (fun os started H enc _ F=>by rw[OpenClaim.pre_eq_preRow];exact Dj os started H enc F)
theorem plain (f : FuncId)(fn : Func)(hf : Tryz.pinned.checked.prog.funcNamed "verge/vergelaw10.RevMuls" = some f)(hfn : Tryz.pinned.checked.prog.funcs[f]? = some fn) :
  false=Tryz.pinned.checked.prog.looks []∧∀(j:Nat) t,fn.params[j]? = some t→Tryz.pinned.checked.prog.wantsStandIn t=false:=by
 obtain rfl : f = 4 := Option.some.inj ((show Tryz.prog.funcNamed "verge/vergelaw10.RevMuls" = some 4 by kernel_rfl).symm.trans hf) |>.symm
 obtain rfl:fn=Tryz.f4:=(Option.some.inj (Tryz.func4.symm.trans hfn)).symm
 refine⟨by kernel_rfl,fun j t ht=>?_⟩
 rw[Tryz.params4]at ht
 have h:t=26:=by simpa using Array.mem_of_getElem? ht
 rcases h with rfl
 exact(show Tryz.prog.wantsStandIn 26=false by kernel_rfl)
end revMuls
theorem revMuls_holds:Rows.RevMulsCardSaid :=
 Claim7.holds_tied_plain_at .later [] _ _ _ _ revMuls.H8 (fun _ h=>by cases h) (by kernel_rfl) (fun _ h=>by cases h) revMuls_row_tie rfl ⟨rfl,rfl⟩ (by kernel_rfl) rfl revMuls.plain (by kernel_rfl)
end Go.Proofs.YtmpjcknaelgnoaaGreatDoor
