import Derived.Test.YtnileplkkmhdgaaGreatDoorCards
import Derived.Test.YtnileplkkmhdgaaGreatDoorKEF
import Derived.Test.YtnileplkkmhdgaaGreatDoorRows
import Derived.Test.YtnileplkkmhdgaaGreatDoorTie
import Derived.Carry
import Derived.ChangeSlices
import Derived.Deep.DeepHandedRow
import Derived.Deep.DeepWitnessRowRef
import Derived.LaidMore
import Derived.Lib.SmallJoins
import Derived.MakeChecks
import Derived.OpenShut
import Derived.SevenTiedAt
import Derived.Stop.Joined
set_option maxRecDepth 100000
namespace Go.Proofs.YtnileplkkmhdgaaGreatDoor
open Go.RowKit

namespace ivalHoldsRoots
open Go.ChangeShapes Go.WideShapes Go.ChangeAt Go.RowKit Go.Joins
set_option linter.unusedVariables false
theorem own:ownKnob Tryz.prog.godebug = none:=by kernel_rfl
theorem laid_tail {P:Program} {W:World} {x:String × DataW Unit} {rest:List (String × DataW Unit)} (h:laidMet P (x :: rest) W):laidMet P rest W:=by
  obtain ⟨ps,hl,hn,hc⟩:=h
  obtain ⟨n,d⟩:=x
  obtain ⟨g,t,cs,fuel,p,q,_,_,_,_,hq,rfl⟩:=hl
  exact ⟨q,hq,(List.nodup_append.1 hn).2.1,fun b off hm=>hc b off (List.mem_append_right _ hm)⟩
theorem gTab0 : Tryz.prog.globalNamed "math/bits.deBruijn32tab" = some 2 := by kernel_rfl
theorem tabEq0:(Rows.laid_math_bits_deBruijn32tab:DataW Unit) = Lib.tabData .u8 tabL:=rfl
theorem tab_of_laid0 {W:World} (h:laidMetH Tryz.prog Rows.ivalHoldsRootsUptoRow.laid W):Tab W:=by
  have h0 : laidMetH Tryz.prog [("math/bits.deBruijn32tab", Rows.laid_math_bits_deBruijn32tab), ("math/bits.deBruijn64tab", Rows.laid_math_bits_deBruijn64tab)] W := h
  rw [MakeChecks.laidMetH_plain _ _ _ (by kernel_rfl)] at h0
  rw [tabEq0] at h0
  have ht:=Lib.tabIs_of_head (t:=170) (e:=5) (n:=32) gTab0 (by kernel_rfl) (by kernel_rfl) (by kernel_rfl) (by kernel_rfl) (by kernel_rfl) h0
  exact fun i hi=>ht.cell gTab0 i (by simpa [tabL] using hi)
theorem gTab1 : Tryz.prog.globalNamed "math/bits.deBruijn64tab" = some 1 := by kernel_rfl
theorem tabEq1:(Rows.laid_math_bits_deBruijn64tab:DataW Unit) = Lib.tabData .u8 Fq.tabL:=rfl
theorem tab_of_laid1 {W:World} (h:laidMetH Tryz.prog Rows.ivalHoldsRootsUptoRow.laid W):Fq.Tab W:=by
  have h0 : laidMetH Tryz.prog [("math/bits.deBruijn32tab", Rows.laid_math_bits_deBruijn32tab), ("math/bits.deBruijn64tab", Rows.laid_math_bits_deBruijn64tab)] W := h
  rw [MakeChecks.laidMetH_plain _ _ _ (by kernel_rfl)] at h0
  replace h0:=laid_tail h0
  rw [tabEq1] at h0
  have ht:=Lib.tabIs_of_head (t:=130) (e:=5) (n:=64) gTab1 (by kernel_rfl) (by kernel_rfl) (by kernel_rfl) (by kernel_rfl) (by kernel_rfl) h0
  exact fun i hi=>ht.cell gTab1 i (by simpa [Fq.tabL] using hi)
theorem laidOut:laidOutB Tryz.prog = true:=by kernel_rfl
theorem bndU {z:Int} (h:(Lit.int .u64 z).wf = true):0≤z∧z < 18446744073709551616:=by
  have e1:IntKind.u64.min = 0:=rfl
  have e2:IntKind.u64.max = 18446744073709551615:=rfl
  simp [Lit.wf,e1,e2] at h
  omega
theorem bndI {z:Int} (h:(Lit.int .i64 z).wf = true):-9223372036854775808≤z∧z < 9223372036854775808:=by
  have e1:IntKind.i64.min = -9223372036854775808:=rfl
  have e2:IntKind.i64.max = 9223372036854775807:=rfl
  simp [Lit.wf,e1,e2] at h
  omega
theorem bulk_len {H:Type} (l:List (DataW H)):l.length≤Rows.uptoBulkAll l:=by
  induction l with
  | nil=>simp [Rows.uptoBulkAll]
  | cons x r ih =>
    have h1:1≤Rows.uptoBulk x:=by cases x <;> first | (simp [Rows.uptoBulk];done) | (rename_i l;cases l <;> simp [Rows.uptoBulk])
    simp only [Rows.uptoBulkAll,List.length_cons]
    omega
theorem cellsU:Tryz.prog.cellsOf 72 = 1:=by kernel_rfl
theorem openS {H:Type} {enc:TypeId × Value→H} {W:World} {v:Value} {fuel:Nat} {y:DataW H × List MemPlace} (hf:DataW.trod enc Tryz.prog W 0 (fun _=>true) true fuel 25 [v] = some y) :
    ∃ p cap xs,v = .slice p xs.length cap∧Arr W p xs∧Wd xs∧xs.length≤cap∧xs.length≤Rows.uptoBulk y.1:=by
  rcases open_ints Tryz.underlying25 Tryz.underlying72 cellsU hf with ⟨hcs,hx⟩ | ⟨a,len,cap,zs,hcs,_,hl,hm,hz,hx,hcell,hwz⟩
  · simp at hcs
    subst hcs
    exact ⟨none,0,[],rfl,Or.inl rfl,Wd.nil,by simp,by simp⟩
  · simp at hcs
    subst hcs
    subst hx
    simp only [if_true] at hz
    have hlen:(zs.take len).length = len:=by rw [List.length_take];omega
    refine ⟨some a,cap,zs.take len,by rw [hlen], ?_, ?_,by omega, ?_⟩
    · by_cases c:len = 0
      · left;subst c;simp
      · right
        obtain ⟨b,off,rfl,hc⟩:=ints_at hcell (by omega)
        refine ⟨b,off,rfl,fun j hj=>?_⟩
        have hj':j < len:=by omega
        rw [hc j (by omega)]
        simp [List.getD,hj']
    · intro j
      have e1:IntKind.u32.min = 0:=rfl
      have e2:IntKind.u32.max = 4294967295:=rfl
      by_cases c:j < (zs.take len).length
      · have hmem:(zs.take len).getD j 0 ∈ zs:=by
          have:(zs.take len).getD j 0 = (zs.take len)[j]:=by rw [List.getD,List.getElem?_eq_getElem c];rfl
          rw [this];exact List.mem_of_mem_take (List.getElem_mem c)
        obtain ⟨z,hzz⟩:∃ z,z = (zs.take len).getD j 0:=⟨_,rfl⟩
        rw [← hzz] at hmem ⊢
        have h5:=hwz _ hmem
        simp [Lit.wf,e1,e2] at h5
        omega
      · have:(zs.take len).getD j 0 = 0:=by
          rw [List.getD,List.getElem?_eq_none (by omega)];rfl
        omega
    · have h1:=bulk_len (lits (H:=H) .u32 (zs.take len))
      have h2:(lits (H:=H) .u32 (zs.take len)).length = len:=by simp [lits];omega
      simp only [Rows.uptoBulk]
      omega
theorem op_I {H:Type} {enc:TypeId × Value→H} {W:World} {a0 a1:Value} {fuel:Nat} {y:DataW H × List MemPlace} (hf:DataW.trod enc Tryz.prog W 0 (fun _=>true) true fuel 24 [a0,a1] = some y):(∃ z:Nat,a0 = .int .u64 (z:Int)∧z < 18446744073709551616)∧(∃ z:Nat,a1 = .int .u64 (z:Int)∧z < 18446744073709551616):=by
  obtain ⟨ys,m,rfl,hx,hl,hyl,hfl⟩:=DataW.trod_struct Tryz.underlying24 hf
  match ys,hyl with
  | [y0,y1],_ =>
    have k0:Tryz.prog.cellsOf 22 = 1:=by kernel_rfl
    have r0:DataW.trod enc Tryz.prog W 0 (fun _=>true) true m 22 (([a0,a1].drop 0).take (Tryz.prog.cellsOf 22)) = some y0:=hfl 0 _ rfl
    rw [k0] at r0
    have f0:DataW.trod enc Tryz.prog W 0 (fun _=>true) true m 22 [a0] = some y0:=r0
    have k1:Tryz.prog.cellsOf 22 = 1:=by kernel_rfl
    have r1:DataW.trod enc Tryz.prog W 0 (fun _=>true) true m 22 (([a0,a1].drop 1).take (Tryz.prog.cellsOf 22)) = some y1:=hfl 1 _ rfl
    rw [k1] at r1
    have f1:DataW.trod enc Tryz.prog W 0 (fun _=>true) true m 22 [a1] = some y1:=r1
    clear r0 r1 hfl
    obtain ⟨z0,g0,-,w0⟩:=DataW.trod_int Tryz.underlying22 f0
    obtain ⟨n0,rfl⟩:=Int.eq_ofNat_of_zero_le (bndU w0).1
    simp at g0
    obtain ⟨z1,g1,-,w1⟩:=DataW.trod_int Tryz.underlying22 f1
    obtain ⟨n1,rfl⟩:=Int.eq_ofNat_of_zero_le (bndU w1).1
    simp at g1
    exact ⟨⟨n0,g0,by have:=(bndU w0).2;omega⟩,⟨n1,g1,by have:=(bndU w1).2;omega⟩⟩
theorem top_I {H:Type} {enc:TypeId × Value→H} {W:World} {base:Nat} {v:Value} {d:DataW H} {ps:List MemPlace} (hv:Value.okWide Tryz.prog W .any base 24 v) (h:DataW.Trod enc Tryz.prog W 0 (fun _=>true) true 24 v d ps) :
    ∃ a0 a1,v = .agg #[a0,a1]∧∃ fuel,DataW.trod enc Tryz.prog W 0 (fun _=>true) true fuel 24 [a0,a1] = some (d,ps):=by
  obtain ⟨cs,rfl,hsz⟩:=okWide_struct Tryz.underlying24 hv
  obtain ⟨fuel,hf⟩:=h
  have hc:Tryz.prog.cellsOf 24 = 2:=by kernel_rfl
  rw [hc] at hsz
  obtain ⟨a0,a1,rfl⟩:∃ a0 a1,cs = #[a0,a1]:=by
    obtain ⟨l⟩:=cs
    match l,hsz with
    | [a0,a1],_=>exact ⟨a0,a1,rfl⟩
  exact ⟨a0,a1,rfl,fuel,hf⟩
theorem op_R {H:Type} {enc:TypeId × Value→H} {W:World} {a0 a1 a2:Value} {fuel:Nat} {y:DataW H × List MemPlace} (hf:DataW.trod enc Tryz.prog W 0 (fun _=>true) true fuel 27 [a0,a1,a2] = some y):(∃ z:Bool,a0 = .bool z)∧(∃ p cap xs,a1 = .slice p xs.length cap∧Arr W p xs∧Wd xs∧xs.length≤cap∧xs.length≤Rows.uptoBulk y.1)∧(∃ p cap xs,a2 = .slice p xs.length cap∧Arr W p xs∧Wd xs∧xs.length≤cap∧xs.length≤Rows.uptoBulk y.1):=by
  obtain ⟨ys,m,rfl,hx,hl,hyl,hfl⟩:=DataW.trod_struct Tryz.underlying27 hf
  match ys,hyl with
  | [y0,y1,y2],_ =>
    have k0:Tryz.prog.cellsOf 4 = 1:=by kernel_rfl
    have r0:DataW.trod enc Tryz.prog W 0 (fun _=>true) true m 4 (([a0,a1,a2].drop 0).take (Tryz.prog.cellsOf 4)) = some y0:=hfl 0 _ rfl
    rw [k0] at r0
    have f0:DataW.trod enc Tryz.prog W 0 (fun _=>true) true m 4 [a0] = some y0:=r0
    have k1:Tryz.prog.cellsOf 25 = 1:=by kernel_rfl
    have r1:DataW.trod enc Tryz.prog W 0 (fun _=>true) true m 25 (([a0,a1,a2].drop 1).take (Tryz.prog.cellsOf 25)) = some y1:=hfl 1 _ rfl
    rw [k1] at r1
    have f1:DataW.trod enc Tryz.prog W 0 (fun _=>true) true m 25 [a1] = some y1:=r1
    have k2:Tryz.prog.cellsOf 25 = 1:=by kernel_rfl
    have r2:DataW.trod enc Tryz.prog W 0 (fun _=>true) true m 25 (([a0,a1,a2].drop 2).take (Tryz.prog.cellsOf 25)) = some y2:=hfl 2 _ rfl
    rw [k2] at r2
    have f2:DataW.trod enc Tryz.prog W 0 (fun _=>true) true m 25 [a2] = some y2:=r2
    clear r0 r1 r2 hfl
    obtain ⟨b0,g0,-⟩:=DataW.trod_bool Tryz.underlying4 f0
    simp at g0
    obtain ⟨p1,c1,x1,e1,h1a,h1b,h1c,h1d⟩:=openS f1
    have u1:Rows.uptoBulk y1.1≤Rows.uptoBulk y.1:=by rw [hx];simp only [List.map,Rows.uptoBulk,Rows.uptoBulkAll];omega
    obtain ⟨p2,c2,x2,e2,h2a,h2b,h2c,h2d⟩:=openS f2
    have u2:Rows.uptoBulk y2.1≤Rows.uptoBulk y.1:=by rw [hx];simp only [List.map,Rows.uptoBulk,Rows.uptoBulkAll];omega
    exact ⟨⟨b0,g0⟩,⟨p1,c1,x1,e1,h1a,h1b,h1c,by omega⟩,⟨p2,c2,x2,e2,h2a,h2b,h2c,by omega⟩⟩
theorem top_R {H:Type} {enc:TypeId × Value→H} {W:World} {base:Nat} {v:Value} {d:DataW H} {ps:List MemPlace} (hv:Value.okWide Tryz.prog W .any base 27 v) (h:DataW.Trod enc Tryz.prog W 0 (fun _=>true) true 27 v d ps) :
    ∃ a0 a1 a2,v = .agg #[a0,a1,a2]∧∃ fuel,DataW.trod enc Tryz.prog W 0 (fun _=>true) true fuel 27 [a0,a1,a2] = some (d,ps):=by
  obtain ⟨cs,rfl,hsz⟩:=okWide_struct Tryz.underlying27 hv
  obtain ⟨fuel,hf⟩:=h
  have hc:Tryz.prog.cellsOf 27 = 3:=by kernel_rfl
  rw [hc] at hsz
  obtain ⟨a0,a1,a2,rfl⟩:∃ a0 a1 a2,cs = #[a0,a1,a2]:=by
    obtain ⟨l⟩:=cs
    match l,hsz with
    | [a0,a1,a2],_=>exact ⟨a0,a1,a2,rfl⟩
  exact ⟨a0,a1,a2,rfl,fuel,hf⟩
theorem op_Q {H:Type} {enc:TypeId × Value→H} {W:World} {a0 a1 a2 a3 a4:Value} {fuel:Nat} {y:DataW H × List MemPlace} (hf:DataW.trod enc Tryz.prog W 0 (fun _=>true) true fuel 48 [a0,a1,a2,a3,a4] = some y):(∃ z:Nat,a0 = .int .u64 (z:Int)∧z < 18446744073709551616)∧(∃ z:Nat,a1 = .int .u64 (z:Int)∧z < 18446744073709551616)∧(∃ z:Bool,a2 = .bool z)∧(∃ p cap xs,a3 = .slice p xs.length cap∧Arr W p xs∧Wd xs∧xs.length≤cap∧xs.length≤Rows.uptoBulk y.1)∧(∃ p cap xs,a4 = .slice p xs.length cap∧Arr W p xs∧Wd xs∧xs.length≤cap∧xs.length≤Rows.uptoBulk y.1):=by
  obtain ⟨ys,m,rfl,hx,hl,hyl,hfl⟩:=DataW.trod_struct Tryz.underlying48 hf
  match ys,hyl with
  | [y0,y1],_ =>
    have k0:Tryz.prog.cellsOf 24 = 2:=by kernel_rfl
    have r0:DataW.trod enc Tryz.prog W 0 (fun _=>true) true m 24 (([a0,a1,a2,a3,a4].drop 0).take (Tryz.prog.cellsOf 24)) = some y0:=hfl 0 _ rfl
    rw [k0] at r0
    have f0:DataW.trod enc Tryz.prog W 0 (fun _=>true) true m 24 [a0,a1] = some y0:=r0
    have k1:Tryz.prog.cellsOf 27 = 3:=by kernel_rfl
    have r1:DataW.trod enc Tryz.prog W 0 (fun _=>true) true m 27 (([a0,a1,a2,a3,a4].drop 2).take (Tryz.prog.cellsOf 27)) = some y1:=hfl 1 _ rfl
    rw [k1] at r1
    have f1:DataW.trod enc Tryz.prog W 0 (fun _=>true) true m 27 [a2,a3,a4] = some y1:=r1
    clear r0 r1 hfl
    obtain ⟨s0_0,s0_1⟩:=op_I f0
    obtain ⟨s1_0,s1_1,s1_2⟩:=op_R f1
    have u1:Rows.uptoBulk y1.1≤Rows.uptoBulk y.1:=by rw [hx];simp only [List.map,Rows.uptoBulk,Rows.uptoBulkAll];omega
    exact ⟨s0_0,s0_1,s1_0,(by obtain ⟨p,c,x,e,q1,q2,q3,q4⟩:=s1_1;exact ⟨p,c,x,e,q1,q2,q3,by omega⟩),(by obtain ⟨p,c,x,e,q1,q2,q3,q4⟩:=s1_2;exact ⟨p,c,x,e,q1,q2,q3,by omega⟩)⟩
theorem top_Q {H:Type} {enc:TypeId × Value→H} {W:World} {base:Nat} {v:Value} {d:DataW H} {ps:List MemPlace} (hv:Value.okWide Tryz.prog W .any base 48 v) (h:DataW.Trod enc Tryz.prog W 0 (fun _=>true) true 48 v d ps) :
    ∃ a0 a1 a2 a3 a4,v = .agg #[a0,a1,a2,a3,a4]∧∃ fuel,DataW.trod enc Tryz.prog W 0 (fun _=>true) true fuel 48 [a0,a1,a2,a3,a4] = some (d,ps):=by
  obtain ⟨cs,rfl,hsz⟩:=okWide_struct Tryz.underlying48 hv
  obtain ⟨fuel,hf⟩:=h
  have hc:Tryz.prog.cellsOf 48 = 5:=by kernel_rfl
  rw [hc] at hsz
  obtain ⟨a0,a1,a2,a3,a4,rfl⟩:∃ a0 a1 a2 a3 a4,cs = #[a0,a1,a2,a3,a4]:=by
    obtain ⟨l⟩:=cs
    match l,hsz with
    | [a0,a1,a2,a3,a4],_=>exact ⟨a0,a1,a2,a3,a4,rfl⟩
  exact ⟨a0,a1,a2,a3,a4,rfl,fuel,hf⟩
theorem contract (H:Type) (enc:TypeId × Value→H) (W:World) (base:Nat) (args:Array Value) (ds gs:List (DataW H)) (before:List MemPlace)
    (hval:∀ (j:Nat) t v,Tryz.f4.params[j]? = some t→args[j]? = some v→Value.okWide Tryz.prog W .any base t v)
    (hW:DataW.Whole enc Tryz.prog Tryz.f4.params.toList Rows.ivalHoldsRootsSpec.vars false W args.toList ds gs before) (hL0:Tab W) (hL1:Fq.Tab W) (hk:Rows.uptoSmall H (ds ++ gs) = true) :
    Calls Tryz.prog 4 args W fun e W'=>∃ v,e = .returned v∧Rows.ivalHoldsRootsSpec.post enc Tryz.prog Tryz.f4 false true false false W args v W':=by
  have hW':=hW
  obtain ⟨p,q,hA0,hV,rfl,hfz,hnd⟩:=hW
  have hA:DataW.TrodAll enc Tryz.prog W 0 (fun _=>true) true Tryz.f4.params.toList args.toList ds p:=hA0
  rw [Tryz.params4] at hA hval
  obtain ⟨v0,vs0,d0,ds0,p0,q0,hargs,rfl,rfl,h0,r0⟩:=trodAll_cons hA
  obtain ⟨rfl,rfl,rfl⟩:=trodAll_nil r0
  obtain rfl:args = #[v0]:=by cases args;simp_all
  obtain ⟨rfl,rfl⟩:=trodVars_none hV
  clear hA0
  simp only [List.append_nil] at hW' hk
  have hb:Rows.uptoBulkAll [d0]≤1048576:=of_decide_eq_true hk
  simp only [Rows.uptoBulkAll] at hb
  have hlt:∀ x,x ∈ p0→x.block < W.heap.size:=fun x hx=>by simpa using hW'.lt x (by simpa [List.mem_append] using hx)
  have ha0:∀ (W':World),Below W.heap.size W W'→DataW.Trod enc Tryz.prog W' 0 (fun b=>decide (b < W.heap.size)) true 48 v0 d0 p0 :=
    fun W' hn=>Below.trod laidOut (by kernel_rfl) (of_decide_eq_true (by kernel_rfl)) h0 hn (fun x hx=>hlt x (hx))
  obtain ⟨b0_0,b0_1,b0_2,b0_3,b0_4,rfl,fu0,hf0⟩:=top_Q (hval 0 48 v0 rfl rfl) h0
  obtain ⟨⟨x0_0,rfl,lx0_0⟩,⟨x0_1,rfl,lx0_1⟩,⟨x0_2,rfl⟩,⟨px0_3,cx0_3,x0_3,rfl,ax0_3,wx0_3,kx0_3,lx0_3⟩,⟨px0_4,cx0_4,x0_4,rfl,ax0_4,wx0_4,kx0_4,lx0_4⟩⟩:=op_Q hf0
  replace lx0_3:x0_3.length≤1048576:=by first | omega | (simp only at lx0_3;omega)
  replace lx0_4:x0_4.length≤1048576:=by first | omega | (simp only at lx0_4;omega)
  refine (holdsroots_ x0_0 x0_1 x0_2 px0_3 px0_4 cx0_3 cx0_4 x0_3 x0_4 W lx0_0 lx0_1 ax0_3 wx0_3 kx0_3 lx0_3 ax0_4 wx0_4 kx0_4 lx0_4 hL0 hL1).mono fun e W' ⟨he,hnx⟩=>?_
  subst he
  refine ⟨_,rfl,_,_,_,[],_,[],hW', ?_,trodAll_cons_mk (ha0 _ hnx) trodAll_mk0,rfl,Below.frame hnx _,fun h=>by cases h⟩
  exact trodAll_cons_mk (shut_bool Tryz.underlying4 _) trodAll_mk0
theorem laid_met (os:Os):laidMet Tryz.prog Rows.ivalHoldsRootsUptoRow.laid ((World.doorLaid Tryz.prog 14 os).forCall (fun _ _=>0) ⟨#[],#[.agg #[.int .u64 0,.int .u64 0,.bool false,.slice none 0 0,.slice none 0 0]],[]⟩).memory :=
  laidMet_of_run' 8 (by kernel_rfl) (by kernel_rfl)
theorem reads (os:Os) {H:Type} (enc:TypeId × Value→H):∃ places,DataW.whole enc Tryz.prog ((World.doorLaid Tryz.prog 14 os).forCall (fun _ _=>0) ⟨#[],#[.agg #[.int .u64 0,.int .u64 0,.bool false,.slice none 0 0,.slice none 0 0]],[]⟩).memory Tryz.f4.params.toList Rows.ivalHoldsRootsSpec.vars false #[Value.agg #[.int .u64 0,.int .u64 0,.bool false,.slice none 0 0,.slice none 0 0]].toList 8 = some ([.agg [.agg [.lit (.int .u64 0),.lit (.int .u64 0)],.agg [.lit (.bool false),.nil,.nil]]],[],places) :=
  ⟨[],by kernel_rfl⟩
theorem liftedUpto (os:Os) (started:os.Started) (H:Type) (enc:TypeId × Value→H) (F:Stop.Interp) :
    ReturnsInHanded {} Tryz.checked os 4 .any ((Rows.OpenSpec.upto Rows.ivalHoldsRootsSpec).preRow enc Tryz.prog Tryz.f4 Rows.ivalHoldsRootsUptoRow.domain false Rows.ivalHoldsRootsUptoRow.laid) (((Rows.OpenSpec.upto Rows.ivalHoldsRootsSpec).at F).post enc Tryz.prog Tryz.f4 false true false false):=by
  obtain ⟨places,hx⟩:=reads os enc
  refine returnsInHanded_of_row (C:=Tryz.checked) (s:=(Rows.OpenSpec.upto Rows.ivalHoldsRootsSpec)) own started (by kernel_rfl) Tryz.func4
    (witness_row_atRef (enc:=enc) (C:=Tryz.checked) false (World.doorLaid Tryz.prog 14 os) #[.agg #[.int .u64 0,.int .u64 0,.bool false,.slice none 0 0,.slice none 0 0]] rfl (by kernel_rfl) (by kernel_rfl) (by kernel_rfl)
      (OpenSpec.preRow_of_cond 8 hx (by kernel_rfl) (fun k hk=>by cases hk;kernel_rfl) (by kernel_rfl) (laid_met os))) ?_
  intro W base args ds gs before hval hW c1 c2 c3 hl _ _
  first | exact contract H enc W base args ds gs before hval hW (tab_of_laid0 hl) (tab_of_laid1 hl) (c1 _ rfl) | exact contract H enc W base args ds gs before hval hW (tab_of_laid0 hl) (tab_of_laid1 hl) (c2 _ rfl) | exact contract H enc W base args ds gs before hval hW (tab_of_laid0 hl) (tab_of_laid1 hl) (c3 _ rfl)
theorem saidUpto:Rows.IvalHoldsRootsUptoSaid :=
  OpenClaim.holds_of_cond 4 Tryz.f4 rfl rfl rfl rfl rfl rfl rfl ⟨rfl,rfl,rfl,rfl,rfl⟩ rfl rfl rfl rfl rfl (by kernel_rfl) Tryz.func4 (by kernel_rfl)
    (of_decide_eq_true (by kernel_rfl)) (by unfold Func.isWrapper;first | (rw [if_pos (by decide +kernel)];kernel_rfl) | (rw [if_neg (by decide +kernel)];exact ⟨rfl,rfl⟩))
    (fun os started H enc _ F=>by rw [OpenClaim.pre_eq_preRow];exact liftedUpto os started H enc F)
theorem plain (f : FuncId) (fn : Func) (hf : Tryz.pinned.checked.prog.funcNamed "verge/vergelaw6.IvalHoldsRoots" = some f) (hfn : Tryz.pinned.checked.prog.funcs[f]? = some fn) :
    false = Tryz.pinned.checked.prog.looks []∧∀ (j:Nat) t,fn.params[j]? = some t→Tryz.pinned.checked.prog.wantsStandIn t = false:=by
  obtain rfl : f = 4 := Option.some.inj ((show Tryz.prog.funcNamed "verge/vergelaw6.IvalHoldsRoots" = some 4 by kernel_rfl).symm.trans hf) |>.symm
  obtain rfl:fn = Tryz.f4:=(Option.some.inj (Tryz.func4.symm.trans hfn)).symm
  refine ⟨by kernel_rfl,fun j t ht=>?_⟩
  rw [Tryz.params4] at ht
  have h:t = 48:=by simpa using Array.mem_of_getElem? ht
  rcases h with rfl
  · exact (show Tryz.prog.wantsStandIn 48 = false by kernel_rfl)
end ivalHoldsRoots
theorem ivalHoldsRoots_holds:Rows.IvalHoldsRootsUptoCardSaid :=
  Claim7.holds_tied_plain_at .later [] _ _ _ _ ivalHoldsRoots.saidUpto (fun _ h=>by cases h) (by kernel_rfl) (fun _ h=>by cases h) ivalHoldsRootsUpto_row_tie rfl ⟨rfl,rfl⟩ (by kernel_rfl) rfl ivalHoldsRoots.plain (by kernel_rfl)
end Go.Proofs.YtnileplkkmhdgaaGreatDoor
