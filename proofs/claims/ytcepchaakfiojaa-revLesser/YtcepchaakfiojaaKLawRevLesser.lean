import Derived.Test.YtcepchaakfiojaaKRVt
import Derived.Test.YtcepchaakfiojaaRows
import Derived.Deep.Strs
import Derived.Lib.SmallJoins
import Derived.OpenShut
set_option maxRecDepth 100000
namespace Go.Proofs.Ytcepchaakfiojaa.revLesser
open Go.ChangeShapes Go.WideShapes Go.ChangeAt Go.RowKit Go.Joins
set_option linter.unusedVariables false

theorem own:ownKnob Try.prog.godebug = none:=by kernel_rfl
theorem cellsTwo:Try.prog.cellsOf 24 = 2:=by kernel_rfl
theorem bndU {z:Int} (h:(Lit.int .u64 z).wf = true):0≤z∧z < 18446744073709551616:=by
  have e1:IntKind.u64.min = 0:=rfl
  have e2:IntKind.u64.max = 18446744073709551615:=rfl
  simp [Lit.wf,e1,e2] at h
  omega
theorem walk (a9:Int) (b9:Int) (c9:Int) (d9:Int) (e9:Int) (f9:Int) (wa9:(Lit.int .u64 a9).wf = true) (wb9:(Lit.int .u64 b9).wf = true) (wc9:(Lit.int .u64 c9).wf = true) (wd9:(Lit.int .u64 d9).wf = true) (we9:(Lit.int .u64 e9).wf = true) (wf9:(Lit.int .u64 f9).wf = true) (W:World):Calls Try.prog 3 #[.agg #[.int .u64 a9,.int .u64 b9,.int .u64 c9,.int .u64 d9,.int .u64 e9,.int .u64 f9]] W fun e W'=>e = .returned (.bool true)∧Kp W W':=by
  have hz0:=bndU wa9
  have hz1:=bndU wb9
  have hz2:=bndU wc9
  have hz3:=bndU wd9
  have hz4:=bndU we9
  have hz5:=bndU wf9
  obtain ⟨x0,rfl⟩:=Int.eq_ofNat_of_zero_le hz0.1
  obtain ⟨x1,rfl⟩:=Int.eq_ofNat_of_zero_le hz1.1
  obtain ⟨x2,rfl⟩:=Int.eq_ofNat_of_zero_le hz2.1
  obtain ⟨x3,rfl⟩:=Int.eq_ofNat_of_zero_le hz3.1
  obtain ⟨x4,rfl⟩:=Int.eq_ofNat_of_zero_le hz4.1
  obtain ⟨x5,rfl⟩:=Int.eq_ofNat_of_zero_le hz5.1
  exact rlesser_ x0 x1 x2 x3 x4 x5 (by omega) (by omega) (by omega) (by omega) (by omega) (by omega) W
theorem cellsSix:Try.prog.cellsOf 26 = 6:=by kernel_rfl
theorem cellsOne:Try.prog.cellsOf 22 = 1:=by kernel_rfl
theorem array6 {α:Type} {cs:Array α} (h:cs.size = 6):∃ c0 c1 c2 c3 c4 c5,cs = #[c0,c1,c2,c3,c4,c5]:=by
  obtain ⟨l⟩:=cs
  match l,h with
  | [c0,c1,c2,c3,c4,c5],_=>exact ⟨c0,c1,c2,c3,c4,c5,rfl⟩
theorem lifted (os:Os) (started:os.Started) (H:Type) (enc:TypeId × Value→H) :
    ReturnsInHanded {} Try.checked os 3 .any (Rows.revLesserSpec.pre6 enc Try.prog Try.f3 Rows.revLesserRow.domain false) (Rows.revLesserSpec.post enc Try.prog Try.f3 false true false false):=by
  refine returnsInHanded_of_change (C:=Try.checked) own started (by kernel_rfl) Try.func3
    (ChangeSpec.witness6 (enc:=enc) (C:=Try.checked) false ⟨#[],#[.agg #[.int .u64 0,.int .u64 0,.int .u64 0,.int .u64 0,.int .u64 0,.int .u64 0]],[]⟩ 8 (by kernel_rfl) (by kernel_rfl) (by kernel_rfl) (by kernel_rfl)) ?_
  intro W base args ds gs before hval0 hW hcnd _
  have hval:∀ (j:Nat) t v,Try.f3.params[j]? = some t→args[j]? = some v→Value.okWide Try.prog W .any base t v:=hval0
  have hW':=hW
  obtain ⟨p,q,hA0,hV,rfl,hfz,hnd⟩:=hW
  have hA:DataW.TrodAll enc Try.prog W 0 (fun _=>true) true Try.f3.params.toList args.toList ds p:=hA0
  rw [Try.params3] at hA hval
  obtain ⟨v0,vs0,d0,ds0,p0,q0,hargs,rfl,rfl,h0,r0⟩:=trodAll_cons hA
  obtain ⟨rfl,rfl,rfl⟩:=trodAll_nil r0
  obtain rfl:args = #[v0]:=by cases args;simp_all
  obtain ⟨rfl,rfl⟩:=trodVars_none hV
  obtain ⟨cs,rfl,hsz⟩:=okWide_struct Try.underlying26 (hval 0 26 v0 rfl rfl)
  obtain ⟨c0,c1,c2,c3,c4,c5,rfl⟩:=array6 (hsz.trans cellsSix)
  obtain ⟨fuel,hf⟩:=h0
  obtain ⟨z0,z1,z2,m0,hx,_,k0,k1,k2⟩:=Go.Deep.trod_struct3 Try.underlying26 hf
  obtain ⟨y0,y1,m1,hx0,_,hy0,hy1⟩:=trod_struct2 Try.underlying24 (show DataW.trod _ _ _ _ _ _ m0 24 [c0,c1] = some z0 from by simpa [Value.cells,cellsTwo] using k0)
  obtain ⟨y2,y3,m2,hx1,_,hy2,hy3⟩:=trod_struct2 Try.underlying24 (show DataW.trod _ _ _ _ _ _ m0 24 [c2,c3] = some z1 from by simpa [Value.cells,cellsTwo] using k1)
  obtain ⟨y4,y5,m3,hx2,_,hy4,hy5⟩:=trod_struct2 Try.underlying24 (show DataW.trod _ _ _ _ _ _ m0 24 [c4,c5] = some z2 from by simpa [Value.cells,cellsTwo] using k2)
  obtain ⟨a9,e0,rfl,wa9⟩:=DataW.trod_int Try.underlying22 (show DataW.trod _ _ _ _ _ _ m1 22 [c0] = some y0 from by simpa [cellsOne] using hy0)
  obtain ⟨b9,e1,rfl,wb9⟩:=DataW.trod_int Try.underlying22 (show DataW.trod _ _ _ _ _ _ m1 22 [c1] = some y1 from by simpa [cellsOne] using hy1)
  obtain ⟨c9,e2,rfl,wc9⟩:=DataW.trod_int Try.underlying22 (show DataW.trod _ _ _ _ _ _ m2 22 [c2] = some y2 from by simpa [cellsOne] using hy2)
  obtain ⟨d9,e3,rfl,wd9⟩:=DataW.trod_int Try.underlying22 (show DataW.trod _ _ _ _ _ _ m2 22 [c3] = some y3 from by simpa [cellsOne] using hy3)
  obtain ⟨e9,e4,rfl,we9⟩:=DataW.trod_int Try.underlying22 (show DataW.trod _ _ _ _ _ _ m3 22 [c4] = some y4 from by simpa [cellsOne] using hy4)
  obtain ⟨f9,e5,rfl,wf9⟩:=DataW.trod_int Try.underlying22 (show DataW.trod _ _ _ _ _ _ m3 22 [c5] = some y5 from by simpa [cellsOne] using hy5)
  subst hx0 hx1 hx2
  simp only [Prod.mk.injEq] at hx
  obtain ⟨hd,hp⟩:=hx
  simp at e0 e1 e2 e3 e4 e5
  subst e0 e1 e2 e3 e4 e5
  simp at hd hp
  subst hd hp
  clear hA0 hval0
  simp only [List.append_nil] at hW'
  have s2:∀ (W':World) (sp:Nat→Bool) (x y:Int),(Lit.int .u64 x).wf = true→(Lit.int .u64 y).wf = true→DataW.trod enc Try.prog W' 0 sp true 2 24 [.int .u64 x,.int .u64 y] = some (.agg [.lit (.int .u64 x),.lit (.int .u64 y)],[]):=fun W' sp x y wa wb=>by
    have:=trod_struct2_mk (enc:=enc) (w:=W') (base:=0) (spare:=sp) (held:=true) (n:=1) (cs:=[.int .u64 x,.int .u64 y]) (y0:=(.lit (.int .u64 x),[])) (y1:=(.lit (.int .u64 y),[])) Try.underlying24 (by simp [cellsTwo]) (by simp [cellsOne,DataW.trod,Try.underlying22,wa]) (by simp [cellsOne,DataW.trod,Try.underlying22,wb])
    simpa using this
  have sr:∀ (W':World) (sp:Nat→Bool) (x1 x2 x3 x4 x5 x6:Int),(Lit.int .u64 x1).wf = true→(Lit.int .u64 x2).wf = true→(Lit.int .u64 x3).wf = true→(Lit.int .u64 x4).wf = true→(Lit.int .u64 x5).wf = true→(Lit.int .u64 x6).wf = true→DataW.Trod enc Try.prog W' 0 sp true 26 (.agg #[.int .u64 x1,.int .u64 x2,.int .u64 x3,.int .u64 x4,.int .u64 x5,.int .u64 x6]) (.agg [.agg [.lit (.int .u64 x1),.lit (.int .u64 x2)],.agg [.lit (.int .u64 x3),.lit (.int .u64 x4)],.agg [.lit (.int .u64 x5),.lit (.int .u64 x6)]]) []:=fun W' sp x1 x2 x3 x4 x5 x6 gx1 gx2 gx3 gx4 gx5 gx6=>by
    have:=Go.Deep.trod_struct3_mk (enc:=enc) (w:=W') (base:=0) (spare:=sp) (held:=true) (n:=2) (cs:=[.int .u64 x1,.int .u64 x2,.int .u64 x3,.int .u64 x4,.int .u64 x5,.int .u64 x6]) Try.underlying26 (by simp [cellsSix]) (by simpa [cellsTwo] using s2 W' sp x1 x2 gx1 gx2) (by simpa [cellsTwo] using s2 W' sp x3 x4 gx3 gx4) (by simpa [cellsTwo] using s2 W' sp x5 x6 gx5 gx6)
    exact ⟨_,by simpa [Value.cells] using this⟩
  refine (walk a9 b9 c9 d9 e9 f9 wa9 wb9 wc9 wd9 we9 wf9 W).mono fun e W' ⟨he,hg⟩=>?_
  subst he
  refine ⟨_,rfl,_,_,_,[],_,[],hW', ?_,(trodAll_cons_mk (sr _ _ _ _ _ _ _ _ wa9 wb9 wc9 wd9 we9 wf9) trodAll_mk0),rfl,World.keptBut_mono (fun _ f=>f.elim) (Below.frame hg (fun _=>False)),fun h=>by cases h⟩
  exact trodAll_cons_mk (shut_bool Try.underlying4 _) trodAll_mk0

theorem over:Rows.revLesserRow.holds Try.pinned (OpenSpec.ofChange Rows.revLesserSpec) :=
  OpenClaim.holds_of_wide 3 Try.f3 rfl rfl rfl rfl rfl rfl rfl ⟨rfl,rfl,rfl,rfl,rfl⟩ rfl rfl rfl rfl rfl (by kernel_rfl) Try.func3 (by kernel_rfl)
    (of_decide_eq_true (by kernel_rfl)) (by unfold Func.isWrapper;first | (rw [if_pos (by decide +kernel)];kernel_rfl) | (rw [if_neg (by decide +kernel)];exact ⟨rfl,rfl⟩))
    (fun os started H enc _=>lifted os started H enc)

theorem proved:Rows.RevLesserSaid :=
  over
end Go.Proofs.Ytcepchaakfiojaa.revLesser

namespace Go.Proofs.Ytcepchaakfiojaa
theorem revLesser_holds:Rows.RevLesserSaid:=revLesser.proved
end Go.Proofs.Ytcepchaakfiojaa
