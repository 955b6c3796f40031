import Derived.Test.YtmpjcknaelgnoaaGreatDoorKQB
import Derived.Test.YtmpjcknaelgnoaaGreatDoorKQBT
import Derived.Test.YtmpjcknaelgnoaaGreatDoorKXQU
set_option maxHeartbeats 2000000
set_option maxRecDepth 20000
namespace Go.Proofs.YtmpjcknaelgnoaaGreatDoor
set_option linter.all false
open Go.RowKit Tryz
namespace Fq
theorem Gw (neg:Bool)(e:Int)(w:World):Calls prog 260 #[.bool neg,.int .u64 0,.int .i64 e] w fun e w'=>e=.returned (.tuple #[.float .f64 0,.int .i64 0])∧w'=w:=by
 go_enter func260,ntmps260
 go_wp2
 exact bodyPost_ret (v:=.tuple #[.float .f64 0,.int .i64 0]) (by simp[results,results260,go_sem]<;>simp only[*]) rfl ⟨rfl,rfl⟩

set_option maxHeartbeats 20000000 in
theorem Fx:(∀(neg:Bool)(o k:Nat)(ho:o%2=1)(hx:o*2^k<18446744073709551616)(e:Int)(he1:-9223372036854775808<=e)(he2:e<9223372036854775808)(hj:xU o (e+k)=true)(w:World)(hT:Tab w),Calls prog 260 #[.bool neg,.int .u64 ((o*2^k:Nat):Int),.int .i64 e] w fun e' w'=>e'=.returned (.tuple #[.float .f64 (wD neg (Do o (e+k))),.int .i64 0])∧Grown w w')∧(∀(neg:Bool)(o k:Nat)(ho:o%2=1)(hx:o*2^k<18446744073709551616)(e:Int)(he1:-9223372036854775808<=e)(he2:e<9223372036854775808)(hj:xU o (e+k)=false)(w:World)(hT:Tab w),Calls prog 260 #[.bool neg,.int .u64 ((o*2^k:Nat):Int),.int .i64 e] w fun e' w'=>e'=.returned (.tuple #[.float .f64 0,.int .i64 1])∧Grown w w'):=by
 refine⟨?_,?_⟩
 case' refine_1=>intro neg o k ho hx e he1 he2 hj w hT;have aa:=trivial
 case' refine_2=>intro neg o k ho hx e he1 he2 hj w hT;have U:=trivial
 all_goals (
  have f:∀w',Grown w w'->Calls prog 208 #[.int .u64 ((o*2^k:Nat):Int)] w' fun e w''=>e=.returned (.int .i64 (k:Int))∧w''=w':=fun w' g=>H7 o k ho hx w' (hT.grown g)
  have y:=ah k
  have a:o<18446744073709551616:=bs (fu o y) hx
  have d:=Dk (o:Int) (by omega) (by omega)
  rw[av]at d
  obtain⟨D,K,I,E⟩:=nY o (by omega) a
  obtain⟨N,z⟩:∃N:Int,N=((Lib.bitLen o:Nat):Int):=⟨_,rfl⟩
  rw[<-z]at d
  have L:k<64:=by
   have T:(2:Nat)^64=18446744073709551616:=by decide
   have h1:2^k<=o*2^k:=cw _ (by omega)
   exact(bK (by decide:1<2)).1 (bs h1 (by rw[T];exact hx))
  have b:0<o*2^k:=aQ (by omega) y
  obtain⟨x,c⟩:∃x:Nat,x=o*2^k:=⟨_,rfl⟩
  have sA:(x:Int)/2^min k 64=(o:Int):=by
   rw[cW (by omega),c]
   have:((o*2^k:Nat):Int)=(o:Int)*2^k:=by push_cast;rfl
   rw[this,Int.mul_ediv_cancel _ (by have:=Int.pow_pos (n:=2) (m:=k) (by decide);omega)]
  rw[<-c]at f b hx|-
  have a0:((x:Int) == 0)=false:=by simp;omega
  have N0:0<N:=by omega
  first
  |(
    have X:=aa;clear X
    obtain⟨j1,j2,j3⟩:=(mR o (e+k)).1 hj
    obtain⟨S,W,r3,r4⟩:=xT o (by omega) a (e+k) hj
    obtain⟨j,p⟩:∃j:Nat,j=xS o (e+k):=⟨_,rfl⟩
    have A:j=min (53-Lib.bitLen o) (e+k+1074).toNat:=p
    have sB:min (53-N) (e+(k:Int)+1074)=(j:Int):=by omega
    obtain⟨R,hR⟩:∃R:Nat,R=(e+k+1074).toNat-j:=⟨_,rfl⟩
    have sC:e+(k:Int)-(j:Int)+1074=(R:Int):=by omega
    obtain⟨M,O⟩:∃M:Nat,M=o*2^j:=⟨_,rfl⟩
    rw[<-p,<-O]at r4
    have C:(o:Int)*2^j=(M:Int):=by rw[O];push_cast;rfl
    have F:Do o (e+k)=R*4503599627370496+M:=by unfold Do;rw[<-p,hR,O]
    rw[F]at S W|-
    obtain⟨B,Y⟩:∃B:Int,B=4503599627370496:=⟨_,rfl⟩
    have q:∀w:World,Calls prog 240 #[.agg #[.int .i64 53,.int .i64 (-1074),.int .i64 971]] w fun e w'=>e=.returned (.int .i64 B)∧w'=w.alloc (.cells #[.int .i64 53,.int .i64 (-1074),.int .i64 971] 187):=by rw[Y];exact sp
    obtain⟨Z,hZ⟩:∃Z:Nat,Z=R*4503599627370496+M:=⟨_,rfl⟩
    rw[<-hZ]at S W|-
    have sD:wrap64 (wrap64 ((R:Int)*B)+wrap64 (IntKind.u64.wrap ((o:Int)*2^j)))=(Z:Int):=by
     rw[C,Y,vK (x:=(M:Int)) (by omega) (by omega),il (x:=(M:Int)) (by omega) (by omega),il (x:=(R:Int)*4503599627370496) (by omega) (by omega),il (by omega) (by omega)]
     omega
    have u:=sq Z (by omega)
    have H:Op.unary .neg (.float .f64 (wD false Z))=pure (.float .f64 (wD true Z)):=by
     show pure (Value.float .f64 (Op.negFloat .f64 (wD false Z)))=_
     rw[Fl false Z (by omega)];rfl
    have a1:¬(1024<=e):=by omega
    have a2:wrap64 (e+(k:Int))=e+k:=il (by omega) (by omega)
    have a3:¬(53<N):=by omega
    have a4:¬(e+(k:Int) < -1074):=by omega
    have a5:wrap64 (e+(k:Int)+N)=e+k+N:=il (by omega) (by omega)
    have a6:¬(1024<e+(k:Int)+N):=by omega
    clear S W r3 r4 D K I E j1 j2 j3 z L b hx ho a y hj he1 he2 c hT p A hR O C F Y
    obtain⟨V0,t⟩:∃V:Nat,V=wD false Z:=⟨_,rfl⟩
    obtain⟨V1,s⟩:∃V:Nat,V=wD true Z:=⟨_,rfl⟩
    rw[<-t]at u H
    rw[<-s]at H
    have J:∃V:Nat,V=wD neg Z:=⟨_,rfl⟩
    obtain⟨V,J⟩:=J
    rw[<-J]
    have i:V=if neg then V1 else V0:=by rw[J,t,s];cases neg<;>rfl
    clear J t s hZ
    cases neg
    ·have r:V=V0:=i
     subst r
     clear i
     go_enter func260,ntmps260
     go_wp2_with (first|(go_at_call 236;refine(gM _).mono ?_;rintro e w' ⟨rfl,rfl⟩)|(go_at_call 208;refine(f _ ?_).mono ?_;(exact(by repeat(with_reducible(first|exact Grown.refl _|apply Grown.alloc))));rintro e w' ⟨rfl,rfl⟩)|(go_at_call 258;refine(d _).mono ?_;rintro e w' ⟨rfl,rfl⟩))
     refine ej (by kernel_rfl) (by kernel_rfl) (fun ι _ G hG hall=>?_)
     have Q:∀n,(G n).cell? ⟨w.heap.size+1,0,none⟩=some (.int .i64 53):=fun n=>ft (hG n) (by simp[go_sem])
     have c1:∀n,(G n).cell? ⟨w.heap.size+1,1,none⟩=some (.int .i64 (-1074)):=fun n=>ft (hG n) (by simp[go_sem])
     have c2:∀n,(G n).cell? ⟨w.heap.size+1,2,none⟩=some (.int .i64 971):=fun n=>ft (hG n) (by simp[go_sem])
     repeat(go_big_quiet_step (first|(go_at_call 240;exact(q _).mono (fun e w' h=>⟨h.1,hall _ (by rw[h.2];exact(hG _).alloc _ _)⟩))|(go_at_call 263;exact(u _).mono (fun e w' h=>⟨h.1,hall _ (by rw[h.2];exact hG _)⟩))))
     refine wpQuiet_nil ?_
     rintro _ ⟨P,rfl⟩
     have gq:=hG P
     clear Q c1 c2 hall
     go_wp2
     exact bodyPost_ret (v:=.tuple #[.float .f64 V,.int .i64 0]) (by simp[results,results260,go_sem]<;>simp only[*]) rfl ⟨rfl,(by repeat(with_reducible(first|exact Grown.refl _|apply Grown.alloc|(refine iC ?_ (by assumption)))))⟩
    ·have r:V=V1:=i
     subst r
     clear i
     go_enter func260,ntmps260
     go_wp2_with (first|(go_at_call 236;refine(gM _).mono ?_;rintro e w' ⟨rfl,rfl⟩)|(go_at_call 208;refine(f _ ?_).mono ?_;(exact(by repeat(with_reducible(first|exact Grown.refl _|apply Grown.alloc))));rintro e w' ⟨rfl,rfl⟩)|(go_at_call 258;refine(d _).mono ?_;rintro e w' ⟨rfl,rfl⟩))
     refine ej (by kernel_rfl) (by kernel_rfl) (fun ι _ G hG hall=>?_)
     have Q:∀n,(G n).cell? ⟨w.heap.size+1,0,none⟩=some (.int .i64 53):=fun n=>ft (hG n) (by simp[go_sem])
     have c1:∀n,(G n).cell? ⟨w.heap.size+1,1,none⟩=some (.int .i64 (-1074)):=fun n=>ft (hG n) (by simp[go_sem])
     have c2:∀n,(G n).cell? ⟨w.heap.size+1,2,none⟩=some (.int .i64 971):=fun n=>ft (hG n) (by simp[go_sem])
     repeat(go_big_quiet_step (first|(go_at_call 240;exact(q _).mono (fun e w' h=>⟨h.1,hall _ (by rw[h.2];exact(hG _).alloc _ _)⟩))|(go_at_call 263;exact(u _).mono (fun e w' h=>⟨h.1,hall _ (by rw[h.2];exact hG _)⟩))))
     refine wpQuiet_nil ?_
     rintro _ ⟨P,rfl⟩
     have gq:=hG P
     clear Q c1 c2 hall
     go_wp2
     exact bodyPost_ret (v:=.tuple #[.float .f64 V,.int .i64 0]) (by simp[results,results260,go_sem]<;>simp only[*]) rfl ⟨rfl,(by repeat(with_reducible(first|exact Grown.refl _|apply Grown.alloc|(refine iC ?_ (by assumption)))))⟩)
  |(
    have X:=U;clear X
    have l:¬(Lib.bitLen o<=53∧-1074<=e+k∧e+k+Lib.bitLen o<=1024):=fun hh=>by
     have:=(mR o (e+k)).2 hh
     rw[this]at hj;cases hj
    by_cases a1:1024<=e
    ·clear D K I E z L b hx ho a y hj he1 he2 c hT l
     go_enter func260,ntmps260
     go_wp2_with ((go_at_call 236;refine(gM _).mono ?_;rintro e w' ⟨rfl,rfl⟩))
     exact bodyPost_ret (v:=.tuple #[.float .f64 0,.int .i64 1]) (by simp[results,results260,go_sem]<;>simp only[*]) rfl ⟨rfl,(by repeat(with_reducible(first|exact Grown.refl _|apply Grown.alloc)))⟩
    have a2:wrap64 (e+(k:Int))=e+k:=il (by omega) (by omega)
    by_cases a3:53<N
    ·clear D K I E z L b hx ho a y hj he1 he2 c hT l
     go_enter func260,ntmps260
     go_wp2_with (first|(go_at_call 236;refine(gM _).mono ?_;rintro e w' ⟨rfl,rfl⟩)|(go_at_call 208;refine(f _ ?_).mono ?_;(exact(by repeat(with_reducible(first|exact Grown.refl _|apply Grown.alloc))));rintro e w' ⟨rfl,rfl⟩)|(go_at_call 258;refine(d _).mono ?_;rintro e w' ⟨rfl,rfl⟩))
     exact bodyPost_ret (v:=.tuple #[.float .f64 0,.int .i64 1]) (by simp[results,results260,go_sem]<;>simp only[*]) rfl ⟨rfl,(by repeat(with_reducible(first|exact Grown.refl _|apply Grown.alloc)))⟩
    by_cases a4:e+(k:Int) < -1074
    ·clear D K I E z L b hx ho a y hj he1 he2 c hT l
     go_enter func260,ntmps260
     go_wp2_with (first|(go_at_call 236;refine(gM _).mono ?_;rintro e w' ⟨rfl,rfl⟩)|(go_at_call 208;refine(f _ ?_).mono ?_;(exact(by repeat(with_reducible(first|exact Grown.refl _|apply Grown.alloc))));rintro e w' ⟨rfl,rfl⟩)|(go_at_call 258;refine(d _).mono ?_;rintro e w' ⟨rfl,rfl⟩))
     exact bodyPost_ret (v:=.tuple #[.float .f64 0,.int .i64 1]) (by simp[results,results260,go_sem]<;>simp only[*]) rfl ⟨rfl,(by repeat(with_reducible(first|exact Grown.refl _|apply Grown.alloc)))⟩
    have a5:wrap64 (e+(k:Int)+N)=e+k+N:=il (by omega) (by omega)
    have a6:1024<e+(k:Int)+N:=by omega
    clear D K I E z L b hx ho a y hj he1 he2 c hT l
    go_enter func260,ntmps260
    go_wp2_with (first|(go_at_call 236;refine(gM _).mono ?_;rintro e w' ⟨rfl,rfl⟩)|(go_at_call 208;refine(f _ ?_).mono ?_;(exact(by repeat(with_reducible(first|exact Grown.refl _|apply Grown.alloc))));rintro e w' ⟨rfl,rfl⟩)|(go_at_call 258;refine(d _).mono ?_;rintro e w' ⟨rfl,rfl⟩))
    exact bodyPost_ret (v:=.tuple #[.float .f64 0,.int .i64 1]) (by simp[results,results260,go_sem]<;>simp only[*]) rfl ⟨rfl,(by repeat(with_reducible(first|exact Grown.refl _|apply Grown.alloc)))⟩))
end Fq
namespace Fq
theorem tF (n:Bool)(m:Nat)(hm:m<=9218868437227405312)(w:World):Calls prog 235 #[.float .f64 (wD n m)] w fun e w'=>e=.returned (.tuple #[.int .i64 (gU n m),.bool true])∧Grown w w':=by
 have b:=xj n m (by omega)
 obtain⟨I,d⟩:∃I:Int,I=9218868437227405312:=⟨_,rfl⟩
 have a:∀w:World,Calls prog 237 #[.agg #[.int .i64 53,.int .i64 (-1074),.int .i64 971]] w fun e w'=>e=.returned (.int .i64 I)∧w'=((w.alloc (.cells #[.int .i64 53,.int .i64 (-1074),.int .i64 971] 187)).alloc (.cells #[.int .i64 53,.int .i64 (-1074),.int .i64 971] 187)).drew:=by rw[d];exact mT
 have g:¬(I<(m:Int)):=by omega
 have f:wrap64 (-(m:Int)) = -(m:Int):=by unfold wrap64;omega
 clear d hm
 cases n
 ·have c:gU false m=(m:Int):=rfl
  rw[c]
  clear c f
  go_enter func235,ntmps235
  go_wp2_with (first|(go_at_call 236;refine(gM _).mono ?_;rintro e w' ⟨rfl,rfl⟩)|(go_at_call 239;refine(b _).mono ?_;rintro e w' ⟨rfl,rfl⟩)|(go_at_call 237;refine(a _).mono ?_;rintro e w' ⟨rfl,rfl⟩))
  exact bodyPost_ret (v:=.tuple #[.int .i64 (m:Int),.bool true]) (by simp[results,results235,go_sem]<;>simp only[*]) rfl ⟨rfl,(by repeat(with_reducible(first|exact Grown.refl _|apply Grown.drew|apply Grown.alloc)))⟩
 ·have c:gU true m = -(m:Int):=rfl
  rw[c]
  clear c
  go_enter func235,ntmps235
  go_wp2_with (first|(go_at_call 236;refine(gM _).mono ?_;rintro e w' ⟨rfl,rfl⟩)|(go_at_call 239;refine(b _).mono ?_;rintro e w' ⟨rfl,rfl⟩)|(go_at_call 237;refine(a _).mono ?_;rintro e w' ⟨rfl,rfl⟩))
  exact bodyPost_ret (v:=.tuple #[.int .i64 (-(m:Int)),.bool true]) (by simp[results,results235,go_sem]<;>simp only[*]) rfl ⟨rfl,(by repeat(with_reducible(first|exact Grown.refl _|apply Grown.drew|apply Grown.alloc)))⟩

theorem F8 (p:Int)(h1:-9218868437227405312<=p)(h2:p<=9218868437227405312)(w:World):Calls prog 238 #[.int .i64 p] w fun e w'=>e=.returned (.tuple #[.float .f64 (fD p),.bool true])∧Grown w w':=by
 obtain⟨I,i⟩:∃I:Int,I=9218868437227405312:=⟨_,rfl⟩
 have d:∀w:World,Calls prog 237 #[.agg #[.int .i64 53,.int .i64 (-1074),.int .i64 971]] w fun e w'=>e=.returned (.int .i64 I)∧w'=((w.alloc (.cells #[.int .i64 53,.int .i64 (-1074),.int .i64 971] 187)).alloc (.cells #[.int .i64 53,.int .i64 (-1074),.int .i64 971] 187)).drew:=by rw[i];exact mT
 have k:¬(p < -I):=by omega
 have l:¬(I<p):=by omega
 have m:wrap64 (-I) = -I:=by unfold wrap64;omega
 by_cases c:p<0
 ·have f:fD p=wD true p.natAbs:=by unfold fD;simp[c]
  rw[f]
  have h:wrap64 (-p)=((p.natAbs:Nat):Int):=by unfold wrap64;omega
  have b:=sq p.natAbs (by omega)
  obtain⟨a,g⟩:∃a:Nat,a=p.natAbs:=⟨_,rfl⟩
  rw[<-g]at h b|-
  have j:Op.unary .neg (.float .f64 (wD false a))=pure (.float .f64 (wD true a)):=by
   show pure (Value.float .f64 (Op.negFloat .f64 (wD false a)))=_
   rw[Fl false a (by omega)];rfl
  clear i h1 h2 f g
  go_enter func238,ntmps238
  go_wp2_with (first|(go_at_call 236;refine(gM _).mono ?_;rintro e w' ⟨rfl,rfl⟩)|(go_at_call 263;refine(b _).mono ?_;rintro e w' ⟨rfl,rfl⟩)|(go_at_call 237;refine(d _).mono ?_;rintro e w' ⟨rfl,rfl⟩))
  exact bodyPost_ret (v:=.tuple #[.float .f64 (wD true a),.bool true]) (by simp[results,results238,go_sem]<;>simp only[*]) rfl ⟨rfl,(by repeat(with_reducible(first|exact Grown.refl _|apply Grown.drew|apply Grown.alloc)))⟩
 ·have f:fD p=wD false p.natAbs:=by unfold fD;simp[c]
  rw[f]
  have h:p=((p.natAbs:Nat):Int):=by omega
  have b:∀w:World,Calls prog 263 #[.int .i64 p] w fun e w'=>e=.returned (.float .f64 (wD false p.natAbs))∧w'=w:=by
   have:=sq p.natAbs (by omega)
   rw[<-h]at this;exact this
  obtain⟨a,g⟩:∃a:Nat,a=p.natAbs:=⟨_,rfl⟩
  rw[<-g]at b|-
  clear i h1 h2 f g h
  go_enter func238,ntmps238
  go_wp2_with (first|(go_at_call 236;refine(gM _).mono ?_;rintro e w' ⟨rfl,rfl⟩)|(go_at_call 263;refine(b _).mono ?_;rintro e w' ⟨rfl,rfl⟩)|(go_at_call 237;refine(d _).mono ?_;rintro e w' ⟨rfl,rfl⟩))
  exact bodyPost_ret (v:=.tuple #[.float .f64 (wD false a),.bool true]) (by simp[results,results238,go_sem]<;>simp only[*]) rfl ⟨rfl,(by repeat(with_reducible(first|exact Grown.refl _|apply Grown.drew|apply Grown.alloc)))⟩

theorem H4 (n:Bool)(m:Nat)(hm:m<=9218868437227405312)(h2:gU n m≠9218868437227405312)(w:World):Calls prog 206 #[.float .f64 (wD n m)] w fun e w'=>e=.returned (.float .f64 (fD (gU n m+1)))∧Grown w w':=by
 have b:=tF n m hm
 obtain⟨I,d⟩:∃I:Int,I=9218868437227405312:=⟨_,rfl⟩
 have a:∀w:World,Calls prog 237 #[.agg #[.int .i64 53,.int .i64 (-1074),.int .i64 971]] w fun e w'=>e=.returned (.int .i64 I)∧w'=((w.alloc (.cells #[.int .i64 53,.int .i64 (-1074),.int .i64 971] 187)).alloc (.cells #[.int .i64 53,.int .i64 (-1074),.int .i64 971] 187)).drew:=by rw[d];exact mT
 have f:=xe n m
 obtain⟨p,g⟩:∃p:Int,p=gU n m:=⟨_,rfl⟩
 rw[<-g]at b h2 f|-
 have c:=F8 (p+1) (by omega) (by omega)
 have i:(p == I)=false:=by simp;omega
 have j:wrap64 (p+1)=p+1:=by unfold wrap64;omega
 have k:¬(p=I):=by omega
 clear d hm h2 f g
 go_enter func206,ntmps206
 go_wp2_with (first|(go_at_call 236;refine(gM _).mono ?_;rintro e w' ⟨rfl,rfl⟩)|(go_at_call 237;refine(a _).mono ?_;rintro e w' ⟨rfl,rfl⟩)|(go_at_call 235;refine(b _).mono ?_;rintro e w' ⟨rfl,h⟩)|(go_at_call 238;refine(c _).mono ?_;rintro e w' ⟨rfl,l⟩))
 exact bodyPost_ret (v:=.float .f64 (fD (p+1))) (by simp[results,results206,go_sem]<;>simp only[*]) rfl ⟨rfl,(by repeat(with_reducible(first|assumption|apply Grown.drew|apply Grown.alloc|(refine iC ?_ (by assumption)))))⟩

theorem Is (n:Bool)(m:Nat)(hm:m<=9218868437227405312)(h2:gU n m≠-9218868437227405312)(w:World):Calls prog 205 #[.float .f64 (wD n m)] w fun e w'=>e=.returned (.float .f64 (fD (gU n m-1)))∧Grown w w':=by
 have b:=tF n m hm
 obtain⟨I,d⟩:∃I:Int,I=9218868437227405312:=⟨_,rfl⟩
 have a:∀w:World,Calls prog 237 #[.agg #[.int .i64 53,.int .i64 (-1074),.int .i64 971]] w fun e w'=>e=.returned (.int .i64 I)∧w'=((w.alloc (.cells #[.int .i64 53,.int .i64 (-1074),.int .i64 971] 187)).alloc (.cells #[.int .i64 53,.int .i64 (-1074),.int .i64 971] 187)).drew:=by rw[d];exact mT
 have f:=xe n m
 obtain⟨p,g⟩:∃p:Int,p=gU n m:=⟨_,rfl⟩
 rw[<-g]at b h2 f|-
 have c:=F8 (p-1) (by omega) (by omega)
 have i:(p == -I)=false:=by simp;omega
 have j:wrap64 (p-1)=p-1:=by unfold wrap64;omega
 have k:wrap64 (-I) = -I:=by unfold wrap64;omega
 have l:¬(p = -I):=by omega
 clear d hm h2 f g
 go_enter func205,ntmps205
 go_wp2_with (first|(go_at_call 236;refine(gM _).mono ?_;rintro e w' ⟨rfl,rfl⟩)|(go_at_call 237;refine(a _).mono ?_;rintro e w' ⟨rfl,rfl⟩)|(go_at_call 235;refine(b _).mono ?_;rintro e w' ⟨rfl,h⟩)|(go_at_call 238;refine(c _).mono ?_;rintro e w' ⟨rfl,o⟩))
 exact bodyPost_ret (v:=.float .f64 (fD (p-1))) (by simp[results,results205,go_sem]<;>simp only[*]) rfl ⟨rfl,(by repeat(with_reducible(first|assumption|apply Grown.drew|apply Grown.alloc|(refine iC ?_ (by assumption)))))⟩

theorem Gu (n:Bool)(m:Nat)(h2:m<9223372036854775808)(w:World):Calls prog 193 #[.float .f64 (wD n m)] w fun e w'=>e=.returned (.float .f64 (wD (n && !(m == 0)) m))∧w'=w:=by
 have b:=GZ n m h2
 by_cases c:m=0
 ·subst c
  have a:wD (n && !((0:Nat) == 0)) 0=0:=by simp[wD]
  rw[a]
  clear a
  have d:(FloatKind.f64.format.order (wD n 0) 0 == some .eq)=true:=by rw[b];rfl
  clear b
  go_enter func193,ntmps193
  go_wp2
  exact bodyPost_ret (v:=.float .f64 0) (by simp[results,results193,go_sem]<;>simp only[*]) rfl ⟨rfl,rfl⟩
 ·have a:(n && !(m == 0))=n:=by simp[c]
  rw[a]
  clear a
  have d:(FloatKind.f64.format.order (wD n m) 0 == some .eq)=false:=by rw[b];simp[c]
  clear b c
  go_enter func193,ntmps193
  go_wp2
  exact bodyPost_ret (v:=.float .f64 (wD n m)) (by simp[results,results193,go_sem]<;>simp only[*]) rfl ⟨rfl,rfl⟩

end Fq
end Go.Proofs.YtmpjcknaelgnoaaGreatDoor
