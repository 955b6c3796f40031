import Derived.Test.YtmpjcknaelgnoaaGreatDoorKQA
import Derived.Laws.Bits64b
import Derived.Lib.LaidTab
set_option maxHeartbeats 1000000
set_option maxRecDepth 20000
namespace Go.Proofs.YtmpjcknaelgnoaaGreatDoor
open Go.RowKit Tryz
namespace Fq
theorem Aa (o k:Nat)(ho:o%2=1)(hx:o*2^k<2^64):(o*2^k) &&& (2^64-o*2^k)=2^k:=by
 have f:=ah k
 have d:0<o*2^k:=aQ (by omega) f
 apply eS
 intro i
 rw[Nat.testBit_and,show 2^64-o*2^k=2^64-((o*2^k-1)+1)from by omega,eB (by omega),Nat.testBit_two_pow]
 have l:(o*2^k).testBit i=(decide (i ≥ k) && o.testBit (i-k)):=by rw[<-dw,Nat.testBit_shiftLeft]
 have h:(o*2^k-1).testBit i=if i<k then (2^k-1).testBit i else (o-1).testBit (i-k):=by
  rw[<-Nat.testBit_two_pow_mul_add (o-1) (by omega:2^k-1<2^k) i]
  congr 1
  have:2^k*(o-1)+2^k=2^k*o:=by rw[<-Nat.mul_succ];congr 1;omega
  rw[ap o]
  omega
 have g:k<64:=by
  have a:2^k<=o*2^k:=cw _ (by omega)
  exact(bK (by decide:1<2)).1 (bs a hx)
 rw[l,h]
 by_cases c:i<k
 ·have:¬i ≥ k:=by omega
  have b:¬k=i:=by omega
  simp[this,b]
 ·rw[if_neg c]
  obtain⟨j,rfl⟩:∃j,i=k+j:=⟨i-k,by omega⟩
  rw[show k+j-k=j from by omega]
  cases j with
  | zero =>
    have a:(o-1).testBit 0=false:=by rw[Nat.testBit_zero];simp;omega
    have b:o.testBit 0=true:=by rw[Nat.testBit_zero];simp;omega
    simp[a,b,g]
  | succ j =>
    have a:(o-1).testBit (j+1)=o.testBit (j+1):=by
     rw[Nat.testBit_succ,Nat.testBit_succ];congr 1;omega
    rw[a]
    have b:¬k=k+(j+1):=by omega
    cases o.testBit (j+1)<;>simp

def rC:List Int:=[0,1,56,2,57,49,28,3,61,58,42,50,38,29,17,4,62,47,59,36,45,43,51,22,53,39,33,30,24,18,12,5,63,55,48,27,60,41,37,16,46,35,44,21,52,32,23,11,54,26,40,15,34,20,31,10,25,14,19,9,13,8,7,6]
def Tab (w:World):Prop:=∀i:Nat,i<64->w.cell? ⟨1,i,none⟩=some (.int .u8 (rC.getD i 0))
theorem Tab.grown {w w':World}(h:Tab w)(g:Grown w w'):Tab w':=fun i hi=>ft g (h i hi)
theorem FZ (P D M Q:Nat):((P*D%M/Q:Nat):Int)=(P:Int)*(D:Int)%(M:Int)/(Q:Int):=by push_cast;rfl
theorem rA:∀k:Fin 64,2^k.val*285870213051353865%18446744073709551616/288230376151711744<64∧rC.getD (2^k.val*285870213051353865%18446744073709551616/288230376151711744) 0=(k.val:Int):=by decide +kernel
theorem H7 (o k:Nat)(ho:o%2=1)(hx:o*2^k<18446744073709551616)(w:World)(hT:Tab w) :
  Calls prog 208 #[.int .u64 ((o*2^k:Nat):Int)] w fun e w'=>e=.returned (.int .i64 (k:Int))∧w'=w:=by
 have m:=ah k
 have c:0<o*2^k:=aQ (by omega) m
 have b:(2:Nat)^64=18446744073709551616:=by decide
 have n:k<64:=by
  have r:2^k<=o*2^k:=cw _ (by omega)
  exact(bK (by decide:1<2)).1 (bs r (by rw[b];exact hx))
 have a:=Aa o k ho (by rw[b];exact hx)
 rw[b]at a
 obtain⟨g,f⟩:=rA ⟨k,n⟩
 simp only at g f
 obtain⟨x,d⟩:∃x:Nat,x=o*2^k:=⟨_,rfl⟩
 rw[<-d]at a hx c|-
 obtain⟨P,i⟩:∃P:Nat,P=2^k:=⟨_,rfl⟩
 rw[<-i]at a g f
 obtain⟨j,h⟩:∃j:Nat,j=P*285870213051353865%18446744073709551616/288230376151711744:=⟨_,rfl⟩
 rw[<-h]at g f
 have s:w.cell? ⟨1,j,none⟩=some (.int .u8 (k:Int)):=by rw[hT j g,f]
 have u:((x:Int) == 0)=false:=by simp;omega
 have p:IntKind.u64.wrap (-(x:Int))=((18446744073709551616-x:Nat):Int):=by rw[IntKind.wrap_u64];omega
 have q:bits BinOp.and IntKind.u64 (x:Int) ((18446744073709551616-x:Nat):Int)=(P:Int):=by
  rw[bits_and_u64_nat x (18446744073709551616-x) hx (by omega),a]
 have t:IntKind.u64.wrap ((P:Int)*285870213051353865)/288230376151711744=(j:Int):=by
  rw[IntKind.wrap_u64,h];exact(FZ P 285870213051353865 18446744073709551616 288230376151711744).symm
 obtain⟨y,l⟩:∃y:Int,y=((18446744073709551616-x:Nat):Int):=⟨_,rfl⟩
 rw[<-l]at p q
 have A:(0:Int)<=(j:Int):=by omega
 have z:(j:Int)<64:=by omega
 have B:wrap64 (k:Int)=(k:Int):=by unfold wrap64;omega
 clear l h i d a g f c m b hx ho hT n
 go_enter func208,ntmps208
 go_wp2
 exact bodyPost_ret (v:=.int .i64 (k:Int)) (by simp[results,results208,go_sem]<;>simp only[*]) rfl ⟨rfl,rfl⟩
end Fq
end Go.Proofs.YtmpjcknaelgnoaaGreatDoor
