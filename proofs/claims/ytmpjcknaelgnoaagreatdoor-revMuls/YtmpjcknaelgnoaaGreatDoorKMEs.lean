import Derived.Test.YtmpjcknaelgnoaaGreatDoorKEA
namespace Go.Proofs.YtmpjcknaelgnoaaGreatDoor
open Go.RowKit Tryz

theorem Ds (n n':Bool)(m m':Nat):Iv n m<Iv n' m' ↔ Fq.gU n m<Fq.gU n' m':=by
 have a:=Fq.nu Ieee.double m m'
 have b:=Fq.nu Ieee.double m' m
 have d:=im m
 have c:=im m'
 unfold Iv Fq.gU
 cases n<;>cases n'<;>simp<;>omega
open Ieee in
theorem GT (n n':Bool)(m m':Nat)(h:m<9223372036854775808)(h':m'<9223372036854775808):(FloatKind.f64.format.order (Fq.wD n m) (Fq.wD n' m') == some Ordering.gt)=decide (m<=9218868437227405312∧m'<=9218868437227405312∧Fq.gU n' m'<Fq.gU n m):=by
 by_cases c:9218868437227405312<m
 ·rw[Fq.kY n m _ c h,ae (by omega)];rfl
 by_cases a:9218868437227405312<m'
 ·rw[Fq.nJ n' m' _ a h',ae (by omega)];rfl
 rw[Fq.CY n n' m m' (by omega) (by omega)]
 rcases bw (Fq.gU n m) (Fq.gU n' m')with g|g|g
 ·rw[Fq.lk g,ae (by omega)];rfl
 ·rw[Fq.mX g,ae (by omega)];rfl
 ·rw[Fq.lp g,af ⟨by omega,by omega,by omega⟩];rfl
theorem FJ (n:Bool)(m:Nat)(hm:m<9223372036854775808):Fq.wD n m ^^^ 9223372036854775808=Fq.wD (!n) m:=by
 obtain⟨x,c⟩:=aA (Fq.wD n m)
 have b:(x ^^^ 9223372036854775808)%2^63=x%2^63:=by
  rw[Nat.xor_mod_two_pow,show(9223372036854775808:Nat)%2^63=0 from by decide,Nat.xor_zero]
 have a:(x ^^^ 9223372036854775808)/2^63=x/2^63 ^^^ 1:=by
  rw[<-dX,<-dX,Nat.shiftRight_xor_distrib,show(9223372036854775808:Nat) >>> 63=1 from by decide]
 rw[show(2:Nat)^63=9223372036854775808 from by decide]at b a
 rw[<-c]
 generalize hz:x ^^^ 9223372036854775808=z at b a|-
 clear hz
 cases n
 ·have e:x=m:=by rw[c];unfold Fq.wD;simp
  rw[e,bh hm,show(0:Nat) ^^^ 1=1 from by decide]at a
  rw[e,aX hm]at b
  unfold Fq.wD
  simp
  omega
 ·have e:x=9223372036854775808+m:=by rw[c];unfold Fq.wD;simp
  have f:x/9223372036854775808=1:=by omega
  have d:x%9223372036854775808=m:=by omega
  rw[f,show(1:Nat) ^^^ 1=0 from by decide]at a
  rw[d]at b
  unfold Fq.wD
  simp
  omega
theorem Bn (n:Bool)(m:Nat)(hm:m<9223372036854775808)(w:World):(Op.unary .neg (.float .f64 (Fq.wD n m))).run prog w=.ok (.float .f64 (Fq.wD (!n) m)) w:=by
 have h:Op.negFloat .f64 (Fq.wD n m)=Fq.wD (!n) m:=by
  unfold Op.negFloat
  exact FJ n m hm
 rw[<-h];rfl
end Go.Proofs.YtmpjcknaelgnoaaGreatDoor
