import Derived.Test.YtmpjcknaelgnoaaGreatDoorKQM
namespace Go.Proofs.YtmpjcknaelgnoaaGreatDoor
open Go.RowKit
namespace Fq

def kL (x:Nat):Nat:=if x=9223372036854775808 then 0 else x
open Ieee in
theorem GV (n n':Bool)(m m':Nat)(h:m<9223372036854775808)(h':m'<9223372036854775808):(FloatKind.f64.format.order (wD n m) (wD n' m') == some Ordering.eq)=decide (m<=9218868437227405312∧m'<=9218868437227405312∧gU n m=gU n' m'):=by
 by_cases c:9218868437227405312<m
 ·rw[kY n m _ c h,ae (by omega)];rfl
 by_cases a:9218868437227405312<m'
 ·rw[nJ n' m' _ a h',ae (by omega)];rfl
 rw[CY n n' m m' (by omega) (by omega)]
 by_cases e:gU n m=gU n' m'
 ·rw[mX e,af ⟨by omega,by omega,e⟩];rfl
 ·rw[ae (fun x=>e x.2.2)]
  rcases Int.lt_or_gt_of_ne e with g|g
  ·rw[lk g];rfl
  ·rw[lp g];rfl
open Ieee in
theorem Ir (n n':Bool)(m m':Nat)(h:m<9223372036854775808)(h':m'<9223372036854775808):(FloatKind.f64.format.order (wD n m) (wD n' m') == some Ordering.lt || FloatKind.f64.format.order (wD n m) (wD n' m') == some Ordering.eq)=decide (m<=9218868437227405312∧m'<=9218868437227405312∧gU n m<=gU n' m'):=by
 by_cases c:9218868437227405312<m
 ·rw[kY n m _ c h,ae (by omega)];rfl
 by_cases a:9218868437227405312<m'
 ·rw[nJ n' m' _ a h',ae (by omega)];rfl
 rw[CY n n' m m' (by omega) (by omega)]
 rcases bw (gU n m) (gU n' m')with g|g|g
 ·rw[lk g,af ⟨by omega,by omega,by omega⟩];rfl
 ·rw[mX g,af ⟨by omega,by omega,by omega⟩];rfl
 ·rw[lp g,ae (by omega)];rfl
theorem GU (x:Nat)(h:x<18446744073709551616):(FloatKind.f64.format.order x 0 == some Ordering.eq)=decide (x=0∨x=9223372036854775808):=by
 obtain⟨n,m,a,rfl⟩:=GY x h
 have g:=GV n false m 0 a (by decide)
 rw[show wD false 0=0 from rfl]at g
 rw[g];congr 1;apply propext
 unfold gU wD
 cases n<;>simp<;>omega
theorem FM (x:Nat)(h:x<18446744073709551616):(FloatKind.f64.format.order x 9218868437227405312 == some Ordering.eq)=decide (x=9218868437227405312):=by
 obtain⟨n,m,a,rfl⟩:=GY x h
 have g:=GV n false m 9218868437227405312 a (by decide)
 rw[show wD false 9218868437227405312=9218868437227405312 from rfl]at g
 rw[g];congr 1;apply propext
 unfold gU wD
 cases n<;>simp<;>omega
theorem FK (x:Nat)(h:x<18446744073709551616):(FloatKind.f64.format.order x 18442240474082181120 == some Ordering.eq)=decide (x=18442240474082181120):=by
 obtain⟨n,m,a,rfl⟩:=GY x h
 have g:=GV n true m 9218868437227405312 a (by decide)
 rw[show wD true 9218868437227405312=18442240474082181120 from rfl]at g
 rw[g];congr 1;apply propext
 unfold gU wD
 cases n<;>simp<;>omega
def rH (a b:Nat):Bool:=(FloatKind.f64.format.order a b == some Ordering.lt || FloatKind.f64.format.order a b == some Ordering.eq) && (!(decide (a=9218868437227405312)) && !(decide (b=18442240474082181120)))
def th (a b:Nat):Nat:=if rH a b then kL a else 9218868437227405312
def tj (a b:Nat):Nat:=if rH a b then kL b else 18442240474082181120
theorem CR (x:Nat)(h:x<18446744073709551616):kL x<18446744073709551616:=by unfold kL;split<;>omega
theorem Bb (n n':Bool)(m m':Nat)(h:m<9223372036854775808)(h':m'<9223372036854775808):rH (wD n m) (wD n' m')=decide (m<=9218868437227405312∧m'<=9218868437227405312∧gU n m<=gU n' m'∧¬(n=false∧m=9218868437227405312)∧¬(n'=true∧m'=9218868437227405312)):=by
 unfold rH
 rw[Ir n n' m m' h h']
 have c:(wD n m=9218868437227405312) ↔ (n=false∧m=9218868437227405312):=by unfold wD;cases n<;>simp;omega
 have b:(wD n' m'=18442240474082181120) ↔ (n'=true∧m'=9218868437227405312):=by unfold wD;cases n'<;>simp<;>omega
 simp only[c,b]
 by_cases a:m<=9218868437227405312∧m'<=9218868437227405312∧gU n m<=gU n' m'<;>by_cases c2:n=false∧m=9218868437227405312<;>by_cases c3:n'=true∧m'=9218868437227405312<;>simp[a,c2,c3]
end Fq
namespace Fq

def rp (x:Nat):Nat:=if 9223372036854775808<=kL x then 18446744073709551615-kL x else kL x+9223372036854775808
theorem Bw (n:Bool)(m:Nat)(h:m<=9218868437227405312):(rp (wD n m):Int)=if gU n m<0 then 9223372036854775807+gU n m else 9223372036854775808+gU n m:=by
 unfold rp kL wD gU
 cases n<;>simp<;>repeat' split
 all_goals omega
theorem Dm (n n':Bool)(m m':Nat)(h:m<=9218868437227405312)(h':m'<=9218868437227405312):rp (wD n m)<rp (wD n' m') ↔ gU n m<gU n' m':=by
 have a:=Bw n m h
 have b:=Bw n' m' h'
 have:(rp (wD n m)<rp (wD n' m')) ↔ ((rp (wD n m):Int)<rp (wD n' m')):=by omega
 rw[this,a,b]
 repeat' split
 all_goals omega
end Fq
end Go.Proofs.YtmpjcknaelgnoaaGreatDoor
