import Derived.Test.YtmpjcknaelgnoaaGreatDoorKQM
namespace Go.Proofs.YtmpjcknaelgnoaaGreatDoor
open Go.RowKit
namespace Fq

def pla (x:Nat):Nat:=if x=9223372036854775808 then 0 else x
open Ieee in
theorem feq (n n':Bool) (m m':Nat) (h:m<9223372036854775808) (h':m'<9223372036854775808):(FloatKind.f64.format.order (wD n m) (wD n' m') == some Ordering.eq)=decide (m≤9218868437227405312∧m'≤9218868437227405312∧plz n m=plz n' m'):=by
 by_cases c:9218868437227405312<m
 ·rw [ordD_nanl n m _ c h,decide_eq_false (by omega)];rfl
 by_cases c':9218868437227405312<m'
 ·rw [ordD_nanr n' m' _ c' h',decide_eq_false (by omega)];rfl
 rw [ordD n n' m m' (by omega) (by omega)]
 by_cases e:plz n m=plz n' m'
 ·rw [cmp_eq e,decide_eq_true ⟨by omega,by omega,e⟩];rfl
 ·rw [decide_eq_false (fun x=>e x.2.2)]
  rcases Int.lt_or_gt_of_ne e with g | g
  ·rw [cmp_lt g];rfl
  ·rw [cmp_gt g];rfl
open Ieee in
theorem fle (n n':Bool) (m m':Nat) (h:m<9223372036854775808) (h':m'<9223372036854775808):(FloatKind.f64.format.order (wD n m) (wD n' m') == some Ordering.lt || FloatKind.f64.format.order (wD n m) (wD n' m') == some Ordering.eq)=decide (m≤9218868437227405312∧m'≤9218868437227405312∧plz n m≤plz n' m'):=by
 by_cases c:9218868437227405312<m
 ·rw [ordD_nanl n m _ c h,decide_eq_false (by omega)];rfl
 by_cases c':9218868437227405312<m'
 ·rw [ordD_nanr n' m' _ c' h',decide_eq_false (by omega)];rfl
 rw [ordD n n' m m' (by omega) (by omega)]
 rcases Int.lt_trichotomy (plz n m) (plz n' m') with g | g | g
 ·rw [cmp_lt g,decide_eq_true ⟨by omega,by omega,by omega⟩];rfl
 ·rw [cmp_eq g,decide_eq_true ⟨by omega,by omega,by omega⟩];rfl
 ·rw [cmp_gt g,decide_eq_false (by omega)];rfl
theorem feq0 (x:Nat) (h:x<18446744073709551616):(FloatKind.f64.format.order x 0 == some Ordering.eq)=decide (x=0∨x=9223372036854775808):=by
 obtain ⟨n,m,hm,rfl⟩:=exD x h
 have g:=feq n false m 0 hm (by decide)
 rw [show wD false 0=0 from rfl] at g
 rw [g];congr 1;apply propext
 unfold plz wD
 cases n <;> simp <;> omega
theorem feqI (x:Nat) (h:x<18446744073709551616):(FloatKind.f64.format.order x 9218868437227405312 == some Ordering.eq)=decide (x=9218868437227405312):=by
 obtain ⟨n,m,hm,rfl⟩:=exD x h
 have g:=feq n false m 9218868437227405312 hm (by decide)
 rw [show wD false 9218868437227405312=9218868437227405312 from rfl] at g
 rw [g];congr 1;apply propext
 unfold plz wD
 cases n <;> simp <;> omega
theorem feqM (x:Nat) (h:x<18446744073709551616):(FloatKind.f64.format.order x 18442240474082181120 == some Ordering.eq)=decide (x=18442240474082181120):=by
 obtain ⟨n,m,hm,rfl⟩:=exD x h
 have g:=feq n true m 9218868437227405312 hm (by decide)
 rw [show wD true 9218868437227405312=18442240474082181120 from rfl] at g
 rw [g];congr 1;apply propext
 unfold plz wD
 cases n <;> simp <;> omega
def snd (a b:Nat):Bool:=(FloatKind.f64.format.order a b == some Ordering.lt || FloatKind.f64.format.order a b == some Ordering.eq) && (!(decide (a=9218868437227405312)) && !(decide (b=18442240474082181120)))
def rlo (a b:Nat):Nat:=if snd a b then pla a else 9218868437227405312
def rhi (a b:Nat):Nat:=if snd a b then pla b else 18442240474082181120
theorem pla_lt (x:Nat) (h:x<18446744073709551616):pla x<18446744073709551616:=by unfold pla;split <;> omega
theorem snd_w (n n':Bool) (m m':Nat) (h:m<9223372036854775808) (h':m'<9223372036854775808):snd (wD n m) (wD n' m')=decide (m≤9218868437227405312∧m'≤9218868437227405312∧plz n m≤plz n' m'∧¬ (n=false∧m=9218868437227405312)∧¬ (n'=true∧m'=9218868437227405312)):=by
 unfold snd
 rw [fle n n' m m' h h']
 have e1:(wD n m=9218868437227405312) ↔ (n=false∧m=9218868437227405312):=by unfold wD;cases n <;> simp;omega
 have e2:(wD n' m'=18442240474082181120) ↔ (n'=true∧m'=9218868437227405312):=by unfold wD;cases n' <;> simp <;> omega
 simp only [e1,e2]
 by_cases c1:m≤9218868437227405312∧m'≤9218868437227405312∧plz n m≤plz n' m' <;> by_cases c2:n=false∧m=9218868437227405312 <;> by_cases c3:n'=true∧m'=9218868437227405312 <;> simp [c1,c2,c3]
end Fq
namespace Fq

def kyN (x:Nat):Nat:=if 9223372036854775808≤pla x then 18446744073709551615 - pla x else pla x+9223372036854775808
theorem kyN_w (n:Bool) (m:Nat) (h:m≤9218868437227405312):(kyN (wD n m):Int)=if plz n m<0 then 9223372036854775807+plz n m else 9223372036854775808+plz n m:=by
 unfold kyN pla wD plz
 cases n <;> simp <;> repeat' split
 all_goals omega
theorem kyN_lt (n n':Bool) (m m':Nat) (h:m≤9218868437227405312) (h':m'≤9218868437227405312):kyN (wD n m)<kyN (wD n' m') ↔ plz n m<plz n' m':=by
 have e1:=kyN_w n m h
 have e2:=kyN_w n' m' h'
 have:(kyN (wD n m)<kyN (wD n' m')) ↔ ((kyN (wD n m):Int)<kyN (wD n' m')):=by omega
 rw [this,e1,e2]
 repeat' split
 all_goals omega
end Fq
end Go.Proofs.YtmpjcknaelgnoaaGreatDoor
