import Derived.Test.YtmpjcknaelgnoaaGreatDoorKEA
namespace Go.Proofs.YtmpjcknaelgnoaaGreatDoor
open Go.RowKit

theorem iv_lt8 (n n':Bool) (m m':Nat):Iv n m<Iv n' m' ↔ Fq.plz n m<Fq.plz n' m':=by
 have h1:=Fq.vV_lt_iff Ieee.double m m'
 have h2:=Fq.vV_lt_iff Ieee.double m' m
 have h3:=vV_zero_iff m
 have h4:=vV_zero_iff m'
 unfold Iv Fq.plz
 cases n <;> cases n' <;> simp <;> omega
theorem flip8 (n:Bool) (m:Nat) (hm:m<9223372036854775808):Fq.wD n m ^^^ 9223372036854775808=Fq.wD (!n) m:=by
 obtain ⟨x,hx⟩:∃ x,x=Fq.wD n m:=⟨_,rfl⟩
 have h1:(x ^^^ 9223372036854775808) % 2 ^ 63=x % 2 ^ 63:=by
  rw [Nat.xor_mod_two_pow,show (9223372036854775808:Nat) % 2 ^ 63=0 from by decide,Nat.xor_zero]
 have h2:(x ^^^ 9223372036854775808) / 2 ^ 63=x / 2 ^ 63 ^^^ 1:=by
  rw [← Nat.shiftRight_eq_div_pow,← Nat.shiftRight_eq_div_pow,Nat.shiftRight_xor_distrib,show (9223372036854775808:Nat) >>> 63=1 from by decide]
 rw [show (2:Nat) ^ 63=9223372036854775808 from by decide] at h1 h2
 rw [← hx]
 generalize hz:x ^^^ 9223372036854775808=z at h1 h2 ⊢
 clear hz
 cases n
 ·have e:x=m:=by rw [hx];unfold Fq.wD;simp
  rw [e,Nat.div_eq_of_lt hm,show (0:Nat) ^^^ 1=1 from by decide] at h2
  rw [e,Nat.mod_eq_of_lt hm] at h1
  unfold Fq.wD
  simp
  omega
 ·have e:x=9223372036854775808+m:=by rw [hx];unfold Fq.wD;simp
  have e2:x / 9223372036854775808=1:=by omega
  have e3:x % 9223372036854775808=m:=by omega
  rw [e2,show (1:Nat) ^^^ 1=0 from by decide] at h2
  rw [e3] at h1
  unfold Fq.wD
  simp
  omega
theorem negW8 (n:Bool) (m:Nat) (hm:m<9223372036854775808) (w:World):(Op.unary .neg (.float .f64 (Fq.wD n m))).run Tryz.prog w=.ok (.float .f64 (Fq.wD (!n) m)) w:=by
 have h:Op.negFloat .f64 (Fq.wD n m)=Fq.wD (!n) m:=by
  unfold Op.negFloat
  exact flip8 n m hm
 rw [← h];rfl
end Go.Proofs.YtmpjcknaelgnoaaGreatDoor
