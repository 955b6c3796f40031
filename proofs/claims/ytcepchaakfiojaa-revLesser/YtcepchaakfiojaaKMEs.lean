import Derived.Test.YtcepchaakfiojaaKEA
namespace Go.Proofs.Ytcepchaakfiojaa
open Go.RowKit

theorem iv_lt8 (n n':Bool) (m m':Nat):Iv n m < Iv n' m' ↔ Fq.plz n m < Fq.plz n' m':=by
  have h1:=Fq.vV_lt_iff Ieee.double m m'
  have h2:=Fq.vV_lt_iff Ieee.double m' m
  have h3:=vV_zero_iff m
  have h4:=vV_zero_iff m'
  unfold Iv Fq.plz
  cases n <;> cases n' <;> simp <;> omega
end Go.Proofs.Ytcepchaakfiojaa
