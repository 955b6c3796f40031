import Derived.Test.YtcepchaakfiojaaKRVx
set_option maxHeartbeats 4000000
set_option maxRecDepth 20000
namespace Go.Proofs.Ytcepchaakfiojaa
open Go.RowKit
set_option linter.unusedVariables false
set_option linter.unusedSimpArgs false
theorem rmin9_ (a b c d e f:Nat) (Lb Hb Lc Hc Lx Hx:Int) (rb:Rd a b Lb Hb) (rc:Rd c d Lc Hc) (rx:Rd e f Lx Hx) (w:World):Calls Try.prog 7 #[.agg #[.int .u64 ((a:Nat):Int),.int .u64 ((b:Nat):Int)],.agg #[.int .u64 ((c:Nat):Int),.int .u64 ((d:Nat):Int)],.agg #[.int .u64 ((e:Nat):Int),.int .u64 ((f:Nat):Int)]] w fun e w'=>e = .returned (.agg #[.int .u64 (pI (mnL Lb Hb Lc Hc Lx Hx)),.int .u64 (pI (mnH Lb Hb Lc Hc Lx Hx))])∧Kp w w':=by
  have db:=rb.vd
  have dc:=rc.vd
  have dx:=rx.vd
  have emp:∀ N:Bool,N = N→SV0 N = SV0 N:=fun _ _=>rfl
  by_cases c1:Lc = 9218868437227405312
  · have e1:mnL Lb Hb Lc Hc Lx Hx = 9218868437227405312:=if_pos (Or.inr (Or.inl c1))
    have e2:mnH Lb Hb Lc Hc Lx Hx = -9218868437227405312:=if_pos (Or.inr (Or.inl c1))
    rw [e1,e2,pI_I9,pI_M9]
    by_cases c2:Lb = 9218868437227405312
    · exact mrefE1_ _ _ _ _ _ _ true (fun W=>of9e_ c d Lc Hc rc c1 W) (fun W=>of9e_ a b Lb Hb rb c2 W) w
    · exact mrefE1_ _ _ _ _ _ _ false (fun W=>of9e_ c d Lc Hc rc c1 W) (fun W=>(of9s_ a b Lb Hb rb c2 W).mono (fun e w' q=>by obtain ⟨v,h1,h2,h3⟩:=q;exact ⟨v,h1,h2.sv0,h3⟩)) w
  · by_cases c2:Lb = 9218868437227405312
    · have e1:mnL Lb Hb Lc Hc Lx Hx = 9218868437227405312:=if_pos (Or.inl c2)
      have e2:mnH Lb Hb Lc Hc Lx Hx = -9218868437227405312:=if_pos (Or.inl c2)
      rw [e1,e2,pI_I9,pI_M9]
      exact mrefE2_ _ _ _ _ _ _ (fun W=>(of9s_ c d Lc Hc rc c1 W).mono (fun e w' q=>by obtain ⟨v,h1,h2,h3⟩:=q;exact ⟨v,h1,h2.sv0,h3⟩)) (fun W=>of9e_ a b Lb Hb rb c2 W) w
    · have D1:=db
      have D2:=dc
      unfold VdZ at D1 D2
      refine mref_ _ _ _ _ _ _ Lc Hc Lb Hb (pI (mnL Lb Hb Lc Hc Lx Hx)) (pI (mnH Lb Hb Lc Hc Lx Hx)) w (fun W=>((of9s_ c d Lc Hc rc c1 W).mono (fun e w' q=>by obtain ⟨v,rfl,⟨s,p,l,c,q,k,d,s2,p2,l2,c2,q2,k2,d2,rfl,u1,u2⟩,g⟩:=q;exact ⟨s,p,l,c,q,k,d,s2,p2,l2,c2,q2,k2,d2,rfl,u1,u2,g⟩))) (fun W=>?hob) dc.lo dc.hi db.lo db.hi (fun k W _=>?h0) (fun k1 k2 W v y0 y1 y2 y3 y4 y5 y6 y7 y8 y9 y10 y11 y12 _ ho hz=>?h1) (fun k1 k2 W v y0 y1 y2 y3 y4 y5 y6 y7 y8 y9 y10 y11 y12 z0 z1 z2 z3 z4 z5 z6 z7 z8 z9 z10 z11 z12 _ ho hz hz2=>?h2)
      case hob=>exact (of9s_ a b Lb Hb rb c2 W).mono (fun e w' q=>by obtain ⟨v,rfl,⟨s5,p5,l5,c5,q5,k5,d5,s6,p6,l6,c6,q6,k6,d6,rfl,u1,u2⟩,g⟩:=q;exact ⟨s5,p5,l5,c5,q5,k5,d5,s6,p6,l6,c6,q6,k6,d6,rfl,u1,u2,g⟩)
      case h0 =>
        have q:=mn_0 Lb Hb Lc Hc Lx Hx k
        rw [q.1,q.2]
        exact allY0_ e f Lx Hx rx W
      case h1 =>
        have q:=mn_1 Lb Hb Lc Hc Lx Hx db dc dx c2 c1 k1 k2
        rw [← q.1,← q.2]
        exact allY1_ e f Lx Hx Lc (min Hc Hb) rx (by unfold VdZ;omega) c1 W v y0 y1 y2 y3 y4 y5 y6 y7 y8 y9 y10 y11 y12 ho hz
      case h2 =>
        have q:=mn_2 Lb Hb Lc Hc Lx Hx db dc dx c2 c1 k1 k2
        rw [← q.1,← q.2]
        exact allY2_ e f Lx Hx Lc (min Hc Hb) (max Lc Lb) 9218868437227405312 rx (by unfold VdZ;omega) c1 (by unfold VdZ;omega) (by omega) W v y0 y1 y2 y3 y4 y5 y6 y7 y8 y9 y10 y11 y12 z0 z1 z2 z3 z4 z5 z6 z7 z8 z9 z10 z11 z12 ho hz hz2
end Go.Proofs.Ytcepchaakfiojaa
