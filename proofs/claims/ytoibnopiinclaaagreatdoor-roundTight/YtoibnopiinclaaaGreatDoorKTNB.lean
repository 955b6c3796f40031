import Derived.Test.YtoibnopiinclaaaGreatDoorKXTA
set_option maxHeartbeats 1000000
set_option maxRecDepth 20000
namespace Go.Proofs.YtoibnopiinclaaaGreatDoor
open Go.RowKit

set_option linter.unusedVariables false
def NB (p q:Option Addr) (b:Nat):Prop:=(∀ a,p = some a→a.block≠b)∧(∀ a,q = some a→a.block≠b)
theorem Own.setNe {w:World} {base:Nat} {p:Option Addr} {l c:Nat} {xs:List Int} (h:Own w base (.slice p l c) xs) {x:Addr} (hx:∀ a,p = some a→a.block≠x.block) (u:Value):Own (w.setCell x u) base (.slice p l c) xs:=by
  refine ownsRow_setCell_other h ?_ u
  cases p with
  | none=>simp [Value.ownBlock]
  | some a=>simpa [Value.ownBlock] using hx a rfl
theorem Own.blk {w:World} {base:Nat} {p:Option Addr} {l c:Nat} {xs:List Int} (h:Own w base (.slice p l c) xs):∀ a,p = some a→base≤a.block∧a.block < w.heap.size:=by
  intro a ha
  rcases h.2 with ⟨h1,-⟩ | ⟨g,cap,cur,h1,h2,h3,-⟩
  · simp at h1;rw [h1.1] at ha;cases ha
  · simp at h1
    rw [h1.1] at ha
    obtain rfl:=Option.some.inj ha
    refine ⟨h2, ?_⟩
    exact lt_of_block h3
theorem RP.setNe {base:Nat} {w:World} {s:Bool} {p:Option Addr} {l c:Nat} {q:Option Addr} {k d:Nat} {n:Bool} {m:Nat} (h:RP base w s p l c q k d n m) {x:Addr} (hx:NB p q x.block) (u:Value):RP base (w.setCell x u) s p l c q k d n m:=by
  obtain ⟨a,b,h1,h2,h3⟩:=h
  exact ⟨a,b,h1.setNe hx.1 u,h2.setNe hx.2 u,h3⟩
theorem RP.nbNew {base:Nat} {w:World} {s:Bool} {p:Option Addr} {l c:Nat} {q:Option Addr} {k d:Nat} {n:Bool} {m:Nat} (h:RP base w s p l c q k d n m) {b:Nat} (hb:w.heap.size≤b):NB p q b:=by
  obtain ⟨x,y,h1,h2,-⟩:=h
  exact ⟨fun a ha=>by have:=(h1.blk a ha).2;omega,fun a ha=>by have:=(h2.blk a ha).2;omega⟩
theorem XP.setNe {base:Nat} {w:World} {s:Bool} {p:Option Addr} {l c:Nat} {q:Option Addr} {k d:Nat} {V:Int} {C N:Nat} (h:XP base w s p l c q k d V C N) {x:Addr} (hx:NB p q x.block) (u:Value):XP base (w.setCell x u) s p l c q k d V C N:=by
  obtain ⟨a,b,h1,h2,h3⟩:=h
  exact ⟨a,b,h1.setNe hx.1 u,h2.setNe hx.2 u,h3⟩
theorem XP.nbNew {base:Nat} {w:World} {s:Bool} {p:Option Addr} {l c:Nat} {q:Option Addr} {k d:Nat} {V:Int} {C N:Nat} (h:XP base w s p l c q k d V C N) {b:Nat} (hb:w.heap.size≤b):NB p q b:=by
  obtain ⟨x,y,h1,h2,-⟩:=h
  exact ⟨fun a ha=>by have:=(h1.blk a ha).2;omega,fun a ha=>by have:=(h2.blk a ha).2;omega⟩

def H3c (w:World) (b:Nat) (v0 v1 v2:Value):Prop:=w.cell? ⟨b,0,none⟩ = some v0∧w.cell? ⟨b,1,none⟩ = some v1∧w.cell? ⟨b,2,none⟩ = some v2∧w.frozen? ⟨b,0,none⟩ = false∧w.frozen? ⟨b,1,none⟩ = false∧w.frozen? ⟨b,2,none⟩ = false
theorem H3c.keep {W w:World} {b:Nat} {v0 v1 v2:Value} (h:H3c W b v0 v1 v2) (g:Kp W w):H3c w b v0 v1 v2:=by
  obtain ⟨h0,h1,h2,h3,h4,h5⟩:=h
  exact ⟨kkeep g h0,kkeep g h1,kkeep g h2,(kfro g (cell_lt h0)).trans h3,(kfro g (cell_lt h0)).trans h4,(kfro g (cell_lt h0)).trans h5⟩
theorem H3c.new (w:World) (v0 v1 v2:Value) (t:TypeId):H3c (w.alloc (.cells #[v0,v1,v2] t)) w.heap.size v0 v1 v2:=by
  unfold H3c;simp [go_sem]
theorem H3c.lt {w:World} {b:Nat} {v0 v1 v2:Value} (h:H3c w b v0 v1 v2):b < w.heap.size:=cell_lt h.1
theorem H3c.put {w:World} {b:Nat} {v0 v1 v2:Value} (h:H3c w b v0 v1 v2) (u0 u1 u2:Value):H3c ((((w.setCell ⟨b,0,none⟩ u0).setCell ⟨b,1,none⟩ u1).setCell ⟨b,2,none⟩ u2)) b u0 u1 u2:=by
  obtain ⟨h0,h1,h2,h3,h4,h5⟩:=h
  unfold H3c;simp [go_sem,h0,h1,h2,h3,h4,h5]
theorem H3c.far1 {w:World} {b:Nat} {v0 v1 v2:Value} (h:H3c w b v0 v1 v2) (x:Addr) (hne:x.block≠b) (u:Value):H3c (w.setCell x u) b v0 v1 v2:=by
  obtain ⟨h0,h1,h2,h3,h4,h5⟩:=h
  exact ⟨(World.cell?_setCell_far _ _ _ _ hne).trans h0,(World.cell?_setCell_far _ _ _ _ hne).trans h1,(World.cell?_setCell_far _ _ _ _ hne).trans h2,(World.frozen?_setCell _ _ _ _).trans h3,(World.frozen?_setCell _ _ _ _).trans h4,(World.frozen?_setCell _ _ _ _).trans h5⟩

def Sm (K a:Nat):Prop:=a < 4294967296 ^ K
theorem Sm.mono {K J a:Nat} (h:Sm K a) (hk:K≤J):Sm J a:=Nat.lt_of_lt_of_le h (Nat.pow_le_pow_right (by decide) hk)
theorem Sm.add {K a b:Nat} (h:Sm K a) (k:Sm K b):Sm (K + 1) (a + b):=by
  unfold Sm at *
  rw [Nat.pow_succ]
  generalize 4294967296 ^ K = P at *
  omega
theorem Sm.mul {K J a b:Nat} (h:Sm K a) (k:Sm J b):Sm (K + J) (a * b):=by
  unfold Sm at *
  rw [Nat.pow_add]
  by_cases e:b = 0
  · subst e
    rw [Nat.mul_zero]
    exact Nat.mul_pos (Nat.pow_pos (by decide)) (Nat.pow_pos (by decide))
  · exact Nat.mul_lt_mul_of_lt_of_le h (Nat.le_of_lt k) (by omega)
theorem Sm.one {K:Nat} (h:0 < K):Sm K 1:=Nat.one_lt_pow (by omega) (by decide)
theorem Sm.len {K a:Nat} (h:Sm K a):len32 a≤K:=by
  by_cases c:len32 a≤K
  · exact c
  · exfalso
    have:=len32_lt a K (by omega)
    unfold Sm at h
    omega
theorem Sm.val {xs:List Int} (h:Wd xs):Sm xs.length (Go.Proofs.YtoibnopiinclaaaGreatDoor.val xs):=val_lt xs h
def LsN (w:World) (v:Value) (L:List Int):Prop:=∃ p c,v = .slice p L.length c∧Arr w p L∧L.length≤c
theorem LsN.kp {w w':World} {v:Value} {L:List Int} (h:LsN w v L) (k:Kp w w'):LsN w' v L:=by
  obtain ⟨p,c,e,hA,hc⟩:=h
  exact ⟨p,c,e,hA.grown k,hc⟩
theorem LsN.len {w:World} {v:Value} {L:List Int} (h:LsN w v L):∃ p c,v = .slice p L.length c∧Arr w p L∧L.length≤c:=h
theorem ord_neg9 (n:Bool) (m:Nat) (hm:m≤9218868437227405312) (z:m≠0):(FloatKind.f64.format.order (Fq.wD n m) 0 == some .lt) = n:=by
  have hz:(0:Nat) = Fq.wD false 0:=rfl
  have hord:FloatKind.f64.format.order (Fq.wD n m) 0 = some (compare (Fq.plz n m) 0):=by
    rw [hz,Fq.ordD n false m 0 hm (by decide)];rfl
  rw [hord]
  cases n
  · rw [Int.compare_eq_gt.2 (by unfold Fq.plz;simp;omega)];rfl
  · rw [Int.compare_eq_lt.2 (by unfold Fq.plz;simp;omega)];rfl
theorem psqrtQ_ (d:Int) (m:Nat) (c1:2580562586483294208≤m∧m≤6633802251116740608) (w:World) :
    Calls Tryz.prog 15 #[.int .i64 d,.float .f64 (Fq.wD false m)] w fun e w'=>e = .returned (.float .f64 (rootW d (Fq.vV Ieee.double m)))∧Kp w w':=by
  have h1:=mild_ false m (by omega) w
  rw [decide_eq_true c1] at h1
  have o1:=ord_neg9 false m (by omega) (by omega)
  obtain ⟨V,o,r,ro,K,hV,h3,r0,r8,q0,q1,g1,g2,K1,K2,kV⟩:=twoRoot_ m c1
  have h4:=steppedG_ d V false o false r ro K K1 K2 kV r0 r8 q0 q1 g1 g2
  rw [show sumW d V = rootW d (Fq.vV Ieee.double m) from by rw [hV];rfl] at h4
  obtain ⟨X,hX⟩:∃ X,X = Fq.wD false m:=⟨_,rfl⟩
  obtain ⟨Z,hZ⟩:∃ Z,Z = rootW d (Fq.vV Ieee.double m):=⟨_,rfl⟩
  obtain ⟨N,hN⟩:∃ N,N = Fq.wD false r:=⟨_,rfl⟩
  obtain ⟨O,hO⟩:∃ O,O = Fq.wD o ro:=⟨_,rfl⟩
  rw [← hX] at h1 o1
  rw [← hX,← hN,← hO] at h3
  rw [← hN,← hO,← hZ] at h4
  rw [← hX,← hZ]
  clear hX hZ hN hO c1 r0 r8 q0 q1 g1 g2 K1 K2 kV hV
  go_enter Tryz.func15,Tryz.ntmps15
  go_wp2
  refine wp_scope_straight ?_
  go_wp2_with fail
  refine h1.mono ?_;rintro e w' ⟨rfl,hw'⟩;obtain rfl:=hw'.symm;clear hw' h1
  have h5:=h3 w
  clear h3
  go_wp2_with fail
  refine h5.mono ?_;rintro e w' ⟨rfl,hw'⟩;obtain rfl:=hw'.symm;clear hw' h5
  have h6:=h4 w
  clear h4
  go_wp2_with fail
  refine h6.mono ?_;rintro e w1 ⟨rfl,k1⟩
  clear h6
  go_wp2
  try rw [Exit.noGoto_ret]
  exact bodyPost_ret (v:=.float .f64 Z) (by simp [results,Tryz.results15,go_sem]) rfl ⟨rfl,k1⟩

set_option linter.unusedVariables false
def pz (z:Int):Nat:=Fq.wD (decide (z < 0)) z.natAbs
def g53 (d:Int) (c1 c2:Nat) (V:Int):Int:=gpl 53 2098 9218868437227405311 9218868437227405312 d c1 c2 V
theorem g53_le (d:Int) (c1 c2:Nat) (V:Int):-9218868437227405312≤g53 d c1 c2 V∧g53 d c1 c2 V≤9218868437227405312:=gpl_le 53 2098 9218868437227405311 9218868437227405312 d c1 c2 (by decide) (by decide) (by decide) (by decide) V
theorem mdW_pz (s:Bool) (M:Nat):mdW s M = pz (if s then -(M:Int) else M):=by
  unfold mdW pz Fq.wD
  by_cases z:M = 0
  · rw [if_pos z,z];cases s <;> simp
  · rw [if_neg z]
    cases s
    · simp <;> omega
    · simp <;> omega
theorem sumW_g (d V:Int):sumW d V = pz (g53 d 1 1 V):=by
  unfold sumW g53 gpl
  by_cases z:V = 0
  · rw [if_pos z,if_pos z];rfl
  · rw [if_neg z,if_neg z,mdW_pz,Nat.mul_one]
    by_cases n:V < 0
    · rw [if_pos n,decide_eq_true n];rfl
    · rw [if_neg n,decide_eq_false n];rfl
theorem rV_neg (d:Int) (A K:Nat):rV d 53 A 1 (-(K:Int)) = rU d 53 (A * 1) (2 ^ K):=by
  unfold rV
  rw [show (-(K:Int)).toNat = 0 from by omega,show (- -(K:Int)).toNat = K from by omega,Nat.pow_zero,Nat.one_mul]
theorem rV_pos (d:Int) (A B K:Nat):rV d 53 A B (K:Int) = rU d 53 (A * 2 ^ K) B:=by
  unfold rV
  rw [show ((K:Int)).toNat = K from by omega,show (-(K:Int)).toNat = 0 from by omega,Nat.pow_zero,Nat.mul_one]
theorem fmaW_g (K:Nat) (hK:K = 1074) (d V:Int):fmaW d V = pz (g53 d 1 (2 ^ K) V):=by
  unfold fmaW g53 gpl
  rw [show (-1074:Int) = -(K:Int) from by omega]
  by_cases z:V = 0
  · rw [if_pos z,if_pos z];rfl
  · rw [if_neg z,if_neg z,mdW_pz,rV_neg]
    by_cases n:V < 0
    · rw [if_pos n,decide_eq_true n];rfl
    · rw [if_neg n,decide_eq_false n];rfl
theorem mulW_g (K:Nat) (hK:K = 1074) (d:Int) (n n':Bool) (m m':Nat):mulW d (n ^^ n') (Fq.vV Ieee.double m * Fq.vV Ieee.double m') = pz (g53 d 1 (2 ^ K) (Iv n m * Iv n' m')):=by
  rw [← fmaW_g K hK]
  have e:Iv n m * Iv n' m' = if (n ^^ n') then -((Fq.vV Ieee.double m * Fq.vV Ieee.double m':Nat):Int) else ((Fq.vV Ieee.double m * Fq.vV Ieee.double m':Nat):Int):=by
    unfold Iv
    rw [Int.natCast_mul]
    cases n <;> cases n' <;> simp [Int.neg_mul,Int.mul_neg]
  rw [e]
  generalize Fq.vV Ieee.double m * Fq.vV Ieee.double m' = P
  generalize (n ^^ n') = s
  unfold mulW fmaW
  by_cases z:P = 0
  · rw [if_pos z,z,if_pos (by cases s <;> rfl)]
  · rw [if_neg z,if_neg (by cases s <;> simp <;> omega)]
    cases s
    · rw [if_neg (by decide),show decide (((P:Nat):Int) < 0) = false from decide_eq_false (by omega),show ((P:Nat):Int).natAbs = P from by omega]
    · rw [if_pos rfl,show decide (-((P:Nat):Int) < 0) = true from decide_eq_true (by omega),show (-((P:Nat):Int)).natAbs = P from by omega]
theorem divW_g (K:Nat) (hK:K = 1074) (d:Int) (n:Bool) (m B:Nat):divW d (n ^^ false) (Fq.vV Ieee.double m) B = pz (g53 d (2 ^ K) B (Iv n m)):=by
  rw [show (n ^^ false) = n from by cases n <;> rfl]
  unfold divW g53 gpl
  rw [show (1074:Int) = (K:Int) from by omega]
  have e:Iv n m = if n then -((Fq.vV Ieee.double m:Nat):Int) else ((Fq.vV Ieee.double m:Nat):Int):=by unfold Iv;cases n <;> rfl
  rw [e]
  generalize Fq.vV Ieee.double m = P
  by_cases z:P = 0
  · rw [if_pos z,z,if_pos (by cases n <;> rfl)];rfl
  · rw [if_neg z,if_neg (by cases n <;> simp <;> omega),mdW_pz,rV_pos]
    cases n
    · simp only [Bool.false_eq_true,if_false]
      rw [if_neg (show ¬ ((P:Nat):Int) < 0 by omega),show ((P:Nat):Int).natAbs = P from by omega]
    · simp only [if_true]
      rw [if_pos (show -((P:Nat):Int) < 0 by omega),show (-((P:Nat):Int)).natAbs = P from by omega]
theorem self_pz (x:Int) (hx:-9218868437227405312≤x∧x≤9218868437227405312):(FloatKind.f64.format.order (pz x) (pz x) != some Ordering.eq) = false:=by
  have g:=Fq.feq (decide (x < 0)) (decide (x < 0)) x.natAbs x.natAbs (by omega) (by omega)
  rw [decide_eq_true (show x.natAbs≤9218868437227405312∧x.natAbs≤9218868437227405312∧Fq.plz (decide (x < 0)) x.natAbs = Fq.plz (decide (x < 0)) x.natAbs from ⟨by omega,by omega,rfl⟩)] at g
  show (!(FloatKind.f64.format.order (pz x) (pz x) == some Ordering.eq)) = false
  rw [show (FloatKind.f64.format.order (pz x) (pz x) == some Ordering.eq) = true from g];rfl
theorem livesA_ (w:World) (h1:∀ W:World,Kp w W→Calls Tryz.prog 7 #[.int .i64 1,.float .f64 4607182418800017408,.float .f64 1] W fun e w'=>e = .returned (.float .f64 4607182418800017409)∧Kp W w') (h2:∀ W:World,Kp w W→Calls Tryz.prog 14 #[.int .i64 (-1),.float .f64 4607182418800017408,.float .f64 4613937818241073152] W fun e w'=>e = .returned (.float .f64 4599676419421066581)∧Kp W w') (h3:∀ W:World,Kp w W→Calls Tryz.prog 15 #[.int .i64 1,.float .f64 4611686018427387904] W fun e w'=>e = .returned (.float .f64 4609047870845172685)∧Kp W w') (h4:∀ W:World,Kp w W→Calls Tryz.prog 16 #[.int .i64 1,.float .f64 1,.float .f64 1] W fun e w'=>e = .returned (.float .f64 1)∧Kp W w') (h5:∀ W:World,Kp w W→Calls Tryz.prog 7 #[.int .i64 (-1),.float .f64 9218868437227405311,.float .f64 9218868437227405311] W fun e w'=>e = .returned (.float .f64 9218868437227405311)∧Kp W w') (PF:Int→Nat→Prop) (PB:Nat→Int→Prop) (fl9:∀ X Y,PF X Y→∀ w:World,Calls Tryz.prog 8 #[.int .u64 X] w fun e w'=>e = .returned (.float .f64 Y)∧w' = w) (bt9:∀ X Y,PB X Y→∀ w:World,Calls Tryz.prog 6 #[.float .f64 X] w fun e w'=>e = .returned (.int .u64 Y)∧w' = w) (p1:PF 1 1) (pG:PF 9218868437227405311 9218868437227405311) (b1:PB 4607182418800017409 4607182418800017409) (b2:PB 4599676419421066581 4599676419421066581) (b3:PB 4609047870845172685 4609047870845172685) (b4:PB 1 1) (b5:PB 9218868437227405311 9218868437227405311):Calls Tryz.prog 5 #[] w fun e w'=>e = .returned (.bool true)∧Kp w w':=by
  have kw:Kp w w:=Kp.refl w
  go_enter Tryz.func5,Tryz.ntmps5
  go_wp2_with (first | (go_at_call_of 7 (Value.float .f64 4607182418800017408);refine (h1 _ kw).mono ?_;rintro e wn ⟨rfl,gn⟩;replace kw:=Kp.trans kw gn;clear gn) | (go_at_call_of 14 (Value.float .f64 4613937818241073152);refine (h2 _ kw).mono ?_;rintro e wn ⟨rfl,gn⟩;replace kw:=Kp.trans kw gn;clear gn) | (go_at_call_of 15 (Value.float .f64 4611686018427387904);refine (h3 _ kw).mono ?_;rintro e wn ⟨rfl,gn⟩;replace kw:=Kp.trans kw gn;clear gn) | (go_at_call_of 16 (Value.float .f64 1);refine (h4 _ kw).mono ?_;rintro e wn ⟨rfl,gn⟩;replace kw:=Kp.trans kw gn;clear gn) | (go_at_call_of 7 (Value.float .f64 9218868437227405311);refine (h5 _ kw).mono ?_;rintro e wn ⟨rfl,gn⟩;replace kw:=Kp.trans kw gn;clear gn) | (go_at_call 8;refine (fl9 _ _ (by with_reducible first | exact p1 | exact pG) _).mono ?_;rintro e wn ⟨rfl,hw9⟩;obtain rfl:=hw9.symm;clear hw9) | (go_at_call 6;refine (bt9 _ _ (by with_reducible first | exact b1 | exact b2 | exact b3 | exact b4 | exact b5) _).mono ?_;rintro e wn ⟨rfl,hw9⟩;obtain rfl:=hw9.symm;clear hw9))
  exact bodyPost_ret (v:=.bool true) (by simp [results,Tryz.results5,go_sem]) rfl ⟨rfl,kw⟩
theorem lives_ (w:World) (hT:Tab w) (hQ:Fq.Tab w):Calls Tryz.prog 5 #[] w fun e w'=>e = .returned (.bool true)∧Kp w w':=by
  have h1:∀ W:World,Kp w W→Calls Tryz.prog 7 #[.int .i64 1,.float .f64 4607182418800017408,.float .f64 1] W fun e w'=>e = .returned (.float .f64 4607182418800017409)∧Kp W w':=fun W g=>by
    have h:=paddF_ 1 false false 4607182418800017408 1 (by decide) (by decide) W (Tab.grown hT g) (Fq.Tab.grown hQ g) (by decide) (by decide)
    rw [show sumW 1 (Iv false 4607182418800017408 + Iv false 1) = 4607182418800017409 from by decide +kernel] at h
    exact h
  have h2:∀ W:World,Kp w W→Calls Tryz.prog 14 #[.int .i64 (-1),.float .f64 4607182418800017408,.float .f64 4613937818241073152] W fun e w'=>e = .returned (.float .f64 4599676419421066581)∧Kp W w':=fun W g=>by
    have h:=pdivQ_ (-1) false false 4607182418800017408 4613937818241073152 (by decide) (by decide) W
    rw [show divW (-1) (false ^^ false) (Fq.vV Ieee.double 4607182418800017408) (Fq.vV Ieee.double 4613937818241073152) = 4599676419421066581 from by decide +kernel] at h
    exact h
  have h3:∀ W:World,Kp w W→Calls Tryz.prog 15 #[.int .i64 1,.float .f64 4611686018427387904] W fun e w'=>e = .returned (.float .f64 4609047870845172685)∧Kp W w':=fun W g=>by
    have h:=psqrtQ_ 1 4611686018427387904 (by decide) W
    rw [show rootW 1 (Fq.vV Ieee.double 4611686018427387904) = 4609047870845172685 from by decide +kernel] at h
    exact h
  have h4:∀ W:World,Kp w W→Calls Tryz.prog 16 #[.int .i64 1,.float .f64 1,.float .f64 1] W fun e w'=>e = .returned (.float .f64 1)∧Kp W w':=fun W g=>by
    have h:=pmulE_ 1 false false 1 1 (by decide) (by decide) (by decide) (by decide) (by decide) W (Tab.grown hT g) (Fq.Tab.grown hQ g) (by decide) (by decide)
    rw [show mulW 1 (false ^^ false) (Fq.vV Ieee.double 1 * Fq.vV Ieee.double 1) = 1 from by decide +kernel] at h
    exact h
  have h5:∀ W:World,Kp w W→Calls Tryz.prog 7 #[.int .i64 (-1),.float .f64 9218868437227405311,.float .f64 9218868437227405311] W fun e w'=>e = .returned (.float .f64 9218868437227405311)∧Kp W w':=fun W g=>by
    have h:=paddF_ (-1) false false 9218868437227405311 9218868437227405311 (by decide) (by decide) W (Tab.grown hT g) (Fq.Tab.grown hQ g) (by decide) (by decide)
    rw [show sumW (-1) (Iv false 9218868437227405311 + Iv false 9218868437227405311) = 9218868437227405311 from by decide +kernel] at h
    exact h
  exact livesA_ w h1 h2 h3 h4 h5 (fun X Y=>X = (Y:Int)) (fun X Y=>(FloatKind.f64.format.order X X != some Ordering.eq) = false∧Y = (X:Int)) (fun X Y h w=>by rw [h];exact fl_ Y w) (fun X Y h w=>by rw [h.2];exact bitsN_ X h.1 w) rfl rfl ⟨by decide +kernel,rfl⟩ ⟨by decide +kernel,rfl⟩ ⟨by decide +kernel,rfl⟩ ⟨by decide +kernel,rfl⟩ ⟨by decide +kernel,rfl⟩
theorem flip8 (n:Bool) (m:Nat) (hm:m < 9223372036854775808):Fq.wD n m ^^^ 9223372036854775808 = Fq.wD (!n) m:=by
  obtain ⟨x,hx⟩:∃ x,x = Fq.wD n m:=⟨_,rfl⟩
  have h1:(x ^^^ 9223372036854775808) % 2 ^ 63 = x % 2 ^ 63:=by
    rw [Nat.xor_mod_two_pow,show (9223372036854775808:Nat) % 2 ^ 63 = 0 from by decide,Nat.xor_zero]
  have h2:(x ^^^ 9223372036854775808) / 2 ^ 63 = x / 2 ^ 63 ^^^ 1:=by
    rw [← Nat.shiftRight_eq_div_pow,← Nat.shiftRight_eq_div_pow,Nat.shiftRight_xor_distrib,show (9223372036854775808:Nat) >>> 63 = 1 from by decide]
  rw [show (2:Nat) ^ 63 = 9223372036854775808 from by decide] at h1 h2
  rw [← hx]
  generalize hz:x ^^^ 9223372036854775808 = z at h1 h2 ⊢
  clear hz
  cases n
  · have e:x = m:=by rw [hx];unfold Fq.wD;simp
    rw [e,Nat.div_eq_of_lt hm,show (0:Nat) ^^^ 1 = 1 from by decide] at h2
    rw [e,Nat.mod_eq_of_lt hm] at h1
    unfold Fq.wD
    simp
    omega
  · have e:x = 9223372036854775808 + m:=by rw [hx];unfold Fq.wD;simp
    have e2:x / 9223372036854775808 = 1:=by omega
    have e3:x % 9223372036854775808 = m:=by omega
    rw [e2,show (1:Nat) ^^^ 1 = 0 from by decide] at h2
    rw [e3] at h1
    unfold Fq.wD
    simp
    omega
theorem negW8 (n:Bool) (m:Nat) (hm:m < 9223372036854775808) (w:World):(Op.unary .neg (.float .f64 (Fq.wD n m))).run Tryz.prog w = .ok (.float .f64 (Fq.wD (!n) m)) w:=by
  have h:Op.negFloat .f64 (Fq.wD n m) = Fq.wD (!n) m:=by
    unfold Op.negFloat
    exact flip8 n m hm
  rw [← h];rfl
set_option linter.unusedVariables false
theorem addG_ (d:Int) (n n':Bool) (m m':Nat) (hm:m < 9218868437227405312) (hm':m' < 9218868437227405312) (hd1:-9223372036854775808≤d) (hd2:d < 9223372036854775808) (w:World) (hT:Tab w) (hQ:Fq.Tab w):Calls Tryz.prog 7 #[.int .i64 d,.float .f64 (Fq.wD n m),.float .f64 (Fq.wD n' m')] w fun e w'=>e = .returned (.float .f64 (pz (g53 d 1 1 (Iv n m + Iv n' m'))))∧Kp w w':=by
  rw [← sumW_g]
  exact paddF_ d n n' m m' hm hm' w hT hQ hd1 hd2
theorem mulG_ (K:Nat) (hK:K = 1074) (d:Int) (n n':Bool) (m m':Nat) (hm:m < 9218868437227405312) (hm':m' < 9218868437227405312) (hd1:-9223372036854775808≤d) (hd2:d < 9223372036854775808) (w:World) (hT:Tab w) (hQ:Fq.Tab w):Calls Tryz.prog 16 #[.int .i64 d,.float .f64 (Fq.wD n m),.float .f64 (Fq.wD n' m')] w fun e w'=>e = .returned (.float .f64 (pz (g53 d 1 (2 ^ K) (Iv n m * Iv n' m'))))∧Kp w w':=by
  rw [← mulW_g K hK]
  by_cases z:m = 0∨m' = 0
  · have h0:mulW d (n ^^ n') (Fq.vV Ieee.double m * Fq.vV Ieee.double m') = 0:=by
      unfold mulW
      refine if_pos (Nat.mul_eq_zero.2 ?_)
      rcases z with z | z
      · exact Or.inl ((vV_zero m).2 z)
      · exact Or.inr ((vV_zero m').2 z)
    rw [h0]
    have hp:=Fq.plain_d (n ^^ n') 0 (by decide) w
    rw [show Fq.wD ((n ^^ n') && !((0:Nat) == 0)) 0 = 0 from by simp;rfl] at hp
    exact pmulP_ d n n' m m' (by omega) (by omega) (fun h=>by omega) w w (Fq.wD (n ^^ n') 0) 0 (run_float_arith w .mul 27 .f64 _ _ _ (mul_zero n n' m m' hm hm' z)) (Kp.refl _) hp
  · by_cases ct:(2580562586483294208≤m∧m≤6633802251116740608)∧(2580562586483294208≤m'∧m'≤6633802251116740608)
    · exact pmulQ_ d n n' m m' ct.1 ct.2 w
    · exact pmulE_ d n n' m m' hm hm' (fun h=>z (Or.inl h)) (fun h=>z (Or.inr h)) ct w hT hQ hd1 hd2
theorem fmaG_ (K:Nat) (hK:K = 1074) (d:Int) (n n' nz:Bool) (m m' mz:Nat) (hm:m < 9218868437227405312) (hm':m' < 9218868437227405312) (hmz:mz < 9218868437227405312) (hd1:-9223372036854775808≤d) (hd2:d < 9223372036854775808) (w:World) (hT:Tab w) (hQ:Fq.Tab w):Calls Tryz.prog 30 #[.int .i64 d,.float .f64 (Fq.wD n m),.float .f64 (Fq.wD n' m'),.float .f64 (Fq.wD nz mz)] w fun e w'=>e = .returned (.float .f64 (pz (g53 d 1 (2 ^ K) (Iv n m * Iv n' m' + Iv nz mz * ((2 ^ K:Nat):Int)))))∧Kp w w':=by
  rw [← fmaW_g K hK]
  by_cases ct:(2580562586483294208≤m∧m≤6633802251116740608)∧(2580562586483294208≤m'∧m'≤6633802251116740608)∧mz≤9110782046170513408
  · exact pfmaQ_ d n n' nz m m' mz ct.1 ct.2.1 ct.2.2 K hK w hT hQ hd1 hd2
  · exact pfmaE_ d n n' nz m m' mz hm hm' hmz ct K hK w hT hQ hd1 hd2
theorem finA_ (X Q E:Int) (Z:Bool) (f1:X / 4503599627370496 = Q) (f2:bits BinOp.and IntKind.u64 Q 2047 = E) (t:(E != 2047) = Z) (w:World):Calls Tryz.prog 4 #[.int .u64 X] w fun e w'=>e = .returned (.bool Z)∧w' = w:=by
  cases Z
  all_goals (
    go_enter Tryz.func4,Tryz.ntmps4
    go_wp2
    exact bodyPost_ret (v:=.bool _) (by simp [results,Tryz.results4,go_sem] <;> simpa using t) rfl ⟨rfl,rfl⟩)
theorem fin_ (n:Bool) (m:Nat) (hm:m < 9223372036854775808) (w:World):Calls Tryz.prog 4 #[.int .u64 ((Fq.wD n m:Nat):Int)] w fun e w'=>e = .returned (.bool (decide (m < 9218868437227405312)))∧w' = w:=by
  obtain ⟨X,hX⟩:∃ X,X = Fq.wD n m:=⟨_,rfl⟩
  obtain ⟨Q,hQ⟩:∃ Q,Q = X / 4503599627370496:=⟨_,rfl⟩
  have hX9:X < 18446744073709551616:=by rw [hX];unfold Fq.wD;split <;> omega
  have e1:Q % 2048 = m / 4503599627370496:=by rw [hQ,hX];unfold Fq.wD;split <;> omega
  have f2:bits BinOp.and IntKind.u64 (Q:Int) 2047 = ((m / 4503599627370496:Nat):Int):=by
    have h:=u64_and_nat Q 2047 (by omega) (by decide)
    rw [show (2047:Nat) = 2 ^ 11 - 1 from by decide,Nat.and_two_pow_sub_one_eq_mod,show (2:Nat) ^ 11 = 2048 from by decide,e1] at h
    exact h
  rw [← hX]
  refine finA_ _ _ _ _ (by rw [hQ];exact (Int.natCast_ediv _ _).symm) f2 ?_ w
  by_cases c:m < 9218868437227405312
  · rw [decide_eq_true c];simp;omega
  · rw [decide_eq_false c];simp;omega
end Go.Proofs.YtoibnopiinclaaaGreatDoor
