import Derived.Test.YtaidnpjgkkdloaaGreatDoorKTTY
import Derived.Test.YtaidnpjgkkdloaaGreatDoorKTTZ
import Derived.Test.YtaidnpjgkkdloaaGreatDoorKTTc
set_option maxHeartbeats 1000000
set_option maxRecDepth 20000
namespace Go.Proofs.YtaidnpjgkkdloaaGreatDoor
open Go.RowKit
set_option linter.unusedVariables false
theorem finA_ (X Q E:Int) (Z:Bool) (f1:X / 4503599627370496 = Q) (f2:bits BinOp.and IntKind.u64 Q 2047 = E) (t:(E != 2047) = Z) (w:World):Calls Tryz.prog 5 #[.int .u64 X] w fun e w'=>e = .returned (.bool Z)∧w' = w:=by
  cases Z
  all_goals (
    go_enter Tryz.func5,Tryz.ntmps5
    go_wp2
    exact bodyPost_ret (v:=.bool _) (by simp [results,Tryz.results5,go_sem] <;> simpa using t) rfl ⟨rfl,rfl⟩)
theorem fin_ (n:Bool) (m:Nat) (hm:m < 9223372036854775808) (w:World):Calls Tryz.prog 5 #[.int .u64 ((Fq.wD n m:Nat):Int)] w fun e w'=>e = .returned (.bool (decide (m < 9218868437227405312)))∧w' = w:=by
  obtain ⟨X,hX⟩:∃ X,X = Fq.wD n m:=⟨_,rfl⟩
  obtain ⟨Q,hQ⟩:∃ Q,Q = X / 4503599627370496:=⟨_,rfl⟩
  have hX9:X < 18446744073709551616:=by rw [hX];unfold Fq.wD;split <;> omega
  have e1:Q % 2048 = m / 4503599627370496:=by rw [hQ,hX];unfold Fq.wD;split <;> omega
  have f2:bits BinOp.and IntKind.u64 (Q:Int) 2047 = ((m / 4503599627370496:Nat):Int):=by
    have h:=u64_and_nat Q 2047 (by omega) (by decide)
    rw [show (2047:Nat) = 2 ^ 11 - 1 from by decide,Nat.and_two_pow_sub_one_eq_mod,show (2:Nat) ^ 11 = 2048 from by decide,e1] at h
    exact h
  rw [← hX]
  refine finA_ _ _ _ _ (by rw [hQ];exact (Int.natCast_ediv _ _).symm) f2 ?_ w
  by_cases c:m < 9218868437227405312
  · rw [decide_eq_true c];simp;omega
  · rw [decide_eq_false c];simp;omega
theorem cmX_lt (x y:Int) (h:x < y):cmI x y = -1:=if_pos h
theorem cmX_gt (x y:Int) (h:y < x):cmI x y = 1:=by unfold cmI;rw [if_neg (by omega),if_pos h]
theorem xsign_ s p l c q k d (V:Int) (C N:Nat) (hN:N≤100000) (B1:Nat) (w:World) (h:XP B1 w s p l c q k d V C N):Calls Tryz.prog 16 #[.agg #[.bool s,.slice p l c,.slice q k d]] w fun e w'=>e = .returned (.int .i64 (cmI V 0))∧Kp w w':=by
  obtain ⟨a,b,u1,u2,f1,f2,f3,f4,f5⟩:=h
  have h:=rsign_ s (.slice p l c) (.slice q k d) a w u1.ls (by omega)
  have e:(if a = 0 then 0 else if s then (-1:Int) else 1) = cmI V 0:=by
    have hc:(0:Int) < (C:Int):=by omega
    have hb:(0:Int) < (b:Int):=by omega
    have k:cmI (rvI s a) 0 = cmI V 0:=by
      rw [← cmI_scale (rvI s a) 0 _ hc,f3,Int.zero_mul]
      have:=cmI_scale V 0 _ hb
      rw [Int.zero_mul] at this
      exact this
    rw [← k]
    unfold rvI
    by_cases z:a = 0
    · rw [if_pos z,z];cases s <;> simp [cmI]
    · rw [if_neg z]
      cases s
      · rw [if_neg (by decide),if_neg (by decide)];exact (cmX_gt _ _ (by omega)).symm
      · rw [if_pos rfl,if_pos rfl];exact (cmX_lt _ _ (by omega)).symm
  rw [e] at h
  exact h
theorem divT9_ (K:Nat) (hK:K = 1074) (a b c d:Nat) (L1 H1 L2 H2:Int) (hx:Rd a b L1 H1) (hy:Rd c d L2 H2) (c1:L1≠9218868437227405312) (c2:L2≠9218868437227405312) (c3:¬ (L2≤0∧0≤H2)) (w:World) (hT:TT w):Calls Tryz.prog 17 #[.agg #[.float .f64 a,.float .f64 b],.agg #[.float .f64 c,.float .f64 d]] w fun e w'=>e = .returned (.agg #[.float .f64 (pw (dLo K L1 H1 L2 H2)),.float .f64 (pw (dHi K L1 H1 L2 H2))])∧Kp w w':=by
  have v1:=void9_ L1 H1 hx.vd
  have v2:=void9_ L2 H2 hy.vd
  unfold dLo dHi
  rw [decide_eq_false c1] at v1
  rw [decide_eq_false c2] at v2
  have cE:¬ (L1 = 9218868437227405312∨L2 = 9218868437227405312):=by omega
  rw [if_neg cE,if_neg cE]
  have b1:=hx.vd.lo;have b2:=hx.vd.hi;have b3:=hy.vd.lo;have b4:=hy.vd.hi
  have hh:=holdsN_ (pw L2) (pw H2) _ _ (le0_pw L2 b3) (ge0_pw H2 b4)
  rw [if_neg c3,if_neg c3]
  rw [nand2 _ _ c3] at hh
  have d1:=hx.vd
  have d2:=hy.vd
  unfold VdZ at d1 d2
  have gb:∀ x y,BdZ (diZ K (-1) x y):=diZ_bd K (-1)
  have lo:∀ (x y:Int),BdZ x→BdZ y→y≠0→¬ ((x = 9218868437227405312∨x = -9218868437227405312)∧(y = 9218868437227405312∨y = -9218868437227405312))→∀ W0:World,TT W0→∀ W:World,Kp W0 W→Calls Tryz.prog 44 #[.float .f64 (pw x),.float .f64 (pw y)] W fun e w'=>e = .returned (.float .f64 (pw (diZ K (-1) x y)))∧Kp W w':=fun x y g1 g2 zy hb W0 t W k=>quoP_ K hK x y g1 g2 zy hb W (t.kp k)
  refine div6n_ a b c d _ _ _ _ hx.call hy.call v1 v2 hh _ _ w (fun W k=>?_)
  have hT:=hT.kp k
  exact spreadA_ _ _ _ _ _ _ _ _ _ _ W (fun W' k'=>lsQ9_ (diZ K (-1)) L1 H1 H2 L2 b1 b2 b4 b3 W' (fun _ _=>lo _ _ b2 b4 (by omega) (by omega) W' (hT.kp k')) (fun _ _=>lo _ _ b1 b3 (by omega) (by omega) W' (hT.kp k')) (fun _ _ _=>lo _ _ b2 b3 (by omega) (by omega) W' (hT.kp k')) (fun _ _ _=>lo _ _ b1 b4 (by omega) (by omega) W' (hT.kp k')) (gb _ _) (gb _ _)) (neg9_ _ _ _ _ (Rd.of hx.vd)) (fun W' k'=>lsQ9_ (diZ K (-1)) (-H1) (-L1) H2 L2 (bd_neg _ b2) (bd_neg _ b1) b4 b3 W' (fun _ _=>lo _ _ (bd_neg _ b1) b4 (by omega) (by omega) W' (hT.kp k')) (fun _ _=>lo _ _ (bd_neg _ b2) b3 (by omega) (by omega) W' (hT.kp k')) (fun _ _ _=>lo _ _ (bd_neg _ b1) b3 (by omega) (by omega) W' (hT.kp k')) (fun _ _ _=>lo _ _ (bd_neg _ b2) b4 (by omega) (by omega) W' (hT.kp k')) (gb _ _) (gb _ _)) (minus9_ _ (lst_bd _ gb _ _ _ _))

theorem Rd.pt (n:Bool) (m:Nat) (hm:m < 9218868437227405312):Rd (Fq.wD n m) (Fq.wD n m) (Fq.plz n m) (Fq.plz n m):=by
  have es:=Fq.snd_w n n m m (by omega) (by omega)
  rw [decide_eq_true ⟨by omega,by omega,by omega,by omega,by omega⟩] at es
  have hw:Fq.wD n m < 18446744073709551616:=by unfold Fq.wD;split <;> omega
  have hb:BdZ (Fq.plz n m):=by unfold BdZ Fq.plz;split <;> omega
  have hp:Fq.pla (Fq.wD n m) = pw (Fq.plz n m):=by
    by_cases c:Fq.wD n m = 9223372036854775808
    · have hg:n = true∧m = 0:=by
        unfold Fq.wD at c
        cases n
        · simp at c;omega
        · simp at c;exact ⟨rfl,c⟩
      rw [hg.1,hg.2];decide
    · rw [(pw_plz n m c (by omega)).1]
      unfold Fq.pla;rw [if_neg c]
  refine ⟨hw,hw,Or.inr ?_, ?_, ?_⟩
  · unfold Fq.plz;split <;> omega
  · rw [show Fq.rlo (Fq.wD n m) (Fq.wD n m) = Fq.pla (Fq.wD n m) from by simp [Fq.rlo,es],hp]
  · rw [show Fq.rhi (Fq.wD n m) (Fq.wD n m) = Fq.pla (Fq.wD n m) from by simp [Fq.rhi,es],hp]
theorem vZ_plz9 (n:Bool) (m:Nat):vZ (Fq.plz n m) = Iv n m:=by
  unfold vZ Iv Fq.plz
  cases n
  · simp;omega
  · by_cases c:m = 0
    · subst c;simp [vV0X]
    · simp [c]
def tV (K:Nat) (x y z:Int):Nat→Int
  | 0=>vZ x
  | 1=>vZ y
  | 2=>vZ z
  | 3=>vZ x * ((2 ^ K:Nat):Int) + vZ y * ((2 ^ K:Nat):Int)
  | 4=>vZ x * ((2 ^ K:Nat):Int) - vZ y * ((2 ^ K:Nat):Int)
  | 5=>vZ x * vZ y
  | 6=>vZ x * vZ x
  | 7=>rvI (decide (y < 0)) 1 * vZ x * ((2 ^ K:Nat):Int)
  | _=>vZ x * vZ y * ((2 ^ K:Nat):Int) + vZ z * ((2 ^ K * 2 ^ K:Nat):Int)
def tC (K:Nat) (y:Int):Nat→Nat
  | 0=>2 ^ K
  | 1=>2 ^ K
  | 2=>2 ^ K
  | 7=>2 ^ K * Fq.vV Ieee.double y.natAbs
  | 8=>2 ^ K * 2 ^ K * 2 ^ K
  | _=>2 ^ K * 2 ^ K
def tN:Nat→Nat
  | 0=>1500
  | 1=>1500
  | 2=>1500
  | 8=>15009
  | _=>6003
def tR (K:Nat) (x y z:Int) (j:Nat) (W:World) (s:Bool) (p:Option Addr) (l c:Nat) (q:Option Addr) (k d:Nat):Prop:=∃ b,XP b W s p l c q k d (tV K x y z j) (tC K y j) (tN j)
theorem tR_kp (K:Nat) (x y z:Int) (j:Nat) (W W':World) s p l c q k d (h:tR K x y z j W s p l c q k d) (g:Kp W W'):tR K x y z j W' s p l c q k d:=by
  obtain ⟨b,h⟩:=h
  exact ⟨b,h.kp g⟩
theorem vV_posT (y:Int) (h:y≠0):0 < Fq.vV Ieee.double y.natAbs:=by
  have:=vV_zero y.natAbs
  have:Fq.vV Ieee.double y.natAbs≠0:=fun e=>h (by have:=this.1 e;omega)
  omega
theorem pt3 (K:Nat) (x y z:Int) (hx:FinZ x) (hy:FinZ y):PT K (aLo x x y y) (aHi x x y y) (tV K x y z 3) (tC K y 3):=by
  rw [(ptA x y hx hy).1,(ptA x y hx hy).2]
  refine pt_of K 1 1 _ _ _ (by decide) (Nat.mul_pos (Nat.two_pow_pos K) (Nat.two_pow_pos K)) ?_
  show (vZ x * ((2 ^ K:Nat):Int) + vZ y * ((2 ^ K:Nat):Int)) * ((2 ^ K:Nat):Int) * ((1:Nat):Int) = (vZ x + vZ y) * ((1:Nat):Int) * ((2 ^ K * 2 ^ K:Nat):Int)
  rw [Int.natCast_mul]
  generalize ((2 ^ K:Nat):Int) = Q
  generalize vZ x = X
  generalize vZ y = Y
  grind
theorem pt4 (K:Nat) (x y z:Int) (hx:FinZ x) (hy:FinZ y):PT K (aLo x x (-y) (-y)) (aHi x x (-y) (-y)) (tV K x y z 4) (tC K y 4):=by
  have hn:FinZ (-y):=by unfold FinZ at *;omega
  rw [(ptA x (-y) hx hn).1,(ptA x (-y) hx hn).2,vZ_neg]
  refine pt_of K 1 1 _ _ _ (by decide) (Nat.mul_pos (Nat.two_pow_pos K) (Nat.two_pow_pos K)) ?_
  show (vZ x * ((2 ^ K:Nat):Int) - vZ y * ((2 ^ K:Nat):Int)) * ((2 ^ K:Nat):Int) * ((1:Nat):Int) = (vZ x + -vZ y) * ((1:Nat):Int) * ((2 ^ K * 2 ^ K:Nat):Int)
  rw [Int.natCast_mul]
  generalize ((2 ^ K:Nat):Int) = Q
  generalize vZ x = X
  generalize vZ y = Y
  grind
theorem pt5 (K:Nat) (x y z:Int) (hx:FinZ x) (hy:FinZ y):PT K (mLo K x x y y) (mHi K x x y y) (tV K x y z 5) (tC K y 5):=by
  rw [(ptM K x y hx hy).1,(ptM K x y hx hy).2]
  refine pt_of K 1 (2 ^ K) _ _ _ (Nat.two_pow_pos K) (Nat.mul_pos (Nat.two_pow_pos K) (Nat.two_pow_pos K)) ?_
  show vZ x * vZ y * ((2 ^ K:Nat):Int) * ((2 ^ K:Nat):Int) = vZ x * vZ y * ((1:Nat):Int) * ((2 ^ K * 2 ^ K:Nat):Int)
  rw [Int.natCast_mul]
  generalize ((2 ^ K:Nat):Int) = Q
  generalize vZ x = X
  generalize vZ y = Y
  grind
theorem pt6 (K:Nat) (x y z:Int) (hx:FinZ x):PT K (sLo K x x) (sHi K x x) (tV K x y z 6) (tC K y 6):=by
  rw [(ptS K x hx).1,(ptS K x hx).2]
  refine pt_of K 1 (2 ^ K) _ _ _ (Nat.two_pow_pos K) (Nat.mul_pos (Nat.two_pow_pos K) (Nat.two_pow_pos K)) ?_
  show vZ x * vZ x * ((2 ^ K:Nat):Int) * ((2 ^ K:Nat):Int) = vZ x * vZ x * ((1:Nat):Int) * ((2 ^ K * 2 ^ K:Nat):Int)
  rw [Int.natCast_mul]
  generalize ((2 ^ K:Nat):Int) = Q
  generalize vZ x = X
  grind
theorem pt7 (K:Nat) (x y z:Int) (hx:FinZ x) (hy:FinZ y) (h0:y≠0):PT K (dLo K x x y y) (dHi K x x y y) (tV K x y z 7) (tC K y 7):=by
  rw [(ptD K x y hx hy h0).1,(ptD K x y hx hy h0).2]
  refine pt_of K (2 ^ K) _ _ _ _ (vV_posT y h0) (Nat.mul_pos (Nat.two_pow_pos K) (vV_posT y h0)) ?_
  show rvI (decide (y < 0)) 1 * vZ x * ((2 ^ K:Nat):Int) * ((2 ^ K:Nat):Int) * ((Fq.vV Ieee.double y.natAbs:Nat):Int) = (if y < 0 then -vZ x else vZ x) * ((2 ^ K:Nat):Int) * ((2 ^ K * Fq.vV Ieee.double y.natAbs:Nat):Int)
  rw [Int.natCast_mul]
  have e:rvI (decide (y < 0)) 1 * vZ x = if y < 0 then -vZ x else vZ x:=by
    unfold rvI
    by_cases c:y < 0
    · rw [if_pos c,decide_eq_true c,if_pos rfl];simp
    · rw [if_neg c,decide_eq_false c,if_neg (by decide)];simp
  rw [e]
  generalize ((2 ^ K:Nat):Int) = Q
  generalize (if y < 0 then -vZ x else vZ x) = X
  generalize ((Fq.vV Ieee.double y.natAbs:Nat):Int) = Y
  grind
theorem pt8 (K:Nat) (x y z:Int) (hx:FinZ x) (hy:FinZ y) (hz:FinZ z):PT K (fLo K x x y y z z) (fHi K x x y y z z) (tV K x y z 8) (tC K y 8):=by
  rw [(ptF K x y z hx hy hz).1,(ptF K x y z hx hy hz).2]
  refine pt_of K 1 (2 ^ K) _ _ _ (Nat.two_pow_pos K) (Nat.mul_pos (Nat.mul_pos (Nat.two_pow_pos K) (Nat.two_pow_pos K)) (Nat.two_pow_pos K)) ?_
  show (vZ x * vZ y * ((2 ^ K:Nat):Int) + vZ z * ((2 ^ K * 2 ^ K:Nat):Int)) * ((2 ^ K:Nat):Int) * ((2 ^ K:Nat):Int) = (vZ x * vZ y + vZ z * ((2 ^ K:Nat):Int)) * ((1:Nat):Int) * ((2 ^ K * 2 ^ K * 2 ^ K:Nat):Int)
  simp only [Int.natCast_mul]
  generalize ((2 ^ K:Nat):Int) = Q
  generalize vZ x = X
  generalize vZ y = Y
  generalize vZ z = Z
  grind
theorem TT.grown9 {w w':World} (h:TT w) (g:Kp w w'):TT w':=⟨Tab.grown h.1 g,Fq.Tab.grown h.2 g⟩
theorem fromT_ (K:Nat) (hK:K = 1074) (n:Bool) (m:Nat) (hm:m < 9218868437227405312) (W:World):Calls Tryz.prog 6 #[.int .u64 ((Fq.wD n m:Nat):Int)] W fun e w'=>∃ s p l c q k d,e = .returned (.agg #[.bool s,.slice p l c,.slice q k d])∧(∃ b,XP b w' s p l c q k d (vZ (Fq.plz n m)) (2 ^ K) 1500)∧Kp W w':=by
  refine (fromR_ n m hm W).mono ?_
  rintro e w' ⟨s,p,l,c,q,k,d,rfl,hp,g⟩
  have hx:=hp.xp K hK
  rw [← vZ_plz9] at hx
  exact ⟨s,p,l,c,q,k,d,rfl,⟨_,hx⟩,g⟩
theorem ivtight_ (a b c:Nat) (ha:a < 18446744073709551616) (hb:b < 18446744073709551616) (hc:c < 18446744073709551616) (w:World) (hT:Tab w) (hQ:Fq.Tab w):Calls Tryz.prog 3 #[.int .u64 (a:Int),.int .u64 (b:Int),.int .u64 (c:Int)] w fun e w'=>e = .returned (.bool true)∧Kp w w':=by
  obtain ⟨K,hK⟩:∃ K:Nat,K = 1074:=⟨_,rfl⟩
  have tt:TT w:=⟨hT,hQ⟩
  have haw:=awake6_ w tt
  have pA:=fun w=>point_ a (a:Int) (in9_ a a) w
  have pB:=fun w=>point_ b (b:Int) (in9_ b b) w
  have pC:=fun w=>point_ c (c:Int) (in9_ c c) w
  obtain ⟨n1,m1,l1,rfl⟩:=Fq.exD a ha
  obtain ⟨n2,m2,l2,rfl⟩:=Fq.exD b hb
  obtain ⟨n3,m3,l3,rfl⟩:=Fq.exD c hc
  have fA:=fin_ n1 m1 l1
  have fB:=fin_ n2 m2 l2
  have fC:=fin_ n3 m3 l3
  by_cases c1:m1 < 9218868437227405312
  case neg =>
    rw [decide_eq_false c1] at fA
    exact lawA_ _ _ _ w haw fA
  by_cases c2:m2 < 9218868437227405312
  case neg =>
    rw [decide_eq_true c1] at fA
    rw [decide_eq_false c2] at fB
    exact lawB_ _ _ _ w haw fA fB
  by_cases c3:m3 < 9218868437227405312
  case neg =>
    rw [decide_eq_true c1] at fA
    rw [decide_eq_true c2] at fB
    rw [decide_eq_false c3] at fC
    exact lawC_ _ _ _ w haw fA fB fC
  rw [decide_eq_true c1] at fA
  rw [decide_eq_true c2] at fB
  rw [decide_eq_true c3] at fC
  have rx:=Rd.pt n1 m1 c1
  have ry:=Rd.pt n2 m2 c2
  have rz:=Rd.pt n3 m3 c3
  have xA:=fun W (_:Kp w W)=>fromT_ K hK n1 m1 c1 W
  have xB:=fun W (_:Kp w W)=>fromT_ K hK n2 m2 c2 W
  have xC:=fun W (_:Kp w W)=>fromT_ K hK n3 m3 c3 W
  have hx:FinZ (Fq.plz n1 m1):=by unfold FinZ Fq.plz;split <;> omega
  have hy:FinZ (Fq.plz n2 m2):=by unfold FinZ Fq.plz;split <;> omega
  have hz:FinZ (Fq.plz n3 m3):=by unfold FinZ Fq.plz;split <;> omega
  generalize Fq.plz n1 m1 = x at rx xA hx
  generalize Fq.plz n2 m2 = y at ry xB hy
  generalize Fq.plz n3 m3 = z at rz xC hz
  have iAd:=fun W (g:Kp w W)=>add9_ _ _ _ _ x x y y rx ry W (tt.grown9 g)
  have iSb:=fun W (g:Kp w W)=>sub9_ _ _ _ _ x x y y rx ry W (tt.grown9 g)
  have iMu:=fun W (g:Kp w W)=>mul9_ K hK _ _ _ _ x x y y rx ry W (tt.grown9 g)
  have iSq:=fun W (g:Kp w W)=>sqr9_ K hK _ _ x x rx W (tt.grown9 g)
  have iFm:=fun W (g:Kp w W)=>fma9_ K hK _ _ _ _ _ _ x x y y z z rx ry rz W (tt.grown9 g)
  have oRa:∀ (W:World) s1 p1 l1 c1 q1 k1 d1 s2 p2 l2 c2 q2 k2 d2,Kp w W→tR K x y z 0 W s1 p1 l1 c1 q1 k1 d1→tR K x y z 1 W s2 p2 l2 c2 q2 k2 d2→Calls Tryz.prog 10 #[.agg #[.bool s1,.slice p1 l1 c1,.slice q1 k1 d1],.agg #[.bool s2,.slice p2 l2 c2,.slice q2 k2 d2]] W fun e w'=>(∃ s9 p9 l9 c9 q9 k9 d9,e = .returned (.agg #[.bool s9,.slice p9 l9 c9,.slice q9 k9 d9])∧tR K x y z 3 w' s9 p9 l9 c9 q9 k9 d9∧Kp W w'):=by
    rintro W s1 p1 l1 c1 q1 k1 d1 s2 p2 l2 c2 q2 k2 d2 g ⟨b1,h1⟩ ⟨b2,h2⟩
    refine (xadd_ (vZ x) (vZ y) (2 ^ K) (2 ^ K) 1500 1500 (by omega) s1 p1 l1 c1 q1 k1 d1 s2 p2 l2 c2 q2 k2 d2 b1 b2 W h1 h2).mono ?_
    rintro e w' ⟨s3,p3,l3,c3,q3,k3,d3,rfl,hp,g⟩
    exact ⟨s3,p3,l3,c3,q3,k3,d3,rfl,⟨_,hp⟩,g⟩
  have oRs:∀ (W:World) s1 p1 l1 c1 q1 k1 d1 s2 p2 l2 c2 q2 k2 d2,Kp w W→tR K x y z 0 W s1 p1 l1 c1 q1 k1 d1→tR K x y z 1 W s2 p2 l2 c2 q2 k2 d2→Calls Tryz.prog 12 #[.agg #[.bool s1,.slice p1 l1 c1,.slice q1 k1 d1],.agg #[.bool s2,.slice p2 l2 c2,.slice q2 k2 d2]] W fun e w'=>(∃ s9 p9 l9 c9 q9 k9 d9,e = .returned (.agg #[.bool s9,.slice p9 l9 c9,.slice q9 k9 d9])∧tR K x y z 4 w' s9 p9 l9 c9 q9 k9 d9∧Kp W w'):=by
    rintro W s1 p1 l1 c1 q1 k1 d1 s2 p2 l2 c2 q2 k2 d2 g ⟨b1,h1⟩ ⟨b2,h2⟩
    refine (xsub_ (vZ x) (vZ y) (2 ^ K) (2 ^ K) 1500 1500 (by omega) s1 p1 l1 c1 q1 k1 d1 s2 p2 l2 c2 q2 k2 d2 b1 b2 W h1 h2).mono ?_
    rintro e w' ⟨s3,p3,l3,c3,q3,k3,d3,rfl,hp,g⟩
    exact ⟨s3,p3,l3,c3,q3,k3,d3,rfl,⟨_,hp⟩,g⟩
  have oRm:∀ (W:World) s1 p1 l1 c1 q1 k1 d1 s2 p2 l2 c2 q2 k2 d2,Kp w W→tR K x y z 0 W s1 p1 l1 c1 q1 k1 d1→tR K x y z 1 W s2 p2 l2 c2 q2 k2 d2→Calls Tryz.prog 14 #[.agg #[.bool s1,.slice p1 l1 c1,.slice q1 k1 d1],.agg #[.bool s2,.slice p2 l2 c2,.slice q2 k2 d2]] W fun e w'=>(∃ s9 p9 l9 c9 q9 k9 d9,e = .returned (.agg #[.bool s9,.slice p9 l9 c9,.slice q9 k9 d9])∧tR K x y z 5 w' s9 p9 l9 c9 q9 k9 d9∧Kp W w'):=by
    rintro W s1 p1 l1 c1 q1 k1 d1 s2 p2 l2 c2 q2 k2 d2 g ⟨b1,h1⟩ ⟨b2,h2⟩
    refine (xmul_ (vZ x) (vZ y) (2 ^ K) (2 ^ K) 1500 1500 (by omega) s1 p1 l1 c1 q1 k1 d1 s2 p2 l2 c2 q2 k2 d2 b1 b2 W h1 h2).mono ?_
    rintro e w' ⟨s3,p3,l3,c3,q3,k3,d3,rfl,hp,g⟩
    exact ⟨s3,p3,l3,c3,q3,k3,d3,rfl,⟨_,hp⟩,g⟩
  have oRr:∀ (W:World) s1 p1 l1 c1 q1 k1 d1 s2 p2 l2 c2 q2 k2 d2,Kp w W→tR K x y z 0 W s1 p1 l1 c1 q1 k1 d1→tR K x y z 0 W s2 p2 l2 c2 q2 k2 d2→Calls Tryz.prog 14 #[.agg #[.bool s1,.slice p1 l1 c1,.slice q1 k1 d1],.agg #[.bool s2,.slice p2 l2 c2,.slice q2 k2 d2]] W fun e w'=>(∃ s9 p9 l9 c9 q9 k9 d9,e = .returned (.agg #[.bool s9,.slice p9 l9 c9,.slice q9 k9 d9])∧tR K x y z 6 w' s9 p9 l9 c9 q9 k9 d9∧Kp W w'):=by
    rintro W s1 p1 l1 c1 q1 k1 d1 s2 p2 l2 c2 q2 k2 d2 g ⟨b1,h1⟩ ⟨b2,h2⟩
    refine (xmul_ (vZ x) (vZ x) (2 ^ K) (2 ^ K) 1500 1500 (by omega) s1 p1 l1 c1 q1 k1 d1 s2 p2 l2 c2 q2 k2 d2 b1 b2 W h1 h2).mono ?_
    rintro e w' ⟨s3,p3,l3,c3,q3,k3,d3,rfl,hp,g⟩
    exact ⟨s3,p3,l3,c3,q3,k3,d3,rfl,⟨_,hp⟩,g⟩
  have oRf:∀ (W:World) s1 p1 l1 c1 q1 k1 d1 s2 p2 l2 c2 q2 k2 d2,Kp w W→tR K x y z 5 W s1 p1 l1 c1 q1 k1 d1→tR K x y z 2 W s2 p2 l2 c2 q2 k2 d2→Calls Tryz.prog 10 #[.agg #[.bool s1,.slice p1 l1 c1,.slice q1 k1 d1],.agg #[.bool s2,.slice p2 l2 c2,.slice q2 k2 d2]] W fun e w'=>(∃ s9 p9 l9 c9 q9 k9 d9,e = .returned (.agg #[.bool s9,.slice p9 l9 c9,.slice q9 k9 d9])∧tR K x y z 8 w' s9 p9 l9 c9 q9 k9 d9∧Kp W w'):=by
    rintro W s1 p1 l1 c1 q1 k1 d1 s2 p2 l2 c2 q2 k2 d2 g ⟨b1,h1⟩ ⟨b2,h2⟩
    refine (xadd_ (vZ x * vZ y) (vZ z) (2 ^ K * 2 ^ K) (2 ^ K) 6003 1500 (by omega) s1 p1 l1 c1 q1 k1 d1 s2 p2 l2 c2 q2 k2 d2 b1 b2 W h1 h2).mono ?_
    rintro e w' ⟨s3,p3,l3,c3,q3,k3,d3,rfl,hp,g⟩
    exact ⟨s3,p3,l3,c3,q3,k3,d3,rfl,⟨_,hp⟩,g⟩
  have t3:∀ (W:World) s1 p1 l1 c1 q1 k1 d1,Kp w W→tR K x y z 3 W s1 p1 l1 c1 q1 k1 d1→Calls Tryz.prog 7 #[.agg #[.float .f64 (pw (aLo x x y y)),.float .f64 (pw (aHi x x y y))],.agg #[.bool s1,.slice p1 l1 c1,.slice q1 k1 d1]] W fun e w'=>e = .returned (.bool true)∧Kp W w':=by
    rintro W s1 p1 l1 c1 q1 k1 d1 g ⟨b1,h1⟩
    exact tightZ_ K hK _ _ _ _ _ (by decide) s1 p1 l1 c1 q1 k1 d1 b1 W h1 (pt3 K x y z hx hy)
  have t4:∀ (W:World) s1 p1 l1 c1 q1 k1 d1,Kp w W→tR K x y z 4 W s1 p1 l1 c1 q1 k1 d1→Calls Tryz.prog 7 #[.agg #[.float .f64 (pw (aLo x x (-y) (-y))),.float .f64 (pw (aHi x x (-y) (-y)))],.agg #[.bool s1,.slice p1 l1 c1,.slice q1 k1 d1]] W fun e w'=>e = .returned (.bool true)∧Kp W w':=by
    rintro W s1 p1 l1 c1 q1 k1 d1 g ⟨b1,h1⟩
    exact tightZ_ K hK _ _ _ _ _ (by decide) s1 p1 l1 c1 q1 k1 d1 b1 W h1 (pt4 K x y z hx hy)
  have t5:∀ (W:World) s1 p1 l1 c1 q1 k1 d1,Kp w W→tR K x y z 5 W s1 p1 l1 c1 q1 k1 d1→Calls Tryz.prog 7 #[.agg #[.float .f64 (pw (mLo K x x y y)),.float .f64 (pw (mHi K x x y y))],.agg #[.bool s1,.slice p1 l1 c1,.slice q1 k1 d1]] W fun e w'=>e = .returned (.bool true)∧Kp W w':=by
    rintro W s1 p1 l1 c1 q1 k1 d1 g ⟨b1,h1⟩
    exact tightZ_ K hK _ _ _ _ _ (by decide) s1 p1 l1 c1 q1 k1 d1 b1 W h1 (pt5 K x y z hx hy)
  have t6:∀ (W:World) s1 p1 l1 c1 q1 k1 d1,Kp w W→tR K x y z 6 W s1 p1 l1 c1 q1 k1 d1→Calls Tryz.prog 7 #[.agg #[.float .f64 (pw (sLo K x x)),.float .f64 (pw (sHi K x x))],.agg #[.bool s1,.slice p1 l1 c1,.slice q1 k1 d1]] W fun e w'=>e = .returned (.bool true)∧Kp W w':=by
    rintro W s1 p1 l1 c1 q1 k1 d1 g ⟨b1,h1⟩
    exact tightZ_ K hK _ _ _ _ _ (by decide) s1 p1 l1 c1 q1 k1 d1 b1 W h1 (pt6 K x y z hx)
  have t8:∀ (W:World) s1 p1 l1 c1 q1 k1 d1,Kp w W→tR K x y z 8 W s1 p1 l1 c1 q1 k1 d1→Calls Tryz.prog 7 #[.agg #[.float .f64 (pw (fLo K x x y y z z)),.float .f64 (pw (fHi K x x y y z z))],.agg #[.bool s1,.slice p1 l1 c1,.slice q1 k1 d1]] W fun e w'=>e = .returned (.bool true)∧Kp W w':=by
    rintro W s1 p1 l1 c1 q1 k1 d1 g ⟨b1,h1⟩
    exact tightZ_ K hK _ _ _ _ _ (by decide) s1 p1 l1 c1 q1 k1 d1 b1 W h1 (pt8 K x y z hx hy hz)
  have hsg:∀ (W:World) s2 p2 l2 c2 q2 k2 d2,Kp w W→tR K x y z 1 W s2 p2 l2 c2 q2 k2 d2→Calls Tryz.prog 16 #[.agg #[.bool s2,.slice p2 l2 c2,.slice q2 k2 d2]] W fun e w'=>e = .returned (.int .i64 (cmI (vZ y) 0))∧Kp W w':=by
    rintro W s2 p2 l2 c2 q2 k2 d2 g ⟨b2,h2⟩
    exact xsign_ s2 p2 l2 c2 q2 k2 d2 (vZ y) (2 ^ K) 1500 (by omega) b2 W h2
  by_cases hy0:y = 0
  · refine lawZ_ _ _ _ _ _ _ _ _ _ _ _ _ _ _ _ _ (tR K x y z) (fun j W W' s p l c q k d h g=>tR_kp K x y z j W W' s p l c q k d h g) w haw fA fB fC pA pB pC iAd iSb iMu iSq iFm xA xB xC oRa oRs oRm oRr oRf t3 t4 t5 t6 t8 _ hsg ?_
    rw [hy0,vZ_zero];decide
  · have iDv:=fun W (g:Kp w W)=>divT9_ K hK _ _ _ _ x x y y rx ry (by unfold FinZ at hx;omega) (by unfold FinZ at hy;omega) (by omega) W (tt.grown9 g)
    have hv:=vV_posT y hy0
    have ey:vZ y = rvI (decide (y < 0)) (Fq.vV Ieee.double y.natAbs):=rfl
    have oRq:∀ (W:World) s1 p1 l1 c1 q1 k1 d1 s2 p2 l2 c2 q2 k2 d2,Kp w W→tR K x y z 0 W s1 p1 l1 c1 q1 k1 d1→tR K x y z 1 W s2 p2 l2 c2 q2 k2 d2→Calls Tryz.prog 18 #[.agg #[.bool s1,.slice p1 l1 c1,.slice q1 k1 d1],.agg #[.bool s2,.slice p2 l2 c2,.slice q2 k2 d2]] W fun e w'=>(∃ s9 p9 l9 c9 q9 k9 d9,e = .returned (.agg #[.bool s9,.slice p9 l9 c9,.slice q9 k9 d9])∧tR K x y z 7 w' s9 p9 l9 c9 q9 k9 d9∧Kp W w'):=by
      rintro W s1 p1 l1 c1 q1 k1 d1 s2 p2 l2 c2 q2 k2 d2 g ⟨b1,h1⟩ ⟨b2,h2⟩
      refine (xquo_ (vZ x) (Fq.vV Ieee.double y.natAbs) (decide (y < 0)) (by omega) (2 ^ K) (2 ^ K) 1500 1500 (by omega) s1 p1 l1 c1 q1 k1 d1 s2 p2 l2 c2 q2 k2 d2 b1 b2 W h1 h2).mono ?_
      rintro e w' ⟨s3,p3,l3,c3,q3,k3,d3,rfl,hp,g⟩
      exact ⟨s3,p3,l3,c3,q3,k3,d3,rfl,⟨_,hp⟩,g⟩
    have t7:∀ (W:World) s1 p1 l1 c1 q1 k1 d1,Kp w W→tR K x y z 7 W s1 p1 l1 c1 q1 k1 d1→Calls Tryz.prog 7 #[.agg #[.float .f64 (pw (dLo K x x y y)),.float .f64 (pw (dHi K x x y y))],.agg #[.bool s1,.slice p1 l1 c1,.slice q1 k1 d1]] W fun e w'=>e = .returned (.bool true)∧Kp W w':=by
      rintro W s1 p1 l1 c1 q1 k1 d1 g ⟨b1,h1⟩
      exact tightZ_ K hK _ _ _ _ _ (by decide) s1 p1 l1 c1 q1 k1 d1 b1 W h1 (pt7 K x y z hx hy hy0)
    refine lawY_ _ _ _ _ _ _ _ _ _ _ _ _ _ _ _ _ _ _ (tR K x y z) (fun j W W' s p l c q k d h g=>tR_kp K x y z j W W' s p l c q k d h g) w haw fA fB fC pA pB pC iAd iSb iMu iSq iFm iDv xA xB xC oRa oRs oRm oRr oRf oRq t3 t4 t5 t6 t8 t7 _ hsg ?_
    have hne:vZ y≠0:=fun e=>hy0 (vZ_inj y 0 (by rw [e,vZ_zero]))
    unfold cmI
    by_cases c:vZ y < 0
    · rw [if_pos c];decide
    · rw [if_neg c,if_pos (by omega)];decide
end Go.Proofs.YtaidnpjgkkdloaaGreatDoor
