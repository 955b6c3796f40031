import Derived.Test.YtnileplkkmhdgaaGreatDoorKH2DQ
import Derived.Test.YtnileplkkmhdgaaGreatDoorKND
set_option maxHeartbeats 1000000
set_option maxRecDepth 20000
namespace Go.Proofs.YtnileplkkmhdgaaGreatDoor
open Go.RowKit
theorem plusEq_ (s t:Bool) (a b:Nat) (ea eb low:Int) (pa pb:Option Addr) (ca cb:Nat) (w:World) (ha:Arr w pa (dig a)) (hca:(dig a).length≤ca) (hb:Arr w pb (dig b)) (hcb:(dig b).length≤cb) (la:a < 9007199254740992) (lb:b < 9007199254740992) (ea1:-1074≤ea) (ea2:ea≤2048) (eb1:-1074≤eb) (eb2:eb≤2048) (hlow:low = min ea eb) (A' B':Nat) (hA:A' = a * 2 ^ (ea - low).toNat) (hB':B' = b * 2 ^ (eb - low).toNat) (hst:s = t) :
    Calls Tryz.prog 68 #[.agg #[.bool s,.slice pa (dig a).length ca,.int .i64 ea],.agg #[.bool t,.slice pb (dig b).length cb,.int .i64 eb]] w fun e w'=>∃ v,e = .returned (.agg #[.bool s,v,.int .i64 low])∧Ls w' v (dig (A' + B'))∧Kp w w':=by
  obtain ⟨La,hLa⟩:∃ La,La = (dig a).length:=⟨_,rfl⟩
  obtain ⟨Lb,hLb⟩:∃ Lb,Lb = (dig b).length:=⟨_,rfl⟩
  rw [← hLa,← hLb]
  obtain ⟨B,hB⟩:∃ B,B = w.heap.size:=⟨_,rfl⟩
  obtain ⟨w0,hw0⟩:∃ w0,w0 = ((w.alloc (.cells #[.bool s,.slice pa La ca,.int .i64 ea] 88)).alloc (.cells #[.bool t,.slice pb Lb cb,.int .i64 eb] 88)).alloc (.cells #[.bool false,.slice none 0 0,.int .i64 0] 88):=⟨_,rfl⟩
  have hk0:Kp w w0:=by rw [hw0];exact (((Kp.refl w).alloc _).alloc _).alloc _
  have x0:w0.cell? ⟨B,0,none⟩ = some (.bool s):=by rw [hw0,hB];simp [go_sem]
  have x1:w0.cell? ⟨B,1,none⟩ = some (.slice pa La ca):=by rw [hw0,hB];simp [go_sem]
  have x2:w0.cell? ⟨B,2,none⟩ = some (.int .i64 ea):=by rw [hw0,hB];simp [go_sem]
  have y0:w0.cell? ⟨B + 1,0,none⟩ = some (.bool t):=by rw [hw0,hB];simp [go_sem]
  have y1:w0.cell? ⟨B + 1,1,none⟩ = some (.slice pb Lb cb):=by rw [hw0,hB];simp [go_sem]
  have y2:w0.cell? ⟨B + 1,2,none⟩ = some (.int .i64 eb):=by rw [hw0,hB];simp [go_sem]
  have z0:w0.cell? ⟨B + 2,0,none⟩ = some (.bool false):=by rw [hw0,hB];simp [go_sem]
  have z1:w0.cell? ⟨B + 2,1,none⟩ = some (.slice none 0 0):=by rw [hw0,hB];simp [go_sem]
  have z2:w0.cell? ⟨B + 2,2,none⟩ = some (.int .i64 0):=by rw [hw0,hB];simp [go_sem]
  have f0:w0.frozen? ⟨B + 2,0,none⟩ = false:=by rw [hw0,hB];simp [go_sem]
  have f1:w0.frozen? ⟨B + 2,1,none⟩ = false:=by rw [hw0,hB];simp [go_sem]
  have f2:w0.frozen? ⟨B + 2,2,none⟩ = false:=by rw [hw0,hB];simp [go_sem]
  have i0:w0.frozen? ⟨B,0,none⟩ = false:=by rw [hw0,hB];simp [go_sem]
  have i1:w0.frozen? ⟨B,1,none⟩ = false:=by rw [hw0,hB];simp [go_sem]
  have i2:w0.frozen? ⟨B,2,none⟩ = false:=by rw [hw0,hB];simp [go_sem]
  have hlt:=cell_lt z0
  have hlt1:B < w0.heap.size:=cell_lt x0
  -- lengths
  obtain ⟨X4,hX4⟩:∃ X4:Nat,X4 = 4096:=⟨_,rfl⟩
  have bA:blen A'≤X4:=by
    rw [hA,blen_le_iff]
    have h1:2 ^ 53 * 2 ^ (ea - low).toNat≤2 ^ X4:=by rw [← Nat.pow_add];exact Nat.pow_le_pow_right (by omega) (by omega)
    have h2:a * 2 ^ (ea - low).toNat < 2 ^ 53 * 2 ^ (ea - low).toNat:=Nat.mul_lt_mul_of_pos_right (by rw [show (2:Nat) ^ 53 = 9007199254740992 from by decide];exact la) (Nat.two_pow_pos _)
    exact Nat.lt_of_lt_of_le h2 h1
  have bB:blen B'≤X4:=by
    rw [hB',blen_le_iff]
    have h1:2 ^ 53 * 2 ^ (eb - low).toNat≤2 ^ X4:=by rw [← Nat.pow_add];exact Nat.pow_le_pow_right (by omega) (by omega)
    have h2:b * 2 ^ (eb - low).toNat < 2 ^ 53 * 2 ^ (eb - low).toNat:=Nat.mul_lt_mul_of_pos_right (by rw [show (2:Nat) ^ 53 = 9007199254740992 from by decide];exact lb) (Nat.two_pow_pos _)
    exact Nat.lt_of_lt_of_le h2 h1
  have lAB:len32 (A' + B')≤16000:=dlen (A' + B') 16000 (by
    have h1:=(blen_le_iff A' X4).1 bA
    have h2:=(blen_le_iff B' X4).1 bB
    have h3:blen (A' + B')≤X4 + 1:=by rw [blen_le_iff,Nat.pow_succ];omega
    omega)
  have lA:len32 A'≤16000:=dlen A' 16000 (by omega)
  have lB:len32 B'≤16000:=dlen B' 16000 (by omega)
  have ba:blen a≤53:=by rw [blen_le_iff,show (2:Nat) ^ 53 = 9007199254740992 from by decide];exact la
  have bb:blen b≤53:=by rw [blen_le_iff,show (2:Nat) ^ 53 = 9007199254740992 from by decide];exact lb
  have la3:len32 a≤2:=dlen a 2 (by omega)
  have lb3:len32 b≤2:=dlen b 2 (by omega)
  have shl_:∀ (u:Nat) (e:Int) (U:Nat) (pu:Option Addr) (cu Lu:Nat) (w1:World),Arr w1 pu (dig u)→(dig u).length≤cu→Lu = (dig u).length→blen u≤53→len32 u≤2→0≤e→e≤4000→U = u * 2 ^ e.toNat→Calls Tryz.prog 94 #[.slice pu Lu cu,.int .i64 e] w1 fun r w'=>∃ p c,r = .returned (.tuple #[.slice p (dig U).length c,.int .i64 0])∧Arr w' p (dig U)∧(dig U).length≤c∧(∀ g o,p = some ⟨g,o,none⟩→w1.heap.size≤g)∧Kp w1 w':=fun u e U pu cu Lu w1 au lu hl b1 b2 e1 e2 hU=>by
    subst hl
    have g:=nshl_ pu cu (dig u) w1 e au (Wd_dig u) (by change len32 u≤_;omega) lu
    rw [val_dig] at g
    have hs:shlN u e = (dig U,0):=by
      unfold shlN
      rw [if_neg (by omega),if_neg (by omega)]
      by_cases c0:u = 0
      · rw [if_pos c0,hU,c0,Nat.zero_mul,dig_zero]
      · rw [if_neg c0,if_neg (by omega),hU]
    rw [hs] at g
    refine g.mono ?_
    rintro r w' ⟨v,h1,h2,h3⟩
    obtain ⟨p,c,rfl,h4,h5⟩:=h2.arr
    refine ⟨p,c,h1,h4,h5,fun g o hg=>?_,h3⟩
    rcases h2.2 with ⟨h',_⟩ | ⟨g',cap,cur,h6,h7,_⟩
    · rw [hg] at h';cases h'
    · rw [hg] at h6;cases h6;exact h7
  have q1:=shl_ a (ea - low) A' pa ca La w0 (ha.grown hk0) hca hLa ba la3 (by omega) (by omega) hA
  have q2:=fun w1 (k:Kp w0 w1)=>shl_ b (eb - low) B' pb cb Lb w1 (hb.grown (hk0.trans k)) hcb hLb bb lb3 (by omega) (by omega) hB'
  have g2:∀ w:World,(Builtin.min_ #[3,3] 3 #[.int .i64 ea,.int .i64 eb]).run Tryz.prog w = .ok (.int .i64 low) w:=fun w=>by
    rw [run_min_int2]
    congr 2
    split <;> omega
  have w1e:wrap64 (ea - low) = ea - low:=w64x _ (by omega) (by omega)
  have w2e:wrap64 (eb - low) = eb - low:=w64x _ (by omega) (by omega)
  have HW:Hid (w0 = ((w.alloc (.cells #[.bool s,.slice pa La ca,.int .i64 ea] 88)).alloc (.cells #[.bool t,.slice pb Lb cb,.int .i64 eb] 88)).alloc (.cells #[.bool false,.slice none 0 0,.int .i64 0] 88)∧B = w.heap.size∧Kp w w0∧len32 A'≤16000∧len32 B'≤16000∧len32 (A' + B')≤16000):=⟨hw0,hB,hk0,lA,lB,lAB⟩
  have hel:-1074≤low∧low≤2048∧ea - low≤4000∧eb - low≤4000∧0≤ea - low∧0≤eb - low:=by omega
  have HE:Hid (-1074≤low∧low≤2048∧ea - low≤4000∧eb - low≤4000∧0≤ea - low∧0≤eb - low):=hel
  clear hX4 hel shl_ ha hca hb hcb la lb hA hB' hLa hLb hw0 hB hk0 bA bB lA lB lAB ba bb la3 lb3 hlow
  subst hst
  go_enter Tryz.func68,Tryz.ntmps68
  go_wp2_with fail
  rw [← HW.out.2.1]
  try rw [← HW.out.1]
  refine q1.mono ?_;rintro e w1 ⟨p1,c1,rfl,a1,l1,n1,k1⟩
  obtain ⟨L1,hL1⟩:∃ L1,L1 = (dig A').length:=⟨_,rfl⟩
  rw [← hL1]
  have HL1:Hid (L1 = (dig A').length):=hL1
  clear hL1
  replace y0:=kkeep k1 y0
  replace y1:=kkeep k1 y1
  replace y2:=kkeep k1 y2
  replace x0:=kkeep k1 x0
  replace x1:=kkeep k1 x1
  replace x2:=kkeep k1 x2
  have q3:=q2 w1 k1
  clear q1 q2
  go_wp2_with fail
  refine q3.mono ?_;rintro e w2 ⟨p2,c2,rfl,a2,l2,n2,k2⟩
  obtain ⟨L2,hL2⟩:∃ L2,L2 = (dig B').length:=⟨_,rfl⟩
  rw [← hL2]
  have k02:=k1.trans k2
  replace y0:=kkeep k2 y0
  replace y1:=kkeep k2 y1
  replace y2:=kkeep k2 y2
  replace x0:=kkeep k2 x0
  replace x1:=kkeep k2 x1
  replace x2:=kkeep k2 x2
  have HA2:Hid (Arr w2 p1 (dig A')∧L1 = (dig A').length∧L1≤c1∧Arr w2 p2 (dig B')∧L2 = (dig B').length∧L2≤c2∧Kp w0 w2∧(∀ g o,p1 = some ⟨g,o,none⟩→g≠B)∧(∀ g o,p2 = some ⟨g,o,none⟩→g≠B)):=⟨a1.grown k2,HL1.out,by rw [HL1.out];exact l1,a2,hL2,by rw [hL2];exact l2,k02,fun g o h=>by have:=n1 g o h;omega,fun g o h=>by have:=n2 g o h;have:=Below.size k1;omega⟩
  clear q3 a1 l1 a2 l2 k1 k2 k02 HL1 hL2 n1 n2
  have q4:Calls Tryz.prog 95 #[.slice p1 L1 c1,.slice p2 L2 c2] w2 fun e w'=>∃ v,e = .returned (.tuple #[v,.int .i64 0])∧Own w' w2.heap.size v (dig (A' + B'))∧Kp w2 w':=by
    obtain ⟨h1,h2,h3,h4,h5,h6,-,-,-⟩:=HA2.out
    obtain ⟨-,-,-,b1,b2,b3⟩:=HW.out
    have g:=nadd_ p1 p2 c1 c2 (dig A') (dig B') w2 h1 h4 (Wd_dig _) (Wd_dig _) (by change len32 _ < _;omega) (by change len32 _ < _;omega) (by rw [← h2];exact h3) (by rw [← h5];exact h6)
    rw [val_dig,val_dig] at g
    have hs:addN A' B' = (dig (A' + B'),0):=by
      unfold addN
      rw [if_neg (by omega),if_neg (by omega)]
    rw [hs,← h2,← h5] at g
    exact g
  go_wp2_with fail
  refine q4.mono ?_;rintro e w3 ⟨v,rfl,ho,k3⟩
  have KK:Kp w0 w2:=HA2.out.2.2.2.2.2.2.1
  replace x0:=kkeep k3 x0
  clear q4 x1 x2 y0 y1 y2 HA2
  have hls:=ho.ls
  obtain ⟨pv,cv,rfl,hav,hcv⟩:=ho.arr
  have k03:=KK.trans k3
  replace z0:=kkeep k03 z0
  replace z1:=kkeep k03 z1
  replace z2:=kkeep k03 z2
  replace f0:=(kfro k03 hlt).trans f0
  replace f1:=(kfro k03 hlt).trans f1
  replace f2:=(kfro k03 hlt).trans f2
  obtain ⟨LV,hLV⟩:∃ LV,LV = (dig (A' + B')).length:=⟨_,rfl⟩
  rw [← hLV]
  have HO:Hid (Own w3 w2.heap.size (.slice pv (dig (A' + B')).length cv) (dig (A' + B'))∧LV = (dig (A' + B')).length∧Kp w0 w3∧B + 2 < w2.heap.size):=⟨ho,hLV,k03,by have:=Below.size KK;omega⟩
  clear ho hls hav hcv k3 k03 hLV KK
  go_wp2
  obtain ⟨ho,hL,k03,hBl⟩:=HO.out
  have kb:Kb (B + 2) w3 (((w3.setCell ⟨B + 2,0,none⟩ (.bool s)).setCell ⟨B + 2,1,none⟩ (.slice pv LV cv)).setCell ⟨B + 2,2,none⟩ (.int .i64 low)):=(((Kb.refl (B + 2) w3).setCell 0 _).setCell 1 _).setCell 2 _
  have ho2:=ho.kb kb (fun g hg=>by have:=ho.lt g hg;omega)
  have hls:=ho2.ls
  rw [← hL] at hls
  have hkw:Kp w (((w3.setCell ⟨B + 2,0,none⟩ (.bool s)).setCell ⟨B + 2,1,none⟩ (.slice pv LV cv)).setCell ⟨B + 2,2,none⟩ (.int .i64 low)):=kb.kp (HW.out.2.2.1.trans k03) (by rw [HW.out.2.1];omega)
  exact bodyPost_ret (v:=.agg #[.bool s,.slice pv LV cv,.int .i64 low]) (by simp [results,Tryz.results68,go_sem,z0,z1,z2]) rfl ⟨_,rfl,hls,hkw⟩
theorem plusGe_ (s t:Bool) (a b:Nat) (ea eb low:Int) (pa pb:Option Addr) (ca cb:Nat) (w:World) (ha:Arr w pa (dig a)) (hca:(dig a).length≤ca) (hb:Arr w pb (dig b)) (hcb:(dig b).length≤cb) (la:a < 9007199254740992) (lb:b < 9007199254740992) (ea1:-1074≤ea) (ea2:ea≤2048) (eb1:-1074≤eb) (eb2:eb≤2048) (hlow:low = min ea eb) (A' B':Nat) (hA:A' = a * 2 ^ (ea - low).toNat) (hB':B' = b * 2 ^ (eb - low).toNat) (hst:s≠t) (hge:B'≤A') :
    Calls Tryz.prog 68 #[.agg #[.bool s,.slice pa (dig a).length ca,.int .i64 ea],.agg #[.bool t,.slice pb (dig b).length cb,.int .i64 eb]] w fun e w'=>∃ v,e = .returned (.agg #[.bool s,v,.int .i64 low])∧Ls w' v (dig (A' - B'))∧Kp w w':=by
  obtain ⟨La,hLa⟩:∃ La,La = (dig a).length:=⟨_,rfl⟩
  obtain ⟨Lb,hLb⟩:∃ Lb,Lb = (dig b).length:=⟨_,rfl⟩
  rw [← hLa,← hLb]
  obtain ⟨B,hB⟩:∃ B,B = w.heap.size:=⟨_,rfl⟩
  obtain ⟨w0,hw0⟩:∃ w0,w0 = ((w.alloc (.cells #[.bool s,.slice pa La ca,.int .i64 ea] 88)).alloc (.cells #[.bool t,.slice pb Lb cb,.int .i64 eb] 88)).alloc (.cells #[.bool false,.slice none 0 0,.int .i64 0] 88):=⟨_,rfl⟩
  have hk0:Kp w w0:=by rw [hw0];exact (((Kp.refl w).alloc _).alloc _).alloc _
  have x0:w0.cell? ⟨B,0,none⟩ = some (.bool s):=by rw [hw0,hB];simp [go_sem]
  have x1:w0.cell? ⟨B,1,none⟩ = some (.slice pa La ca):=by rw [hw0,hB];simp [go_sem]
  have x2:w0.cell? ⟨B,2,none⟩ = some (.int .i64 ea):=by rw [hw0,hB];simp [go_sem]
  have y0:w0.cell? ⟨B + 1,0,none⟩ = some (.bool t):=by rw [hw0,hB];simp [go_sem]
  have y1:w0.cell? ⟨B + 1,1,none⟩ = some (.slice pb Lb cb):=by rw [hw0,hB];simp [go_sem]
  have y2:w0.cell? ⟨B + 1,2,none⟩ = some (.int .i64 eb):=by rw [hw0,hB];simp [go_sem]
  have z0:w0.cell? ⟨B + 2,0,none⟩ = some (.bool false):=by rw [hw0,hB];simp [go_sem]
  have z1:w0.cell? ⟨B + 2,1,none⟩ = some (.slice none 0 0):=by rw [hw0,hB];simp [go_sem]
  have z2:w0.cell? ⟨B + 2,2,none⟩ = some (.int .i64 0):=by rw [hw0,hB];simp [go_sem]
  have f0:w0.frozen? ⟨B + 2,0,none⟩ = false:=by rw [hw0,hB];simp [go_sem]
  have f1:w0.frozen? ⟨B + 2,1,none⟩ = false:=by rw [hw0,hB];simp [go_sem]
  have f2:w0.frozen? ⟨B + 2,2,none⟩ = false:=by rw [hw0,hB];simp [go_sem]
  have i0:w0.frozen? ⟨B,0,none⟩ = false:=by rw [hw0,hB];simp [go_sem]
  have i1:w0.frozen? ⟨B,1,none⟩ = false:=by rw [hw0,hB];simp [go_sem]
  have i2:w0.frozen? ⟨B,2,none⟩ = false:=by rw [hw0,hB];simp [go_sem]
  have hlt:=cell_lt z0
  have hlt1:B < w0.heap.size:=cell_lt x0
  -- lengths
  obtain ⟨X4,hX4⟩:∃ X4:Nat,X4 = 4096:=⟨_,rfl⟩
  have bA:blen A'≤X4:=by
    rw [hA,blen_le_iff]
    have h1:2 ^ 53 * 2 ^ (ea - low).toNat≤2 ^ X4:=by rw [← Nat.pow_add];exact Nat.pow_le_pow_right (by omega) (by omega)
    have h2:a * 2 ^ (ea - low).toNat < 2 ^ 53 * 2 ^ (ea - low).toNat:=Nat.mul_lt_mul_of_pos_right (by rw [show (2:Nat) ^ 53 = 9007199254740992 from by decide];exact la) (Nat.two_pow_pos _)
    exact Nat.lt_of_lt_of_le h2 h1
  have bB:blen B'≤X4:=by
    rw [hB',blen_le_iff]
    have h1:2 ^ 53 * 2 ^ (eb - low).toNat≤2 ^ X4:=by rw [← Nat.pow_add];exact Nat.pow_le_pow_right (by omega) (by omega)
    have h2:b * 2 ^ (eb - low).toNat < 2 ^ 53 * 2 ^ (eb - low).toNat:=Nat.mul_lt_mul_of_pos_right (by rw [show (2:Nat) ^ 53 = 9007199254740992 from by decide];exact lb) (Nat.two_pow_pos _)
    exact Nat.lt_of_lt_of_le h2 h1
  have lAB:len32 (A' + B')≤16000:=dlen (A' + B') 16000 (by
    have h1:=(blen_le_iff A' X4).1 bA
    have h2:=(blen_le_iff B' X4).1 bB
    have h3:blen (A' + B')≤X4 + 1:=by rw [blen_le_iff,Nat.pow_succ];omega
    omega)
  have lA:len32 A'≤16000:=dlen A' 16000 (by omega)
  have lB:len32 B'≤16000:=dlen B' 16000 (by omega)
  have ba:blen a≤53:=by rw [blen_le_iff,show (2:Nat) ^ 53 = 9007199254740992 from by decide];exact la
  have bb:blen b≤53:=by rw [blen_le_iff,show (2:Nat) ^ 53 = 9007199254740992 from by decide];exact lb
  have la3:len32 a≤2:=dlen a 2 (by omega)
  have lb3:len32 b≤2:=dlen b 2 (by omega)
  have shl_:∀ (u:Nat) (e:Int) (U:Nat) (pu:Option Addr) (cu Lu:Nat) (w1:World),Arr w1 pu (dig u)→(dig u).length≤cu→Lu = (dig u).length→blen u≤53→len32 u≤2→0≤e→e≤4000→U = u * 2 ^ e.toNat→Calls Tryz.prog 94 #[.slice pu Lu cu,.int .i64 e] w1 fun r w'=>∃ p c,r = .returned (.tuple #[.slice p (dig U).length c,.int .i64 0])∧Arr w' p (dig U)∧(dig U).length≤c∧(∀ g o,p = some ⟨g,o,none⟩→w1.heap.size≤g)∧Kp w1 w':=fun u e U pu cu Lu w1 au lu hl b1 b2 e1 e2 hU=>by
    subst hl
    have g:=nshl_ pu cu (dig u) w1 e au (Wd_dig u) (by change len32 u≤_;omega) lu
    rw [val_dig] at g
    have hs:shlN u e = (dig U,0):=by
      unfold shlN
      rw [if_neg (by omega),if_neg (by omega)]
      by_cases c0:u = 0
      · rw [if_pos c0,hU,c0,Nat.zero_mul,dig_zero]
      · rw [if_neg c0,if_neg (by omega),hU]
    rw [hs] at g
    refine g.mono ?_
    rintro r w' ⟨v,h1,h2,h3⟩
    obtain ⟨p,c,rfl,h4,h5⟩:=h2.arr
    refine ⟨p,c,h1,h4,h5,fun g o hg=>?_,h3⟩
    rcases h2.2 with ⟨h',_⟩ | ⟨g',cap,cur,h6,h7,_⟩
    · rw [hg] at h';cases h'
    · rw [hg] at h6;cases h6;exact h7
  have q1:=shl_ a (ea - low) A' pa ca La w0 (ha.grown hk0) hca hLa ba la3 (by omega) (by omega) hA
  have q2:=fun w1 (k:Kp w0 w1)=>shl_ b (eb - low) B' pb cb Lb w1 (hb.grown (hk0.trans k)) hcb hLb bb lb3 (by omega) (by omega) hB'
  have g2:∀ w:World,(Builtin.min_ #[3,3] 3 #[.int .i64 ea,.int .i64 eb]).run Tryz.prog w = .ok (.int .i64 low) w:=fun w=>by
    rw [run_min_int2]
    congr 2
    split <;> omega
  have w1e:wrap64 (ea - low) = ea - low:=w64x _ (by omega) (by omega)
  have w2e:wrap64 (eb - low) = eb - low:=w64x _ (by omega) (by omega)
  have HW:Hid (w0 = ((w.alloc (.cells #[.bool s,.slice pa La ca,.int .i64 ea] 88)).alloc (.cells #[.bool t,.slice pb Lb cb,.int .i64 eb] 88)).alloc (.cells #[.bool false,.slice none 0 0,.int .i64 0] 88)∧B = w.heap.size∧Kp w w0∧len32 A'≤16000∧len32 B'≤16000∧len32 (A' + B')≤16000):=⟨hw0,hB,hk0,lA,lB,lAB⟩
  have hel:-1074≤low∧low≤2048∧ea - low≤4000∧eb - low≤4000∧0≤ea - low∧0≤eb - low:=by omega
  have HE:Hid (-1074≤low∧low≤2048∧ea - low≤4000∧eb - low≤4000∧0≤ea - low∧0≤eb - low):=hel
  clear hX4 hel shl_ ha hca hb hcb la lb hA hB' hLa hLb hw0 hB hk0 bA bB lA lB lAB ba bb la3 lb3 hlow
  have est:(s == t) = false:=by cases s <;> cases t <;> simp_all
  have est':decide (s = t) = false:=by simp [hst]
  clear hst
  have HG:Hid (B'≤A'):=hge
  clear hge
  go_enter Tryz.func68,Tryz.ntmps68
  go_wp2_with fail
  rw [← HW.out.2.1]
  try rw [← HW.out.1]
  refine q1.mono ?_;rintro e w1 ⟨p1,c1,rfl,a1,l1,n1,k1⟩
  obtain ⟨L1,hL1⟩:∃ L1,L1 = (dig A').length:=⟨_,rfl⟩
  rw [← hL1]
  have HL1:Hid (L1 = (dig A').length):=hL1
  clear hL1
  replace y0:=kkeep k1 y0
  replace y1:=kkeep k1 y1
  replace y2:=kkeep k1 y2
  replace x0:=kkeep k1 x0
  replace x1:=kkeep k1 x1
  replace x2:=kkeep k1 x2
  have q3:=q2 w1 k1
  clear q1 q2
  go_wp2_with fail
  refine q3.mono ?_;rintro e w2 ⟨p2,c2,rfl,a2,l2,n2,k2⟩
  obtain ⟨L2,hL2⟩:∃ L2,L2 = (dig B').length:=⟨_,rfl⟩
  rw [← hL2]
  have k02:=k1.trans k2
  replace y0:=kkeep k2 y0
  replace y1:=kkeep k2 y1
  replace y2:=kkeep k2 y2
  replace x0:=kkeep k2 x0
  replace x1:=kkeep k2 x1
  replace x2:=kkeep k2 x2
  have HA2:Hid (Arr w2 p1 (dig A')∧L1 = (dig A').length∧L1≤c1∧Arr w2 p2 (dig B')∧L2 = (dig B').length∧L2≤c2∧Kp w0 w2∧(∀ g o,p1 = some ⟨g,o,none⟩→g≠B)∧(∀ g o,p2 = some ⟨g,o,none⟩→g≠B)):=⟨a1.grown k2,HL1.out,by rw [HL1.out];exact l1,a2,hL2,by rw [hL2];exact l2,k02,fun g o h=>by have:=n1 g o h;omega,fun g o h=>by have:=n2 g o h;have:=Below.size k1;omega⟩
  clear q3 a1 l1 a2 l2 k1 k2 k02 HL1 hL2 n1 n2
  have q4:Calls Tryz.prog 96 #[.slice p1 L1 c1,.slice p2 L2 c2] w2 fun e w'=>e = .returned (.int .i64 (cmpN A' B'))∧Kp w2 w':=by
    obtain ⟨h1,h2,h3,h4,h5,h6,-,-,-⟩:=HA2.out
    obtain ⟨-,-,-,b1,b2,b3⟩:=HW.out
    have g:=ncmp_ p1 p2 c1 c2 (dig A') (dig B') w2 h1 h4 (Wd_dig _) (Wd_dig _) (by change len32 _≤_;omega) (by change len32 _≤_;omega) (by rw [← h2];exact h3) (by rw [← h5];exact h6)
    rw [val_dig,val_dig,← h2,← h5] at g
    exact g
  obtain ⟨cv9,hcv9⟩:∃ cv9,cv9 = cmpN A' B':=⟨_,rfl⟩
  rw [← hcv9] at q4
  have tcv:¬ cv9 < 0:=by
    rw [hcv9];unfold cmpN;have:=HG.out;rw [if_neg (by omega)];split <;> omega
  clear hcv9
  go_wp2_with fail
  refine q4.mono ?_;rintro e w3 ⟨rfl,k3⟩
  clear q4
  replace x0:=kkeep k3 x0
  replace x1:=kkeep k3 x1
  replace x2:=kkeep k3 x2
  replace y0:=kkeep k3 y0
  replace y1:=kkeep k3 y1
  replace y2:=kkeep k3 y2
  have q5:Calls Tryz.prog 97 #[.slice p1 L1 c1,.slice p2 L2 c2] w3 fun e w'=>∃ v,e = .returned (.tuple #[v,.int .i64 0])∧Own w' w3.heap.size v (dig (A' - B'))∧Kp w3 w':=by
    obtain ⟨h1,h2,h3,h4,h5,h6,-,h8,h9⟩:=HA2.out
    obtain ⟨-,-,-,b1,b2,b3⟩:=HW.out
    have g:=nsub_ p1 p2 c1 c2 (dig A') (dig B') w3 (h1.grown k3) (h4.grown k3) (Wd_dig _) (Wd_dig _) (by change len32 _ < _;omega) (by change len32 _ < _;omega) (by rw [← h2];exact h3) (by rw [← h5];exact h6)
    rw [val_dig,val_dig] at g
    have hs:subN A' B' = (dig (A' - B'),0):=by
      unfold subN
      rw [if_neg (by have:=HG.out;omega),if_neg (by omega)]
    rw [hs] at g
    rw [h2,h5]
    exact g
  go_wp2_with fail
  refine q5.mono ?_;rintro e w4 ⟨v,rfl,ho,k4⟩
  have KK:Kp w0 w3:=HA2.out.2.2.2.2.2.2.1.trans k3
  replace x0:=kkeep k4 x0
  clear q5 x1 x2 y0 y1 y2 HA2 k3 tcv
  have hls:=ho.ls
  obtain ⟨pv,cv,rfl,hav,hcv⟩:=ho.arr
  have k04:=KK.trans k4
  replace z0:=kkeep k04 z0
  replace z1:=kkeep k04 z1
  replace z2:=kkeep k04 z2
  replace f0:=(kfro k04 hlt).trans f0
  replace f1:=(kfro k04 hlt).trans f1
  replace f2:=(kfro k04 hlt).trans f2
  obtain ⟨LV,hLV⟩:∃ LV,LV = (dig (A' - B')).length:=⟨_,rfl⟩
  rw [← hLV]
  have HO:Hid (Own w4 w3.heap.size (.slice pv (dig (A' - B')).length cv) (dig (A' - B'))∧LV = (dig (A' - B')).length∧Kp w0 w4∧B + 2 < w3.heap.size):=⟨ho,hLV,k04,by have:=Below.size KK;omega⟩
  clear ho hls hav hcv k4 k04 hLV KK
  go_wp2
  obtain ⟨ho,hL,k04,hBl⟩:=HO.out
  have kb:Kb (B + 2) w4 (((w4.setCell ⟨B + 2,0,none⟩ (.bool s)).setCell ⟨B + 2,1,none⟩ (.slice pv LV cv)).setCell ⟨B + 2,2,none⟩ (.int .i64 low)):=(((Kb.refl (B + 2) w4).setCell 0 _).setCell 1 _).setCell 2 _
  have ho2:=ho.kb kb (fun g hg=>by have:=ho.lt g hg;omega)
  have hls:=ho2.ls
  rw [← hL] at hls
  have hkw:Kp w (((w4.setCell ⟨B + 2,0,none⟩ (.bool s)).setCell ⟨B + 2,1,none⟩ (.slice pv LV cv)).setCell ⟨B + 2,2,none⟩ (.int .i64 low)):=kb.kp (HW.out.2.2.1.trans k04) (by rw [HW.out.2.1];omega)
  exact bodyPost_ret (v:=.agg #[.bool s,.slice pv LV cv,.int .i64 low]) (by simp [results,Tryz.results68,go_sem,z0,z1,z2]) rfl ⟨_,rfl,hls,hkw⟩
theorem Arr.kb9 {w w':World} {B:Nat} {p:Option Addr} {xs:List Int} (h:Arr w p xs) (k:Kb B w w') (hne:∀ g o,p = some ⟨g,o,none⟩→g≠B):Arr w' p xs:=by
  rcases h with h | ⟨b,off,e,hc⟩
  · exact Or.inl h
  · exact Or.inr ⟨b,off,e,fun j hj=>k.arr (hne b off e) (hc j hj)⟩
theorem plusLt_ (s t:Bool) (a b:Nat) (ea eb low:Int) (pa pb:Option Addr) (ca cb:Nat) (w:World) (ha:Arr w pa (dig a)) (hca:(dig a).length≤ca) (hb:Arr w pb (dig b)) (hcb:(dig b).length≤cb) (la:a < 9007199254740992) (lb:b < 9007199254740992) (ea1:-1074≤ea) (ea2:ea≤2048) (eb1:-1074≤eb) (eb2:eb≤2048) (hlow:low = min ea eb) (A' B':Nat) (hA:A' = a * 2 ^ (ea - low).toNat) (hB':B' = b * 2 ^ (eb - low).toNat) (hst:s≠t) (hge:A' < B') :
    Calls Tryz.prog 68 #[.agg #[.bool s,.slice pa (dig a).length ca,.int .i64 ea],.agg #[.bool t,.slice pb (dig b).length cb,.int .i64 eb]] w fun e w'=>∃ v,e = .returned (.agg #[.bool t,v,.int .i64 low])∧Ls w' v (dig (B' - A'))∧Kp w w':=by
  obtain ⟨La,hLa⟩:∃ La,La = (dig a).length:=⟨_,rfl⟩
  obtain ⟨Lb,hLb⟩:∃ Lb,Lb = (dig b).length:=⟨_,rfl⟩
  rw [← hLa,← hLb]
  obtain ⟨B,hB⟩:∃ B,B = w.heap.size:=⟨_,rfl⟩
  obtain ⟨w0,hw0⟩:∃ w0,w0 = ((w.alloc (.cells #[.bool s,.slice pa La ca,.int .i64 ea] 88)).alloc (.cells #[.bool t,.slice pb Lb cb,.int .i64 eb] 88)).alloc (.cells #[.bool false,.slice none 0 0,.int .i64 0] 88):=⟨_,rfl⟩
  have hk0:Kp w w0:=by rw [hw0];exact (((Kp.refl w).alloc _).alloc _).alloc _
  have x0:w0.cell? ⟨B,0,none⟩ = some (.bool s):=by rw [hw0,hB];simp [go_sem]
  have x1:w0.cell? ⟨B,1,none⟩ = some (.slice pa La ca):=by rw [hw0,hB];simp [go_sem]
  have x2:w0.cell? ⟨B,2,none⟩ = some (.int .i64 ea):=by rw [hw0,hB];simp [go_sem]
  have y0:w0.cell? ⟨B + 1,0,none⟩ = some (.bool t):=by rw [hw0,hB];simp [go_sem]
  have y1:w0.cell? ⟨B + 1,1,none⟩ = some (.slice pb Lb cb):=by rw [hw0,hB];simp [go_sem]
  have y2:w0.cell? ⟨B + 1,2,none⟩ = some (.int .i64 eb):=by rw [hw0,hB];simp [go_sem]
  have z0:w0.cell? ⟨B + 2,0,none⟩ = some (.bool false):=by rw [hw0,hB];simp [go_sem]
  have z1:w0.cell? ⟨B + 2,1,none⟩ = some (.slice none 0 0):=by rw [hw0,hB];simp [go_sem]
  have z2:w0.cell? ⟨B + 2,2,none⟩ = some (.int .i64 0):=by rw [hw0,hB];simp [go_sem]
  have f0:w0.frozen? ⟨B + 2,0,none⟩ = false:=by rw [hw0,hB];simp [go_sem]
  have f1:w0.frozen? ⟨B + 2,1,none⟩ = false:=by rw [hw0,hB];simp [go_sem]
  have f2:w0.frozen? ⟨B + 2,2,none⟩ = false:=by rw [hw0,hB];simp [go_sem]
  have i0:w0.frozen? ⟨B,0,none⟩ = false:=by rw [hw0,hB];simp [go_sem]
  have i1:w0.frozen? ⟨B,1,none⟩ = false:=by rw [hw0,hB];simp [go_sem]
  have i2:w0.frozen? ⟨B,2,none⟩ = false:=by rw [hw0,hB];simp [go_sem]
  have hlt:=cell_lt z0
  have hlt1:B < w0.heap.size:=cell_lt x0
  -- lengths
  obtain ⟨X4,hX4⟩:∃ X4:Nat,X4 = 4096:=⟨_,rfl⟩
  have bA:blen A'≤X4:=by
    rw [hA,blen_le_iff]
    have h1:2 ^ 53 * 2 ^ (ea - low).toNat≤2 ^ X4:=by rw [← Nat.pow_add];exact Nat.pow_le_pow_right (by omega) (by omega)
    have h2:a * 2 ^ (ea - low).toNat < 2 ^ 53 * 2 ^ (ea - low).toNat:=Nat.mul_lt_mul_of_pos_right (by rw [show (2:Nat) ^ 53 = 9007199254740992 from by decide];exact la) (Nat.two_pow_pos _)
    exact Nat.lt_of_lt_of_le h2 h1
  have bB:blen B'≤X4:=by
    rw [hB',blen_le_iff]
    have h1:2 ^ 53 * 2 ^ (eb - low).toNat≤2 ^ X4:=by rw [← Nat.pow_add];exact Nat.pow_le_pow_right (by omega) (by omega)
    have h2:b * 2 ^ (eb - low).toNat < 2 ^ 53 * 2 ^ (eb - low).toNat:=Nat.mul_lt_mul_of_pos_right (by rw [show (2:Nat) ^ 53 = 9007199254740992 from by decide];exact lb) (Nat.two_pow_pos _)
    exact Nat.lt_of_lt_of_le h2 h1
  have lAB:len32 (A' + B')≤16000:=dlen (A' + B') 16000 (by
    have h1:=(blen_le_iff A' X4).1 bA
    have h2:=(blen_le_iff B' X4).1 bB
    have h3:blen (A' + B')≤X4 + 1:=by rw [blen_le_iff,Nat.pow_succ];omega
    omega)
  have lA:len32 A'≤16000:=dlen A' 16000 (by omega)
  have lB:len32 B'≤16000:=dlen B' 16000 (by omega)
  have ba:blen a≤53:=by rw [blen_le_iff,show (2:Nat) ^ 53 = 9007199254740992 from by decide];exact la
  have bb:blen b≤53:=by rw [blen_le_iff,show (2:Nat) ^ 53 = 9007199254740992 from by decide];exact lb
  have la3:len32 a≤2:=dlen a 2 (by omega)
  have lb3:len32 b≤2:=dlen b 2 (by omega)
  have shl_:∀ (u:Nat) (e:Int) (U:Nat) (pu:Option Addr) (cu Lu:Nat) (w1:World),Arr w1 pu (dig u)→(dig u).length≤cu→Lu = (dig u).length→blen u≤53→len32 u≤2→0≤e→e≤4000→U = u * 2 ^ e.toNat→Calls Tryz.prog 94 #[.slice pu Lu cu,.int .i64 e] w1 fun r w'=>∃ p c,r = .returned (.tuple #[.slice p (dig U).length c,.int .i64 0])∧Arr w' p (dig U)∧(dig U).length≤c∧(∀ g o,p = some ⟨g,o,none⟩→w1.heap.size≤g)∧Kp w1 w':=fun u e U pu cu Lu w1 au lu hl b1 b2 e1 e2 hU=>by
    subst hl
    have g:=nshl_ pu cu (dig u) w1 e au (Wd_dig u) (by change len32 u≤_;omega) lu
    rw [val_dig] at g
    have hs:shlN u e = (dig U,0):=by
      unfold shlN
      rw [if_neg (by omega),if_neg (by omega)]
      by_cases c0:u = 0
      · rw [if_pos c0,hU,c0,Nat.zero_mul,dig_zero]
      · rw [if_neg c0,if_neg (by omega),hU]
    rw [hs] at g
    refine g.mono ?_
    rintro r w' ⟨v,h1,h2,h3⟩
    obtain ⟨p,c,rfl,h4,h5⟩:=h2.arr
    refine ⟨p,c,h1,h4,h5,fun g o hg=>?_,h3⟩
    rcases h2.2 with ⟨h',_⟩ | ⟨g',cap,cur,h6,h7,_⟩
    · rw [hg] at h';cases h'
    · rw [hg] at h6;cases h6;exact h7
  have q1:=shl_ a (ea - low) A' pa ca La w0 (ha.grown hk0) hca hLa ba la3 (by omega) (by omega) hA
  have q2:=fun w1 (k:Kp w0 w1)=>shl_ b (eb - low) B' pb cb Lb w1 (hb.grown (hk0.trans k)) hcb hLb bb lb3 (by omega) (by omega) hB'
  have g2:∀ w:World,(Builtin.min_ #[3,3] 3 #[.int .i64 ea,.int .i64 eb]).run Tryz.prog w = .ok (.int .i64 low) w:=fun w=>by
    rw [run_min_int2]
    congr 2
    split <;> omega
  have w1e:wrap64 (ea - low) = ea - low:=w64x _ (by omega) (by omega)
  have w2e:wrap64 (eb - low) = eb - low:=w64x _ (by omega) (by omega)
  have HW:Hid (w0 = ((w.alloc (.cells #[.bool s,.slice pa La ca,.int .i64 ea] 88)).alloc (.cells #[.bool t,.slice pb Lb cb,.int .i64 eb] 88)).alloc (.cells #[.bool false,.slice none 0 0,.int .i64 0] 88)∧B = w.heap.size∧Kp w w0∧len32 A'≤16000∧len32 B'≤16000∧len32 (A' + B')≤16000):=⟨hw0,hB,hk0,lA,lB,lAB⟩
  have hel:-1074≤low∧low≤2048∧ea - low≤4000∧eb - low≤4000∧0≤ea - low∧0≤eb - low:=by omega
  have HE:Hid (-1074≤low∧low≤2048∧ea - low≤4000∧eb - low≤4000∧0≤ea - low∧0≤eb - low):=hel
  clear hX4 hel shl_ ha hca hb hcb la lb hA hB' hLa hLb hw0 hB hk0 bA bB lA lB lAB ba bb la3 lb3 hlow
  have est:(s == t) = false:=by cases s <;> cases t <;> simp_all
  have est':decide (s = t) = false:=by simp [hst]
  clear hst
  have HG:Hid (A' < B'):=hge
  clear hge
  go_enter Tryz.func68,Tryz.ntmps68
  go_wp2_with fail
  rw [← HW.out.2.1]
  try rw [← HW.out.1]
  refine q1.mono ?_;rintro e w1 ⟨p1,c1,rfl,a1,l1,n1,k1⟩
  obtain ⟨L1,hL1⟩:∃ L1,L1 = (dig A').length:=⟨_,rfl⟩
  rw [← hL1]
  have HL1:Hid (L1 = (dig A').length):=hL1
  clear hL1
  replace y0:=kkeep k1 y0
  replace y1:=kkeep k1 y1
  replace y2:=kkeep k1 y2
  replace x0:=kkeep k1 x0
  replace x1:=kkeep k1 x1
  replace x2:=kkeep k1 x2
  have q3:=q2 w1 k1
  clear q1 q2
  go_wp2_with fail
  refine q3.mono ?_;rintro e w2 ⟨p2,c2,rfl,a2,l2,n2,k2⟩
  obtain ⟨L2,hL2⟩:∃ L2,L2 = (dig B').length:=⟨_,rfl⟩
  rw [← hL2]
  have k02:=k1.trans k2
  replace y0:=kkeep k2 y0
  replace y1:=kkeep k2 y1
  replace y2:=kkeep k2 y2
  replace x0:=kkeep k2 x0
  replace x1:=kkeep k2 x1
  replace x2:=kkeep k2 x2
  have HA2:Hid (Arr w2 p1 (dig A')∧L1 = (dig A').length∧L1≤c1∧Arr w2 p2 (dig B')∧L2 = (dig B').length∧L2≤c2∧Kp w0 w2∧(∀ g o,p1 = some ⟨g,o,none⟩→g≠B)∧(∀ g o,p2 = some ⟨g,o,none⟩→g≠B)):=⟨a1.grown k2,HL1.out,by rw [HL1.out];exact l1,a2,hL2,by rw [hL2];exact l2,k02,fun g o h=>by have:=n1 g o h;omega,fun g o h=>by have:=n2 g o h;have:=Below.size k1;omega⟩
  clear q3 a1 l1 a2 l2 k1 k2 k02 HL1 hL2 n1 n2
  have q4:Calls Tryz.prog 96 #[.slice p1 L1 c1,.slice p2 L2 c2] w2 fun e w'=>e = .returned (.int .i64 (cmpN A' B'))∧Kp w2 w':=by
    obtain ⟨h1,h2,h3,h4,h5,h6,-,-,-⟩:=HA2.out
    obtain ⟨-,-,-,b1,b2,b3⟩:=HW.out
    have g:=ncmp_ p1 p2 c1 c2 (dig A') (dig B') w2 h1 h4 (Wd_dig _) (Wd_dig _) (by change len32 _≤_;omega) (by change len32 _≤_;omega) (by rw [← h2];exact h3) (by rw [← h5];exact h6)
    rw [val_dig,val_dig,← h2,← h5] at g
    exact g
  obtain ⟨cv9,hcv9⟩:∃ cv9,cv9 = cmpN A' B':=⟨_,rfl⟩
  rw [← hcv9] at q4
  have tcv:cv9 < 0:=by
    rw [hcv9];unfold cmpN;rw [if_pos HG.out];decide
  clear hcv9
  go_wp2_with fail
  refine q4.mono ?_;rintro e w3 ⟨rfl,k3⟩
  clear q4
  replace x0:=kkeep k3 x0
  replace x1:=kkeep k3 x1
  replace x2:=kkeep k3 x2
  replace y0:=kkeep k3 y0
  replace y1:=kkeep k3 y1
  replace y2:=kkeep k3 y2
  have KK3:Kp w0 w3:=HA2.out.2.2.2.2.2.2.1.trans k3
  replace i0:=(kfro KK3 hlt1).trans i0
  replace i1:=(kfro KK3 hlt1).trans i1
  replace i2:=(kfro KK3 hlt1).trans i2
  go_upto_region 8 with fail
  go_region
  all_goals go_wp2_with fail
  obtain ⟨wc,hwc⟩:∃ wc,wc = ((w3.setCell ⟨B,0,none⟩ (.bool t)).setCell ⟨B,1,none⟩ (.slice pb Lb cb)).setCell ⟨B,2,none⟩ (.int .i64 eb):=⟨_,rfl⟩
  obtain ⟨w4,hw4⟩:∃ w4,w4 = wc.drew:=⟨_,rfl⟩
  rw [← hwc,← hw4]
  have kb4:Kb B w3 wc:=by rw [hwc];exact (((Kb.refl B w3).setCell 0 _).setCell 1 _).setCell 2 _
  have kd:Kp wc w4:=by rw [hw4];exact (Kp.refl wc).drew
  have hs4:w3.heap.size≤wc.heap.size:=kb4.2.2.2.1
  have hsz:=Below.size KK3
  have hkw4:Kp w w4:=(kb4.kp (HW.out.2.2.1.trans KK3) (by rw [HW.out.2.1];exact Nat.le_refl _)).trans kd
  have x0c:wc.cell? ⟨B,0,none⟩ = some (.bool t):=by rw [hwc];simp [go_sem,x0]
  have fz:∀ o,wc.frozen? ⟨B + 2,o,none⟩ = w3.frozen? ⟨B + 2,o,none⟩:=fun o=>by rw [hwc];simp only [World.frozen?_setCell]
  replace x0:=kkeep kd x0c
  replace z0:=kkeep kd (kb4.arr (by omega) (kkeep KK3 z0))
  replace z1:=kkeep kd (kb4.arr (by omega) (kkeep KK3 z1))
  replace z2:=kkeep kd (kb4.arr (by omega) (kkeep KK3 z2))
  replace f0:=(kfro kd (by omega)).trans ((fz 0).trans ((kfro KK3 hlt).trans f0))
  replace f1:=(kfro kd (by omega)).trans ((fz 1).trans ((kfro KK3 hlt).trans f1))
  replace f2:=(kfro kd (by omega)).trans ((fz 2).trans ((kfro KK3 hlt).trans f2))
  have hlt4:B + 2 < w4.heap.size:=by have:=Below.size kd;omega
  have q5:Calls Tryz.prog 97 #[.slice p2 L2 c2,.slice p1 L1 c1] w4 fun e w'=>∃ v,e = .returned (.tuple #[v,.int .i64 0])∧Own w' w4.heap.size v (dig (B' - A'))∧Kp w4 w':=by
    obtain ⟨h1,h2,h3,h4,h5,h6,-,h8,h9⟩:=HA2.out
    obtain ⟨-,-,-,b1,b2,b3⟩:=HW.out
    have g:=nsub_ p2 p1 c2 c1 (dig B') (dig A') w4 (((h4.grown k3).kb9 kb4 h9).grown kd) (((h1.grown k3).kb9 kb4 h8).grown kd) (Wd_dig _) (Wd_dig _) (by change len32 _ < _;omega) (by change len32 _ < _;omega) (by rw [← h5];exact h6) (by rw [← h2];exact h3)
    rw [val_dig,val_dig] at g
    have hs:subN B' A' = (dig (B' - A'),0):=by
      unfold subN
      rw [if_neg (by have:=HG.out;omega),if_neg (by omega)]
    rw [hs] at g
    rw [h5,h2]
    exact g
  refine q5.mono ?_;rintro e w5 ⟨v,rfl,ho,k5⟩
  have hls:=ho.ls
  obtain ⟨pv,cv,rfl,hav,hcv⟩:=ho.arr
  replace x0:=kkeep k5 x0
  replace z0:=kkeep k5 z0
  replace z1:=kkeep k5 z1
  replace z2:=kkeep k5 z2
  replace f0:=(kfro k5 hlt4).trans f0
  replace f1:=(kfro k5 hlt4).trans f1
  replace f2:=(kfro k5 hlt4).trans f2
  obtain ⟨LV,hLV⟩:∃ LV,LV = (dig (B' - A')).length:=⟨_,rfl⟩
  rw [← hLV]
  have HO:Hid (Own w5 w4.heap.size (.slice pv (dig (B' - A')).length cv) (dig (B' - A'))∧LV = (dig (B' - A')).length∧Kp w w5∧B + 2 < w4.heap.size):=⟨ho,hLV,hkw4.trans k5,hlt4⟩
  clear q5 ho hls hav hcv k5 hLV hkw4 kd kb4 hw4 hwc fz x0c x1 x2 y0 y1 y2 HA2 k3 KK3 tcv i0 i1 i2 hs4 hsz hlt4
  go_wp2
  obtain ⟨ho,hL,kw5,hBl⟩:=HO.out
  have kb:Kb (B + 2) w5 (((w5.setCell ⟨B + 2,0,none⟩ (.bool t)).setCell ⟨B + 2,1,none⟩ (.slice pv LV cv)).setCell ⟨B + 2,2,none⟩ (.int .i64 low)):=(((Kb.refl (B + 2) w5).setCell 0 _).setCell 1 _).setCell 2 _
  have ho2:=ho.kb kb (fun g hg=>by have:=ho.lt g hg;omega)
  have hls:=ho2.ls
  rw [← hL] at hls
  have hkw:Kp w (((w5.setCell ⟨B + 2,0,none⟩ (.bool t)).setCell ⟨B + 2,1,none⟩ (.slice pv LV cv)).setCell ⟨B + 2,2,none⟩ (.int .i64 low)):=kb.kp kw5 (by rw [HW.out.2.1];omega)
  exact bodyPost_ret (v:=.agg #[.bool t,.slice pv LV cv,.int .i64 low]) (by simp [results,Tryz.results68,go_sem,z0,z1,z2]) rfl ⟨_,rfl,hls,hkw⟩
end Go.Proofs.YtnileplkkmhdgaaGreatDoor
