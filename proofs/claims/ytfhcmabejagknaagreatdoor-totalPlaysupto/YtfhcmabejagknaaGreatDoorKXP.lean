import Derived.Test.YtfhcmabejagknaaGreatDoorKBO
import Derived.Test.YtfhcmabejagknaaGreatDoorKO6
set_option maxHeartbeats 400000
set_option maxRecDepth 20000
namespace Go.Proofs.YtfhcmabejagknaaGreatDoor
open Go.RowKit
theorem nextBit_ (h:Nat) (p q:Option Addr) (c d:Nat) (rs ys:List Int) (w:World) (hx:Arr w p rs) (hy:Arr w q ys) (hwx:Wd rs) (hwy:Wd ys) (lx:rs.length≤1048576) (ly:ys.length≤1048576) (hc:rs.length≤c) (hd:ys.length≤d) (hlt:val rs < val ys) (hb:len32 (val ys)≤16384) (hh:h < 4611686018427387904) (R H:Nat) (hR:R = 2 * val rs % val ys) (hH:H = 2 * h + 2 * val rs / val ys) :
    Calls Tryz.prog 117 #[.int .u64 (h:Int),.slice p rs.length c,.slice q ys.length d] w fun e w'=>∃ v,e = .returned (.tuple #[.int .u64 (H:Int),v])∧Ls w' v (dig R)∧Kp w w':=by
  obtain ⟨t1,t2⟩:=next_bit (val rs) (val ys) hlt
  have h1:=nsub_ q p d c ys rs w hy hx hwy hwx (by omega) (by omega) hd hc
  unfold subN at h1
  rw [if_neg (by omega),if_neg (by omega)] at h1
  obtain ⟨h2,hh2⟩:∃ h2,h2 = 2 * h:=⟨_,rfl⟩
  have f1:IntKind.u64.wrap ((h:Int) * 2) = (h2:Int):=by rw [IntKind.wrap_u64];omega
  have f1':IntKind.u64.wrap (2 * (h:Int)) = (h2:Int):=by rw [IntKind.wrap_u64];omega
  have hlr:len32 (val rs)≤16384:=Nat.le_trans (len32_mono (Nat.le_of_lt hlt)) hb
  have hll:len32 (val ys - val rs)≤16384:=Nat.le_trans (len32_mono (Nat.sub_le _ _)) hb
  by_cases cb:val rs < val ys - val rs
  · obtain ⟨t3,t4⟩:=t1 cb
    have hZ2:H = h2:=by omega
    have h3:∀ w1:World,Kp w w1→Calls Tryz.prog 93 #[.slice p rs.length c,.slice p rs.length c] w1 fun e w'=>∃ v,e = .returned (.tuple #[v,.int .i64 0])∧Own w' w1.heap.size v (dig R)∧Kp w1 w':=fun w1 k1=>by
      have g:=nadd_ p p c c rs rs w1 (hx.grown k1) (hx.grown k1) hwx hwx (by omega) (by omega) hc hc
      unfold addN at g
      rw [if_neg (by omega),if_neg (by have:=Nat.le_trans (len32_mono (show val rs + val rs≤val ys from by omega)) hb;omega)] at g
      rw [hR,t4];exact g
    have hcm:∀ (p1:Option Addr) (c1:Nat) (w1:World),Kp w w1→Arr w1 p1 (dig (val ys - val rs))→(dig (val ys - val rs)).length≤c1→Calls Tryz.prog 135 #[.slice p rs.length c,.slice p1 (dig (val ys - val rs)).length c1] w1 fun e w'=>e = .returned (.int .i64 (-1))∧Kp w1 w':=fun p1 c1 w1 k1 a1 l1=>by
      have g:=ncmp_ p p1 c c1 rs (dig (val ys - val rs)) w1 (hx.grown k1) a1 hwx (Wd_dig _) (by omega) (by change len32 _≤_;omega) hc l1
      rw [val_dig,cmpN_lt cb] at g;exact g
    obtain ⟨N,hN⟩:∃ N,N = rs.length:=⟨_,rfl⟩
    obtain ⟨M,hM⟩:∃ M,M = ys.length:=⟨_,rfl⟩
    obtain ⟨L,hL⟩:∃ L,L = dig (val ys - val rs):=⟨_,rfl⟩
    rw [← hN] at h1 h3 hcm ⊢
    rw [← hM] at h1 ⊢
    rw [← hL] at h1 hcm
    rw [hZ2]
    clear hx hy hwx hwy lx ly hc hd hlt hb hh hR hH t1 t2 hlr hll cb t3 t4 hZ2 hh2 hN hM hL
    go_enter Tryz.func117,Tryz.ntmps117
    go_wp2_with fail
    refine h1.mono ?_;rintro e w1 ⟨v,rfl,hO,k1⟩
    obtain ⟨p1,c1,rfl,hA,hc1⟩:=hO.arr
    have h4:=hcm p1 c1 w1 k1 hA hc1
    clear h1 hcm hO hA hc1
    go_wp2_with fail
    refine h4.mono ?_;rintro e w2 ⟨rfl,k2⟩
    have k02:=k1.trans k2
    have h5:=h3 w2 k02
    clear h3 h4 k1 k2
    go_wp2_with fail
    refine h5.mono ?_;rintro e w3 ⟨v2,rfl,hO,k3⟩
    have hLs:=hO.ls
    obtain ⟨p2,c2,rfl,hA,hc2⟩:=hO.arr
    have k03:=k02.trans k3
    clear h5 hO hA hc2 k02 k3
    go_wp2
    exact bodyPost_ret (v:=.tuple #[.int .u64 (h2:Int),.slice p2 (dig R).length c2]) (by simp [results,Tryz.results117,go_sem] <;> simp only [*]) rfl ⟨_,rfl,hLs,k03⟩
  · obtain ⟨t3,t4⟩:=t2 cb
    have hZ2:H = h2 + 1:=by omega
    have f2:bits BinOp.or IntKind.u64 (h2:Int) 1 = (H:Int):=by
      have g:=u64_or_nat h2 1 (by omega) (by decide)
      have g2:=or_low 1 h 1 (by decide)
      rw [Nat.or_comm,show h2 = h * 2 ^ 1 from by omega,g2,show 1 + h * 2 ^ 1 = H from by omega,show h * 2 ^ 1 = h2 from by omega] at g
      exact g
    have h3:∀ (p1:Option Addr) (c1:Nat) (w1:World),Kp w w1→Arr w1 p1 (dig (val ys - val rs))→(dig (val ys - val rs)).length≤c1→Calls Tryz.prog 134 #[.slice p rs.length c,.slice p1 (dig (val ys - val rs)).length c1] w1 fun e w'=>∃ v,e = .returned (.tuple #[v,.int .i64 0])∧Own w' w1.heap.size v (dig R)∧Kp w1 w':=fun p1 c1 w1 k1 a1 l1=>by
      have g:=nsub_ p p1 c c1 rs (dig (val ys - val rs)) w1 (hx.grown k1) a1 hwx (Wd_dig _) (by omega) (by change len32 _ < _;omega) hc l1
      rw [val_dig] at g
      unfold subN at g
      rw [if_neg cb,if_neg (by omega)] at g
      rw [hR,t4];exact g
    have hcm:∀ (p1:Option Addr) (c1:Nat) (w1:World),Kp w w1→Arr w1 p1 (dig (val ys - val rs))→(dig (val ys - val rs)).length≤c1→Calls Tryz.prog 135 #[.slice p rs.length c,.slice p1 (dig (val ys - val rs)).length c1] w1 fun e w'=>e = .returned (.int .i64 (cmpN (val rs) (val ys - val rs)))∧Kp w1 w':=fun p1 c1 w1 k1 a1 l1=>by
      have g:=ncmp_ p p1 c c1 rs (dig (val ys - val rs)) w1 (hx.grown k1) a1 hwx (Wd_dig _) (by omega) (by change len32 _≤_;omega) hc l1
      rw [val_dig] at g;exact g
    have hcn:¬ cmpN (val rs) (val ys - val rs) < 0:=by
      unfold cmpN;rw [if_neg cb];split <;> omega
    obtain ⟨N,hN⟩:∃ N,N = rs.length:=⟨_,rfl⟩
    obtain ⟨M,hM⟩:∃ M,M = ys.length:=⟨_,rfl⟩
    obtain ⟨cv,hcv⟩:∃ cv,cv = cmpN (val rs) (val ys - val rs):=⟨_,rfl⟩
    rw [← hcv] at hcm hcn
    obtain ⟨L,hL⟩:∃ L,L = dig (val ys - val rs):=⟨_,rfl⟩
    rw [← hN] at h1 h3 hcm ⊢
    rw [← hM] at h1 ⊢
    rw [← hL] at h1 hcm h3
    clear hx hy hwx hwy lx ly hc hd hlt hb hh hR hH t1 t2 hlr hll cb t3 t4 hZ2 hh2 hN hM hL hcv
    go_enter Tryz.func117,Tryz.ntmps117
    go_wp2_with fail
    refine h1.mono ?_;rintro e w1 ⟨v,rfl,hO,k1⟩
    obtain ⟨p1,c1,rfl,hA,hc1⟩:=hO.arr
    have h4:=hcm p1 c1 w1 k1 hA hc1
    clear h1 hcm hO
    go_wp2_with fail
    refine h4.mono ?_;rintro e w2 ⟨rfl,k2⟩
    have k02:=k1.trans k2
    have h5:=h3 p1 c1 w2 k02 (hA.grown k2) hc1
    clear h3 h4 k1 k2 hA hc1
    go_wp2_with fail
    refine h5.mono ?_;rintro e w3 ⟨v2,rfl,hO,k3⟩
    have hLs:=hO.ls
    obtain ⟨p2,c2,rfl,hA,hc2⟩:=hO.arr
    have k03:=k02.trans k3
    clear h5 hO hA hc2 k02 k3 hcn
    go_wp2
    exact bodyPost_ret (v:=.tuple #[.int .u64 (H:Int),.slice p2 (dig R).length c2]) (by simp [results,Tryz.results117,go_sem] <;> simp only [*]) rfl ⟨_,rfl,hLs,k03⟩
theorem quoA_ (p q:Option Addr) (c d:Nat) (xs ys:List Int) (w:World) (hx:Arr w p xs) (hy:Arr w q ys) (hwx:Wd xs) (hwy:Wd ys) (lx:xs.length≤1048576) (ly:ys.length≤1048576) (hc:xs.length≤c) (hd:ys.length≤d) (a b:Nat) (hva:a = val xs) (hvb:b = val ys) (ha:a≠0) (hb:b≠0) (la lb:Nat) (hla:la = blen a) (hlb:lb = blen b) (la2:la≤524288) (lb2:lb≤524288) (v:Nat) (hv:lb + 56 + v = la) (hv0:0 < v) (h H:Nat) (hh:h = a / (b * 2 ^ v)) (hH:H = 2 * h + (if a % (b * 2 ^ v) = 0 then 0 else 1)) :
    Calls Tryz.prog 89 #[.slice p xs.length c,.slice q ys.length d] w fun e w'=>e = .returned (.tuple #[.int .u64 (H:Int),.int .i64 ((v:Int) - 1)])∧Kp w w':=by
  have h1:=fun w1 (k:w1 = w)=>nlen_ q d ys w1 (by rw [k];exact hy) hwy (by omega) hd
  have h2:=fun w1 (k:w1 = w)=>nlen_ p c xs w1 (by rw [k];exact hx) hwx (by omega) hc
  rw [← hvb,← hlb] at h1
  rw [← hva,← hla] at h2
  have h3:=nshl_ q d ys w (v:Int) hy hwy (by omega) hd
  have hl3:len32 b≤16384:=dlen b 16384 (by rw [hlb] at lb2;omega)
  have hla3:len32 a≤16384:=dlen a 16384 (by rw [hla] at la2;omega)
  rw [← hvb] at h3
  unfold shlN at h3
  rw [if_neg (by omega),if_neg (by omega),if_neg hb,Int.toNat_natCast,if_neg (by rw [← hlb];omega)] at h3
  obtain ⟨D,hD⟩:∃ D,D = b * 2 ^ v:=⟨_,rfl⟩
  have hDp:0 < D:=by rw [hD];exact Nat.mul_pos (by omega) (Nat.pow_pos (by omega))
  have hDl:blen D = lb + v:=by rw [hD,hlb];exact blen_mul b v hb
  have hDl3:len32 D≤16384:=dlen D 16384 (by omega)
  have hq:=quo_head a b 0 v ha hb (by rw [← hla,← hlb];omega)
  rw [Nat.pow_zero,Nat.mul_one,← hD] at hq
  rw [← hD] at h3 hh hH
  rw [← hh] at hq
  have h4:∀ (p1:Option Addr) (c1:Nat) (w1:World),Kp w w1→Arr w1 p1 (dig D)→(dig D).length≤c1→Calls Tryz.prog 116 #[.slice p xs.length c,.slice p1 (dig D).length c1] w1 fun e w'=>(∃ p1 c1 p2 c2,e = .returned (.tuple #[.slice p1 (dig h).length c1,.slice p2 (dig (a % D)).length c2,.int .i64 0])∧Arr w' p1 (dig h)∧(dig h).length≤c1∧Arr w' p2 (dig (a % D))∧(dig (a % D)).length≤c2)∧Kp w1 w':=fun p1 c1 w1 k1 a1 l1=>by
    have g:=nquo_ p p1 c c1 xs (dig D) w1 (hx.grown k1) a1 hwx (Wd_dig _) lx (by change len32 _≤_;omega) hc l1
    rw [val_dig,← hva] at g
    unfold quoN at g
    rw [if_neg (by omega),if_neg (by omega),← hh] at g
    refine g.mono ?_
    rintro e w2 ⟨⟨p3,c3,p4,c4,rfl,o1,o2,-⟩,k2⟩
    obtain ⟨p5,c5,e5,a5,l5⟩:=o1.arr
    obtain ⟨p6,c6,e6,a6,l6⟩:=o2.arr
    cases e5
    cases e6
    exact ⟨⟨_,_,_,_,rfl,a5,l5,a6,l6⟩,k2⟩
  have h5:∀ (p1:Option Addr) (c1:Nat) (w1:World),Arr w1 p1 (dig h)→(dig h).length≤c1→Calls Tryz.prog 105 #[.slice p1 (dig h).length c1] w1 fun e w'=>e = .returned (.tuple #[.int .u64 (h:Int),.bool true])∧w' = w1:=fun p1 c1 w1 a1 l1=>by
    have hl5:len32 h≤2:=dlen h 2 (by
      have e:blen h≤57:=by rw [blen_le_iff,show (2:Nat) ^ 57 = 144115188075855872 from by decide];exact hq.2
      omega)
    have g:=nword_ p1 c1 (dig h) w1 a1 (Wd_dig h) (by change len32 _≤_;omega) l1
    rw [val_dig] at g
    unfold wordN at g
    rw [if_neg (by omega)] at g
    exact g
  obtain ⟨R,hR⟩:∃ R,R = a % D:=⟨_,rfl⟩
  rw [← hR] at h4 hH
  have h6:∀ (p1:Option Addr) (c1:Nat) (w1:World),Arr w1 p1 (dig R)→(dig R).length≤c1→Calls Tryz.prog 87 #[.slice p1 (dig R).length c1] w1 fun e w'=>e = .returned (.int .i64 (blen R:Nat))∧w' = w1:=fun p1 c1 w1 a1 l1=>by
    have g:=nlen_ p1 c1 (dig R) w1 a1 (Wd_dig R) (by
      have:len32 R≤len32 D:=len32_mono (by rw [hR];exact Nat.le_of_lt (Nat.mod_lt _ hDp))
      change len32 _≤_;omega) l1
    rw [val_dig] at g;exact g
  obtain ⟨mo,hmo⟩:∃ mo:Bool,mo = decide (0 < blen R):=⟨_,rfl⟩
  have hH2:H = 2 * h + (if mo = true then 1 else 0):=by
    rw [hH,hmo]
    by_cases c0:R = 0
    · simp [c0,blen_zero]
    · have:=(blen_spec R c0).2.2
      simp [c0];omega
  have h7:=fun w=>marked_ h mo w (by omega)
  rw [← hH2] at h7
  obtain ⟨bR,hbR⟩:∃ bR,bR = blen R:=⟨_,rfl⟩
  rw [← hbR] at h6 hmo
  obtain ⟨N,hN⟩:∃ N,N = xs.length:=⟨_,rfl⟩
  obtain ⟨M,hM⟩:∃ M,M = ys.length:=⟨_,rfl⟩
  rw [← hN] at h2 h4 ⊢
  rw [← hM] at h1 h3 ⊢
  have g2:∀ w:World,(Builtin.min_ #[3,3] 3 #[.int .i64 (-(v:Int)),.int .i64 (524288 - (la:Int))]).run Tryz.prog w = .ok (.int .i64 (-(v:Int))) w:=fun w=>by
    rw [run_min_int2]
    congr 2
    split <;> omega
  have hup:56 + (lb:Int) - (la:Int) = -(v:Int):=by omega
  have hvl:v≤524288:=by omega
  have HL:Hid (lb≤524288∧la≤524288):=⟨lb2,la2⟩
  have t1:-(v:Int) < 0:=by omega
  have g3:wrap64 ((v:Int) - 1) = (v:Int) - 1:=w64x _ (by omega) (by omega)
  clear hx hy hwx hwy lx ly hc hd hva hvb ha hb hla hlb hv hv0 hh hH hD hDp hDl hDl3 hl3 hla3 hq hR hH2 hbR hN hM
  go_enter Tryz.func89,Tryz.ntmps89
  go_wp2_with fail
  refine (h1 _ rfl).mono ?_;rintro e w' ⟨rfl,hw'⟩;obtain rfl:=hw'.symm;clear hw' h1
  go_wp2_with fail
  refine (h2 _ rfl).mono ?_;rintro e w' ⟨rfl,hw'⟩;obtain rfl:=hw'.symm;clear hw'
  go_wp2_with fail
  refine (h2 _ rfl).mono ?_;rintro e w' ⟨rfl,hw'⟩;obtain rfl:=hw'.symm;clear hw' h2
  go_wp2_with fail
  refine h3.mono ?_;rintro e w1 ⟨v1,rfl,hO,k1⟩
  obtain ⟨p1,c1,rfl,hA,hc1⟩:=hO.arr
  have h8:=h4 p1 c1 w1 k1 hA hc1
  obtain ⟨L,hL⟩:∃ L,L = (dig D).length:=⟨_,rfl⟩
  rw [← hL] at h8 ⊢
  clear h3 h4 hO hA hc1 hL
  go_wp2_with fail
  refine h8.mono ?_;rintro e w2 ⟨⟨p2,c2,p3,c3,rfl,a2,l2,a3,l3⟩,k2⟩
  have k02:=k1.trans k2
  have h9:=h5 p2 c2 w2 a2 l2
  have h10:=h6 p3 c3 w2 a3 l3
  obtain ⟨L2,hL2⟩:∃ L2,L2 = (dig h).length:=⟨_,rfl⟩
  obtain ⟨L3,hL3⟩:∃ L3,L3 = (dig R).length:=⟨_,rfl⟩
  rw [← hL2] at h9
  rw [← hL3] at h10
  rw [← hL2,← hL3]
  clear h8 h5 h6 a2 l2 a3 l3 k1 k2 hL2 hL3
  go_wp2_with fail
  refine h9.mono ?_;rintro e w' ⟨rfl,hw'⟩;obtain rfl:=hw'.symm;clear hw' h9
  go_wp2
  go_loopw [4,9,52] (fun hd rr i wr=>hd = .int .u64 (h:Int)∧rr = .slice p3 L3 c3∧i = .int .i64 0∧wr = w2) (fun _ _ _ _=>0)
  case atStart=>exact ⟨rfl,rfl,rfl,rfl⟩
  case round =>
    obtain ⟨rfl,rfl,rfl,rfl⟩:=hrel
    go_wp2_with fail
    refine h10.mono ?_;rintro e w' ⟨rfl,hw'⟩;obtain rfl:=hw'.symm;clear hw' h10
    go_wp2_with fail
    rw [← hmo]
    have h11:=h7 wr
    clear h7 hmo
    refine h11.mono ?_;rintro e w' ⟨rfl,hw'⟩;obtain rfl:=hw'.symm;clear hw' h11
    go_wp2
    exact bodyPost_ret (v:=.tuple #[.int .u64 (H:Int),.int .i64 ((v:Int) - 1)]) (by simp [results,Tryz.results89,go_sem] <;> simp only [*]) rfl ⟨rfl,k02⟩
theorem quoB_ (p q:Option Addr) (c d:Nat) (xs ys:List Int) (w:World) (hx:Arr w p xs) (hy:Arr w q ys) (hwx:Wd xs) (hwy:Wd ys) (lx:xs.length≤1048576) (ly:ys.length≤1048576) (hc:xs.length≤c) (hd:ys.length≤d) (a b:Nat) (hva:a = val xs) (hvb:b = val ys) (ha:a≠0) (hb:b≠0) (la lb:Nat) (hla:la = blen a) (hlb:lb = blen b) (la2:la≤524288) (lb2:lb≤524288) (u s K:Nat) (hu:la + u = lb + 56) (hs:s + K = u) (hs2:la + s≤524288) (hK:K = 0∨la + s = 524288) (h H:Nat) (hh:h = a * 2 ^ u / b) (hH:H = 2 * h + (if a * 2 ^ u % b = 0 then 0 else 1)) :
    Calls Tryz.prog 89 #[.slice p xs.length c,.slice q ys.length d] w fun e w'=>e = .returned (.tuple #[.int .u64 (H:Int),.int .i64 (-(u:Int) - 1)])∧Kp w w':=by
  have h1:=fun w1 (k:w1 = w)=>nlen_ q d ys w1 (by rw [k];exact hy) hwy (by omega) hd
  have h2:=fun w1 (k:w1 = w)=>nlen_ p c xs w1 (by rw [k];exact hx) hwx (by omega) hc
  rw [← hvb,← hlb] at h1
  rw [← hva,← hla] at h2
  have h3:=nshl_ p c xs w (s:Int) hx hwx (by omega) hc
  have hl3:len32 b≤16384:=dlen b 16384 (by rw [hlb] at lb2;omega)
  have hla3:len32 a≤16384:=dlen a 16384 (by rw [hla] at la2;omega)
  rw [← hva] at h3
  unfold shlN at h3
  rw [if_neg (by omega),if_neg (by omega),if_neg ha,Int.toNat_natCast,if_neg (by rw [← hla];omega)] at h3
  obtain ⟨D,hD⟩:∃ D,D = a * 2 ^ s:=⟨_,rfl⟩
  have hDl:blen D = la + s:=by rw [hD,hla];exact blen_mul a s ha
  have hDl3:len32 D≤16384:=dlen D 16384 (by omega)
  have hq:=quo_head a b u 0 ha hb (by rw [← hla,← hlb];omega)
  rw [Nat.pow_zero,Nat.mul_one,← hh] at hq
  rw [← hD] at h3
  have hbp:0 < b:=by omega
  have h4:∀ (p1:Option Addr) (c1:Nat) (w1:World),Kp w w1→Arr w1 p1 (dig D)→(dig D).length≤c1→Calls Tryz.prog 116 #[.slice p1 (dig D).length c1,.slice q ys.length d] w1 fun e w'=>(∃ p1 c1 p2 c2,e = .returned (.tuple #[.slice p1 (dig (D / b)).length c1,.slice p2 (dig (D % b)).length c2,.int .i64 0])∧Arr w' p1 (dig (D / b))∧(dig (D / b)).length≤c1∧Arr w' p2 (dig (D % b))∧(dig (D % b)).length≤c2)∧Kp w1 w':=fun p1 c1 w1 k1 a1 l1=>by
    have g:=nquo_ p1 q c1 d (dig D) ys w1 a1 (hy.grown k1) (Wd_dig _) hwy (by change len32 _≤_;omega) ly l1 hd
    rw [val_dig,← hvb] at g
    unfold quoN at g
    rw [if_neg (by omega),if_neg (by omega)] at g
    refine g.mono ?_
    rintro e w2 ⟨⟨p3,c3,p4,c4,rfl,o1,o2,-⟩,k2⟩
    obtain ⟨p5,c5,e5,a5,l5⟩:=o1.arr
    obtain ⟨p6,c6,e6,a6,l6⟩:=o2.arr
    cases e5
    cases e6
    exact ⟨⟨_,_,_,_,rfl,a5,l5,a6,l6⟩,k2⟩
  have hmon:∀ k,k≤K→D * 2 ^ k / b≤h:=fun k hk=>by
    rw [hh]
    apply Nat.div_le_div_right
    rw [hD,Nat.mul_assoc,← Nat.pow_add]
    exact Nat.mul_le_mul_left _ (Nat.pow_le_pow_right (by omega) (by omega))
  have h5:∀ (p1:Option Addr) (c1:Nat) (w1:World),Arr w1 p1 (dig (D / b))→(dig (D / b)).length≤c1→Calls Tryz.prog 105 #[.slice p1 (dig (D / b)).length c1] w1 fun e w'=>e = .returned (.tuple #[.int .u64 ((D / b:Nat):Int),.bool true])∧w' = w1:=fun p1 c1 w1 a1 l1=>by
    have hl5:len32 (D / b)≤2:=dlen (D / b) 2 (by
      have e:blen (D / b)≤57:=by
        rw [blen_le_iff,show (2:Nat) ^ 57 = 144115188075855872 from by decide]
        have:=hmon 0 (by omega)
        rw [Nat.pow_zero,Nat.mul_one] at this
        omega
      omega)
    have g:=nword_ p1 c1 (dig (D / b)) w1 a1 (Wd_dig _) (by change len32 _≤_;omega) l1
    rw [val_dig] at g
    unfold wordN at g
    rw [if_neg (by omega)] at g
    exact g
  have h6:∀ (R:Nat) (p1:Option Addr) (c1:Nat) (w1:World),R < b→Arr w1 p1 (dig R)→(dig R).length≤c1→Calls Tryz.prog 87 #[.slice p1 (dig R).length c1] w1 fun e w'=>e = .returned (.int .i64 (blen R:Nat))∧w' = w1:=fun R p1 c1 w1 hRb a1 l1=>by
    have g:=nlen_ p1 c1 (dig R) w1 a1 (Wd_dig R) (by
      have:len32 R≤len32 b:=len32_mono (Nat.le_of_lt hRb)
      change len32 _≤_;omega) l1
    rw [val_dig] at g;exact g
  have h7:∀ (mo:Bool) (w:World),Calls Tryz.prog 106 #[.int .u64 (h:Int),.bool mo] w fun e w'=>e = .returned (.int .u64 ((2 * h + (if mo = true then 1 else 0):Nat):Int))∧w' = w:=fun mo w=>marked_ h mo w (by omega)
  have h12:∀ (k:Nat) (p1:Option Addr) (c1:Nat) (w1:World),k < K→Kp w w1→Arr w1 p1 (dig (D * 2 ^ k % b))→(dig (D * 2 ^ k % b)).length≤c1→Calls Tryz.prog 117 #[.int .u64 ((D * 2 ^ k / b:Nat):Int),.slice p1 (dig (D * 2 ^ k % b)).length c1,.slice q ys.length d] w1 fun e w'=>∃ v,e = .returned (.tuple #[.int .u64 ((D * 2 ^ (k + 1) / b:Nat):Int),v])∧Ls w' v (dig (D * 2 ^ (k + 1) % b))∧Kp w1 w':=fun k p1 c1 w1 hk k1 a1 l1=>by
    have hm:=next_math (D * 2 ^ k) b hbp
    rw [show 2 * (D * 2 ^ k) = D * 2 ^ (k + 1) from by rw [Nat.pow_succ,Nat.mul_comm 2,Nat.mul_assoc]] at hm
    have hlr:len32 (D * 2 ^ k % b)≤len32 b:=len32_mono (Nat.le_of_lt (Nat.mod_lt _ hbp))
    have hmk:=hmon k (by omega)
    exact nextBit_ (D * 2 ^ k / b) p1 q c1 d (dig (D * 2 ^ k % b)) ys w1 a1 (hy.grown k1) (Wd_dig _) hwy (by change len32 _≤_;omega) ly l1 hd (by rw [val_dig,← hvb];exact Nat.mod_lt _ hbp) (by rw [← hvb];exact hl3) (by omega) _ _ (by rw [val_dig,← hvb];exact hm.2) (by rw [val_dig,← hvb];exact hm.1)
  have hfin:D * 2 ^ K = a * 2 ^ u:=by rw [hD,Nat.mul_assoc,← Nat.pow_add,hs]
  rw [← hfin] at hh hH
  obtain ⟨N,hN⟩:∃ N,N = xs.length:=⟨_,rfl⟩
  obtain ⟨M,hM⟩:∃ M,M = ys.length:=⟨_,rfl⟩
  rw [← hN] at h2 h3 ⊢
  rw [← hM] at h1 h4 h12 ⊢
  have g2:∀ w:World,(Builtin.min_ #[3,3] 3 #[.int .i64 (u:Int),.int .i64 (524288 - (la:Int))]).run Tryz.prog w = .ok (.int .i64 (s:Int)) w:=fun w=>by
    rw [run_min_int2]
    congr 2
    split <;> omega
  have hup:56 + (lb:Int) - (la:Int) = (u:Int):=by omega
  have hul:u≤524344:=by omega
  have hsl:s≤524288:=by omega
  have HL:Hid (lb≤524288∧la≤524288∧s + K = u):=⟨lb2,la2,hs⟩
  have HH:Hid (0 < b∧h = D * 2 ^ K / b∧H = 2 * h + (if D * 2 ^ K % b = 0 then 0 else 1)):=⟨hbp,hh,hH⟩
  have t1:¬ ((s:Int) < 0):=by omega
  have g4:(u:Int) - (s:Int) = (K:Int):=by omega
  have hKl:K≤524344:=by omega
  clear hx hy hwx hwy lx ly hc hd hva hvb ha hb hla hlb hu hs hs2 hK hD hDl hDl3 hl3 hla3 hq hN hM hmon hbp hh hH hfin
  go_enter Tryz.func89,Tryz.ntmps89
  go_wp2_with fail
  refine (h1 _ rfl).mono ?_;rintro e w' ⟨rfl,hw'⟩;obtain rfl:=hw'.symm;clear hw' h1
  go_wp2_with fail
  refine (h2 _ rfl).mono ?_;rintro e w' ⟨rfl,hw'⟩;obtain rfl:=hw'.symm;clear hw'
  go_wp2_with fail
  refine (h2 _ rfl).mono ?_;rintro e w' ⟨rfl,hw'⟩;obtain rfl:=hw'.symm;clear hw' h2
  go_wp2_with fail
  refine h3.mono ?_;rintro e w1 ⟨v1,rfl,hO,k1⟩
  obtain ⟨p1,c1,rfl,hA,hc1⟩:=hO.arr
  have h8:=h4 p1 c1 w1 k1 hA hc1
  obtain ⟨L,hL⟩:∃ L,L = (dig D).length:=⟨_,rfl⟩
  rw [← hL] at h8 ⊢
  clear h3 h4 hO hA hc1 hL
  go_wp2_with fail
  refine h8.mono ?_;rintro e w2 ⟨⟨p2,c2,p3,c3,rfl,a2,l2,a3,l3⟩,k2⟩
  have k02:=k1.trans k2
  have h9:=h5 p2 c2 w2 a2 l2
  obtain ⟨h0,hh0⟩:∃ h0,h0 = D / b:=⟨_,rfl⟩
  obtain ⟨L2,hL2⟩:∃ L2,L2 = (dig h0).length:=⟨_,rfl⟩
  obtain ⟨L3,hL3⟩:∃ L3,L3 = (dig (D % b)).length:=⟨_,rfl⟩
  rw [← hh0,← hL2] at h9
  rw [← hh0,← hL2,← hL3]
  have HA:Hid (h0 = D / b∧L3 = (dig (D % b)).length∧Arr w2 p3 (dig (D % b))∧(dig (D % b)).length≤c3):=⟨hh0,hL3,a3,l3⟩
  clear h8 h5 a2 l2 a3 l3 k1 k2 hL2 hL3 hh0
  go_wp2_with fail
  refine h9.mono ?_;rintro e w' ⟨rfl,hw'⟩;obtain rfl:=hw'.symm;clear hw' h9
  go_wp2
  go_loopw [4,9,52] (fun hd rr i wr=>∃ (k O l c4:Nat) (p4:Option Addr),hd = .int .u64 (O:Int)∧rr = .slice p4 l c4∧i = .int .i64 (k:Int)∧k≤K∧O = D * 2 ^ k / b∧l = (dig (D * 2 ^ k % b)).length∧Arr wr p4 (dig (D * 2 ^ k % b))∧l≤c4∧Kp w wr) (fun _ _ i _=>K - (intOf i).toNat)
  case atStart =>
    obtain ⟨e1,e2,e3,e4⟩:=HA.out
    exact ⟨0,h0,L3,c3,p3,rfl,rfl,rfl,by omega,by rw [Nat.pow_zero,Nat.mul_one];exact e1,by rw [Nat.pow_zero,Nat.mul_one];exact e2,by rw [Nat.pow_zero,Nat.mul_one];exact e3,by rw [e2];exact e4,k02⟩
  case round =>
    obtain ⟨k,O,l,c4,p4,rfl,rfl,rfl,hk,hO,hl,hA,hlc,hkp⟩:=hrel
    by_cases ck:k < K
    · have h13:=h12 k p4 c4 wr ck hkp hA (by rw [← hl];exact hlc)
      rw [← hO,← hl] at h13
      have t2:(k:Int) < (K:Int):=by omega
      have kb:k≤524344:=by omega
      have HK:Hid (k < K∧Kp w wr):=⟨ck,hkp⟩
      clear h12 h6 h7 HA HH hO hl hA hlc hk ck hkp k02
      go_wp2_with fail
      refine h13.mono ?_;rintro e w3 ⟨v3,rfl,⟨p5,c5,rfl,a5,l5⟩,k3⟩
      obtain ⟨O',hO'⟩:∃ O',O' = D * 2 ^ (k + 1) / b:=⟨_,rfl⟩
      obtain ⟨L',hL'⟩:∃ L',L' = (dig (D * 2 ^ (k + 1) % b)).length:=⟨_,rfl⟩
      rw [← hO',← hL']
      have HB:Hid (O' = D * 2 ^ (k + 1) / b∧L' = (dig (D * 2 ^ (k + 1) % b)).length∧Arr w3 p5 (dig (D * 2 ^ (k + 1) % b))∧L'≤c5∧Kp wr w3):=⟨hO',hL',a5,by rw [hL'];exact l5,k3⟩
      clear h13 a5 l5 k3 hO' hL'
      go_wp2
      obtain ⟨b1,b2,b3,b4,b5⟩:=HB.out
      exact ⟨⟨k + 1,O',L',c5,p5,rfl,rfl,by go_num,by have:=HK.out.1;omega,b1,b2,b3,b4,HK.out.2.trans b5⟩,by have:=HK.out.1;simp [intOf];omega⟩
    · have hkK:k = K:=by omega
      subst hkK
      obtain ⟨hbp,hh,hH⟩:=HH.out
      rw [← hh] at hO
      obtain ⟨R,hR⟩:∃ R,R = D * 2 ^ k % b:=⟨_,rfl⟩
      rw [← hR] at hl hA hH
      have h10:=h6 R p4 c4 wr (by rw [hR];exact Nat.mod_lt _ hbp) hA (by rw [← hl];exact hlc)
      obtain ⟨bR,hbR⟩:∃ bR,bR = blen R:=⟨_,rfl⟩
      obtain ⟨mo,hmo⟩:∃ mo:Bool,mo = decide (0 < bR):=⟨_,rfl⟩
      have hH2:H = 2 * h + (if mo = true then 1 else 0):=by
        rw [hH,hmo,hbR]
        by_cases c0:R = 0
        · simp [c0,blen_zero]
        · have:=(blen_spec R c0).2.2
          simp [c0];omega
      have h11:=h7 mo wr
      rw [← hH2] at h11
      rw [← hl,← hbR] at h10
      subst hO
      have t2:¬ ((k:Int) < (k:Int)):=by omega
      clear h12 h6 h7 HA HH hl hA hlc hk ck k02 hbp hh hH hR hbR hH2
      go_wp2_with fail
      refine h10.mono ?_;rintro e w' ⟨rfl,hw'⟩;obtain rfl:=hw'.symm;clear hw' h10
      go_wp2_with fail
      rw [← hmo]
      clear hmo
      refine h11.mono ?_;rintro e w' ⟨rfl,hw'⟩;obtain rfl:=hw'.symm;clear hw' h11
      go_wp2
      exact bodyPost_ret (v:=.tuple #[.int .u64 (H:Int),.int .i64 (-(u:Int) - 1)]) (by simp [results,Tryz.results89,go_sem] <;> simp only [*]) rfl ⟨rfl,hkp⟩
theorem long_if2 (a b:Nat):(16384 < len32 a∨16384 < len32 b) ↔ (524288 < blen a∨524288 < blen b):=by
  rw [long_iff a,long_iff b]
theorem prat_ (dd:Int) (neg:Bool) (p q:Option Addr) (c d:Nat) (xs ys:List Int) (exp:Int) (w:World) (hQ:Fq.Tab w) (hd1:-9223372036854775808≤dd) (hd2:dd < 9223372036854775808) (hx:Arr w p xs) (hy:Arr w q ys) (hwx:Wd xs) (hwy:Wd ys) (lx:xs.length≤1048576) (ly:ys.length≤1048576) (hc:xs.length≤c) (hd:ys.length≤d) :
    Calls Tryz.prog 54 #[.int .i64 dd,.bool neg,.slice p xs.length c,.slice q ys.length d,.int .i64 exp] w fun r w'=>r = .returned (.float .f64 (ratW dd neg (val xs) (val ys) exp))∧Kp w w':=by
  have h1:=fun w1 (k:w1 = w)=>ptoo_ p c xs w1 (by rw [k];exact hx) hwx lx hc
  have h2:=fun w1 (k:w1 = w)=>ptoo_ q d ys w1 (by rw [k];exact hy) hwy ly hd
  have h3:=fun w1 (k:w1 = w)=>nlen_ p c xs w1 (by rw [k];exact hx) hwx (by omega) hc
  have h4:=fun w1 (k:w1 = w)=>nlen_ q d ys w1 (by rw [k];exact hy) hwy (by omega) hd
  have h9:=mnan_ w
  have hq:=fun (a b:Nat)=>quoA_ p q c d xs ys w hx hy hwx hwy lx ly hc hd a b
  have hq2:=fun (a b:Nat)=>quoB_ p q c d xs ys w hx hy hwx hwy lx ly hc hd a b
  obtain ⟨la,hla⟩:∃ la,la = blen (val xs):=⟨_,rfl⟩
  obtain ⟨lb,hlb⟩:∃ lb,lb = blen (val ys):=⟨_,rfl⟩
  obtain ⟨N,hN⟩:∃ N,N = xs.length:=⟨_,rfl⟩
  obtain ⟨M,hM⟩:∃ M,M = ys.length:=⟨_,rfl⟩
  rw [← hla,← hN] at h1 h3
  rw [← hlb,← hM] at h2 h4
  rw [← hN,← hM] at hq hq2
  rw [← hN,← hM]
  unfold ratW
  by_cases ca:524288 < la
  · rw [if_pos ((long_if2 _ _).2 (Or.inl (by rw [← hla];exact ca)))]
    rw [decide_eq_true ca] at h1
    clear hQ hd1 hd2 hx hy hwx hwy lx ly hc hd hla hlb hN hM
    clear h2 h3 h4 hq hq2 ca
    go_enter Tryz.func54,Tryz.ntmps54
    go_wp2_with fail
    refine (h1 _ rfl).mono ?_;rintro e w' ⟨rfl,hw'⟩;obtain rfl:=hw'.symm;clear hw'
    clear h1
    go_wp2_with fail
    refine h9.mono ?_;rintro e w' ⟨rfl,hw'⟩;obtain rfl:=hw'.symm;clear hw' h9
    go_wp2
    exact bodyPost_ret (v:=.float .f64 9221120237041090561) (by simp [results,Tryz.results54,go_sem] <;> simp only [*]) rfl ⟨rfl,Kp.refl _⟩
  by_cases cb:524288 < lb
  · rw [if_pos ((long_if2 _ _).2 (Or.inr (by rw [← hlb];exact cb)))]
    rw [decide_eq_false ca] at h1
    rw [decide_eq_true cb] at h2
    clear hQ hd1 hd2 hx hy hwx hwy lx ly hc hd hla hlb hN hM
    clear h3 h4 hq hq2 ca cb
    go_enter Tryz.func54,Tryz.ntmps54
    go_wp2_with fail
    refine (h1 _ rfl).mono ?_;rintro e w' ⟨rfl,hw'⟩;obtain rfl:=hw'.symm;clear hw'
    go_wp2_with fail
    refine (h2 _ rfl).mono ?_;rintro e w' ⟨rfl,hw'⟩;obtain rfl:=hw'.symm;clear hw'
    clear h1 h2
    go_wp2_with fail
    refine h9.mono ?_;rintro e w' ⟨rfl,hw'⟩;obtain rfl:=hw'.symm;clear hw' h9
    go_wp2
    exact bodyPost_ret (v:=.float .f64 9221120237041090561) (by simp [results,Tryz.results54,go_sem] <;> simp only [*]) rfl ⟨rfl,Kp.refl _⟩
  rw [if_neg (by rw [long_if2,← hla,← hlb];omega)]
  rw [decide_eq_false ca] at h1
  rw [decide_eq_false cb] at h2
  by_cases cz:val ys = 0
  · have hl0:lb = 0:=by rw [hlb,cz,blen_zero]
    rw [if_pos cz]
    subst hl0
    by_cases cx:val xs = 0
    · have hl1:la = 0:=by rw [hla,cx,blen_zero]
      rw [if_pos cx]
      subst hl1
      clear hQ hd1 hd2 hx hy hwx hwy lx ly hc hd hla hlb hN hM hq hq2 ca cb cz cx
      go_enter Tryz.func54,Tryz.ntmps54
      go_wp2_with fail
      refine (h1 _ rfl).mono ?_;rintro e w' ⟨rfl,hw'⟩;obtain rfl:=hw'.symm;clear hw'
      go_wp2_with fail
      refine (h2 _ rfl).mono ?_;rintro e w' ⟨rfl,hw'⟩;obtain rfl:=hw'.symm;clear hw'
      go_wp2_with fail
      refine (h4 _ rfl).mono ?_;rintro e w' ⟨rfl,hw'⟩;obtain rfl:=hw'.symm;clear hw'
      go_wp2_with fail
      refine (h3 _ rfl).mono ?_;rintro e w' ⟨rfl,hw'⟩;obtain rfl:=hw'.symm;clear hw'
      clear h1 h2 h3 h4
      go_wp2_with fail
      refine h9.mono ?_;rintro e w' ⟨rfl,hw'⟩;obtain rfl:=hw'.symm;clear hw' h9
      go_wp2
      exact bodyPost_ret (v:=.float .f64 9221120237041090561) (by simp [results,Tryz.results54,go_sem] <;> simp only [*]) rfl ⟨rfl,Kp.refl _⟩
    · rw [if_neg cx]
      have t1:¬ ((la:Int) = 0):=by
        have:=(blen_spec _ cx).2.2;omega
      have h5:Calls Tryz.prog 88 #[.bool neg] w fun e w'=>e = .returned (.float .f64 (mdW neg 9218868437227405312))∧w' = w:=by
        cases neg
        · exact infD_false w
        · exact infD_true w
      obtain ⟨Z,hZ⟩:∃ Z,Z = mdW neg 9218868437227405312:=⟨_,rfl⟩
      rw [← hZ] at h5 ⊢
      clear hQ hd1 hd2 hx hy hwx hwy lx ly hc hd hla hlb hN hM hq hq2 ca cb cz cx h9 hZ
      go_enter Tryz.func54,Tryz.ntmps54
      go_wp2_with fail
      refine (h1 _ rfl).mono ?_;rintro e w' ⟨rfl,hw'⟩;obtain rfl:=hw'.symm;clear hw'
      go_wp2_with fail
      refine (h2 _ rfl).mono ?_;rintro e w' ⟨rfl,hw'⟩;obtain rfl:=hw'.symm;clear hw'
      go_wp2_with fail
      refine (h4 _ rfl).mono ?_;rintro e w' ⟨rfl,hw'⟩;obtain rfl:=hw'.symm;clear hw'
      go_wp2_with fail
      refine (h3 _ rfl).mono ?_;rintro e w' ⟨rfl,hw'⟩;obtain rfl:=hw'.symm;clear hw'
      go_wp2_with fail
      refine (h4 _ rfl).mono ?_;rintro e w' ⟨rfl,hw'⟩;obtain rfl:=hw'.symm;clear hw'
      clear h1 h2 h3 h4
      go_wp2_with fail
      refine h5.mono ?_;rintro e w' ⟨rfl,hw'⟩;obtain rfl:=hw'.symm;clear hw' h5
      go_wp2
      exact bodyPost_ret (v:=.float .f64 Z) (by simp [results,Tryz.results54,go_sem] <;> simp only [*]) rfl ⟨rfl,Kp.refl _⟩
  rw [if_neg cz]
  have t1:¬ ((lb:Int) = 0):=by
    have:=(blen_spec _ cz).2.2;omega
  by_cases cx:val xs = 0
  · have hl1:la = 0:=by rw [hla,cx,blen_zero]
    rw [if_pos cx]
    subst hl1
    clear hQ hd1 hd2 hx hy hwx hwy lx ly hc hd hla hlb hN hM hq hq2 ca cb cz cx h9
    go_enter Tryz.func54,Tryz.ntmps54
    go_wp2_with fail
    refine (h1 _ rfl).mono ?_;rintro e w' ⟨rfl,hw'⟩;obtain rfl:=hw'.symm;clear hw'
    go_wp2_with fail
    refine (h2 _ rfl).mono ?_;rintro e w' ⟨rfl,hw'⟩;obtain rfl:=hw'.symm;clear hw'
    go_wp2_with fail
    refine (h4 _ rfl).mono ?_;rintro e w' ⟨rfl,hw'⟩;obtain rfl:=hw'.symm;clear hw'
    go_wp2_with fail
    refine (h4 _ rfl).mono ?_;rintro e w' ⟨rfl,hw'⟩;obtain rfl:=hw'.symm;clear hw'
    go_wp2_with fail
    refine (h3 _ rfl).mono ?_;rintro e w' ⟨rfl,hw'⟩;obtain rfl:=hw'.symm;clear hw'
    clear h1 h2 h3 h4
    go_wp2
    exact bodyPost_ret (v:=.float .f64 0) (by simp [results,Tryz.results54,go_sem] <;> simp only [*]) rfl ⟨rfl,Kp.refl _⟩
  rw [if_neg cx]
  have t2:¬ ((la:Int) = 0):=by
    have:=(blen_spec _ cx).2.2;omega
  have hcb:=conf_b exp
  have h5:=confined_ exp
  -- what quotient tells
  obtain ⟨H,sf,hsf,hH,hs1,hs2,h6⟩:∃ (H:Nat) (sf:Int),(∀ (e:Int) (t:Int),rV e 53 H 1 (t + sf) = rV e 53 (val xs) (val ys) t)∧H < 1152921504606846976∧-1048576≤sf∧sf≤1048576∧Calls Tryz.prog 89 #[.slice p N c,.slice q M d] w fun e w'=>e = .returned (.tuple #[.int .u64 (H:Int),.int .i64 sf])∧Kp w w':=by
    by_cases cu:lb + 56 < la
    · obtain ⟨v,hv⟩:∃ v,lb + 56 + v = la:=⟨la - (lb + 56),by omega⟩
      obtain ⟨h,hh⟩:∃ h,h = val xs * 2 ^ 0 / (val ys * 2 ^ v):=⟨_,rfl⟩
      obtain ⟨H,hH⟩:∃ H,H = 2 * h + (if val xs * 2 ^ 0 % (val ys * 2 ^ v) = 0 then 0 else 1):=⟨_,rfl⟩
      have hb9:=quo_head (val xs) (val ys) 0 v cx cz (by rw [← hla,← hlb];omega)
      rw [← hh] at hb9
      refine ⟨H,(v:Int) - 1,fun e t=>?_,by rw [hH];split <;> omega,by omega,by omega, ?_⟩
      · have:=quo_rV e (val xs) (val ys) 0 v h H t cx cz (by rw [← hla,← hlb];omega) hh hH
        rw [← this];congr 1;omega
      · rw [Nat.pow_zero,Nat.mul_one] at hh hH
        exact hq (val xs) (val ys) rfl rfl cx cz la lb hla hlb (by omega) (by omega) v hv (by omega) h H hh hH
    · obtain ⟨u,hu⟩:∃ u,la + u = lb + 56:=⟨lb + 56 - la,by omega⟩
      obtain ⟨s,K,hs,hs2,hK⟩:∃ s K,s + K = u∧la + s≤524288∧(K = 0∨la + s = 524288):=by
        by_cases c5:la + u≤524288
        · exact ⟨u,0,by omega,by omega,Or.inl rfl⟩
        · exact ⟨524288 - la,u - (524288 - la),by omega,by omega,Or.inr (by omega)⟩
      obtain ⟨h,hh⟩:∃ h,h = val xs * 2 ^ u / (val ys * 2 ^ 0):=⟨_,rfl⟩
      obtain ⟨H,hH⟩:∃ H,H = 2 * h + (if val xs * 2 ^ u % (val ys * 2 ^ 0) = 0 then 0 else 1):=⟨_,rfl⟩
      have hb9:=quo_head (val xs) (val ys) u 0 cx cz (by rw [← hla,← hlb];omega)
      rw [← hh] at hb9
      refine ⟨H,-(u:Int) - 1,fun e t=>?_,by rw [hH];split <;> omega,by omega,by omega, ?_⟩
      · have:=quo_rV e (val xs) (val ys) u 0 h H t cx cz (by rw [← hla,← hlb];omega) hh hH
        rw [← this];congr 1;omega
      · rw [Nat.pow_zero,Nat.mul_one] at hh hH
        exact hq2 (val xs) (val ys) rfl rfl cx cz la lb hla hlb (by omega) (by omega) u s K hu hs hs2 hK h H hh hH
  obtain ⟨ce,hce⟩:∃ ce,ce = conf exp:=⟨_,rfl⟩
  have hclamp:finU 53 2098 9218868437227405311 9218868437227405312 (dirN neg dd) (rV (dirN neg dd) 53 (val xs) (val ys) (ce + 1074)) = finU 53 2098 9218868437227405311 9218868437227405312 (dirN neg dd) (rV (dirN neg dd) 53 (val xs) (val ys) (exp + 1074)):=by
    by_cases c9:ce = exp
    · rw [c9]
    · refine fin_clamp (dirN neg dd) (val xs) (val ys) (val xs) (val ys) (ce + 1074) (exp + 1074) cx cz cx cz ?_
      rw [← hla,← hlb]
      rw [hce] at c9 ⊢
      unfold conf at c9 ⊢
      omega
  rw [← hce] at h5 hcb
  obtain ⟨x,hx9⟩:∃ x:Int,x = ce + sf:=⟨_,rfl⟩
  have h7:=fun w1 (k:Kp w w1)=>prndD_ dd neg H x w1 (Fq.Tab.grown hQ k) hd1 hd2 hH (by omega) (by omega)
  rw [show x + 1074 = ce + 1074 + sf from by omega,hsf,hclamp] at h7
  have hpm:∀ R,pW 9223372036854775808 neg R = mdW neg R:=fun R=>rfl
  rw [hpm] at h7
  obtain ⟨Y,hY⟩:∃ Y,Y = mdW neg (finU 53 2098 9218868437227405311 9218868437227405312 (dirN neg dd) (rV (dirN neg dd) 53 (val xs) (val ys) (exp + 1074))):=⟨_,rfl⟩
  rw [← hY] at h7 ⊢
  have g1:wrap64 (ce + sf) = x:=by rw [← hx9];exact w64x _ (by omega) (by omega)
  have G2:Hid (ce + sf = x∧wrap64 x = x):=⟨hx9.symm,w64x _ (by omega) (by omega)⟩
  clear hQ hd1 hd2 hx hy hwx hwy lx ly hc hd hla hlb hN hM hq hq2 ca cb cz cx h9 hcb hsf hH hs1 hs2 hce hclamp hpm hY hx9
  go_enter Tryz.func54,Tryz.ntmps54
  go_wp2_with fail
  refine (h1 _ rfl).mono ?_;rintro e w' ⟨rfl,hw'⟩;obtain rfl:=hw'.symm;clear hw'
  go_wp2_with fail
  refine (h2 _ rfl).mono ?_;rintro e w' ⟨rfl,hw'⟩;obtain rfl:=hw'.symm;clear hw'
  go_wp2_with fail
  refine (h4 _ rfl).mono ?_;rintro e w' ⟨rfl,hw'⟩;obtain rfl:=hw'.symm;clear hw'
  go_wp2_with fail
  refine (h4 _ rfl).mono ?_;rintro e w' ⟨rfl,hw'⟩;obtain rfl:=hw'.symm;clear hw'
  go_wp2_with fail
  refine (h3 _ rfl).mono ?_;rintro e w' ⟨rfl,hw'⟩;obtain rfl:=hw'.symm;clear hw'
  clear h1 h2 h3 h4
  go_wp2_with fail
  refine h6.mono ?_;rintro e w1 ⟨rfl,k1⟩
  have h8:=h5 w1
  have h10:=h7 w1 k1
  clear h5 h6 h7
  go_wp2_with fail
  refine h8.mono ?_;rintro e w' ⟨rfl,hw'⟩;obtain rfl:=hw'.symm;clear h8 hw'
  go_wp2_with fail
  try rw [g1]
  try rw [G2.out.1]
  try rw [G2.out.2]
  refine h10.mono ?_;rintro e w2 ⟨rfl,k2⟩
  have hk3:Kp w w2:=Kp.trans k1 k2
  clear h10 k1 k2
  go_wp2
  exact bodyPost_ret (v:=.float .f64 Y) (by simp [results,Tryz.results54,go_sem]) rfl ⟨rfl,hk3⟩
end Go.Proofs.YtfhcmabejagknaaGreatDoor
