import Derived.Test.YtnileplkkmhdgaaGreatDoorKTO
import Derived.Test.YtnileplkkmhdgaaGreatDoorKXN
import Derived.Test.YtnileplkkmhdgaaGreatDoorKXTZ
set_option maxHeartbeats 1000000
set_option maxRecDepth 20000
namespace Go.Proofs.YtnileplkkmhdgaaGreatDoor
open Go.RowKit
theorem raiseInto_ (g n o s c1 d:Nat) (q:Option Addr) (us0 xs:List Int) (w:World) (hr:Rw w g n us0) (hul:us0.length = n) (hz:∀ j,us0.getD j 0 = 0) (hx:Arr w q xs) (hwx:Wd xs) (hq:0 < xs.length→∀ b off,q = some ⟨b,off,none⟩→b≠g) (ho:o + xs.length + 1 = n) (hn:n≤16777216) (hs:s < 32) (hcc:xs.length + 1≤c1) :
    Calls Tryz.prog 151 #[.slice (some ⟨g,o,none⟩) (xs.length + 1) c1,.slice q xs.length d,.int .i64 (s:Int)] w fun e w'=>∃ us,(∃ v,e = .returned v)∧Rw w' g n us∧us.length = n∧Wd us∧val us = val xs * 2 ^ s * 4294967296 ^ o∧Kb g w w':=by
  obtain ⟨N,hN⟩:∃ N,N = xs.length:=⟨_,rfl⟩
  have hv0:=val_zeros us0 hz
  have hw0:Wd us0:=fun j=>by rw [hz j];omega
  rw [← hN] at ho hcc ⊢
  have HX:Hid (Arr w q xs∧(0 < xs.length→∀ b off,q = some ⟨b,off,none⟩→b≠g)∧Wd xs∧N = xs.length):=⟨hx,hq,hwx,hN⟩
  have HZ:Hid (Rw w g n us0∧us0.length = n∧Wd us0∧val us0 = 0∧∀ j,us0.getD j 0 = 0):=⟨hr,hul,hw0,hv0,hz⟩
  clear hx hq hwx hN hr hul hz hv0 hw0
  go_enter Tryz.func151,Tryz.ntmps151
  go_wp2
  go_loopw [6,10] (fun cc ii wr=>∃ (k C:Nat) (us:List Int),cc = .int .u32 (C:Int)∧ii = .int .i64 k∧k≤N∧Rw wr g n us∧us.length = n∧Wd us∧C < 2 ^ s∧val us + C * 4294967296 ^ (o + k) = val (xs.take k) * 2 ^ s * 4294967296 ^ o∧(∀ j,o + k≤j→us.getD j 0 = 0)∧Kb g w wr) (fun _ i _=>N - (intOf i).toNat)
  case atStart=>exact ⟨0,0,us0,rfl,rfl,Nat.zero_le _,HZ.out.1,HZ.out.2.1,HZ.out.2.2.1,Nat.two_pow_pos s,by rw [HZ.out.2.2.2.1];simp [val],fun j _=>HZ.out.2.2.2.2 j,Kb.refl _ _⟩
  case round =>
    clear HZ
    obtain ⟨k,C,us,rfl,rfl,hk,hrow,hul,hwu,hC,hv,hz,hkb⟩:=hrel
    obtain ⟨hx,hq,hwx,hN⟩:=HX.out
    have h2s:2 ^ s≤2147483648:=by
      have:=Nat.pow_le_pow_right (show 0 < 2 by decide) (show s≤31 by omega)
      exact Nat.le_trans this (by decide)
    by_cases ck:k < N
    · obtain ⟨b',off',rfl,hc'⟩:=hx.at (k:=k) (by omega)
      have hbg:=hq (by omega) b' off' rfl
      have e2:=hkb.arr hbg (hc' k (by omega))
      have wx:=hwx k
      obtain ⟨X,hX⟩:∃ X:Nat,(X:Int) = xs.getD k 0:=⟨(xs.getD k 0).toNat,by omega⟩
      rw [← hX] at e2
      obtain ⟨w1,w2,w3,w4⟩:=shl_word X C s hs (by omega) hC
      obtain ⟨Y,hY⟩:∃ Y,Y = X * 2 ^ s % 4294967296:=⟨_,rfl⟩
      obtain ⟨C',hC'⟩:∃ C',C' = X / 2 ^ (32 - s):=⟨_,rfl⟩
      rw [← hY] at w1 w2 w4
      rw [← hC'] at w3 w4
      have hst:=raise_step us xs o k C C' (Y + C) s X (by omega) (hz _ (Nat.le_refl _)) (by rw [← hX,Int.toNat_natCast]) w4 hv
      have f1:IntKind.u32.wrap ((X:Int) * 2 ^ s) = (Y:Int):=by
        rw [IntKind.wrap_u32,hY];exact (cast_shl X s).symm
      have f2:=u32_or_nat Y C (by omega) (by omega)
      rw [w1] at f2
      have f3:(X:Int) / 2 ^ (32 - s) = (C':Int):=by rw [hC'];push_cast;rfl
      obtain ⟨Z,hZ⟩:∃ Z,Z = Y + C:=⟨_,rfl⟩
      rw [← hZ] at f2 hst w2
      have hw2:Wd (us.set (o + k) (Z:Int)):=hwu.set (o + k) Z (by omega)
      have hl2:(us.set (o + k) (Z:Int)).length = n:=by rw [List.length_set];exact hul
      have hz2:∀ j,o + (k + 1)≤j→(us.set (o + k) (Z:Int)).getD j 0 = 0:=fun j h1=>by
        have e1:(us.set (o + k) (Z:Int)).getD j 0 = us.getD j 0:=by simp [List.getD,show ¬ o + k = j from by omega]
        rw [e1];exact hz j (by omega)
      have e3:=World.rowIs.cell hrow (i:=o + k) (by omega)
      have e4:=World.rowIs.frozen hrow (o + k)
      have hR:=hrow.set (o + k) (Z:Int) (by omega)
      have hK:=hkb.setCell (o + k) (.int .u32 (Z:Int))
      have e5:(wr.setCell ⟨g,o + k,none⟩ (.int .u32 (Z:Int))).cell? ⟨b',off' + k,none⟩ = some (.int .u32 (X:Int)):=(World.cell?_setCell_far _ _ _ _ (Ne.symm hbg)).trans e2
      have i0:(0:Int)≤(k:Int):=by omega
      have i1:(k:Int) < (N:Int):=by omega
      have i2:(k:Int) < (N:Int) + 1:=by omega
      have i3:(0:Int)≤(s:Int):=by omega
      have i4:(0:Int)≤32 - (s:Int):=by omega
      have i5:(32 - (s:Int)).toNat = 32 - s:=by omega
      have HC:Hid (C' < 2 ^ s):=w3
      clear HX hx hq hwx hN hc' wx hX hY hC' hv hz hrow hul hwu hC w1 w3 w4 hZ hkb h2s
      go_wp2
      exact ⟨⟨k + 1,C',us.set (o + k) (Z:Int),rfl,by go_num,by omega,hR,hl2,hw2,HC.out,hst,hz2,hK⟩,by simp [intOf];omega⟩
    · have hkN:k = N:=by omega
      subst hkN
      rw [hN,List.take_length,← hN] at hv
      have hvs:=val_set us (o + k) (C:Int) (by omega)
      rw [hz _ (Nat.le_refl _),Int.toNat_natCast] at hvs
      have hv2:val (us.set (o + k) (C:Int)) = val xs * 2 ^ s * 4294967296 ^ o:=by rw [← hv];simpa using hvs
      have hw2:Wd (us.set (o + k) (C:Int)):=hwu.set (o + k) C (by omega)
      have hl2:(us.set (o + k) (C:Int)).length = n:=by rw [List.length_set];exact hul
      have e3:=World.rowIs.cell hrow (i:=o + k) (by omega)
      have e4:=World.rowIs.frozen hrow (o + k)
      have hR:=hrow.set (o + k) (C:Int) (by omega)
      have hK:=hkb.setCell (o + k) (.int .u32 (C:Int))
      have i1:¬ ((k:Int) < (k:Int)):=by omega
      have i2:(k:Int) < (k:Int) + 1:=by omega
      have i0:(0:Int)≤(k:Int):=by omega
      clear HX hx hq hwx hN hv hvs hz hrow hul hwu hC hkb h2s
      go_wp2
      exact bodyPost_end (v:=.tuple #[]) (by kernel_rfl) rfl ⟨⟨_,rfl⟩,_,hR,hl2,hw2,hv2,hK⟩
theorem sl32l (g o L K:Nat) (h:o + K = L) (hK:0 < K) (w:World):(Instr.slice 25 (.slice (some ⟨g,0,none⟩) L L) (some (.int .i64 (o:Int))) none none).run Tryz.prog w = .ok (.slice (some ⟨g,o,none⟩) K K) w:=by
  rw [run_slice_l w 25 (some ⟨g,0,none⟩) L L Tryz.underlying25 .i64 (o:Int) (by omega) (by omega)]
  have e:(sizeOf (Tryz.prog.elem 25)).run Tryz.prog w = .ok 1 w:=by kernel_rfl
  have e2:L - o = K:=by omega
  have e3:¬ L = o:=by omega
  rw [e]
  simp [Result.andThen,sliced,e2,e3,Addr.add_lit]
theorem pow_split (m:Nat):2 ^ (m % 32) * 4294967296 ^ (m / 32) = 2 ^ m:=by
  rw [pow32,← Nat.pow_add,show m % 32 + 32 * (m / 32) = m from by omega]
theorem raised_ (p:Option Addr) (c m:Nat) (xs:List Int) (w:World) (hx:Arr w p xs) (hwx:Wd xs) (h0:0 < xs.length) (lx:xs.length≤1048576) (hm:m≤16777216) :
    Calls Tryz.prog 123 #[.slice p xs.length c,.int .i64 (m:Int)] w fun e w'=>∃ v,e = .returned v∧Own w' w.heap.size v (dig (val xs * 2 ^ m))∧Kp w w':=by
  obtain ⟨N,hN⟩:∃ N,N = xs.length:=⟨_,rfl⟩
  obtain ⟨o,ho⟩:∃ o,o = m / 32:=⟨_,rfl⟩
  obtain ⟨s,hs⟩:∃ s,s = m % 32:=⟨_,rfl⟩
  obtain ⟨L,hL⟩:∃ L,L = o + N + 1:=⟨_,rfl⟩
  have hps:=pow_split m
  rw [← ho,← hs] at hps
  have hmk:∀ w:World,(Instr.makeSlice 25 (.int .i64 ((o:Int) + (N:Int) + 1)) (.int .i64 ((o:Int) + (N:Int) + 1))).run Tryz.prog w = .ok (.slice (some ⟨w.heap.size,0,none⟩) L L) (w.alloc (.cells (madeCells #[.int .u32 0] L) 72)):=by
    have:=mk32 L (by omega)
    have e:((L:Nat):Int) = (o:Int) + (N:Int) + 1:=by omega
    rw [e] at this
    exact this
  have hk1:Kp w (w.alloc (.cells (madeCells #[.int .u32 0] L) 72)):=(Kp.refl w).alloc _
  have hrz:Rw (w.alloc (.cells (madeCells #[.int .u32 0] L) 72)) w.heap.size L (List.replicate L 0):=World.rowIs.congr (World.rowIs_made w (.int .u32 0) L 72) (fun j _=>by rw [rep0_getD])
  have hri:=raiseInto_ w.heap.size L o s (N + 1) c p (List.replicate L 0) xs _ hrz (by simp) (fun j=>rep0_getD L j) (hx.grown hk1) hwx (fun h b off e=>by
    obtain ⟨b2,o2,h1,h2⟩:=hx.at h
    rw [h1] at e
    cases e
    have:=cell_lt (h2 0 h)
    omega) (by omega) (by omega) (by omega) (by omega)
  rw [← hN] at hri h0 ⊢
  obtain ⟨g,hg⟩:∃ g,g = w.heap.size:=⟨_,rfl⟩
  rw [← hg] at hri
  have hsl:=sl32l g o L (N + 1) (by omega) (by omega)
  have f1:(m:Int) / 32 = (o:Int):=by omega
  have f2:(m:Int) % 32 = (s:Int):=by omega
  have t0:((N:Int) == 0) = false:=by simp;omega
  have i0:(0:Int)≤(o:Int):=by omega
  have i1:(o:Int)≤(L:Int):=by omega
  have i2:¬ (L = o):=by omega
  have i3:L - o = N + 1:=by omega
  have lN:N≤1048576:=by omega
  have lo:o≤524288:=by omega
  have HG:Hid (g = w.heap.size∧L≤2097152∧2 ^ s * 4294967296 ^ o = 2 ^ m∧Kp w (w.alloc (.cells (madeCells #[.int .u32 0] L) 72))):=⟨hg,by omega,hps,hk1⟩
  clear hx hwx lx hN ho hs hL hps hrz h0 hk1
  go_enter Tryz.func123,Tryz.ntmps123
  go_wp2_with fail
  rw [← hg]
  clear hg
  refine hri.mono ?_;rintro e w2 ⟨us,⟨v0,rfl⟩,hrow,hul,hwu,hv,hkb⟩
  clear hri
  obtain ⟨hg,hLb,hps,hk1⟩:=HG.out
  have hk2:Kp w w2:=hkb.kp hk1 (by omega)
  have hA:=hrow.arr L (Nat.le_refl _) (by omega)
  rw [List.take_of_length_le (by omega)] at hA
  have htr:=trim_ (some ⟨g,0,none⟩) L us w2 hA (by omega) (by omega)
  have hO:Own w2 w.heap.size (.slice (some ⟨g,0,none⟩) (tl us) L) (dig (val xs * 2 ^ m)):=by
    have h1:=Own.of_row (base:=w.heap.size) (k:=tl us) hrow (by omega) (by have:=tl_le us;omega) hul (by unfold maxLen;omega)
    have h2:us.take (tl us) = dig (val xs * 2 ^ m):=by rw [← hps,← Nat.mul_assoc,← hv,← nz_dig us hwu];rfl
    rw [h2] at h1
    exact h1
  rw [hul] at htr
  obtain ⟨T,hT⟩:∃ T,T = tl us:=⟨_,rfl⟩
  rw [← hT] at htr hO
  clear hA hrow hul hwu hv hT HG hkb hLb hps hk1 hg hsl hmk
  go_wp2_with (first | (go_at_call 120;refine htr.mono ?_;rintro e w' ⟨rfl,hw'⟩;obtain rfl:=hw'.symm))
  exact bodyPost_ret (v:=.slice (some ⟨g,0,none⟩) T L) (by simp [results,Tryz.results123,go_sem] <;> simp only [*]) rfl ⟨_,rfl,hO,hk2⟩
theorem nshl_ (p:Option Addr) (c:Nat) (xs:List Int) (w:World) (n:Int) (hx:Arr w p xs) (hwx:Wd xs) (lx:xs.length≤16777216) (hc:xs.length≤c) :
    Calls Tryz.prog 94 #[.slice p xs.length c,.int .i64 n] w fun e w'=>∃ v,e = .returned (.tuple #[v,.int .i64 (shlN (val xs) n).2])∧Own w' w.heap.size v (shlN (val xs) n).1∧Kp w w':=by
  have h1:=trim_ p c xs w hx (by omega) hc
  have h2:=tooLong_ p (tl xs) c
  have lS:=tl_le xs
  have h4:=nlen_ p c (nz xs) w (hx.take _) (hwx.take _) (by rw [nz_length];omega) (by rw [nz_length];omega)
  have h6:=fun (m:Nat) a b d=>raised_ p c m (nz xs) w (hx.take _) (hwx.take _) a b d
  rw [nz_length,val_nz] at h4 h6
  have e1:=tl_len xs hwx
  have hz0:tl xs = 0→val xs = 0:=fun h=>by rw [← val_tl xs,h];rfl
  have hz1:val xs = 0→tl xs = 0:=fun h=>by rw [e1,h];unfold len32;rw [dig_zero];rfl
  obtain ⟨a,ha⟩:∃ a,a = val xs:=⟨_,rfl⟩
  rw [← ha] at h4 h6 e1 hz0 hz1
  obtain ⟨N,hN⟩:∃ N,N = xs.length:=⟨_,rfl⟩
  obtain ⟨S,hS⟩:∃ S,S = tl xs:=⟨_,rfl⟩
  rw [← hN,← hS] at h1
  rw [← hS] at h2 h4 h6 e1 lS hz0 hz1
  rw [← hN,← ha]
  clear hx hwx lx hc hN hS ha lS
  by_cases c0:n < 0
  · have e3:shlN a n = ([],1):=by unfold shlN;rw [if_pos c0]
    rw [e3]
    clear h2 h4 h6 e1 e3 hz0 hz1
    go_enter Tryz.func94,Tryz.ntmps94
    go_wp2_with fail
    refine h1.mono ?_;rintro e w' ⟨rfl,hw'⟩;obtain rfl:=hw'.symm
    go_wp2
    exact bodyPost_ret (v:=.tuple #[.slice none 0 0,.int .i64 1]) (by simp [results,Tryz.results94,go_sem] <;> simp only [*]) rfl ⟨_,rfl,Own.nil _ _,Kp.refl _⟩
  obtain ⟨m,rfl⟩:=Int.eq_ofNat_of_zero_le (by omega:0≤n)
  by_cases c1:16384 < S
  · have e3:shlN a (m:Int) = ([],2):=by unfold shlN;rw [if_neg c0,if_pos (by omega)]
    rw [e3]
    rw [decide_eq_true c1] at h2
    clear h4 h6 e1 e3 c1 hz0 hz1
    go_enter Tryz.func94,Tryz.ntmps94
    go_wp2_with fail
    refine h1.mono ?_;rintro e w' ⟨rfl,hw'⟩;obtain rfl:=hw'.symm
    go_wp2_with fail
    refine (h2 _).mono ?_;rintro e w' ⟨rfl,hw'⟩;obtain rfl:=hw'.symm
    go_wp2
    exact bodyPost_ret (v:=.tuple #[.slice none 0 0,.int .i64 2]) (by simp [results,Tryz.results94,go_sem] <;> simp only [*]) rfl ⟨_,rfl,Own.nil _ _,Kp.refl _⟩
  rw [decide_eq_false c1] at h2
  have t0:¬ ((m:Int) < 0):=by omega
  by_cases c2:a = 0
  · have e3:shlN a (m:Int) = ([],0):=by unfold shlN;rw [if_neg c0,if_neg (by omega),if_pos c2]
    rw [e3]
    have hS0:=hz1 c2
    subst hS0
    clear h4 h6 e1 e3 c1 hz0 hz1 c0 c2
    go_enter Tryz.func94,Tryz.ntmps94
    go_wp2_with fail
    refine h1.mono ?_;rintro e w' ⟨rfl,hw'⟩;obtain rfl:=hw'.symm
    go_wp2_with fail
    refine (h2 _).mono ?_;rintro e w' ⟨rfl,hw'⟩;obtain rfl:=hw'.symm
    go_wp2
    exact bodyPost_ret (v:=.tuple #[.slice none 0 0,.int .i64 0]) (by simp [results,Tryz.results94,go_sem] <;> simp only [*]) rfl ⟨_,rfl,Own.nil _ _,Kp.refl _⟩
  have hS0:S≠0:=fun h=>c2 (hz0 h)
  have t2:((S:Int) == 0) = false:=by simp;omega
  have hLb:=blen_len a 16384 (by omega)
  obtain ⟨L,hL⟩:∃ L,L = blen a:=⟨_,rfl⟩
  rw [← hL] at h4 hLb
  by_cases c3:524288 < L + m
  · have e3:shlN a (m:Int) = ([],2):=by unfold shlN;rw [if_neg c0,if_neg (by omega),if_neg c2,Int.toNat_natCast,if_pos (by omega)]
    rw [e3]
    have t3:524288 - (L:Int) < (m:Int):=by omega
    have hLb2:L≤524288:=by omega
    clear h6 e1 e3 c1 hz0 hz1 c0 c2 c3 hL hLb hS0
    go_enter Tryz.func94,Tryz.ntmps94
    go_wp2_with fail
    refine h1.mono ?_;rintro e w' ⟨rfl,hw'⟩;obtain rfl:=hw'.symm
    go_wp2_with fail
    refine (h2 _).mono ?_;rintro e w' ⟨rfl,hw'⟩;obtain rfl:=hw'.symm
    go_wp2_with fail
    refine h4.mono ?_;rintro e w' ⟨rfl,hw'⟩;obtain rfl:=hw'.symm
    go_wp2
    exact bodyPost_ret (v:=.tuple #[.slice none 0 0,.int .i64 2]) (by simp [results,Tryz.results94,go_sem] <;> simp only [*]) rfl ⟨_,rfl,Own.nil _ _,Kp.refl _⟩
  have e3:shlN a (m:Int) = (dig (a * 2 ^ m),0):=by unfold shlN;rw [if_neg c0,if_neg (by omega),if_neg c2,Int.toNat_natCast,if_neg (by omega)]
  rw [e3]
  have t3:¬ (524288 - (L:Int) < (m:Int)):=by omega
  have hLb2:L≤524288:=by omega
  have h7:=h6 m (by omega) (by omega) (by omega)
  clear h6 e1 e3 c1 hz0 hz1 c0 c2 c3 hL hLb hS0
  go_enter Tryz.func94,Tryz.ntmps94
  go_wp2_with fail
  refine h1.mono ?_;rintro e w' ⟨rfl,hw'⟩;obtain rfl:=hw'.symm
  go_wp2_with fail
  refine (h2 _).mono ?_;rintro e w' ⟨rfl,hw'⟩;obtain rfl:=hw'.symm
  go_wp2_with fail
  refine h4.mono ?_;rintro e w' ⟨rfl,hw'⟩;obtain rfl:=hw'.symm
  go_wp2_with fail
  refine h7.mono ?_;rintro e w1 ⟨v,rfl,hO,hk⟩
  go_wp2
  exact bodyPost_ret (v:=.tuple #[v,.int .i64 0]) (by simp [results,Tryz.results94,go_sem] <;> simp only [*]) rfl ⟨_,rfl,hO,hk⟩
theorem sl32a (b off o N c:Nat) (h:o < N) (hc:N≤c) (w:World):(Instr.slice 25 (.slice (some ⟨b,off,none⟩) N c) (some (.int .i64 (o:Int))) none none).run Tryz.prog w = .ok (.slice (some ⟨b,off + o,none⟩) (N - o) (c - o)) w:=by
  rw [run_slice_l w 25 (some ⟨b,off,none⟩) N c Tryz.underlying25 .i64 (o:Int) (by omega) (by omega)]
  have e:(sizeOf (Tryz.prog.elem 25)).run Tryz.prog w = .ok 1 w:=by kernel_rfl
  have e3:¬ c = o:=by omega
  rw [e]
  simp [Result.andThen,sliced,e3,Addr.add_lit]
theorem lowered_ (p:Option Addr) (c m:Nat) (xs:List Int) (w:World) (hx:Arr w p xs) (hwx:Wd xs) (lx:xs.length≤1048576) (hc:xs.length≤c) (hm9:(m:Int) < 9223372036854775808) :
    Calls Tryz.prog 161 #[.slice p xs.length c,.int .i64 (m:Int)] w fun e w'=>∃ v,e = .returned v∧Own w' w.heap.size v (dig (val xs / 2 ^ m))∧Kp w w':=by
  obtain ⟨o,ho⟩:∃ o,o = m / 32:=⟨_,rfl⟩
  obtain ⟨s,hs⟩:∃ s,s = m % 32:=⟨_,rfl⟩
  have hpd:=pow_div (val xs) m
  rw [← ho,← hs] at hpd
  have hs32:s < 32:=by omega
  have f1:(m:Int) / 32 = (o:Int):=by omega
  have f2:(m:Int) % 32 = (s:Int):=by omega
  by_cases co:xs.length≤o
  · have e0:val xs / 2 ^ m = 0:=by
      rw [hpd,Nat.div_eq_of_lt (Nat.lt_of_lt_of_le (val_lt xs hwx) (Nat.pow_le_pow_right (by decide) co)),Nat.zero_div]
    rw [e0,dig_zero]
    obtain ⟨N,hN⟩:∃ N,N = xs.length:=⟨_,rfl⟩
    rw [← hN] at co ⊢
    have t1:(N:Int)≤(o:Int):=by omega
    have f3:=w64 (o:Int) (Int.natCast_nonneg _) (by omega)
    clear hx hwx lx hc hN ho hs hpd hs32 e0 co hm9
    go_enter Tryz.func161,Tryz.ntmps161
    go_wp2
    exact bodyPost_ret (v:=.slice none 0 0) (by simp [results,Tryz.results161,go_sem] <;> simp only [*]) rfl ⟨_,rfl,Own.nil _ _,Kp.refl _⟩
  · obtain ⟨b,off,rfl,hcell⟩:=hx.at (k:=o) (by omega)
    have hA:Arr w (some ⟨b,off + o,none⟩) (xs.drop o):=Or.inr ⟨b,off + o,rfl,fun j hj=>by
      rw [List.length_drop] at hj
      have:=hcell (o + j) (by omega)
      rw [Nat.add_assoc,this]
      simp [List.getD,List.getElem?_drop]⟩
    have hdl:(xs.drop o).length = xs.length - o:=List.length_drop
    have hfr:=fresh_ (some ⟨b,off + o,none⟩) (c - o) (xs.drop o) w hA (by omega)
    have hVd:=(val_div xs hwx o (by omega)).1
    rw [hVd] at hpd
    obtain ⟨ys,hys⟩:∃ ys,ys = xs.drop o:=⟨_,rfl⟩
    have hwy:Wd ys:=by rw [hys];exact hwx.drop o
    rw [← hys] at hfr hpd hdl
    rw [hpd]
    have hsl:=sl32a b off o xs.length c (by omega) hc
    obtain ⟨N,hN⟩:∃ N,N = xs.length:=⟨_,rfl⟩
    rw [← hN] at hdl hsl co lx hc ⊢
    obtain ⟨L,hL⟩:∃ L,L = N - o:=⟨_,rfl⟩
    rw [← hL] at hsl hdl
    rw [hdl] at hfr
    have t1:¬ ((N:Int)≤(o:Int)):=by omega
    have i0:(0:Int)≤(o:Int):=by omega
    have i1:(o:Int)≤(N:Int):=by omega
    have i2:¬ (c = o):=by omega
    have i3:N - o = L:=by omega
    have lL:L≤1048576:=by omega
    have lo:o≤1048576:=by omega
    have hL1:1≤L:=by omega
    have HX:Hid (Wd ys∧ys.length = L∧s < 32):=⟨hwy,hdl,hs32⟩
    clear hx hwx lx hc hcell hA hVd hpd hys hwy hdl hN hL ho hs co hm9
    go_enter Tryz.func161,Tryz.ntmps161
    go_wp2_with fail
    refine hfr.mono ?_;rintro e w2 ⟨g,rfl,hgw,hrz,hk2⟩
    clear hfr hsl
    have HG:Hid (w.heap.size≤g):=hgw
    clear hgw
    go_wp2
    go_loopw [23] (fun ii wr=>∃ (k:Nat) (us:List Int),ii = .int .i64 k∧k + 1≤L∧Rw wr g L us∧us.length = L∧Wd us∧(∀ j,j < k→us.getD j 0 = ((val ys / 2 ^ s / 4294967296 ^ j % 4294967296:Nat):Int))∧(∀ j,k≤j→us.getD j 0 = ys.getD j 0)∧Kp w wr) (fun i _=>L - (intOf i).toNat)
    case atStart=>exact ⟨0,ys,rfl,by omega,hrz,HX.out.2.1,HX.out.1,fun j h=>by omega,fun j _=>rfl,hk2⟩
    case round =>
      clear hrz hk2
      obtain ⟨k,us,rfl,hk,hrow,hul,hwu,hdg,hsam,hkp⟩:=hrel
      obtain ⟨hwy,hyl,hs32⟩:=HX.out
      by_cases ck:k + 1 < L
      · have wx:=hwy k
        have wy:=hwy (k + 1)
        obtain ⟨X,hX⟩:∃ X:Nat,ys.getD k 0 = (X:Int):=⟨(ys.getD k 0).toNat,by omega⟩
        obtain ⟨Y,hY⟩:∃ Y:Nat,ys.getD (k + 1) 0 = (Y:Int):=⟨(ys.getD (k + 1) 0).toNat,by omega⟩
        have e1:=World.rowIs.cell hrow (i:=k) (by omega)
        have e2:=World.rowIs.cell hrow (i:=k + 1) (by omega)
        rw [hsam k (Nat.le_refl _),hX] at e1
        rw [hsam (k + 1) (by omega),hY] at e2
        have e4:=World.rowIs.frozen hrow k
        have hlw:=low_word ys hwy k s X Y hs32 (by omega) hX hY
        obtain ⟨P,hP⟩:∃ P,P = X / 2 ^ s:=⟨_,rfl⟩
        obtain ⟨Q,hQ⟩:∃ Q,Q = Y * 2 ^ (32 - s) % 4294967296:=⟨_,rfl⟩
        have hP32:P < 4294967296:=by rw [hP];exact Nat.lt_of_le_of_lt (Nat.div_le_self _ _) (by omega)
        have hQ32:Q < 4294967296:=by rw [hQ];exact Nat.mod_lt _ (by decide)
        have f3:(X:Int) / 2 ^ s = (P:Int):=by rw [hP];push_cast;rfl
        have f4:IntKind.u32.wrap ((Y:Int) * 2 ^ (32 - s)) = (Q:Int):=by rw [IntKind.wrap_u32,hQ];exact (cast_shl Y (32 - s)).symm
        rw [← hP,← hQ] at hlw
        have f5:=u32_or_nat P Q hP32 hQ32
        have hZ32:P ||| Q < 4294967296:=Nat.or_lt_two_pow (n:=32) hP32 hQ32
        obtain ⟨Z,hZ⟩:∃ Z,Z = P ||| Q:=⟨_,rfl⟩
        rw [← hZ] at f5 hlw hZ32
        have hw2:Wd (us.set k (Z:Int)):=hwu.set k Z (by omega)
        have hl2:(us.set k (Z:Int)).length = L:=by rw [List.length_set];exact hul
        have HD:Hid (∀ j,j < k + 1→(us.set k (Z:Int)).getD j 0 = ((val ys / 2 ^ s / 4294967296 ^ j % 4294967296:Nat):Int)):=fun j hj=>by
          by_cases e:j = k
          · subst e;rw [hlw];simp [List.getD,show j < us.length from by omega]
          · rw [← hdg j (by omega)];simp [List.getD,show ¬ k = j from fun h=>e h.symm]
        have HS:Hid (∀ j,k + 1≤j→(us.set k (Z:Int)).getD j 0 = ys.getD j 0):=fun j hj=>by
          rw [← hsam j (by omega)];simp [List.getD,show ¬ k = j from by omega]
        have hR:∀ w',Kp wr w'→Rw (w'.setCell ⟨g,k,none⟩ (.int .u32 (Z:Int))) g L (us.set k (Z:Int)):=fun w' h=>(hrow.grown h).set k Z (by omega)
        have hgw:=HG.out
        have i4:(0:Int)≤(k:Int):=by omega
        have i5:(k:Int) < (L:Int):=by omega
        have i6:(k:Int) < (L:Int) - 1:=by omega
        have i7:(0:Int)≤(k:Int) + 1:=by omega
        have i8:(k:Int) + 1 < (L:Int):=by omega
        have i9:(0:Int)≤(s:Int):=by omega
        have i10:(0:Int)≤32 - (s:Int):=by omega
        have i11:(32 - (s:Int)).toNat = 32 - s:=by omega
        have i12:=wi64 ((k:Int) + 1) i7 (by omega)
        have i13:=wi64 (32 - (s:Int)) i10 (by omega)
        clear HX hwy hyl hs32 wx wy hX hY hlw hP hQ hP32 hQ32 hZ hZ32 hrow hul hwu hdg hsam HG
        have hRf:Rw (wr.setCell ⟨g,k,none⟩ (.int .u32 (Z:Int))).drew g L (us.set k (Z:Int)):=hR wr (Kp.refl _)
        have hKf:Kp w (wr.setCell ⟨g,k,none⟩ (.int .u32 (Z:Int))).drew:=(hkp.setCell hgw _).drew
        clear hR hkp hgw
        go_wp2
        first | (go_region_with (fail)) | fail
        all_goals clear i12 i13 e1 e2 e4
        all_goals go_wp2
        all_goals exact ⟨⟨k + 1,us.set k (Z:Int),by go_num,by omega,hRf,hl2,hw2,HD.out,HS.out,hKf⟩,by simp [intOf];omega⟩
      · have hkL:L = k + 1:=by omega
        have wx:=hwy k
        obtain ⟨X,hX⟩:∃ X:Nat,ys.getD k 0 = (X:Int):=⟨(ys.getD k 0).toNat,by omega⟩
        have e1:=World.rowIs.cell hrow (i:=k) (by omega)
        rw [hsam k (Nat.le_refl _),hX] at e1
        have e4:=World.rowIs.frozen hrow k
        have hlw:=low_last ys hwy k s X (by omega) hX
        obtain ⟨P,hP⟩:∃ P,P = X / 2 ^ s:=⟨_,rfl⟩
        have hP32:P < 4294967296:=by rw [hP];exact Nat.lt_of_le_of_lt (Nat.div_le_self _ _) (by omega)
        have f3:(X:Int) / 2 ^ s = (P:Int):=by rw [hP];push_cast;rfl
        rw [← hP] at hlw
        have hw2:Wd (us.set k (P:Int)):=hwu.set k P (by omega)
        have hl2:(us.set k (P:Int)).length = L:=by rw [List.length_set];exact hul
        have hall:=low_all (us.set k (P:Int)) ys hwy s (by rw [hl2,hyl]) (fun j hj=>by
          rw [hl2] at hj
          by_cases e:j = k
          · subst e;rw [hlw];simp [List.getD,show j < us.length from by omega]
          · rw [← hdg j (by omega)];simp [List.getD,show ¬ k = j from fun h=>e h.symm])
        have hR:=hrow.set k (P:Int) (by omega)
        have hgw:=HG.out
        have hK:Kp w (wr.setCell ⟨g,k,none⟩ (.int .u32 (P:Int))):=hkp.setCell hgw _
        have hA:=hR.arr L (Nat.le_refl _) (by omega)
        rw [List.take_of_length_le (by omega)] at hA
        have htr:=trim_ (some ⟨g,0,none⟩) L (us.set k (P:Int)) _ hA (by omega) (by omega)
        have hO:Own (wr.setCell ⟨g,k,none⟩ (.int .u32 (P:Int))) w.heap.size (.slice (some ⟨g,0,none⟩) (tl (us.set k (P:Int))) L) (dig (val ys / 2 ^ s)):=by
          have h1:=Own.of_row (base:=w.heap.size) (k:=tl (us.set k (P:Int))) hR hgw (by have:=tl_le (us.set k (P:Int));omega) hl2 (by unfold maxLen;omega)
          have h2:(us.set k (P:Int)).take (tl (us.set k (P:Int))) = dig (val ys / 2 ^ s):=by rw [← hall,← nz_dig _ hw2];rfl
          rw [h2] at h1
          exact h1
        rw [hl2] at htr
        obtain ⟨T,hT⟩:∃ T,T = tl (us.set k (P:Int)):=⟨_,rfl⟩
        rw [← hT] at htr hO
        have i4:(0:Int)≤(k:Int):=by omega
        have i5:¬ ((k:Int) < (L:Int) - 1):=by omega
        have i6:(L:Int) - 1 = (k:Int):=by omega
        have i7:(k:Int) < (L:Int):=by omega
        have i9:(0:Int)≤(s:Int):=by omega
        clear HX hwy hyl hs32 wx hX hlw hP hP32 hrow hul hwu hdg hsam HG hkp hgw hR hA hall hT hw2 hl2 hkL ck hk
        go_wp2_with (first | (go_at_call 120;refine htr.mono ?_;rintro e w' ⟨rfl,hw'⟩;subst hw'))
        exact bodyPost_ret (v:=.slice (some ⟨g,0,none⟩) T L) (by simp [results,Tryz.results161,go_sem] <;> simp only [*]) rfl ⟨_,rfl,hO,hK⟩
theorem nshr_ (p:Option Addr) (c:Nat) (xs:List Int) (w:World) (n:Int) (hn9:n < 9223372036854775808) (hT:Tab w) (hx:Arr w p xs) (hwx:Wd xs) (lx:xs.length≤1048576) (hc:xs.length≤c) :
    Calls Tryz.prog 157 #[.slice p xs.length c,.int .i64 n] w fun e w'=>∃ v,e = .returned (.tuple #[v,.bool (shrN (val xs) n).2.1,.int .i64 (shrN (val xs) n).2.2])∧Own w' w.heap.size v (shrN (val xs) n).1∧Kp w w':=by
  have h1:=trim_ p c xs w hx (by omega) hc
  have h2:=tooLong_ p (tl xs) c
  have lS:=tl_le xs
  have h4:=fun w' (k:Kp w w')=>nzeros_ p c (nz xs) w' ((hx.take _).grown k) (hwx.take _) (by rw [nz_length];omega) (hT.grown k)
  have h6:=fun (m:Nat) d=>lowered_ p c m (nz xs) w (hx.take _) (hwx.take _) (by rw [nz_length];omega) (by rw [nz_length];omega) d
  rw [nz_length,val_nz] at h4 h6
  have e1:=tl_len xs hwx
  have hz0:tl xs = 0→val xs = 0:=fun h=>by rw [← val_tl xs,h];rfl
  have hz1:val xs = 0→tl xs = 0:=fun h=>by rw [e1,h];unfold len32;rw [dig_zero];rfl
  obtain ⟨a,ha⟩:∃ a,a = val xs:=⟨_,rfl⟩
  rw [← ha] at h4 h6 e1 hz0 hz1
  obtain ⟨N,hN⟩:∃ N,N = xs.length:=⟨_,rfl⟩
  obtain ⟨S,hS⟩:∃ S,S = tl xs:=⟨_,rfl⟩
  rw [← hN,← hS] at h1
  rw [← hS] at h2 h4 h6 e1 lS hz0 hz1
  rw [← hN,← ha]
  clear hx hwx lx hc hN hS ha lS hT
  by_cases c0:n < 0
  · have e3:shrN a n = ([],false,1):=by unfold shrN;rw [if_pos c0]
    rw [e3]
    clear h2 h4 h6 e1 e3 hz0 hz1 hn9
    go_enter Tryz.func157,Tryz.ntmps157
    go_wp2_with fail
    refine h1.mono ?_;rintro e w' ⟨rfl,hw'⟩;obtain rfl:=hw'.symm
    go_wp2
    exact bodyPost_ret (v:=.tuple #[.slice none 0 0,.bool false,.int .i64 1]) (by simp [results,Tryz.results157,go_sem] <;> simp only [*]) rfl ⟨_,rfl,Own.nil _ _,Kp.refl _⟩
  obtain ⟨m,rfl⟩:=Int.eq_ofNat_of_zero_le (by omega:0≤n)
  have t0:¬ ((m:Int) < 0):=by omega
  by_cases c1:16384 < S
  · have e3:shrN a (m:Int) = ([],false,2):=by unfold shrN;rw [if_neg c0,if_pos (by omega)]
    rw [e3]
    rw [decide_eq_true c1] at h2
    clear h4 h6 e1 e3 c1 hz0 hz1 hn9
    go_enter Tryz.func157,Tryz.ntmps157
    go_wp2_with fail
    refine h1.mono ?_;rintro e w' ⟨rfl,hw'⟩;obtain rfl:=hw'.symm
    go_wp2_with fail
    refine (h2 _).mono ?_;rintro e w' ⟨rfl,hw'⟩;obtain rfl:=hw'.symm
    go_wp2
    exact bodyPost_ret (v:=.tuple #[.slice none 0 0,.bool false,.int .i64 2]) (by simp [results,Tryz.results157,go_sem] <;> simp only [*]) rfl ⟨_,rfl,Own.nil _ _,Kp.refl _⟩
  rw [decide_eq_false c1] at h2
  have e3:shrN a (m:Int) = (dig (a / 2 ^ m),decide (a % 2 ^ m≠0),0):=by unfold shrN;rw [if_neg c0,if_neg (by omega),Int.toNat_natCast]
  rw [e3]
  have h7:=h6 m hn9
  have hmc:=mod_ctz a m
  obtain ⟨Z,hZ⟩:∃ Z,Z = dig (a / 2 ^ m):=⟨_,rfl⟩
  rw [← hZ] at h7 ⊢
  by_cases c2:S = 0
  · have hb:decide (a % 2 ^ m≠0) = false:=by
      rw [decide_eq_false];intro h;exact (hmc.1 h).1 (hz0 c2)
    rw [hb]
    subst c2
    clear h6 e1 e3 c0 c1 hz0 hz1 hn9 hmc hZ h4 hb
    go_enter Tryz.func157,Tryz.ntmps157
    go_wp2_with fail
    refine h1.mono ?_;rintro e w' ⟨rfl,hw'⟩;obtain rfl:=hw'.symm
    go_wp2_with fail
    refine (h2 _).mono ?_;rintro e w' ⟨rfl,hw'⟩;obtain rfl:=hw'.symm
    go_wp2_with fail
    refine h7.mono ?_;rintro e w1 ⟨v,rfl,hO,hk⟩
    go_wp2
    exact bodyPost_ret (v:=.tuple #[v,.bool false,.int .i64 0]) (by simp [results,Tryz.results157,go_sem] <;> simp only [*]) rfl ⟨_,rfl,hO,hk⟩
  have t2:(0:Int) < (S:Int):=by omega
  have ha0:a≠0:=fun h=>c2 (hz1 h)
  obtain ⟨C,hC⟩:∃ C,C = ctz a:=⟨_,rfl⟩
  rw [← hC] at h4 hmc
  by_cases c3:C < m
  · have hb:decide (a % 2 ^ m≠0) = true:=decide_eq_true (hmc.2 ⟨ha0,c3⟩)
    rw [hb]
    have t3:(C:Int) < (m:Int):=by omega
    clear h6 e1 e3 c0 c1 hz0 hz1 hn9 hmc hZ hb c2 ha0 hC c3
    go_enter Tryz.func157,Tryz.ntmps157
    go_wp2_with fail
    refine h1.mono ?_;rintro e w' ⟨rfl,hw'⟩;obtain rfl:=hw'.symm
    go_wp2_with fail
    refine (h2 _).mono ?_;rintro e w' ⟨rfl,hw'⟩;obtain rfl:=hw'.symm
    go_wp2_with fail
    refine h7.mono ?_;rintro e w1 ⟨v,rfl,hO,hk⟩
    have h8:=h4 w1 hk
    clear h7 h4
    go_wp2_with fail
    refine h8.mono ?_;rintro e w' ⟨rfl,hw'⟩;obtain rfl:=hw'.symm
    go_wp2
    exact bodyPost_ret (v:=.tuple #[v,.bool true,.int .i64 0]) (by simp [results,Tryz.results157,go_sem] <;> simp only [*]) rfl ⟨_,rfl,hO,hk⟩
  · have hb:decide (a % 2 ^ m≠0) = false:=by
      rw [decide_eq_false];intro h;exact c3 (hmc.1 h).2
    rw [hb]
    have t3:¬ ((C:Int) < (m:Int)):=by omega
    clear h6 e1 e3 c0 c1 hz0 hz1 hn9 hmc hZ hb c2 ha0 hC c3
    go_enter Tryz.func157,Tryz.ntmps157
    go_wp2_with fail
    refine h1.mono ?_;rintro e w' ⟨rfl,hw'⟩;obtain rfl:=hw'.symm
    go_wp2_with fail
    refine (h2 _).mono ?_;rintro e w' ⟨rfl,hw'⟩;obtain rfl:=hw'.symm
    go_wp2_with fail
    refine h7.mono ?_;rintro e w1 ⟨v,rfl,hO,hk⟩
    have h8:=h4 w1 hk
    clear h7 h4
    go_wp2_with fail
    refine h8.mono ?_;rintro e w' ⟨rfl,hw'⟩;obtain rfl:=hw'.symm
    go_wp2
    exact bodyPost_ret (v:=.tuple #[v,.bool false,.int .i64 0]) (by simp [results,Tryz.results157,go_sem] <;> omega) rfl ⟨_,rfl,hO,hk⟩
end Go.Proofs.YtnileplkkmhdgaaGreatDoor
