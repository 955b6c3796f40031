import Derived.Test.YtaidnpjgkkdloaaGreatDoorKLN
import Derived.Deep.RegionHeld3
import Derived.Laws.Slices
set_option maxHeartbeats 3000000
set_option maxRecDepth 20000
namespace Go.Proofs.YtaidnpjgkkdloaaGreatDoor
open Go.RowKit
theorem Kb.kp2 {g:Nat} {w w' w'':World} (h:Kb g w w') (k:Kp w' w''):Kb g w w'' :=
  ⟨k.os.trans h.1,k.tape.trans h.2.1,k.output.trans h.2.2.1,Nat.le_trans h.2.2.2.1 k.size,fun i hi hne=>(Below.block k i (Nat.lt_of_lt_of_le hi h.2.2.2.1)).trans (h.2.2.2.2 i hi hne)⟩
theorem addTimes_ (g n i c1 d X:Nat) (q:Option Addr) (zs ys:List Int) (w:World) (hr:Rw w g n zs) (hzl:zs.length = n) (hwz:Wd zs) (hy:Arr w q ys) (hwy:Wd ys) (hX:X < 4294967296) (hq:0 < ys.length→∀ b off,q = some ⟨b,off,none⟩→b≠g) (hin:i + ys.length≤n) (hn:n≤1099511627776) (hcc:ys.length≤c1) :
    Calls Tryz.prog 146 #[.slice (some ⟨g,i,none⟩) ys.length c1,.slice q ys.length d,.int .u32 (X:Int)] w fun e w'=>∃ (C:Nat) (us:List Int),e = .returned (.int .u32 (C:Int))∧Rw w' g n us∧us.length = n∧Wd us∧C < 4294967296∧val us + C * 4294967296 ^ (i + ys.length) = val zs + val ys * X * 4294967296 ^ i∧(∀ j,i + ys.length≤j→us.getD j 0 = zs.getD j 0)∧Kb g w w':=by
  obtain ⟨M,hM⟩:∃ M,M = ys.length:=⟨_,rfl⟩
  rw [← hM] at hin hcc ⊢
  have HY:Hid (Arr w q ys∧(0 < ys.length→∀ b off,q = some ⟨b,off,none⟩→b≠g)):=⟨hy,hq⟩
  have HW:Hid (Wd ys∧M = ys.length):=⟨hwy,hM⟩
  have HZ:Hid (Rw w g n zs∧zs.length = n∧Wd zs):=⟨hr,hzl,hwz⟩
  have hX2:IntKind.u64.wrap (X:Int) = (X:Int):=by rw [IntKind.wrap_u64];omega
  clear hy hq hwy hM hr hzl hwz
  go_enter Tryz.func146,Tryz.ntmps146
  go_wp2
  go_loopw [7,11] (fun cc ii wr=>∃ (k C:Nat) (us:List Int),cc = .int .u64 (C:Int)∧ii = .int .i64 k∧k≤M∧Rw wr g n us∧us.length = n∧Wd us∧C < 4294967296∧val us + C * 4294967296 ^ (i + k) = val zs + val (ys.take k) * X * 4294967296 ^ i∧(∀ j,i + k≤j→us.getD j 0 = zs.getD j 0)∧Kb g w wr) (fun _ i _=>M - (intOf i).toNat)
  case atStart=>exact ⟨0,0,zs,rfl,rfl,Nat.zero_le _,HZ.out.1,HZ.out.2.1,HZ.out.2.2,by omega,by simp [val],fun j _=>rfl,Kb.refl _ _⟩
  case round =>
    obtain ⟨k,C,us,rfl,rfl,hk,hrow,hul,hwu,hC,hv,hsam,hkb⟩:=hrel
    obtain ⟨hwy,hM⟩:=HW.out
    by_cases ck:k < M
    · obtain ⟨b',off',rfl,hc'⟩:=HY.out.1.at (k:=k) (by omega)
      have hbg:=HY.out.2 (by omega) b' off' rfl
      have e2:=hkb.arr hbg (hc' k (by omega))
      have e1:=World.rowIs.cell hrow (i:=i + k) (by omega)
      have wy:=hwy k
      have wz:=hwu (i + k)
      obtain ⟨Y,hY⟩:∃ Y:Nat,(Y:Int) = ys.getD k 0:=⟨(ys.getD k 0).toNat,by omega⟩
      obtain ⟨Z0,hZ0⟩:∃ Z0:Nat,(Z0:Int) = us.getD (i + k) 0:=⟨(us.getD (i + k) 0).toNat,by omega⟩
      rw [← hY] at e2
      rw [← hZ0] at e1
      have hmw:=mul_word Y X C Z0 (by omega) hX hC (by omega)
      obtain ⟨P,hP⟩:∃ P,P = Y * X:=⟨_,rfl⟩
      rw [← hP] at hmw
      obtain ⟨S,hS⟩:∃ S:Nat,S = (Z0:Int).toNat + ((P:Nat):Int).toNat + C:=⟨_,rfl⟩
      have hst:=sum_step us (i + k) C S _ (Z0:Int) (P:Int) (by omega) hZ0.symm hS hv
      simp only [Int.toNat_natCast] at hS hst
      have hg2:=mul_grow ys X i k
      rw [← hY,Int.toNat_natCast,← hP] at hg2
      rw [Nat.add_assoc (val zs),← hg2,Nat.add_assoc i k 1] at hst
      have f1:IntKind.u64.wrap (Y:Int) = (Y:Int):=by rw [IntKind.wrap_u64];omega
      have f2:IntKind.u64.wrap ((Y:Int) * (X:Int)) = (P:Int):=by
        have:(Y:Int) * (X:Int) = (P:Int):=by rw [hP];exact (Int.natCast_mul Y X).symm
        rw [this,IntKind.wrap_u64];omega
      have f3:IntKind.u64.wrap (Z0:Int) = (Z0:Int):=by rw [IntKind.wrap_u64];omega
      have f4:IntKind.u64.wrap ((P:Int) + (Z0:Int)) = (P:Int) + (Z0:Int):=by rw [IntKind.wrap_u64];omega
      have f5:IntKind.u64.wrap ((C:Int) + ((P:Int) + (Z0:Int))) = (S:Int):=by rw [IntKind.wrap_u64];omega
      obtain ⟨Z,hZ⟩:∃ Z:Nat,Z = S % 4294967296:=⟨_,rfl⟩
      obtain ⟨C',hC2⟩:∃ C':Nat,C' = S / 4294967296:=⟨_,rfl⟩
      have f6:IntKind.u32.wrap (S:Int) = (Z:Int):=by rw [IntKind.wrap_u32];omega
      have f7:(S:Int) / 4294967296 = (C':Int):=by omega
      rw [← hZ,← hC2] at hst
      have hC':C' < 4294967296:=by omega
      have hw2:Wd (us.set (i + k) (Z:Int)):=hwu.set (i + k) Z (by omega)
      have hl2:(us.set (i + k) (Z:Int)).length = n:=by rw [List.length_set];exact hul
      have hsam2:∀ j,i + (k + 1)≤j→(us.set (i + k) (Z:Int)).getD j 0 = zs.getD j 0:=fun j h1=>by
        rw [← hsam j (by omega)];simp [List.getD,show ¬ i + k = j from by omega]
      have hik:i + k < us.length:=by omega
      have i0:(0:Int)≤(k:Int):=by omega
      have i1:(k:Int) < (M:Int):=by omega
      clear hc' HY HW HZ hwy hM hY hZ0 hZ hC2 hS hv hP hg2 wy wz hwu hC hsam hul hmw
      go_wp2
      refine wp_region_kp (by kernel_rfl) (by kernel_rfl) (fun ι _ G hG hall=>?_)
      have c0:∀ n,(G n).cell? ⟨g,i + k,none⟩ = some (.int .u32 (Z0:Int)):=fun n=>kkeep (hG n) e1
      have c1:∀ n,(G n).cell? ⟨b',off' + k,none⟩ = some (.int .u32 (Y:Int)):=fun n=>kkeep (hG n) e2
      repeat (go_big_quiet_step (fail))
      refine wpQuiet_nil ?_
      rintro _ ⟨nq,rfl⟩
      have gq:=hG nq
      replace hrow:=hrow.grown gq
      have e3:=World.rowIs.cell hrow (i:=i + k) (by have:=hrow;omega)
      have e4:=World.rowIs.frozen hrow (i + k)
      have hR:=hrow.set (i + k) (Z:Int) hik
      have hK:=(hkb.kp2 gq).setCell (i + k) (.int .u32 (Z:Int))
      clear c0 c1 hall hG gq e1 e2 hrow hkb
      go_wp2
      exact ⟨⟨k + 1,C',us.set (i + k) (Z:Int),rfl,by go_num,by omega,hR,hl2,hw2,hC',hst,hsam2,hK⟩,by simp [intOf];omega⟩
    · have hkM:k = M:=by omega
      subst hkM
      rw [hM,List.take_length,← hM] at hv
      have i2:¬ ((k:Int) < (k:Int)):=by omega
      have f6:IntKind.u32.wrap (C:Int) = (C:Int):=by rw [IntKind.wrap_u32];omega
      clear HY HW HZ hwy hM hk ck
      go_wp2
      exact bodyPost_ret (v:=.int .u32 (C:Int)) (by simp [results,Tryz.results146,go_sem] <;> simp only [*]) rfl ⟨C,rfl,us,hrow,hul,hwu,hC,hv,hsam,hkb⟩
theorem sl32 (g k M n:Nat) (h:k + M≤n) (hk:k < n) (w:World):(Instr.slice 25 (.slice (some ⟨g,0,none⟩) n n) (some (.int .i64 (k:Int))) (some (.int .i64 ((k:Int) + (M:Int)))) none).run Tryz.prog w = .ok (.slice (some ⟨g,k,none⟩) M (n - k)) w:=by
  rw [run_slice_lh w 25 (some ⟨g,0,none⟩) n n Tryz.underlying25 .i64 .i64 (k:Int) ((k:Int) + (M:Int)) (by omega) (by omega) (by omega)]
  have e:(sizeOf (Tryz.prog.elem 25)).run Tryz.prog w = .ok 1 w:=by kernel_rfl
  have e2:((k:Int) + (M:Int)).toNat - k = M:=by omega
  have e3:¬ n = k:=by omega
  rw [e]
  simp [Result.andThen,sliced,e2,e3,Addr.add_lit]
theorem val_zeros (zs:List Int) (h:∀ j,zs.getD j 0 = 0):val zs = 0:=by
  induction zs with
  | nil=>rfl
  | cons z r ih =>
    have h0:=h 0
    simp at h0
    have:=ih (fun j=>by have:=h (j + 1);simpa using this)
    simp [val,h0,this]
theorem Wd_rep0 (n:Nat):Wd (List.replicate n (0:Int)):=by
  intro j
  by_cases c:j < n
  · simp [List.getD,c]
  · simp [List.getD,c]
theorem rep0_getD (n j:Nat):(List.replicate n (0:Int)).getD j 0 = 0:=by
  by_cases c:j < n
  · simp [List.getD,c]
  · simp [List.getD,c]
theorem product_ (p q:Option Addr) (c d:Nat) (xs ys:List Int) (w:World) (hx:Arr w p xs) (hy:Arr w q ys) (hwx:Wd xs) (hwy:Wd ys) (lx:xs.length≤16777216) (ly:ys.length≤16777216) :
    Calls Tryz.prog 122 #[.slice p xs.length c,.slice q ys.length d] w fun e w'=>∃ v,e = .returned v∧Own w' w.heap.size v (dig (val xs * val ys))∧Kp w w':=by
  obtain ⟨N,hN⟩:∃ N,N = xs.length:=⟨_,rfl⟩
  obtain ⟨M,hM⟩:∃ M,M = ys.length:=⟨_,rfl⟩
  obtain ⟨L,hL⟩:∃ L,L = N + M:=⟨_,rfl⟩
  have hmk:∀ w:World,(Instr.makeSlice 25 (.int .i64 ((N:Int) + (M:Int))) (.int .i64 ((N:Int) + (M:Int)))).run Tryz.prog w = .ok (.slice (some ⟨w.heap.size,0,none⟩) L L) (w.alloc (.cells (madeCells #[.int .u32 0] L) 43)):=by
    have:=mk32 L (by omega)
    have e:((L:Nat):Int) = (N:Int) + (M:Int):=by omega
    rw [e] at this
    exact this
  have hk1:Kp w (w.alloc (.cells (madeCells #[.int .u32 0] L) 43)):=(Kp.refl w).alloc _
  have hrz:Rw (w.alloc (.cells (madeCells #[.int .u32 0] L) 43)) w.heap.size L (List.replicate L 0):=World.rowIs.congr (World.rowIs_made w (.int .u32 0) L 43) (fun j _=>by rw [rep0_getD])
  obtain ⟨zs0,hz0⟩:∃ zs0,zs0 = List.replicate L (0:Int):=⟨_,rfl⟩
  have hzl0:zs0.length = L:=by rw [hz0];simp
  have hwz0:Wd zs0:=by rw [hz0];exact Wd_rep0 _
  have hzz0:∀ j,zs0.getD j 0 = 0:=fun j=>by rw [hz0];exact rep0_getD _ _
  have hvz0:=val_zeros zs0 hzz0
  rw [← hz0] at hrz
  have HX:Hid (Arr w p xs∧Wd xs):=⟨hx,hwx⟩
  have HY:Hid (Arr w q ys∧Wd ys):=⟨hy,hwy⟩
  have HN:Hid (N = xs.length∧M = ys.length∧N≤16777216∧M≤16777216):=⟨hN,hM,by omega,by omega⟩
  obtain ⟨g,hg⟩:∃ g,g = w.heap.size:=⟨_,rfl⟩
  rw [← hg] at hrz
  have HG:Hid (g = w.heap.size):=hg
  have lN:N≤16777216:=by omega
  have lM:M≤16777216:=by omega
  rw [← hN,← hM]
  have hLN:L = N + M:=hL
  clear hx hy hwx hwy lx ly hN hM hz0 hL
  have HL:Hid (L = N + M):=hLN
  clear hLN
  go_enter Tryz.func122,Tryz.ntmps122
  go_wp2
  rw [← hg]
  clear hmk hg
  go_loopw [15] (fun i wr=>∃ (k:Nat) (zs:List Int),i = .int .i64 k∧k≤N∧Rw wr g L zs∧zs.length = L∧Wd zs∧val zs = val (xs.take k) * val ys∧(∀ j,k + M≤j→zs.getD j 0 = 0)∧Kp w wr) (fun i _=>N - (intOf i).toNat)
  case atStart=>exact ⟨0,zs0,rfl,Nat.zero_le _,hrz,hzl0,hwz0,by rw [hvz0];simp [val],fun j _=>hzz0 j,hk1⟩
  case round =>
    clear hrz hzl0 hwz0 hzz0 hvz0 hk1
    obtain ⟨k,zs,rfl,hk,hrow,hzl,hwz,hv,hzz,hkp⟩:=hrel
    obtain ⟨hN,hM,hn1,hm1⟩:=HN.out
    clear hn1 hm1
    have hLe:=HL.out
    by_cases ck:k < N
    · obtain ⟨b,off,rfl,hc⟩:=HX.out.1.at (k:=k) (by omega)
      have e0:=hc k (by omega)
      have e1:=kkeep hkp e0
      have hbg:b≠g:=by have:=cell_lt e0;have:=HG.out;omega
      have wx:=HX.out.2 k
      have hrp:=row_prod xs k (val ys)
      obtain ⟨X,hX⟩:∃ X:Nat,(X:Int) = xs.getD k 0:=⟨(xs.getD k 0).toNat,by omega⟩
      rw [← hX] at e1 wx hrp
      rw [Int.toNat_natCast] at hrp
      have i0:(0:Int)≤(k:Int):=by omega
      have i1:(k:Int) < (N:Int):=by omega
      by_cases cX:X = 0
      · subst cX
        have hv2:val zs = val (xs.take (k + 1)) * val ys:=by rw [← hrp,hv];simp
        have t1:(((0:Nat):Int) != 0) = false:=by simp
        clear hc e0 HX HY HN HG hN hM hX wx hrp hbg hv HL hLe
        go_wp2
        exact ⟨⟨k + 1,zs,by go_num,by omega,hrow,hzl,hwz,hv2,fun j hj=>hzz j (by omega),hkp⟩,by simp [intOf];omega⟩
      · have t1:((X:Int) != 0) = true:=by simp;omega
        have hgw:w.heap.size≤g:=by rw [HG.out];exact Nat.le_refl _
        have hM0:0 < ys.length→∀ b' off',q = some ⟨b',off',none⟩→b'≠g:=fun h0 b' off' e=>by
          obtain ⟨b2,o2,h1,h2⟩:=HY.out.1.at (k:=0) h0
          rw [h1] at e
          cases e
          have:=cell_lt (h2 0 h0)
          have:=HG.out
          omega
        have had:=fun w' (h:Kp wr w')=>addTimes_ g L k (L - k) d X q zs ys w' (hrow.grown h) hzl hwz (HY.out.1.grown (hkp.trans h)) HY.out.2 (by omega) hM0 (by omega) (by omega) (by omega)
        rw [← hM,hv,hrp] at had
        obtain ⟨E,hE⟩:∃ E,E = k + M:=⟨_,rfl⟩
        have fE:(k:Int) + (M:Int) = (E:Int):=by omega
        have i2:(k:Int)≤(E:Int):=by omega
        have i3:(E:Int)≤(L:Int):=by omega
        have i4:(E:Int) < (L:Int):=by omega
        have i5:(0:Int)≤(E:Int):=by omega
        have i7:¬ (L = k):=by omega
        have i8:E - k = M:=by omega
        have hsl:∀ w:World,(Instr.slice 25 (.slice (some ⟨g,0,none⟩) L L) (some (.int .i64 (k:Int))) (some (.int .i64 (E:Int))) none).run Tryz.prog w = .ok (.slice (some ⟨g,k,none⟩) M (L - k)) w:=by
          rw [← fE];exact sl32 g k M L (by omega) (by omega)
        rw [← hE] at had
        have hz0:=hzz E (by omega)
        have hkM:E < L:=by omega
        have hE9:(E:Int) < 9223372036854775808:=by omega
        have fE1:=w64 (E:Int) i5 hE9
        have fE2:=wi64 (E:Int) i5 hE9
        have HE:Hid (E = k + M):=hE
        clear hc e0 HX HY HN hN hM hX wx hv hwz hM0 hrp hzl HL hLe hE
        go_wp2
        go_region_held3 (fun w'=>w'.cell? ⟨b,off + k,none⟩ = some (.int .u32 (X:Int))) (first | (exact e1) | (exact hkb2.arr hbg e1) | (exact (World.cell?_setCell_far _ _ _ _ (Ne.symm hbg)).trans (hkb2.arr hbg e1))) (first | (go_at_call 146;refine (had _ (Kp.refl _).drew).mono ?_;rintro e w2 ⟨C,us,rfl,hR2,hl2,hw2,hC,hv2,hs2,hkb2⟩;have e3:=World.rowIs.cell hR2 (i:=E) hkM;have e4:=World.rowIs.frozen hR2 E))
        clear fE1 fE2 fE hE9 i5 i7 i8 hsl had
        have hE:=HE.out
        have hu0:us.getD E 0 = 0:=by rw [hs2 _ (Nat.le_refl _)];exact hz0
        have hvs:=val_set us E (C:Int) (by omega)
        rw [hu0,Int.toNat_natCast,hv2] at hvs
        have hv3:val (us.set E (C:Int)) = val (xs.take (k + 1)) * val ys:=by simpa using hvs
        have hR:=hR2.set E (C:Int) (by omega)
        have hK:Kp w (w2.setCell ⟨g,E,none⟩ (.int .u32 (C:Int))):=(hkb2.kp (hkp.drew) hgw).setCell hgw _
        have hw3:Wd (us.set E (C:Int)):=hw2.set _ _ (by omega)
        have hl3:(us.set E (C:Int)).length = L:=by rw [List.length_set];exact hl2
        have hz3:∀ j,k + 1 + M≤j→(us.set E (C:Int)).getD j 0 = 0:=fun j hj=>by
          have e1:(us.set E (C:Int)).getD j 0 = us.getD j 0:=by simp [List.getD,show ¬ E = j from by omega]
          rw [e1,hs2 j (by omega)]
          exact hzz j (by omega)
        clear HE hE e1 e3 e4 hv2 hvs hs2 hzz hkb2 hR2 hkp hrow
        go_wp2
        exact ⟨⟨k + 1,us.set E (C:Int),by go_num,by omega,hR,hl3,hw3,hv3,hz3,hK⟩,by simp [intOf];omega⟩
    · have hkN:k = N:=by omega
      subst hkN
      rw [hN,List.take_length] at hv
      have hA:=hrow.arr L (Nat.le_refl _) (by omega)
      rw [List.take_of_length_le (by omega)] at hA
      have htr:=trim_ (some ⟨g,0,none⟩) L zs wr hA (by omega) (by omega)
      have hO:Own wr w.heap.size (.slice (some ⟨g,0,none⟩) (tl zs) L) (dig (val xs * val ys)):=by
        have h1:=Own.of_row (base:=w.heap.size) (k:=tl zs) hrow (by rw [HG.out];exact Nat.le_refl _) (by have:=tl_le zs;omega) hzl (by unfold maxLen;omega)
        have h2:zs.take (tl zs) = dig (val xs * val ys):=by rw [← hv,← nz_dig zs hwz];rfl
        rw [h2] at h1
        exact h1
      rw [hzl] at htr
      obtain ⟨T,hT⟩:∃ T,T = tl zs:=⟨_,rfl⟩
      rw [← hT] at htr hO
      have i2:¬ ((k:Int) < (k:Int)):=by omega
      clear hA hrow hzl hwz hv hT HX HY HN HG hN hM hzz HL hLe
      go_wp2_with (first | (go_at_call 108;refine htr.mono ?_;rintro e w' ⟨rfl,hw'⟩;obtain rfl:=hw'.symm))
      exact bodyPost_ret (v:=.slice (some ⟨g,0,none⟩) T L) (by simp [results,Tryz.results122,go_sem] <;> simp only [*]) rfl ⟨_,rfl,hO,hkp⟩
theorem rnorm_ (p:Option Addr) (c:Nat) (xs:List Int) (w:World) (hx:Arr w p xs) (lx:xs.length≤1099511627776) :
    Calls Tryz.prog 41 #[.slice p xs.length c] w fun e w'=>∃ v,e = .returned v∧Own w' w.heap.size v (nz xs)∧Kp w w':=by
  obtain ⟨N,hN⟩:∃ N,N = xs.length:=⟨_,rfl⟩
  rw [← hN] at lx ⊢
  have HX:Hid (Arr w p xs):=hx
  have HN:Hid (N = xs.length):=hN
  obtain ⟨T,hT⟩:∃ T,T = tl xs:=⟨_,rfl⟩
  have HT:Hid (tlAux xs N = T):=by rw [hT,hN];exact rfl
  have HT2:Hid (T≤N∧T = tl xs):=⟨by rw [hT,hN];exact tl_le xs,hT⟩
  obtain ⟨i0,hi0,hi1,hi2,hi3⟩:=inf32p
  clear hN hx hT
  go_enter Tryz.func41,Tryz.ntmps41
  go_wp2
  go_loop [3] (fun i=>∃ k:Nat,i = .int .i64 k∧k≤N∧tlAux xs k = T) (fun i=>(intOf i).toNat)
  case atStart=>exact ⟨N,rfl,Nat.le_refl _,HT.out⟩
  case round =>
    obtain ⟨k,rfl,hk,ht⟩:=hrel
    have hN:=HN.out
    have step2:k = 0∨(∃ k',k = k' + 1∧xs.getD k' 0 = 0)∨(∃ k',k = k' + 1∧xs.getD k' 0≠0):=by
      rcases k with _ | k'
      · exact Or.inl rfl
      · by_cases cz:xs.getD k' 0 = 0
        · exact Or.inr (Or.inl ⟨k',rfl,cz⟩)
        · exact Or.inr (Or.inr ⟨k',rfl,cz⟩)
    rcases step2 with rfl | ⟨k,rfl,cz⟩ | ⟨k,rfl,cz⟩
    · have hT0:T = 0:=by rw [← ht];rfl
      subst hT0
      clear hN HN HX HT ht hk
      have hnz:nz xs = []:=by unfold nz;rw [← HT2.out.2];rfl
      go_wp2
      go_loopw [4,5] (fun v i wr=>v = .slice none 0 0∧i = .int .i64 0∧wr = w) (fun _ _ _=>0)
      case atStart=>exact ⟨rfl,rfl,rfl⟩
      case round =>
        obtain ⟨rfl,rfl,rfl⟩:=hrel
        go_wp2
        exact bodyPost_ret (v:=.slice none 0 0) (by simp [results,Tryz.results41,go_sem] <;> simp only [*]) rfl ⟨_,rfl,by rw [hnz];exact Own.nil _ _,Kp.refl _⟩
    · obtain ⟨b,off,rfl,hc'⟩:=HX.out.at (k:=k) (by omega)
      have e1:=hc' k (by omega)
      rw [tlAux_zero xs k cz] at ht
      rw [cz] at e1
      clear hN HN HX HT hc' HT2
      go_wp2
      exact ⟨⟨k,by go_num,by omega,ht⟩,by simp [intOf]⟩
    · obtain ⟨b,off,rfl,hc'⟩:=HX.out.at (k:=k) (by omega)
      have e1:=hc' k (by omega)
      rw [tlAux_nz xs k cz] at ht
      obtain ⟨X,hX⟩:∃ X,X = xs.getD k 0:=⟨_,rfl⟩
      rw [← hX] at e1 cz
      have t1:(X == 0) = false:=by simp [cz]
      have HK:Hid (k + 1 = T):=ht
      clear hN HT hc' hX cz ht
      go_wp2
      go_loopw [4,5] (fun a i wr=>∃ (v:Value) (j:Nat),v = a∧j≤k + 1∧i = .int .i64 j∧Own wr w.heap.size v (xs.take j)∧Kp w wr) (fun _ i _=>k + 1 - (intOf i).toNat)
      case atStart=>exact ⟨_,0,rfl,Nat.zero_le _,rfl,by simpa using Own.nil w w.heap.size,Kp.refl _⟩
      case round =>
        obtain ⟨v,j,rfl,hj,rfl,hown,hkp⟩:=hrel
        obtain ⟨hTN,hTe⟩:=HT2.out
        have hKT:=HK.out
        have hN:=HN.out
        clear e1 t1
        by_cases cj:j < k + 1
        · obtain ⟨b2,off2,hb2,hc2⟩:=HX.out.at (k:=j) (by omega)
          obtain ⟨rfl,rfl⟩:b = b2∧off = off2:=by simpa using hb2
          have e2:=kkeep hkp (hc2 j (by omega))
          have hpush:=take_push xs j (by omega)
          have hob:=own_block hown
          have hlen:(xs.take j).length = j:=by rw [List.length_take];omega
          have hown':wr.ownsRow w.heap.size 43 1 v ((xs.take j).length) ((xs.take j).map (Value.int .u32)):=hown
          obtain ⟨Y,hY⟩:∃ Y,Y = xs.getD j 0:=⟨_,rfl⟩
          rw [← hY] at e2 hpush
          have hsz:=hkp.size
          clear hc2 hb2 hY hTe HX HN HT2 HK hown
          clear hN
          go_wp2_with (first | (at_builtin;refine wpList_append_own _ rfl _ _ 25 rfl w.heap.size 43 i0 (.int .u32 0) 1 4 Tryz.underlying25 hi0 hi1 hi2 hi3 rfl (by decide) _ _ _ rfl (hown'.alloc _) ⟨wr.heap.size,0,none⟩ 1 1 [.int .u32 Y] rfl rfl ?c1 ?c2 ?c3 ?c4 ?c5 ?_))
          case c1 =>
            intro j' u hj'
            match j',hj' with
            | 0,hj'=>simp at hj';subst hj';simp [Addr.add]
          case c2=>intro u hu;simp at hu;subst hu;rfl
          case c3=>unfold maxLen;omega
          case c4=>omega
          case c5=>simp;omega
          intro v' w1 hown2 hgrow _
          have hO:Own w1 w.heap.size v' (xs.take (j + 1)):=by rw [← hpush];refine Own.push ?_;rw [hlen,List.map_take];exact hown2
          have hK2:Kp w w1:=(hkp.alloc _).grown hgrow hob
          clear hown2 hgrow hown' hkp hob e2 hsz hpush hlen
          go_wp2
          exact ⟨⟨_,j + 1,rfl,by omega,by go_num,hO,hK2⟩,by simp [intOf];omega⟩
        · have hjk:j = k + 1:=by omega
          have hnz:nz xs = xs.take j:=by unfold nz;rw [← hTe,← hKT,hjk]
          clear hN HN HX HT2 HK hTe hTN hKT
          go_wp2
          exact bodyPost_ret (v:=v) (by simp [results,Tryz.results41,go_sem] <;> simp only [*]) rfl ⟨_,rfl,by rw [hnz];exact hown,hkp⟩
theorem rplus_ (p q:Option Addr) (c d:Nat) (xs ys:List Int) (w:World) (hx:Arr w p xs) (hy:Arr w q ys) (hwx:Wd xs) (hwy:Wd ys) (lx:xs.length < 1099511627776) (ly:ys.length < 1099511627776) :
    Calls Tryz.prog 32 #[.slice p xs.length c,.slice q ys.length d] w fun e w'=>∃ v L,e = .returned v∧Own w' w.heap.size v (nz L)∧Wd L∧val L = val xs + val ys∧L.length≤1099511627776∧Kp w w':=by
  obtain ⟨N,hN⟩:∃ N,N = xs.length:=⟨_,rfl⟩
  obtain ⟨M,hM⟩:∃ M,M = ys.length:=⟨_,rfl⟩
  rw [← hN] at lx ⊢
  rw [← hM] at ly ⊢
  have HX:Hid (Arr w p xs):=hx
  have HY:Hid (Arr w q ys):=hy
  have HW:Hid (Wd xs∧Wd ys):=⟨hwx,hwy⟩
  have HN:Hid (N = xs.length∧M = ys.length∧N < 1099511627776∧M < 1099511627776):=⟨hN,hM,lx,ly⟩
  obtain ⟨i0,hi0,hi1,hi2,hi3⟩:=inf32p
  clear hN hM hx hy hwx hwy lx ly
  go_enter Tryz.func32,Tryz.ntmps32
  go_wp2
  go_loopw [5,6,7] (fun a cc i wr=>∃ (v:Value) (k C:Nat) (L:List Int),v = a∧cc = .int .u64 C∧i = .int .i64 k∧Own wr w.heap.size v L∧Kp w wr∧L.length = k∧Wd L∧C≤1∧val L + C * 4294967296 ^ k = val (xs.take k) + val (ys.take k)∧k≤max N M) (fun _ _ i _=>max N M - (intOf i).toNat)
  case atStart=>exact ⟨_,0,0,[],rfl,rfl,rfl,Own.nil _ _,Kp.refl _,rfl,Wd.nil,by omega,by simp [val],by omega⟩
  case round =>
    obtain ⟨v,k,C,L,rfl,rfl,rfl,hown,hkp,hL,hw,hC,hv,hk⟩:=hrel
    obtain ⟨hN,hM,lx,ly⟩:=HN.out
    by_cases ca:k < N
    · by_cases cb:k < M
      · skip
        obtain ⟨b,off,rfl,hc⟩:=HX.out.at (k:=k) (by omega)
        have e1:=kkeep hkp (hc k (by omega))
        obtain ⟨b',off',rfl,hc'⟩:=HY.out.at (k:=k) (by omega)
        have e2:=kkeep hkp (hc' k (by omega))
        have wx:=HW.out.1 k
        have wy:=HW.out.2 k
        obtain ⟨S,hS⟩:∃ S:Nat,S = C + (xs.getD k 0).toNat + (ys.getD k 0).toNat:=⟨_,rfl⟩
        have hst:=plus_step L xs ys k C S hL hS hv
        obtain ⟨X,hX⟩:∃ X,X = xs.getD k 0:=⟨_,rfl⟩
        obtain ⟨Y,hY⟩:∃ Y,Y = ys.getD k 0:=⟨_,rfl⟩
        rw [← hX,← hY] at hS
        rw [← hX] at wx e1
        rw [← hY] at wy e2
        have f1:IntKind.u64.wrap X = X:=by rw [IntKind.wrap_u64];omega
        have f2:IntKind.u64.wrap Y = Y:=by rw [IntKind.wrap_u64];omega
        have f3:IntKind.u64.wrap ((C:Int) + X) = (C:Int) + X:=by rw [IntKind.wrap_u64];omega
        have f4:IntKind.u64.wrap ((C:Int) + X + Y) = (S:Int):=by rw [IntKind.wrap_u64];omega
        have f5:=and32 S (by omega)
        obtain ⟨Z,hZ⟩:∃ Z:Int,Z = ((S % 4294967296:Nat):Int):=⟨_,rfl⟩
        rw [← hZ] at f5 hst
        have f6:IntKind.u32.wrap Z = Z:=by rw [IntKind.wrap_u32];omega
        have f7:(S:Int) / 4294967296 = ((S / 4294967296:Nat):Int):=by omega
        have hC':S / 4294967296≤1:=by omega
        obtain ⟨C',hC2⟩:∃ C':Nat,C' = S / 4294967296:=⟨_,rfl⟩
        rw [← hC2] at f7 hst hC'
        have hWL:Wd (L ++ [Z]):=hw.append (Wd.one (by omega))
        have hob:=own_block hown
        have hown':wr.ownsRow w.heap.size 43 1 v k (L.map (Value.int .u32)):=by rw [← hL];exact hown
        have hsz:=hkp.size
        have hkb:k < 1099511627776:=by omega
        clear hc hc' HX HY HW HN hN hM hX hY hS hv hZ hC2 hown wx wy hw hC
        go_wp2_with (first | (at_builtin;refine wpList_append_own _ rfl _ _ 25 rfl w.heap.size 43 i0 (.int .u32 0) 1 4 Tryz.underlying25 hi0 hi1 hi2 hi3 rfl (by decide) _ _ _ rfl (hown'.alloc _) ⟨wr.heap.size,0,none⟩ 1 1 [.int .u32 Z] rfl rfl ?c1 ?c2 ?c3 ?c4 ?c5 ?_))
        case c1 =>
          intro j' u hj'
          match j',hj' with
          | 0,hj'=>simp at hj';subst hj';simp [Addr.add]
        case c2=>intro u hu;simp at hu;subst hu;rfl
        case c3=>unfold maxLen;omega
        case c4=>omega
        case c5=>simp;omega
        intro v' w1 hown2 hgrow _
        have hO:Own w1 w.heap.size v' (L ++ [Z]):=by refine Own.push ?_;rw [hL];exact hown2
        have hK2:Kp w w1:=(hkp.alloc _).grown hgrow hob
        clear hown2 hgrow hown' hkp hob hsz
        go_wp2
        exact ⟨⟨_,k + 1,C',_,rfl,by go_num,by go_num,hO,hK2,by simp [hL],hWL,hC',hst,by omega⟩,by simp [intOf];omega⟩
      · skip
        obtain ⟨b,off,rfl,hc⟩:=HX.out.at (k:=k) (by omega)
        have e1:=kkeep hkp (hc k (by omega))
        have wx:=HW.out.1 k
        have wy:=HW.out.2 k
        have hy0:ys.getD k 0 = 0:=getD_out ys k (by omega)
        obtain ⟨S,hS⟩:∃ S:Nat,S = C + (xs.getD k 0).toNat + (ys.getD k 0).toNat:=⟨_,rfl⟩
        have hst:=plus_step L xs ys k C S hL hS hv
        obtain ⟨X,hX⟩:∃ X,X = xs.getD k 0:=⟨_,rfl⟩
        obtain ⟨Y,hY⟩:∃ Y,Y = ys.getD k 0:=⟨_,rfl⟩
        rw [← hX,← hY] at hS
        rw [← hX] at wx e1
        rw [← hY] at wy hy0
        have f1:IntKind.u64.wrap X = X:=by rw [IntKind.wrap_u64];omega
        have f2:IntKind.u64.wrap Y = Y:=by rw [IntKind.wrap_u64];omega
        have f3:IntKind.u64.wrap ((C:Int) + X) = (S:Int):=by rw [IntKind.wrap_u64];omega
        have f5:=and32 S (by omega)
        obtain ⟨Z,hZ⟩:∃ Z:Int,Z = ((S % 4294967296:Nat):Int):=⟨_,rfl⟩
        rw [← hZ] at f5 hst
        have f6:IntKind.u32.wrap Z = Z:=by rw [IntKind.wrap_u32];omega
        have f7:(S:Int) / 4294967296 = ((S / 4294967296:Nat):Int):=by omega
        have hC':S / 4294967296≤1:=by omega
        obtain ⟨C',hC2⟩:∃ C':Nat,C' = S / 4294967296:=⟨_,rfl⟩
        rw [← hC2] at f7 hst hC'
        have hWL:Wd (L ++ [Z]):=hw.append (Wd.one (by omega))
        have hob:=own_block hown
        have hown':wr.ownsRow w.heap.size 43 1 v k (L.map (Value.int .u32)):=by rw [← hL];exact hown
        have hsz:=hkp.size
        have hkb:k < 1099511627776:=by omega
        clear hc HX HY HW HN hN hM hX hY hS hv hZ hC2 hown wx wy hw hC hy0
        go_wp2_with (first | (at_builtin;refine wpList_append_own _ rfl _ _ 25 rfl w.heap.size 43 i0 (.int .u32 0) 1 4 Tryz.underlying25 hi0 hi1 hi2 hi3 rfl (by decide) _ _ _ rfl (hown'.alloc _) ⟨wr.heap.size,0,none⟩ 1 1 [.int .u32 Z] rfl rfl ?c1 ?c2 ?c3 ?c4 ?c5 ?_))
        case c1 =>
          intro j' u hj'
          match j',hj' with
          | 0,hj'=>simp at hj';subst hj';simp [Addr.add]
        case c2=>intro u hu;simp at hu;subst hu;rfl
        case c3=>unfold maxLen;omega
        case c4=>omega
        case c5=>simp;omega
        intro v' w1 hown2 hgrow _
        have hO:Own w1 w.heap.size v' (L ++ [Z]):=by refine Own.push ?_;rw [hL];exact hown2
        have hK2:Kp w w1:=(hkp.alloc _).grown hgrow hob
        clear hown2 hgrow hown' hkp hob hsz
        go_wp2
        exact ⟨⟨_,k + 1,C',_,rfl,by go_num,by go_num,hO,hK2,by simp [hL],hWL,hC',hst,by omega⟩,by simp [intOf];omega⟩
    · by_cases cb:k < M
      · skip
        obtain ⟨b',off',rfl,hc'⟩:=HY.out.at (k:=k) (by omega)
        have e2:=kkeep hkp (hc' k (by omega))
        have wx:=HW.out.1 k
        have wy:=HW.out.2 k
        have hx0:xs.getD k 0 = 0:=getD_out xs k (by omega)
        obtain ⟨S,hS⟩:∃ S:Nat,S = C + (xs.getD k 0).toNat + (ys.getD k 0).toNat:=⟨_,rfl⟩
        have hst:=plus_step L xs ys k C S hL hS hv
        obtain ⟨X,hX⟩:∃ X,X = xs.getD k 0:=⟨_,rfl⟩
        obtain ⟨Y,hY⟩:∃ Y,Y = ys.getD k 0:=⟨_,rfl⟩
        rw [← hX,← hY] at hS
        rw [← hX] at wx hx0
        rw [← hY] at wy e2
        have f1:IntKind.u64.wrap X = X:=by rw [IntKind.wrap_u64];omega
        have f2:IntKind.u64.wrap Y = Y:=by rw [IntKind.wrap_u64];omega
        have f3:IntKind.u64.wrap ((C:Int) + Y) = (S:Int):=by rw [IntKind.wrap_u64];omega
        have f5:=and32 S (by omega)
        obtain ⟨Z,hZ⟩:∃ Z:Int,Z = ((S % 4294967296:Nat):Int):=⟨_,rfl⟩
        rw [← hZ] at f5 hst
        have f6:IntKind.u32.wrap Z = Z:=by rw [IntKind.wrap_u32];omega
        have f7:(S:Int) / 4294967296 = ((S / 4294967296:Nat):Int):=by omega
        have hC':S / 4294967296≤1:=by omega
        obtain ⟨C',hC2⟩:∃ C':Nat,C' = S / 4294967296:=⟨_,rfl⟩
        rw [← hC2] at f7 hst hC'
        have hWL:Wd (L ++ [Z]):=hw.append (Wd.one (by omega))
        have hob:=own_block hown
        have hown':wr.ownsRow w.heap.size 43 1 v k (L.map (Value.int .u32)):=by rw [← hL];exact hown
        have hsz:=hkp.size
        have hkb:k < 1099511627776:=by omega
        clear hc' HX HY HW HN hN hM hX hY hS hv hZ hC2 hown wx wy hw hC hx0
        go_wp2_with (first | (at_builtin;refine wpList_append_own _ rfl _ _ 25 rfl w.heap.size 43 i0 (.int .u32 0) 1 4 Tryz.underlying25 hi0 hi1 hi2 hi3 rfl (by decide) _ _ _ rfl (hown'.alloc _) ⟨wr.heap.size,0,none⟩ 1 1 [.int .u32 Z] rfl rfl ?c1 ?c2 ?c3 ?c4 ?c5 ?_))
        case c1 =>
          intro j' u hj'
          match j',hj' with
          | 0,hj'=>simp at hj';subst hj';simp [Addr.add]
        case c2=>intro u hu;simp at hu;subst hu;rfl
        case c3=>unfold maxLen;omega
        case c4=>omega
        case c5=>simp;omega
        intro v' w1 hown2 hgrow _
        have hO:Own w1 w.heap.size v' (L ++ [Z]):=by refine Own.push ?_;rw [hL];exact hown2
        have hK2:Kp w w1:=(hkp.alloc _).grown hgrow hob
        clear hown2 hgrow hown' hkp hob hsz
        go_wp2
        exact ⟨⟨_,k + 1,C',_,rfl,by go_num,by go_num,hO,hK2,by simp [hL],hWL,hC',hst,by omega⟩,by simp [intOf];omega⟩
      · have hv2:val (L ++ [(C:Int)]) = val xs + val ys:=by
          rw [List.take_of_length_le (by omega),List.take_of_length_le (by omega)] at hv
          rw [val_append,hL]
          simp only [val,Int.toNat_natCast,Nat.mul_zero,Nat.add_zero]
          rw [Nat.mul_comm];exact hv
        have hWL:Wd (L ++ [(C:Int)]):=hw.append (Wd.one (by omega))
        have hob:=own_block hown
        have hown':wr.ownsRow w.heap.size 43 1 v k (L.map (Value.int .u32)):=by rw [← hL];exact hown
        have hsz:=hkp.size
        have f6:IntKind.u32.wrap (C:Int) = (C:Int):=by rw [IntKind.wrap_u32];omega
        have hkb:k < 1099511627776:=by omega
        clear HX HY HW HN hN hM hv hown hw hC
        go_wp2_with (first | (at_builtin;refine wpList_append_own _ rfl _ _ 25 rfl w.heap.size 43 i0 (.int .u32 0) 1 4 Tryz.underlying25 hi0 hi1 hi2 hi3 rfl (by decide) _ _ _ rfl (hown'.alloc _) ⟨wr.heap.size,0,none⟩ 1 1 [.int .u32 (C:Int)] rfl rfl ?c1 ?c2 ?c3 ?c4 ?c5 ?_))
        case c1 =>
          intro j' u hj'
          match j',hj' with
          | 0,hj'=>simp at hj';subst hj';simp [Addr.add]
        case c2=>intro u hu;simp at hu;subst hu;rfl
        case c3=>unfold maxLen;omega
        case c4=>omega
        case c5=>simp;omega
        intro v' w1 hown2 hgrow _
        have hO:Own w1 w.heap.size v' (L ++ [(C:Int)]):=by refine Own.push ?_;rw [hL];exact hown2
        have hK2:Kp w w1:=(hkp.alloc _).grown hgrow hob
        have hll:(L ++ [(C:Int)]).length≤1099511627776:=by simp [hL];omega
        clear hown2 hgrow hown' hkp hob hsz
        obtain ⟨p',c',rfl,hA,_⟩:=hO.arr
        have hno:=rnorm_ p' c' (L ++ [(C:Int)]) w1 hA hll
        obtain ⟨LL,hLL⟩:∃ LL,LL = L ++ [(C:Int)]:=⟨_,rfl⟩
        rw [← hLL] at hno hv2 hWL hA hll
        have hl2:(L ++ [(C:Int)]).length = LL.length:=by rw [hLL]
        clear hO hLL
        go_wp2_with fail
        refine hno.mono ?_
        rintro e w2 ⟨v2,rfl,hO2,hk2⟩
        clear hno hA f6
        go_wp2
        exact bodyPost_ret (v:=v2) (by simp [results,Tryz.results32,go_sem] <;> simp only [*]) rfl ⟨v2,LL,rfl,hO2.mono hK2.size,hWL,hv2,hll,hK2.trans hk2⟩
theorem rminus_ (p q:Option Addr) (c d:Nat) (xs ys:List Int) (w:World) (hx:Arr w p xs) (hy:Arr w q ys) (hwx:Wd xs) (hwy:Wd ys) (lx:xs.length < 1099511627776) (hl:ys.length≤xs.length) (hle:val ys≤val xs) :
    Calls Tryz.prog 34 #[.slice p xs.length c,.slice q ys.length d] w fun e w'=>∃ v,e = .returned v∧Own w' w.heap.size v (dig (val xs - val ys))∧Kp w w':=by
  obtain ⟨N,hN⟩:∃ N,N = xs.length:=⟨_,rfl⟩
  obtain ⟨M,hM⟩:∃ M,M = ys.length:=⟨_,rfl⟩
  rw [← hN] at lx hl ⊢
  rw [← hM] at hl ⊢
  have HX:Hid (Arr w p xs):=hx
  have HY:Hid (Arr w q ys):=hy
  have HW:Hid (Wd xs∧Wd ys∧val ys≤val xs):=⟨hwx,hwy,hle⟩
  have HN:Hid (N = xs.length∧M = ys.length∧N < 1099511627776∧M≤N):=⟨hN,hM,lx,hl⟩
  obtain ⟨i0,hi0,hi1,hi2,hi3⟩:=inf32p
  clear hN hM hx hy hwx hwy lx hl hle
  go_enter Tryz.func34,Tryz.ntmps34
  go_wp2
  go_loopw [5,6,7] (fun a cc i wr=>∃ (v:Value) (k C:Nat) (L:List Int),v = a∧cc = .int .u64 C∧i = .int .i64 k∧Own wr w.heap.size v L∧Kp w wr∧L.length = k∧Wd L∧C≤1∧val L + val (ys.take k) = val (xs.take k) + C * 4294967296 ^ k∧k≤N) (fun _ _ i _=>N - (intOf i).toNat)
  case atStart=>exact ⟨_,0,0,[],rfl,rfl,rfl,Own.nil _ _,Kp.refl _,rfl,Wd.nil,by omega,by simp [val],by omega⟩
  case round =>
    obtain ⟨v,k,C,L,rfl,rfl,rfl,hown,hkp,hL,hw,hC,hv,hk⟩:=hrel
    obtain ⟨hN,hM,lx,hl⟩:=HN.out
    by_cases ca:k < N
    · by_cases cb:k < M
      · skip
        obtain ⟨b,off,rfl,hc⟩:=HX.out.at (k:=k) (by omega)
        have e1:=kkeep hkp (hc k (by omega))
        obtain ⟨b',off',rfl,hc'⟩:=HY.out.at (k:=k) (by omega)
        have e2:=kkeep hkp (hc' k (by omega))
        have wx:=HW.out.1 k
        have wy:=HW.out.2.1 k
        obtain ⟨X,hX⟩:∃ X,X = xs.getD k 0:=⟨_,rfl⟩
        obtain ⟨Y,hY⟩:∃ Y,Y = ys.getD k 0:=⟨_,rfl⟩
        have hst:=fun (C' Z:Nat) h=>minus_step L xs ys k C C' Z hL h hv
        rw [← hX,← hY] at hst
        rw [← hX] at wx e1
        rw [← hY] at wy e2
        have f1:IntKind.u64.wrap X = X:=by rw [IntKind.wrap_u64];omega
        obtain ⟨T,hT⟩:∃ T:Int,T = Y + (C:Int):=⟨_,rfl⟩
        have f2:IntKind.u64.wrap Y = Y:=by rw [IntKind.wrap_u64];omega
        have f3:IntKind.u64.wrap ((C:Int) + Y) = T:=by rw [IntKind.wrap_u64];omega
        by_cases ct:X < T
        · skip
          obtain ⟨Z,hZ⟩:∃ Z:Nat,Z = (X + 4294967296 - T).toNat:=⟨_,rfl⟩
          have f4:IntKind.u64.wrap (X + 4294967296) = X + 4294967296:=by rw [IntKind.wrap_u64];omega
          have f5:IntKind.u64.wrap (X + 4294967296 - T) = (Z:Int):=by rw [IntKind.wrap_u64];omega
          have hs2:=hst 1 Z (by omega)
          have f6:IntKind.u32.wrap (Z:Int) = (Z:Int):=by rw [IntKind.wrap_u32];omega
          have hWL:Wd (L ++ [(Z:Int)]):=hw.append (Wd.one (by omega))
          have hob:=own_block hown
          have hown':wr.ownsRow w.heap.size 43 1 v k (L.map (Value.int .u32)):=by rw [← hL];exact hown
          have hsz:=hkp.size
          have hkb:k < 1099511627776:=by omega
          have j0:(0:Int)≤(k:Int):=by omega
          have j1:(k:Int) < (N:Int):=by omega
          have j2:((k:Int) < (M:Int)):=by omega
          clear ca cb
          clear hc hc' HX HY HW HN hN hM hX hY hv hZ hT hown wx wy hw hC hst
          go_wp2_with (first | (at_builtin;refine wpList_append_own _ rfl _ _ 25 rfl w.heap.size 43 i0 (.int .u32 0) 1 4 Tryz.underlying25 hi0 hi1 hi2 hi3 rfl (by decide) _ _ _ rfl (hown'.alloc _) ⟨wr.heap.size,0,none⟩ 1 1 [.int .u32 (Z:Int)] rfl rfl ?c1f0 ?c2f0 ?c3f0 ?c4f0 ?c5f0 ?_))
          try case c1f0 =>
            intro j' u hj'
            match j',hj' with
            | 0,hj'=>simp at hj';subst hj';simp [Addr.add]
          case c2f0=>first | rfl | (intro u hu;simp at hu;subst hu;rfl)
          case c3f0=>unfold maxLen;omega
          case c4f0=>omega
          case c5f0=>first | omega | (simp;omega)
          intro v' w1 hown2 hgrow _
          have hO:Own w1 w.heap.size v' (L ++ [(Z:Int)]):=by refine Own.push ?_;rw [hL];exact hown2
          have hK2:Kp w w1:=(hkp.alloc _).grown hgrow hob
          clear hown2 hgrow hown' hkp hob hsz
          go_wp2
          exact ⟨⟨_,k + 1,1,_,rfl,rfl,by go_num,hO,hK2,by simp [hL],hWL,by omega,hs2,by omega⟩,by simp [intOf];omega⟩
        · skip
          obtain ⟨Z,hZ⟩:∃ Z:Nat,Z = (X - T).toNat:=⟨_,rfl⟩
          have f5:IntKind.u64.wrap (X - T) = (Z:Int):=by rw [IntKind.wrap_u64];omega
          have hs2:=hst 0 Z (by omega)
          have f6:IntKind.u32.wrap (Z:Int) = (Z:Int):=by rw [IntKind.wrap_u32];omega
          have hWL:Wd (L ++ [(Z:Int)]):=hw.append (Wd.one (by omega))
          have hob:=own_block hown
          have hown':wr.ownsRow w.heap.size 43 1 v k (L.map (Value.int .u32)):=by rw [← hL];exact hown
          have hsz:=hkp.size
          have hkb:k < 1099511627776:=by omega
          have j0:(0:Int)≤(k:Int):=by omega
          have j1:(k:Int) < (N:Int):=by omega
          have j2:((k:Int) < (M:Int)):=by omega
          clear ca cb
          clear hc hc' HX HY HW HN hN hM hX hY hv hZ hT hown wx wy hw hC hst
          go_wp2_with (first | (at_builtin;refine wpList_append_own _ rfl _ _ 25 rfl w.heap.size 43 i0 (.int .u32 0) 1 4 Tryz.underlying25 hi0 hi1 hi2 hi3 rfl (by decide) _ _ _ rfl (hown'.alloc _) ⟨wr.heap.size,0,none⟩ 1 1 [.int .u32 (Z:Int)] rfl rfl ?c1f1 ?c2f1 ?c3f1 ?c4f1 ?c5f1 ?_))
          try case c1f1 =>
            intro j' u hj'
            match j',hj' with
            | 0,hj'=>simp at hj';subst hj';simp [Addr.add]
          case c2f1=>first | rfl | (intro u hu;simp at hu;subst hu;rfl)
          case c3f1=>unfold maxLen;omega
          case c4f1=>omega
          case c5f1=>first | omega | (simp;omega)
          intro v' w1 hown2 hgrow _
          have hO:Own w1 w.heap.size v' (L ++ [(Z:Int)]):=by refine Own.push ?_;rw [hL];exact hown2
          have hK2:Kp w w1:=(hkp.alloc _).grown hgrow hob
          clear hown2 hgrow hown' hkp hob hsz
          go_wp2
          exact ⟨⟨_,k + 1,0,_,rfl,rfl,by go_num,hO,hK2,by simp [hL],hWL,by omega,hs2,by omega⟩,by simp [intOf];omega⟩
      · skip
        obtain ⟨b,off,rfl,hc⟩:=HX.out.at (k:=k) (by omega)
        have e1:=kkeep hkp (hc k (by omega))
        have wx:=HW.out.1 k
        have wy:=HW.out.2.1 k
        have hy0:ys.getD k 0 = 0:=getD_out ys k (by omega)
        obtain ⟨X,hX⟩:∃ X,X = xs.getD k 0:=⟨_,rfl⟩
        obtain ⟨Y,hY⟩:∃ Y,Y = ys.getD k 0:=⟨_,rfl⟩
        have hst:=fun (C' Z:Nat) h=>minus_step L xs ys k C C' Z hL h hv
        rw [← hX,← hY] at hst
        rw [← hX] at wx e1
        rw [← hY] at wy hy0
        have f1:IntKind.u64.wrap X = X:=by rw [IntKind.wrap_u64];omega
        by_cases ct:X < (C:Int)
        · skip
          obtain ⟨Z,hZ⟩:∃ Z:Nat,Z = (X + 4294967296 - (C:Int)).toNat:=⟨_,rfl⟩
          have f4:IntKind.u64.wrap (X + 4294967296) = X + 4294967296:=by rw [IntKind.wrap_u64];omega
          have f5:IntKind.u64.wrap (X + 4294967296 - (C:Int)) = (Z:Int):=by rw [IntKind.wrap_u64];omega
          have hs2:=hst 1 Z (by omega)
          have f6:IntKind.u32.wrap (Z:Int) = (Z:Int):=by rw [IntKind.wrap_u32];omega
          have hWL:Wd (L ++ [(Z:Int)]):=hw.append (Wd.one (by omega))
          have hob:=own_block hown
          have hown':wr.ownsRow w.heap.size 43 1 v k (L.map (Value.int .u32)):=by rw [← hL];exact hown
          have hsz:=hkp.size
          have hkb:k < 1099511627776:=by omega
          have j0:(0:Int)≤(k:Int):=by omega
          have j1:(k:Int) < (N:Int):=by omega
          have j2:¬ ((k:Int) < (M:Int)):=by omega
          clear ca cb
          clear hc hy0 HX HY HW HN hN hM hX hY hv hZ hown wx wy hw hC hst
          go_wp2_with (first | (at_builtin;refine wpList_append_own _ rfl _ _ 25 rfl w.heap.size 43 i0 (.int .u32 0) 1 4 Tryz.underlying25 hi0 hi1 hi2 hi3 rfl (by decide) _ _ _ rfl (hown'.alloc _) ⟨wr.heap.size,0,none⟩ 1 1 [.int .u32 (Z:Int)] rfl rfl ?c1g0 ?c2g0 ?c3g0 ?c4g0 ?c5g0 ?_))
          try case c1g0 =>
            intro j' u hj'
            match j',hj' with
            | 0,hj'=>simp at hj';subst hj';simp [Addr.add]
          case c2g0=>first | rfl | (intro u hu;simp at hu;subst hu;rfl)
          case c3g0=>unfold maxLen;omega
          case c4g0=>omega
          case c5g0=>first | omega | (simp;omega)
          intro v' w1 hown2 hgrow _
          have hO:Own w1 w.heap.size v' (L ++ [(Z:Int)]):=by refine Own.push ?_;rw [hL];exact hown2
          have hK2:Kp w w1:=(hkp.alloc _).grown hgrow hob
          clear hown2 hgrow hown' hkp hob hsz
          go_wp2
          exact ⟨⟨_,k + 1,1,_,rfl,rfl,by go_num,hO,hK2,by simp [hL],hWL,by omega,hs2,by omega⟩,by simp [intOf];omega⟩
        · skip
          obtain ⟨Z,hZ⟩:∃ Z:Nat,Z = (X - (C:Int)).toNat:=⟨_,rfl⟩
          have f5:IntKind.u64.wrap (X - (C:Int)) = (Z:Int):=by rw [IntKind.wrap_u64];omega
          have hs2:=hst 0 Z (by omega)
          have f6:IntKind.u32.wrap (Z:Int) = (Z:Int):=by rw [IntKind.wrap_u32];omega
          have hWL:Wd (L ++ [(Z:Int)]):=hw.append (Wd.one (by omega))
          have hob:=own_block hown
          have hown':wr.ownsRow w.heap.size 43 1 v k (L.map (Value.int .u32)):=by rw [← hL];exact hown
          have hsz:=hkp.size
          have hkb:k < 1099511627776:=by omega
          have j0:(0:Int)≤(k:Int):=by omega
          have j1:(k:Int) < (N:Int):=by omega
          have j2:¬ ((k:Int) < (M:Int)):=by omega
          clear ca cb
          clear hc hy0 HX HY HW HN hN hM hX hY hv hZ hown wx wy hw hC hst
          go_wp2_with (first | (at_builtin;refine wpList_append_own _ rfl _ _ 25 rfl w.heap.size 43 i0 (.int .u32 0) 1 4 Tryz.underlying25 hi0 hi1 hi2 hi3 rfl (by decide) _ _ _ rfl (hown'.alloc _) ⟨wr.heap.size,0,none⟩ 1 1 [.int .u32 (Z:Int)] rfl rfl ?c1g1 ?c2g1 ?c3g1 ?c4g1 ?c5g1 ?_))
          try case c1g1 =>
            intro j' u hj'
            match j',hj' with
            | 0,hj'=>simp at hj';subst hj';simp [Addr.add]
          case c2g1=>first | rfl | (intro u hu;simp at hu;subst hu;rfl)
          case c3g1=>unfold maxLen;omega
          case c4g1=>omega
          case c5g1=>first | omega | (simp;omega)
          intro v' w1 hown2 hgrow _
          have hO:Own w1 w.heap.size v' (L ++ [(Z:Int)]):=by refine Own.push ?_;rw [hL];exact hown2
          have hK2:Kp w w1:=(hkp.alloc _).grown hgrow hob
          clear hown2 hgrow hown' hkp hob hsz
          go_wp2
          exact ⟨⟨_,k + 1,0,_,rfl,rfl,by go_num,hO,hK2,by simp [hL],hWL,by omega,hs2,by omega⟩,by simp [intOf];omega⟩
    · have hkN:k = N:=by omega
      have hv2:val L = val xs - val ys:=by
        rw [List.take_of_length_le (by omega),List.take_of_length_le (by omega)] at hv
        have:=minus_end L xs ys C k hL hw HW.out.2.2 hv hC
        subst this
        omega
      have hLl:L.length≤1099511627776:=by omega
      obtain ⟨p',c',rfl,hA,_⟩:=hown.arr
      have hno:=rnorm_ p' c' L wr hA hLl
      rw [nz_dig L hw,hv2] at hno
      obtain ⟨D,hD⟩:∃ D,D = L.length:=⟨_,rfl⟩
      rw [← hD] at hno ⊢
      have i2:¬ ((k:Int) < (N:Int)):=by omega
      clear HX HY HW HN hN hM hv hown hw hC hA hv2 hL hLl hD hkN ca lx hl
      go_wp2_with fail
      refine hno.mono ?_
      rintro e w2 ⟨v2,rfl,hO2,hk2⟩
      clear hno
      go_wp2
      exact bodyPost_ret (v:=v2) (by simp [results,Tryz.results34,go_sem] <;> simp only [*]) rfl ⟨v2,rfl,hO2.mono hkp.size,hkp.trans hk2⟩
end Go.Proofs.YtaidnpjgkkdloaaGreatDoor
