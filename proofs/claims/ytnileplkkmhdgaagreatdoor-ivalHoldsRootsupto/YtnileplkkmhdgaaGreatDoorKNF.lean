import Derived.Test.YtnileplkkmhdgaaGreatDoorKLN
import Derived.Deep.RegionHeld3
import Derived.Deep.RegionWith
import Derived.Laws.BitsAllLaws
import Derived.Laws.Slices
import Derived.WalkMore
set_option maxHeartbeats 1000000
set_option maxRecDepth 20000
namespace Go.Proofs.YtnileplkkmhdgaaGreatDoor
open Go.RowKit
theorem fresh_ (p:Option Addr) (c:Nat) (xs:List Int) (w:World) (hx:Arr w p xs) (lx:xs.length≤1099511627776) :
    Calls Tryz.prog 155 #[.slice p xs.length c] w fun e w'=>∃ g,e = .returned (.slice (some ⟨g,0,none⟩) xs.length xs.length)∧w.heap.size≤g∧Rw w' g xs.length xs∧Kp w w':=by
  obtain ⟨N,hN⟩:∃ N,N = xs.length:=⟨_,rfl⟩
  have hmk:=mk32 N (by omega)
  have hk1:Kp w (w.alloc (.cells (madeCells #[.int .u32 0] N) 72)):=(Kp.refl w).alloc _
  obtain ⟨w2,hcp,hr2,hkw⟩:=copy32 (w.alloc (.cells (madeCells #[.int .u32 0] N) 72)) w.heap.size N c p xs _ (World.rowIs_made w (.int .u32 0) N 72) (hx.grown hk1) (by omega)
  have hk2:Kp w w2:=hkw w (Nat.le_refl _) hk1
  have hrz:Rw w2 w.heap.size N xs:=World.rowIs.congr hr2 (fun j hj=>by rw [if_pos (by omega)])
  rw [← hN] at hcp ⊢
  clear hx lx hN hkw hr2 hk1
  go_enter Tryz.func155,Tryz.ntmps155
  go_wp2
  exact bodyPost_ret (v:=.slice (some ⟨w.heap.size,0,none⟩) N N) (by simp [results,Tryz.results155,go_sem] <;> simp only [*]) rfl ⟨_,rfl,Nat.le_refl _,hrz,hk2⟩
theorem sl32 (g k M n:Nat) (h:k + M≤n) (hk:k < n) (w:World):(Instr.slice 25 (.slice (some ⟨g,0,none⟩) n n) (some (.int .i64 (k:Int))) (some (.int .i64 ((k:Int) + (M:Int)))) none).run Tryz.prog w = .ok (.slice (some ⟨g,k,none⟩) M (n - k)) w:=by
  rw [run_slice_lh w 25 (some ⟨g,0,none⟩) n n Tryz.underlying25 .i64 .i64 (k:Int) ((k:Int) + (M:Int)) (by omega) (by omega) (by omega)]
  have e:(sizeOf (Tryz.prog.elem 25)).run Tryz.prog w = .ok 1 w:=by kernel_rfl
  have e2:((k:Int) + (M:Int)).toNat - k = M:=by omega
  have e3:¬ n = k:=by omega
  rw [e]
  simp [Result.andThen,sliced,e2,e3,Addr.add_lit]
theorem val_zeros (zs:List Int) (h:∀ j,zs.getD j 0 = 0):val zs = 0:=by
  induction zs with
  | nil=>rfl
  | cons z r ih =>
    have h0:=h 0
    simp at h0
    have:=ih (fun j=>by have:=h (j + 1);simpa using this)
    simp [val,h0,this]
theorem Wd_rep0 (n:Nat):Wd (List.replicate n (0:Int)):=by
  intro j
  by_cases c:j < n
  · simp [List.getD,c]
  · simp [List.getD,c]
theorem rep0_getD (n j:Nat):(List.replicate n (0:Int)).getD j 0 = 0:=by
  by_cases c:j < n
  · simp [List.getD,c]
  · simp [List.getD,c]
theorem product_ (p q:Option Addr) (c d:Nat) (xs ys:List Int) (w:World) (hx:Arr w p xs) (hy:Arr w q ys) (hwx:Wd xs) (hwy:Wd ys) (lx:xs.length≤16777216) (ly:ys.length≤16777216) :
    Calls Tryz.prog 133 #[.slice p xs.length c,.slice q ys.length d] w fun e w'=>∃ v,e = .returned v∧Own w' w.heap.size v (dig (val xs * val ys))∧Kp w w':=by
  obtain ⟨N,hN⟩:∃ N,N = xs.length:=⟨_,rfl⟩
  obtain ⟨M,hM⟩:∃ M,M = ys.length:=⟨_,rfl⟩
  obtain ⟨L,hL⟩:∃ L,L = N + M:=⟨_,rfl⟩
  have hmk:∀ w:World,(Instr.makeSlice 25 (.int .i64 ((N:Int) + (M:Int))) (.int .i64 ((N:Int) + (M:Int)))).run Tryz.prog w = .ok (.slice (some ⟨w.heap.size,0,none⟩) L L) (w.alloc (.cells (madeCells #[.int .u32 0] L) 72)):=by
    have:=mk32 L (by omega)
    have e:((L:Nat):Int) = (N:Int) + (M:Int):=by omega
    rw [e] at this
    exact this
  have hk1:Kp w (w.alloc (.cells (madeCells #[.int .u32 0] L) 72)):=(Kp.refl w).alloc _
  have hrz:Rw (w.alloc (.cells (madeCells #[.int .u32 0] L) 72)) w.heap.size L (List.replicate L 0):=World.rowIs.congr (World.rowIs_made w (.int .u32 0) L 72) (fun j _=>by rw [rep0_getD])
  obtain ⟨zs0,hz0⟩:∃ zs0,zs0 = List.replicate L (0:Int):=⟨_,rfl⟩
  have hzl0:zs0.length = L:=by rw [hz0];simp
  have hwz0:Wd zs0:=by rw [hz0];exact Wd_rep0 _
  have hzz0:∀ j,zs0.getD j 0 = 0:=fun j=>by rw [hz0];exact rep0_getD _ _
  have hvz0:=val_zeros zs0 hzz0
  rw [← hz0] at hrz
  have HX:Hid (Arr w p xs∧Wd xs):=⟨hx,hwx⟩
  have HY:Hid (Arr w q ys∧Wd ys):=⟨hy,hwy⟩
  have HN:Hid (N = xs.length∧M = ys.length∧N≤16777216∧M≤16777216):=⟨hN,hM,by omega,by omega⟩
  obtain ⟨g,hg⟩:∃ g,g = w.heap.size:=⟨_,rfl⟩
  rw [← hg] at hrz
  have HG:Hid (g = w.heap.size):=hg
  have lN:N≤16777216:=by omega
  have lM:M≤16777216:=by omega
  rw [← hN,← hM]
  have hLN:L = N + M:=hL
  clear hx hy hwx hwy lx ly hN hM hz0 hL
  have HL:Hid (L = N + M):=hLN
  clear hLN
  go_enter Tryz.func133,Tryz.ntmps133
  go_wp2
  rw [← hg]
  clear hmk hg
  go_loopw [15] (fun i wr=>∃ (k:Nat) (zs:List Int),i = .int .i64 k∧k≤N∧Rw wr g L zs∧zs.length = L∧Wd zs∧val zs = val (xs.take k) * val ys∧(∀ j,k + M≤j→zs.getD j 0 = 0)∧Kp w wr) (fun i _=>N - (intOf i).toNat)
  case atStart=>exact ⟨0,zs0,rfl,Nat.zero_le _,hrz,hzl0,hwz0,by rw [hvz0];simp [val],fun j _=>hzz0 j,hk1⟩
  case round =>
    clear hrz hzl0 hwz0 hzz0 hvz0 hk1
    obtain ⟨k,zs,rfl,hk,hrow,hzl,hwz,hv,hzz,hkp⟩:=hrel
    obtain ⟨hN,hM,hn1,hm1⟩:=HN.out
    clear hn1 hm1
    have hLe:=HL.out
    by_cases ck:k < N
    · obtain ⟨b,off,rfl,hc⟩:=HX.out.1.at (k:=k) (by omega)
      have e0:=hc k (by omega)
      have e1:=kkeep hkp e0
      have hbg:b≠g:=by have:=cell_lt e0;have:=HG.out;omega
      have wx:=HX.out.2 k
      have hrp:=row_prod xs k (val ys)
      obtain ⟨X,hX⟩:∃ X:Nat,(X:Int) = xs.getD k 0:=⟨(xs.getD k 0).toNat,by omega⟩
      rw [← hX] at e1 wx hrp
      rw [Int.toNat_natCast] at hrp
      have i0:(0:Int)≤(k:Int):=by omega
      have i1:(k:Int) < (N:Int):=by omega
      by_cases cX:X = 0
      · subst cX
        have hv2:val zs = val (xs.take (k + 1)) * val ys:=by rw [← hrp,hv];simp
        have t1:(((0:Nat):Int) != 0) = false:=by simp
        clear hc e0 HX HY HN HG hN hM hX wx hrp hbg hv HL hLe
        go_wp2
        exact ⟨⟨k + 1,zs,by go_num,by omega,hrow,hzl,hwz,hv2,fun j hj=>hzz j (by omega),hkp⟩,by simp [intOf];omega⟩
      · have t1:((X:Int) != 0) = true:=by simp;omega
        have hgw:w.heap.size≤g:=by rw [HG.out];exact Nat.le_refl _
        have hM0:0 < ys.length→∀ b' off',q = some ⟨b',off',none⟩→b'≠g:=fun h0 b' off' e=>by
          obtain ⟨b2,o2,h1,h2⟩:=HY.out.1.at (k:=0) h0
          rw [h1] at e
          cases e
          have:=cell_lt (h2 0 h0)
          have:=HG.out
          omega
        have had:=fun w' (h:Kp wr w')=>addTimes_ g L k (L - k) d X q zs ys w' (hrow.grown h) hzl hwz (HY.out.1.grown (hkp.trans h)) HY.out.2 (by omega) hM0 (by omega) (by omega) (by omega)
        rw [← hM,hv,hrp] at had
        obtain ⟨E,hE⟩:∃ E,E = k + M:=⟨_,rfl⟩
        have fE:(k:Int) + (M:Int) = (E:Int):=by omega
        have i2:(k:Int)≤(E:Int):=by omega
        have i3:(E:Int)≤(L:Int):=by omega
        have i4:(E:Int) < (L:Int):=by omega
        have i5:(0:Int)≤(E:Int):=by omega
        have i7:¬ (L = k):=by omega
        have i8:E - k = M:=by omega
        have hsl:∀ w:World,(Instr.slice 25 (.slice (some ⟨g,0,none⟩) L L) (some (.int .i64 (k:Int))) (some (.int .i64 (E:Int))) none).run Tryz.prog w = .ok (.slice (some ⟨g,k,none⟩) M (L - k)) w:=by
          rw [← fE];exact sl32 g k M L (by omega) (by omega)
        rw [← hE] at had
        have hz0:=hzz E (by omega)
        have hkM:E < L:=by omega
        have hE9:(E:Int) < 9223372036854775808:=by omega
        have fE1:=w64 (E:Int) i5 hE9
        have fE2:=wi64 (E:Int) i5 hE9
        have HE:Hid (E = k + M):=hE
        clear hc e0 HX HY HN hN hM hX wx hv hwz hM0 hrp hzl HL hLe hE
        go_wp2
        go_region_held3 (fun w'=>w'.cell? ⟨b,off + k,none⟩ = some (.int .u32 (X:Int))) (first | (exact e1) | (exact hkb2.arr hbg e1) | (exact (World.cell?_setCell_far _ _ _ _ (Ne.symm hbg)).trans (hkb2.arr hbg e1))) (first | (go_at_call 158;refine (had _ (Kp.refl _).drew).mono ?_;rintro e w2 ⟨C,us,rfl,hR2,hl2,hw2,hC,hv2,hs2,hkb2⟩;have e3:=World.rowIs.cell hR2 (i:=E) hkM;have e4:=World.rowIs.frozen hR2 E))
        clear fE1 fE2 fE hE9 i5 i7 i8 hsl had
        have hE:=HE.out
        have hu0:us.getD E 0 = 0:=by rw [hs2 _ (Nat.le_refl _)];exact hz0
        have hvs:=val_set us E (C:Int) (by omega)
        rw [hu0,Int.toNat_natCast,hv2] at hvs
        have hv3:val (us.set E (C:Int)) = val (xs.take (k + 1)) * val ys:=by simpa using hvs
        have hR:=hR2.set E (C:Int) (by omega)
        have hK:Kp w (w2.setCell ⟨g,E,none⟩ (.int .u32 (C:Int))):=(hkb2.kp (hkp.drew) hgw).setCell hgw _
        have hw3:Wd (us.set E (C:Int)):=hw2.set _ _ (by omega)
        have hl3:(us.set E (C:Int)).length = L:=by rw [List.length_set];exact hl2
        have hz3:∀ j,k + 1 + M≤j→(us.set E (C:Int)).getD j 0 = 0:=fun j hj=>by
          have e1:(us.set E (C:Int)).getD j 0 = us.getD j 0:=by simp [List.getD,show ¬ E = j from by omega]
          rw [e1,hs2 j (by omega)]
          exact hzz j (by omega)
        clear HE hE e1 e3 e4 hv2 hvs hs2 hzz hkb2 hR2 hkp hrow
        go_wp2
        exact ⟨⟨k + 1,us.set E (C:Int),by go_num,by omega,hR,hl3,hw3,hv3,hz3,hK⟩,by simp [intOf];omega⟩
    · have hkN:k = N:=by omega
      subst hkN
      rw [hN,List.take_length] at hv
      have hA:=hrow.arr L (Nat.le_refl _) (by omega)
      rw [List.take_of_length_le (by omega)] at hA
      have htr:=trim_ (some ⟨g,0,none⟩) L zs wr hA (by omega) (by omega)
      have hO:Own wr w.heap.size (.slice (some ⟨g,0,none⟩) (tl zs) L) (dig (val xs * val ys)):=by
        have h1:=Own.of_row (base:=w.heap.size) (k:=tl zs) hrow (by rw [HG.out];exact Nat.le_refl _) (by have:=tl_le zs;omega) hzl (by unfold maxLen;omega)
        have h2:zs.take (tl zs) = dig (val xs * val ys):=by rw [← hv,← nz_dig zs hwz];rfl
        rw [h2] at h1
        exact h1
      rw [hzl] at htr
      obtain ⟨T,hT⟩:∃ T,T = tl zs:=⟨_,rfl⟩
      rw [← hT] at htr hO
      have i2:¬ ((k:Int) < (k:Int)):=by omega
      clear hA hrow hzl hwz hv hT HX HY HN HG hN hM hzz HL hLe
      go_wp2_with (first | (go_at_call 120;refine htr.mono ?_;rintro e w' ⟨rfl,hw'⟩;obtain rfl:=hw'.symm))
      exact bodyPost_ret (v:=.slice (some ⟨g,0,none⟩) T L) (by simp [results,Tryz.results133,go_sem] <;> simp only [*]) rfl ⟨_,rfl,hO,hkp⟩
theorem trial_ (head u v1 v0:Nat) (h:TA head u v1 v0) (w:World) :
    Calls Tryz.prog 174 #[.int .u64 (head:Int),.int .u32 (u:Int),.int .u32 (v1:Int),.int .u32 (v0:Int)] w fun e w'=>e = .returned (.int .u32 (trialN head u v1 v0:Nat))∧w' = w.drew:=by
  obtain ⟨R,hR⟩:∃ R,R = trialN head u v1 v0:=⟨_,rfl⟩
  rw [← hR]
  obtain ⟨b1,b2,b3,b4,b5⟩:=h.bounds
  obtain ⟨q0,hq0⟩:∃ q0,q0 = head / v1:=⟨_,rfl⟩
  obtain ⟨r0,hr0⟩:∃ r0,r0 = head % v1:=⟨_,rfl⟩
  have hI:=TI.start h
  rw [← hq0,← hr0] at hI
  have hIb:=hI.bounds
  have HA:Hid (TA head u v1 v0∧R = trialN head u v1 v0∧TI head u v1 v0 q0 r0):=⟨h,hR,hI⟩
  have fV1:IntKind.u64.wrap (v1:Int) = (v1:Int):=by rw [IntKind.wrap_u64];omega
  have fV0:IntKind.u64.wrap (v0:Int) = (v0:Int):=by rw [IntKind.wrap_u64];omega
  have fU:IntKind.u64.wrap (u:Int) = (u:Int):=by rw [IntKind.wrap_u64];omega
  have fq:(head:Int) / (v1:Int) = (q0:Int):=by rw [hq0];exact (Int.natCast_ediv head v1).symm
  have fr:(head:Int) % (v1:Int) = (r0:Int):=by rw [hr0];exact (Int.natCast_emod head v1).symm
  have fq2:Int.tdiv (head:Int) (v1:Int) = (q0:Int):=by rw [hq0];rfl
  have fr2:Int.tmod (head:Int) (v1:Int) = (r0:Int):=by rw [hr0];rfl
  have t0:¬ v1 = 0:=by omega
  have fq3:IntKind.u64.wrap (q0:Int) = (q0:Int):=by rw [IntKind.wrap_u64];omega
  have fr3:IntKind.u64.wrap (r0:Int) = (r0:Int):=by rw [IntKind.wrap_u64];omega
  clear hR h hq0 hr0 hI hIb b1 b2 b3 b4 b5
  go_enter Tryz.func174,Tryz.ntmps174
  go_wp2
  go_step3
  go_wp2
  go_region
  clear fq fr fq2 fr2 fq3 fr3 t0
  go_wp2
  go_step3
  go_wp2
  go_loop [9,10] (fun qq rr=>∃ q r:Nat,qq = .int .u64 (q:Int)∧rr = .int .u64 (r:Int)∧TI head u v1 v0 q r) (fun qq _=>(intOf qq).toNat)
  case atStart=>exact ⟨q0,r0,rfl,rfl,HA.out.2.2⟩
  case round =>
    obtain ⟨q,r,rfl,rfl,hI⟩:=hrel
    obtain ⟨hA,hR,_⟩:=HA.out
    obtain ⟨b1,b2,b3,b4,b5⟩:=hA.bounds
    have hb:=hI.bounds
    obtain ⟨rh,hrh⟩:∃ rh,rh = r / 4294967296:=⟨_,rfl⟩
    have f1:(r:Int) / 4294967296 = (rh:Int):=by omega
    by_cases cr:r < 4294967296
    · have hrh0:rh = 0:=by omega
      subst hrh0
      obtain ⟨qh,hqh⟩:∃ qh,qh = q / 4294967296:=⟨_,rfl⟩
      have f2:(q:Int) / 4294967296 = (qh:Int):=by omega
      by_cases cq:4294967296≤q
      · have t2:¬ (qh = 0):=by omega
        obtain ⟨q1,hI2⟩:=TI.step hA hI cr (Or.inl cq)
        obtain ⟨q',hq'⟩:∃ q',q' = q - 1:=⟨_,rfl⟩
        obtain ⟨r',hr'⟩:∃ r',r' = r + v1:=⟨_,rfl⟩
        rw [← hq',← hr'] at hI2
        have f5:IntKind.u64.wrap ((q:Int) - 1) = (q':Int):=by rw [IntKind.wrap_u64];omega
        have f4:IntKind.u64.wrap ((r:Int) + (v1:Int)) = (r':Int):=by rw [IntKind.wrap_u64];omega
        have HN:Hid (TI head u v1 v0 q' r'∧q' < q):=⟨hI2,by omega⟩
        clear HA hI hA hR b1 b2 b3 b4 b5 hb hrh cr hqh cq q1 hI2 hq' hr'
        go_wp2
        exact ⟨⟨q',r',rfl,rfl,HN.out.1⟩,by have:=HN.out.2;simp [intOf];omega⟩
      · have hqh0:qh = 0:=by omega
        subst hqh0
        obtain ⟨P,hP⟩:∃ P,P = q * v0:=⟨_,rfl⟩
        have hPb:P < 18446744073709551616:=by rw [hP];exact mul64 (by omega) b3
        have f6:IntKind.u64.wrap ((q:Int) * (v0:Int)) = (P:Int):=by
          have e:(q:Int) * (v0:Int) = (P:Int):=by rw [hP];exact (Int.natCast_mul q v0).symm
          rw [e,IntKind.wrap_u64];omega
        obtain ⟨S,hS⟩:∃ S,S = r * 4294967296:=⟨_,rfl⟩
        obtain ⟨C,hC⟩:∃ C,C = r * 4294967296 + u:=⟨_,rfl⟩
        have f7:IntKind.u64.wrap ((r:Int) * 4294967296) = (S:Int):=by rw [IntKind.wrap_u64];omega
        have f8:bits BinOp.or IntKind.u64 (S:Int) (u:Int) = (C:Int):=by
          rw [hS,bits_or_u64_nat (r * 4294967296) u (by omega) (by omega)]
          have e2:r * 4294967296 ||| u = C:=by
            rw [Nat.or_comm,hC]
            have:=or_low u r 32 (by omega)
            rw [show (2:Nat) ^ 32 = 4294967296 from rfl] at this
            omega
          rw [e2]
        by_cases cp:C < P
        · obtain ⟨q1,hI2⟩:=TI.step hA hI cr (Or.inr (by rw [← hC,← hP];exact cp))
          obtain ⟨q',hq'⟩:∃ q',q' = q - 1:=⟨_,rfl⟩
          obtain ⟨r',hr'⟩:∃ r',r' = r + v1:=⟨_,rfl⟩
          rw [← hq',← hr'] at hI2
          have f5:IntKind.u64.wrap ((q:Int) - 1) = (q':Int):=by rw [IntKind.wrap_u64];omega
          have f4:IntKind.u64.wrap ((r:Int) + (v1:Int)) = (r':Int):=by rw [IntKind.wrap_u64];omega
          have HN:Hid (TI head u v1 v0 q' r'∧q' < q):=⟨hI2,by omega⟩
          have t3:(C:Int) < (P:Int):=by omega
          clear HA hI hA hR b1 b2 b3 b4 b5 hb hrh cr hqh cq q1 hI2 hq' hr' hP hPb hS hC cp
          go_wp2
          exact ⟨⟨q',r',rfl,rfl,HN.out.1⟩,by have:=HN.out.2;simp [intOf];omega⟩
        · have hq:=TI.stop hA hI (Or.inr ⟨by omega,by rw [← hC,← hP];omega⟩)
          rw [← hR] at hq
          subst hq
          have f9:IntKind.u32.wrap (q:Int) = (q:Int):=by rw [IntKind.wrap_u32];omega
          have t3:¬ (C:Int) < (P:Int):=by omega
          clear HA hI hA hR b1 b2 b3 b4 b5 hb hrh cr hqh cq hP hPb hS hC cp
          go_wp2
          exact bodyPost_ret (v:=.int .u32 (q:Int)) (by simp [results,Tryz.results174,go_sem] <;> simp only [*]) rfl ⟨rfl,rfl⟩
    · have hq:=TI.stop hA hI (Or.inl (by omega))
      rw [← hR] at hq
      subst hq
      have hlt:=trialN_lt head u v1 v0
      rw [← hR] at hlt
      have f9:IntKind.u32.wrap (q:Int) = (q:Int):=by rw [IntKind.wrap_u32];omega
      have t3:¬ rh = 0:=by omega
      clear HA hI hA hR b1 b2 b3 b4 b5 hb hrh cr hlt
      go_wp2
      exact bodyPost_ret (v:=.int .u32 (q:Int)) (by simp [results,Tryz.results174,go_sem] <;> simp only [*]) rfl ⟨rfl,rfl⟩
theorem sub32_ (x y b:Nat) (hx:x < 4294967296) (hy:y < 4294967296) (hb:b≤1) (w:World) :
    Calls Tryz.prog 156 #[.int .u32 (x:Int),.int .u32 (y:Int),.int .u32 (b:Int)] w fun e w'=>e = .returned (.tuple #[.int .u32 (((x + 8589934592 - y - b) % 4294967296:Nat):Int),.int .u32 ((if x < y + b then 1 else 0:Nat):Int)])∧w' = w:=by
  obtain ⟨d,hd⟩:∃ d,d = (x + 8589934592 - y - b) % 4294967296:=⟨_,rfl⟩
  have hs:=sub_borrow x y b d hx hy hb hd
  have hz:x ^^^ y < 4294967296:=Nat.xor_lt_two_pow (n:=32) hx hy
  obtain ⟨B,hB⟩:∃ B:Nat,B = if x < y + b then 1 else 0:=⟨_,rfl⟩
  rw [← hd,← hB]
  rw [← hB] at hs
  obtain ⟨d1,hd1⟩:∃ d1:Nat,d1 = (x + 4294967296 - y) % 4294967296:=⟨_,rfl⟩
  have f1:IntKind.u32.wrap ((x:Int) - (y:Int)) = (d1:Int):=by rw [IntKind.wrap_u32];omega
  have f2:IntKind.u32.wrap ((d1:Int) - (b:Int)) = (d:Int):=by rw [IntKind.wrap_u32];omega
  have g1:=u32_xor_nat x y hx hy
  have g2:=u32_and_nat (4294967295 - x) y (by omega) hy
  have g3:=u32_and_nat (4294967295 - (x ^^^ y)) d (by omega) (by omega)
  have l1:(4294967295 - x) &&& y < 4294967296:=Nat.and_lt_two_pow (n:=32) _ hy
  have l2:(4294967295 - (x ^^^ y)) &&& d < 4294967296:=Nat.and_lt_two_pow (n:=32) _ (by omega)
  have g4:=u32_or_nat _ _ l1 l2
  obtain ⟨z,hzz⟩:∃ z,z = x ^^^ y:=⟨_,rfl⟩
  rw [← hzz] at g1 g3 g4 hs hz l2
  obtain ⟨nx,hnx⟩:∃ nx,nx = 4294967295 - x:=⟨_,rfl⟩
  obtain ⟨nz',hnz⟩:∃ nz',nz' = 4294967295 - z:=⟨_,rfl⟩
  rw [← hnx] at g2 g4 hs l1
  rw [← hnz] at g3 g4 hs l2
  have n1:bits BinOp.xor IntKind.u32 IntKind.u32.max (x:Int) = (nx:Int):=by
    have:=u32_xor_nat 4294967295 x (by omega) hx
    rw [not32 x hx,← hnx] at this
    exact this
  have n2:bits BinOp.xor IntKind.u32 IntKind.u32.max (z:Int) = (nz':Int):=by
    have:=u32_xor_nat 4294967295 z (by omega) hz
    rw [not32 z hz,← hnz] at this
    exact this
  obtain ⟨u1,hu1⟩:∃ u1,u1 = nx &&& y:=⟨_,rfl⟩
  obtain ⟨u2,hu2⟩:∃ u2,u2 = nz' &&& d:=⟨_,rfl⟩
  rw [← hu1] at g2 g4 hs
  rw [← hu2] at g3 g4 hs
  obtain ⟨u3,hu3⟩:∃ u3,u3 = u1 ||| u2:=⟨_,rfl⟩
  rw [← hu3] at g4 hs
  have f3:(u3:Int) / 2147483648 = (B:Int):=by omega
  clear hd hB hd1 hzz hnx hnz hu1 hu2 hu3 hs hx hy hb hz l1 l2
  go_enter Tryz.func156,Tryz.ntmps156
  go_wp2
  exact bodyPost_ret (v:=.tuple #[.int .u32 (d:Int),.int .u32 (B:Int)]) (by simp [results,Tryz.results156,go_sem] <;> simp only [*]) rfl ⟨rfl,rfl⟩
theorem subTimes_ (g n i c1 d X:Nat) (q:Option Addr) (zs ys:List Int) (w:World) (hr:Rw w g n zs) (hzl:zs.length = n) (hwz:Wd zs) (hy:Arr w q ys) (hwy:Wd ys) (hX:X < 4294967296) (hq:0 < ys.length→∀ b off,q = some ⟨b,off,none⟩→b≠g) (hin:i + ys.length + 1≤n) (hn:n≤16777216) (hcc:ys.length + 1≤c1) :
    Calls Tryz.prog 175 #[.slice (some ⟨g,i,none⟩) (ys.length + 1) c1,.slice q ys.length d,.int .u32 (X:Int)] w fun e w'=>∃ (O b:Nat) (us:List Int),e = .returned (.bool (decide ((zs.getD (i + ys.length) 0).toNat < O + b)))∧Rw w' g n us∧us.length = n∧Wd us∧O < 4294967296∧b≤1∧val us + val ys * X * 4294967296 ^ i = val zs + (O + b) * 4294967296 ^ (i + ys.length)∧(∀ j,i + ys.length≤j→us.getD j 0 = zs.getD j 0)∧Kb g w w':=by
  obtain ⟨M,hM⟩:∃ M,M = ys.length:=⟨_,rfl⟩
  rw [← hM] at hin hcc ⊢
  have HY:Hid (Arr w q ys∧(0 < ys.length→∀ b off,q = some ⟨b,off,none⟩→b≠g)):=⟨hy,hq⟩
  have HW:Hid (Wd ys∧M = ys.length):=⟨hwy,hM⟩
  have HZ:Hid (Rw w g n zs∧zs.length = n∧Wd zs):=⟨hr,hzl,hwz⟩
  have hX2:IntKind.u64.wrap (X:Int) = (X:Int):=by rw [IntKind.wrap_u64];omega
  clear hy hq hwy hM hr hzl hwz
  go_enter Tryz.func175,Tryz.ntmps175
  go_wp2
  go_loopw [7,8,12] (fun oo bb ii wr=>∃ (k O b:Nat) (us:List Int),oo = .int .u64 (O:Int)∧bb = .int .u32 (b:Int)∧ii = .int .i64 k∧k≤M∧Rw wr g n us∧us.length = n∧Wd us∧O < 4294967296∧b≤1∧val us + val (ys.take k) * X * 4294967296 ^ i = val zs + (O + b) * 4294967296 ^ (i + k)∧(∀ j,i + k≤j→us.getD j 0 = zs.getD j 0)∧Kb g w wr) (fun _ _ i _=>M - (intOf i).toNat)
  case atStart=>exact ⟨0,0,0,zs,rfl,rfl,rfl,Nat.zero_le _,HZ.out.1,HZ.out.2.1,HZ.out.2.2,by omega,by omega,by simp [val],fun j _=>rfl,Kb.refl _ _⟩
  case round =>
    obtain ⟨k,O,bo,us,rfl,rfl,rfl,hk,hrow,hul,hwu,hO,hbo,hv,hsam,hkb⟩:=hrel
    obtain ⟨hwy,hM⟩:=HW.out
    by_cases ck:k < M
    · obtain ⟨b',off',rfl,hc'⟩:=HY.out.1.at (k:=k) (by omega)
      have hbg:=HY.out.2 (by omega) b' off' rfl
      have e2:=hkb.arr hbg (hc' k (by omega))
      have e1:=World.rowIs.cell hrow (i:=i + k) (by omega)
      have e4:=World.rowIs.frozen hrow (i + k)
      have wy:=hwy k
      have wz:=hwu (i + k)
      obtain ⟨Y,hY⟩:∃ Y:Nat,(Y:Int) = ys.getD k 0:=⟨(ys.getD k 0).toNat,by omega⟩
      obtain ⟨Z0,hZ0⟩:∃ Z0:Nat,(Z0:Int) = us.getD (i + k) 0:=⟨(us.getD (i + k) 0).toNat,by omega⟩
      rw [← hY] at e2
      rw [← hZ0] at e1
      have hmw:=mul_word Y X O 0 (by omega) hX hO (by omega)
      obtain ⟨P,hP⟩:∃ P,P = Y * X:=⟨_,rfl⟩
      rw [← hP] at hmw
      have f1:IntKind.u64.wrap (Y:Int) = (Y:Int):=by rw [IntKind.wrap_u64];omega
      have f2:IntKind.u64.wrap ((Y:Int) * (X:Int)) = (P:Int):=by
        have:(Y:Int) * (X:Int) = (P:Int):=by rw [hP];exact (Int.natCast_mul Y X).symm
        rw [this,IntKind.wrap_u64];omega
      obtain ⟨S,hS⟩:∃ S:Nat,S = O + P:=⟨_,rfl⟩
      have f3:IntKind.u64.wrap ((O:Int) + (P:Int)) = (S:Int):=by rw [IntKind.wrap_u64];omega
      obtain ⟨lw,hlw⟩:∃ lw:Nat,lw = S % 4294967296:=⟨_,rfl⟩
      obtain ⟨H,hH⟩:∃ H:Nat,H = S / 4294967296:=⟨_,rfl⟩
      have f4:IntKind.u32.wrap (S:Int) = (lw:Int):=by rw [IntKind.wrap_u32];omega
      have f5:(S:Int) / 4294967296 = (H:Int):=by omega
      have had:=sub32_ Z0 lw bo (by omega) (by omega) hbo
      obtain ⟨D,hD⟩:∃ D:Nat,D = (Z0 + 8589934592 - lw - bo) % 4294967296:=⟨_,rfl⟩
      obtain ⟨B,hB⟩:∃ B:Nat,B = if Z0 < lw + bo then 1 else 0:=⟨_,rfl⟩
      rw [← hD,← hB] at had
      have hB1:B≤1:=by rw [hB];split <;> omega
      have hst:=subt_step us ys i k O bo B H lw D Y Z0 X _ (by omega) hZ0.symm (by rw [← hY,Int.toNat_natCast]) (by rw [← hP];omega) (by rw [hD,hB];split <;> omega) hv
      have hH32:H < 4294967296:=by omega
      have hw2:Wd (us.set (i + k) (D:Int)):=hwu.set (i + k) D (by omega)
      have hl2:(us.set (i + k) (D:Int)).length = n:=by rw [List.length_set];exact hul
      have hsam2:∀ j,i + (k + 1)≤j→(us.set (i + k) (D:Int)).getD j 0 = zs.getD j 0:=fun j h1=>by
        rw [← hsam j (by omega)];simp [List.getD,show ¬ i + k = j from by omega]
      have hR:=hrow.set (i + k) (D:Int) (by omega)
      have hK:=hkb.setCell (i + k) (.int .u32 (D:Int))
      have i0:(0:Int)≤(k:Int):=by omega
      have i1:(k:Int) < (M:Int):=by omega
      have i2:(k:Int) < (M:Int) + 1:=by omega
      clear hc' HY HW HZ hwy hM hY hZ0 hlw hH hS hv hP wy wz hwu hO hbo hsam hul hmw hD hB hrow hkb
      go_wp2_with (first | (go_at_call 156;refine (had _).mono ?_;rintro e w' ⟨rfl,hw'⟩;obtain rfl:=hw'.symm))
      exact ⟨⟨k + 1,H,B,us.set (i + k) (D:Int),rfl,rfl,by go_num,by omega,hR,hl2,hw2,hH32,hB1,hst,hsam2,hK⟩,by simp [intOf];omega⟩
    · obtain ⟨O',hO'⟩:∃ O',O' = O:=⟨_,rfl⟩
      obtain ⟨bo',hbo'⟩:∃ bo',bo' = bo:=⟨_,rfl⟩
      subst hO' hbo'
      have hkM:k = M:=by omega
      subst hkM
      rw [hM,List.take_length,← hM] at hv
      have wz:=hwu (i + k)
      have e1:=World.rowIs.cell hrow (i:=i + k) (by omega)
      obtain ⟨Z0,hZ0⟩:∃ Z0:Nat,(Z0:Int) = us.getD (i + k) 0:=⟨(us.getD (i + k) 0).toNat,by omega⟩
      rw [← hZ0] at e1
      have hzz:(zs.getD (i + k) 0).toNat = Z0:=by rw [← hsam _ (Nat.le_refl _),← hZ0,Int.toNat_natCast]
      have i2:¬ ((k:Int) < (k:Int)):=by omega
      have i3:(k:Int) < (k:Int) + 1:=by omega
      have i0:(0:Int)≤(k:Int):=by omega
      have f1:IntKind.u64.wrap (Z0:Int) = (Z0:Int):=by rw [IntKind.wrap_u64];omega
      have f2:IntKind.u64.wrap (bo':Int) = (bo':Int):=by rw [IntKind.wrap_u64];omega
      have f3:IntKind.u64.wrap ((O':Int) + (bo':Int)) = (O':Int) + (bo':Int):=by rw [IntKind.wrap_u64];omega
      have hdec:decide ((Z0:Int) < (O':Int) + (bo':Int)) = decide ((zs.getD (i + k) 0).toNat < O' + bo'):=by
        rw [hzz];by_cases e:Z0 < O' + bo' <;> simp [e] <;> omega
      clear HY HW HZ hwy hM hk ck wz hZ0 hzz
      have hfin:∃ (O b:Nat) (us:List Int),Ending.returned (.bool (decide ((Z0:Int) < (O':Int) + (bo':Int)))) = .returned (.bool (decide ((zs.getD (i + k) 0).toNat < O + b)))∧Rw wr g n us∧us.length = n∧Wd us∧O < 4294967296∧b≤1∧val us + val ys * X * 4294967296 ^ i = val zs + (O + b) * 4294967296 ^ (i + k)∧(∀ j,i + k≤j→us.getD j 0 = zs.getD j 0)∧Kb g w wr:=⟨O',bo',us,by rw [hdec],hrow,hul,hwu,hO,hbo,hv,hsam,hkb⟩
      have HF:Hid (∃ (O b:Nat) (us:List Int),Ending.returned (.bool (decide ((Z0:Int) < (O':Int) + (bo':Int)))) = .returned (.bool (decide ((zs.getD (i + k) 0).toNat < O + b)))∧Rw wr g n us∧us.length = n∧Wd us∧O < 4294967296∧b≤1∧val us + val ys * X * 4294967296 ^ i = val zs + (O + b) * 4294967296 ^ (i + k)∧(∀ j,i + k≤j→us.getD j 0 = zs.getD j 0)∧Kb g w wr):=hfin
      clear hfin hrow hul hwu hO hbo hv hsam hkb hdec
      go_wp2
      exact bodyPost_ret (v:=.bool (decide ((Z0:Int) < (O':Int) + (bo':Int)))) (by simp [results,Tryz.results175,go_sem]) rfl (by obtain ⟨O,b,us,h1,h2⟩:=HF.out;exact ⟨O,b,h1,us,h2⟩)
theorem putBack_ (g n i c1 d:Nat) (q:Option Addr) (zs ys:List Int) (w:World) (hr:Rw w g n zs) (hzl:zs.length = n) (hwz:Wd zs) (hy:Arr w q ys) (hwy:Wd ys) (hq:0 < ys.length→∀ b off,q = some ⟨b,off,none⟩→b≠g) (hin:i + ys.length + 1≤n) (hn:n≤16777216) (hcc:ys.length + 1≤c1) :
    Calls Tryz.prog 176 #[.slice (some ⟨g,i,none⟩) (ys.length + 1) c1,.slice q ys.length d] w fun e w'=>∃ (C:Nat) (us:List Int),e = .returned (.tuple #[])∧Rw w' g n us∧us.length = n∧Wd us∧val us + C * 4294967296 ^ (i + ys.length) = val zs + val ys * 4294967296 ^ i∧(∀ j,i + ys.length≤j→us.getD j 0 = zs.getD j 0)∧Kb g w w':=by
  obtain ⟨M,hM⟩:∃ M,M = ys.length:=⟨_,rfl⟩
  rw [← hM] at hin hcc ⊢
  have HY:Hid (Arr w q ys∧(0 < ys.length→∀ b off,q = some ⟨b,off,none⟩→b≠g)):=⟨hy,hq⟩
  have HW:Hid (Wd ys∧M = ys.length):=⟨hwy,hM⟩
  have HZ:Hid (Rw w g n zs∧zs.length = n∧Wd zs):=⟨hr,hzl,hwz⟩
  clear hy hq hwy hM hr hzl hwz
  go_enter Tryz.func176,Tryz.ntmps176
  go_wp2
  go_loopw [4,8] (fun cc ii wr=>∃ (k C:Nat) (us:List Int),cc = .int .u32 (C:Int)∧ii = .int .i64 k∧k≤M∧Rw wr g n us∧us.length = n∧Wd us∧C≤1∧val us + C * 4294967296 ^ (i + k) = val zs + val (ys.take k) * 4294967296 ^ i∧(∀ j,i + k≤j→us.getD j 0 = zs.getD j 0)∧Kb g w wr) (fun _ i _=>M - (intOf i).toNat)
  case atStart=>exact ⟨0,0,zs,rfl,rfl,Nat.zero_le _,HZ.out.1,HZ.out.2.1,HZ.out.2.2,by omega,by simp [val],fun j _=>rfl,Kb.refl _ _⟩
  case round =>
    obtain ⟨k,C,us,rfl,rfl,hk,hrow,hul,hwu,hC,hv,hsam,hkb⟩:=hrel
    obtain ⟨hwy,hM⟩:=HW.out
    by_cases ck:k < M
    · obtain ⟨b',off',rfl,hc'⟩:=HY.out.1.at (k:=k) (by omega)
      have hbg:=HY.out.2 (by omega) b' off' rfl
      have e2:=hkb.arr hbg (hc' k (by omega))
      have e1:=World.rowIs.cell hrow (i:=i + k) (by omega)
      have e4:=World.rowIs.frozen hrow (i + k)
      have wy:=hwy k
      have wz:=hwu (i + k)
      obtain ⟨Y,hY⟩:∃ Y:Nat,(Y:Int) = ys.getD k 0:=⟨(ys.getD k 0).toNat,by omega⟩
      obtain ⟨Z0,hZ0⟩:∃ Z0:Nat,(Z0:Int) = us.getD (i + k) 0:=⟨(us.getD (i + k) 0).toNat,by omega⟩
      rw [← hY] at e2
      rw [← hZ0] at e1
      have had:=add32_ (Z0:Int) (Y:Int) (C:Int) (by omega) (by omega) (by omega)
      obtain ⟨S,hS⟩:∃ S:Nat,S = (Z0 + Y + C) % 4294967296:=⟨_,rfl⟩
      obtain ⟨C',hC'⟩:∃ C':Nat,C' = (Z0 + Y + C) / 4294967296:=⟨_,rfl⟩
      have g1:((Z0:Int) + Y + C) % 4294967296 = (S:Int):=by omega
      have g2:((Z0:Int) + Y + C) / 4294967296 = (C':Int):=by omega
      rw [g1,g2] at had
      have hst:=back_step us ys i k C C' S Y Z0 _ (by omega) hZ0.symm (by rw [← hY,Int.toNat_natCast]) (by omega) hv
      have hC1:C'≤1:=by omega
      have hw2:Wd (us.set (i + k) (S:Int)):=hwu.set (i + k) S (by omega)
      have hl2:(us.set (i + k) (S:Int)).length = n:=by rw [List.length_set];exact hul
      have hsam2:∀ j,i + (k + 1)≤j→(us.set (i + k) (S:Int)).getD j 0 = zs.getD j 0:=fun j h1=>by
        rw [← hsam j (by omega)];simp [List.getD,show ¬ i + k = j from by omega]
      have hR:Rw (wr.setCell ⟨g,i + k,none⟩ (.int .u32 (S:Int))).drew g n (us.set (i + k) (S:Int)):=hrow.set (i + k) (S:Int) (by omega)
      have hK:Kb g w (wr.setCell ⟨g,i + k,none⟩ (.int .u32 (S:Int))).drew:=hkb.setCell (i + k) (.int .u32 (S:Int))
      have i0:(0:Int)≤(k:Int):=by omega
      have i1:(k:Int) < (M:Int):=by omega
      have i2:(k:Int) < (M:Int) + 1:=by omega
      clear hc' HY HW HZ hwy hM hY hZ0 hv wy wz hwu hC hsam hul hS hC' g1 g2 hrow hkb
      go_wp2
      first | (go_region_with (first | (go_at_call 152;refine (had _).mono ?_;rintro e w' ⟨rfl,hw'⟩;obtain rfl:=hw'.symm))) | fail
      all_goals
        clear had e1 e2 e4 hbg
        go_wp2
        exact ⟨⟨k + 1,C',us.set (i + k) (S:Int),rfl,by go_num,by omega,hR,hl2,hw2,hC1,hst,hsam2,hK⟩,by simp [intOf];omega⟩
    · have hkM:k = M:=by omega
      subst hkM
      rw [hM,List.take_length,← hM] at hv
      have i2:¬ ((k:Int) < (k:Int)):=by omega
      have HF:Hid (Rw wr g n us∧us.length = n∧Wd us∧val us + C * 4294967296 ^ (i + k) = val zs + val ys * 4294967296 ^ i∧(∀ j,i + k≤j→us.getD j 0 = zs.getD j 0)∧Kb g w wr):=⟨hrow,hul,hwu,hv,hsam,hkb⟩
      clear HY HW HZ hwy hM hk ck hrow hul hwu hC hv hsam hkb
      go_wp2
      exact bodyPost_end (v:=.tuple #[]) (by kernel_rfl) rfl ⟨rfl,C,us,HF.out⟩
end Go.Proofs.YtnileplkkmhdgaaGreatDoor
