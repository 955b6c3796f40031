import Derived.Test.YtnileplkkmhdgaaGreatDoorKMR18
import Derived.Test.YtnileplkkmhdgaaGreatDoorKMR7Q
import Derived.Test.YtnileplkkmhdgaaGreatDoorKQJd
set_option maxHeartbeats 1000000
set_option maxRecDepth 20000
namespace Go.Proofs.YtnileplkkmhdgaaGreatDoor
open Go.RowKit
theorem noTop (n:Bool) (m X:Nat) (hm:m < 9223372036854775808) (hX:X = Fq.wD n m):bits BinOp.andNot IntKind.u64 (X:Int) 9223372036854775808 = (m:Int)∧X < 18446744073709551616:=by
  have hX9:X < 18446744073709551616:=by rw [hX];unfold Fq.wD;split <;> omega
  have h:=u64_andNot_nat X 9223372036854775808 hX9 (by decide)
  have e:X % 9223372036854775808 = m:=by rw [hX];unfold Fq.wD;split <;> omega
  rw [show 18446744073709551615 - 9223372036854775808 = 2 ^ 63 - 1 from by decide,Nat.and_two_pow_sub_one_eq_mod,show (2:Nat) ^ 63 = 9223372036854775808 from by decide,e] at h
  exact ⟨h,hX9⟩
theorem abs_ (n:Bool) (m:Nat) (hm:m < 9223372036854775808) (w:World):Calls Tryz.prog 71 #[.float .f64 (Fq.wD n m)] w fun e w'=>e = .returned (.float .f64 m)∧w' = w:=by
  obtain ⟨X,hX⟩:∃ X,X = Fq.wD n m:=⟨_,rfl⟩
  have f1:=(noTop n m X hm hX).1
  rw [← hX]
  clear hX hm
  have h1:=Fq.fb64 X
  have h2:=Fq.ff64 m
  go_enter Tryz.func71,Tryz.ntmps71
  go_wp2
  exact bodyPost_ret (v:=.float .f64 m) (by simp [results,Tryz.results71,go_sem]) rfl ⟨rfl,rfl⟩
open Ieee in
theorem fin_order (m:Nat) (hm:m < 9223372036854775808):(FloatKind.f64.format.order m 9218868437227405311 == some Ordering.lt || FloatKind.f64.format.order m 9218868437227405311 == some Ordering.eq) = decide (m < 9218868437227405312):=by
  have hf:FloatKind.f64.format = double:=rfl
  have hi:double.infRung = 9218868437227405312:=by decide +kernel
  have hw:double.signWeight = 9223372036854775808:=by decide +kernel
  have hb:double.binade≤double.infRung:=by decide +kernel
  have r1:Fq.rg double m = m:=by unfold Fq.rg;rw [hw];exact Nat.mod_eq_of_lt hm
  have r2:Fq.rg double 9218868437227405311 = 9218868437227405311:=by unfold Fq.rg;rw [hw]
  have p1:Fq.pl double m = (m:Int):=by
    unfold Fq.pl Fq.ng
    rw [r1,hw,Nat.div_eq_of_lt hm];rfl
  have p2:Fq.pl double 9218868437227405311 = 9218868437227405311:=by
    unfold Fq.pl Fq.ng
    rw [r2,hw];rfl
  rw [hf]
  by_cases c:m≤9218868437227405312
  · rw [Fq.order_num double m 9218868437227405311 hb (by rw [r1,hi];exact c) (by rw [r2,hi];decide),p1,p2]
    by_cases c1:m < 9218868437227405312
    · rw [decide_eq_true c1]
      by_cases c2:m = 9218868437227405311
      · rw [c2];rfl
      · rw [show compare (m:Int) 9218868437227405311 = Ordering.lt from by rw [Int.compare_eq_lt];omega];rfl
    · rw [decide_eq_false c1,show compare (m:Int) 9218868437227405311 = Ordering.gt from by rw [Int.compare_eq_gt];omega];rfl
  · rw [Fq.order_nan_left double m 9218868437227405311 hb (by rw [r1,hi];omega),decide_eq_false (by omega)];rfl
theorem finite_ (n:Bool) (m:Nat) (hm:m < 9223372036854775808) (w:World):Calls Tryz.prog 66 #[.float .f64 (Fq.wD n m)] w fun e w'=>e = .returned (.bool (decide (m < 9218868437227405312)))∧w' = w:=by
  have h:=abs_ n m hm w
  obtain ⟨X,hX⟩:∃ X,X = Fq.wD n m:=⟨_,rfl⟩
  rw [← hX] at h ⊢
  clear hX
  go_enter Tryz.func66,Tryz.ntmps66
  go_wp2_with fail
  refine h.mono ?_;rintro e w' ⟨rfl,hw'⟩;obtain rfl:=hw'.symm;clear h hw'
  go_wp2
  exact bodyPost_ret (v:=.bool (decide (m < 9218868437227405312))) (by rw [← fin_order m hm];simp [results,Tryz.results66,go_sem]) rfl ⟨rfl,rfl⟩
open Ieee in
theorem tame_order (m:Nat) (hm:m < 9223372036854775808):(FloatKind.f64.format.order m 9110782046170513408 == some Ordering.lt || FloatKind.f64.format.order m 9110782046170513408 == some Ordering.eq) = decide (m≤9110782046170513408):=by
  have hf:FloatKind.f64.format = double:=rfl
  have hi:double.infRung = 9218868437227405312:=by decide +kernel
  have hw:double.signWeight = 9223372036854775808:=by decide +kernel
  have hb:double.binade≤double.infRung:=by decide +kernel
  have r1:Fq.rg double m = m:=by unfold Fq.rg;rw [hw];exact Nat.mod_eq_of_lt hm
  have r2:Fq.rg double 9110782046170513408 = 9110782046170513408:=by unfold Fq.rg;rw [hw]
  have p1:Fq.pl double m = (m:Int):=by
    unfold Fq.pl Fq.ng
    rw [r1,hw,Nat.div_eq_of_lt hm];rfl
  have p2:Fq.pl double 9110782046170513408 = 9110782046170513408:=by
    unfold Fq.pl Fq.ng
    rw [r2,hw];rfl
  rw [hf]
  by_cases c:m≤9218868437227405312
  · rw [Fq.order_num double m 9110782046170513408 hb (by rw [r1,hi];exact c) (by rw [r2,hi];decide),p1,p2]
    by_cases c1:m≤9110782046170513408
    · rw [decide_eq_true c1]
      by_cases c2:m = 9110782046170513408
      · rw [c2];rfl
      · rw [show compare (m:Int) 9110782046170513408 = Ordering.lt from by rw [Int.compare_eq_lt];omega];rfl
    · rw [decide_eq_false c1,show compare (m:Int) 9110782046170513408 = Ordering.gt from by rw [Int.compare_eq_gt];omega];rfl
  · rw [Fq.order_nan_left double m 9110782046170513408 hb (by rw [r1,hi];omega),decide_eq_false (by omega)];rfl
theorem tame_ (n:Bool) (m:Nat) (hm:m < 9223372036854775808) (w:World):Calls Tryz.prog 63 #[.float .f64 (Fq.wD n m)] w fun e w'=>e = .returned (.bool (decide (m≤9110782046170513408)))∧w' = w:=by
  have h:=abs_ n m hm w
  obtain ⟨X,hX⟩:∃ X,X = Fq.wD n m:=⟨_,rfl⟩
  rw [← hX] at h ⊢
  clear hX
  go_enter Tryz.func63,Tryz.ntmps63
  go_wp2_with fail
  refine h.mono ?_;rintro e w' ⟨rfl,hw'⟩;obtain rfl:=hw'.symm;clear h hw'
  go_wp2
  exact bodyPost_ret (v:=.bool (decide (m≤9110782046170513408))) (by rw [← tame_order m hm];simp [results,Tryz.results63,go_sem]) rfl ⟨rfl,rfl⟩
theorem kfro {W w:World} {b o:Nat} (g:Kp W w) (h:b < W.heap.size):w.frozen? ⟨b,o,none⟩ = W.frozen? ⟨b,o,none⟩:=World.frozen?_of_block (w:=W) (Below.block g b h)
theorem tz0_ (w:World):Calls Tryz.prog 92 #[.int .u64 0] w fun e w'=>e = .returned (.int .i64 64)∧w' = w:=by
  go_enter Tryz.func92,Tryz.ntmps92
  go_wp2
  exact bodyPost_ret (v:=.int .i64 64) (by simp [results,Tryz.results92,go_sem]) rfl ⟨rfl,rfl⟩
theorem take_ (n:Bool) (m:Nat) (hm:m < 9218868437227405312) :
    ∃ (a:Nat) (ex:Int),a * 2 ^ (ex + 1074).toNat = Fq.vV Ieee.double m∧-1074≤ex∧ex≤2048∧a < 9007199254740992∧∀ w:World,Fq.Tab w→Calls Tryz.prog 67 #[.float .f64 (Fq.wD n m)] w fun e w'=>∃ v,e = .returned (.agg #[.bool (n && !(m == 0)),v,.int .i64 ex])∧Ls w' v (dig a)∧Kp w w':=by
  obtain ⟨v1,v2,v3,v4,v5⟩:=Fq.vlsgD m hm
  obtain ⟨X,hX⟩:∃ X,X = Fq.wD n m:=⟨_,rfl⟩
  obtain ⟨sg,hsg⟩:∃ sg,sg = Fq.sgD m:=⟨_,rfl⟩
  obtain ⟨ep,hep⟩:∃ ep,ep = Fq.epD m:=⟨_,rfl⟩
  obtain ⟨nn,hnn⟩:∃ nn:Bool,nn = (n && !(m == 0)):=⟨_,rfl⟩
  rw [← hsg,← hep] at v1
  rw [← hsg] at v2 v3
  rw [← hep] at v4 v5
  -- the odd part and its zeros
  obtain ⟨a,k,hk,hka,htz,hsh,ha⟩:∃ a k:Nat,a * 2 ^ (ep + (k:Int) + 1074).toNat = Fq.vV Ieee.double m∧k≤64∧(∀ w1,Fq.Tab w1→Calls Tryz.prog 92 #[.int .u64 (sg:Int)] w1 fun e w'=>e = .returned (.int .i64 (k:Int))∧w' = w1)∧(sg:Int) / 2 ^ min k 64 = (a:Int)∧a < 9007199254740992:=by
    by_cases c:sg = 0
    · refine ⟨0,64, ?_,by omega, ?_,by rw [c];simp,by omega⟩
      · have e:Fq.vV Ieee.double m = Fq.vlD m:=rfl
        rw [e,← v1,c];simp
      · intro w1 _
        rw [c];exact tz0_ w1
    · obtain ⟨o,o1,o2,o3,o4⟩:=ctz_odd sg c
      have hcl:blen sg≤53:=by rw [blen_le_iff,show (2:Nat) ^ 53 = 9007199254740992 from by decide];exact v2
      refine ⟨o,ctz sg, ?_,by omega, ?_, ?_, ?_⟩
      · have e:Fq.vV Ieee.double m = Fq.vlD m:=rfl
        rw [e,← v1,show (ep + ((ctz sg:Nat):Int) + 1074).toNat = ctz sg + (ep + 1074).toNat from by omega,Nat.pow_add,← Nat.mul_assoc,← o2]
      · intro w1 t1
        have h:=Fq.tz_ o (ctz sg) o1 (by rw [← o2];omega) w1 t1
        rw [← o2] at h
        exact h
      · rw [Nat.min_eq_left (by omega)]
        have:((sg / 2 ^ ctz sg:Nat):Int) = (o:Int):=by rw [o3]
        rw [← this,Int.natCast_ediv,castpow]
      · have:=Nat.div_le_self sg (2 ^ ctz sg);omega
  refine ⟨a,ep + (k:Int),hk,by omega,by omega,ha,fun w hQ=>?_⟩
  obtain ⟨w0,hw0⟩:∃ w0,w0 = w.alloc (.cells #[.bool false,.slice none 0 0,.int .i64 0] 88):=⟨_,rfl⟩
  obtain ⟨B,hB⟩:∃ B,B = w.heap.size:=⟨_,rfl⟩
  have hk0:Kp w w0:=by rw [hw0];exact (Kp.refl w).alloc _
  have hsp:=Fq.split_d n m hm w0
  rw [← hX,← hsg,← hep,← hnn] at hsp
  rw [← hX,← hnn]
  rw [Nat.min_eq_left hka] at hsh
  have hsm:=fun w1=>nsmall_ a (by omega) w1
  have htz2:=fun w1 (kk:Kp w0 w1)=>htz w1 (Fq.Tab.grown hQ (hk0.trans kk))
  have hal:∀ w1,Kp w0 w1→True:=fun _ _=>trivial
  have e0:w0.cell? ⟨B,0,none⟩ = some (.bool false):=by rw [hw0,hB];simp [go_sem]
  have e1:w0.cell? ⟨B,1,none⟩ = some (.slice none 0 0):=by rw [hw0,hB];simp [go_sem]
  have e2:w0.cell? ⟨B,2,none⟩ = some (.int .i64 0):=by rw [hw0,hB];simp [go_sem]
  have f0:w0.frozen? ⟨B,0,none⟩ = false:=by rw [hw0,hB];simp [go_sem]
  have f1:w0.frozen? ⟨B,1,none⟩ = false:=by rw [hw0,hB];simp [go_sem]
  have f2:w0.frozen? ⟨B,2,none⟩ = false:=by rw [hw0,hB];simp [go_sem]
  have hlt:=cell_lt e0
  have hep1:-1074≤ep:=v4
  have hep2:ep≤971:=v5
  have HW:Hid (w0 = w.alloc (.cells #[.bool false,.slice none 0 0,.int .i64 0] 88)∧B = w.heap.size∧Kp w w0):=⟨hw0,hB,hk0⟩
  clear hal v1 v2 v3 v4 v5 hX hsg hep hnn hw0 hB hk0 htz hQ hk ha hm
  go_enter Tryz.func67,Tryz.ntmps67
  go_wp2_with fail
  rw [← HW.out.1,← HW.out.2.1]
  refine hsp.mono ?_;rintro e w1 ⟨rfl,k1⟩
  have k1':Kp w0 w1:=k1
  have htz3:=htz2 w1 k1'
  clear hsp htz2 k1
  go_wp2_with fail
  refine htz3.mono ?_;rintro e w' ⟨rfl,hw'⟩;obtain rfl:=hw'.symm;clear hw' htz3
  have hs2:=hsm w1
  clear hsm
  go_wp2_with fail
  try rw [hsh]
  refine hs2.mono ?_;rintro e w2 ⟨v,rfl,ho,k2⟩
  have hls:=ho.ls
  obtain ⟨pv,cv,rfl,hav,hcv⟩:=ho.arr
  have k02:=k1'.trans k2
  have hlt2:=ho.lt
  replace e0:=kkeep k02 e0
  replace e1:=kkeep k02 e1
  replace e2:=kkeep k02 e2
  replace f0:=(kfro k02 hlt).trans f0
  replace f1:=(kfro k02 hlt).trans f1
  replace f2:=(kfro k02 hlt).trans f2
  have hks:=Below.size k1'
  obtain ⟨L,hL⟩:∃ L,L = (dig a).length:=⟨_,rfl⟩
  rw [← hL]
  have HO:Hid (Own w2 w1.heap.size (.slice pv (dig a).length cv) (dig a)∧L = (dig a).length∧Kp w0 w2∧B < w1.heap.size):=⟨ho,hL,k02,by omega⟩
  clear hs2 ho hls hav hcv k1' k2 k02 hlt2 hL hks
  go_wp2
  obtain ⟨ho,hL,k02,hBl⟩:=HO.out
  have kb:Kb B w2 (((w2.setCell ⟨B,0,none⟩ (.bool nn)).setCell ⟨B,1,none⟩ (.slice pv L cv)).setCell ⟨B,2,none⟩ (.int .i64 (ep + (k:Int)))):=(((Kb.refl B w2).setCell 0 _).setCell 1 _).setCell 2 _
  have ho2:=ho.kb kb (fun g hg=>by have:=ho.lt g hg;omega)
  have hls:=ho2.ls
  rw [← hL] at hls
  have hkw:Kp w (((w2.setCell ⟨B,0,none⟩ (.bool nn)).setCell ⟨B,1,none⟩ (.slice pv L cv)).setCell ⟨B,2,none⟩ (.int .i64 (ep + (k:Int)))):=kb.kp (HW.out.2.2.trans k02) (by rw [HW.out.2.1];exact Nat.le_refl _)
  exact bodyPost_ret (v:=.agg #[.bool nn,.slice pv L cv,.int .i64 (ep + (k:Int))]) (by simp [results,Tryz.results67,go_sem,e0,e1,e2]) rfl ⟨_,rfl,hls,hkw⟩
theorem rtimes_ (p q:Option Addr) (c d:Nat) (xs ys:List Int) (w:World) (hx:Arr w p xs) (hy:Arr w q ys) (hwx:Wd xs) (hwy:Wd ys) (lx:xs.length≤16777216) (ly:ys.length≤16777216) :
    Calls Tryz.prog 36 #[.slice p xs.length c,.slice q ys.length d] w fun e w'=>∃ v,e = .returned v∧Own w' w.heap.size v (dig (val xs * val ys))∧Kp w w':=by
  have h1:=words_ p c xs w hx (by omega)
  have h2:=words_ q d ys w hy (by omega)
  have lS:=tl_le xs
  have lT:=tl_le ys
  have hvx:=val_tl xs
  have hvy:=val_tl ys
  obtain ⟨N,hN⟩:∃ N,N = xs.length:=⟨_,rfl⟩
  obtain ⟨M,hM⟩:∃ M,M = ys.length:=⟨_,rfl⟩
  obtain ⟨S,hS⟩:∃ S,S = tl xs:=⟨_,rfl⟩
  obtain ⟨T,hT⟩:∃ T,T = tl ys:=⟨_,rfl⟩
  rw [← hS] at h1 lS hvx
  rw [← hT] at h2 lT hvy
  have hmk:∀ w:World,(Instr.makeSlice 25 (.int .i64 ((S:Int) + (T:Int))) (.int .i64 ((S:Int) + (T:Int)))).run Tryz.prog w = .ok (.slice (some ⟨w.heap.size,0,none⟩) (S + T) (S + T)) (w.alloc (.cells (madeCells #[.int .u32 0] (S + T)) 72)):=by
    have:=mk32 (S + T) (by omega)
    simpa using this
  have hk1:Kp w (w.alloc (.cells (madeCells #[.int .u32 0] (S + T)) 72)):=(Kp.refl w).alloc _
  have hrz:Rw (w.alloc (.cells (madeCells #[.int .u32 0] (S + T)) 72)) w.heap.size (S + T) (List.replicate (S + T) 0):=World.rowIs.congr (World.rowIs_made w (.int .u32 0) (S + T) 72) (fun j _=>by rw [rep0_getD])
  obtain ⟨zs0,hz0⟩:∃ zs0,zs0 = List.replicate (S + T) (0:Int):=⟨_,rfl⟩
  have hzl0:zs0.length = S + T:=by rw [hz0];simp
  have hwz0:Wd zs0:=by rw [hz0];exact Wd_rep0 _
  have hzz0:∀ j,zs0.getD j 0 = 0:=fun j=>by rw [hz0];exact rep0_getD _ _
  have hvz0:=val_zeros zs0 hzz0
  rw [← hz0] at hrz
  have HX:Hid (Arr w p xs∧Wd xs∧val (xs.take S) = val xs):=⟨hx,hwx,hvx⟩
  have HY:Hid (Arr w q ys∧Wd ys∧val (ys.take T) = val ys):=⟨hy,hwy,hvy⟩
  have HN:Hid (N = xs.length∧M = ys.length):=⟨hN,hM⟩
  obtain ⟨g,hg⟩:∃ g,g = w.heap.size:=⟨_,rfl⟩
  rw [← hg] at hrz
  have HG:Hid (g = w.heap.size):=hg
  rw [← hN] at lx h1 lS ⊢
  rw [← hM] at ly h2 lT ⊢
  clear hx hy hwx hwy hN hM hz0 hS hT hvx hvy
  go_enter Tryz.func36,Tryz.ntmps36
  go_wp2_with fail
  refine h1.mono ?_;rintro e w' ⟨rfl,hw'⟩;obtain rfl:=hw'.symm
  go_wp2_with fail
  refine h2.mono ?_;rintro e w' ⟨rfl,hw'⟩;obtain rfl:=hw'.symm
  go_wp2
  rw [← hg]
  clear hmk hg h1 h2
  go_loopw [8] (fun i wr=>∃ (k:Nat) (zs:List Int),i = .int .i64 k∧k≤T∧Rw wr g (S + T) zs∧zs.length = S + T∧Wd zs∧val zs = val (ys.take k) * val xs∧(∀ j,k + S≤j→zs.getD j 0 = 0)∧Kp w wr) (fun i _=>T - (intOf i).toNat)
  case atStart=>exact ⟨0,zs0,rfl,Nat.zero_le _,hrz,hzl0,hwz0,by rw [hvz0];simp [val],fun j _=>hzz0 j,hk1⟩
  case round =>
    clear hrz hzl0 hwz0 hzz0 hvz0 hk1
    obtain ⟨k,zs,rfl,hk,hrow,hzl,hwz,hv,hzz,hkp⟩:=hrel
    obtain ⟨hN,hM⟩:=HN.out
    by_cases ck:k < T
    · obtain ⟨b,off,rfl,hc⟩:=HY.out.1.at (k:=k) (by omega)
      have e0:=hc k (by omega)
      have e1:=kkeep hkp e0
      have wy:=HY.out.2.1 k
      have hrp:=row_prod ys k (val xs)
      obtain ⟨Y,hY⟩:∃ Y:Nat,(Y:Int) = ys.getD k 0:=⟨(ys.getD k 0).toNat,by omega⟩
      rw [← hY] at e1 wy hrp
      rw [Int.toNat_natCast] at hrp
      have i0:(0:Int)≤(k:Int):=by omega
      have i1:(k:Int) < (T:Int):=by omega
      have i1':(k:Int) < (M:Int):=by omega
      by_cases cY:Y = 0
      · subst cY
        have hv2:val zs = val (ys.take (k + 1)) * val xs:=by rw [← hrp,hv];simp
        have t1:(((0:Nat):Int) == 0) = true:=by simp
        clear hc e0 HX HY HN HG hN hM hY wy hrp hv
        go_wp2
        exact ⟨⟨k + 1,zs,by go_num,by omega,hrow,hzl,hwz,hv2,fun j hj=>hzz j (by omega),hkp⟩,by simp [intOf];omega⟩
      · have t1:((Y:Int) == 0) = false:=by simp;omega
        have fY:IntKind.u64.wrap (Y:Int) = (Y:Int):=by rw [IntKind.wrap_u64];omega
        have hY32:Y < 4294967296:=by omega
        have HV:Hid (val zs + val xs * Y * 4294967296 ^ k = val (ys.take (k + 1)) * val xs∧(∀ j,k + S≤j→zs.getD j 0 = 0)):=⟨by rw [hv];exact hrp,hzz⟩
        clear hc e0 HY hN hM hY wy hrp hv hzz
        go_wp2
        clear t1 fY
        go_loopw [10,11] (fun cc ii wq=>∃ (m C:Nat) (us:List Int),cc = .int .u64 (C:Int)∧ii = .int .i64 m∧m≤S∧Rw wq g (S + T) us∧us.length = S + T∧Wd us∧C < 4294967296∧val us + C * 4294967296 ^ (k + m) = val zs + val (xs.take m) * Y * 4294967296 ^ k∧(∀ j,k + m≤j→us.getD j 0 = zs.getD j 0)∧Kp w wq) (fun _ i _=>S - (intOf i).toNat)
        case atStart=>exact ⟨0,0,zs,rfl,rfl,Nat.zero_le _,hrow,hzl,hwz,by omega,by simp [val],fun j _=>rfl,hkp⟩
        case round =>
          clear hrow hwz hkp e1
          obtain ⟨m,C,us,rfl,rfl,hm,hrow,hul,hwu,hC,hv,hsam,hkp⟩:=hrel
          obtain ⟨hN,hM⟩:=HN.out
          by_cases cm:m < S
          · obtain ⟨b',off',rfl,hc'⟩:=HX.out.1.at (k:=m) (by omega)
            have e2:=kkeep hkp (hc' m (by omega))
            have e1:=World.rowIs.cell hrow (i:=m + k) (by omega)
            have wx:=HX.out.2.1 m
            have wz:=hwu (m + k)
            obtain ⟨X,hX⟩:∃ X:Nat,(X:Int) = xs.getD m 0:=⟨(xs.getD m 0).toNat,by omega⟩
            obtain ⟨Z0,hZ0⟩:∃ Z0:Nat,(Z0:Int) = us.getD (m + k) 0:=⟨(us.getD (m + k) 0).toNat,by omega⟩
            rw [← hX] at e2
            rw [← hZ0] at e1
            have hmw:=mul_word X Y C Z0 (by omega) hY32 hC (by omega)
            obtain ⟨P,hP⟩:∃ P,P = X * Y:=⟨_,rfl⟩
            rw [← hP] at hmw
            obtain ⟨Q,hQ⟩:∃ Q:Nat,Q = (Z0:Int).toNat + ((P:Nat):Int).toNat + C:=⟨_,rfl⟩
            rw [Nat.add_comm m k] at hZ0
            have hst:=sum_step us (k + m) C Q _ (Z0:Int) (P:Int) (by omega) hZ0.symm hQ hv
            simp only [Int.toNat_natCast] at hQ hst
            have hg2:=mul_grow xs Y k m
            rw [← hX,Int.toNat_natCast,← hP] at hg2
            rw [Nat.add_assoc (val zs),← hg2,Nat.add_assoc k m 1] at hst
            have f1:IntKind.u64.wrap (X:Int) = (X:Int):=by rw [IntKind.wrap_u64];omega
            have f2:IntKind.u64.wrap ((X:Int) * (Y:Int)) = (P:Int):=by
              have:(X:Int) * (Y:Int) = (P:Int):=by rw [hP];exact (Int.natCast_mul X Y).symm
              rw [this,IntKind.wrap_u64];omega
            have f3:IntKind.u64.wrap (Z0:Int) = (Z0:Int):=by rw [IntKind.wrap_u64];omega
            have f4:IntKind.u64.wrap ((C:Int) + (Z0:Int)) = (C:Int) + (Z0:Int):=by rw [IntKind.wrap_u64];omega
            have f5:IntKind.u64.wrap ((C:Int) + (Z0:Int) + (P:Int)) = (Q:Int):=by rw [IntKind.wrap_u64];omega
            have f8:=and32 Q (by omega)
            obtain ⟨Z,hZ⟩:∃ Z:Nat,Z = Q % 4294967296:=⟨_,rfl⟩
            obtain ⟨C',hC2⟩:∃ C':Nat,C' = Q / 4294967296:=⟨_,rfl⟩
            rw [← hZ] at f8
            have f6:IntKind.u32.wrap (Z:Int) = (Z:Int):=by rw [IntKind.wrap_u32];omega
            have f7:(Q:Int) / 4294967296 = (C':Int):=by omega
            rw [← hZ,← hC2] at hst
            have hC':C' < 4294967296:=by omega
            have hw2:Wd (us.set (m + k) (Z:Int)):=hwu.set (m + k) Z (by omega)
            have hl2:(us.set (m + k) (Z:Int)).length = S + T:=by rw [List.length_set];exact hul
            have hsam2:∀ j,k + (m + 1)≤j→(us.set (m + k) (Z:Int)).getD j 0 = zs.getD j 0:=fun j h1=>by
              rw [← hsam j (by omega)];simp [List.getD,show ¬ m + k = j from by omega]
            have ekm:k + m = m + k:=Nat.add_comm k m
            rw [ekm] at hst
            clear ekm
            have hik:m + k < us.length:=by omega
            have hik2:m + k < S + T:=by omega
            have j0:(0:Int)≤(m:Int):=by omega
            have j1:(m:Int) < (S:Int):=by omega
            have j2:(m:Int) < (N:Int):=by omega
            have j3:(0:Int)≤(m:Int) + (k:Int):=by omega
            have j4:(m:Int) + (k:Int) < (S:Int) + (T:Int):=by omega
            have hgw:w.heap.size≤g:=by rw [HG.out];exact Nat.le_refl _
            clear hc' HX HN HG hN hM hX hZ0 hZ hC2 hQ hv hP hg2 wx wz hwu hC hsam hul hmw HV hzl
            go_wp2
            refine wp_region_kp (by kernel_rfl) (by kernel_rfl) (fun ι _ G hG hall=>?_)
            have c0:∀ n,(G n).cell? ⟨g,m + k,none⟩ = some (.int .u32 (Z0:Int)):=fun n=>kkeep (hG n) e1
            have c1:∀ n,(G n).cell? ⟨b',off' + m,none⟩ = some (.int .u32 (X:Int)):=fun n=>kkeep (hG n) e2
            repeat (go_big_quiet_step (fail))
            refine wpQuiet_nil ?_
            rintro _ ⟨nq,rfl⟩
            have gq:=hG nq
            replace hrow:=hrow.grown gq
            have e3:=World.rowIs.cell hrow (i:=m + k) hik2
            have e4:=World.rowIs.frozen hrow (m + k)
            have hR:=hrow.set (m + k) (Z:Int) hik
            have hK:=(hkp.trans gq).setCell (p:=⟨g,m + k,none⟩) hgw (.int .u32 (Z:Int))
            clear c0 c1 hall hG gq e1 e2 hrow hkp
            go_wp2
            exact ⟨⟨m + 1,C',us.set (m + k) (Z:Int),by go_num,by go_num,by omega,hR,hl2,hw2,hC',hst,hsam2,hK⟩,by simp [intOf];omega⟩
          · have hmS:m = S:=by omega
            subst hmS
            have hvx:=HX.out.2.2
            rw [hvx] at hv
            obtain ⟨hV1,hV2⟩:=HV.out
            have hu0:us.getD (k + m) 0 = 0:=by rw [hsam _ (Nat.le_refl _)];exact hV2 _ (Nat.le_refl _)
            have hvs:=val_set us (k + m) (C:Int) (by omega)
            rw [hu0,Int.toNat_natCast,hv,hV1] at hvs
            have hv3:val (us.set (k + m) (C:Int)) = val (ys.take (k + 1)) * val xs:=by simpa using hvs
            have hgw:w.heap.size≤g:=by rw [HG.out];exact Nat.le_refl _
            have hR:=hrow.set (k + m) (C:Int) (by omega)
            have hK:Kp w (wr.setCell ⟨g,k + m,none⟩ (.int .u32 (C:Int))):=hkp.setCell hgw _
            have hw3:Wd (us.set (k + m) (C:Int)):=hwu.set _ _ (by omega)
            have hl3:(us.set (k + m) (C:Int)).length = m + T:=by rw [List.length_set];exact hul
            have hz3:∀ j,k + 1 + m≤j→(us.set (k + m) (C:Int)).getD j 0 = 0:=fun j hj=>by
              have e1:(us.set (k + m) (C:Int)).getD j 0 = us.getD j 0:=by simp [List.getD,show ¬ k + m = j from by omega]
              rw [e1,hsam j (by omega)]
              exact hV2 j (by omega)
            have e3:=World.rowIs.cell hrow (i:=k + m) (by omega)
            have e4:=World.rowIs.frozen hrow (k + m)
            have f6:IntKind.u32.wrap (C:Int) = (C:Int):=by rw [IntKind.wrap_u32];omega
            have i2:¬ ((m:Int) < (m:Int)):=by omega
            have j3:(0:Int)≤(k:Int) + (m:Int):=by omega
            have j4:(k:Int) + (m:Int) < (m:Int) + (T:Int):=by omega
            clear HX HN HG hN hM hv hvs hsam hkp hrow HV hV1 hV2 hvx hwu hul hu0 hC cm hm hzl
            go_wp2
            exact ⟨⟨k + 1,us.set (k + m) (C:Int),by go_num,by omega,hR,hl3,hw3,hv3,hz3,hK⟩,by simp [intOf];omega⟩
    · have hkN:k = T:=by omega
      subst hkN
      have hvy:=HY.out.2.2
      rw [hvy] at hv
      have hA:=hrow.arr (S + k) (Nat.le_refl _) (by omega)
      rw [List.take_of_length_le (by omega)] at hA
      have hno:=rnorm_ (some ⟨g,0,none⟩) (S + k) zs wr hA (by omega)
      rw [nz_dig zs hwz,hv,hzl,Nat.mul_comm] at hno
      have hsz:=hkp.size
      have i2:¬ ((k:Int) < (k:Int)):=by omega
      clear hA hrow hzl hwz hv HX HY HN HG hN hM hzz hvy hk ck
      go_wp2_with fail
      refine hno.mono ?_
      rintro e w2 ⟨v2,rfl,hO2,hk2⟩
      clear hno
      go_wp2
      exact bodyPost_ret (v:=v2) (by simp [results,Tryz.results36,go_sem] <;> simp only [*]) rfl ⟨v2,rfl,hO2.mono hsz,hkp.trans hk2⟩
end Go.Proofs.YtnileplkkmhdgaaGreatDoor
