import Derived.Test.YtcepchaakfiojaaKRN
set_option maxHeartbeats 1000000
set_option maxRecDepth 20000
namespace Go.Proofs.Ytcepchaakfiojaa
open Go.RowKit
theorem rguess_ (p q:Option Addr) (c d:Nat) (zs ys:List Int) (w:World) (hz:Arr w p zs) (hy:Arr w q ys) (hwz:Wd zs) (hwy:Wd ys) (hl:zs.length = ys.length + 1) (h1:1≤ys.length) (ly:ys.length≤1048577) :
    Calls Try.prog 78 #[.slice p zs.length c,.slice q ys.length d] w fun e w'=>e = .returned (.int .u64 (guessN (zs.getD ys.length 0).toNat (zs.getD (ys.length - 1) 0).toNat (ys.getD (ys.length - 1) 0).toNat:Nat))∧Kp w w':=by
  obtain ⟨M,hM⟩:∃ M,M = ys.length:=⟨_,rfl⟩
  obtain ⟨k,hk⟩:∃ k,k = M - 1:=⟨_,rfl⟩
  obtain ⟨b,off,rfl,hc⟩:=hz.at (k:=0) (by omega)
  obtain ⟨b',off',rfl,hc'⟩:=hy.at (k:=0) (by omega)
  have e1:=hc M (by omega)
  have e2:=hc k (by omega)
  have e3:=hc' k (by omega)
  have w1:=hwz M
  have w2:=hwz k
  have w3:=hwy k
  obtain ⟨z,hz9⟩:∃ z:Nat,(z:Int) = zs.getD M 0:=⟨_,Int.toNat_of_nonneg w1.1⟩
  obtain ⟨y,hy9⟩:∃ y:Nat,(y:Int) = zs.getD k 0:=⟨_,Int.toNat_of_nonneg w2.1⟩
  obtain ⟨v,hv9⟩:∃ v:Nat,(v:Int) = ys.getD k 0:=⟨_,Int.toNat_of_nonneg w3.1⟩
  rw [← hz9] at e1
  rw [← hy9] at e2
  rw [← hv9] at e3
  rw [← hM,← hk,← hz9,← hy9,← hv9,Int.toNat_natCast,Int.toNat_natCast,Int.toNat_natCast,hl,← hM]
  obtain ⟨S,hS⟩:∃ S,S = z * 4294967296:=⟨_,rfl⟩
  obtain ⟨hd,hhd⟩:∃ hd,hd = z * 4294967296 + y:=⟨_,rfl⟩
  obtain ⟨v1,hv1⟩:∃ v1,v1 = v + 1:=⟨_,rfl⟩
  obtain ⟨x,hx⟩:∃ x,x = hd / v1:=⟨_,rfl⟩
  have hG:guessN z y v = if x = 0 then 1 else x:=by unfold guessN;rw [← hhd,← hv1,← hx]
  rw [hG]
  have hx64:x≤hd:=by rw [hx];exact Nat.div_le_self _ _
  have f1:IntKind.u64.wrap (z:Int) = (z:Int):=by rw [IntKind.wrap_u64];omega
  have f2:IntKind.u64.wrap (y:Int) = (y:Int):=by rw [IntKind.wrap_u64];omega
  have f2b:IntKind.u64.wrap (v:Int) = (v:Int):=by rw [IntKind.wrap_u64];omega
  have f2c:IntKind.u64.wrap ((v:Int) + 1) = (v1:Int):=by rw [IntKind.wrap_u64];omega
  have f3:IntKind.u64.wrap ((z:Int) * 4294967296) = (S:Int):=by rw [IntKind.wrap_u64];omega
  have f4:bits BinOp.or IntKind.u64 (S:Int) (y:Int) = (hd:Int):=by
    rw [hS,bits_or_u64_nat (z * 4294967296) y (by omega) (by omega)]
    have e2:z * 4294967296 ||| y = hd:=by
      rw [Nat.or_comm,hhd]
      have:=or_low y z 32 (by omega)
      rw [show (2:Nat) ^ 32 = 4294967296 from rfl] at this
      omega
    rw [e2]
  have fq:(hd:Int) / (v1:Int) = (x:Int):=by rw [hx];exact (Int.natCast_ediv hd v1).symm
  have fq2:Int.tdiv (hd:Int) (v1:Int) = (x:Int):=by rw [hx];rfl
  have fq3:IntKind.u64.wrap (x:Int) = (x:Int):=by rw [IntKind.wrap_u64];omega
  have t0:¬ v1 = 0:=by omega
  have g1:IntKind.i64.wrap ((M:Int) - 1) = (k:Int):=by rw [IntKind.wrap_i64];omega
  have i0:(M:Int) < (M:Int) + 1:=by omega
  have i1:(k:Int) < (M:Int) + 1:=by omega
  have i2:(k:Int) < (M:Int):=by omega
  clear hz hy hwz hwy hl h1 ly hc hc' w1 w2 w3 hz9 hy9 hv9 hhd hv1 hS hx hG hx64 hM hk
  by_cases cx:x = 0
  · subst cx
    rw [if_pos rfl]
    go_enter Try.func78,Try.ntmps78
    go_wp2
    go_region_held3 (fun w'=>w'.cell? ⟨b,off + M,none⟩ = some (.int .u32 (z:Int))∧w'.cell? ⟨b,off + k,none⟩ = some (.int .u32 (y:Int))∧w'.cell? ⟨b',off' + k,none⟩ = some (.int .u32 (v:Int))) (exact ⟨e1,e2,e3⟩) (fail)
    clear fq fq2 fq3 f1 f2 f2b f2c f3 f4 t0 e1 e2 e3 i0 i1 i2 g1
    go_wp2
    exact bodyPost_ret (v:=.int .u64 ((1:Nat):Int)) (by simp [results,Try.results78,go_sem]) rfl ⟨rfl,(Kp.refl _).drew⟩
  · rw [if_neg cx]
    have t1:((x:Int) == 0) = false:=by simp;omega
    go_enter Try.func78,Try.ntmps78
    go_wp2
    go_region_held3 (fun w'=>w'.cell? ⟨b,off + M,none⟩ = some (.int .u32 (z:Int))∧w'.cell? ⟨b,off + k,none⟩ = some (.int .u32 (y:Int))∧w'.cell? ⟨b',off' + k,none⟩ = some (.int .u32 (v:Int))) (exact ⟨e1,e2,e3⟩) (fail)
    clear fq fq2 fq3 f1 f2 f2b f2c f3 f4 t0 e1 e2 e3 i0 i1 i2 g1
    go_wp2
    exact bodyPost_ret (v:=.int .u64 (x:Int)) (by simp [results,Try.results78,go_sem]) rfl ⟨rfl,(Kp.refl _).drew⟩
theorem rsubt_ (g n d X:Nat) (q:Option Addr) (zs ys:List Int) (w:World) (hr:Rw w g n zs) (hzl:zs.length = n) (hwz:Wd zs) (hy:Arr w q ys) (hwy:Wd ys) (hX:X < 4294967296) (hq:0 < ys.length→∀ b off,q = some ⟨b,off,none⟩→b≠g) (hin:ys.length + 1 = n) (hn:n≤16777216) (hle:val ys * X≤val zs) :
    Calls Try.prog 79 #[.slice (some ⟨g,0,none⟩) n n,.slice q ys.length d,.int .u64 (X:Int)] w fun e w'=>∃ us:List Int,e = .returned (.tuple #[])∧Rw w' g n us∧us.length = n∧Wd us∧val us = val zs - val ys * X∧Kb g w w':=by
  obtain ⟨M,hM⟩:∃ M,M = ys.length:=⟨_,rfl⟩
  rw [← hM] at hin ⊢
  have HY:Hid (Arr w q ys∧(0 < ys.length→∀ b off,q = some ⟨b,off,none⟩→b≠g)∧val ys * X≤val zs):=⟨hy,hq,hle⟩
  have HW:Hid (Wd ys∧M = ys.length):=⟨hwy,hM⟩
  have HZ:Hid (Rw w g n zs∧zs.length = n∧Wd zs):=⟨hr,hzl,hwz⟩
  clear hy hq hwy hM hr hzl hwz hle
  go_enter Try.func79,Try.ntmps79
  go_wp2
  go_loopw [6,7,8] (fun oo bb ii wr=>∃ (k O b:Nat) (us:List Int),oo = .int .u64 (O:Int)∧bb = .int .u64 (b:Int)∧ii = .int .i64 k∧k≤n∧Rw wr g n us∧us.length = n∧Wd us∧O < 4294967296∧b≤1∧val us + val (ys.take k) * X = val zs + (O + b) * 4294967296 ^ k∧Kb g w wr) (fun _ _ i _=>n - (intOf i).toNat)
  case atStart=>exact ⟨0,0,0,zs,rfl,rfl,rfl,Nat.zero_le _,HZ.out.1,HZ.out.2.1,HZ.out.2.2,by omega,by omega,by simp [val],Kb.refl _ _⟩
  case round =>
    obtain ⟨k,O,bo,us,rfl,rfl,rfl,hk,hrow,hul,hwu,hO,hbo,hv,hkb⟩:=hrel
    obtain ⟨hwy,hM⟩:=HW.out
    by_cases ck:k < n
    · have e1:=World.rowIs.cell hrow (i:=k) (by omega)
      have e4:=World.rowIs.frozen hrow k
      have wz:=hwu k
      obtain ⟨Z0,hZ0⟩:∃ Z0:Nat,(Z0:Int) = us.getD k 0:=⟨(us.getD k 0).toNat,by omega⟩
      rw [← hZ0] at e1
      have i1:(k:Int) < (n:Int):=by omega
      have i0:(0:Int)≤(k:Int):=by omega
      have ckn:k + 1≤n:=by omega
      by_cases cm:k < M
      · obtain ⟨b',off',rfl,hc'⟩:=HY.out.1.at (k:=k) (by omega)
        have hbg:=HY.out.2.1 (by omega) b' off' rfl
        have e2:=hkb.arr hbg (hc' k (by omega))
        have wy:=hwy k
        obtain ⟨Y,hY⟩:∃ Y:Nat,(Y:Int) = ys.getD k 0:=⟨(ys.getD k 0).toNat,by omega⟩
        rw [← hY] at e2
        have hYe:(ys.getD k 0).toNat = Y:=by rw [← hY,Int.toNat_natCast]
        have hmw:=mul_word Y X O 0 (by omega) hX hO (by omega)
        obtain ⟨P,hP⟩:∃ P,P = Y * X:=⟨_,rfl⟩
        rw [← hP] at hmw
        have f1:IntKind.u64.wrap (Y:Int) = (Y:Int):=by rw [IntKind.wrap_u64];omega
        have f2:IntKind.u64.wrap ((Y:Int) * (X:Int)) = (P:Int):=by
          have:(Y:Int) * (X:Int) = (P:Int):=by rw [hP];exact (Int.natCast_mul Y X).symm
          rw [this,IntKind.wrap_u64];omega
        obtain ⟨S,hS⟩:∃ S:Nat,S = O + P:=⟨_,rfl⟩
        have f3:IntKind.u64.wrap ((O:Int) + (P:Int)) = (S:Int):=by rw [IntKind.wrap_u64];omega
        have i2:(k:Int) < (M:Int):=by omega
        clear hc' hbg wy hY
        have f8:=and32 S (by omega)
        obtain ⟨lw,hlw⟩:∃ lw:Nat,lw = S % 4294967296:=⟨_,rfl⟩
        obtain ⟨H,hH⟩:∃ H:Nat,H = S / 4294967296:=⟨_,rfl⟩
        rw [← hlw] at f8
        have f9:(S:Int) / 4294967296 = (H:Int):=by omega
        obtain ⟨tk,htk⟩:∃ tk:Nat,tk = lw + bo:=⟨_,rfl⟩
        have f10:IntKind.u64.wrap ((lw:Int) + (bo:Int)) = (tk:Int):=by rw [IntKind.wrap_u64];omega
        have f11:IntKind.u64.wrap (Z0:Int) = (Z0:Int):=by rw [IntKind.wrap_u64];omega
        by_cases ct:Z0 < tk
        · have t3:((Z0:Int) < (tk:Int)):=by omega
          obtain ⟨D,hD⟩:∃ D:Nat,D = Z0 + 4294967296 - tk:=⟨_,rfl⟩
          obtain ⟨Z1,hZ1⟩:∃ Z1:Nat,Z1 = Z0 + 4294967296:=⟨_,rfl⟩
          have f12:IntKind.u64.wrap ((Z0:Int) + 4294967296) = (Z1:Int):=by rw [IntKind.wrap_u64];omega
          have f13:IntKind.u64.wrap ((Z1:Int) - (tk:Int)) = (D:Int):=by rw [IntKind.wrap_u64];omega
          have f14:IntKind.u32.wrap (D:Int) = (D:Int):=by rw [IntKind.wrap_u32];omega
          have hst:=subt_step us ys 0 k O bo 1 H lw D Y Z0 X (val zs) (by omega) (by rw [Nat.zero_add];exact hZ0.symm) hYe (by rw [← hP];omega) (by omega) (by simpa only [Nat.pow_zero,Nat.mul_one,Nat.zero_add] using hv)
          simp only [Nat.pow_zero,Nat.mul_one,Nat.zero_add] at hst
          have hH32:H < 4294967296:=by omega
          have hw2:Wd (us.set k (D:Int)):=hwu.set k D (by omega)
          have hl2:(us.set k (D:Int)).length = n:=by rw [List.length_set];exact hul
          have hR:=hrow.set k (D:Int) (by omega)
          have hK:=hkb.setCell k (.int .u32 (D:Int))
          have HF:Hid (Rw (wr.setCell ⟨g,k,none⟩ (.int .u32 (D:Int))) g n (us.set k (D:Int))∧(us.set k (D:Int)).length = n∧Wd (us.set k (D:Int))∧H < 4294967296∧val (us.set k (D:Int)) + val (ys.take (k + 1)) * X = val zs + (H + 1) * 4294967296 ^ (k + 1)∧Kb g w (wr.setCell ⟨g,k,none⟩ (.int .u32 (D:Int)))):=⟨hR,hl2,hw2,hH32,hst,hK⟩
          clear HY HW HZ hwy hM hYe hZ0 hlw hH hS hv hP wz hwu hO hbo hul hmw hD htk hrow hkb hst hH32 hw2 hl2 hR hK ct hZ1 hk
          go_wp2
          obtain ⟨a1,a2,a3,a4,a5,a6⟩:=HF.out
          exact ⟨⟨k + 1,H,1,us.set k (D:Int),rfl,rfl,by go_num,ckn,a1,a2,a3,a4,by omega,a5,a6⟩,by simp [intOf];omega⟩
        · have t3:¬ ((Z0:Int) < (tk:Int)):=by omega
          obtain ⟨D,hD⟩:∃ D:Nat,D = Z0 - tk:=⟨_,rfl⟩
          have f13:IntKind.u64.wrap ((Z0:Int) - (tk:Int)) = (D:Int):=by rw [IntKind.wrap_u64];omega
          have f14:IntKind.u32.wrap (D:Int) = (D:Int):=by rw [IntKind.wrap_u32];omega
          have hst:=subt_step us ys 0 k O bo 0 H lw D Y Z0 X (val zs) (by omega) (by rw [Nat.zero_add];exact hZ0.symm) hYe (by rw [← hP];omega) (by omega) (by simpa only [Nat.pow_zero,Nat.mul_one,Nat.zero_add] using hv)
          simp only [Nat.pow_zero,Nat.mul_one,Nat.zero_add] at hst
          have hH32:H < 4294967296:=by omega
          have hw2:Wd (us.set k (D:Int)):=hwu.set k D (by omega)
          have hl2:(us.set k (D:Int)).length = n:=by rw [List.length_set];exact hul
          have hR:=hrow.set k (D:Int) (by omega)
          have hK:=hkb.setCell k (.int .u32 (D:Int))
          have HF:Hid (Rw (wr.setCell ⟨g,k,none⟩ (.int .u32 (D:Int))) g n (us.set k (D:Int))∧(us.set k (D:Int)).length = n∧Wd (us.set k (D:Int))∧H < 4294967296∧val (us.set k (D:Int)) + val (ys.take (k + 1)) * X = val zs + (H + 0) * 4294967296 ^ (k + 1)∧Kb g w (wr.setCell ⟨g,k,none⟩ (.int .u32 (D:Int)))):=⟨hR,hl2,hw2,hH32,hst,hK⟩
          clear HY HW HZ hwy hM hYe hZ0 hlw hH hS hv hP wz hwu hO hbo hul hmw hD htk hrow hkb hst hH32 hw2 hl2 hR hK ct hk
          go_wp2
          obtain ⟨a1,a2,a3,a4,a5,a6⟩:=HF.out
          exact ⟨⟨k + 1,H,0,us.set k (D:Int),rfl,rfl,by go_num,ckn,a1,a2,a3,a4,by omega,a5,a6⟩,by simp [intOf];omega⟩
      · obtain ⟨Y,hYz⟩:∃ Y:Nat,Y = 0:=⟨_,rfl⟩
        have hYe:(ys.getD k 0).toNat = Y:=by
          rw [hYz];simp [List.getD,List.getElem?_eq_none (show ys.length≤k from by omega)]
        obtain ⟨P,hP⟩:∃ P,P = Y * X:=⟨_,rfl⟩
        have hP0:P = 0:=by rw [hP,hYz,Nat.zero_mul]
        obtain ⟨S,hS⟩:∃ S:Nat,S = O:=⟨_,rfl⟩
        have hmw:O < 4294967296:=hO
        rw [← hS]
        have hSO:=hS.symm
        have i2:¬ (k:Int) < (M:Int):=by omega
        clear hYz
        have f8:=and32 S (by omega)
        obtain ⟨lw,hlw⟩:∃ lw:Nat,lw = S % 4294967296:=⟨_,rfl⟩
        obtain ⟨H,hH⟩:∃ H:Nat,H = S / 4294967296:=⟨_,rfl⟩
        rw [← hlw] at f8
        have f9:(S:Int) / 4294967296 = (H:Int):=by omega
        obtain ⟨tk,htk⟩:∃ tk:Nat,tk = lw + bo:=⟨_,rfl⟩
        have f10:IntKind.u64.wrap ((lw:Int) + (bo:Int)) = (tk:Int):=by rw [IntKind.wrap_u64];omega
        have f11:IntKind.u64.wrap (Z0:Int) = (Z0:Int):=by rw [IntKind.wrap_u64];omega
        by_cases ct:Z0 < tk
        · have t3:((Z0:Int) < (tk:Int)):=by omega
          obtain ⟨D,hD⟩:∃ D:Nat,D = Z0 + 4294967296 - tk:=⟨_,rfl⟩
          obtain ⟨Z1,hZ1⟩:∃ Z1:Nat,Z1 = Z0 + 4294967296:=⟨_,rfl⟩
          have f12:IntKind.u64.wrap ((Z0:Int) + 4294967296) = (Z1:Int):=by rw [IntKind.wrap_u64];omega
          have f13:IntKind.u64.wrap ((Z1:Int) - (tk:Int)) = (D:Int):=by rw [IntKind.wrap_u64];omega
          have f14:IntKind.u32.wrap (D:Int) = (D:Int):=by rw [IntKind.wrap_u32];omega
          have hst:=subt_step us ys 0 k O bo 1 H lw D Y Z0 X (val zs) (by omega) (by rw [Nat.zero_add];exact hZ0.symm) hYe (by rw [← hP];omega) (by omega) (by simpa only [Nat.pow_zero,Nat.mul_one,Nat.zero_add] using hv)
          simp only [Nat.pow_zero,Nat.mul_one,Nat.zero_add] at hst
          have hH32:H < 4294967296:=by omega
          have hw2:Wd (us.set k (D:Int)):=hwu.set k D (by omega)
          have hl2:(us.set k (D:Int)).length = n:=by rw [List.length_set];exact hul
          have hR:=hrow.set k (D:Int) (by omega)
          have hK:=hkb.setCell k (.int .u32 (D:Int))
          have HF:Hid (Rw (wr.setCell ⟨g,k,none⟩ (.int .u32 (D:Int))) g n (us.set k (D:Int))∧(us.set k (D:Int)).length = n∧Wd (us.set k (D:Int))∧H < 4294967296∧val (us.set k (D:Int)) + val (ys.take (k + 1)) * X = val zs + (H + 1) * 4294967296 ^ (k + 1)∧Kb g w (wr.setCell ⟨g,k,none⟩ (.int .u32 (D:Int)))):=⟨hR,hl2,hw2,hH32,hst,hK⟩
          clear hSO hP0 HY HW HZ hwy hM hYe hZ0 hlw hH hS hv hP wz hwu hO hbo hul hmw hD htk hrow hkb hst hH32 hw2 hl2 hR hK ct hZ1 hk
          go_wp2
          obtain ⟨a1,a2,a3,a4,a5,a6⟩:=HF.out
          exact ⟨⟨k + 1,H,1,us.set k (D:Int),rfl,rfl,by go_num,ckn,a1,a2,a3,a4,by omega,a5,a6⟩,by simp [intOf];omega⟩
        · have t3:¬ ((Z0:Int) < (tk:Int)):=by omega
          obtain ⟨D,hD⟩:∃ D:Nat,D = Z0 - tk:=⟨_,rfl⟩
          have f13:IntKind.u64.wrap ((Z0:Int) - (tk:Int)) = (D:Int):=by rw [IntKind.wrap_u64];omega
          have f14:IntKind.u32.wrap (D:Int) = (D:Int):=by rw [IntKind.wrap_u32];omega
          have hst:=subt_step us ys 0 k O bo 0 H lw D Y Z0 X (val zs) (by omega) (by rw [Nat.zero_add];exact hZ0.symm) hYe (by rw [← hP];omega) (by omega) (by simpa only [Nat.pow_zero,Nat.mul_one,Nat.zero_add] using hv)
          simp only [Nat.pow_zero,Nat.mul_one,Nat.zero_add] at hst
          have hH32:H < 4294967296:=by omega
          have hw2:Wd (us.set k (D:Int)):=hwu.set k D (by omega)
          have hl2:(us.set k (D:Int)).length = n:=by rw [List.length_set];exact hul
          have hR:=hrow.set k (D:Int) (by omega)
          have hK:=hkb.setCell k (.int .u32 (D:Int))
          have HF:Hid (Rw (wr.setCell ⟨g,k,none⟩ (.int .u32 (D:Int))) g n (us.set k (D:Int))∧(us.set k (D:Int)).length = n∧Wd (us.set k (D:Int))∧H < 4294967296∧val (us.set k (D:Int)) + val (ys.take (k + 1)) * X = val zs + (H + 0) * 4294967296 ^ (k + 1)∧Kb g w (wr.setCell ⟨g,k,none⟩ (.int .u32 (D:Int)))):=⟨hR,hl2,hw2,hH32,hst,hK⟩
          clear hSO hP0 HY HW HZ hwy hM hYe hZ0 hlw hH hS hv hP wz hwu hO hbo hul hmw hD htk hrow hkb hst hH32 hw2 hl2 hR hK ct hk
          go_wp2
          obtain ⟨a1,a2,a3,a4,a5,a6⟩:=HF.out
          exact ⟨⟨k + 1,H,0,us.set k (D:Int),rfl,rfl,by go_num,ckn,a1,a2,a3,a4,by omega,a5,a6⟩,by simp [intOf];omega⟩
    · have hkn:k = n:=by omega
      subst hkn
      have hle:=HY.out.2.2
      rw [List.take_of_length_le (by omega)] at hv
      obtain ⟨hC,hvv⟩:=rsubt_end us zs (val ys) X (O + bo) k hul hwu hle hv
      have i2:¬ ((k:Int) < (k:Int)):=by omega
      have HF:Hid (Rw wr g k us∧us.length = k∧Wd us∧val us = val zs - val ys * X∧Kb g w wr):=⟨hrow,hul,hwu,hvv,hkb⟩
      clear HY HW HZ hwy hM hk ck hrow hul hwu hO hbo hv hkb hC hvv hle
      go_wp2
      exact bodyPost_end (v:=.tuple #[]) (by kernel_rfl) rfl ⟨rfl,us,HF.out⟩
end Go.Proofs.Ytcepchaakfiojaa
