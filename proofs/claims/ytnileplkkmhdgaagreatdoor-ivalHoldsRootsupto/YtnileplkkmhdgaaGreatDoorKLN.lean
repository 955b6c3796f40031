import Derived.Test.YtnileplkkmhdgaaGreatDoorKLB
import Derived.Test.YtnileplkkmhdgaaGreatDoorKXA0
set_option maxHeartbeats 1000000
set_option maxRecDepth 20000
namespace Go.Proofs.YtnileplkkmhdgaaGreatDoor
open Go.RowKit
theorem w64 (z:Int) (h0:0≤z) (h1:z < 9223372036854775808):wrap64 z = z:=by unfold wrap64;omega
theorem wi64 (z:Int) (h0:0≤z) (h1:z < 9223372036854775808):IntKind.i64.wrap z = z:=by simp [IntKind.wrap,IntKind.bits,IntKind.signed];omega
theorem rlen_ (p:Option Addr) (c:Nat) (xs:List Int) (w:World) (hx:Arr w p xs) (hwx:Wd xs) (lx:xs.length≤1099511627776) :
    Calls Tryz.prog 26 #[.slice p xs.length c] w fun e w'=>e = .returned (.int .i64 (blen (val xs):Nat))∧w' = w:=by
  have h1:=words_ p c xs w hx lx
  have lS:=tl_le xs
  rcases Nat.eq_zero_or_pos (tl xs) with h0 | h0
  · have e0:val xs = 0:=by rw [← val_tl xs,h0];rfl
    rw [h0] at h1
    rw [e0,blen_zero]
    obtain ⟨N,hN⟩:∃ N,N = xs.length:=⟨_,rfl⟩
    rw [← hN] at h1 ⊢
    clear hx hwx lx lS h0 e0 hN
    go_enter Tryz.func26,Tryz.ntmps26
    go_wp2_with fail
    refine h1.mono ?_;rintro e w' ⟨rfl,rfl⟩
    go_wp2
    exact bodyPost_ret (v:=.int .i64 0) (by simp [results,Tryz.results26,go_sem] <;> simp only [*]) rfl ⟨rfl,rfl⟩
  · obtain ⟨t,ht⟩:∃ t,tl xs = t + 1:=⟨tl xs - 1,by omega⟩
    have hb:=blen_val xs hwx t ht
    have hw:=hwx t
    obtain ⟨b,off,rfl,hc⟩:=hx.at (k:=t) (by omega)
    have e1:=hc t (by omega)
    obtain ⟨X,hX⟩:∃ X:Nat,(X:Int) = xs.getD t 0:=⟨(xs.getD t 0).toNat,by omega⟩
    rw [← hX] at e1 hb
    rw [Int.toNat_natCast] at hb
    obtain ⟨R,hR⟩:∃ R,R = blen (val xs):=⟨_,rfl⟩
    rw [← hR] at hb ⊢
    rw [ht] at h1
    have htN:t < xs.length:=by omega
    obtain ⟨N,hN⟩:∃ N,N = xs.length:=⟨_,rfl⟩
    rw [← hN] at h1 htN lx ⊢
    have f1:(((t + 1:Nat):Int) - 1) = (t:Int):=by omega
    have f2:(((t + 1:Nat):Int) == 0) = false:=by simp;omega
    have HB:Hid (R = 32 * t + blen X∧X < 4294967296):=⟨hb,by omega⟩
    have hX32:X < 4294967296:=by omega
    clear hx hwx lS h0 hN hb hw hX hc hR ht
    go_enter Tryz.func26,Tryz.ntmps26
    go_wp2_with fail
    refine h1.mono ?_;rintro e w' ⟨rfl,hw'⟩;obtain rfl:=hw'.symm
    clear h1
    go_wp2
    go_loop [4,5] (fun k x=>∃ (a X:Nat),k = .int .i64 (a:Int)∧x = .int .u32 (X:Int)∧a + blen X = R∧X < 4294967296∧R≤35184372088864) (fun _ x=>(intOf x).toNat)
    case atStart=>exact ⟨32 * t,X,by go_num,rfl,HB.out.1.symm,HB.out.2,by have:=HB.out.1;have:=blen_lt X 32 HB.out.2;omega⟩
    case round =>
      clear e1
      obtain ⟨a,Y,rfl,rfl,hR,hY,hRb⟩:=hrel
      by_cases cY:Y = 0
      · subst cY
        rw [blen_zero,Nat.add_zero] at hR
        subst hR
        clear HB hX32
        go_wp2
        exact bodyPost_ret (v:=.int .i64 (a:Int)) (by simp [results,Tryz.results26,go_sem] <;> simp only [*]) rfl ⟨rfl,rfl⟩
      · have hh:=blen_half Y cY
        have t1:(0:Int) < (Y:Int):=by omega
        have f5:(Y:Int) / 2 = ((Y / 2:Nat):Int):=by omega
        have hb2:a + 1 + blen (Y / 2) = R:=by omega
        obtain ⟨Z,hZ⟩:∃ Z,Z = Y / 2:=⟨_,rfl⟩
        rw [← hZ] at f5 hb2
        have hZ2:Z < Y:=by omega
        clear HB hX32 hh hZ hR
        go_wp2
        exact ⟨⟨a + 1,Z,by go_num,rfl,hb2,by omega,hRb⟩,by simp [intOf];omega⟩
theorem nlen_ (p:Option Addr) (c:Nat) (xs:List Int) (w:World) (hx:Arr w p xs) (hwx:Wd xs) (lx:xs.length≤1099511627776) (hc:xs.length≤c) :
    Calls Tryz.prog 122 #[.slice p xs.length c] w fun e w'=>e = .returned (.int .i64 (blen (val xs):Nat))∧w' = w:=by
  have h1:=trim_ p c xs w hx lx hc
  have lS:=tl_le xs
  rcases Nat.eq_zero_or_pos (tl xs) with h0 | h0
  · have e0:val xs = 0:=by rw [← val_tl xs,h0];rfl
    rw [h0] at h1
    rw [e0,blen_zero]
    obtain ⟨N,hN⟩:∃ N,N = xs.length:=⟨_,rfl⟩
    rw [← hN] at h1 ⊢
    clear hx hwx lx lS h0 e0 hN hc
    go_enter Tryz.func122,Tryz.ntmps122
    go_wp2_with fail
    refine h1.mono ?_;rintro e w' ⟨rfl,rfl⟩
    go_wp2
    exact bodyPost_ret (v:=.int .i64 0) (by simp [results,Tryz.results122,go_sem] <;> simp only [*]) rfl ⟨rfl,rfl⟩
  · obtain ⟨t,ht⟩:∃ t,tl xs = t + 1:=⟨tl xs - 1,by omega⟩
    have hb:=blen_val xs hwx t ht
    have hw:=hwx t
    obtain ⟨b,off,rfl,hc'⟩:=hx.at (k:=t) (by omega)
    have e1:=hc' t (by omega)
    obtain ⟨X,hX⟩:∃ X:Nat,(X:Int) = xs.getD t 0:=⟨(xs.getD t 0).toNat,by omega⟩
    rw [← hX] at e1 hb
    rw [Int.toNat_natCast] at hb
    have hl:=len32_ X (by omega)
    have hl32:=blen_lt X 32 (Nat.lt_of_lt_of_le (by omega:X < 4294967296) (Nat.le_refl _))
    have hX32:X < 4294967296:=by omega
    obtain ⟨L,hL⟩:∃ L,L = blen X:=⟨_,rfl⟩
    obtain ⟨R,hR⟩:∃ R,R = blen (val xs):=⟨_,rfl⟩
    rw [← hL] at hl hb hl32
    rw [← hR] at hb ⊢
    rw [ht] at h1
    have htN:t < xs.length:=by omega
    obtain ⟨N,hN⟩:∃ N,N = xs.length:=⟨_,rfl⟩
    rw [← hN] at h1 htN lx ⊢
    have f1:(((t + 1:Nat):Int) - 1) = (t:Int):=by omega
    have f2:(((t + 1:Nat):Int) == 0) = false:=by simp;omega
    have i0:(0:Int)≤(t:Int):=by omega
    have i1:(t:Int) < (t:Int) + 1:=by omega
    have f3:(t:Int) * 32 + (L:Int) = (R:Int):=by omega
    have f4:wrap64 ((t:Int) * 32) = (t:Int) * 32:=w64 _ (by omega) (by omega)
    clear hx hwx lS h0 hN hw hX hc' hR ht hc hL hb
    go_enter Tryz.func122,Tryz.ntmps122
    go_wp2_with fail
    refine h1.mono ?_;rintro e w' ⟨rfl,hw'⟩;obtain rfl:=hw'.symm
    clear h1
    go_wp2_with (first | (go_at_call 150;refine (hl _).mono ?_;rintro e w' ⟨rfl,hw'⟩;obtain rfl:=hw'.symm))
    exact bodyPost_ret (v:=.int .i64 (R:Int)) (by simp [results,Tryz.results122,go_sem] <;> simp only [*]) rfl ⟨rfl,rfl⟩
end Go.Proofs.YtnileplkkmhdgaaGreatDoor
