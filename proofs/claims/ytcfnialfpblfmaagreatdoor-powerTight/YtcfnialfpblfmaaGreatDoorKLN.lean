import Derived.Test.YtcfnialfpblfmaaGreatDoorKH2DQ
import Derived.Test.YtcfnialfpblfmaaGreatDoorKLB
set_option maxHeartbeats 1000000
set_option maxRecDepth 20000
namespace Go.Proofs.YtcfnialfpblfmaaGreatDoor
open Go.RowKit
theorem w64 (z:Int) (h0:0≤z) (h1:z < 9223372036854775808):wrap64 z = z:=by unfold wrap64;omega
theorem wi64 (z:Int) (h0:0≤z) (h1:z < 9223372036854775808):IntKind.i64.wrap z = z:=by simp [IntKind.wrap,IntKind.bits,IntKind.signed];omega
theorem nlen_ (p:Option Addr) (c:Nat) (xs:List Int) (w:World) (hx:Arr w p xs) (hwx:Wd xs) (lx:xs.length≤1099511627776) (hc:xs.length≤c) :
    Calls Tryz.prog 179 #[.slice p xs.length c] w fun e w'=>e = .returned (.int .i64 (blen (val xs):Nat))∧w' = w:=by
  have h1:=trim_ p c xs w hx lx hc
  have lS:=tl_le xs
  rcases Nat.eq_zero_or_pos (tl xs) with h0 | h0
  · have e0:val xs = 0:=by rw [← val_tl xs,h0];rfl
    rw [h0] at h1
    rw [e0,blen_zero]
    obtain ⟨N,hN⟩:∃ N,N = xs.length:=⟨_,rfl⟩
    rw [← hN] at h1 ⊢
    clear hx hwx lx lS h0 e0 hN hc
    go_enter Tryz.func179,Tryz.ntmps179
    go_wp2_with fail
    refine h1.mono ?_;rintro e w' ⟨rfl,rfl⟩
    go_wp2
    exact bodyPost_ret (v:=.int .i64 0) (by simp [results,Tryz.results179,go_sem] <;> simp only [*]) rfl ⟨rfl,rfl⟩
  · obtain ⟨t,ht⟩:∃ t,tl xs = t + 1:=⟨tl xs - 1,by omega⟩
    have hb:=blen_val xs hwx t ht
    have hw:=hwx t
    obtain ⟨b,off,rfl,hc'⟩:=hx.at (k:=t) (by omega)
    have e1:=hc' t (by omega)
    obtain ⟨X,hX⟩:∃ X:Nat,(X:Int) = xs.getD t 0:=⟨(xs.getD t 0).toNat,by omega⟩
    rw [← hX] at e1 hb
    rw [Int.toNat_natCast] at hb
    have hl:=len32_ X (by omega)
    have hl32:=blen_lt X 32 (Nat.lt_of_lt_of_le (by omega:X < 4294967296) (Nat.le_refl _))
    have hX32:X < 4294967296:=by omega
    obtain ⟨L,hL⟩:∃ L,L = blen X:=⟨_,rfl⟩
    obtain ⟨R,hR⟩:∃ R,R = blen (val xs):=⟨_,rfl⟩
    rw [← hL] at hl hb hl32
    rw [← hR] at hb ⊢
    rw [ht] at h1
    have htN:t < xs.length:=by omega
    obtain ⟨N,hN⟩:∃ N,N = xs.length:=⟨_,rfl⟩
    rw [← hN] at h1 htN lx ⊢
    have f1:(((t + 1:Nat):Int) - 1) = (t:Int):=by omega
    have f2:(((t + 1:Nat):Int) == 0) = false:=by simp;omega
    have i0:(0:Int)≤(t:Int):=by omega
    have i1:(t:Int) < (t:Int) + 1:=by omega
    have f3:(t:Int) * 32 + (L:Int) = (R:Int):=by omega
    have f4:wrap64 ((t:Int) * 32) = (t:Int) * 32:=w64 _ (by omega) (by omega)
    clear hx hwx lS h0 hN hw hX hc' hR ht hc hL hb
    go_enter Tryz.func179,Tryz.ntmps179
    go_wp2_with fail
    refine h1.mono ?_;rintro e w' ⟨rfl,hw'⟩;obtain rfl:=hw'.symm
    clear h1
    go_wp2_with (first | (go_at_call 195;refine (hl _).mono ?_;rintro e w' ⟨rfl,hw'⟩;obtain rfl:=hw'.symm))
    exact bodyPost_ret (v:=.int .i64 (R:Int)) (by simp [results,Tryz.results179,go_sem] <;> simp only [*]) rfl ⟨rfl,rfl⟩
end Go.Proofs.YtcfnialfpblfmaaGreatDoor
