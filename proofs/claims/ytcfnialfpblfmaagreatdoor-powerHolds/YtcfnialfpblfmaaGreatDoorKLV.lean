import Derived.Test.YtcfnialfpblfmaaGreatDoorKLB
import Derived.Test.YtcfnialfpblfmaaGreatDoorKLU
import Derived.Below
import Derived.BigQuiet
import Derived.Deep.OwnRows
import Derived.Deep.QuietTactic
import Derived.ProofKit
import Derived.RowKit3
import Derived.StillTactics
import Derived.WalkKit
import Derived.WalkSpells
set_option maxRecDepth 20000
namespace Go.Proofs.YtcfnialfpblfmaaGreatDoor
open Go.RowKit
theorem lenu_ (X:Nat) (h:X<18446744073709551616) (w:World):Calls Tryz.prog 196 #[.int .u64 (X:Int)] w fun e w'=>e=.returned (.int .i64 (blen X:Nat))∧w'=w:=by
 have h1:=len64_ (X:Int) (by omega) (by omega)
 rw [Int.toNat_natCast,blen_lib X h] at h1
 obtain ⟨L,hL⟩:∃ L,L=blen X:=⟨_,rfl⟩
 rw [← hL] at h1 ⊢
 clear hL
 have f1:IntKind.u64.wrap (X:Int)=(X:Int):=by rw [IntKind.wrap_u64];omega
 clear h
 go_enter Tryz.func196,Tryz.ntmps196
 go_wp2_with (first | (go_at_call 191;refine (h1 _).mono ?_;rintro e w' ⟨rfl,hw'⟩;obtain rfl:=hw'.symm))
 exact bodyPost_ret (v:=.int .i64 (L:Int)) (by simp [results,Tryz.results196,go_sem] <;> simp only [*]) rfl ⟨rfl,rfl⟩
end Go.Proofs.YtcfnialfpblfmaaGreatDoor
