import Derived.Test.YtmpjcknaelgnoaaGreatDoorKXM
import Derived.Test.YtmpjcknaelgnoaaGreatDoorProg
import Derived.Lib.BitFns
import Derived.Lib.ItoaNum
import Derived.Lib.Slices
import Derived.Lib.Small
import Derived.Lib.Strings
import Derived.Lib.Walk
set_option maxHeartbeats 4000000
set_option maxRecDepth 100000
namespace Go.Proofs.YtmpjcknaelgnoaaGreatDoor
open Go.RowKit Tryz
theorem yD (x:Nat)(h:x<2^64):Lib.bitLen x=aq x:=by
 by_cases c:x=0
 ·subst c;rw[cP];decide
 ·obtain⟨a,b,d⟩:=Lib.bitLenAux_bounds 64 x h c
  have e:Lib.bitLen x=Lib.bitLenAux 64 x:=rfl
  rw[e]
  obtain⟨k,f⟩:∃k,Lib.bitLenAux 64 x=k+1:=⟨Lib.bitLenAux 64 x-1,by omega⟩
  rw[f]at b d|-
  exact(ed x k b d).symm
theorem Ab (x:Int)(h0:0<=x)(h1:x<4294967296)(w:World) :
  Calls prog 252 #[.int .u32 x] w fun e w'=>e=.returned (.int .i64 (Lib.bitLen x.toNat:Nat))∧w'=w:=by
 go_enter func252,ntmps252
 go_wp2
 all_goals (go_ret;refine⟨congrArg Ending.returned (congrArg (Value.int IntKind.i64) ?_),rfl⟩)
 all_goals first
  | (rw [Lib.len8_of (x / 65536 / 256 % 256) (by omega) (by omega)]
     have q:=Lib.bitLen_le8' (x/65536/256%256) (by omega) (by omega)
     have p:(x/65536/256%256).toNat=x.toNat/16777216:=by omega
     have r:=Lib.bitLen_shift24 x.toNat (by omega) (by omega)
     rw[p]at q|-
     omega)
  | (rw [Lib.len8_of (x / 65536 % 256) (by omega) (by omega)]
     have q:=Lib.bitLen_le8' (x/65536%256) (by omega) (by omega)
     have p:(x/65536%256).toNat=x.toNat/65536:=by omega
     have r:=Lib.bitLen_shift16 x.toNat (by omega) (by omega)
     rw[p]at q|-
     omega)
  | (rw [Lib.len8_of (x / 256 % 256) (by omega) (by omega)]
     have q:=Lib.bitLen_le8' (x/256%256) (by omega) (by omega)
     have p:(x/256%256).toNat=x.toNat/256:=by omega
     have r:=Lib.bitLen_shift8 x.toNat (by omega) (by omega)
     rw[p]at q|-
     omega)
  | (rw [Lib.len8_of (x % 256) (by omega) (by omega)]
     have q:=Lib.bitLen_le8' (x%256) (by omega) (by omega)
     have p:(x%256).toNat=x.toNat:=by omega
     rw[p]at q|-
     omega)
theorem xJ (X:Nat)(h:X<4294967296)(w:World):Calls prog 252 #[.int .u32 (X:Int)] w fun e w'=>e=.returned (.int .i64 (aq X:Nat))∧w'=w:=by
 have:=Ab (X:Int) (by omega) (by omega) w
 rw[av,yD X (Nat.lt_trans h (by decide))]at this
 exact this
end Go.Proofs.YtmpjcknaelgnoaaGreatDoor
