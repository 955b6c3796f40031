import Derived.Test.YtmpjcknaelgnoaaGreatDoorKAL
import Derived.Test.YtmpjcknaelgnoaaGreatDoorProg
import Derived.Below
import Derived.Lib.BitFns
import Derived.Lib.Slices
import Derived.Lib.Small
import Derived.Lib.Strings
import Derived.Lib.Walk
import Derived.RowKit
set_option maxHeartbeats 4000000
set_option maxRecDepth 100000
namespace Go.Proofs.YtmpjcknaelgnoaaGreatDoor
open Go.RowKit Tryz
namespace Fq
theorem Dk (x:Int)(h0:0<=x)(h1:x<18446744073709551616)(w:World) :
  Calls prog 258 #[.int .u64 x] w fun e w'=>e=.returned (.int .i64 (Lib.bitLen x.toNat:Nat))∧w'=w:=by
 go_enter func258,ntmps258
 go_wp2
 all_goals (go_ret;refine⟨congrArg Ending.returned (congrArg (Value.int IntKind.i64) ?_),rfl⟩)
 all_goals first
  | (rw [Lib.len8_of (x / 4294967296 / 65536 / 256 % 256) (by omega) (by omega)]
     have q:=Lib.bitLen_le8' (x/4294967296/65536/256%256) (by omega) (by omega)
     have p:(x/4294967296/65536/256%256).toNat=x.toNat/72057594037927936:=by omega
     have r:=Lib.bitLen_shift56 x.toNat (by omega) (by omega)
     rw[p]at q|-
     omega)
  | (rw [Lib.len8_of (x / 4294967296 / 65536 % 256) (by omega) (by omega)]
     have q:=Lib.bitLen_le8' (x/4294967296/65536%256) (by omega) (by omega)
     have p:(x/4294967296/65536%256).toNat=x.toNat/281474976710656:=by omega
     have r:=Lib.bitLen_shift48 x.toNat (by omega) (by omega)
     rw[p]at q|-
     omega)
  | (rw [Lib.len8_of (x / 4294967296 / 256 % 256) (by omega) (by omega)]
     have q:=Lib.bitLen_le8' (x/4294967296/256%256) (by omega) (by omega)
     have p:(x/4294967296/256%256).toNat=x.toNat/1099511627776:=by omega
     have r:=Lib.bitLen_shift40 x.toNat (by omega) (by omega)
     rw[p]at q|-
     omega)
  | (rw [Lib.len8_of (x / 4294967296 % 256) (by omega) (by omega)]
     have q:=Lib.bitLen_le8' (x/4294967296%256) (by omega) (by omega)
     have p:(x/4294967296%256).toNat=x.toNat/4294967296:=by omega
     have r:=Lib.bitLen_shift32 x.toNat (by omega) (by omega)
     rw[p]at q|-
     omega)
  | (rw [Lib.len8_of (x / 65536 / 256 % 256) (by omega) (by omega)]
     have q:=Lib.bitLen_le8' (x/65536/256%256) (by omega) (by omega)
     have p:(x/65536/256%256).toNat=x.toNat/16777216:=by omega
     have r:=Lib.bitLen_shift24 x.toNat (by omega) (by omega)
     rw[p]at q|-
     omega)
  | (rw [Lib.len8_of (x / 65536 % 256) (by omega) (by omega)]
     have q:=Lib.bitLen_le8' (x/65536%256) (by omega) (by omega)
     have p:(x/65536%256).toNat=x.toNat/65536:=by omega
     have r:=Lib.bitLen_shift16 x.toNat (by omega) (by omega)
     rw[p]at q|-
     omega)
  | (rw [Lib.len8_of (x / 256 % 256) (by omega) (by omega)]
     have q:=Lib.bitLen_le8' (x/256%256) (by omega) (by omega)
     have p:(x/256%256).toNat=x.toNat/256:=by omega
     have r:=Lib.bitLen_shift8 x.toNat (by omega) (by omega)
     rw[p]at q|-
     omega)
  | (rw [Lib.len8_of (x % 256) (by omega) (by omega)]
     have q:=Lib.bitLen_le8' (x%256) (by omega) (by omega)
     have p:(x%256).toNat=x.toNat:=by omega
     rw[p]at q|-
     omega)
end Fq
end Go.Proofs.YtmpjcknaelgnoaaGreatDoor
