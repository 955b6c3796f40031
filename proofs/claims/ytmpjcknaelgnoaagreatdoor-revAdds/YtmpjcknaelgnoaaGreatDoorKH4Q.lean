import Derived.Test.YtmpjcknaelgnoaaGreatDoorKMR7Q
import Derived.Test.YtmpjcknaelgnoaaGreatDoorKNSm
set_option maxHeartbeats 1000000
set_option maxRecDepth 20000
namespace Go.Proofs.YtmpjcknaelgnoaaGreatDoor
open Go.RowKit
theorem noTop (n:Bool) (m X:Nat) (hm:m<9223372036854775808) (hX:X=Fq.wD n m):bits BinOp.andNot IntKind.u64 (X:Int) 9223372036854775808=(m:Int)∧X<18446744073709551616:=by
 have hX9:X<18446744073709551616:=by rw [hX];unfold Fq.wD;split <;> omega
 have h:=u64_andNot_nat X 9223372036854775808 hX9 (by decide)
 have e:X % 9223372036854775808=m:=by rw [hX];unfold Fq.wD;split <;> omega
 rw [show 18446744073709551615 - 9223372036854775808=2 ^ 63 - 1 from by decide,Nat.and_two_pow_sub_one_eq_mod,show (2:Nat) ^ 63=9223372036854775808 from by decide,e] at h
 exact ⟨h,hX9⟩
theorem abs_ (n:Bool) (m:Nat) (hm:m<9223372036854775808) (w:World):Calls Tryz.prog 153 #[.float .f64 (Fq.wD n m)] w fun e w'=>e=.returned (.float .f64 m)∧w'=w:=by
 obtain ⟨X,hX⟩:∃ X,X=Fq.wD n m:=⟨_,rfl⟩
 have f1:=(noTop n m X hm hX).1
 rw [← hX]
 clear hX hm
 have h1:=Fq.fb64 X
 have h2:=Fq.ff64 m
 go_enter Tryz.func153,Tryz.ntmps153
 go_wp2
 exact BR (v:=.float .f64 m) (by simp [results,Tryz.results153,go_sem]) rfl ⟨rfl,rfl⟩
open Ieee in
theorem fin_order (m:Nat) (hm:m<9223372036854775808):(FloatKind.f64.format.order m 9218868437227405311 == some Ordering.lt || FloatKind.f64.format.order m 9218868437227405311 == some Ordering.eq)=decide (m<9218868437227405312):=by
 have hf:FloatKind.f64.format=double:=rfl
 have hi:double.infRung=9218868437227405312:=by decide +kernel
 have hw:double.signWeight=9223372036854775808:=by decide +kernel
 have hb:double.binade≤double.infRung:=by decide +kernel
 have r1:Fq.rg double m=m:=by unfold Fq.rg;rw [hw];exact Nat.mod_eq_of_lt hm
 have r2:Fq.rg double 9218868437227405311=9218868437227405311:=by unfold Fq.rg;rw [hw]
 have p1:Fq.pl double m=(m:Int):=by
  unfold Fq.pl Fq.ng
  rw [r1,hw,Nat.div_eq_of_lt hm];rfl
 have p2:Fq.pl double 9218868437227405311=9218868437227405311:=by
  unfold Fq.pl Fq.ng
  rw [r2,hw];rfl
 rw [hf]
 by_cases c:m≤9218868437227405312
 ·rw [Fq.order_num double m 9218868437227405311 hb (by rw [r1,hi];exact c) (by rw [r2,hi];decide),p1,p2]
  by_cases c1:m<9218868437227405312
  ·rw [decide_eq_true c1]
   by_cases c2:m=9218868437227405311
   ·rw [c2];rfl
   ·rw [show compare (m:Int) 9218868437227405311=Ordering.lt from by rw [Int.compare_eq_lt];omega];rfl
  ·rw [decide_eq_false c1,show compare (m:Int) 9218868437227405311=Ordering.gt from by rw [Int.compare_eq_gt];omega];rfl
 ·rw [Fq.order_nan_left double m 9218868437227405311 hb (by rw [r1,hi];omega),decide_eq_false (by omega)];rfl
theorem finite_ (n:Bool) (m:Nat) (hm:m<9223372036854775808) (w:World):Calls Tryz.prog 177 #[.float .f64 (Fq.wD n m)] w fun e w'=>e=.returned (.bool (decide (m<9218868437227405312)))∧w'=w:=by
 have h:=abs_ n m hm w
 obtain ⟨X,hX⟩:∃ X,X=Fq.wD n m:=⟨_,rfl⟩
 rw [← hX] at h ⊢
 clear hX
 go_enter Tryz.func177,Tryz.ntmps177
 go_wp2_with fail
 refine SM h ?_;clear h
 go_wp2
 exact BR (v:=.bool (decide (m<9218868437227405312))) (by rw [← fin_order m hm];simp [results,Tryz.results177,go_sem]) rfl ⟨rfl,rfl⟩
open Ieee in
theorem tame_order (m:Nat) (hm:m<9223372036854775808):(FloatKind.f64.format.order m 9110782046170513408 == some Ordering.lt || FloatKind.f64.format.order m 9110782046170513408 == some Ordering.eq)=decide (m≤9110782046170513408):=by
 have hf:FloatKind.f64.format=double:=rfl
 have hi:double.infRung=9218868437227405312:=by decide +kernel
 have hw:double.signWeight=9223372036854775808:=by decide +kernel
 have hb:double.binade≤double.infRung:=by decide +kernel
 have r1:Fq.rg double m=m:=by unfold Fq.rg;rw [hw];exact Nat.mod_eq_of_lt hm
 have r2:Fq.rg double 9110782046170513408=9110782046170513408:=by unfold Fq.rg;rw [hw]
 have p1:Fq.pl double m=(m:Int):=by
  unfold Fq.pl Fq.ng
  rw [r1,hw,Nat.div_eq_of_lt hm];rfl
 have p2:Fq.pl double 9110782046170513408=9110782046170513408:=by
  unfold Fq.pl Fq.ng
  rw [r2,hw];rfl
 rw [hf]
 by_cases c:m≤9218868437227405312
 ·rw [Fq.order_num double m 9110782046170513408 hb (by rw [r1,hi];exact c) (by rw [r2,hi];decide),p1,p2]
  by_cases c1:m≤9110782046170513408
  ·rw [decide_eq_true c1]
   by_cases c2:m=9110782046170513408
   ·rw [c2];rfl
   ·rw [show compare (m:Int) 9110782046170513408=Ordering.lt from by rw [Int.compare_eq_lt];omega];rfl
  ·rw [decide_eq_false c1,show compare (m:Int) 9110782046170513408=Ordering.gt from by rw [Int.compare_eq_gt];omega];rfl
 ·rw [Fq.order_nan_left double m 9110782046170513408 hb (by rw [r1,hi];omega),decide_eq_false (by omega)];rfl
theorem tame_ (n:Bool) (m:Nat) (hm:m<9223372036854775808) (w:World):Calls Tryz.prog 174 #[.float .f64 (Fq.wD n m)] w fun e w'=>e=.returned (.bool (decide (m≤9110782046170513408)))∧w'=w:=by
 have h:=abs_ n m hm w
 obtain ⟨X,hX⟩:∃ X,X=Fq.wD n m:=⟨_,rfl⟩
 rw [← hX] at h ⊢
 clear hX
 go_enter Tryz.func174,Tryz.ntmps174
 go_wp2_with fail
 refine SM h ?_;clear h
 go_wp2
 exact BR (v:=.bool (decide (m≤9110782046170513408))) (by rw [← tame_order m hm];simp [results,Tryz.results174,go_sem]) rfl ⟨rfl,rfl⟩
theorem kfro {W w:World} {b o:Nat} (g:Kp W w) (h:b<W.heap.size):w.frozen? ⟨b,o,none⟩=W.frozen? ⟨b,o,none⟩:=World.frozen?_of_block (w:=W) (Below.block g b h)
theorem AK2 {W w:World} {b:Nat} {v0 v1:Value} (g:Kp W w) (h:W.cell? ⟨b,0,none⟩=some v0∧W.frozen? ⟨b,0,none⟩=false∧W.cell? ⟨b,1,none⟩=some v1∧W.frozen? ⟨b,1,none⟩=false):w.cell? ⟨b,0,none⟩=some v0∧w.frozen? ⟨b,0,none⟩=false∧w.cell? ⟨b,1,none⟩=some v1∧w.frozen? ⟨b,1,none⟩=false:=by
 obtain ⟨c0,z0,c1,z1⟩:=h
 exact ⟨kkeep g c0,(kfro g (cell_lt c0)).trans z0,kkeep g c1,(kfro g (cell_lt c1)).trans z1⟩
theorem FK2 {W w:World} (g:Kp W w) (b:Nat) (v0 v1:Value) (h:W.cell? ⟨b,0,none⟩=some v0∧W.frozen? ⟨b,0,none⟩=false∧W.cell? ⟨b,1,none⟩=some v1∧W.frozen? ⟨b,1,none⟩=false):w.cell? ⟨b,0,none⟩=some v0∧w.frozen? ⟨b,0,none⟩=false∧w.cell? ⟨b,1,none⟩=some v1∧w.frozen? ⟨b,1,none⟩=false:=AK2 g h
theorem AK3 {W w:World} {b:Nat} {v0 v1 v2:Value} (g:Kp W w) (h:W.cell? ⟨b,0,none⟩=some v0∧W.frozen? ⟨b,0,none⟩=false∧W.cell? ⟨b,1,none⟩=some v1∧W.frozen? ⟨b,1,none⟩=false∧W.cell? ⟨b,2,none⟩=some v2∧W.frozen? ⟨b,2,none⟩=false):w.cell? ⟨b,0,none⟩=some v0∧w.frozen? ⟨b,0,none⟩=false∧w.cell? ⟨b,1,none⟩=some v1∧w.frozen? ⟨b,1,none⟩=false∧w.cell? ⟨b,2,none⟩=some v2∧w.frozen? ⟨b,2,none⟩=false:=by
 obtain ⟨c0,z0,c1,z1,c2,z2⟩:=h
 exact ⟨kkeep g c0,(kfro g (cell_lt c0)).trans z0,kkeep g c1,(kfro g (cell_lt c1)).trans z1,kkeep g c2,(kfro g (cell_lt c2)).trans z2⟩
theorem AK4 {W w:World} {b:Nat} {v0 v1 v2 v3:Value} (g:Kp W w) (h:W.cell? ⟨b,0,none⟩=some v0∧W.frozen? ⟨b,0,none⟩=false∧W.cell? ⟨b,1,none⟩=some v1∧W.frozen? ⟨b,1,none⟩=false∧W.cell? ⟨b,2,none⟩=some v2∧W.frozen? ⟨b,2,none⟩=false∧W.cell? ⟨b,3,none⟩=some v3∧W.frozen? ⟨b,3,none⟩=false):w.cell? ⟨b,0,none⟩=some v0∧w.frozen? ⟨b,0,none⟩=false∧w.cell? ⟨b,1,none⟩=some v1∧w.frozen? ⟨b,1,none⟩=false∧w.cell? ⟨b,2,none⟩=some v2∧w.frozen? ⟨b,2,none⟩=false∧w.cell? ⟨b,3,none⟩=some v3∧w.frozen? ⟨b,3,none⟩=false:=by
 obtain ⟨c0,z0,c1,z1,c2,z2,c3,z3⟩:=h
 exact ⟨kkeep g c0,(kfro g (cell_lt c0)).trans z0,kkeep g c1,(kfro g (cell_lt c1)).trans z1,kkeep g c2,(kfro g (cell_lt c2)).trans z2,kkeep g c3,(kfro g (cell_lt c3)).trans z3⟩
theorem FK4 {W w:World} (g:Kp W w) (b:Nat) (v0 v1 v2 v3:Value) (h:W.cell? ⟨b,0,none⟩=some v0∧W.frozen? ⟨b,0,none⟩=false∧W.cell? ⟨b,1,none⟩=some v1∧W.frozen? ⟨b,1,none⟩=false∧W.cell? ⟨b,2,none⟩=some v2∧W.frozen? ⟨b,2,none⟩=false∧W.cell? ⟨b,3,none⟩=some v3∧W.frozen? ⟨b,3,none⟩=false):w.cell? ⟨b,0,none⟩=some v0∧w.frozen? ⟨b,0,none⟩=false∧w.cell? ⟨b,1,none⟩=some v1∧w.frozen? ⟨b,1,none⟩=false∧w.cell? ⟨b,2,none⟩=some v2∧w.frozen? ⟨b,2,none⟩=false∧w.cell? ⟨b,3,none⟩=some v3∧w.frozen? ⟨b,3,none⟩=false:=AK4 g h
theorem AK9 {W w:World} {b:Nat} {v0 v1 v2 v3 v4 v5 v6 v7 v8:Value} (g:Kp W w) (h:W.cell? ⟨b,0,none⟩=some v0∧W.frozen? ⟨b,0,none⟩=false∧W.cell? ⟨b,1,none⟩=some v1∧W.frozen? ⟨b,1,none⟩=false∧W.cell? ⟨b,2,none⟩=some v2∧W.frozen? ⟨b,2,none⟩=false∧W.cell? ⟨b,3,none⟩=some v3∧W.frozen? ⟨b,3,none⟩=false∧W.cell? ⟨b,4,none⟩=some v4∧W.frozen? ⟨b,4,none⟩=false∧W.cell? ⟨b,5,none⟩=some v5∧W.frozen? ⟨b,5,none⟩=false∧W.cell? ⟨b,6,none⟩=some v6∧W.frozen? ⟨b,6,none⟩=false∧W.cell? ⟨b,7,none⟩=some v7∧W.frozen? ⟨b,7,none⟩=false∧W.cell? ⟨b,8,none⟩=some v8∧W.frozen? ⟨b,8,none⟩=false):w.cell? ⟨b,0,none⟩=some v0∧w.frozen? ⟨b,0,none⟩=false∧w.cell? ⟨b,1,none⟩=some v1∧w.frozen? ⟨b,1,none⟩=false∧w.cell? ⟨b,2,none⟩=some v2∧w.frozen? ⟨b,2,none⟩=false∧w.cell? ⟨b,3,none⟩=some v3∧w.frozen? ⟨b,3,none⟩=false∧w.cell? ⟨b,4,none⟩=some v4∧w.frozen? ⟨b,4,none⟩=false∧w.cell? ⟨b,5,none⟩=some v5∧w.frozen? ⟨b,5,none⟩=false∧w.cell? ⟨b,6,none⟩=some v6∧w.frozen? ⟨b,6,none⟩=false∧w.cell? ⟨b,7,none⟩=some v7∧w.frozen? ⟨b,7,none⟩=false∧w.cell? ⟨b,8,none⟩=some v8∧w.frozen? ⟨b,8,none⟩=false:=by
 obtain ⟨c0,z0,c1,z1,c2,z2,c3,z3,c4,z4,c5,z5,c6,z6,c7,z7,c8,z8⟩:=h
 exact ⟨kkeep g c0,(kfro g (cell_lt c0)).trans z0,kkeep g c1,(kfro g (cell_lt c1)).trans z1,kkeep g c2,(kfro g (cell_lt c2)).trans z2,kkeep g c3,(kfro g (cell_lt c3)).trans z3,kkeep g c4,(kfro g (cell_lt c4)).trans z4,kkeep g c5,(kfro g (cell_lt c5)).trans z5,kkeep g c6,(kfro g (cell_lt c6)).trans z6,kkeep g c7,(kfro g (cell_lt c7)).trans z7,kkeep g c8,(kfro g (cell_lt c8)).trans z8⟩
theorem FK9 {W w:World} (g:Kp W w) (b:Nat) (v0 v1 v2 v3 v4 v5 v6 v7 v8:Value) (h:W.cell? ⟨b,0,none⟩=some v0∧W.frozen? ⟨b,0,none⟩=false∧W.cell? ⟨b,1,none⟩=some v1∧W.frozen? ⟨b,1,none⟩=false∧W.cell? ⟨b,2,none⟩=some v2∧W.frozen? ⟨b,2,none⟩=false∧W.cell? ⟨b,3,none⟩=some v3∧W.frozen? ⟨b,3,none⟩=false∧W.cell? ⟨b,4,none⟩=some v4∧W.frozen? ⟨b,4,none⟩=false∧W.cell? ⟨b,5,none⟩=some v5∧W.frozen? ⟨b,5,none⟩=false∧W.cell? ⟨b,6,none⟩=some v6∧W.frozen? ⟨b,6,none⟩=false∧W.cell? ⟨b,7,none⟩=some v7∧W.frozen? ⟨b,7,none⟩=false∧W.cell? ⟨b,8,none⟩=some v8∧W.frozen? ⟨b,8,none⟩=false):w.cell? ⟨b,0,none⟩=some v0∧w.frozen? ⟨b,0,none⟩=false∧w.cell? ⟨b,1,none⟩=some v1∧w.frozen? ⟨b,1,none⟩=false∧w.cell? ⟨b,2,none⟩=some v2∧w.frozen? ⟨b,2,none⟩=false∧w.cell? ⟨b,3,none⟩=some v3∧w.frozen? ⟨b,3,none⟩=false∧w.cell? ⟨b,4,none⟩=some v4∧w.frozen? ⟨b,4,none⟩=false∧w.cell? ⟨b,5,none⟩=some v5∧w.frozen? ⟨b,5,none⟩=false∧w.cell? ⟨b,6,none⟩=some v6∧w.frozen? ⟨b,6,none⟩=false∧w.cell? ⟨b,7,none⟩=some v7∧w.frozen? ⟨b,7,none⟩=false∧w.cell? ⟨b,8,none⟩=some v8∧w.frozen? ⟨b,8,none⟩=false:=AK9 g h
theorem tz0_ (w:World):Calls Tryz.prog 208 #[.int .u64 0] w fun e w'=>e=.returned (.int .i64 64)∧w'=w:=by
 go_enter Tryz.func208,Tryz.ntmps208
 go_wp2
 exact BR (v:=.int .i64 64) (by simp [results,Tryz.results208,go_sem]) rfl ⟨rfl,rfl⟩
theorem take_ (n:Bool) (m:Nat) (hm:m<9218868437227405312) :
  ∃ (a:Nat) (ex:Int),a*2 ^ (ex+1074).toNat=Fq.vV Ieee.double m∧-1074≤ex∧ex≤2048∧a<9007199254740992∧∀ w:World,Fq.Tab w→Calls Tryz.prog 178 #[.float .f64 (Fq.wD n m)] w fun e w'=>∃ v,e=.returned (.agg #[.bool (n && !(m == 0)),v,.int .i64 ex])∧Ls w' v (dig a)∧Kp w w':=by
 obtain ⟨v1,v2,v3,v4,v5⟩:=Fq.vlsgD m hm
 obtain ⟨X,hX⟩:∃ X,X=Fq.wD n m:=⟨_,rfl⟩
 obtain ⟨sg,hsg⟩:∃ sg,sg=Fq.sgD m:=⟨_,rfl⟩
 obtain ⟨ep,hep⟩:∃ ep,ep=Fq.epD m:=⟨_,rfl⟩
 obtain ⟨nn,hnn⟩:∃ nn:Bool,nn=(n && !(m == 0)):=⟨_,rfl⟩
 rw [← hsg,← hep] at v1
 rw [← hsg] at v2 v3
 rw [← hep] at v4 v5
 -- the odd part and its zeros
 obtain ⟨a,k,hk,hka,htz,hsh,ha⟩:∃ a k:Nat,a*2 ^ (ep+(k:Int)+1074).toNat=Fq.vV Ieee.double m∧k≤64∧(∀ w1,Fq.Tab w1→Calls Tryz.prog 208 #[.int .u64 (sg:Int)] w1 fun e w'=>e=.returned (.int .i64 (k:Int))∧w'=w1)∧(sg:Int) / 2 ^ min k 64=(a:Int)∧a<9007199254740992:=by
  by_cases c:sg=0
  ·refine ⟨0,64, ?_,by omega, ?_,by rw [c];simp,by omega⟩
   ·have e:Fq.vV Ieee.double m=Fq.vlD m:=rfl
    rw [e,← v1,c];simp
   ·intro w1 _
    rw [c];exact tz0_ w1
  ·obtain ⟨o,o1,o2,o3,o4⟩:=ctz_odd sg c
   have hcl:blen sg≤53:=by rw [blen_le_iff,show (2:Nat) ^ 53=9007199254740992 from by decide];exact v2
   refine ⟨o,ctz sg, ?_,by omega, ?_, ?_, ?_⟩
   ·have e:Fq.vV Ieee.double m=Fq.vlD m:=rfl
    rw [e,← v1,show (ep+((ctz sg:Nat):Int)+1074).toNat=ctz sg+(ep+1074).toNat from by omega,Nat.pow_add,← Nat.mul_assoc,← o2]
   ·intro w1 t1
    have h:=Fq.tz_ o (ctz sg) o1 (by rw [← o2];omega) w1 t1
    rw [← o2] at h
    exact h
   ·rw [Nat.min_eq_left (by omega)]
    have:((sg / 2 ^ ctz sg:Nat):Int)=(o:Int):=by rw [o3]
    rw [← this,Int.natCast_ediv,castpow]
   ·have:=Nat.div_le_self sg (2 ^ ctz sg);omega
 refine ⟨a,ep+(k:Int),hk,by omega,by omega,ha,fun w hQ=>?_⟩
 obtain ⟨w0,hw0⟩:∃ w0,w0=w.alloc (.cells #[.bool false,.slice none 0 0,.int .i64 0] 149):=⟨_,rfl⟩
 obtain ⟨B,hB⟩:∃ B,B=w.heap.size:=⟨_,rfl⟩
 have hk0:Kp w w0:=by rw [hw0];exact (Kp.refl w).alloc _
 have hsp:=Fq.split_d n m hm w0
 rw [← hX,← hsg,← hep,← hnn] at hsp
 rw [← hX,← hnn]
 rw [Nat.min_eq_left hka] at hsh
 have hsm:=fun w1=>nsmall_ a (by omega) w1
 have htz2:=fun w1 (kk:Kp w0 w1)=>htz w1 (Fq.Tab.grown hQ (hk0.trans kk))
 have hal:∀ w1,Kp w0 w1→True:=fun _ _=>trivial
 obtain ⟨e0,e1,e2,f0,f1,f2⟩:w0.cell? ⟨B,0,none⟩=some (.bool false)∧w0.cell? ⟨B,1,none⟩=some (.slice none 0 0)∧w0.cell? ⟨B,2,none⟩=some (.int .i64 0)∧w0.frozen? ⟨B,0,none⟩=false∧w0.frozen? ⟨B,1,none⟩=false∧w0.frozen? ⟨B,2,none⟩=false:=by rw [hw0,hB];simp [go_sem]
 have hlt:=cell_lt e0
 have hep1:-1074≤ep:=v4
 have hep2:ep≤971:=v5
 have HW:Hid (w0=w.alloc (.cells #[.bool false,.slice none 0 0,.int .i64 0] 149)∧B=w.heap.size∧Kp w w0):=⟨hw0,hB,hk0⟩
 clear hal v1 v2 v3 v4 v5 hX hsg hep hnn hw0 hB hk0 htz hQ hk ha hm
 go_enter Tryz.func178,Tryz.ntmps178
 go_wp2_with fail
 rw [← HW.out.1,← HW.out.2.1]
 refine hsp.mono ?_;rintro e w1 ⟨rfl,k1⟩
 have k1':Kp w0 w1:=k1
 have htz3:=htz2 w1 k1'
 clear hsp htz2 k1
 go_wp2_with fail
 refine SM htz3 ?_;clear htz3
 have hs2:=hsm w1
 clear hsm
 go_wp2_with fail
 try rw [hsh]
 refine hs2.mono ?_;rintro e w2 ⟨v,rfl,ho,k2⟩
 have hls:=ho.ls
 obtain ⟨pv,cv,rfl,hav,hcv⟩:=ho.arr
 have k02:=k1'.trans k2
 have hlt2:=ho.lt
 replace e0:=kkeep k02 e0
 replace e1:=kkeep k02 e1
 replace e2:=kkeep k02 e2
 replace f0:=(kfro k02 hlt).trans f0
 replace f1:=(kfro k02 hlt).trans f1
 replace f2:=(kfro k02 hlt).trans f2
 have hks:=Below.size k1'
 obtain ⟨L,hL⟩:∃ L,L=(dig a).length:=⟨_,rfl⟩
 rw [← hL]
 have HO:Hid (Own w2 w1.heap.size (.slice pv (dig a).length cv) (dig a)∧L=(dig a).length∧Kp w0 w2∧B<w1.heap.size):=⟨ho,hL,k02,by omega⟩
 clear hs2 ho hls hav hcv k1' k2 k02 hlt2 hL hks
 go_wp2
 obtain ⟨ho,hL,k02,hBl⟩:=HO.out
 have kb:Kb B w2 (((w2.setCell ⟨B,0,none⟩ (.bool nn)).setCell ⟨B,1,none⟩ (.slice pv L cv)).setCell ⟨B,2,none⟩ (.int .i64 (ep+(k:Int)))):=(((Kb.refl B w2).setCell 0 _).setCell 1 _).setCell 2 _
 have ho2:=ho.kb kb (fun g hg=>by have:=ho.lt g hg;omega)
 have hls:=ho2.ls
 rw [← hL] at hls
 have hkw:Kp w (((w2.setCell ⟨B,0,none⟩ (.bool nn)).setCell ⟨B,1,none⟩ (.slice pv L cv)).setCell ⟨B,2,none⟩ (.int .i64 (ep+(k:Int)))):=kb.kp (HW.out.2.2.trans k02) (by rw [HW.out.2.1];exact Nat.le_refl _)
 exact BR (v:=.agg #[.bool nn,.slice pv L cv,.int .i64 (ep+(k:Int))]) (by simp [results,Tryz.results178,go_sem,e0,e1,e2]) rfl ⟨_,rfl,hls,hkw⟩
theorem rcmpL_ (S T9:Int) s p l c q k d s2 p2 l2 c2 q2 k2 d2 (w:World) (hs1:∀ W:World,Kp w W→Calls Tryz.prog 133 #[.agg #[.bool s,.slice p l c,.slice q k d]] W fun e w'=>e=.returned (.int .i64 S)∧Kp W w') (hs2:∀ W:World,Kp w W→Calls Tryz.prog 133 #[.agg #[.bool s2,.slice p2 l2 c2,.slice q2 k2 d2]] W fun e w'=>e=.returned (.int .i64 T9)∧Kp W w') (t1:S<T9):Calls Tryz.prog 77 #[.agg #[.bool s,.slice p l c,.slice q k d],.agg #[.bool s2,.slice p2 l2 c2,.slice q2 k2 d2]] w fun e w'=>e=.returned (.int .i64 (-1))∧Kp w w':=by
 go_enter Tryz.func77,Tryz.ntmps77
 go_wp2_with (first | (go_at_call_of 133 (Value.slice p l c);refine (hs1 _ ?q0).mono ?_;(case q0=>exact ((Kp.refl w).alloc _).alloc _);rintro e wa ⟨rfl,ga⟩;have ka:Kp w wa:=Kp.trans (((Kp.refl w).alloc _).alloc _) ga;have x0:=kkeep ga (b:=w.heap.size) (o:=0) (v:=.bool s) (by simp [go_sem]);have x1:=kkeep ga (b:=w.heap.size) (o:=1) (v:=.slice p l c) (by simp [go_sem]);have x2:=kkeep ga (b:=w.heap.size) (o:=2) (v:=.slice q k d) (by simp [go_sem]);have x3:=kkeep ga (b:=w.heap.size+1) (o:=0) (v:=.bool s2) (by simp [go_sem]);have x4:=kkeep ga (b:=w.heap.size+1) (o:=1) (v:=.slice p2 l2 c2) (by simp [go_sem]);have x5:=kkeep ga (b:=w.heap.size+1) (o:=2) (v:=.slice q2 k2 d2) (by simp [go_sem])) | (go_at_call_of 133 (Value.slice p2 l2 c2);refine (hs2 _ ?q0).mono ?_;(case q0=>exact ka);rintro e wb ⟨rfl,gb⟩;have kb:Kp w wb:=Kp.trans ka gb;have y0:=kkeep gb x0;have y1:=kkeep gb x1;have y2:=kkeep gb x2;have y3:=kkeep gb x3;have y4:=kkeep gb x4;have y5:=kkeep gb x5))
 exact BR (v:=.int .i64 (-1)) (by simp [results,Tryz.results77,go_sem]) rfl ⟨rfl,kb⟩
theorem rcmpG_ (S T9:Int) s p l c q k d s2 p2 l2 c2 q2 k2 d2 (w:World) (hs1:∀ W:World,Kp w W→Calls Tryz.prog 133 #[.agg #[.bool s,.slice p l c,.slice q k d]] W fun e w'=>e=.returned (.int .i64 S)∧Kp W w') (hs2:∀ W:World,Kp w W→Calls Tryz.prog 133 #[.agg #[.bool s2,.slice p2 l2 c2,.slice q2 k2 d2]] W fun e w'=>e=.returned (.int .i64 T9)∧Kp W w') (t2:T9<S):Calls Tryz.prog 77 #[.agg #[.bool s,.slice p l c,.slice q k d],.agg #[.bool s2,.slice p2 l2 c2,.slice q2 k2 d2]] w fun e w'=>e=.returned (.int .i64 1)∧Kp w w':=by
 go_enter Tryz.func77,Tryz.ntmps77
 go_wp2_with (first | (go_at_call_of 133 (Value.slice p l c);refine (hs1 _ ?q0).mono ?_;(case q0=>exact ((Kp.refl w).alloc _).alloc _);rintro e wa ⟨rfl,ga⟩;have ka:Kp w wa:=Kp.trans (((Kp.refl w).alloc _).alloc _) ga;have x0:=kkeep ga (b:=w.heap.size) (o:=0) (v:=.bool s) (by simp [go_sem]);have x1:=kkeep ga (b:=w.heap.size) (o:=1) (v:=.slice p l c) (by simp [go_sem]);have x2:=kkeep ga (b:=w.heap.size) (o:=2) (v:=.slice q k d) (by simp [go_sem]);have x3:=kkeep ga (b:=w.heap.size+1) (o:=0) (v:=.bool s2) (by simp [go_sem]);have x4:=kkeep ga (b:=w.heap.size+1) (o:=1) (v:=.slice p2 l2 c2) (by simp [go_sem]);have x5:=kkeep ga (b:=w.heap.size+1) (o:=2) (v:=.slice q2 k2 d2) (by simp [go_sem])) | (go_at_call_of 133 (Value.slice p2 l2 c2);refine (hs2 _ ?q0).mono ?_;(case q0=>exact ka);rintro e wb ⟨rfl,gb⟩;have kb:Kp w wb:=Kp.trans ka gb;have y0:=kkeep gb x0;have y1:=kkeep gb x1;have y2:=kkeep gb x2;have y3:=kkeep gb x3;have y4:=kkeep gb x4;have y5:=kkeep gb x5))
 exact BR (v:=.int .i64 1) (by simp [results,Tryz.results77,go_sem]) rfl ⟨rfl,kb⟩
theorem rcmpZ_ (S C9:Int) (P1 P2:World→Value→Prop) s p l c q k d s2 p2 l2 c2 q2 k2 d2 (w:World) (hk1:∀ (W W':World) (v:Value),Kp W W'→P1 W v→P1 W' v) (hs1:∀ W:World,Kp w W→Calls Tryz.prog 133 #[.agg #[.bool s,.slice p l c,.slice q k d]] W fun e w'=>e=.returned (.int .i64 S)∧Kp W w') (hs2:∀ W:World,Kp w W→Calls Tryz.prog 133 #[.agg #[.bool s2,.slice p2 l2 c2,.slice q2 k2 d2]] W fun e w'=>e=.returned (.int .i64 S)∧Kp W w') (hT1:∀ W:World,Kp w W→Calls Tryz.prog 135 #[.slice p l c,.slice q2 k2 d2] W fun e w'=>∃ v,e=.returned v∧P1 w' v∧Kp W w') (hT2:∀ W:World,Kp w W→Calls Tryz.prog 135 #[.slice p2 l2 c2,.slice q k d] W fun e w'=>∃ v,e=.returned v∧P2 w' v∧Kp W w') (hC:∀ (W:World) (u v:Value),Kp w W→P1 W u→P2 W v→Calls Tryz.prog 134 #[u,v] W fun e w'=>e=.returned (.int .i64 C9)∧Kp W w') (t3:(S == 0)=true):Calls Tryz.prog 77 #[.agg #[.bool s,.slice p l c,.slice q k d],.agg #[.bool s2,.slice p2 l2 c2,.slice q2 k2 d2]] w fun e w'=>e=.returned (.int .i64 0)∧Kp w w':=by
 cases s
 ·skip
  go_enter Tryz.func77,Tryz.ntmps77
  go_wp2_with (first | (go_at_call_of 133 (Value.slice p l c);refine (hs1 _ ?q0).mono ?_;(case q0=>exact ((Kp.refl w).alloc _).alloc _);rintro e wa ⟨rfl,ga⟩;have ka:Kp w wa:=Kp.trans (((Kp.refl w).alloc _).alloc _) ga;have x0:=kkeep ga (b:=w.heap.size) (o:=0) (v:=.bool false) (by simp [go_sem]);have x1:=kkeep ga (b:=w.heap.size) (o:=1) (v:=.slice p l c) (by simp [go_sem]);have x2:=kkeep ga (b:=w.heap.size) (o:=2) (v:=.slice q k d) (by simp [go_sem]);have x3:=kkeep ga (b:=w.heap.size+1) (o:=0) (v:=.bool s2) (by simp [go_sem]);have x4:=kkeep ga (b:=w.heap.size+1) (o:=1) (v:=.slice p2 l2 c2) (by simp [go_sem]);have x5:=kkeep ga (b:=w.heap.size+1) (o:=2) (v:=.slice q2 k2 d2) (by simp [go_sem])) | (go_at_call_of 133 (Value.slice p2 l2 c2);refine (hs2 _ ?q0).mono ?_;(case q0=>exact ka);rintro e wb ⟨rfl,gb⟩;have kb:Kp w wb:=Kp.trans ka gb;have y0:=kkeep gb x0;have y1:=kkeep gb x1;have y2:=kkeep gb x2;have y3:=kkeep gb x3;have y4:=kkeep gb x4;have y5:=kkeep gb x5))
  have dd0:True:=trivial
  have dw0:wb.drew.cell? ⟨w.heap.size,0,none⟩=some (.bool false):=y0
  have dw1:wb.drew.cell? ⟨w.heap.size,1,none⟩=some (.slice p l c):=y1
  have dw2:wb.drew.cell? ⟨w.heap.size,2,none⟩=some (.slice q k d):=y2
  have dw3:wb.drew.cell? ⟨w.heap.size+1,0,none⟩=some (.bool s2):=y3
  have dw4:wb.drew.cell? ⟨w.heap.size+1,1,none⟩=some (.slice p2 l2 c2):=y4
  have dw5:wb.drew.cell? ⟨w.heap.size+1,2,none⟩=some (.slice q2 k2 d2):=y5
  go_region_held3 (fun w'=>w'.cell? ⟨w.heap.size,0,none⟩=some (.bool false)∧w'.cell? ⟨w.heap.size,1,none⟩=some (.slice p l c)∧w'.cell? ⟨w.heap.size,2,none⟩=some (.slice q k d)∧w'.cell? ⟨w.heap.size+1,0,none⟩=some (.bool s2)∧w'.cell? ⟨w.heap.size+1,1,none⟩=some (.slice p2 l2 c2)∧w'.cell? ⟨w.heap.size+1,2,none⟩=some (.slice q2 k2 d2)) (first | (with_reducible exact ⟨dw0,dw1,dw2,dw3,dw4,dw5⟩) | (with_reducible exact ⟨y0,y1,y2,y3,y4,y5⟩) | (with_reducible exact ⟨a0,a1,a2,a3,a4,a5⟩) | (with_reducible exact ⟨b0,b1,b2,b3,b4,b5⟩) | (with_reducible exact ⟨e0,e1,e2,e3,e4,e5⟩)) (first | (go_at_call_of 135 (Value.slice p l c);refine (hT1 _ ?q0).mono ?_;(case q0=>exact kb.drew);rintro e wc ⟨u9,rfl,hu,gc⟩;have kc:Kp w wc:=Kp.trans kb.drew gc;have a0:=kkeep (Kp.trans (Kp.drew (Kp.refl _)) gc) y0;have a1:=kkeep (Kp.trans (Kp.drew (Kp.refl _)) gc) y1;have a2:=kkeep (Kp.trans (Kp.drew (Kp.refl _)) gc) y2;have a3:=kkeep (Kp.trans (Kp.drew (Kp.refl _)) gc) y3;have a4:=kkeep (Kp.trans (Kp.drew (Kp.refl _)) gc) y4;have a5:=kkeep (Kp.trans (Kp.drew (Kp.refl _)) gc) y5) | (go_at_call_of 135 (Value.slice p2 l2 c2);refine (hT2 _ ?q0).mono ?_;(case q0=>exact kc);rintro e wd ⟨v9,rfl,hv,gd⟩;have kd:Kp w wd:=Kp.trans kc gd;have hu2:=hk1 _ _ _ gd hu;have b0:=kkeep gd a0;have b1:=kkeep gd a1;have b2:=kkeep gd a2;have b3:=kkeep gd a3;have b4:=kkeep gd a4;have b5:=kkeep gd a5) | (go_at_call 134;refine (hC _ u9 v9 kd hu2 hv).mono ?_;rintro e we ⟨rfl,ge⟩;have ke:Kp w we:=Kp.trans kd ge;have e0:=kkeep ge b0;have e1:=kkeep ge b1;have e2:=kkeep ge b2;have e3:=kkeep ge b3;have e4:=kkeep ge b4;have e5:=kkeep ge b5))
  go_wp2
  exact BR (v:=.int .i64 0) (by simp [results,Tryz.results77,go_sem]) rfl ⟨rfl,ke⟩
 ·skip
  go_enter Tryz.func77,Tryz.ntmps77
  go_wp2_with (first | (go_at_call_of 133 (Value.slice p l c);refine (hs1 _ ?q0).mono ?_;(case q0=>exact ((Kp.refl w).alloc _).alloc _);rintro e wa ⟨rfl,ga⟩;have ka:Kp w wa:=Kp.trans (((Kp.refl w).alloc _).alloc _) ga;have x0:=kkeep ga (b:=w.heap.size) (o:=0) (v:=.bool true) (by simp [go_sem]);have x1:=kkeep ga (b:=w.heap.size) (o:=1) (v:=.slice p l c) (by simp [go_sem]);have x2:=kkeep ga (b:=w.heap.size) (o:=2) (v:=.slice q k d) (by simp [go_sem]);have x3:=kkeep ga (b:=w.heap.size+1) (o:=0) (v:=.bool s2) (by simp [go_sem]);have x4:=kkeep ga (b:=w.heap.size+1) (o:=1) (v:=.slice p2 l2 c2) (by simp [go_sem]);have x5:=kkeep ga (b:=w.heap.size+1) (o:=2) (v:=.slice q2 k2 d2) (by simp [go_sem])) | (go_at_call_of 133 (Value.slice p2 l2 c2);refine (hs2 _ ?q0).mono ?_;(case q0=>exact ka);rintro e wb ⟨rfl,gb⟩;have kb:Kp w wb:=Kp.trans ka gb;have y0:=kkeep gb x0;have y1:=kkeep gb x1;have y2:=kkeep gb x2;have y3:=kkeep gb x3;have y4:=kkeep gb x4;have y5:=kkeep gb x5))
  have dd0:True:=trivial
  have dw0:wb.drew.cell? ⟨w.heap.size,0,none⟩=some (.bool true):=y0
  have dw1:wb.drew.cell? ⟨w.heap.size,1,none⟩=some (.slice p l c):=y1
  have dw2:wb.drew.cell? ⟨w.heap.size,2,none⟩=some (.slice q k d):=y2
  have dw3:wb.drew.cell? ⟨w.heap.size+1,0,none⟩=some (.bool s2):=y3
  have dw4:wb.drew.cell? ⟨w.heap.size+1,1,none⟩=some (.slice p2 l2 c2):=y4
  have dw5:wb.drew.cell? ⟨w.heap.size+1,2,none⟩=some (.slice q2 k2 d2):=y5
  go_region_held3 (fun w'=>w'.cell? ⟨w.heap.size,0,none⟩=some (.bool true)∧w'.cell? ⟨w.heap.size,1,none⟩=some (.slice p l c)∧w'.cell? ⟨w.heap.size,2,none⟩=some (.slice q k d)∧w'.cell? ⟨w.heap.size+1,0,none⟩=some (.bool s2)∧w'.cell? ⟨w.heap.size+1,1,none⟩=some (.slice p2 l2 c2)∧w'.cell? ⟨w.heap.size+1,2,none⟩=some (.slice q2 k2 d2)) (first | (with_reducible exact ⟨dw0,dw1,dw2,dw3,dw4,dw5⟩) | (with_reducible exact ⟨y0,y1,y2,y3,y4,y5⟩) | (with_reducible exact ⟨a0,a1,a2,a3,a4,a5⟩) | (with_reducible exact ⟨b0,b1,b2,b3,b4,b5⟩) | (with_reducible exact ⟨e0,e1,e2,e3,e4,e5⟩)) (first | (go_at_call_of 135 (Value.slice p l c);refine (hT1 _ ?q0).mono ?_;(case q0=>exact kb.drew);rintro e wc ⟨u9,rfl,hu,gc⟩;have kc:Kp w wc:=Kp.trans kb.drew gc;have a0:=kkeep (Kp.trans (Kp.drew (Kp.refl _)) gc) y0;have a1:=kkeep (Kp.trans (Kp.drew (Kp.refl _)) gc) y1;have a2:=kkeep (Kp.trans (Kp.drew (Kp.refl _)) gc) y2;have a3:=kkeep (Kp.trans (Kp.drew (Kp.refl _)) gc) y3;have a4:=kkeep (Kp.trans (Kp.drew (Kp.refl _)) gc) y4;have a5:=kkeep (Kp.trans (Kp.drew (Kp.refl _)) gc) y5) | (go_at_call_of 135 (Value.slice p2 l2 c2);refine (hT2 _ ?q0).mono ?_;(case q0=>exact kc);rintro e wd ⟨v9,rfl,hv,gd⟩;have kd:Kp w wd:=Kp.trans kc gd;have hu2:=hk1 _ _ _ gd hu;have b0:=kkeep gd a0;have b1:=kkeep gd a1;have b2:=kkeep gd a2;have b3:=kkeep gd a3;have b4:=kkeep gd a4;have b5:=kkeep gd a5) | (go_at_call 134;refine (hC _ u9 v9 kd hu2 hv).mono ?_;rintro e we ⟨rfl,ge⟩;have ke:Kp w we:=Kp.trans kd ge;have e0:=kkeep ge b0;have e1:=kkeep ge b1;have e2:=kkeep ge b2;have e3:=kkeep ge b3;have e4:=kkeep ge b4;have e5:=kkeep ge b5))
  go_wp2
  exact BR (v:=.int .i64 0) (by simp [results,Tryz.results77,go_sem]) rfl ⟨rfl,ke⟩
theorem rcmpP_ (S C9:Int) (P1 P2:World→Value→Prop) (p:Option Addr) (l c:Nat) (q:Option Addr) (k d:Nat) s2 p2 l2 c2 q2 k2 d2 (w:World) (hk1:∀ (W W':World) (v:Value),Kp W W'→P1 W v→P1 W' v) (hs1:∀ W:World,Kp w W→Calls Tryz.prog 133 #[.agg #[.bool false,.slice p l c,.slice q k d]] W fun e w'=>e=.returned (.int .i64 S)∧Kp W w') (hs2:∀ W:World,Kp w W→Calls Tryz.prog 133 #[.agg #[.bool s2,.slice p2 l2 c2,.slice q2 k2 d2]] W fun e w'=>e=.returned (.int .i64 S)∧Kp W w') (hT1:∀ W:World,Kp w W→Calls Tryz.prog 135 #[.slice p l c,.slice q2 k2 d2] W fun e w'=>∃ v,e=.returned v∧P1 w' v∧Kp W w') (hT2:∀ W:World,Kp w W→Calls Tryz.prog 135 #[.slice p2 l2 c2,.slice q k d] W fun e w'=>∃ v,e=.returned v∧P2 w' v∧Kp W w') (hC:∀ (W:World) (u v:Value),Kp w W→P1 W u→P2 W v→Calls Tryz.prog 134 #[u,v] W fun e w'=>e=.returned (.int .i64 C9)∧Kp W w') (t3:(S == 0)=false):Calls Tryz.prog 77 #[.agg #[.bool false,.slice p l c,.slice q k d],.agg #[.bool s2,.slice p2 l2 c2,.slice q2 k2 d2]] w fun e w'=>e=.returned (.int .i64 C9)∧Kp w w':=by
 go_enter Tryz.func77,Tryz.ntmps77
 go_wp2_with (first | (go_at_call_of 133 (Value.slice p l c);refine (hs1 _ ?q0).mono ?_;(case q0=>exact ((Kp.refl w).alloc _).alloc _);rintro e wa ⟨rfl,ga⟩;have ka:Kp w wa:=Kp.trans (((Kp.refl w).alloc _).alloc _) ga;have x0:=kkeep ga (b:=w.heap.size) (o:=0) (v:=.bool false) (by simp [go_sem]);have x1:=kkeep ga (b:=w.heap.size) (o:=1) (v:=.slice p l c) (by simp [go_sem]);have x2:=kkeep ga (b:=w.heap.size) (o:=2) (v:=.slice q k d) (by simp [go_sem]);have x3:=kkeep ga (b:=w.heap.size+1) (o:=0) (v:=.bool s2) (by simp [go_sem]);have x4:=kkeep ga (b:=w.heap.size+1) (o:=1) (v:=.slice p2 l2 c2) (by simp [go_sem]);have x5:=kkeep ga (b:=w.heap.size+1) (o:=2) (v:=.slice q2 k2 d2) (by simp [go_sem])) | (go_at_call_of 133 (Value.slice p2 l2 c2);refine (hs2 _ ?q0).mono ?_;(case q0=>exact ka);rintro e wb ⟨rfl,gb⟩;have kb:Kp w wb:=Kp.trans ka gb;have y0:=kkeep gb x0;have y1:=kkeep gb x1;have y2:=kkeep gb x2;have y3:=kkeep gb x3;have y4:=kkeep gb x4;have y5:=kkeep gb x5))
 have dd0:True:=trivial
 have dw0:wb.drew.cell? ⟨w.heap.size,0,none⟩=some (.bool false):=y0
 have dw1:wb.drew.cell? ⟨w.heap.size,1,none⟩=some (.slice p l c):=y1
 have dw2:wb.drew.cell? ⟨w.heap.size,2,none⟩=some (.slice q k d):=y2
 have dw3:wb.drew.cell? ⟨w.heap.size+1,0,none⟩=some (.bool s2):=y3
 have dw4:wb.drew.cell? ⟨w.heap.size+1,1,none⟩=some (.slice p2 l2 c2):=y4
 have dw5:wb.drew.cell? ⟨w.heap.size+1,2,none⟩=some (.slice q2 k2 d2):=y5
 go_region_held3 (fun w'=>w'.cell? ⟨w.heap.size,0,none⟩=some (.bool false)∧w'.cell? ⟨w.heap.size,1,none⟩=some (.slice p l c)∧w'.cell? ⟨w.heap.size,2,none⟩=some (.slice q k d)∧w'.cell? ⟨w.heap.size+1,0,none⟩=some (.bool s2)∧w'.cell? ⟨w.heap.size+1,1,none⟩=some (.slice p2 l2 c2)∧w'.cell? ⟨w.heap.size+1,2,none⟩=some (.slice q2 k2 d2)) (first | (with_reducible exact ⟨dw0,dw1,dw2,dw3,dw4,dw5⟩) | (with_reducible exact ⟨y0,y1,y2,y3,y4,y5⟩) | (with_reducible exact ⟨a0,a1,a2,a3,a4,a5⟩) | (with_reducible exact ⟨b0,b1,b2,b3,b4,b5⟩) | (with_reducible exact ⟨e0,e1,e2,e3,e4,e5⟩)) (first | (go_at_call_of 135 (Value.slice p l c);refine (hT1 _ ?q0).mono ?_;(case q0=>exact kb.drew);rintro e wc ⟨u9,rfl,hu,gc⟩;have kc:Kp w wc:=Kp.trans kb.drew gc;have a0:=kkeep (Kp.trans (Kp.drew (Kp.refl _)) gc) y0;have a1:=kkeep (Kp.trans (Kp.drew (Kp.refl _)) gc) y1;have a2:=kkeep (Kp.trans (Kp.drew (Kp.refl _)) gc) y2;have a3:=kkeep (Kp.trans (Kp.drew (Kp.refl _)) gc) y3;have a4:=kkeep (Kp.trans (Kp.drew (Kp.refl _)) gc) y4;have a5:=kkeep (Kp.trans (Kp.drew (Kp.refl _)) gc) y5) | (go_at_call_of 135 (Value.slice p2 l2 c2);refine (hT2 _ ?q0).mono ?_;(case q0=>exact kc);rintro e wd ⟨v9,rfl,hv,gd⟩;have kd:Kp w wd:=Kp.trans kc gd;have hu2:=hk1 _ _ _ gd hu;have b0:=kkeep gd a0;have b1:=kkeep gd a1;have b2:=kkeep gd a2;have b3:=kkeep gd a3;have b4:=kkeep gd a4;have b5:=kkeep gd a5) | (go_at_call 134;refine (hC _ u9 v9 kd hu2 hv).mono ?_;rintro e we ⟨rfl,ge⟩;have ke:Kp w we:=Kp.trans kd ge;have e0:=kkeep ge b0;have e1:=kkeep ge b1;have e2:=kkeep ge b2;have e3:=kkeep ge b3;have e4:=kkeep ge b4;have e5:=kkeep ge b5))
 go_wp2
 exact BR (v:=.int .i64 C9) (by simp [results,Tryz.results77,go_sem]) rfl ⟨rfl,ke⟩
theorem rcmpN_ (S C9:Int) (P1 P2:World→Value→Prop) (p:Option Addr) (l c:Nat) (q:Option Addr) (k d:Nat) s2 p2 l2 c2 q2 k2 d2 (w:World) (hk1:∀ (W W':World) (v:Value),Kp W W'→P1 W v→P1 W' v) (hs1:∀ W:World,Kp w W→Calls Tryz.prog 133 #[.agg #[.bool true,.slice p l c,.slice q k d]] W fun e w'=>e=.returned (.int .i64 S)∧Kp W w') (hs2:∀ W:World,Kp w W→Calls Tryz.prog 133 #[.agg #[.bool s2,.slice p2 l2 c2,.slice q2 k2 d2]] W fun e w'=>e=.returned (.int .i64 S)∧Kp W w') (hT1:∀ W:World,Kp w W→Calls Tryz.prog 135 #[.slice p l c,.slice q2 k2 d2] W fun e w'=>∃ v,e=.returned v∧P1 w' v∧Kp W w') (hT2:∀ W:World,Kp w W→Calls Tryz.prog 135 #[.slice p2 l2 c2,.slice q k d] W fun e w'=>∃ v,e=.returned v∧P2 w' v∧Kp W w') (hC:∀ (W:World) (u v:Value),Kp w W→P1 W u→P2 W v→Calls Tryz.prog 134 #[u,v] W fun e w'=>e=.returned (.int .i64 C9)∧Kp W w') (t3:(S == 0)=false) (t4:IntKind.i64.wrap (-C9) = -C9):Calls Tryz.prog 77 #[.agg #[.bool true,.slice p l c,.slice q k d],.agg #[.bool s2,.slice p2 l2 c2,.slice q2 k2 d2]] w fun e w'=>e=.returned (.int .i64 (-C9))∧Kp w w':=by
 go_enter Tryz.func77,Tryz.ntmps77
 go_wp2_with (first | (go_at_call_of 133 (Value.slice p l c);refine (hs1 _ ?q0).mono ?_;(case q0=>exact ((Kp.refl w).alloc _).alloc _);rintro e wa ⟨rfl,ga⟩;have ka:Kp w wa:=Kp.trans (((Kp.refl w).alloc _).alloc _) ga;have x0:=kkeep ga (b:=w.heap.size) (o:=0) (v:=.bool true) (by simp [go_sem]);have x1:=kkeep ga (b:=w.heap.size) (o:=1) (v:=.slice p l c) (by simp [go_sem]);have x2:=kkeep ga (b:=w.heap.size) (o:=2) (v:=.slice q k d) (by simp [go_sem]);have x3:=kkeep ga (b:=w.heap.size+1) (o:=0) (v:=.bool s2) (by simp [go_sem]);have x4:=kkeep ga (b:=w.heap.size+1) (o:=1) (v:=.slice p2 l2 c2) (by simp [go_sem]);have x5:=kkeep ga (b:=w.heap.size+1) (o:=2) (v:=.slice q2 k2 d2) (by simp [go_sem])) | (go_at_call_of 133 (Value.slice p2 l2 c2);refine (hs2 _ ?q0).mono ?_;(case q0=>exact ka);rintro e wb ⟨rfl,gb⟩;have kb:Kp w wb:=Kp.trans ka gb;have y0:=kkeep gb x0;have y1:=kkeep gb x1;have y2:=kkeep gb x2;have y3:=kkeep gb x3;have y4:=kkeep gb x4;have y5:=kkeep gb x5))
 have dd0:True:=trivial
 have dw0:wb.drew.cell? ⟨w.heap.size,0,none⟩=some (.bool true):=y0
 have dw1:wb.drew.cell? ⟨w.heap.size,1,none⟩=some (.slice p l c):=y1
 have dw2:wb.drew.cell? ⟨w.heap.size,2,none⟩=some (.slice q k d):=y2
 have dw3:wb.drew.cell? ⟨w.heap.size+1,0,none⟩=some (.bool s2):=y3
 have dw4:wb.drew.cell? ⟨w.heap.size+1,1,none⟩=some (.slice p2 l2 c2):=y4
 have dw5:wb.drew.cell? ⟨w.heap.size+1,2,none⟩=some (.slice q2 k2 d2):=y5
 go_region_held3 (fun w'=>w'.cell? ⟨w.heap.size,0,none⟩=some (.bool true)∧w'.cell? ⟨w.heap.size,1,none⟩=some (.slice p l c)∧w'.cell? ⟨w.heap.size,2,none⟩=some (.slice q k d)∧w'.cell? ⟨w.heap.size+1,0,none⟩=some (.bool s2)∧w'.cell? ⟨w.heap.size+1,1,none⟩=some (.slice p2 l2 c2)∧w'.cell? ⟨w.heap.size+1,2,none⟩=some (.slice q2 k2 d2)) (first | (with_reducible exact ⟨dw0,dw1,dw2,dw3,dw4,dw5⟩) | (with_reducible exact ⟨y0,y1,y2,y3,y4,y5⟩) | (with_reducible exact ⟨a0,a1,a2,a3,a4,a5⟩) | (with_reducible exact ⟨b0,b1,b2,b3,b4,b5⟩) | (with_reducible exact ⟨e0,e1,e2,e3,e4,e5⟩)) (first | (go_at_call_of 135 (Value.slice p l c);refine (hT1 _ ?q0).mono ?_;(case q0=>exact kb.drew);rintro e wc ⟨u9,rfl,hu,gc⟩;have kc:Kp w wc:=Kp.trans kb.drew gc;have a0:=kkeep (Kp.trans (Kp.drew (Kp.refl _)) gc) y0;have a1:=kkeep (Kp.trans (Kp.drew (Kp.refl _)) gc) y1;have a2:=kkeep (Kp.trans (Kp.drew (Kp.refl _)) gc) y2;have a3:=kkeep (Kp.trans (Kp.drew (Kp.refl _)) gc) y3;have a4:=kkeep (Kp.trans (Kp.drew (Kp.refl _)) gc) y4;have a5:=kkeep (Kp.trans (Kp.drew (Kp.refl _)) gc) y5) | (go_at_call_of 135 (Value.slice p2 l2 c2);refine (hT2 _ ?q0).mono ?_;(case q0=>exact kc);rintro e wd ⟨v9,rfl,hv,gd⟩;have kd:Kp w wd:=Kp.trans kc gd;have hu2:=hk1 _ _ _ gd hu;have b0:=kkeep gd a0;have b1:=kkeep gd a1;have b2:=kkeep gd a2;have b3:=kkeep gd a3;have b4:=kkeep gd a4;have b5:=kkeep gd a5) | (go_at_call 134;refine (hC _ u9 v9 kd hu2 hv).mono ?_;rintro e we ⟨rfl,ge⟩;have ke:Kp w we:=Kp.trans kd ge;have e0:=kkeep ge b0;have e1:=kkeep ge b1;have e2:=kkeep ge b2;have e3:=kkeep ge b3;have e4:=kkeep ge b4;have e5:=kkeep ge b5))
 go_wp2
 exact BR (v:=.int .i64 (-C9)) (by simp [results,Tryz.results77,go_sem]) rfl ⟨rfl,ke⟩
end Go.Proofs.YtmpjcknaelgnoaaGreatDoor
