import Derived.Test.YtmpjcknaelgnoaaGreatDoorKMEs
import Derived.Test.YtmpjcknaelgnoaaGreatDoorKRT
set_option maxHeartbeats 1000000
set_option maxRecDepth 20000
namespace Go.Proofs.YtmpjcknaelgnoaaGreatDoor
open Go.RowKit
theorem endL_ (i j:Int) s p l c q k d s2 p2 l2 c2 q2 k2 d2 (t1:(i != j)=true) (t2:i<j) (w:World):Calls Tryz.prog 73 #[.agg #[.int .i64 i,.bool s,.slice p l c,.slice q k d],.agg #[.int .i64 j,.bool s2,.slice p2 l2 c2,.slice q2 k2 d2]] w fun e w'=>e=.returned (.int .i64 (-1))∧Kp w w':=by
 go_enter Tryz.func73,Tryz.ntmps73
 go_wp2
 exact BR (v:=.int .i64 (-1)) (by simp [results,Tryz.results73,go_sem]) rfl ⟨rfl,(by repeat (with_reducible (first | assumption | exact Kp.refl _ | apply Kp.drew | apply Kp.alloc | apply Kp.drewN | (refine Kp.setCell ?_ (by first | omega | (simp <;> omega)) _) | (refine Kp.trans ?_ (by assumption)))))⟩
theorem endG_ (i j:Int) s p l c q k d s2 p2 l2 c2 q2 k2 d2 (t1:(i != j)=true) (t2:¬ (i<j)) (w:World):Calls Tryz.prog 73 #[.agg #[.int .i64 i,.bool s,.slice p l c,.slice q k d],.agg #[.int .i64 j,.bool s2,.slice p2 l2 c2,.slice q2 k2 d2]] w fun e w'=>e=.returned (.int .i64 1)∧Kp w w':=by
 go_enter Tryz.func73,Tryz.ntmps73
 go_wp2
 exact BR (v:=.int .i64 1) (by simp [results,Tryz.results73,go_sem]) rfl ⟨rfl,(by repeat (with_reducible (first | assumption | exact Kp.refl _ | apply Kp.drew | apply Kp.alloc | apply Kp.drewN | (refine Kp.setCell ?_ (by first | omega | (simp <;> omega)) _) | (refine Kp.trans ?_ (by assumption)))))⟩
theorem endE_ (i:Int) s p l c q k d s2 p2 l2 c2 q2 k2 d2 (t1:(i != 0)=true) (w:World):Calls Tryz.prog 73 #[.agg #[.int .i64 i,.bool s,.slice p l c,.slice q k d],.agg #[.int .i64 i,.bool s2,.slice p2 l2 c2,.slice q2 k2 d2]] w fun e w'=>e=.returned (.int .i64 0)∧Kp w w':=by
 go_enter Tryz.func73,Tryz.ntmps73
 go_wp2
 exact BR (v:=.int .i64 0) (by simp [results,Tryz.results73,go_sem]) rfl ⟨rfl,(by repeat (with_reducible (first | assumption | exact Kp.refl _ | apply Kp.drew | apply Kp.alloc | apply Kp.drewN | (refine Kp.setCell ?_ (by first | omega | (simp <;> omega)) _) | (refine Kp.trans ?_ (by assumption)))))⟩
theorem endZ_ (X:Int) s p l c q k d s2 p2 l2 c2 q2 k2 d2 (w:World) (hs:∀ W:World,Kp w W→Calls Tryz.prog 77 #[.agg #[.bool s,.slice p l c,.slice q k d],.agg #[.bool s2,.slice p2 l2 c2,.slice q2 k2 d2]] W fun e w'=>e=.returned (.int .i64 X)∧Kp W w'):Calls Tryz.prog 73 #[.agg #[.int .i64 0,.bool s,.slice p l c,.slice q k d],.agg #[.int .i64 0,.bool s2,.slice p2 l2 c2,.slice q2 k2 d2]] w fun e w'=>e=.returned (.int .i64 X)∧Kp w w':=by
 go_enter Tryz.func73,Tryz.ntmps73
 go_wp2_with (first | (go_at_call 77;refine (hs _ ?q0).mono ?_;(case q0=>exact ((Kp.refl w).alloc _).alloc _);rintro e w1 ⟨rfl,g1⟩;have k1:Kp w w1:=Kp.trans (((Kp.refl w).alloc _).alloc _) g1))
 exact BR (v:=.int .i64 X) (by simp [results,Tryz.results73,go_sem]) rfl ⟨rfl,k1⟩
theorem lesserB_ (i j X:Int) s p l c q k d s2 p2 l2 c2 q2 k2 d2 (t1:X<0) (w:World) (hs:∀ W:World,Kp w W→Calls Tryz.prog 73 #[.agg #[.int .i64 j,.bool s2,.slice p2 l2 c2,.slice q2 k2 d2],.agg #[.int .i64 i,.bool s,.slice p l c,.slice q k d]] W fun e w'=>e=.returned (.int .i64 X)∧Kp W w'):Calls Tryz.prog 122 #[.agg #[.int .i64 i,.bool s,.slice p l c,.slice q k d],.agg #[.int .i64 j,.bool s2,.slice p2 l2 c2,.slice q2 k2 d2]] w fun e w'=>e=.returned (.agg #[.int .i64 j,.bool s2,.slice p2 l2 c2,.slice q2 k2 d2])∧Kp w w':=by
 go_enter Tryz.func122,Tryz.ntmps122
 go_wp2_with (first | (go_at_call 73;refine (hs _ ?q0).mono ?_;(case q0=>exact (((Kp.refl w).alloc _).alloc _).alloc _);rintro e w1 ⟨rfl,g1⟩;have k1:Kp w w1:=Kp.trans ((((Kp.refl w).alloc _).alloc _).alloc _) g1;obtain ⟨x0,xz0,x1,xz1,x2,xz2,x3,xz3⟩:=FK4 g1 (w.heap.size) (.int .i64 i) (.bool s) (.slice p l c) (.slice q k d) (by simp [go_sem]);obtain ⟨y0,yz0,y1,yz1,y2,yz2,y3,yz3⟩:=FK4 g1 (w.heap.size+1) (.int .i64 j) (.bool s2) (.slice p2 l2 c2) (.slice q2 k2 d2) (by simp [go_sem]);obtain ⟨r0,rz0,r1,rz1,r2,rz2,r3,rz3⟩:=FK4 g1 (w.heap.size+2) (.int .i64 0) (.bool false) (.slice none 0 0) (.slice none 0 0) (by simp [go_sem])))
 exact BR (v:=.agg #[.int .i64 j,.bool s2,.slice p2 l2 c2,.slice q2 k2 d2]) (by simp [results,Tryz.results122,go_sem,r0,r1,r2,r3]) rfl ⟨rfl,KS4 (k1) (by first | omega | (simp <;> omega))⟩
theorem lesserA_ (i j X:Int) s p l c q k d s2 p2 l2 c2 q2 k2 d2 (t1:¬ (X<0)) (w:World) (hs:∀ W:World,Kp w W→Calls Tryz.prog 73 #[.agg #[.int .i64 j,.bool s2,.slice p2 l2 c2,.slice q2 k2 d2],.agg #[.int .i64 i,.bool s,.slice p l c,.slice q k d]] W fun e w'=>e=.returned (.int .i64 X)∧Kp W w'):Calls Tryz.prog 122 #[.agg #[.int .i64 i,.bool s,.slice p l c,.slice q k d],.agg #[.int .i64 j,.bool s2,.slice p2 l2 c2,.slice q2 k2 d2]] w fun e w'=>e=.returned (.agg #[.int .i64 i,.bool s,.slice p l c,.slice q k d])∧Kp w w':=by
 go_enter Tryz.func122,Tryz.ntmps122
 go_wp2_with (first | (go_at_call 73;refine (hs _ ?q0).mono ?_;(case q0=>exact (((Kp.refl w).alloc _).alloc _).alloc _);rintro e w1 ⟨rfl,g1⟩;have k1:Kp w w1:=Kp.trans ((((Kp.refl w).alloc _).alloc _).alloc _) g1;obtain ⟨x0,xz0,x1,xz1,x2,xz2,x3,xz3⟩:=FK4 g1 (w.heap.size) (.int .i64 i) (.bool s) (.slice p l c) (.slice q k d) (by simp [go_sem]);obtain ⟨y0,yz0,y1,yz1,y2,yz2,y3,yz3⟩:=FK4 g1 (w.heap.size+1) (.int .i64 j) (.bool s2) (.slice p2 l2 c2) (.slice q2 k2 d2) (by simp [go_sem]);obtain ⟨r0,rz0,r1,rz1,r2,rz2,r3,rz3⟩:=FK4 g1 (w.heap.size+2) (.int .i64 0) (.bool false) (.slice none 0 0) (.slice none 0 0) (by simp [go_sem])))
 exact BR (v:=.agg #[.int .i64 i,.bool s,.slice p l c,.slice q k d]) (by simp [results,Tryz.results122,go_sem,r0,r1,r2,r3]) rfl ⟨rfl,KS4 (k1) (by first | omega | (simp <;> omega))⟩
theorem greaterB_ (i j X:Int) s p l c q k d s2 p2 l2 c2 q2 k2 d2 (t1:0<X) (w:World) (hs:∀ W:World,Kp w W→Calls Tryz.prog 73 #[.agg #[.int .i64 j,.bool s2,.slice p2 l2 c2,.slice q2 k2 d2],.agg #[.int .i64 i,.bool s,.slice p l c,.slice q k d]] W fun e w'=>e=.returned (.int .i64 X)∧Kp W w'):Calls Tryz.prog 123 #[.agg #[.int .i64 i,.bool s,.slice p l c,.slice q k d],.agg #[.int .i64 j,.bool s2,.slice p2 l2 c2,.slice q2 k2 d2]] w fun e w'=>e=.returned (.agg #[.int .i64 j,.bool s2,.slice p2 l2 c2,.slice q2 k2 d2])∧Kp w w':=by
 go_enter Tryz.func123,Tryz.ntmps123
 go_wp2_with (first | (go_at_call 73;refine (hs _ ?q0).mono ?_;(case q0=>exact (((Kp.refl w).alloc _).alloc _).alloc _);rintro e w1 ⟨rfl,g1⟩;have k1:Kp w w1:=Kp.trans ((((Kp.refl w).alloc _).alloc _).alloc _) g1;obtain ⟨x0,xz0,x1,xz1,x2,xz2,x3,xz3⟩:=FK4 g1 (w.heap.size) (.int .i64 i) (.bool s) (.slice p l c) (.slice q k d) (by simp [go_sem]);obtain ⟨y0,yz0,y1,yz1,y2,yz2,y3,yz3⟩:=FK4 g1 (w.heap.size+1) (.int .i64 j) (.bool s2) (.slice p2 l2 c2) (.slice q2 k2 d2) (by simp [go_sem]);obtain ⟨r0,rz0,r1,rz1,r2,rz2,r3,rz3⟩:=FK4 g1 (w.heap.size+2) (.int .i64 0) (.bool false) (.slice none 0 0) (.slice none 0 0) (by simp [go_sem])))
 exact BR (v:=.agg #[.int .i64 j,.bool s2,.slice p2 l2 c2,.slice q2 k2 d2]) (by simp [results,Tryz.results123,go_sem,r0,r1,r2,r3]) rfl ⟨rfl,KS4 (k1) (by first | omega | (simp <;> omega))⟩
theorem greaterA_ (i j X:Int) s p l c q k d s2 p2 l2 c2 q2 k2 d2 (t1:¬ (0<X)) (w:World) (hs:∀ W:World,Kp w W→Calls Tryz.prog 73 #[.agg #[.int .i64 j,.bool s2,.slice p2 l2 c2,.slice q2 k2 d2],.agg #[.int .i64 i,.bool s,.slice p l c,.slice q k d]] W fun e w'=>e=.returned (.int .i64 X)∧Kp W w'):Calls Tryz.prog 123 #[.agg #[.int .i64 i,.bool s,.slice p l c,.slice q k d],.agg #[.int .i64 j,.bool s2,.slice p2 l2 c2,.slice q2 k2 d2]] w fun e w'=>e=.returned (.agg #[.int .i64 i,.bool s,.slice p l c,.slice q k d])∧Kp w w':=by
 go_enter Tryz.func123,Tryz.ntmps123
 go_wp2_with (first | (go_at_call 73;refine (hs _ ?q0).mono ?_;(case q0=>exact (((Kp.refl w).alloc _).alloc _).alloc _);rintro e w1 ⟨rfl,g1⟩;have k1:Kp w w1:=Kp.trans ((((Kp.refl w).alloc _).alloc _).alloc _) g1;obtain ⟨x0,xz0,x1,xz1,x2,xz2,x3,xz3⟩:=FK4 g1 (w.heap.size) (.int .i64 i) (.bool s) (.slice p l c) (.slice q k d) (by simp [go_sem]);obtain ⟨y0,yz0,y1,yz1,y2,yz2,y3,yz3⟩:=FK4 g1 (w.heap.size+1) (.int .i64 j) (.bool s2) (.slice p2 l2 c2) (.slice q2 k2 d2) (by simp [go_sem]);obtain ⟨r0,rz0,r1,rz1,r2,rz2,r3,rz3⟩:=FK4 g1 (w.heap.size+2) (.int .i64 0) (.bool false) (.slice none 0 0) (.slice none 0 0) (by simp [go_sem])))
 exact BR (v:=.agg #[.int .i64 i,.bool s,.slice p l c,.slice q k d]) (by simp [results,Tryz.results123,go_sem,r0,r1,r2,r3]) rfl ⟨rfl,KS4 (k1) (by first | omega | (simp <;> omega))⟩

def RF (s:Bool) (a b:Nat) (n:Bool) (m:Nat):Prop:=∀ K:Nat,K=1074→b≠0∧a*2 ^ K=Fq.vV Ieee.double m*b∧Iv n m=(if s then -((Fq.vV Ieee.double m:Nat):Int) else ((Fq.vV Ieee.double m:Nat):Int))∧blen a≤1500∧blen b≤1500
def RP (base:Nat) (w:World) (s:Bool) (p:Option Addr) (l c:Nat) (q:Option Addr) (k d:Nat) (n:Bool) (m:Nat):Prop:=∃ a b,Own w base (.slice p l c) (dig a)∧Own w base (.slice q k d) (dig b)∧RF s a b n m
theorem RP.kp {base:Nat} {w w':World} {s:Bool} {p:Option Addr} {l c:Nat} {q:Option Addr} {k d:Nat} {n:Bool} {m:Nat} (h:RP base w s p l c q k d n m) (g:Kp w w'):RP base w' s p l c q k d n m:=by
 obtain ⟨a,b,h1,h2,h3⟩:=h
 exact ⟨a,b,h1.kp g,h2.kp g,h3⟩
theorem RP.mono {base base':Nat} {w:World} {s:Bool} {p:Option Addr} {l c:Nat} {q:Option Addr} {k d:Nat} {n:Bool} {m:Nat} (h:RP base w s p l c q k d n m) (g:base'≤base):RP base' w s p l c q k d n m:=by
 obtain ⟨a,b,h1,h2,h3⟩:=h
 exact ⟨a,b,h1.mono g,h2.mono g,h3⟩
theorem RP.set {base:Nat} {w:World} {s:Bool} {p:Option Addr} {l c:Nat} {q:Option Addr} {k d:Nat} {n:Bool} {m:Nat} (h:RP base w s p l c q k d n m) {x:Addr} (hx:x.block<base) (u:Value):RP base (w.setCell x u) s p l c q k d n m:=by
 obtain ⟨a,b,h1,h2,h3⟩:=h
 exact ⟨a,b,h1.setOther hx u,h2.setOther hx u,h3⟩
theorem fromR_ (n:Bool) (m:Nat) (hm:m<9218868437227405312) (w:World):Calls Tryz.prog 152 #[.int .u64 ((Fq.wD n m:Nat):Int)] w fun e w'=>∃ s p l c q k d,e=.returned (.agg #[.bool s,.slice p l c,.slice q k d])∧RP w.heap.size w' s p l c q k d n m∧Kp w w':=by
 have h:=fromBits_ n m hm w
 refine Calls.mono (show Calls Tryz.prog 152 #[.int .u64 ((Fq.wD n m:Nat):Int)] w _ from h) ?_
 rintro e w' ⟨vn,vd,a,b,s,rfl,o1,o2,⟨hF,hs⟩,g⟩
 obtain ⟨p,c,rfl,-,-⟩:=o1.arr
 obtain ⟨q,d,rfl,-,-⟩:=o2.arr
 obtain ⟨v1,v2,v3,v4,v5⟩:=Fq.vlsgD m hm
 have hF':FracOf (Fq.sgD m) 1 (Fq.epD m) a b:=hF
 have hs':Fq.sgD m≠0→s=n:=hs
 have hval:Fq.vV Ieee.double m=Fq.sgD m*2 ^ (Fq.epD m+1074).toNat:=v1.symm
 refine ⟨s,p,_,c,q,_,d,rfl,⟨a,b,o1,o2,fun K hK=>⟨hF'.1, ?_, ?_, ?_, ?_⟩⟩,g⟩
 ·by_cases c0:Fq.sgD m=0
  ·rw [hval,c0,hF'.2.1.2 c0];simp
  ·rw [hval]
   exact frac_exact (Fq.sgD m) (Fq.epD m) a b K (Fq.epD m+1074).toNat hF' c0 (by omega)
 ·unfold Iv
  by_cases c0:Fq.sgD m=0
  ·have:Fq.vV Ieee.double m=0:=by rw [hval,c0];simp
   rw [this];cases n <;> cases s <;> simp
  ·rw [hs' c0]
 ·have h1:=hF'.2.2.2.1
  have h2:blen (Fq.sgD m)≤53:=by rw [blen_le_iff,show (2:Nat) ^ 53=9007199254740992 from by decide];exact v2
  omega
 ·have h1:=hF'.2.2.2.2
  have h2:blen 1=1:=blen_uniq 1 0 (by decide) (by decide)
  omega
theorem dig_zero6:dig 0=[]:=by decide +kernel
theorem dig_one6:dig 1=[1]:=by decide +kernel
theorem int0_ (w:World):Calls Tryz.prog 118 #[.int .i64 0] w fun e w'=>∃ s p l c q k d,e=.returned (.agg #[.bool s,.slice p l c,.slice q k d])∧RP w.heap.size w' s p l c q k d false 0∧Kp w w':=by
 obtain ⟨B,hB⟩:∃ B,B=w.heap.size:=⟨_,rfl⟩
 obtain ⟨w0,hw0⟩:∃ w0,w0=w.alloc (.cells #[.bool false,.slice none 0 0,.slice none 0 0] 57):=⟨_,rfl⟩
 have kw:Kp w w0:=by rw [hw0];exact (Kp.refl w).alloc _
 obtain ⟨r0,r1,r2,f0,f1,f2⟩:w0.cell? ⟨B,0,none⟩=some (.bool false)∧w0.cell? ⟨B,1,none⟩=some (.slice none 0 0)∧w0.cell? ⟨B,2,none⟩=some (.slice none 0 0)∧w0.frozen? ⟨B,0,none⟩=false∧w0.frozen? ⟨B,1,none⟩=false∧w0.frozen? ⟨B,2,none⟩=false:=by rw [hw0,hB];simp [go_sem]
 have hlt:=cell_lt r0
 have hs:=rsmall_ 0 (by decide) w0
 have HW:Hid (w0=w.alloc (.cells #[.bool false,.slice none 0 0,.slice none 0 0] 57)∧B=w.heap.size∧Kp w w0):=⟨hw0,hB,kw⟩
 clear hw0 hB kw
 go_enter Tryz.func118,Tryz.ntmps118
 go_wp2_with fail
 rw [← HW.out.2.1]
 try rw [← HW.out.1]
 refine hs.mono ?_;rintro e w1 ⟨v,rfl,ho,k1⟩
 obtain ⟨pv,cv,rfl,hav,hcv⟩:=ho.arr
 obtain ⟨L,hL⟩:∃ L,L=(dig 0).length:=⟨_,rfl⟩
 rw [← hL]
 obtain ⟨g4,hg4⟩:∃ g4,g4=w1.heap.size:=⟨_,rfl⟩
 obtain ⟨w4,hw4⟩:∃ w4,w4=w1.alloc (.cells #[.int .u32 1] 120):=⟨_,rfl⟩
 have k4:Kp w1 w4:=by rw [hw4];exact (Kp.refl _).alloc _
 have ar4:Arr w4 (some ⟨g4,0,none⟩) (dig 1):=by
  have h:=(row1 w1 1).all rfl
  rw [← hw4,← hg4] at h
  rw [dig_one6]
  exact h
 have h:=frac_ false (.slice pv (dig 0).length cv) (.slice (some ⟨g4,0,none⟩) (dig 1).length 1) (dig 0) (dig 1) 0 w4 ⟨pv,cv,rfl,hav.grown k4,hcv⟩ ⟨some ⟨g4,0,none⟩,1,rfl,ar4,by rw [dig_one6];decide⟩ (Wd_dig _) (Wd_dig _) (by rw [dig_zero6];decide) (by rw [dig_one6];decide) (by rw [val_dig];decide) (by decide)
 rw [val_dig,val_dig] at h
 rw [show (dig 1).length=1 from by rw [dig_one6];rfl] at h
 rw [← hL] at h
 have k04:=k1.trans k4
 have HG:Hid (g4=w1.heap.size∧w4=w1.alloc (.cells #[.int .u32 1] 120)):=⟨hg4,hw4⟩
 replace r0:=kkeep k04 r0
 replace r1:=kkeep k04 r1
 replace r2:=kkeep k04 r2
 replace f0:=(kfro k04 hlt).trans f0
 replace f1:=(kfro k04 hlt).trans f1
 replace f2:=(kfro k04 hlt).trans f2
 have HK:Hid (Kp w0 w4∧B<w0.heap.size):=⟨k04,hlt⟩
 have hlt4:=cell_lt r0
 clear hs ho hav hcv hL hg4 hw4 k4 ar4 k1 k04 hlt
 go_wp2_with fail
 rw [← HG.out.1,← HG.out.2]
 refine h.mono ?_;rintro e w5 ⟨vn,vd,a',b',ng,rfl,o1,o2,ff,k5⟩
 obtain ⟨pn,cn,rfl,an,ln⟩:=o1.arr
 obtain ⟨pd,cd,rfl,ad,ld⟩:=o2.arr
 replace r0:=kkeep k5 r0
 replace r1:=kkeep k5 r1
 replace r2:=kkeep k5 r2
 replace f0:=(kfro k5 hlt4).trans f0
 replace f1:=(kfro k5 hlt4).trans f1
 replace f2:=(kfro k5 hlt4).trans f2
 have hp:RP w4.heap.size w5 ng pn (dig a').length cn pd (dig b').length cd false 0:=by
  refine ⟨a',b',o1,o2,fun K hK=>⟨ff.1.1, ?_, ?_, ?_, ?_⟩⟩
  ·rw [ff.1.2.1.2 rfl,Fq.vV_zero];simp
  ·unfold Iv;rw [Fq.vV_zero];cases ng <;> rfl
  ·have:=ff.1.2.2.2.1;rw [ff.1.2.1.2 rfl];rw [blen_zero];omega
  ·have:=ff.1.2.2.2.2
   have h2:blen 1=1:=blen_uniq 1 0 (by decide) (by decide)
   simp at this;omega
 have hq:=(((hp.set (x:=⟨B,0,none⟩) hlt4 (.bool ng)).set (x:=⟨B,1,none⟩) hlt4 (.slice pn (dig a').length cn)).set (x:=⟨B,2,none⟩) hlt4 (.slice pd (dig b').length cd)).mono (base':=w.heap.size) (by have h1:=Below.size HW.out.2.2;have h2:=Below.size HK.out.1;omega)
 have hkw:Kp w (((w5.setCell ⟨B,0,none⟩ (.bool ng)).setCell ⟨B,1,none⟩ (.slice pn (dig a').length cn)).setCell ⟨B,2,none⟩ (.slice pd (dig b').length cd)):=by
  have hB:=HW.out.2.1
  exact ((((HW.out.2.2.trans HK.out.1).trans k5).setCell (by rw [hB];exact Nat.le_refl _) _).setCell (by rw [hB];exact Nat.le_refl _) _).setCell (by rw [hB];exact Nat.le_refl _) _
 generalize (dig a').length=La at hq hkw ⊢
 generalize (dig b').length=Lb at hq hkw ⊢
 have HO:Hid (_∧_):=⟨hq,hkw⟩
 clear h hp hq hkw o1 o2 ff k5 an ln ad ld hlt4 HG
 go_wp2
 exact BR (v:=.agg #[.bool ng,.slice pn La cn,.slice pd Lb cd]) (by simp [results,Tryz.results118,go_sem,r0,r1,r2]) rfl ⟨ng,pn,La,cn,pd,Lb,cd,rfl,HO.out.1,HO.out.2⟩
theorem boundI_ (w:World):Calls Tryz.prog 105 #[.int .u64 9218868437227405312] w fun e w'=>∃ s p l c q k d,e=.returned (.agg #[.int .i64 1,.bool s,.slice p l c,.slice q k d])∧RP w.heap.size w' s p l c q k d false 0∧Kp w w':=by
 go_enter Tryz.func105,Tryz.ntmps105
 go_wp2_with (first | (go_at_call 118;refine (int0_ _).mono ?_;rintro e w1 ⟨s,p,l,c,q,k,d,rfl,hp,g1⟩;obtain ⟨r0,rz0,r1,rz1,r2,rz2,r3,rz3⟩:=FK4 g1 (w.heap.size) (.int .i64 0) (.bool false) (.slice none 0 0) (.slice none 0 0) (by simp [go_sem])))
 exact BR (v:=.agg #[.int .i64 1,.bool s,.slice p l c,.slice q k d]) (by simp [results,Tryz.results105,go_sem,r0,r1,r2,r3]) rfl ⟨s,p,l,c,q,k,d,rfl,RP.mono (((((hp).set (x:=⟨w.heap.size,0,none⟩) (by simp) (.int .i64 1)).set (x:=⟨w.heap.size,1,none⟩) (by simp) (.bool s)).set (x:=⟨w.heap.size,2,none⟩) (by simp) (.slice p l c)).set (x:=⟨w.heap.size,3,none⟩) (by simp) (.slice q k d)) (by simp),KS4 ((Kp.trans ((Kp.refl w).alloc _) g1)) (Nat.le_refl _)⟩
theorem boundM_ (w:World):Calls Tryz.prog 105 #[.int .u64 18442240474082181120] w fun e w'=>∃ s p l c q k d,e=.returned (.agg #[.int .i64 (-1),.bool s,.slice p l c,.slice q k d])∧RP w.heap.size w' s p l c q k d false 0∧Kp w w':=by
 go_enter Tryz.func105,Tryz.ntmps105
 go_wp2_with (first | (go_at_call 118;refine (int0_ _).mono ?_;rintro e w1 ⟨s,p,l,c,q,k,d,rfl,hp,g1⟩;obtain ⟨r0,rz0,r1,rz1,r2,rz2,r3,rz3⟩:=FK4 g1 (w.heap.size) (.int .i64 0) (.bool false) (.slice none 0 0) (.slice none 0 0) (by simp [go_sem])))
 exact BR (v:=.agg #[.int .i64 (-1),.bool s,.slice p l c,.slice q k d]) (by simp [results,Tryz.results105,go_sem,r0,r1,r2,r3]) rfl ⟨s,p,l,c,q,k,d,rfl,RP.mono (((((hp).set (x:=⟨w.heap.size,0,none⟩) (by simp) (.int .i64 (-1))).set (x:=⟨w.heap.size,1,none⟩) (by simp) (.bool s)).set (x:=⟨w.heap.size,2,none⟩) (by simp) (.slice p l c)).set (x:=⟨w.heap.size,3,none⟩) (by simp) (.slice q k d)) (by simp),KS4 ((Kp.trans ((Kp.refl w).alloc _) g1)) (Nat.le_refl _)⟩
theorem boundF_ (n:Bool) (m:Nat) (hm:m<9218868437227405312) (ht:Fq.wD n m≠9223372036854775808) (w:World):Calls Tryz.prog 105 #[.int .u64 ((Fq.wD n m:Nat):Int)] w fun e w'=>∃ s p l c q k d,e=.returned (.agg #[.int .i64 0,.bool s,.slice p l c,.slice q k d])∧RP w.heap.size w' s p l c q k d n m∧Kp w w':=by
 have hf:=fromR_ n m hm
 have hq:=Fq.rplain6_ n m (by omega)
 rw [show Fq.pla (Fq.wD n m)=Fq.wD n m from by unfold Fq.pla;rw [if_neg ht]] at hq
 have t1:(((Fq.wD n m:Nat):Int) == 9218868437227405312)=false:=by
  have:Fq.wD n m≠9218868437227405312:=by unfold Fq.wD;cases n <;> simp <;> omega
  simp;omega
 have t2:(((Fq.wD n m:Nat):Int) == 18442240474082181120)=false:=by
  have:Fq.wD n m≠18442240474082181120:=by unfold Fq.wD;cases n <;> simp <;> omega
  simp;omega
 generalize ((Fq.wD n m:Nat):Int)=X at hf hq t1 t2 ⊢
 clear hm ht
 go_enter Tryz.func105,Tryz.ntmps105
 go_wp2_with (first | (go_at_call 149;refine (hq _).mono ?_;rintro e w' ⟨rfl,rfl⟩) | (go_at_call 152;refine (hf _).mono ?_;rintro e w1 ⟨s,p,l,c,q,k,d,rfl,hp,g1⟩;obtain ⟨r0,rz0,r1,rz1,r2,rz2,r3,rz3⟩:=FK4 g1 (w.heap.size) (.int .i64 0) (.bool false) (.slice none 0 0) (.slice none 0 0) (by simp [go_sem])))
 exact BR (v:=.agg #[.int .i64 0,.bool s,.slice p l c,.slice q k d]) (by simp [results,Tryz.results105,go_sem,r0,r1,r2,r3]) rfl ⟨s,p,l,c,q,k,d,rfl,RP.mono (((((hp).set (x:=⟨w.heap.size,0,none⟩) (by simp) (.int .i64 0)).set (x:=⟨w.heap.size,1,none⟩) (by simp) (.bool s)).set (x:=⟨w.heap.size,2,none⟩) (by simp) (.slice p l c)).set (x:=⟨w.heap.size,3,none⟩) (by simp) (.slice q k d)) (by simp),KS4 ((Kp.trans ((Kp.refl w).alloc _) g1)) (Nat.le_refl _)⟩
def infS (n:Bool) (m:Nat):Int:=if m=9218868437227405312 then (if n then -1 else 1) else 0
def fN (n:Bool) (m:Nat):Bool:=if m=9218868437227405312 then false else n
def fM (m:Nat):Nat:=if m=9218868437227405312 then 0 else m
theorem bound_ (n:Bool) (m:Nat) (hm:m≤9218868437227405312) (ht:Fq.wD n m≠9223372036854775808) (w:World):Calls Tryz.prog 105 #[.int .u64 ((Fq.wD n m:Nat):Int)] w fun e w'=>∃ s p l c q k d,e=.returned (.agg #[.int .i64 (infS n m),.bool s,.slice p l c,.slice q k d])∧RP w.heap.size w' s p l c q k d (fN n m) (fM m)∧Kp w w':=by
 unfold infS fN fM
 by_cases c:m=9218868437227405312
 ·rw [if_pos c,if_pos c,if_pos c,c]
  cases n
  ·exact boundI_ w
  ·exact boundM_ w
 ·rw [if_neg c,if_neg c,if_neg c]
  exact boundF_ n m (by omega) ht w

theorem RF.iv {s:Bool} {a b:Nat} {n:Bool} {m:Nat} (h:RF s a b n m) (K:Nat) (hK:K=1074):rvI s a*((2 ^ K:Nat):Int)=Iv n m*(b:Int):=by
 obtain ⟨h0,h1,h2,-,-⟩:=h K hK
 rw [h2]
 have h3:((a*2 ^ K:Nat):Int)=((Fq.vV Ieee.double m*b:Nat):Int):=by rw [h1]
 unfold rvI
 rw [Int.natCast_mul,Int.natCast_mul] at h3
 cases s
 ·simpa using h3
 ·simp only [if_true,Int.neg_mul];rw [h3]
theorem cmI_scale (x y k:Int) (hk:0<k):cmI (x*k) (y*k)=cmI x y:=by
 unfold cmI
 have e1:x*k<y*k ↔ x<y:=⟨fun h=>Int.lt_of_mul_lt_mul_right h (Int.le_of_lt hk),fun h=>Int.mul_lt_mul_of_pos_right h hk⟩
 have e2:y*k<x*k ↔ y<x:=⟨fun h=>Int.lt_of_mul_lt_mul_right h (Int.le_of_lt hk),fun h=>Int.mul_lt_mul_of_pos_right h hk⟩
 simp only [e1,e2]
theorem rcmpP8_ (B1 B2:Nat) (n n':Bool) (m m':Nat) s p l c q k d s2 p2 l2 c2 q2 k2 d2 (w:World) (h1:RP B1 w s p l c q k d n m) (h2:RP B2 w s2 p2 l2 c2 q2 k2 d2 n' m'):Calls Tryz.prog 77 #[.agg #[.bool s,.slice p l c,.slice q k d],.agg #[.bool s2,.slice p2 l2 c2,.slice q2 k2 d2]] w fun e w'=>e=.returned (.int .i64 (cmI (Iv n m) (Iv n' m')))∧Kp w w':=by
 obtain ⟨a,b,o1,o2,f1⟩:=h1
 obtain ⟨x,y,o3,o4,f2⟩:=h2
 obtain ⟨K,hK⟩:∃ K:Nat,K=1074:=⟨_,rfl⟩
 have i1:=f1.iv K hK
 have i2:=f2.iv K hK
 obtain ⟨zb,-,-,j1,j2⟩:=f1 K hK
 obtain ⟨zy,-,-,j3,j4⟩:=f2 K hK
 have h:=rcmp6_ s p l c q k d s2 p2 l2 c2 q2 k2 d2 a b x y B1 B2 w o1 o2 o3 o4 zb zy (by omega) (by omega) (by omega) (by omega)
 have e:cmI (rvI s a*(y:Int)) (rvI s2 x*(b:Int))=cmI (Iv n m) (Iv n' m'):=by
  have pk:(0:Int)<((2 ^ K:Nat):Int):=by have:=Nat.two_pow_pos K;omega
  have pb:(0:Int)<(b:Int)*(y:Int):=Int.mul_pos (by omega) (by omega)
  rw [← cmI_scale _ _ _ pk,← cmI_scale (Iv n m) (Iv n' m') _ pb]
  rw [Int.mul_right_comm,i1,Int.mul_right_comm (rvI s2 x),i2,Int.mul_assoc,Int.mul_assoc,Int.mul_comm (y:Int) (b:Int)]
 rw [e] at h
 exact h
theorem cmI_iv (n n':Bool) (m m':Nat):cmI (Iv n m) (Iv n' m')=cmI (Fq.plz n m) (Fq.plz n' m'):=by
 unfold cmI
 simp only [iv_lt8]
theorem cmI_lt (x y:Int) (h:x<y):cmI x y = -1:=by unfold cmI;rw [if_pos h]
theorem cmI_gt (x y:Int) (h:y<x):cmI x y=1:=by unfold cmI;rw [if_neg (by omega),if_pos h]
theorem cmI_eq (x:Int):cmI x x=0:=by unfold cmI;rw [if_neg (by omega),if_neg (by omega)]
theorem cmpE_ (B1 B2:Nat) (n n':Bool) (m m':Nat) (hm:m≤9218868437227405312) (hm':m'≤9218868437227405312) s p l c q k d s2 p2 l2 c2 q2 k2 d2 (w:World) (h1:RP B1 w s p l c q k d (fN n m) (fM m)) (h2:RP B2 w s2 p2 l2 c2 q2 k2 d2 (fN n' m') (fM m')):Calls Tryz.prog 73 #[.agg #[.int .i64 (infS n m),.bool s,.slice p l c,.slice q k d],.agg #[.int .i64 (infS n' m'),.bool s2,.slice p2 l2 c2,.slice q2 k2 d2]] w fun e w'=>e=.returned (.int .i64 (cmI (Fq.plz n m) (Fq.plz n' m')))∧Kp w w':=by
 have P1:Fq.plz n m=if n then -(m:Int) else m:=by unfold Fq.plz;cases n <;> rfl
 have P2:Fq.plz n' m'=if n' then -(m':Int) else m':=by unfold Fq.plz;cases n' <;> rfl
 by_cases z1:m=9218868437227405312
 ·by_cases z2:m'=9218868437227405312
  ·subst z1 z2
   have e1:infS n 9218868437227405312=if n then -1 else 1:=by unfold infS;rw [if_pos rfl]
   have e2:infS n' 9218868437227405312=if n' then -1 else 1:=by unfold infS;rw [if_pos rfl]
   rw [e1,e2]
   cases n <;> cases n'
   ·rw [cmI_eq];exact endE_ 1 s p l c q k d s2 p2 l2 c2 q2 k2 d2 (by decide) w
   ·rw [cmI_gt _ _ (by rw [P1,P2];decide)];exact endG_ 1 (-1) s p l c q k d s2 p2 l2 c2 q2 k2 d2 (by decide) (by decide) w
   ·rw [cmI_lt _ _ (by rw [P1,P2];decide)];exact endL_ (-1) 1 s p l c q k d s2 p2 l2 c2 q2 k2 d2 (by decide) (by decide) w
   ·rw [cmI_eq];exact endE_ (-1) s p l c q k d s2 p2 l2 c2 q2 k2 d2 (by decide) w
  ·have e1:infS n m=if n then -1 else 1:=by unfold infS;rw [if_pos z1]
   have e2:infS n' m'=0:=by unfold infS;rw [if_neg z2]
   rw [e1,e2]
   cases n
   ·rw [cmI_gt _ _ (by rw [P1,P2];cases n' <;> simp <;> omega)];exact endG_ 1 0 s p l c q k d s2 p2 l2 c2 q2 k2 d2 (by decide) (by decide) w
   ·rw [cmI_lt _ _ (by rw [P1,P2];cases n' <;> simp <;> omega)];exact endL_ (-1) 0 s p l c q k d s2 p2 l2 c2 q2 k2 d2 (by decide) (by decide) w
 ·have e1:infS n m=0:=by unfold infS;rw [if_neg z1]
  by_cases z2:m'=9218868437227405312
  ·have e2:infS n' m'=if n' then -1 else 1:=by unfold infS;rw [if_pos z2]
   rw [e1,e2]
   cases n'
   ·rw [cmI_lt _ _ (by rw [P1,P2];cases n <;> simp <;> omega)];exact endL_ 0 1 s p l c q k d s2 p2 l2 c2 q2 k2 d2 (by decide) (by decide) w
   ·rw [cmI_gt _ _ (by rw [P1,P2];cases n <;> simp <;> omega)];exact endG_ 0 (-1) s p l c q k d s2 p2 l2 c2 q2 k2 d2 (by decide) (by decide) w
  ·have e2:infS n' m'=0:=by unfold infS;rw [if_neg z2]
   have f1:fN n m=n∧fM m=m:=by unfold fN fM;rw [if_neg z1,if_neg z1];exact ⟨rfl,rfl⟩
   have f2:fN n' m'=n'∧fM m'=m':=by unfold fN fM;rw [if_neg z2,if_neg z2];exact ⟨rfl,rfl⟩
   rw [f1.1,f1.2] at h1
   rw [f2.1,f2.2] at h2
   rw [e1,e2,← cmI_iv]
   exact endZ_ _ s p l c q k d s2 p2 l2 c2 q2 k2 d2 w (fun W g=>rcmpP8_ B1 B2 n n' m m' s p l c q k d s2 p2 l2 c2 q2 k2 d2 W (h1.kp g) (h2.kp g))
end Go.Proofs.YtmpjcknaelgnoaaGreatDoor
