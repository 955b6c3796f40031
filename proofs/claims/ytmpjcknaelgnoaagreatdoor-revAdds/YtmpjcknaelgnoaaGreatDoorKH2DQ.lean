import Derived.Test.YtmpjcknaelgnoaaGreatDoorKQJd
import Derived.Test.YtmpjcknaelgnoaaGreatDoorKXA0
set_option maxHeartbeats 1000000
set_option maxRecDepth 20000
namespace Go.Proofs.YtmpjcknaelgnoaaGreatDoor
open Go.RowKit
theorem minf_ (neg:Bool) (w:World):Calls Tryz.prog 68 #[.int .i64 (if neg=true then -1 else 1)] w fun e w'=>e=.returned (.float .f64 (Fq.wD neg 9218868437227405312))∧w'=w:=by
 have h1:∀ w:World,(callFunc 36 #[.int .u64 18442240474082181120]).run Tryz.prog w=.ok (.value (.float .f64 18442240474082181120)) w:=fun w=>Fq.ff64 18442240474082181120 w
 have h2:∀ w:World,(callFunc 36 #[.int .u64 9218868437227405312]).run Tryz.prog w=.ok (.value (.float .f64 9218868437227405312)) w:=fun w=>Fq.ff64 9218868437227405312 w
 cases neg
 ·go_enter Tryz.func68,Tryz.ntmps68
  go_wp2
  exact BR (v:=.float .f64 9218868437227405312) (by simp [results,Tryz.results68,go_sem]) rfl ⟨rfl,rfl⟩
 ·go_enter Tryz.func68,Tryz.ntmps68
  go_wp2
  exact BR (v:=.float .f64 18442240474082181120) (by simp [results,Tryz.results68,go_sem]) rfl ⟨rfl,rfl⟩
theorem infD_false (w:World):Calls Tryz.prog 230 #[.bool false] w fun e w'=>e=.returned (.float .f64 (Fq.wD false 9218868437227405312))∧w'=w:=by
 have h:=minf_ false w
 have h':Calls Tryz.prog 68 #[.int .i64 (1)] w fun e w'=>e=.returned (.float .f64 9218868437227405312)∧w'=w:=h
 clear h
 go_enter Tryz.func230,Tryz.ntmps230
 go_wp2_with fail
 refine SM h' ?_;clear h'
 go_wp2
 exact BR (v:=.float .f64 9218868437227405312) (by simp [results,Tryz.results230,go_sem]) rfl ⟨rfl,rfl⟩
theorem infD_true (w:World):Calls Tryz.prog 230 #[.bool true] w fun e w'=>e=.returned (.float .f64 (Fq.wD true 9218868437227405312))∧w'=w:=by
 have h:=minf_ true w
 have h':Calls Tryz.prog 68 #[.int .i64 (-1)] w fun e w'=>e=.returned (.float .f64 18442240474082181120)∧w'=w:=h
 clear h
 go_enter Tryz.func230,Tryz.ntmps230
 go_wp2_with fail
 refine SM h' ?_;clear h'
 go_wp2
 exact BR (v:=.float .f64 18442240474082181120) (by simp [results,Tryz.results230,go_sem]) rfl ⟨rfl,rfl⟩
theorem infD_ (neg:Bool) (w:World):Calls Tryz.prog 230 #[.bool neg] w fun e w'=>e=.returned (.float .f64 (Fq.wD neg 9218868437227405312))∧w'=w:=by
 cases neg
 ·exact infD_false w
 ·exact infD_true w
theorem greDp_ (neg:Bool) (w:World):Calls Tryz.prog 261 #[.bool neg] w fun e w'=>e=.returned (.float .f64 (Fq.wD neg 9218868437227405311))∧Fq.Grown w w':=by
 have h:=infD_ neg w
 obtain ⟨Z,hZ⟩:∃ Z,Z=Fq.wD neg 9218868437227405312:=⟨_,rfl⟩
 obtain ⟨Y,hY⟩:∃ Y,Y=Fq.wD neg 9218868437227405311:=⟨_,rfl⟩
 cases neg
 ·have hd:=Fq.dn_d false 9218868437227405312 (by decide) (by decide) w
  rw [show Fq.fD (Fq.plz false 9218868437227405312 - 1)=Fq.wD false 9218868437227405311 from rfl,← hZ,← hY] at hd
  rw [← hZ] at h
  rw [← hY]
  clear hZ hY
  go_enter Tryz.func261,Tryz.ntmps261
  go_wp2_with fail
  refine SM h ?_;clear h
  go_wp2_with fail
  refine hd.mono ?_;rintro e w1 ⟨rfl,hk⟩;clear hd
  go_wp2
  exact BR (v:=.float .f64 Y) (by simp [results,Tryz.results261,go_sem]) rfl ⟨rfl,hk⟩
 ·have hd:=Fq.up_d true 9218868437227405312 (by decide) (by decide) w
  rw [show Fq.fD (Fq.plz true 9218868437227405312+1)=Fq.wD true 9218868437227405311 from rfl,← hZ,← hY] at hd
  rw [← hZ] at h
  rw [← hY]
  clear hZ hY
  go_enter Tryz.func261,Tryz.ntmps261
  go_wp2_with fail
  refine SM h ?_;clear h
  go_wp2_with fail
  refine hd.mono ?_;rintro e w1 ⟨rfl,hk⟩;clear hd
  go_wp2
  exact BR (v:=.float .f64 Y) (by simp [results,Tryz.results261,go_sem]) rfl ⟨rfl,hk⟩
theorem fmtD_ (w:World):Calls Tryz.prog 257 #[] w fun e w'=>e=.returned (.tuple #[.int .i64 53,.int .i64 (-1074)])∧Fq.Grown w w':=by
 have h1:=Fq.split_d false 4607182418800017408 (by decide)
 have h0:=Fq.split_d false 0 (by decide)
 rw [show Fq.wD false 4607182418800017408=4607182418800017408 from rfl,show (false && !(4607182418800017408 == 0))=false from rfl,show (((Fq.sgD 4607182418800017408:Nat):Int))=4503599627370496 from by decide +kernel] at h1
 rw [show Fq.wD false 0=0 from rfl,show (false && !(0 == 0))=false from rfl,show Fq.epD 0 = -1074 from by decide +kernel] at h0
 obtain ⟨e1,he1⟩:∃ e1,e1=Fq.epD 4607182418800017408:=⟨_,rfl⟩
 obtain ⟨s0,hs0⟩:∃ s0:Int,s0=((Fq.sgD 0:Nat):Int):=⟨_,rfl⟩
 rw [← he1] at h1
 rw [← hs0] at h0
 have hl:=Fq.len64_ 4503599627370496 (by decide) (by decide)
 rw [show ((Lib.bitLen (4503599627370496:Int).toNat:Nat):Int)=53 from by decide +kernel] at hl
 have c1:floatOfInt .f64 1=4607182418800017408:=by decide +kernel
 have c0:floatOfInt .f64 0=0:=by decide +kernel
 clear he1 hs0
 go_enter Tryz.func257,Tryz.ntmps257
 go_wp2_with fail
 refine (h1 _).mono ?_;rintro e w1 ⟨rfl,hk⟩;clear h1
 go_wp2_with fail
 refine (h0 _).mono ?_;rintro e w2 ⟨rfl,hk2⟩;clear h0
 have hk3:=Fq.gtrans hk hk2
 have hl2:=hl w2
 clear hl hk hk2
 go_wp2_with fail
 refine SM hl2 ?_;clear hl2
 go_wp2
 exact BR (v:=.tuple #[.int .i64 53,.int .i64 (-1074)]) (by simp [results,Tryz.results257,go_sem]) rfl ⟨rfl,hk3⟩

structure Rs where
 l1:List Int
 l2:List Int
 W:Int
 Z:Int
 B:Bool
 E:Int
structure Out (w:World) (base:Nat) (r:Rs) (p1:Option Addr) (c1:Nat) (p2:Option Addr) (c2:Nat):Prop where
 o1:Own w base (.slice p1 r.l1.length c1) r.l1
 o2:Own w base (.slice p2 r.l2.length c2) r.l2
 ne:∀ g,p1=some ⟨g,0,none⟩→p2≠some ⟨g,0,none⟩
theorem Rw.all {w:World} {g n:Nat} {xs:List Int} (h:Rw w g n xs) (hn:xs.length=n):Arr w (some ⟨g,0,none⟩) xs:=by
 refine Or.inr ⟨g,0,rfl,fun j hj=>?_⟩
 rw [Nat.zero_add]
 exact World.rowIs.cell h (by omega)
theorem Rw.kb {w w':World} {a g n:Nat} {xs:List Int} (h:Rw w g n xs) (k:Kb a w w') (hne:g≠a):Rw w' g n xs:=World.rowIs.of_block h (k.2.2.2.2 g (World.rowIs.lt h) hne)
theorem Own.kb {w w':World} {a base:Nat} {v:Value} {xs:List Int} (h:Own w base v xs) (k:Kb a w w') (hne:∀ g,v.ownBlock=some g→g≠a):Own w' base v xs:=by
 refine ⟨h.1, ?_⟩
 rcases h.2 with h' | ⟨g,cap,cur,h1,h2,h3,h4,h5,h6,h7⟩
 ·exact Or.inl h'
 ·have hlt:g<w.heap.size:=by
   by_cases c:g<w.heap.size
   ·exact c
   ·rw [Array.getElem?_eq_none (by simpa using c)] at h3;cases h3
  exact Or.inr ⟨g,cap,cur,h1,h2,by rw [k.2.2.2.2 g hlt (hne g (by rw [h1];rfl))];exact h3,h4,h5,h6,h7⟩
structure Cs (w:World) (b:Nat) (r:Rs) (p1:Option Addr) (c1:Nat) (p2:Option Addr) (c2:Nat):Prop where
 c0:w.cell? ⟨b,0,none⟩=some (.slice p1 r.l1.length c1)
 c1:w.cell? ⟨b,1,none⟩=some (.slice p2 r.l2.length c2)
 c2:w.cell? ⟨b,2,none⟩=some (.int .u64 r.W)
 c3:w.cell? ⟨b,3,none⟩=some (.int .i64 r.Z)
 c4:w.cell? ⟨b,4,none⟩=some (.bool r.B)
 c5:w.cell? ⟨b,5,none⟩=some (.int .i64 r.E)
def Bd (lo hi:Nat) (p1 p2:Option Addr):Prop:=∀ g,p1=some ⟨g,0,none⟩∨p2=some ⟨g,0,none⟩→lo≤g∧g<hi
theorem trim_ (p:Option Addr) (c:Nat) (xs:List Int) (w:World) (hx:Arr w p xs) (lx:xs.length≤1099511627776) (hc:xs.length≤c) :
  Calls Tryz.prog 241 #[.slice p xs.length c] w fun e w'=>e=.returned (.slice p (tl xs) c)∧w'=w:=by
 obtain ⟨N,hN⟩:∃ N,N=xs.length:=⟨_,rfl⟩
 rw [← hN] at lx hc ⊢
 have HX:Hid (Arr w p xs):=hx
 have HN:Hid (N=xs.length):=hN
 obtain ⟨T,hT⟩:∃ T,T=tl xs:=⟨_,rfl⟩
 rw [← hT]
 have HT:Hid (tlAux xs N=T):=by rw [hT,hN];exact rfl
 have hT2:T≤N:=by rw [hT,hN];exact tl_le xs
 clear hN hx hT
 go_enter Tryz.func241,Tryz.ntmps241
 go_wp2
 go_loop [3] (fun i=>∃ k:Nat,i=.int .i64 k∧k≤N∧tlAux xs k=T) (fun i=>(intOf i).toNat)
 case atStart=>exact ⟨N,rfl,Nat.le_refl _,HT.out⟩
 case round =>
  obtain ⟨k,rfl,hk,ht⟩:=hrel
  have hN:=HN.out
  rcases k with _ | k
  ·have hT0:T=0:=by rw [← ht];rfl
   subst hT0
   clear hN HN HX HT ht hk
   go_wp2
   exact BR (v:=.slice p 0 c) (by simp [results,Tryz.results241,go_sem] <;> simp only [*]) rfl ⟨rfl,rfl⟩
  ·obtain ⟨b,off,rfl,hc'⟩:=HX.out.at (k:=k) (by omega)
   have e1:=hc' k (by omega)
   have f1:(((k+1:Nat):Int) - 1)=(k:Int):=by omega
   by_cases cz:xs.getD k 0=0
   ·rw [tlAux_zero xs k cz] at ht
    rw [cz] at e1
    clear hN HN HX HT hc'
    go_wp2
    exact ⟨⟨k,by go_num,by omega,ht⟩,by simp [intOf]⟩
   ·rw [tlAux_nz xs k cz] at ht
    subst ht
    obtain ⟨X,hX⟩:∃ X,X=xs.getD k 0:=⟨_,rfl⟩
    rw [← hX] at e1 cz
    have t1:(X == 0)=false:=by simp [cz]
    clear hN HN HX HT hc' hX cz
    go_wp2
    exact BR (v:=.slice (some ⟨b,off,none⟩) (k+1) c) (by simp [results,Tryz.results241,go_sem] <;> simp only [*]) rfl ⟨rfl,rfl⟩
theorem words_ (p:Option Addr) (c:Nat) (xs:List Int) (w:World) (hx:Arr w p xs) (lx:xs.length≤1099511627776) :
  Calls Tryz.prog 172 #[.slice p xs.length c] w fun e w'=>e=.returned (.int .i64 (tl xs:Int))∧w'=w:=by
 obtain ⟨N,hN⟩:∃ N,N=xs.length:=⟨_,rfl⟩
 rw [← hN] at lx ⊢
 have HX:Hid (Arr w p xs):=hx
 have HN:Hid (N=xs.length):=hN
 obtain ⟨T,hT⟩:∃ T,T=tl xs:=⟨_,rfl⟩
 rw [← hT]
 have HT:Hid (tlAux xs N=T):=by rw [hT,hN];exact rfl
 have hT2:T≤N:=by rw [hT,hN];exact tl_le xs
 clear hN hx hT
 go_enter Tryz.func172,Tryz.ntmps172
 go_wp2
 go_loop [3] (fun i=>∃ k:Nat,i=.int .i64 k∧k≤N∧tlAux xs k=T) (fun i=>(intOf i).toNat)
 case atStart=>exact ⟨N,rfl,Nat.le_refl _,HT.out⟩
 case round =>
  obtain ⟨k,rfl,hk,ht⟩:=hrel
  have hN:=HN.out
  rcases k with _ | k
  ·have hT0:T=0:=by rw [← ht];rfl
   subst hT0
   clear hN HN HX HT ht hk
   go_wp2
   exact BR (v:=.int .i64 0) (by simp [results,Tryz.results172,go_sem] <;> simp only [*]) rfl ⟨rfl,rfl⟩
  ·obtain ⟨b,off,rfl,hc'⟩:=HX.out.at (k:=k) (by omega)
   have e1:=hc' k (by omega)
   have f1:(((k+1:Nat):Int) - 1)=(k:Int):=by omega
   by_cases cz:xs.getD k 0=0
   ·rw [tlAux_zero xs k cz] at ht
    rw [cz] at e1
    clear hN HN HX HT hc'
    go_wp2
    exact ⟨⟨k,by go_num,by omega,ht⟩,by simp [intOf]⟩
   ·rw [tlAux_nz xs k cz] at ht
    subst ht
    obtain ⟨X,hX⟩:∃ X,X=xs.getD k 0:=⟨_,rfl⟩
    rw [← hX] at e1 cz
    have t1:(X == 0)=false:=by simp [cz]
    clear hN HN HX HT hc' hX cz
    go_wp2
    exact BR (v:=.int .i64 ((k+1:Nat):Int)) (by simp [results,Tryz.results172,go_sem] <;> simp only [*]) rfl ⟨rfl,rfl⟩
theorem add32_ (x y c:Int) (hx:0≤x∧x<4294967296) (hy:0≤y∧y<4294967296) (hc:0≤c∧c<4294967296) (w:World) :
  Calls Tryz.prog 266 #[.int .u32 x,.int .u32 y,.int .u32 c] w fun e w'=>e=.returned (.tuple #[.int .u32 ((x+y+c) % 4294967296),.int .u32 ((x+y+c) / 4294967296)])∧w'=w:=by
 have f1:IntKind.u64.wrap x=x:=by rw [IntKind.wrap_u64];omega
 have f2:IntKind.u64.wrap y=y:=by rw [IntKind.wrap_u64];omega
 have f3:IntKind.u64.wrap c=c:=by rw [IntKind.wrap_u64];omega
 have f4:IntKind.u64.wrap (x+y)=x+y:=by rw [IntKind.wrap_u64];omega
 have f5:IntKind.u64.wrap (x+y+c)=x+y+c:=by rw [IntKind.wrap_u64];omega
 have f6:IntKind.u32.wrap (x+y+c)=(x+y+c) % 4294967296:=by rw [IntKind.wrap_u32]
 have f7:IntKind.u32.wrap ((x+y+c) / 4294967296)=(x+y+c) / 4294967296:=by rw [IntKind.wrap_u32];omega
 clear hx hy hc
 go_enter Tryz.func266,Tryz.ntmps266
 go_wp2
 exact BR (v:=.tuple #[.int .u32 ((x+y+c) % 4294967296),.int .u32 ((x+y+c) / 4294967296)]) (by simp [results,Tryz.results266,go_sem] <;> simp only [*]) rfl ⟨rfl,rfl⟩
theorem tooLong_ (p:Option Addr) (m c:Nat) (w:World):Calls Tryz.prog 242 #[.slice p m c] w fun e w'=>e=.returned (.bool (decide (16384<m)))∧w'=w:=by
 go_enter Tryz.func242,Tryz.ntmps242
 go_wp2
 have h:decide ((16384:Int)<(m:Int))=decide (16384<m):=by by_cases d:16384<m <;> simp [d] <;> omega
 exact BR (v:=.bool (decide (16384<m))) (by simp [results,Tryz.results242,go_sem] <;> omega) rfl ⟨rfl,rfl⟩
theorem unlessLong_ (p:Option Addr) (m c:Nat) (w:World):Calls Tryz.prog 244 #[.slice p m c] w fun e w'=>e=.returned (if 16384<m then .tuple #[.slice none 0 0,.int .i64 2] else .tuple #[.slice p m c,.int .i64 0])∧w'=w:=by
 have h:=tooLong_ p m c
 by_cases d:16384<m
 ·rw [decide_eq_true d] at h
  rw [if_pos d]
  clear d
  go_enter Tryz.func244,Tryz.ntmps244
  go_wp2_with (first | (go_at_call 242;refine (h _).mono ?_;rintro e w' ⟨rfl,rfl⟩))
  exact BR (v:=.tuple #[.slice none 0 0,.int .i64 2]) (by simp [results,Tryz.results244,go_sem] <;> simp only [*]) rfl ⟨rfl,rfl⟩
 ·rw [decide_eq_false d] at h
  rw [if_neg d]
  clear d
  go_enter Tryz.func244,Tryz.ntmps244
  go_wp2_with (first | (go_at_call 242;refine (h _).mono ?_;rintro e w' ⟨rfl,rfl⟩))
  exact BR (v:=.tuple #[.slice p m c,.int .i64 0]) (by simp [results,Tryz.results244,go_sem] <;> simp only [*]) rfl ⟨rfl,rfl⟩
def Ls (w:World) (v:Value) (L:List Int):Prop:=∃ p c,v=.slice p L.length c∧Arr w p L∧L.length≤c
theorem Ls.kp {w w':World} {v:Value} {L:List Int} (h:Ls w v L) (k:Kp w w'):Ls w' v L:=by
 obtain ⟨p,c,e,hA,hc⟩:=h
 exact ⟨p,c,e,hA.grown k,hc⟩
theorem Own.ls {w:World} {base:Nat} {v:Value} {L:List Int} (h:Own w base v L):Ls w v L:=by
 obtain ⟨p,c,e,hA,hc⟩:=h.arr
 exact ⟨p,c,e,hA,hc⟩
theorem dlen (a K:Nat) (h:blen a≤32*K):(dig a).length≤K:=by
 have h1:=(blen_le_iff a (32*K)).1 h
 rw [← pow32] at h1
 by_cases c:(dig a).length≤K
 ·exact c
 ·exfalso
  have:=len32_lt a K (by unfold len32;omega)
  omega
theorem Kb.kp2 {g:Nat} {w w' w'':World} (h:Kb g w w') (k:Kp w' w''):Kb g w w'' :=
 ⟨k.os.trans h.1,k.tape.trans h.2.1,k.output.trans h.2.2.1,Nat.le_trans h.2.2.2.1 k.size,fun i hi hne=>(Below.block k i (Nat.lt_of_lt_of_le hi h.2.2.2.1)).trans (h.2.2.2.2 i hi hne)⟩
theorem addTimes_ (g n i c1 d X:Nat) (q:Option Addr) (zs ys:List Int) (w:World) (hr:Rw w g n zs) (hzl:zs.length=n) (hwz:Wd zs) (hy:Arr w q ys) (hwy:Wd ys) (hX:X<4294967296) (hq:0<ys.length→∀ b off,q=some ⟨b,off,none⟩→b≠g) (hin:i+ys.length≤n) (hn:n≤1099511627776) (hcc:ys.length≤c1) :
  Calls Tryz.prog 272 #[.slice (some ⟨g,i,none⟩) ys.length c1,.slice q ys.length d,.int .u32 (X:Int)] w fun e w'=>∃ (C:Nat) (us:List Int),e=.returned (.int .u32 (C:Int))∧Rw w' g n us∧us.length=n∧Wd us∧C<4294967296∧val us+C*4294967296 ^ (i+ys.length)=val zs+val ys*X*4294967296 ^ i∧(∀ j,i+ys.length≤j→us.getD j 0=zs.getD j 0)∧Kb g w w':=by
 obtain ⟨M,hM⟩:∃ M,M=ys.length:=⟨_,rfl⟩
 rw [← hM] at hin hcc ⊢
 have HY:Hid (Arr w q ys∧(0<ys.length→∀ b off,q=some ⟨b,off,none⟩→b≠g)):=⟨hy,hq⟩
 have HW:Hid (Wd ys∧M=ys.length):=⟨hwy,hM⟩
 have HZ:Hid (Rw w g n zs∧zs.length=n∧Wd zs):=⟨hr,hzl,hwz⟩
 have hX2:IntKind.u64.wrap (X:Int)=(X:Int):=by rw [IntKind.wrap_u64];omega
 clear hy hq hwy hM hr hzl hwz
 go_enter Tryz.func272,Tryz.ntmps272
 go_wp2
 go_loopw [7,11] (fun cc ii wr=>∃ (k C:Nat) (us:List Int),cc=.int .u64 (C:Int)∧ii=.int .i64 k∧k≤M∧Rw wr g n us∧us.length=n∧Wd us∧C<4294967296∧val us+C*4294967296 ^ (i+k)=val zs+val (ys.take k)*X*4294967296 ^ i∧(∀ j,i+k≤j→us.getD j 0=zs.getD j 0)∧Kb g w wr) (fun _ i _=>M - (intOf i).toNat)
 case atStart=>exact ⟨0,0,zs,rfl,rfl,Nat.zero_le _,HZ.out.1,HZ.out.2.1,HZ.out.2.2,by omega,by simp [val],fun j _=>rfl,Kb.refl _ _⟩
 case round =>
  obtain ⟨k,C,us,rfl,rfl,hk,hrow,hul,hwu,hC,hv,hsam,hkb⟩:=hrel
  obtain ⟨hwy,hM⟩:=HW.out
  by_cases ck:k<M
  ·obtain ⟨b',off',rfl,hc'⟩:=HY.out.1.at (k:=k) (by omega)
   have hbg:=HY.out.2 (by omega) b' off' rfl
   have e2:=hkb.arr hbg (hc' k (by omega))
   have e1:=World.rowIs.cell hrow (i:=i+k) (by omega)
   have wy:=hwy k
   have wz:=hwu (i+k)
   obtain ⟨Y,hY⟩:∃ Y:Nat,(Y:Int)=ys.getD k 0:=⟨(ys.getD k 0).toNat,by omega⟩
   obtain ⟨Z0,hZ0⟩:∃ Z0:Nat,(Z0:Int)=us.getD (i+k) 0:=⟨(us.getD (i+k) 0).toNat,by omega⟩
   rw [← hY] at e2
   rw [← hZ0] at e1
   have hmw:=mul_word Y X C Z0 (by omega) hX hC (by omega)
   obtain ⟨P,hP⟩:∃ P,P=Y*X:=⟨_,rfl⟩
   rw [← hP] at hmw
   obtain ⟨S,hS⟩:∃ S:Nat,S=(Z0:Int).toNat+((P:Nat):Int).toNat+C:=⟨_,rfl⟩
   have hst:=sum_step us (i+k) C S _ (Z0:Int) (P:Int) (by omega) hZ0.symm hS hv
   simp only [Int.toNat_natCast] at hS hst
   have hg2:=mul_grow ys X i k
   rw [← hY,Int.toNat_natCast,← hP] at hg2
   rw [Nat.add_assoc (val zs),← hg2,Nat.add_assoc i k 1] at hst
   have f1:IntKind.u64.wrap (Y:Int)=(Y:Int):=by rw [IntKind.wrap_u64];omega
   have f2:IntKind.u64.wrap ((Y:Int)*(X:Int))=(P:Int):=by
    have:(Y:Int)*(X:Int)=(P:Int):=by rw [hP];exact (Int.natCast_mul Y X).symm
    rw [this,IntKind.wrap_u64];omega
   have f3:IntKind.u64.wrap (Z0:Int)=(Z0:Int):=by rw [IntKind.wrap_u64];omega
   have f4:IntKind.u64.wrap ((P:Int)+(Z0:Int))=(P:Int)+(Z0:Int):=by rw [IntKind.wrap_u64];omega
   have f5:IntKind.u64.wrap ((C:Int)+((P:Int)+(Z0:Int)))=(S:Int):=by rw [IntKind.wrap_u64];omega
   obtain ⟨Z,hZ⟩:∃ Z:Nat,Z=S % 4294967296:=⟨_,rfl⟩
   obtain ⟨C',hC2⟩:∃ C':Nat,C'=S / 4294967296:=⟨_,rfl⟩
   have f6:IntKind.u32.wrap (S:Int)=(Z:Int):=by rw [IntKind.wrap_u32];omega
   have f7:(S:Int) / 4294967296=(C':Int):=by omega
   rw [← hZ,← hC2] at hst
   have hC':C'<4294967296:=by omega
   have hw2:Wd (us.set (i+k) (Z:Int)):=hwu.set (i+k) Z (by omega)
   have hl2:(us.set (i+k) (Z:Int)).length=n:=by rw [List.length_set];exact hul
   have hsam2:∀ j,i+(k+1)≤j→(us.set (i+k) (Z:Int)).getD j 0=zs.getD j 0:=fun j h1=>by
    rw [← hsam j (by omega)];simp [List.getD,show ¬ i+k=j from by omega]
   have hik:i+k<us.length:=by omega
   have i0:(0:Int)≤(k:Int):=by omega
   have i1:(k:Int)<(M:Int):=by omega
   clear hc' HY HW HZ hwy hM hY hZ0 hZ hC2 hS hv hP hg2 wy wz hwu hC hsam hul hmw
   go_wp2
   refine wp_region_kp (by kernel_rfl) (by kernel_rfl) (fun ι _ G hG hall=>?_)
   have c0:∀ n,(G n).cell? ⟨g,i+k,none⟩=some (.int .u32 (Z0:Int)):=fun n=>kkeep (hG n) e1
   have c1:∀ n,(G n).cell? ⟨b',off'+k,none⟩=some (.int .u32 (Y:Int)):=fun n=>kkeep (hG n) e2
   repeat (go_big_quiet_step (fail))
   refine wpQuiet_nil ?_
   rintro _ ⟨nq,rfl⟩
   have gq:=hG nq
   replace hrow:=hrow.grown gq
   have e3:=World.rowIs.cell hrow (i:=i+k) (by have:=hrow;omega)
   have e4:=World.rowIs.frozen hrow (i+k)
   have hR:=hrow.set (i+k) (Z:Int) hik
   have hK:=(hkb.kp2 gq).setCell (i+k) (.int .u32 (Z:Int))
   clear c0 c1 hall hG gq e1 e2 hrow hkb
   go_wp2
   exact ⟨⟨k+1,C',us.set (i+k) (Z:Int),rfl,by go_num,by omega,hR,hl2,hw2,hC',hst,hsam2,hK⟩,by simp [intOf];omega⟩
  ·have hkM:k=M:=by omega
   subst hkM
   rw [hM,List.take_length,← hM] at hv
   have i2:¬ ((k:Int)<(k:Int)):=by omega
   have f6:IntKind.u32.wrap (C:Int)=(C:Int):=by rw [IntKind.wrap_u32];omega
   clear HY HW HZ hwy hM hk ck
   go_wp2
   exact BR (v:=.int .u32 (C:Int)) (by simp [results,Tryz.results272,go_sem] <;> simp only [*]) rfl ⟨C,rfl,us,hrow,hul,hwu,hC,hv,hsam,hkb⟩
end Go.Proofs.YtmpjcknaelgnoaaGreatDoor
