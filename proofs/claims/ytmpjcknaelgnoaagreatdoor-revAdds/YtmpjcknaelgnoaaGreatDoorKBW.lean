import Derived.Test.YtmpjcknaelgnoaaGreatDoorKXSL
import Derived.WalkMore
set_option maxHeartbeats 3000000
set_option maxRecDepth 20000
namespace Go.Proofs.YtmpjcknaelgnoaaGreatDoor
open Go.RowKit
def Two (w:World) (base:Nat) (l1 l2:List Int) (e:Value):Prop:=∃ p1 c1 p2 c2,e=.tuple #[.slice p1 l1.length c1,.slice p2 l2.length c2]∧Own w base (.slice p1 l1.length c1) l1∧Own w base (.slice p2 l2.length c2) l2∧∀ g,p1=some ⟨g,0,none⟩→p2≠some ⟨g,0,none⟩
theorem Own.above {w:World} {base n c b:Nat} {xs:List Int} (h:Own w base (.slice (some ⟨b,0,none⟩) n c) xs):base≤b∧b<w.heap.size:=by
 rcases h.2 with h' | ⟨g,cap,cur,h1,h2,h3,h4⟩
 ·have:=h'.1
  cases this
 ·cases h1
  refine ⟨h2, ?_⟩
  by_cases c:b<w.heap.size
  ·exact c
  ·rw [Array.getElem?_eq_none (by omega)] at h3
   cases h3
theorem Own.len {w:World} {base:Nat} {v:Value} {xs:List Int} (h:Own w base v xs):∃ p c,v=.slice p xs.length c∧(p=none∨∃ b,p=some ⟨b,0,none⟩):=by
 obtain ⟨p,c,e,_⟩:=h.arr
 refine ⟨p,c,e, ?_⟩
 subst e
 rcases h.2 with h' | ⟨g,cap,cur,h1,h2⟩
 ·have h3:=h'.1
  injection h3 with h4
  exact Or.inl h4
 ·cases h1
  exact Or.inr ⟨g,rfl⟩
theorem rcmp_ (p q:Option Addr) (c d:Nat) (xs ys:List Int) (w:World) (hx:Arr w p xs) (hy:Arr w q ys) (hwx:Wd xs) (hwy:Wd ys) (lx:xs.length≤1099511627776) (ly:ys.length≤1099511627776) :
  Calls Tryz.prog 134 #[.slice p xs.length c,.slice q ys.length d] w fun e w'=>e=.returned (.int .i64 (cmpN (val xs) (val ys)))∧Kp w w':=by
 have h1:=words_ p c xs w hx lx
 have h2:=words_ q d ys w hy ly
 have lS:=tl_le xs
 have lT:=tl_le ys
 have hg:Kp w w:=Kp.refl w
 have dlt:=fun h=>cmpN_lt (tl_lt_val xs ys hwx hwy h)
 have dgt:=fun h=>cmpN_gt (tl_lt_val ys xs hwy hwx h)
 have deq:tl xs=tl ys→(∀ j,j<tl xs→xs.getD j 0=ys.getD j 0)→cmpN (val xs) (val ys)=0:=fun e h=>by
  apply cmpN_eq
  rw [← val_tl xs,← val_tl ys,← e]
  exact cmp_all xs ys _ h
 have tlt:∀ k,tl xs=tl ys→k<tl xs→xs.getD k 0<ys.getD k 0→(∀ j,k<j→j<tl xs→xs.getD j 0=ys.getD j 0)→cmpN (val xs) (val ys) = -1:=fun k e h1 h2 h3=>by
  apply cmpN_lt
  rw [← val_tl xs,← val_tl ys,← e]
  exact cmp_top xs ys hwx k (hwx k).1 h2 _ h1 h3
 have tgt:∀ k,tl xs=tl ys→k<tl xs→ys.getD k 0<xs.getD k 0→(∀ j,k<j→j<tl xs→xs.getD j 0=ys.getD j 0)→cmpN (val xs) (val ys)=1:=fun k e h1 h2 h3=>by
  apply cmpN_gt
  rw [← val_tl xs,← val_tl ys,← e]
  exact cmp_top ys xs hwy k (hwy k).1 h2 _ h1 (fun j a b=>(h3 j a b).symm)
 obtain ⟨R,hR⟩:∃ R,R=cmpN (val xs) (val ys):=⟨_,rfl⟩
 obtain ⟨N,hN⟩:∃ N,N=xs.length:=⟨_,rfl⟩
 obtain ⟨M,hM⟩:∃ M,M=ys.length:=⟨_,rfl⟩
 obtain ⟨S,hS⟩:∃ S,S=tl xs:=⟨_,rfl⟩
 obtain ⟨T,hT⟩:∃ T,T=tl ys:=⟨_,rfl⟩
 rw [← hS,← hN] at h1 lS
 rw [← hT,← hM] at h2 lT
 rw [← hS,← hT,← hR] at dlt dgt deq tlt tgt
 rw [← hN,← hM,← hR]
 have HX:Hid (Arr w p xs):=hx
 have HY:Hid (Arr w q ys):=hy
 have HN:Hid (N=xs.length∧M=ys.length):=⟨hN,hM⟩
 have lS2:S≤1099511627776:=by omega
 clear hx hy hwx hwy lx ly hN hM hS hT hR
 rcases Nat.lt_trichotomy S T with cST | cST | cST
 ·rw [dlt cST]
  have t1:(S:Int)<(T:Int):=by omega
  clear dlt dgt deq tlt tgt HX HY HN cST lS lT
  go_enter Tryz.func134,Tryz.ntmps134
  go_wp2_with fail
  refine SM h1 ?_
  go_wp2_with fail
  refine SM h2 ?_
  go_wp2
  exact BR (v:=.int .i64 (-1)) (by simp [results,Tryz.results134,go_sem] <;> simp only [*]) rfl ⟨rfl,hg⟩
 ·subst cST
  have t1:¬ ((S:Int)<(S:Int)):=by omega
  have HD:Hid ((∀ j,j<S→xs.getD j 0=ys.getD j 0)→R=0):=deq rfl
  have HL:Hid (∀ k,k<S→xs.getD k 0<ys.getD k 0→(∀ j,k<j→j<S→xs.getD j 0=ys.getD j 0)→R = -1):=fun k=>tlt k rfl
  have HR:Hid (∀ k,k<S→ys.getD k 0<xs.getD k 0→(∀ j,k<j→j<S→xs.getD j 0=ys.getD j 0)→R=1):=fun k=>tgt k rfl
  clear dlt dgt deq tlt tgt
  go_enter Tryz.func134,Tryz.ntmps134
  go_wp2_with fail
  refine SM h1 ?_
  go_wp2_with fail
  refine SM h2 ?_
  clear h1 h2
  go_wp2
  clear t1
  go_loopw [7] (fun i wr=>∃ (k:Nat) (z:Int),k≤S∧z=(k:Int) - 1∧i=.int .i64 z∧Kp w wr∧∀ j,k≤j→j<S→xs.getD j 0=ys.getD j 0) (fun i _=>(intOf i+1).toNat)
  case atStart=>exact ⟨S,_,Nat.le_refl _,rfl,by go_num,hg,fun j _ _=>by omega⟩
  case round =>
   clear hg
   obtain ⟨k,z,hk,hz,rfl,hg,hs⟩:=hrel
   rcases k with _ | k
   ·have hR0:=HD.out (fun j hj=>hs j (Nat.zero_le _) hj)
    subst hR0
    have hz0:z = -1:=by omega
    subst hz0
    clear hz HX HY HN HD HL HR hs hk lS lT
    go_wp2
    exact BR (v:=.int .i64 (0)) (by simp [results,Tryz.results134,go_sem] <;> simp only [*]) rfl ⟨rfl,hg⟩
   ·have hz0:z=(k:Int):=by omega
    subst hz0
    obtain ⟨hN,hM⟩:=HN.out
    obtain ⟨b,off,rfl,hc⟩:=HX.out.at (k:=k) (by omega)
    obtain ⟨b',off',rfl,hc'⟩:=HY.out.at (k:=k) (by omega)
    have e1:=kkeep hg (hc k (by omega))
    have e2:=kkeep hg (hc' k (by omega))
    have i0:(0:Int)≤(k:Int):=by omega
    have i1:(k:Int)<(N:Int):=by omega
    have i2:(k:Int)<(M:Int):=by omega
    have rl:=fun h=>HL.out k (by omega) h (fun j a b=>hs j (by omega) b)
    have rg:=fun h=>HR.out k (by omega) h (fun j a b=>hs j (by omega) b)
    have re:xs.getD k 0=ys.getD k 0→∀ j,k≤j→j<S→xs.getD j 0=ys.getD j 0:=fun h j a b=>by
     by_cases e:j=k
     ·subst e;exact h
     ·exact hs j (by omega) b
    obtain ⟨X,hX⟩:∃ X,X=xs.getD k 0:=⟨_,rfl⟩
    obtain ⟨Y,hY⟩:∃ Y,Y=ys.getD k 0:=⟨_,rfl⟩
    rw [← hX] at e1 rl rg re
    rw [← hY] at e2 rl rg re
    have hk2:k≤S:=by omega
    clear hc hc' HX HY HN HD HL HR hs hN hM hX hY hz hk lS lT
    rcases (by omega:X<Y∨Y<X∨X=Y) with cx | cx | cx
    ·have hR1:=rl cx
     subst hR1
     clear rl rg re
     go_wp2
     refine wp_region_kp (by kernel_rfl) (by kernel_rfl) (fun ι _ G hG hall=>?_)
     have c0:∀ n,(G n).cell? ⟨b,off+k,none⟩=some (.int .u32 X):=fun n=>kkeep (hG n) e1
     have c1:∀ n,(G n).cell? ⟨b',off'+k,none⟩=some (.int .u32 Y):=fun n=>kkeep (hG n) e2
     repeat (go_big_quiet_step (fail))
     refine wpQuiet_nil ?_
     rintro _ ⟨nq,rfl⟩
     have gq:=hG nq
     replace e1:=kkeep gq e1
     replace e2:=kkeep gq e2
     replace hg:=hg.trans gq
     clear c0 c1 hall hG gq
     go_wp2
     exact BR (v:=.int .i64 (-1)) (by simp [results,Tryz.results134,go_sem] <;> simp only [*]) rfl ⟨rfl,hg⟩
    ·have hR1:=rg cx
     subst hR1
     have cy:¬ (X<Y):=by omega
     clear rl rg re
     go_wp2
     refine wp_region_kp (by kernel_rfl) (by kernel_rfl) (fun ι _ G hG hall=>?_)
     have c0:∀ n,(G n).cell? ⟨b,off+k,none⟩=some (.int .u32 X):=fun n=>kkeep (hG n) e1
     have c1:∀ n,(G n).cell? ⟨b',off'+k,none⟩=some (.int .u32 Y):=fun n=>kkeep (hG n) e2
     repeat (go_big_quiet_step (fail))
     refine wpQuiet_nil ?_
     rintro _ ⟨nq,rfl⟩
     have gq:=hG nq
     replace e1:=kkeep gq e1
     replace e2:=kkeep gq e2
     replace hg:=hg.trans gq
     clear c0 c1 hall hG gq
     go_wp2
     refine wp_region_kp (by kernel_rfl) (by kernel_rfl) (fun ι2 _ G2 hG hall=>?_)
     have c0:∀ n,(G2 n).cell? ⟨b,off+k,none⟩=some (.int .u32 X):=fun n=>kkeep (hG n) e1
     have c1:∀ n,(G2 n).cell? ⟨b',off'+k,none⟩=some (.int .u32 Y):=fun n=>kkeep (hG n) e2
     repeat (go_big_quiet_step (fail))
     refine wpQuiet_nil ?_
     rintro _ ⟨nq2,rfl⟩
     have gq:=hG nq2
     replace e1:=kkeep gq e1
     replace e2:=kkeep gq e2
     replace hg:=hg.trans gq
     clear c0 c1 hall hG gq
     go_wp2
     exact BR (v:=.int .i64 (1)) (by simp [results,Tryz.results134,go_sem] <;> simp only [*]) rfl ⟨rfl,hg⟩
    ·have hs2:=re cx
     subst cx
     have cy:¬ (X<X):=by omega
     clear rl rg re
     go_wp2
     refine wp_region_kp (by kernel_rfl) (by kernel_rfl) (fun ι _ G hG hall=>?_)
     have c0:∀ n,(G n).cell? ⟨b,off+k,none⟩=some (.int .u32 X):=fun n=>kkeep (hG n) e1
     have c1:∀ n,(G n).cell? ⟨b',off'+k,none⟩=some (.int .u32 X):=fun n=>kkeep (hG n) e2
     repeat (go_big_quiet_step (fail))
     refine wpQuiet_nil ?_
     rintro _ ⟨nq,rfl⟩
     have gq:=hG nq
     replace e1:=kkeep gq e1
     replace e2:=kkeep gq e2
     replace hg:=hg.trans gq
     clear c0 c1 hall hG gq
     go_wp2
     refine wp_region_kp (by kernel_rfl) (by kernel_rfl) (fun ι2 _ G2 hG hall=>?_)
     have c0:∀ n,(G2 n).cell? ⟨b,off+k,none⟩=some (.int .u32 X):=fun n=>kkeep (hG n) e1
     have c1:∀ n,(G2 n).cell? ⟨b',off'+k,none⟩=some (.int .u32 X):=fun n=>kkeep (hG n) e2
     repeat (go_big_quiet_step (fail))
     refine wpQuiet_nil ?_
     rintro _ ⟨nq2,rfl⟩
     have gq:=hG nq2
     replace e1:=kkeep gq e1
     replace e2:=kkeep gq e2
     replace hg:=hg.trans gq
     clear c0 c1 hall hG gq
     go_wp2
     exact ⟨⟨k,_,hk2,rfl,by go_num,hg,hs2⟩,by simp [intOf]⟩
 ·rw [dgt cST]
  have t1:¬ ((S:Int)<(T:Int)):=by omega
  have t2:(T:Int)<(S:Int):=by omega
  clear dlt dgt deq tlt tgt HX HY HN cST lS lT
  go_enter Tryz.func134,Tryz.ntmps134
  go_wp2_with fail
  refine SM h1 ?_
  go_wp2_with fail
  refine SM h2 ?_
  go_wp2
  exact BR (v:=.int .i64 (1)) (by simp [results,Tryz.results134,go_sem] <;> simp only [*]) rfl ⟨rfl,hg⟩
theorem rplus_ (p q:Option Addr) (c d:Nat) (xs ys:List Int) (w:World) (hx:Arr w p xs) (hy:Arr w q ys) (hwx:Wd xs) (hwy:Wd ys) (lx:xs.length<1099511627776) (ly:ys.length<1099511627776) :
  Calls Tryz.prog 168 #[.slice p xs.length c,.slice q ys.length d] w fun e w'=>∃ v L,e=.returned v∧Own w' w.heap.size v (nz L)∧Wd L∧val L=val xs+val ys∧L.length≤1099511627776∧Kp w w':=by
 obtain ⟨N,hN⟩:∃ N,N=xs.length:=⟨_,rfl⟩
 obtain ⟨M,hM⟩:∃ M,M=ys.length:=⟨_,rfl⟩
 rw [← hN] at lx ⊢
 rw [← hM] at ly ⊢
 have HX:Hid (Arr w p xs):=hx
 have HY:Hid (Arr w q ys):=hy
 have HW:Hid (Wd xs∧Wd ys):=⟨hwx,hwy⟩
 have HN:Hid (N=xs.length∧M=ys.length∧N<1099511627776∧M<1099511627776):=⟨hN,hM,lx,ly⟩
 obtain ⟨i0,hi0,hi1,hi2,hi3⟩:=inf32p
 clear hN hM hx hy hwx hwy lx ly
 go_enter Tryz.func168,Tryz.ntmps168
 go_wp2
 go_loopw [5,6,7] (fun a cc i wr=>∃ (v:Value) (k C:Nat) (L:List Int),v=a∧cc=.int .u64 C∧i=.int .i64 k∧Own wr w.heap.size v L∧Kp w wr∧L.length=k∧Wd L∧C≤1∧val L+C*4294967296 ^ k=val (xs.take k)+val (ys.take k)∧k≤max N M) (fun _ _ i _=>max N M - (intOf i).toNat)
 case atStart=>exact ⟨_,0,0,[],rfl,rfl,rfl,Own.nil _ _,Kp.refl _,rfl,Wd.nil,by omega,by simp [val],by omega⟩
 case round =>
  obtain ⟨v,k,C,L,rfl,rfl,rfl,hown,hkp,hL,hw,hC,hv,hk⟩:=hrel
  obtain ⟨hN,hM,lx,ly⟩:=HN.out
  by_cases ca:k<N
  ·by_cases cb:k<M
   ·skip
    obtain ⟨b,off,rfl,hc⟩:=HX.out.at (k:=k) (by omega)
    have e1:=kkeep hkp (hc k (by omega))
    obtain ⟨b',off',rfl,hc'⟩:=HY.out.at (k:=k) (by omega)
    have e2:=kkeep hkp (hc' k (by omega))
    have wx:=HW.out.1 k
    have wy:=HW.out.2 k
    obtain ⟨S,hS⟩:∃ S:Nat,S=C+(xs.getD k 0).toNat+(ys.getD k 0).toNat:=⟨_,rfl⟩
    have hst:=plus_step L xs ys k C S hL hS hv
    obtain ⟨X,hX⟩:∃ X,X=xs.getD k 0:=⟨_,rfl⟩
    obtain ⟨Y,hY⟩:∃ Y,Y=ys.getD k 0:=⟨_,rfl⟩
    rw [← hX,← hY] at hS
    rw [← hX] at wx e1
    rw [← hY] at wy e2
    have f1:IntKind.u64.wrap X=X:=by rw [IntKind.wrap_u64];omega
    have f2:IntKind.u64.wrap Y=Y:=by rw [IntKind.wrap_u64];omega
    have f3:IntKind.u64.wrap ((C:Int)+X)=(C:Int)+X:=by rw [IntKind.wrap_u64];omega
    have f4:IntKind.u64.wrap ((C:Int)+X+Y)=(S:Int):=by rw [IntKind.wrap_u64];omega
    have f5:=and32 S (by omega)
    obtain ⟨Z,hZ⟩:∃ Z:Int,Z=((S % 4294967296:Nat):Int):=⟨_,rfl⟩
    rw [← hZ] at f5 hst
    have f6:IntKind.u32.wrap Z=Z:=by rw [IntKind.wrap_u32];omega
    have f7:(S:Int) / 4294967296=((S / 4294967296:Nat):Int):=by omega
    have hC':S / 4294967296≤1:=by omega
    obtain ⟨C',hC2⟩:∃ C':Nat,C'=S / 4294967296:=⟨_,rfl⟩
    rw [← hC2] at f7 hst hC'
    have hWL:Wd (L ++ [Z]):=hw.append (Wd.one (by omega))
    have hob:=own_block hown
    have hown':wr.ownsRow w.heap.size 120 1 v k (L.map (Value.int .u32)):=by rw [← hL];exact hown
    have hsz:=hkp.size
    have hkb:k<1099511627776:=by omega
    clear hc hc' HX HY HW HN hN hM hX hY hS hv hZ hC2 hown wx wy hw hC
    go_wp2_with (first | (at_builtin;refine wpList_append_own _ rfl _ _ 55 rfl w.heap.size 120 i0 (.int .u32 0) 1 4 Tryz.underlying55 hi0 hi1 hi2 hi3 rfl (by decide) _ _ _ rfl (hown'.alloc _) ⟨wr.heap.size,0,none⟩ 1 1 [.int .u32 Z] rfl rfl ?c1 ?c2 ?c3 ?c4 ?c5 ?_))
    case c1 =>
     intro j' u hj'
     match j',hj' with
     | 0,hj'=>simp at hj';subst hj';simp [Addr.add]
    case c2=>intro u hu;simp at hu;subst hu;rfl
    case c3=>unfold maxLen;omega
    case c4=>omega
    case c5=>simp;omega
    intro v' w1 hown2 hgrow _
    have hO:Own w1 w.heap.size v' (L ++ [Z]):=by refine Own.push ?_;rw [hL];exact hown2
    have hK2:Kp w w1:=(hkp.alloc _).grown hgrow hob
    clear hown2 hgrow hown' hkp hob hsz
    go_wp2
    exact ⟨⟨_,k+1,C',_,rfl,by go_num,by go_num,hO,hK2,by simp [hL],hWL,hC',hst,by omega⟩,by simp [intOf];omega⟩
   ·skip
    obtain ⟨b,off,rfl,hc⟩:=HX.out.at (k:=k) (by omega)
    have e1:=kkeep hkp (hc k (by omega))
    have wx:=HW.out.1 k
    have wy:=HW.out.2 k
    have hy0:ys.getD k 0=0:=getD_out ys k (by omega)
    obtain ⟨S,hS⟩:∃ S:Nat,S=C+(xs.getD k 0).toNat+(ys.getD k 0).toNat:=⟨_,rfl⟩
    have hst:=plus_step L xs ys k C S hL hS hv
    obtain ⟨X,hX⟩:∃ X,X=xs.getD k 0:=⟨_,rfl⟩
    obtain ⟨Y,hY⟩:∃ Y,Y=ys.getD k 0:=⟨_,rfl⟩
    rw [← hX,← hY] at hS
    rw [← hX] at wx e1
    rw [← hY] at wy hy0
    have f1:IntKind.u64.wrap X=X:=by rw [IntKind.wrap_u64];omega
    have f2:IntKind.u64.wrap Y=Y:=by rw [IntKind.wrap_u64];omega
    have f3:IntKind.u64.wrap ((C:Int)+X)=(S:Int):=by rw [IntKind.wrap_u64];omega
    have f5:=and32 S (by omega)
    obtain ⟨Z,hZ⟩:∃ Z:Int,Z=((S % 4294967296:Nat):Int):=⟨_,rfl⟩
    rw [← hZ] at f5 hst
    have f6:IntKind.u32.wrap Z=Z:=by rw [IntKind.wrap_u32];omega
    have f7:(S:Int) / 4294967296=((S / 4294967296:Nat):Int):=by omega
    have hC':S / 4294967296≤1:=by omega
    obtain ⟨C',hC2⟩:∃ C':Nat,C'=S / 4294967296:=⟨_,rfl⟩
    rw [← hC2] at f7 hst hC'
    have hWL:Wd (L ++ [Z]):=hw.append (Wd.one (by omega))
    have hob:=own_block hown
    have hown':wr.ownsRow w.heap.size 120 1 v k (L.map (Value.int .u32)):=by rw [← hL];exact hown
    have hsz:=hkp.size
    have hkb:k<1099511627776:=by omega
    clear hc HX HY HW HN hN hM hX hY hS hv hZ hC2 hown wx wy hw hC hy0
    go_wp2_with (first | (at_builtin;refine wpList_append_own _ rfl _ _ 55 rfl w.heap.size 120 i0 (.int .u32 0) 1 4 Tryz.underlying55 hi0 hi1 hi2 hi3 rfl (by decide) _ _ _ rfl (hown'.alloc _) ⟨wr.heap.size,0,none⟩ 1 1 [.int .u32 Z] rfl rfl ?c1 ?c2 ?c3 ?c4 ?c5 ?_))
    case c1 =>
     intro j' u hj'
     match j',hj' with
     | 0,hj'=>simp at hj';subst hj';simp [Addr.add]
    case c2=>intro u hu;simp at hu;subst hu;rfl
    case c3=>unfold maxLen;omega
    case c4=>omega
    case c5=>simp;omega
    intro v' w1 hown2 hgrow _
    have hO:Own w1 w.heap.size v' (L ++ [Z]):=by refine Own.push ?_;rw [hL];exact hown2
    have hK2:Kp w w1:=(hkp.alloc _).grown hgrow hob
    clear hown2 hgrow hown' hkp hob hsz
    go_wp2
    exact ⟨⟨_,k+1,C',_,rfl,by go_num,by go_num,hO,hK2,by simp [hL],hWL,hC',hst,by omega⟩,by simp [intOf];omega⟩
  ·by_cases cb:k<M
   ·skip
    obtain ⟨b',off',rfl,hc'⟩:=HY.out.at (k:=k) (by omega)
    have e2:=kkeep hkp (hc' k (by omega))
    have wx:=HW.out.1 k
    have wy:=HW.out.2 k
    have hx0:xs.getD k 0=0:=getD_out xs k (by omega)
    obtain ⟨S,hS⟩:∃ S:Nat,S=C+(xs.getD k 0).toNat+(ys.getD k 0).toNat:=⟨_,rfl⟩
    have hst:=plus_step L xs ys k C S hL hS hv
    obtain ⟨X,hX⟩:∃ X,X=xs.getD k 0:=⟨_,rfl⟩
    obtain ⟨Y,hY⟩:∃ Y,Y=ys.getD k 0:=⟨_,rfl⟩
    rw [← hX,← hY] at hS
    rw [← hX] at wx hx0
    rw [← hY] at wy e2
    have f1:IntKind.u64.wrap X=X:=by rw [IntKind.wrap_u64];omega
    have f2:IntKind.u64.wrap Y=Y:=by rw [IntKind.wrap_u64];omega
    have f3:IntKind.u64.wrap ((C:Int)+Y)=(S:Int):=by rw [IntKind.wrap_u64];omega
    have f5:=and32 S (by omega)
    obtain ⟨Z,hZ⟩:∃ Z:Int,Z=((S % 4294967296:Nat):Int):=⟨_,rfl⟩
    rw [← hZ] at f5 hst
    have f6:IntKind.u32.wrap Z=Z:=by rw [IntKind.wrap_u32];omega
    have f7:(S:Int) / 4294967296=((S / 4294967296:Nat):Int):=by omega
    have hC':S / 4294967296≤1:=by omega
    obtain ⟨C',hC2⟩:∃ C':Nat,C'=S / 4294967296:=⟨_,rfl⟩
    rw [← hC2] at f7 hst hC'
    have hWL:Wd (L ++ [Z]):=hw.append (Wd.one (by omega))
    have hob:=own_block hown
    have hown':wr.ownsRow w.heap.size 120 1 v k (L.map (Value.int .u32)):=by rw [← hL];exact hown
    have hsz:=hkp.size
    have hkb:k<1099511627776:=by omega
    clear hc' HX HY HW HN hN hM hX hY hS hv hZ hC2 hown wx wy hw hC hx0
    go_wp2_with (first | (at_builtin;refine wpList_append_own _ rfl _ _ 55 rfl w.heap.size 120 i0 (.int .u32 0) 1 4 Tryz.underlying55 hi0 hi1 hi2 hi3 rfl (by decide) _ _ _ rfl (hown'.alloc _) ⟨wr.heap.size,0,none⟩ 1 1 [.int .u32 Z] rfl rfl ?c1 ?c2 ?c3 ?c4 ?c5 ?_))
    case c1 =>
     intro j' u hj'
     match j',hj' with
     | 0,hj'=>simp at hj';subst hj';simp [Addr.add]
    case c2=>intro u hu;simp at hu;subst hu;rfl
    case c3=>unfold maxLen;omega
    case c4=>omega
    case c5=>simp;omega
    intro v' w1 hown2 hgrow _
    have hO:Own w1 w.heap.size v' (L ++ [Z]):=by refine Own.push ?_;rw [hL];exact hown2
    have hK2:Kp w w1:=(hkp.alloc _).grown hgrow hob
    clear hown2 hgrow hown' hkp hob hsz
    go_wp2
    exact ⟨⟨_,k+1,C',_,rfl,by go_num,by go_num,hO,hK2,by simp [hL],hWL,hC',hst,by omega⟩,by simp [intOf];omega⟩
   ·have hv2:val (L ++ [(C:Int)])=val xs+val ys:=by
     rw [List.take_of_length_le (by omega),List.take_of_length_le (by omega)] at hv
     rw [val_append,hL]
     simp only [val,Int.toNat_natCast,Nat.mul_zero,Nat.add_zero]
     rw [Nat.mul_comm];exact hv
    have hWL:Wd (L ++ [(C:Int)]):=hw.append (Wd.one (by omega))
    have hob:=own_block hown
    have hown':wr.ownsRow w.heap.size 120 1 v k (L.map (Value.int .u32)):=by rw [← hL];exact hown
    have hsz:=hkp.size
    have f6:IntKind.u32.wrap (C:Int)=(C:Int):=by rw [IntKind.wrap_u32];omega
    have hkb:k<1099511627776:=by omega
    clear HX HY HW HN hN hM hv hown hw hC
    go_wp2_with (first | (at_builtin;refine wpList_append_own _ rfl _ _ 55 rfl w.heap.size 120 i0 (.int .u32 0) 1 4 Tryz.underlying55 hi0 hi1 hi2 hi3 rfl (by decide) _ _ _ rfl (hown'.alloc _) ⟨wr.heap.size,0,none⟩ 1 1 [.int .u32 (C:Int)] rfl rfl ?c1 ?c2 ?c3 ?c4 ?c5 ?_))
    case c1 =>
     intro j' u hj'
     match j',hj' with
     | 0,hj'=>simp at hj';subst hj';simp [Addr.add]
    case c2=>intro u hu;simp at hu;subst hu;rfl
    case c3=>unfold maxLen;omega
    case c4=>omega
    case c5=>simp;omega
    intro v' w1 hown2 hgrow _
    have hO:Own w1 w.heap.size v' (L ++ [(C:Int)]):=by refine Own.push ?_;rw [hL];exact hown2
    have hK2:Kp w w1:=(hkp.alloc _).grown hgrow hob
    have hll:(L ++ [(C:Int)]).length≤1099511627776:=by simp [hL];omega
    clear hown2 hgrow hown' hkp hob hsz
    obtain ⟨p',c',rfl,hA,_⟩:=hO.arr
    have hno:=rnorm_ p' c' (L ++ [(C:Int)]) w1 hA hll
    obtain ⟨LL,hLL⟩:∃ LL,LL=L ++ [(C:Int)]:=⟨_,rfl⟩
    rw [← hLL] at hno hv2 hWL hA hll
    have hl2:(L ++ [(C:Int)]).length=LL.length:=by rw [hLL]
    clear hO hLL
    go_wp2_with fail
    refine hno.mono ?_
    rintro e w2 ⟨v2,rfl,hO2,hk2⟩
    clear hno hA f6
    go_wp2
    exact BR (v:=v2) (by simp [results,Tryz.results168,go_sem] <;> simp only [*]) rfl ⟨v2,LL,rfl,hO2.mono hK2.size,hWL,hv2,hll,hK2.trans hk2⟩
theorem rguess_ (p q:Option Addr) (c d:Nat) (zs ys:List Int) (w:World) (hz:Arr w p zs) (hy:Arr w q ys) (hwz:Wd zs) (hwy:Wd ys) (hl:zs.length=ys.length+1) (h1:1≤ys.length) (ly:ys.length≤1048577) :
  Calls Tryz.prog 203 #[.slice p zs.length c,.slice q ys.length d] w fun e w'=>e=.returned (.int .u64 (guessN (zs.getD ys.length 0).toNat (zs.getD (ys.length - 1) 0).toNat (ys.getD (ys.length - 1) 0).toNat:Nat))∧Kp w w':=by
 obtain ⟨M,hM⟩:∃ M,M=ys.length:=⟨_,rfl⟩
 obtain ⟨k,hk⟩:∃ k,k=M - 1:=⟨_,rfl⟩
 obtain ⟨b,off,rfl,hc⟩:=hz.at (k:=0) (by omega)
 obtain ⟨b',off',rfl,hc'⟩:=hy.at (k:=0) (by omega)
 have e1:=hc M (by omega)
 have e2:=hc k (by omega)
 have e3:=hc' k (by omega)
 have w1:=hwz M
 have w2:=hwz k
 have w3:=hwy k
 obtain ⟨z,hz9⟩:∃ z:Nat,(z:Int)=zs.getD M 0:=⟨_,Int.toNat_of_nonneg w1.1⟩
 obtain ⟨y,hy9⟩:∃ y:Nat,(y:Int)=zs.getD k 0:=⟨_,Int.toNat_of_nonneg w2.1⟩
 obtain ⟨v,hv9⟩:∃ v:Nat,(v:Int)=ys.getD k 0:=⟨_,Int.toNat_of_nonneg w3.1⟩
 rw [← hz9] at e1
 rw [← hy9] at e2
 rw [← hv9] at e3
 rw [← hM,← hk,← hz9,← hy9,← hv9,Int.toNat_natCast,Int.toNat_natCast,Int.toNat_natCast,hl,← hM]
 obtain ⟨S,hS⟩:∃ S,S=z*4294967296:=⟨_,rfl⟩
 obtain ⟨hd,hhd⟩:∃ hd,hd=z*4294967296+y:=⟨_,rfl⟩
 obtain ⟨v1,hv1⟩:∃ v1,v1=v+1:=⟨_,rfl⟩
 obtain ⟨x,hx⟩:∃ x,x=hd / v1:=⟨_,rfl⟩
 have hG:guessN z y v=if x=0 then 1 else x:=by unfold guessN;rw [← hhd,← hv1,← hx]
 rw [hG]
 have hx64:x≤hd:=by rw [hx];exact Nat.div_le_self _ _
 have f1:IntKind.u64.wrap (z:Int)=(z:Int):=by rw [IntKind.wrap_u64];omega
 have f2:IntKind.u64.wrap (y:Int)=(y:Int):=by rw [IntKind.wrap_u64];omega
 have f2b:IntKind.u64.wrap (v:Int)=(v:Int):=by rw [IntKind.wrap_u64];omega
 have f2c:IntKind.u64.wrap ((v:Int)+1)=(v1:Int):=by rw [IntKind.wrap_u64];omega
 have f3:IntKind.u64.wrap ((z:Int)*4294967296)=(S:Int):=by rw [IntKind.wrap_u64];omega
 have f4:bits BinOp.or IntKind.u64 (S:Int) (y:Int)=(hd:Int):=by
  rw [hS,bits_or_u64_nat (z*4294967296) y (by omega) (by omega)]
  have e2:z*4294967296 ||| y=hd:=by
   rw [Nat.or_comm,hhd]
   have:=or_low y z 32 (by omega)
   rw [show (2:Nat) ^ 32=4294967296 from rfl] at this
   omega
  rw [e2]
 have fq:(hd:Int) / (v1:Int)=(x:Int):=by rw [hx];exact (Int.natCast_ediv hd v1).symm
 have fq2:Int.tdiv (hd:Int) (v1:Int)=(x:Int):=by rw [hx];rfl
 have fq3:IntKind.u64.wrap (x:Int)=(x:Int):=by rw [IntKind.wrap_u64];omega
 have t0:¬ v1=0:=by omega
 have g1:IntKind.i64.wrap ((M:Int) - 1)=(k:Int):=by rw [IntKind.wrap_i64];omega
 have i0:(M:Int)<(M:Int)+1:=by omega
 have i1:(k:Int)<(M:Int)+1:=by omega
 have i2:(k:Int)<(M:Int):=by omega
 clear hz hy hwz hwy hl h1 ly hc hc' w1 w2 w3 hz9 hy9 hv9 hhd hv1 hS hx hG hx64 hM hk
 by_cases cx:x=0
 ·subst cx
  rw [if_pos rfl]
  go_enter Tryz.func203,Tryz.ntmps203
  go_wp2
  go_region_held3 (fun w'=>w'.cell? ⟨b,off+M,none⟩=some (.int .u32 (z:Int))∧w'.cell? ⟨b,off+k,none⟩=some (.int .u32 (y:Int))∧w'.cell? ⟨b',off'+k,none⟩=some (.int .u32 (v:Int))) (exact ⟨e1,e2,e3⟩) (fail)
  clear fq fq2 fq3 f1 f2 f2b f2c f3 f4 t0 e1 e2 e3 i0 i1 i2 g1
  go_wp2
  exact BR (v:=.int .u64 ((1:Nat):Int)) (by simp [results,Tryz.results203,go_sem]) rfl ⟨rfl,(Kp.refl _).drew⟩
 ·rw [if_neg cx]
  have t1:((x:Int) == 0)=false:=by simp;omega
  go_enter Tryz.func203,Tryz.ntmps203
  go_wp2
  go_region_held3 (fun w'=>w'.cell? ⟨b,off+M,none⟩=some (.int .u32 (z:Int))∧w'.cell? ⟨b,off+k,none⟩=some (.int .u32 (y:Int))∧w'.cell? ⟨b',off'+k,none⟩=some (.int .u32 (v:Int))) (exact ⟨e1,e2,e3⟩) (fail)
  clear fq fq2 fq3 f1 f2 f2b f2c f3 f4 t0 e1 e2 e3 i0 i1 i2 g1
  go_wp2
  exact BR (v:=.int .u64 (x:Int)) (by simp [results,Tryz.results203,go_sem]) rfl ⟨rfl,(Kp.refl _).drew⟩
theorem rsubt_ (g n d X:Nat) (q:Option Addr) (zs ys:List Int) (w:World) (hr:Rw w g n zs) (hzl:zs.length=n) (hwz:Wd zs) (hy:Arr w q ys) (hwy:Wd ys) (hX:X<4294967296) (hq:0<ys.length→∀ b off,q=some ⟨b,off,none⟩→b≠g) (hin:ys.length+1=n) (hn:n≤16777216) (hle:val ys*X≤val zs) :
  Calls Tryz.prog 204 #[.slice (some ⟨g,0,none⟩) n n,.slice q ys.length d,.int .u64 (X:Int)] w fun e w'=>∃ us:List Int,e=.returned (.tuple #[])∧Rw w' g n us∧us.length=n∧Wd us∧val us=val zs - val ys*X∧Kb g w w':=by
 obtain ⟨M,hM⟩:∃ M,M=ys.length:=⟨_,rfl⟩
 rw [← hM] at hin ⊢
 have HY:Hid (Arr w q ys∧(0<ys.length→∀ b off,q=some ⟨b,off,none⟩→b≠g)∧val ys*X≤val zs):=⟨hy,hq,hle⟩
 have HW:Hid (Wd ys∧M=ys.length):=⟨hwy,hM⟩
 have HZ:Hid (Rw w g n zs∧zs.length=n∧Wd zs):=⟨hr,hzl,hwz⟩
 clear hy hq hwy hM hr hzl hwz hle
 go_enter Tryz.func204,Tryz.ntmps204
 go_wp2
 go_loopw [6,7,8] (fun oo bb ii wr=>∃ (k O b:Nat) (us:List Int),oo=.int .u64 (O:Int)∧bb=.int .u64 (b:Int)∧ii=.int .i64 k∧k≤n∧Rw wr g n us∧us.length=n∧Wd us∧O<4294967296∧b≤1∧val us+val (ys.take k)*X=val zs+(O+b)*4294967296 ^ k∧Kb g w wr) (fun _ _ i _=>n - (intOf i).toNat)
 case atStart=>exact ⟨0,0,0,zs,rfl,rfl,rfl,Nat.zero_le _,HZ.out.1,HZ.out.2.1,HZ.out.2.2,by omega,by omega,by simp [val],Kb.refl _ _⟩
 case round =>
  obtain ⟨k,O,bo,us,rfl,rfl,rfl,hk,hrow,hul,hwu,hO,hbo,hv,hkb⟩:=hrel
  obtain ⟨hwy,hM⟩:=HW.out
  by_cases ck:k<n
  ·have e1:=World.rowIs.cell hrow (i:=k) (by omega)
   have e4:=World.rowIs.frozen hrow k
   have wz:=hwu k
   obtain ⟨Z0,hZ0⟩:∃ Z0:Nat,(Z0:Int)=us.getD k 0:=⟨(us.getD k 0).toNat,by omega⟩
   rw [← hZ0] at e1
   have i1:(k:Int)<(n:Int):=by omega
   have i0:(0:Int)≤(k:Int):=by omega
   have ckn:k+1≤n:=by omega
   by_cases cm:k<M
   ·obtain ⟨b',off',rfl,hc'⟩:=HY.out.1.at (k:=k) (by omega)
    have hbg:=HY.out.2.1 (by omega) b' off' rfl
    have e2:=hkb.arr hbg (hc' k (by omega))
    have wy:=hwy k
    obtain ⟨Y,hY⟩:∃ Y:Nat,(Y:Int)=ys.getD k 0:=⟨(ys.getD k 0).toNat,by omega⟩
    rw [← hY] at e2
    have hYe:(ys.getD k 0).toNat=Y:=by rw [← hY,Int.toNat_natCast]
    have hmw:=mul_word Y X O 0 (by omega) hX hO (by omega)
    obtain ⟨P,hP⟩:∃ P,P=Y*X:=⟨_,rfl⟩
    rw [← hP] at hmw
    have f1:IntKind.u64.wrap (Y:Int)=(Y:Int):=by rw [IntKind.wrap_u64];omega
    have f2:IntKind.u64.wrap ((Y:Int)*(X:Int))=(P:Int):=by
     have:(Y:Int)*(X:Int)=(P:Int):=by rw [hP];exact (Int.natCast_mul Y X).symm
     rw [this,IntKind.wrap_u64];omega
    obtain ⟨S,hS⟩:∃ S:Nat,S=O+P:=⟨_,rfl⟩
    have f3:IntKind.u64.wrap ((O:Int)+(P:Int))=(S:Int):=by rw [IntKind.wrap_u64];omega
    have i2:(k:Int)<(M:Int):=by omega
    clear hc' hbg wy hY
    have f8:=and32 S (by omega)
    obtain ⟨lw,hlw⟩:∃ lw:Nat,lw=S % 4294967296:=⟨_,rfl⟩
    obtain ⟨H,hH⟩:∃ H:Nat,H=S / 4294967296:=⟨_,rfl⟩
    rw [← hlw] at f8
    have f9:(S:Int) / 4294967296=(H:Int):=by omega
    obtain ⟨tk,htk⟩:∃ tk:Nat,tk=lw+bo:=⟨_,rfl⟩
    have f10:IntKind.u64.wrap ((lw:Int)+(bo:Int))=(tk:Int):=by rw [IntKind.wrap_u64];omega
    have f11:IntKind.u64.wrap (Z0:Int)=(Z0:Int):=by rw [IntKind.wrap_u64];omega
    by_cases ct:Z0<tk
    ·have t3:((Z0:Int)<(tk:Int)):=by omega
     obtain ⟨D,hD⟩:∃ D:Nat,D=Z0+4294967296 - tk:=⟨_,rfl⟩
     obtain ⟨Z1,hZ1⟩:∃ Z1:Nat,Z1=Z0+4294967296:=⟨_,rfl⟩
     have f12:IntKind.u64.wrap ((Z0:Int)+4294967296)=(Z1:Int):=by rw [IntKind.wrap_u64];omega
     have f13:IntKind.u64.wrap ((Z1:Int) - (tk:Int))=(D:Int):=by rw [IntKind.wrap_u64];omega
     have f14:IntKind.u32.wrap (D:Int)=(D:Int):=by rw [IntKind.wrap_u32];omega
     have hst:=subt_step us ys 0 k O bo 1 H lw D Y Z0 X (val zs) (by omega) (by rw [Nat.zero_add];exact hZ0.symm) hYe (by rw [← hP];omega) (by omega) (by simpa only [Nat.pow_zero,Nat.mul_one,Nat.zero_add] using hv)
     simp only [Nat.pow_zero,Nat.mul_one,Nat.zero_add] at hst
     have hH32:H<4294967296:=by omega
     have hw2:Wd (us.set k (D:Int)):=hwu.set k D (by omega)
     have hl2:(us.set k (D:Int)).length=n:=by rw [List.length_set];exact hul
     have hR:=hrow.set k (D:Int) (by omega)
     have hK:=hkb.setCell k (.int .u32 (D:Int))
     have HF:Hid (Rw (wr.setCell ⟨g,k,none⟩ (.int .u32 (D:Int))) g n (us.set k (D:Int))∧(us.set k (D:Int)).length=n∧Wd (us.set k (D:Int))∧H<4294967296∧val (us.set k (D:Int))+val (ys.take (k+1))*X=val zs+(H+1)*4294967296 ^ (k+1)∧Kb g w (wr.setCell ⟨g,k,none⟩ (.int .u32 (D:Int)))):=⟨hR,hl2,hw2,hH32,hst,hK⟩
     clear HY HW HZ hwy hM hYe hZ0 hlw hH hS hv hP wz hwu hO hbo hul hmw hD htk hrow hkb hst hH32 hw2 hl2 hR hK ct hZ1 hk
     go_wp2
     obtain ⟨a1,a2,a3,a4,a5,a6⟩:=HF.out
     exact ⟨⟨k+1,H,1,us.set k (D:Int),rfl,rfl,by go_num,ckn,a1,a2,a3,a4,by omega,a5,a6⟩,by simp [intOf];omega⟩
    ·have t3:¬ ((Z0:Int)<(tk:Int)):=by omega
     obtain ⟨D,hD⟩:∃ D:Nat,D=Z0 - tk:=⟨_,rfl⟩
     have f13:IntKind.u64.wrap ((Z0:Int) - (tk:Int))=(D:Int):=by rw [IntKind.wrap_u64];omega
     have f14:IntKind.u32.wrap (D:Int)=(D:Int):=by rw [IntKind.wrap_u32];omega
     have hst:=subt_step us ys 0 k O bo 0 H lw D Y Z0 X (val zs) (by omega) (by rw [Nat.zero_add];exact hZ0.symm) hYe (by rw [← hP];omega) (by omega) (by simpa only [Nat.pow_zero,Nat.mul_one,Nat.zero_add] using hv)
     simp only [Nat.pow_zero,Nat.mul_one,Nat.zero_add] at hst
     have hH32:H<4294967296:=by omega
     have hw2:Wd (us.set k (D:Int)):=hwu.set k D (by omega)
     have hl2:(us.set k (D:Int)).length=n:=by rw [List.length_set];exact hul
     have hR:=hrow.set k (D:Int) (by omega)
     have hK:=hkb.setCell k (.int .u32 (D:Int))
     have HF:Hid (Rw (wr.setCell ⟨g,k,none⟩ (.int .u32 (D:Int))) g n (us.set k (D:Int))∧(us.set k (D:Int)).length=n∧Wd (us.set k (D:Int))∧H<4294967296∧val (us.set k (D:Int))+val (ys.take (k+1))*X=val zs+(H+0)*4294967296 ^ (k+1)∧Kb g w (wr.setCell ⟨g,k,none⟩ (.int .u32 (D:Int)))):=⟨hR,hl2,hw2,hH32,hst,hK⟩
     clear HY HW HZ hwy hM hYe hZ0 hlw hH hS hv hP wz hwu hO hbo hul hmw hD htk hrow hkb hst hH32 hw2 hl2 hR hK ct hk
     go_wp2
     obtain ⟨a1,a2,a3,a4,a5,a6⟩:=HF.out
     exact ⟨⟨k+1,H,0,us.set k (D:Int),rfl,rfl,by go_num,ckn,a1,a2,a3,a4,by omega,a5,a6⟩,by simp [intOf];omega⟩
   ·obtain ⟨Y,hYz⟩:∃ Y:Nat,Y=0:=⟨_,rfl⟩
    have hYe:(ys.getD k 0).toNat=Y:=by
     rw [hYz];simp [List.getD,List.getElem?_eq_none (show ys.length≤k from by omega)]
    obtain ⟨P,hP⟩:∃ P,P=Y*X:=⟨_,rfl⟩
    have hP0:P=0:=by rw [hP,hYz,Nat.zero_mul]
    obtain ⟨S,hS⟩:∃ S:Nat,S=O:=⟨_,rfl⟩
    have hmw:O<4294967296:=hO
    rw [← hS]
    have hSO:=hS.symm
    have i2:¬ (k:Int)<(M:Int):=by omega
    clear hYz
    have f8:=and32 S (by omega)
    obtain ⟨lw,hlw⟩:∃ lw:Nat,lw=S % 4294967296:=⟨_,rfl⟩
    obtain ⟨H,hH⟩:∃ H:Nat,H=S / 4294967296:=⟨_,rfl⟩
    rw [← hlw] at f8
    have f9:(S:Int) / 4294967296=(H:Int):=by omega
    obtain ⟨tk,htk⟩:∃ tk:Nat,tk=lw+bo:=⟨_,rfl⟩
    have f10:IntKind.u64.wrap ((lw:Int)+(bo:Int))=(tk:Int):=by rw [IntKind.wrap_u64];omega
    have f11:IntKind.u64.wrap (Z0:Int)=(Z0:Int):=by rw [IntKind.wrap_u64];omega
    by_cases ct:Z0<tk
    ·have t3:((Z0:Int)<(tk:Int)):=by omega
     obtain ⟨D,hD⟩:∃ D:Nat,D=Z0+4294967296 - tk:=⟨_,rfl⟩
     obtain ⟨Z1,hZ1⟩:∃ Z1:Nat,Z1=Z0+4294967296:=⟨_,rfl⟩
     have f12:IntKind.u64.wrap ((Z0:Int)+4294967296)=(Z1:Int):=by rw [IntKind.wrap_u64];omega
     have f13:IntKind.u64.wrap ((Z1:Int) - (tk:Int))=(D:Int):=by rw [IntKind.wrap_u64];omega
     have f14:IntKind.u32.wrap (D:Int)=(D:Int):=by rw [IntKind.wrap_u32];omega
     have hst:=subt_step us ys 0 k O bo 1 H lw D Y Z0 X (val zs) (by omega) (by rw [Nat.zero_add];exact hZ0.symm) hYe (by rw [← hP];omega) (by omega) (by simpa only [Nat.pow_zero,Nat.mul_one,Nat.zero_add] using hv)
     simp only [Nat.pow_zero,Nat.mul_one,Nat.zero_add] at hst
     have hH32:H<4294967296:=by omega
     have hw2:Wd (us.set k (D:Int)):=hwu.set k D (by omega)
     have hl2:(us.set k (D:Int)).length=n:=by rw [List.length_set];exact hul
     have hR:=hrow.set k (D:Int) (by omega)
     have hK:=hkb.setCell k (.int .u32 (D:Int))
     have HF:Hid (Rw (wr.setCell ⟨g,k,none⟩ (.int .u32 (D:Int))) g n (us.set k (D:Int))∧(us.set k (D:Int)).length=n∧Wd (us.set k (D:Int))∧H<4294967296∧val (us.set k (D:Int))+val (ys.take (k+1))*X=val zs+(H+1)*4294967296 ^ (k+1)∧Kb g w (wr.setCell ⟨g,k,none⟩ (.int .u32 (D:Int)))):=⟨hR,hl2,hw2,hH32,hst,hK⟩
     clear hSO hP0 HY HW HZ hwy hM hYe hZ0 hlw hH hS hv hP wz hwu hO hbo hul hmw hD htk hrow hkb hst hH32 hw2 hl2 hR hK ct hZ1 hk
     go_wp2
     obtain ⟨a1,a2,a3,a4,a5,a6⟩:=HF.out
     exact ⟨⟨k+1,H,1,us.set k (D:Int),rfl,rfl,by go_num,ckn,a1,a2,a3,a4,by omega,a5,a6⟩,by simp [intOf];omega⟩
    ·have t3:¬ ((Z0:Int)<(tk:Int)):=by omega
     obtain ⟨D,hD⟩:∃ D:Nat,D=Z0 - tk:=⟨_,rfl⟩
     have f13:IntKind.u64.wrap ((Z0:Int) - (tk:Int))=(D:Int):=by rw [IntKind.wrap_u64];omega
     have f14:IntKind.u32.wrap (D:Int)=(D:Int):=by rw [IntKind.wrap_u32];omega
     have hst:=subt_step us ys 0 k O bo 0 H lw D Y Z0 X (val zs) (by omega) (by rw [Nat.zero_add];exact hZ0.symm) hYe (by rw [← hP];omega) (by omega) (by simpa only [Nat.pow_zero,Nat.mul_one,Nat.zero_add] using hv)
     simp only [Nat.pow_zero,Nat.mul_one,Nat.zero_add] at hst
     have hH32:H<4294967296:=by omega
     have hw2:Wd (us.set k (D:Int)):=hwu.set k D (by omega)
     have hl2:(us.set k (D:Int)).length=n:=by rw [List.length_set];exact hul
     have hR:=hrow.set k (D:Int) (by omega)
     have hK:=hkb.setCell k (.int .u32 (D:Int))
     have HF:Hid (Rw (wr.setCell ⟨g,k,none⟩ (.int .u32 (D:Int))) g n (us.set k (D:Int))∧(us.set k (D:Int)).length=n∧Wd (us.set k (D:Int))∧H<4294967296∧val (us.set k (D:Int))+val (ys.take (k+1))*X=val zs+(H+0)*4294967296 ^ (k+1)∧Kb g w (wr.setCell ⟨g,k,none⟩ (.int .u32 (D:Int)))):=⟨hR,hl2,hw2,hH32,hst,hK⟩
     clear hSO hP0 HY HW HZ hwy hM hYe hZ0 hlw hH hS hv hP wz hwu hO hbo hul hmw hD htk hrow hkb hst hH32 hw2 hl2 hR hK ct hk
     go_wp2
     obtain ⟨a1,a2,a3,a4,a5,a6⟩:=HF.out
     exact ⟨⟨k+1,H,0,us.set k (D:Int),rfl,rfl,by go_num,ckn,a1,a2,a3,a4,by omega,a5,a6⟩,by simp [intOf];omega⟩
  ·have hkn:k=n:=by omega
   subst hkn
   have hle:=HY.out.2.2
   rw [List.take_of_length_le (by omega)] at hv
   obtain ⟨hC,hvv⟩:=rsubt_end us zs (val ys) X (O+bo) k hul hwu hle hv
   have i2:¬ ((k:Int)<(k:Int)):=by omega
   have HF:Hid (Rw wr g k us∧us.length=k∧Wd us∧val us=val zs - val ys*X∧Kb g w wr):=⟨hrow,hul,hwu,hvv,hkb⟩
   clear HY HW HZ hwy hM hk ck hrow hul hwu hO hbo hv hkb hC hvv hle
   go_wp2
   exact bodyPost_end (v:=.tuple #[]) (by kernel_rfl) rfl ⟨rfl,us,HF.out⟩
end Go.Proofs.YtmpjcknaelgnoaaGreatDoor
