import Derived.Test.YtmpjcknaelgnoaaGreatDoorKBW
import Derived.Test.YtmpjcknaelgnoaaGreatDoorKXRL
set_option maxHeartbeats 1000000
set_option maxRecDepth 20000
namespace Go.Proofs.YtmpjcknaelgnoaaGreatDoor
open Go.RowKit
def ByS (w wq:World) (pu pv:Option Addr) (us vs qs:List Int) (gq L:Nat):Prop:=Arr wq pu us∧Arr wq pv vs∧Rw wq gq L qs∧Kp w wq
theorem arr_kb {g:Nat} {w w':World} {p:Option Addr} {xs:List Int} (h:Arr w p xs) (k:Kb g w w') (hne:∀ b off,p=some ⟨b,off,none⟩→b≠g):Arr w' p xs:=by
 rcases h with h | ⟨b,off,h1,h2⟩
 ·exact Or.inl h
 ·exact Or.inr ⟨b,off,h1,fun j hj=>k.arr (hne b off h1) (h2 j hj)⟩
theorem ByS.kb {w wq w':World} {pu pv:Option Addr} {us vs qs:List Int} {gq L g:Nat} (h:ByS w wq pu pv us vs qs gq L) (k:Kb g wq w') (h1:∀ b off,pu=some ⟨b,off,none⟩→b≠g) (h2:∀ b off,pv=some ⟨b,off,none⟩→b≠g) (h3:gq≠g) (h4:w.heap.size≤g):ByS w w' pu pv us vs qs gq L :=
 ⟨arr_kb h.1 k h1,arr_kb h.2.1 k h2,h.2.2.1.kb k h3,k.kp h.2.2.2 h4⟩
theorem ByS.kp {w wq w':World} {pu pv:Option Addr} {us vs qs:List Int} {gq L:Nat} (h:ByS w wq pu pv us vs qs gq L) (k:Kp wq w'):ByS w w' pu pv us vs qs gq L :=
 ⟨h.1.grown k,h.2.1.grown k,h.2.2.1.grown k,h.2.2.2.trans k⟩
theorem rby_ (p q:Option Addr) (c d:Nat) (xs ys:List Int) (w:World) (hx:Arr w p xs) (hy:Arr w q ys) (hwx:Wd xs) (hwy:Wd ys) (lx:xs.length≤1048576) (ly:ys.length≤1048576) (ht16:tl ys≤262144) (h0:0<val ys) :
  Calls Tryz.prog 167 #[.slice p xs.length c,.slice q ys.length d] w fun e w'=>∃ v,e=.returned v∧Two w' w.heap.size (dig (val xs / val ys)) (dig (val xs % val ys)) v∧Kp w w':=by
 have hcm:=rcmp_ p q c d xs ys w hx hy hwx hwy (by omega) (by omega)
 by_cases ca:val xs<val ys
 ·rw [cmpN_lt ca] at hcm
  have hnm:=fun w' h=>rnorm_ p c xs w' (hx.grown h) (by omega)
  have e1:val xs / val ys=0:=Nat.div_eq_of_lt ca
  have e2:val xs % val ys=val xs:=Nat.mod_eq_of_lt ca
  rw [e1,e2,dig_zero,← nz_dig xs hwx]
  obtain ⟨N,hN⟩:∃ N,N=xs.length:=⟨_,rfl⟩
  obtain ⟨M,hM⟩:∃ M,M=ys.length:=⟨_,rfl⟩
  rw [← hN] at hcm hnm
  rw [← hM] at hcm
  rw [← hN,← hM]
  clear hx hy hwx hwy lx ly ht16 h0 ca e1 e2 hN hM
  go_enter Tryz.func167,Tryz.ntmps167
  go_wp2_with fail
  refine hcm.mono ?_
  rintro e w1 ⟨rfl,hk1⟩
  clear hcm
  have hf1:=hnm w1 hk1
  clear hnm
  go_wp2_with fail
  refine hf1.mono ?_
  rintro e w2 ⟨v,rfl,hO,hk2⟩
  obtain ⟨pv,cv,rfl,_⟩:=hO.len
  have HZ:Hid (Two w2 w.heap.size [] (nz xs) (.tuple #[.slice none 0 0,.slice pv (nz xs).length cv])∧Kp w w2):=⟨⟨none,0,pv,cv,rfl,Own.nil _ _,hO.mono hk1.size,fun g e=>by cases e⟩,hk1.trans hk2⟩
  obtain ⟨K,hK⟩:∃ K,K=(nz xs).length:=⟨_,rfl⟩
  rw [← hK] at HZ ⊢
  clear hf1 hO hk2 hk1 hK
  go_wp2
  exact BR (v:=.tuple #[.slice none 0 0,.slice pv K cv]) (by simp [results,Tryz.results167,go_sem]) rfl ⟨_,rfl,HZ.out.1,HZ.out.2⟩
 ·obtain ⟨cc,hcc⟩:∃ cc,cc=cmpN (val xs) (val ys):=⟨_,rfl⟩
  rw [← hcc] at hcm
  have hc0:¬ (cc<0):=by
   rw [hcc];unfold cmpN;rw [if_neg ca];split <;> omega
  obtain ⟨t,ht⟩:∃ t,tl ys=t+1:=by
   refine ⟨tl ys - 1, ?_⟩
   have:tl ys≠0:=fun e=>by
    have h1:=val_tl ys
    rw [e,List.take_zero] at h1
    have:val ([]:List Int)=0:=rfl
    omega
   omega
  obtain ⟨hs1,ht0,hbl⟩:=shift_len ys hwy t ht
  have hty:=tl_le ys
  have hnt:(nz ys).getD t 0=ys.getD t 0:=by
   unfold nz
   simp [List.getD,show t<tl ys from by omega]
  obtain ⟨s,hs⟩:∃ s,s=32 - blen (ys.getD t 0).toNat:=⟨_,rfl⟩
  have wt:=hwy t
  have hs32:s<32:=(blen_range _ s ht0 (by omega) hs).1
  obtain ⟨hvl,hvt⟩:=norm_top (nz ys) (hwy.take _) t _ s (by rw [nz_length,ht]) (by rw [hnt]) ht0 hs
  rw [val_nz] at hvl hvt
  have hB:blen (val ys)≤33554432:=by
   have:=blen_len (val ys) ys.length (by rw [← tl_len ys hwy];exact hty)
   omega
  have hln:=fun w' h=>rlen_ q d ys w' (hy.grown h) hwy (by omega)
  have hl1:=fun w' h=>rleft_ p c s xs w' (hx.grown h) hwx lx (by omega)
  have hl2:=fun w' h=>rleft_ q d s ys w' (hy.grown h) hwy ly (by omega)
  obtain ⟨bl,hbl9⟩:∃ bl,bl=blen (val ys):=⟨_,rfl⟩
  rw [← hbl9] at hln hs1 hbl hB
  rw [← hs] at hs1
  obtain ⟨us,hus⟩:∃ us,us=dig (val xs*2 ^ s):=⟨_,rfl⟩
  obtain ⟨vs,hvs⟩:∃ vs,vs=dig (val ys*2 ^ s):=⟨_,rfl⟩
  rw [← hus] at hl1
  rw [← hvs] at hl2 hvl hvt
  have hwu:Wd us:=by rw [hus];exact Wd_dig _
  have hwv:Wd vs:=by rw [hvs];exact Wd_dig _
  have huv:val us=val xs*2 ^ s:=by rw [hus];exact val_dig _
  have hvv:val vs=val ys*2 ^ s:=by rw [hvs];exact val_dig _
  have hp:0<2 ^ s:=Nat.pow_pos (by omega)
  have hul:us.length≤1048577:=by
   have:=len_shift xs hwx s hs32
   rw [← hus] at this
   omega
  obtain ⟨N,hN⟩:∃ N,N=xs.length:=⟨_,rfl⟩
  obtain ⟨M0,hM0⟩:∃ M0,M0=ys.length:=⟨_,rfl⟩
  obtain ⟨L,hL⟩:∃ L,L=us.length:=⟨_,rfl⟩
  obtain ⟨M,hM⟩:∃ M,M=vs.length:=⟨_,rfl⟩
  obtain ⟨V,hV⟩:∃ V,V=val vs:=⟨_,rfl⟩
  obtain ⟨U,hU⟩:∃ U,U=val us:=⟨_,rfl⟩
  rw [← hN,← hM0] at hcm ⊢
  rw [← hN] at hl1
  rw [← hM0] at hl2 hln
  have lL:L≤1048577:=by omega
  have lM:M≤262144:=by omega
  have lM1:1≤M:=by omega
  obtain ⟨b1,hb1⟩:∃ b1,b1=bl - 1:=⟨_,rfl⟩
  obtain ⟨bm,hbm⟩:∃ bm,bm=(bl - 1) % 32:=⟨_,rfl⟩
  rw [← hbm] at hs1
  have f1:wrap64 ((bl:Int) - 1)=(b1:Int):=by
   rw [show (bl:Int) - 1=(b1:Int) from by omega];exact w64 _ (by omega) (by omega)
  have f2:Int.tmod (b1:Int) 32=(bm:Int):=by rw [hbm,← hb1];rfl
  have f3:wrap64 (31 - (bm:Int))=(s:Int):=by
   rw [show (31:Int) - (bm:Int)=(s:Int) from by omega];exact w64 _ (by omega) (by omega)
  have HA:Hid (L=us.length∧M=vs.length∧V=val vs∧U=val us∧Wd us∧Wd vs∧2147483648≤(vs.getD (M - 1) 0).toNat∧0<V):=⟨hL,hM,hV,hU,hwu,hwv,by rw [show M - 1=t from by omega];exact hvt,by rw [hV,hvv];exact Nat.mul_pos h0 hp⟩
  have HE:Hid (val us=val xs*2 ^ s∧val vs=val ys*2 ^ s∧s<32):=⟨huv,hvv,hs32⟩
  have hmk:∀ w:World,(Instr.makeSlice 55 (.int .i64 (L:Int)) (.int .i64 (L:Int))).run Tryz.prog w=.ok (.slice (some ⟨w.heap.size,0,none⟩) L L) (w.alloc (.cells (madeCells #[.int .u32 0] L) 120)):=mk32 L (by omega)
  have hmk2:∀ w:World,(Instr.makeSlice 55 (.int .i64 ((M:Int)+1)) (.int .i64 ((M:Int)+1))).run Tryz.prog w=.ok (.slice (some ⟨w.heap.size,0,none⟩) (M+1) (M+1)) (w.alloc (.cells (madeCells #[.int .u32 0] (M+1)) 120)):=by
   have:=mk32 (M+1) (by omega)
   rw [show ((M+1:Nat):Int)=(M:Int)+1 from by omega] at this
   exact this
  clear hx hy hwx hwy lx ly ht16 h0 ca hcc ht hs1 ht0 hbl hty hnt hs wt hs32 hvl hvt hB hbl9 hus hvs hwu hwv huv hvv hp hul hN hM0 hbm hb1 hL hM hV hU
  go_enter Tryz.func167,Tryz.ntmps167
  go_wp2_with fail
  refine hcm.mono ?_
  rintro e w1 ⟨rfl,hk1⟩
  clear hcm
  have hln1:=hln w1 hk1
  clear hln
  go_wp2_with fail
  refine hln1.mono ?_
  rintro e w1' ⟨rfl,hw1⟩
  obtain rfl:=hw1.symm
  clear hln1 hw1
  have hl1':=hl1 w1 hk1
  clear hl1
  go_wp2_with fail
  refine hl1'.mono ?_
  rintro e w2 ⟨vu,rfl,hOu,hk2⟩
  obtain ⟨pu,cu,rfl,hAu,_⟩:=hOu.arr
  have hl2':=hl2 w2 (hk1.trans hk2)
  rw [← HA.out.1]
  rw [f3]
  clear hl1' hl2 f1 f2 f3
  go_wp2_with fail
  refine hl2'.mono ?_
  rintro e w3 ⟨vv,rfl,hOv,hk3⟩
  obtain ⟨pv,cv,rfl,hAv,_⟩:=hOv.arr
  have hM:=HA.out.2.1
  rw [← hM]
  obtain ⟨gq,hgq⟩:∃ gq,gq=w3.heap.size:=⟨_,rfl⟩
  obtain ⟨w4,hw4⟩:∃ w4,w4=w3.alloc (.cells (madeCells #[.int .u32 0] L) 120):=⟨_,rfl⟩
  obtain ⟨gr,hgr⟩:∃ gr,gr=w4.heap.size:=⟨_,rfl⟩
  obtain ⟨w5,hw5⟩:∃ w5,w5=w4.alloc (.cells (madeCells #[.int .u32 0] (M+1)) 120):=⟨_,rfl⟩
  have hgr2:gq+1=gr:=by rw [hgr,hw4,hgq];simp
  have hk34:Kp w3 w4:=by rw [hw4];exact (Kp.refl w3).alloc _
  have hk45:Kp w4 w5:=by rw [hw5];exact (Kp.refl w4).alloc _
  have hrq:Rw w4 gq L (List.replicate L 0):=by rw [hw4,hgq];exact World.rowIs.congr (World.rowIs_made w3 (.int .u32 0) L 120) (fun j _=>by rw [rep0_getD])
  have hrr:Rw w5 gr (M+1) (List.replicate (M+1) 0):=by rw [hw5,hgr];exact World.rowIs.congr (World.rowIs_made w4 (.int .u32 0) (M+1) 120) (fun j _=>by rw [rep0_getD])
  have hk03:Kp w w3:=(hk1.trans hk2).trans hk3
  have hAu3:Arr w3 pu us:=hAu.grown hk3
  have low:∀ (pp:Option Addr) (ll:List Int),Arr w3 pp ll→0<ll.length→∀ b off,pp=some ⟨b,off,none⟩→b<w3.heap.size:=fun pp ll h1 h2 b off e=>by
   obtain ⟨b2,o2,h3,h4⟩:=h1.at (k:=0) h2
   rw [h3] at e
   cases e
   exact cell_lt (h4 0 h2)
  have hszq:w3.heap.size<w4.heap.size:=by rw [← hgq];exact World.rowIs.lt hrq
  have HB:Hid (w.heap.size≤gq∧w.heap.size≤gr∧gq≠gr∧(0<us.length→∀ b off,pu=some ⟨b,off,none⟩→b≠gq∧b≠gr)∧(∀ b off,pv=some ⟨b,off,none⟩→b≠gq∧b≠gr)):=⟨by rw [hgq];exact hk03.size,by have:=hk03.size;omega,by omega,fun h b off e=>by have:=low pu us hAu3 h b off e;omega,fun b off e=>by have:=low pv vs hAv (by omega) b off e;omega⟩
  have HS:Hid (Rw w5 gr (M+1) (List.replicate (M+1) 0)∧ByS w w5 pu pv us vs (List.replicate L 0) gq L):=⟨hrr,(hAu3.grown hk34).grown hk45,(hAv.grown hk34).grown hk45,hrq.grown hk45,(hk03.trans hk34).trans hk45⟩
  clear hl2' hk1 hk2 hk3 hOu hOv hAu hAv hk34 hk45 hrq hrr hk03 hAu3 low hszq hc0
  have HL:Hid (L=us.length∧M=vs.length∧V=val vs∧U=val us):=⟨HA.out.1,HA.out.2.1,HA.out.2.2.1,HA.out.2.2.2.1⟩
  clear hM
  go_wp2
  rw [← hgq,← hw4,hgr2,← hw5]
  clear hgq hw4 hgr hgr2 hw5 hmk hmk2
  go_loopw [11] (fun ii wr=>∃ (k:Nat) (rs qs:List Int),ii=.int .i64 ((k:Int) - 1)∧k≤L∧Rw wr gr (M+1) rs∧rs.length=M+1∧Wd rs∧qs.length=L∧Wd qs∧(∀ j,j<k→qs.getD j 0=0)∧val qs*V+val rs*4294967296 ^ k+val (us.take k)=U∧val rs<V∧ByS w wr pu pv us vs qs gq L) (fun i _=>(intOf i+1).toNat)
  case atStart =>
   obtain ⟨hL,hM,hV,hU⟩:=HL.out
   obtain ⟨hrr,hby⟩:=HS.out
   refine ⟨L,List.replicate (M+1) 0,List.replicate L 0,rfl,Nat.le_refl _,hrr,by simp,fun j=>by rw [rep0_getD];omega,by simp,fun j=>by rw [rep0_getD];omega,fun j _=>rep0_getD L j, ?_, ?_,hby⟩
   ·rw [val_zeros _ (fun j=>rep0_getD L j),val_zeros _ (fun j=>rep0_getD (M+1) j),Nat.zero_mul,Nat.zero_mul,Nat.zero_add,hL,List.take_length,hU]
   ·rw [val_zeros _ (fun j=>rep0_getD (M+1) j)];exact HA.out.2.2.2.2.2.2.2
  case round =>
   clear HS
   obtain ⟨k,rs,qs,rfl,hk,hrr,hrl,hwr,hql,hwq,hq0,hval,hlt,hby⟩:=hrel
   by_cases ck:k=0
   ·subst ck
    have e9:(((0:Nat):Int) - 1) = -1:=by omega
    rw [e9]
    obtain ⟨hL,hM,hV,hU⟩:=HL.out
    obtain ⟨huv,hvv,hs32⟩:=HE.out
    rw [Nat.pow_zero,Nat.mul_one,List.take_zero,show val ([]:List Int)=0 from rfl,Nat.add_zero] at hval
    obtain ⟨he1,he2⟩:=dw_end (val xs) (val ys) s (val qs) (val rs) (by rw [← hvv,← huv,← hV,← hU];exact hval) (by rw [← hvv,← hV];exact hlt)
    have hri:=rright_ (some ⟨gr,0,none⟩) (M+1) s rs wr (hrr.all hrl) hwr (by omega) (by omega)
    rw [he2,hrl] at hri
    have hno:=fun w' h=>rnorm_ (some ⟨gq,0,none⟩) L qs w' ((hby.2.2.1.grown h).all hql) (by omega)
    rw [hql,nz_dig qs hwq,he1] at hno
    obtain ⟨lost,hlost⟩:∃ lost,lost=decide (val rs % 2 ^ s≠0):=⟨_,rfl⟩
    rw [← hlost] at hri
    have HK:Hid (Kp w wr):=hby.2.2.2
    clear HA HL HE HB hk hrr hrl hwr hql hwq hq0 hval hlt hby he1 he2 hL hM hV hU huv hvv hs32 hlost
    go_wp2_with fail
    refine hri.mono ?_
    rintro e w2 ⟨vr,rfl,hOr,hk2⟩
    have hno2:=hno w2 hk2
    clear hri hno
    go_wp2_with fail
    refine hno2.mono ?_
    rintro e w3 ⟨vq,rfl,hOq,hk3⟩
    obtain ⟨pq,cq,rfl,hpq⟩:=hOq.len
    obtain ⟨pr,cr,rfl,hpr⟩:=hOr.len
    have hsz:=HK.out.size
    have hsz2:=hk2.size
    have hTwo:Two w3 w.heap.size (dig (val xs / val ys)) (dig (val xs % val ys)) (.tuple #[.slice pq (dig (val xs / val ys)).length cq,.slice pr (dig (val xs % val ys)).length cr]):=by
     refine ⟨pq,cq,pr,cr,rfl,hOq.mono (by omega),(hOr.kp hk3).mono hsz,fun g e e2=>?_⟩
     subst e e2
     have h1:=hOq.above.1
     have h2:=hOr.above.2
     omega
    have HZ:Hid (Two w3 w.heap.size (dig (val xs / val ys)) (dig (val xs % val ys)) (.tuple #[.slice pq (dig (val xs / val ys)).length cq,.slice pr (dig (val xs % val ys)).length cr])∧Kp w w3):=⟨hTwo,(HK.out.trans hk2).trans hk3⟩
    obtain ⟨K1,hK1⟩:∃ K1,K1=(dig (val xs / val ys)).length:=⟨_,rfl⟩
    obtain ⟨K2,hK2⟩:∃ K2,K2=(dig (val xs % val ys)).length:=⟨_,rfl⟩
    rw [← hK1,← hK2] at HZ ⊢
    clear hno2 hOr hOq hk2 hk3 hpq hpr hsz hsz2 hTwo hK1 hK2
    go_wp2
    exact BR (v:=.tuple #[.slice pq K1 cq,.slice pr K2 cr]) (by simp [results,Tryz.results167,go_sem]) rfl ⟨_,rfl,HZ.out.1,HZ.out.2⟩
   ·obtain ⟨r,rfl⟩:∃ r,k=r+1:=⟨k - 1,by omega⟩
    have e9:(((r+1:Nat):Int) - 1)=(r:Int):=by omega
    rw [e9]
    have HO:Hid (rs.length=M+1∧qs.length=L∧Wd qs∧(∀ j,j<r+1→qs.getD j 0=0)∧val qs*V+val rs*4294967296 ^ (r+1)+val (us.take (r+1))=U∧val rs<V∧r<L):=⟨hrl,hql,hwq,hq0,hval,hlt,by omega⟩
    have HR:Hid (Rw wr gr (M+1) rs∧Wd rs∧ByS w wr pu pv us vs qs gq L):=⟨hrr,hwr,hby⟩
    have lr:r≤1048577:=by omega
    clear hrr hrl hwr hql hwq hq0 hval hlt hby ck e9 hk
    go_wp2
    go_loopw [12] (fun jj wr=>∃ (j:Nat) (ts:List Int),jj=.int .i64 (j:Int)∧j≤M∧Rw wr gr (M+1) ts∧ts.length=M+1∧Wd ts∧(∀ t,t≤j→ts.getD t 0=rs.getD t 0)∧(∀ t,j<t→t≤M→ts.getD t 0=rs.getD (t - 1) 0)∧ByS w wr pu pv us vs qs gq L) (fun j _=>(intOf j).toNat)
    case atStart =>
     obtain ⟨h1,h2,h3⟩:=HR.out
     exact ⟨M,rs,by go_num,Nat.le_refl _,h1,HO.out.1,h2,fun t _=>rfl,fun t a b=>by omega,h3⟩
    case round =>
     clear HR
     obtain ⟨j,ts,rfl,hj,hrt,htl,hwt,hlo,hhi,hby⟩:=hrel
     by_cases cj:j=0
     ·subst cj
      have hrL:=HO.out.2.2.2.2.2.2
      obtain ⟨hL,hM,hV,hU⟩:=HL.out
      have hup:=hby.1
      obtain ⟨b,off,rfl,hc⟩:=hup.at (k:=r) (by omega)
      have e1:=hc r (by omega)
      have hne:=(HB.out.2.2.2.1 (by omega) b off rfl).2
      have wu:=HA.out.2.2.2.2.1 r
      obtain ⟨x,hx⟩:∃ x:Nat,(x:Int)=us.getD r 0:=⟨_,Int.toNat_of_nonneg wu.1⟩
      rw [← hx] at e1
      have e3:=World.rowIs.cell hrt (i:=0) (by omega)
      have e4:=World.rowIs.frozen hrt 0
      have hR0:=hrt.set 0 (x:Int) (by omega)
      have hKb:Kb gr wr (wr.setCell ⟨gr,0,none⟩ (.int .u32 (x:Int))):=(Kb.refl gr wr).setCell 0 _
      have hby2:=hby.kb hKb (fun b off e=>(HB.out.2.2.2.1 (by omega) b off e).2) (fun b off e=>(HB.out.2.2.2.2 b off e).2) HB.out.2.2.1 HB.out.2.1
      have hVB:V≤4294967296 ^ M:=by rw [hV,hM];exact Nat.le_of_lt (val_lt vs HA.out.2.2.2.2.2.1)
      have hf0:(ts.set 0 (x:Int)).getD 0 0=(x:Int):=by simp [List.getD,show 0<ts.length from by omega]
      have hft:∀ t,0<t→t≤M→(ts.set 0 (x:Int)).getD t 0=rs.getD (t - 1) 0:=fun t a b=>by
       rw [← hhi t a b];simp [List.getD,show ¬ 0=t from by omega]
      have hfl:(ts.set 0 (x:Int)).length=M+1:=by rw [List.length_set];exact htl
      obtain ⟨hT1,hT2⟩:=shift_all (ts.set 0 (x:Int)) rs x M V hfl HO.out.1 hVB HO.out.2.2.2.2.2.1 (by omega) hf0 hft
      have hwf:Wd (ts.set 0 (x:Int)):=hwt.set 0 x (by omega)
      obtain ⟨T,hT⟩:∃ T,T=val rs*4294967296+x:=⟨_,rfl⟩
      rw [← hT] at hT1
      rw [hT1] at hT2
      have HT:Hid (T=val rs*4294967296+x∧T<4294967296*V∧(us.getD r 0).toNat=x):=⟨hT,hT2,by rw [← hx];rfl⟩
      have HR:Hid (Rw (wr.setCell ⟨gr,0,none⟩ (.int .u32 (x:Int))) gr (M+1) (ts.set 0 (x:Int))∧(ts.set 0 (x:Int)).length=M+1∧Wd (ts.set 0 (x:Int))∧val (ts.set 0 (x:Int))=T∧ByS w (wr.setCell ⟨gr,0,none⟩ (.int .u32 (x:Int))) (some ⟨b,off,none⟩) pv us vs qs gq L):=⟨hR0,hfl,hwf,hT1,hby2⟩
      have i1:(r:Int)<(L:Int):=by omega
      have e3':wr.cell? ⟨gr,0,none⟩=some (.int .u32 (ts.getD 0 0)):=e3
      clear hrt htl hwt hlo hhi hby hj hrL hL hM hV hU hup hc hne wu hx hR0 hKb hby2 hVB hf0 hft hfl hT1 hT2 hwf hT
      go_wp2
      clear e1 e3 e3' e4
      go_loopw [13] (fun dd wr=>∃ (D:Nat) (ts:List Int),dd=.int .u64 (D:Int)∧Rw wr gr (M+1) ts∧ts.length=M+1∧Wd ts∧D*V+val ts=T∧ByS w wr (some ⟨b,off,none⟩) pv us vs qs gq L) (fun i _=>4294967296 - (intOf i).toNat)
      case atStart =>
       obtain ⟨h1,h2,h3,h4,h5⟩:=HR.out
       exact ⟨0,_,rfl,h1,h2,h3,by rw [Nat.zero_mul,Nat.zero_add];exact h4,h5⟩
      case round =>
       clear HR
       obtain ⟨D,fs,rfl,hrf,hfl,hwf,hDT,hby⟩:=hrel
       obtain ⟨hL,hM,hV,hU⟩:=HL.out
       have hwv:=HA.out.2.2.2.2.2.1
       have hcm:=rcmp_ (some ⟨gr,0,none⟩) pv (M+1) cv fs vs wr (hrf.all hfl) hby.2.1 hwf hwv (by omega) (by omega)
       rw [hfl,← hM,← hV] at hcm
       obtain ⟨cq,hcq⟩:∃ cq,cq=cmpN (val fs) V:=⟨_,rfl⟩
       rw [← hcq] at hcm
       by_cases cf:val fs<V
       ·have hc1:¬ (0≤cq):=by rw [hcq,cmpN_lt cf];omega
        have hD32:=by_out D V (val fs) T hDT HT.out.2.1
        obtain ⟨o1,o2,o3,o4,o5,o6,o7⟩:=HO.out
        have hst:=by_step qs us V r D T (val rs) (val fs) U x (by omega) (o4 r (by omega)) HT.out.2.2 HT.out.1 hDT o5
        have fD:IntKind.u32.wrap (D:Int)=(D:Int):=by rw [IntKind.wrap_u32];omega
        have i1:(r:Int)<(L:Int):=by omega
        have HF:Hid (Rw wr gr (M+1) fs∧fs.length=M+1∧Wd fs∧(qs.set r (D:Int)).length=L∧Wd (qs.set r (D:Int))∧(∀ j,j<r→(qs.set r (D:Int)).getD j 0=0)∧val (qs.set r (D:Int))*V+val fs*4294967296 ^ r+val (us.take r)=U∧val fs<V∧ByS w wr (some ⟨b,off,none⟩) pv us vs qs gq L∧r<L∧r<qs.length):=⟨hrf,hfl,hwf,by rw [List.length_set];exact o2,o3.set r D (by omega),fun j hj=>by
         have e2:(qs.set r (D:Int)).getD j 0=qs.getD j 0:=by simp [List.getD,show ¬ r=j from by omega]
         rw [e2,o4 j (by omega)],hst,cf,hby,o7,by omega⟩
        clear hrf hfl hwf hDT hby hL hM hV hU hwv hcq cf hD32 o1 o2 o3 o4 o5 o6 o7 hst
        go_wp2_with fail
        refine hcm.mono ?_
        rintro e w2 ⟨rfl,hk2⟩
        obtain ⟨a1,a2,a3,a4,a5,a6,a7,a8,a9,a10,a11⟩:=HF.out
        have a9':=a9.kp hk2
        have e3:=World.rowIs.cell a9'.2.2.1 (i:=r) a10
        have e4:=World.rowIs.frozen a9'.2.2.1 r
        have hRq:=a9'.2.2.1.set r (D:Int) a11
        have hKq:Kb gq w2 (w2.setCell ⟨gq,r,none⟩ (.int .u32 (D:Int))):=(Kb.refl gq w2).setCell r _
        have hRf:=(a1.grown hk2).kb hKq (Ne.symm HB.out.2.2.1)
        have hBy:ByS w (w2.setCell ⟨gq,r,none⟩ (.int .u32 (D:Int))) (some ⟨b,off,none⟩) pv us vs (qs.set r (D:Int)) gq L:=⟨arr_kb a9'.1 hKq (fun b off e=>(HB.out.2.2.2.1 (by have:=HL.out.1;omega) b off e).1),arr_kb a9'.2.1 hKq (fun b off e=>(HB.out.2.2.2.2 b off e).1),hRq,hKq.kp a9'.2.2.2 HB.out.1⟩
        have HG:Hid (Rw (w2.setCell ⟨gq,r,none⟩ (.int .u32 (D:Int))) gr (M+1) fs∧ByS w (w2.setCell ⟨gq,r,none⟩ (.int .u32 (D:Int))) (some ⟨b,off,none⟩) pv us vs (qs.set r (D:Int)) gq L):=⟨hRf,hBy⟩
        clear hcm hk2 a1 a2 a3 a4 a5 a6 a7 a8 a9 a10 a11 a9' hRq hKq hRf hBy
        go_wp2
        obtain ⟨a1,a2,a3,a4,a5,a6,a7,a8,a9,a10,a11⟩:=HF.out
        exact ⟨⟨r,fs,qs.set r (D:Int),rfl,Nat.le_of_lt a10,HG.out.1,a2,a3,a4,a5,a6,a7,a8,HG.out.2⟩,by simp [intOf]⟩
       ·have hc1:0≤cq:=by
         rw [hcq];unfold cmpN;rw [if_neg cf];split <;> omega
        have hgu:=fun w' h=>rguess_ (some ⟨gr,0,none⟩) pv (M+1) cv fs vs w' ((hrf.grown h).all hfl) (hby.2.1.grown h) hwf hwv (by omega) (by omega) (by omega)
        obtain ⟨X,hX⟩:∃ X,X=guessN (fs.getD vs.length 0).toNat (fs.getD (vs.length - 1) 0).toNat (vs.getD (vs.length - 1) 0).toNat:=⟨_,rfl⟩
        have hgf:=guess_fits fs vs hwv (M - 1) _ _ _ (by omega) (by omega) rfl rfl rfl (by rw [← hV];omega)
        rw [show M - 1+1=vs.length from by omega,show M - 1=vs.length - 1 from by omega,← hX,← hV] at hgf
        obtain ⟨hX32,hD32,hsum,hDX⟩:=by_in D V X (val fs) T hDT HT.out.2.1 hgf.2
        rw [← hX,hfl,← hM] at hgu
        have hsu:=fun w' h=>rsubt_ gr (M+1) cv X pv fs vs w' (hrf.grown h) hfl hwf (hby.2.1.grown h) hwv hX32 (fun _ b off e=>(HB.out.2.2.2.2 b off e).2) (by omega) (by omega) (by rw [← hV,Nat.mul_comm];exact hgf.2)
        rw [← hM,← hV] at hsu
        have fD:IntKind.u64.wrap ((D:Int)+(X:Int))=((D+X:Nat):Int):=by rw [IntKind.wrap_u64];omega
        have HF:Hid ((D+X)*V+(val fs - V*X)=T∧ByS w wr (some ⟨b,off,none⟩) pv us vs qs gq L∧D+X<4294967296∧1≤X∧us.length≠0):=⟨hsum,hby,hDX,hgf.1,by have:=HO.out.2.2.2.2.2.2;omega⟩
        obtain ⟨DX,hDX9⟩:∃ DX,DX=D+X:=⟨_,rfl⟩
        rw [← hDX9] at fD HF
        have HD:Hid (DX=D+X):=hDX9
        clear hrf hfl hwf hDT hby hL hM hV hU hwv hcq cf hX hgf hX32 hD32 hsum hDX hDX9
        go_wp2_with fail
        refine hcm.mono ?_
        rintro e w2 ⟨rfl,hk2⟩
        have hgu2:=hgu w2 hk2
        clear hcm hgu
        go_wp2_with fail
        refine hgu2.mono ?_
        rintro e w3 ⟨rfl,hk3⟩
        have hk13:=hk2.trans hk3
        have hsu3:=hsu w3 hk13
        clear hgu2 hsu
        go_wp2_with fail
        refine hsu3.mono ?_
        rintro e w4 ⟨us',rfl,hru',hul',hwu',hvu',hkb'⟩
        obtain ⟨b1,b2,b3,b4,b5⟩:=HF.out
        have hB4:ByS w w4 (some ⟨b,off,none⟩) pv us vs qs gq L:=(b2.kp hk13).kb hkb' (fun b off e=>(HB.out.2.2.2.1 (by omega) b off e).2) (fun b off e=>(HB.out.2.2.2.2 b off e).2) HB.out.2.2.1 HB.out.2.1
        have HG:Hid (Rw w4 gr (M+1) us'∧us'.length=M+1∧Wd us'∧DX*V+val us'=T∧ByS w w4 (some ⟨b,off,none⟩) pv us vs qs gq L∧4294967296 - DX<4294967296 - D):=⟨hru',hul',hwu',by rw [hvu'];exact b1,hB4,by have:=HD.out;omega⟩
        clear hsu3 hk2 hk3 hk13 hru' hul' hwu' hvu' hkb' b1 b2 b3 b4 b5 hB4
        go_wp2
        obtain ⟨a1,a2,a3,a4,a5,a6⟩:=HG.out
        refine ⟨⟨_,_,_,_,_,_,_,_,_,_,_,_,_,_,_,_,⟨DX,us',rfl,a1,a2,a3,a4,a5⟩,rfl⟩, ?_⟩
        simpa [intOf] using a6
     ·obtain ⟨j',hj'⟩:∃ j',j'=j - 1:=⟨_,rfl⟩
      have e1:=World.rowIs.cell hrt (i:=j') (by omega)
      have e3:=World.rowIs.cell hrt (i:=j) (by omega)
      have e4:=World.rowIs.frozen hrt j
      obtain ⟨x,hx⟩:∃ x,x=ts.getD j' 0:=⟨_,rfl⟩
      rw [← hx] at e1
      have wx:=hwt j'
      rw [← hx] at wx
      have hR:=hrt.set j x (by omega)
      have hKb:Kb gr wr (wr.setCell ⟨gr,j,none⟩ (.int .u32 x)):=(Kb.refl gr wr).setCell j _
      have hby2:=hby.kb hKb (fun b off e=>(HB.out.2.2.2.1 (by have:=HO.out.2.2.2.2.2.2;have:=HL.out.1;omega) b off e).2) (fun b off e=>(HB.out.2.2.2.2 b off e).2) HB.out.2.2.1 HB.out.2.1
      have hl2:(ts.set j x).length=M+1:=by rw [List.length_set];exact htl
      have hw2:Wd (ts.set j x):=hwt.set j x wx
      have hlo2:∀ t,t≤j'→(ts.set j x).getD t 0=rs.getD t 0:=fun t ht=>by
       rw [← hlo t (by omega)];simp [List.getD,show ¬ j=t from by omega]
      have hhi2:∀ t,j'<t→t≤M→(ts.set j x).getD t 0=rs.getD (t - 1) 0:=fun t h1 h2=>by
       by_cases e:t=j
       ·subst e
        rw [← hj',← hlo j' (by omega),← hx]
        simp [List.getD,show t<ts.length from by omega]
       ·rw [← hhi t (by omega) h2];simp [List.getD,show ¬ j=t from by omega]
      have f9:(j:Int) - 1=(j':Int):=by omega
      have f10:IntKind.i64.wrap ((j:Int) - 1)=(j':Int):=by rw [IntKind.wrap_i64];omega
      have i1:(j':Int)<(M:Int)+1:=by omega
      have i2:(j:Int)<(M:Int)+1:=by omega
      have i3:(0:Int)<(j:Int):=by omega
      have HF:Hid (Rw (wr.setCell ⟨gr,j,none⟩ (.int .u32 x)) gr (M+1) (ts.set j x)∧(ts.set j x).length=M+1∧Wd (ts.set j x)∧(∀ t,t≤j'→(ts.set j x).getD t 0=rs.getD t 0)∧(∀ t,j'<t→t≤M→(ts.set j x).getD t 0=rs.getD (t - 1) 0)∧ByS w (wr.setCell ⟨gr,j,none⟩ (.int .u32 x)) pu pv us vs qs gq L∧j'≤M∧j'<j):=⟨hR,hl2,hw2,hlo2,hhi2,hby2,by omega,by omega⟩
      clear hrt htl hwt hlo hhi hby hx wx hR hKb hby2 hl2 hw2 hlo2 hhi2 cj hj'
      go_wp2
      obtain ⟨a1,a2,a3,a4,a5,a6,a7,a8⟩:=HF.out
      exact ⟨⟨j',ts.set j x,rfl,a7,a1,a2,a3,a4,a5,a6⟩,by simpa [intOf] using a8⟩
end Go.Proofs.YtmpjcknaelgnoaaGreatDoor
