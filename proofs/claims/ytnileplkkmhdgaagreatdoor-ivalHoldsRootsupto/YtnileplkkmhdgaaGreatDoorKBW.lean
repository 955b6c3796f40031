import Derived.Test.YtnileplkkmhdgaaGreatDoorKXSL
set_option maxHeartbeats 1000000
set_option maxRecDepth 20000
namespace Go.Proofs.YtnileplkkmhdgaaGreatDoor
open Go.RowKit
theorem lz32_ (X s:Nat) (h:X < 4294967296) (hs:s = 32 - blen X) (w:World):Calls Tryz.prog 172 #[.int .u32 (X:Int)] w fun e w'=>e = .returned (.int .i64 (s:Int))∧w' = w:=by
  have hl:=len32_ X h
  have hb:=blen_lt X 32 h
  obtain ⟨B,hB⟩:∃ B,B = blen X:=⟨_,rfl⟩
  rw [← hB] at hl hb hs
  have f1:IntKind.i64.wrap (32 - (B:Int)) = (s:Int):=by rw [IntKind.wrap_i64];omega
  clear h hB hb hs
  go_enter Tryz.func172,Tryz.ntmps172
  go_wp2_with (first | (go_at_call 150;refine (hl _).mono ?_;rintro e w' ⟨rfl,hw'⟩;obtain rfl:=hw'.symm))
  exact bodyPost_ret (v:=.int .i64 (s:Int)) (by simp [results,Tryz.results172,go_sem] <;> simp only [*]) rfl ⟨rfl,rfl⟩

def Two (w:World) (base:Nat) (l1 l2:List Int) (e:Value):Prop:=∃ p1 c1 p2 c2,e = .tuple #[.slice p1 l1.length c1,.slice p2 l2.length c2]∧Own w base (.slice p1 l1.length c1) l1∧Own w base (.slice p2 l2.length c2) l2∧∀ g,p1 = some ⟨g,0,none⟩→p2≠some ⟨g,0,none⟩
theorem Own.above {w:World} {base n c b:Nat} {xs:List Int} (h:Own w base (.slice (some ⟨b,0,none⟩) n c) xs):base≤b∧b < w.heap.size:=by
  rcases h.2 with h' | ⟨g,cap,cur,h1,h2,h3,h4⟩
  · have:=h'.1
    cases this
  · cases h1
    refine ⟨h2, ?_⟩
    by_cases c:b < w.heap.size
    · exact c
    · rw [Array.getElem?_eq_none (by omega)] at h3
      cases h3
theorem Own.len {w:World} {base:Nat} {v:Value} {xs:List Int} (h:Own w base v xs):∃ p c,v = .slice p xs.length c∧(p = none∨∃ b,p = some ⟨b,0,none⟩):=by
  obtain ⟨p,c,e,_⟩:=h.arr
  refine ⟨p,c,e, ?_⟩
  subst e
  rcases h.2 with h' | ⟨g,cap,cur,h1,h2⟩
  · have h3:=h'.1
    injection h3 with h4
    exact Or.inl h4
  · cases h1
    exact Or.inr ⟨g,rfl⟩
theorem sl32l' (g h n:Nat) (hh:h≤n) (w:World):(Instr.slice 25 (.slice (some ⟨g,0,none⟩) n n) none (some (.int .i64 (h:Int))) none).run Tryz.prog w = .ok (.slice (some ⟨g,0,none⟩) h n) w:=by
  rw [run_slice_h w 25 (some ⟨g,0,none⟩) n n Tryz.underlying25 .i64 (h:Int) (by omega) (by omega)]
  have e:(sizeOf (Tryz.prog.elem 25)).run Tryz.prog w = .ok 1 w:=by kernel_rfl
  rw [e]
  simp [Result.andThen,sliced,Addr.add_lit]
theorem byWords_ (p q:Option Addr) (c d:Nat) (xs ys:List Int) (w:World) (hx:Arr w p xs) (hy:Arr w q ys) (hwx:Wd xs) (hwy:Wd ys) (lx:xs.length≤1048576) (hle:ys.length≤xs.length) (h2:2≤ys.length) (htop:ys.getD (ys.length - 1) 0≠0) :
    Calls Tryz.prog 169 #[.slice p xs.length c,.slice q ys.length d] w fun e w'=>∃ v,e = .returned v∧Two w' w.heap.size (dig (val xs / val ys)) (dig (val xs % val ys)) v∧Kp w w':=by
  obtain ⟨k1,hk1⟩:∃ k1,ys.length = k1 + 1:=⟨ys.length - 1,by omega⟩
  rw [show ys.length - 1 = k1 from by omega] at htop
  have wy:=hwy k1
  obtain ⟨t,ht⟩:∃ t:Nat,(t:Int) = ys.getD k1 0:=⟨_,Int.toNat_of_nonneg wy.1⟩
  have ht0:t≠0:=by omega
  have ht2:(ys.getD k1 0).toNat = t:=by omega
  obtain ⟨s,hs⟩:∃ s,s = 32 - blen t:=⟨_,rfl⟩
  have hs32:s < 32:=(blen_range t s ht0 (by omega) hs).1
  obtain ⟨hvl,hvt⟩:=norm_top ys hwy k1 t s hk1 ht2 ht0 hs
  have hst:=dw_start xs ys hwx hwy k1 t s hk1 ht2 ht0 hle
  have hlz:=lz32_ t s (by omega) hs
  have hra:=raised_ q d s ys w hy hwy (by omega) (by omega) (by omega)
  obtain ⟨b',off',rfl,hc'⟩:=hy.at (k:=k1) (by omega)
  have e1:=hc' k1 (by omega)
  rw [← ht] at e1
  obtain ⟨vs,hvs⟩:∃ vs,vs = dig (val ys * 2 ^ s):=⟨_,rfl⟩
  have hwv:Wd vs:=by rw [hvs];exact Wd_dig _
  have hvv:val vs = val ys * 2 ^ s:=by rw [hvs];exact val_dig _
  rw [← hvs] at hvl hvt hra
  have hV0:0 < val ys:=val_pos_top ys k1 (by omega)
  have hV:0 < val ys * 2 ^ s:=Nat.mul_pos hV0 (Nat.pow_pos (by omega))
  obtain ⟨N,hN⟩:∃ N,N = xs.length:=⟨_,rfl⟩
  obtain ⟨M,hM⟩:∃ M,M = ys.length:=⟨_,rfl⟩
  obtain ⟨Q,hQ⟩:∃ Q,Q = N - M + 1:=⟨_,rfl⟩
  rw [← hN,← hM,← hQ] at hst
  rw [← hM] at hra ⊢
  rw [← hN]
  have lN:N≤1048576:=by omega
  have lM:M≤1048576:=by omega
  have lQ:Q≤1048577:=by omega
  have g1:IntKind.i64.wrap ((M:Int) - 1) = (k1:Int):=by rw [IntKind.wrap_i64];omega
  have i1:(k1:Int) < (M:Int):=by omega
  have hmk:∀ w:World,(Instr.makeSlice 25 (.int .i64 ((N:Int) + 1)) (.int .i64 ((N:Int) + 1))).run Tryz.prog w = .ok (.slice (some ⟨w.heap.size,0,none⟩) (N + 1) (N + 1)) (w.alloc (.cells (madeCells #[.int .u32 0] (N + 1)) 72)):=by
    have:=mk32 (N + 1) (by omega)
    rw [show ((N + 1:Nat):Int) = (N:Int) + 1 from by omega] at this
    exact this
  have hmk2:∀ w:World,(Instr.makeSlice 25 (.int .i64 ((N:Int) - (M:Int) + 1)) (.int .i64 ((N:Int) - (M:Int) + 1))).run Tryz.prog w = .ok (.slice (some ⟨w.heap.size,0,none⟩) Q Q) (w.alloc (.cells (madeCells #[.int .u32 0] Q) 72)):=by
    have:=mk32 Q (by omega)
    rw [show (Q:Int) = (N:Int) - (M:Int) + 1 from by omega] at this
    exact this
  have HA:Hid (Arr w p xs∧Wd xs∧N = xs.length∧M = ys.length∧Q = N - M + 1∧M≤N∧2≤M∧s < 32∧M = k1 + 1):=⟨hx,hwx,hN,hM,hQ,by omega,by omega,hs32,by omega⟩
  have HV:Hid (vs.length = k1 + 1∧2147483648≤(vs.getD k1 0).toNat∧Wd vs∧val vs = val ys * 2 ^ s∧0 < val ys * 2 ^ s∧val xs * 2 ^ s < val ys * 2 ^ s * 4294967296 ^ Q):=⟨hvl,hvt,hwv,hvv,hV,hst⟩
  clear hx hy hwx hwy lx hle h2 htop hk1 wy ht ht0 ht2 hs hs32 hvl hvt hst hc' hvs hwv hvv hV0 hV hN hM hQ
  go_enter Tryz.func169,Tryz.ntmps169
  go_wp2_with (first | (go_at_call 172;refine (hlz _).mono ?_;rintro e w' ⟨rfl,hw'⟩;obtain rfl:=hw'.symm))
  refine hra.mono ?_
  rintro e w1 ⟨v,rfl,hOv,hkv⟩
  obtain ⟨hx,hwx,hN,hM,hQ,hMN,hM2,hs32,hMk⟩:=HA.out
  obtain ⟨pv,cv,rfl,hAv,hlv⟩:=hOv.arr
  rw [HV.out.1,← hMk]
  obtain ⟨gu,hgu⟩:∃ gu,gu = w1.heap.size:=⟨_,rfl⟩
  have hku:Kp w (w1.alloc (.cells (madeCells #[.int .u32 0] (N + 1)) 72)):=hkv.alloc _
  have hkv1:Kp w1 (w1.alloc (.cells (madeCells #[.int .u32 0] (N + 1)) 72)):=(Kp.refl w1).alloc _
  have hrz:Rw (w1.alloc (.cells (madeCells #[.int .u32 0] (N + 1)) 72)) w1.heap.size (N + 1) (List.replicate (N + 1) 0):=World.rowIs.congr (World.rowIs_made w1 (.int .u32 0) (N + 1) 72) (fun j _=>by rw [rep0_getD])
  have hri:=raiseInto_ w1.heap.size (N + 1) 0 s (N + 1) c p (List.replicate (N + 1) 0) xs _ hrz (by simp) (fun j=>rep0_getD (N + 1) j) (hx.grown hku) hwx (fun h b off e=>by
    obtain ⟨b2,o2,h1,h2⟩:=hx.at h
    rw [h1] at e
    cases e
    have:=cell_lt (h2 0 h)
    have:=hkv.size
    omega) (by omega) (by omega) hs32 (by omega)
  rw [← hN,← hgu] at hri
  have hbu:∀ b off,pv = some ⟨b,off,none⟩→b≠gu:=fun b off e=>by
    obtain ⟨b2,o2,h1,h2⟩:=hAv.at (k:=0) (by rw [HV.out.1];omega)
    rw [h1] at e
    cases e
    have:=cell_lt (h2 0 (by rw [HV.out.1];omega))
    omega
  have HK:Hid (Kp w (w1.alloc (.cells (madeCells #[.int .u32 0] (N + 1)) 72))∧w.heap.size≤gu∧Arr (w1.alloc (.cells (madeCells #[.int .u32 0] (N + 1)) 72)) pv vs∧(∀ b off,pv = some ⟨b,off,none⟩→b≠gu)∧gu < (w1.alloc (.cells (madeCells #[.int .u32 0] (N + 1)) 72)).heap.size):=⟨hku,by rw [hgu];exact hkv.size,hAv.grown hkv1,hbu,by rw [hgu];exact World.rowIs.lt hrz⟩
  have HG:Hid (gu = w1.heap.size):=hgu
  clear hlz hra e1 g1 i1 hx hwx hN hM hQ hMN hM2 hs32 hMk hOv hAv hlv hku hkv1 hrz hkv hbu
  go_wp2_with fail
  rw [← hgu]
  clear hgu
  refine hri.mono ?_
  rintro e w3 ⟨us,⟨v0,rfl⟩,hru,hul,hwu,hvu,hkb⟩
  obtain ⟨hku,hgw,hAv,hbu,hgl⟩:=HK.out
  obtain ⟨gq,hgq⟩:∃ gq,gq = w3.heap.size:=⟨_,rfl⟩
  have hk3:Kp w w3:=hkb.kp hku hgw
  have hA3:Arr w3 pv vs:=by
    rcases hAv with h | ⟨b,off,h1,h2⟩
    · exact Or.inl h
    · exact Or.inr ⟨b,off,h1,fun j hj=>hkb.arr (hbu b off h1) (h2 j hj)⟩
  have hk4:Kp w3 (w3.alloc (.cells (madeCells #[.int .u32 0] Q) 72)):=(Kp.refl w3).alloc _
  have hrq:Rw (w3.alloc (.cells (madeCells #[.int .u32 0] Q) 72)) w3.heap.size Q (List.replicate Q 0):=World.rowIs.congr (World.rowIs_made w3 (.int .u32 0) Q 72) (fun j _=>by rw [rep0_getD])
  rw [← hgq] at hrq
  have HS:Hid (Rw (w3.alloc (.cells (madeCells #[.int .u32 0] Q) 72)) gu (N + 1) us∧us.length = N + 1∧Wd us∧val us = val xs * 2 ^ s∧Rw (w3.alloc (.cells (madeCells #[.int .u32 0] Q) 72)) gq Q (List.replicate Q 0)∧Arr (w3.alloc (.cells (madeCells #[.int .u32 0] Q) 72)) pv vs∧Kp w (w3.alloc (.cells (madeCells #[.int .u32 0] Q) 72))∧w.heap.size≤gu∧w.heap.size≤gq∧gu≠gq∧(∀ b off,pv = some ⟨b,off,none⟩→b≠gu∧b≠gq)):=⟨hru.grown hk4,hul,hwu,by simpa using hvu,hrq,hA3.grown hk4,hk3.alloc _,hgw,by rw [hgq];exact hk3.size,by have:=World.rowIs.lt hru;omega,fun b off e=>⟨hbu b off e,by
    obtain ⟨b2,o2,h1,h2⟩:=hA3.at (k:=0) (by rw [HV.out.1];omega)
    rw [h1] at e
    cases e
    have:=cell_lt (h2 0 (by rw [HV.out.1];omega))
    omega⟩⟩
  clear hri HK HG hru hul hwu hvu hkb hku hgw hAv hbu hgl hk3 hA3 hk4 hrq hmk
  obtain ⟨X,hX⟩:∃ X,X = val xs * 2 ^ s:=⟨_,rfl⟩
  obtain ⟨V,hVe⟩:∃ V,V = val ys * 2 ^ s:=⟨_,rfl⟩
  have HX:Hid (X = val xs * 2 ^ s∧V = val ys * 2 ^ s):=⟨hX,hVe⟩
  clear hX hVe
  go_wp2
  rw [← hgq]
  clear hgq
  go_loopw [38] (fun ii wr=>∃ (k:Nat) (us qs:List Int),ii = .int .i64 k∧k≤Q∧Rw wr gu (N + 1) us∧us.length = N + 1∧Wd us∧Rw wr gq Q qs∧qs.length = Q∧Wd qs∧(∀ j,j < Q - k→qs.getD j 0 = 0)∧val qs * V + val (us.take (Q - k + M)) = X∧val (us.take (Q - k + M)) < V * 4294967296 ^ (Q - k)∧Arr wr pv vs∧Kp w wr) (fun i _=>Q - (intOf i).toNat)
  case atStart =>
    obtain ⟨hru,hul,hwu,hvu,hrq,hA,hk,_⟩:=HS.out
    obtain ⟨_,_,hN,hM,hQ,hMN,hM2,_,_⟩:=HA.out
    obtain ⟨_,_,_,_,_,hlt⟩:=HV.out
    obtain ⟨rfl,rfl⟩:=HX.out
    have et:us.take (Q - 0 + M) = us:=List.take_of_length_le (by omega)
    refine ⟨0,us,List.replicate Q 0,rfl,Nat.zero_le _,hru,hul,hwu,hrq,by simp,fun j=>by rw [rep0_getD];omega,fun j _=>rep0_getD Q j, ?_, ?_,hA,hk⟩
    · rw [et,hvu,val_zeros _ (fun j=>rep0_getD Q j),Nat.zero_mul,Nat.zero_add]
    · rw [et,hvu];exact hlt
  case round =>
    obtain ⟨k,us,qs,rfl,hk,hru,hul,hwu,hrq,hql,hwq,hq0,hval,hlt,hAv,hkp⟩:=hrel
    obtain ⟨_,_,_,_,_,_,_,hgw,hgqw,hne,hbb⟩:=HS.out
    obtain ⟨_,_,hN,hM,hQ,hMN,hM2,hs32,hMk⟩:=HA.out
    obtain ⟨hvl,hvt,hwv,hvv,hV,_⟩:=HV.out
    obtain ⟨hX,hVe⟩:=HX.out
    by_cases ck:k < Q
    · obtain ⟨r,hr⟩:∃ r,r = Q - 1 - k:=⟨_,rfl⟩
      have hr1:Q - k = r + 1:=by omega
      rw [hr1,show r + 1 + M = r + M + 1 from by omega] at hval hlt
      have hvl2:vs.length = M:=by omega
      have hto:=takeOff_ gu (N + 1) r (N + 1 - r) cv pv us vs wr hru hul hwu hAv hwv (fun _ b off e=>(hbb b off e).1) (by omega) (by rw [show vs.length - 1 = k1 from by omega];exact hvt) (by omega) (by omega) (by omega) (by rw [hvl2,hvv,← hVe];exact hlt)
      rw [hvl2,hvv,← hVe] at hto
      obtain ⟨D,hD⟩:∃ D,D = val (us.take (r + M + 1)) / (V * 4294967296 ^ r):=⟨_,rfl⟩
      rw [← hD] at hto
      have hsl:=sl32 gu r (M + 1) (N + 1) (by omega) (by omega)
      rw [show ((r:Int) + ((M + 1:Nat):Int)) = (r:Int) + (M:Int) + 1 from by omega] at hsl
      have hstep:=fun us' hlo=>dw_step qs us us' V r M D X (by omega) (hq0 r (by omega)) hD hlo (by rw [hVe];exact hV) hlt hval
      have fr:IntKind.i64.wrap ((Q:Int) - 1 - (k:Int)) = (r:Int):=by rw [IntKind.wrap_i64];omega
      have fr1:(Q:Int) - 1 - (k:Int) = (r:Int):=by omega
      have i0:(k:Int) < (Q:Int):=by omega
      have i1:(r:Int) < (Q:Int):=by omega
      have lr:r≤1048576:=by omega
      have hrQ:r < Q:=by omega
      have HH:Hid (∀ us':List Int,val (us'.take (r + M)) = val (us.take (r + M + 1)) % (V * 4294967296 ^ r)→val (qs.set r (D:Int)) * V + val (us'.take (r + M)) = X∧val (us'.take (r + M)) < V * 4294967296 ^ r∧D < 4294967296):=hstep
      have HI:Hid (Rw wr gq Q qs∧qs.length = Q∧Wd qs∧(∀ j,j < Q - k→qs.getD j 0 = 0)∧Arr wr pv vs∧Kp w wr∧w.heap.size≤gu∧w.heap.size≤gq∧gu≠gq∧(∀ b off,pv = some ⟨b,off,none⟩→b≠gu∧b≠gq)∧Q - k = r + 1∧Q - (k + 1) = r):=⟨hrq,hql,hwq,hq0,hAv,hkp,hgw,hgqw,hne,hbb,hr1,by omega⟩
      clear HA HV HX HS hru hul hwu hrq hql hwq hq0 hval hlt hAv hkp hgw hgqw hne hbb hN hM hQ hMN hM2 hs32 hMk hvl hvt hwv hvv hV hX hVe hr hr1 hvl2 hD hstep hk hmk2
      go_wp2_with fail
      refine hto.mono ?_
      rintro e w' ⟨us',rfl,hru',hul',hwu',hlo',hkb'⟩
      obtain ⟨hrq,hql,hwq,hq0,hAv,hkp,hgw,hgqw,hne,hbb,hr1,hr2⟩:=HI.out
      obtain ⟨hv1,hv2,hD32⟩:=HH.out us' hlo'
      have hrq':Rw w' gq Q qs:=hrq.kb hkb' (Ne.symm hne)
      have e3:=World.rowIs.cell hrq' (i:=r) hrQ
      have e4:=World.rowIs.frozen hrq' r
      have hRq:Rw (w'.setCell ⟨gq,r,none⟩ (.int .u32 (D:Int))) gq Q (qs.set r (D:Int)):=hrq'.set r (D:Int) (by omega)
      have hKq:Kb gq w' (w'.setCell ⟨gq,r,none⟩ (.int .u32 (D:Int))):=(Kb.refl gq w').setCell r _
      have hRu:Rw (w'.setCell ⟨gq,r,none⟩ (.int .u32 (D:Int))) gu (N + 1) us':=hru'.kb hKq hne
      have hKp:Kp w (w'.setCell ⟨gq,r,none⟩ (.int .u32 (D:Int))):=hKq.kp (hkb'.kp hkp hgw) hgqw
      have hAv':Arr (w'.setCell ⟨gq,r,none⟩ (.int .u32 (D:Int))) pv vs:=by
        rcases hAv with h | ⟨b,off,h1,h2⟩
        · exact Or.inl h
        · exact Or.inr ⟨b,off,h1,fun j hj=>hKq.arr (hbb b off h1).2 (hkb'.arr (hbb b off h1).1 (h2 j hj))⟩
      have hw2:Wd (qs.set r (D:Int)):=hwq.set r D (by omega)
      have hl2:(qs.set r (D:Int)).length = Q:=by rw [List.length_set];exact hql
      have hz2:∀ j,j < Q - (k + 1)→(qs.set r (D:Int)).getD j 0 = 0:=fun j hj=>by
        have e2:(qs.set r (D:Int)).getD j 0 = qs.getD j 0:=by simp [List.getD,show ¬ r = j from by omega]
        rw [e2,hq0 j (by omega)]
      rw [← hr2] at hv1 hv2
      have HF2:Hid (val (qs.set r (D:Int)) * V + val (us'.take (Q - (k + 1) + M)) = X∧val (us'.take (Q - (k + 1) + M)) < V * 4294967296 ^ (Q - (k + 1))):=by
        rw [hr2] at hv1 hv2 ⊢
        exact ⟨hv1,hv2⟩
      have HF:Hid (Rw (w'.setCell ⟨gq,r,none⟩ (.int .u32 (D:Int))) gu (N + 1) us'∧us'.length = N + 1∧Wd us'∧Rw (w'.setCell ⟨gq,r,none⟩ (.int .u32 (D:Int))) gq Q (qs.set r (D:Int))∧(qs.set r (D:Int)).length = Q∧Wd (qs.set r (D:Int))∧(∀ j,j < Q - (k + 1)→(qs.set r (D:Int)).getD j 0 = 0)∧Arr (w'.setCell ⟨gq,r,none⟩ (.int .u32 (D:Int))) pv vs∧Kp w (w'.setCell ⟨gq,r,none⟩ (.int .u32 (D:Int)))):=⟨hRu,hul',hwu',hRq,hl2,hw2,hz2,hAv',hKp⟩
      have hkQ:k + 1≤Q:=by omega
      clear HH HI hto hru' hul' hwu' hlo' hkb' hrq hql hwq hq0 hAv hkp hgw hgqw hne hbb hr1 hr2 hv1 hv2 hD32 hrq' hRq hKq hRu hKp hAv' hw2 hl2 hz2 hsl fr fr1 lr hrQ
      go_wp2
      obtain ⟨a1,a2,a3,a4,a5,a6,a7,a8,a9⟩:=HF.out
      exact ⟨⟨k + 1,us',qs.set r (D:Int),by go_num,hkQ,a1,a2,a3,a4,a5,a6,a7,HF2.out.1,HF2.out.2,a8,a9⟩,by simp [intOf];omega⟩
    · have hkQ:k = Q:=by omega
      subst hkQ
      rw [Nat.sub_self,Nat.zero_add] at hval hlt
      rw [Nat.pow_zero,Nat.mul_one] at hlt
      have hend:=dw_end (val xs) (val ys) s (val qs) (val (us.take M)) (by rw [← hVe,← hX];exact hval) (by rw [← hVe];exact hlt)
      have hAq:∀ w',Kp wr w'→Arr w' (some ⟨gq,0,none⟩) qs:=fun w' h=>(hrq.grown h).all hql
      have hAu:∀ w',Kp wr w'→Arr w' (some ⟨gu,0,none⟩) (us.take M):=fun w' h=>by
        have:=(hru.grown h).arr M (by omega) (by omega)
        exact this
      have hlt':(us.take M).length = M:=by rw [List.length_take];omega
      have htr:=fun w' h=>trim_ (some ⟨gq,0,none⟩) k qs w' (hAq w' h) (by omega) (by omega)
      have hlow:=fun w' h=>lowered_ (some ⟨gu,0,none⟩) (N + 1) s (us.take M) w' (hAu w' h) (hwu.take M) (by omega) (by omega) (by omega)
      rw [hlt',hend.2] at hlow
      rw [hql] at htr
      have hOq:∀ w',Kp wr w'→Own w' w.heap.size (.slice (some ⟨gq,0,none⟩) (tl qs) k) (dig (val xs / val ys)):=fun w' h=>by
        have h1:=Own.of_row (base:=w.heap.size) (k:=tl qs) (hrq.grown h) hgqw (by have:=tl_le qs;omega) hql (by unfold maxLen;omega)
        have h2:qs.take (tl qs) = dig (val xs / val ys):=by rw [← hend.1,← nz_dig qs hwq];rfl
        rw [h2] at h1
        exact h1
      have htl:tl qs = (dig (val xs / val ys)).length:=by rw [← hend.1,tl_len qs hwq];rfl
      have hsl:=sl32l' gu M (N + 1) (by omega)
      have hgql:gq < wr.heap.size:=World.rowIs.lt hrq
      obtain ⟨T,hT⟩:∃ T,T = tl qs:=⟨_,rfl⟩
      rw [← hT] at htr hOq htl
      have hw64:IntKind.i64.wrap (M:Int) = (M:Int):=by rw [IntKind.wrap_i64];omega
      have i2:¬ ((k:Int) < (k:Int)):=by omega
      have HF:Hid ((∀ w',Kp wr w'→Own w' w.heap.size (.slice (some ⟨gq,0,none⟩) T k) (dig (val xs / val ys)))∧T = (dig (val xs / val ys)).length∧gq < wr.heap.size∧Kp w wr):=⟨hOq,htl,hgql,hkp⟩
      clear HA HV HX HS hru hul hwu hrq hql hwq hq0 hval hlt hAv hkp hgw hgqw hne hbb hN hM hQ hMN hM2 hs32 hMk hvl hvt hwv hvv hV hX hVe hend hAq hAu hlt' hOq htl hgql hT hk ck hmk2
      go_wp2
      go_region_held3 (fun w'=>Kp wr w') (first | assumption | (exact Kp.refl _) | (exact (Kp.refl _).drew) | (exact Kp.trans (by assumption) (by assumption)) | (exact (Kp.trans (by assumption) (by assumption)).drew)) (first | (go_at_call 120;refine (htr _ (by first | assumption | exact (Kp.refl _).drew | exact Kp.refl _ | exact Kp.trans (by assumption) (by assumption))).mono ?_;rintro e w' ⟨rfl,hw'⟩;obtain rfl:=hw'.symm) | (go_at_call 161;refine (hlow _ (by first | assumption | exact (Kp.refl _).drew | exact Kp.refl _)).mono ?_;rintro e w' ⟨vr,rfl,hOr,hkr⟩))
      all_goals
        obtain ⟨hOq,htl,hgql,hkp⟩:=HF.out
        have hkw:Kp wr w':=((Kp.refl wr).drew).trans hkr
        have hKf:Kp w w':=hkp.trans hkw
        have hTwo:Two w' w.heap.size (dig (val xs / val ys)) (dig (val xs % val ys)) (.tuple #[.slice (some ⟨gq,0,none⟩) T k,vr]):=by
          obtain ⟨pr,cr,rfl,hor⟩:=hOr.len
          refine ⟨some ⟨gq,0,none⟩,k,pr,cr,by rw [htl],by rw [← htl];exact hOq w' hkw,hOr.mono hkp.size,fun g e e2=>?_⟩
          cases e
          rw [e2] at hOr
          have h1:=hOr.above.1
          have h2:gq < wr.heap.size:=hgql
          have h3:wr.heap.size≤gq:=h1
          omega
        have HZ:Hid (Two w' w.heap.size (dig (val xs / val ys)) (dig (val xs % val ys)) (.tuple #[.slice (some ⟨gq,0,none⟩) T k,vr])∧Kp w w'):=⟨hTwo,hKf⟩
        clear HF hOq htl hgql hkp hkw hKf hTwo hOr hkr htr hlow hsl hw64
        go_wp2
        exact bodyPost_ret (v:=.tuple #[.slice (some ⟨gq,0,none⟩) T k,vr]) (by simp [results,Tryz.results169,go_sem]) rfl ⟨_,rfl,HZ.out.1,HZ.out.2⟩
theorem rcmp_ (p q:Option Addr) (c d:Nat) (xs ys:List Int) (w:World) (hx:Arr w p xs) (hy:Arr w q ys) (hwx:Wd xs) (hwy:Wd ys) (lx:xs.length≤1099511627776) (ly:ys.length≤1099511627776) :
    Calls Tryz.prog 38 #[.slice p xs.length c,.slice q ys.length d] w fun e w'=>e = .returned (.int .i64 (cmpN (val xs) (val ys)))∧Kp w w':=by
  have h1:=words_ p c xs w hx lx
  have h2:=words_ q d ys w hy ly
  have lS:=tl_le xs
  have lT:=tl_le ys
  have hg:Kp w w:=Kp.refl w
  have dlt:=fun h=>cmpN_lt (tl_lt_val xs ys hwx hwy h)
  have dgt:=fun h=>cmpN_gt (tl_lt_val ys xs hwy hwx h)
  have deq:tl xs = tl ys→(∀ j,j < tl xs→xs.getD j 0 = ys.getD j 0)→cmpN (val xs) (val ys) = 0:=fun e h=>by
    apply cmpN_eq
    rw [← val_tl xs,← val_tl ys,← e]
    exact cmp_all xs ys _ h
  have tlt:∀ k,tl xs = tl ys→k < tl xs→xs.getD k 0 < ys.getD k 0→(∀ j,k < j→j < tl xs→xs.getD j 0 = ys.getD j 0)→cmpN (val xs) (val ys) = -1:=fun k e h1 h2 h3=>by
    apply cmpN_lt
    rw [← val_tl xs,← val_tl ys,← e]
    exact cmp_top xs ys hwx k (hwx k).1 h2 _ h1 h3
  have tgt:∀ k,tl xs = tl ys→k < tl xs→ys.getD k 0 < xs.getD k 0→(∀ j,k < j→j < tl xs→xs.getD j 0 = ys.getD j 0)→cmpN (val xs) (val ys) = 1:=fun k e h1 h2 h3=>by
    apply cmpN_gt
    rw [← val_tl xs,← val_tl ys,← e]
    exact cmp_top ys xs hwy k (hwy k).1 h2 _ h1 (fun j a b=>(h3 j a b).symm)
  obtain ⟨R,hR⟩:∃ R,R = cmpN (val xs) (val ys):=⟨_,rfl⟩
  obtain ⟨N,hN⟩:∃ N,N = xs.length:=⟨_,rfl⟩
  obtain ⟨M,hM⟩:∃ M,M = ys.length:=⟨_,rfl⟩
  obtain ⟨S,hS⟩:∃ S,S = tl xs:=⟨_,rfl⟩
  obtain ⟨T,hT⟩:∃ T,T = tl ys:=⟨_,rfl⟩
  rw [← hS,← hN] at h1 lS
  rw [← hT,← hM] at h2 lT
  rw [← hS,← hT,← hR] at dlt dgt deq tlt tgt
  rw [← hN,← hM,← hR]
  have HX:Hid (Arr w p xs):=hx
  have HY:Hid (Arr w q ys):=hy
  have HN:Hid (N = xs.length∧M = ys.length):=⟨hN,hM⟩
  have lS2:S≤1099511627776:=by omega
  clear hx hy hwx hwy lx ly hN hM hS hT hR
  rcases Nat.lt_trichotomy S T with cST | cST | cST
  · rw [dlt cST]
    have t1:(S:Int) < (T:Int):=by omega
    clear dlt dgt deq tlt tgt HX HY HN cST lS lT
    go_enter Tryz.func38,Tryz.ntmps38
    go_wp2_with fail
    refine h1.mono ?_;rintro e w' ⟨rfl,hw'⟩;obtain rfl:=hw'.symm
    go_wp2_with fail
    refine h2.mono ?_;rintro e w' ⟨rfl,hw'⟩;obtain rfl:=hw'.symm
    go_wp2
    exact bodyPost_ret (v:=.int .i64 (-1)) (by simp [results,Tryz.results38,go_sem] <;> simp only [*]) rfl ⟨rfl,hg⟩
  · subst cST
    have t1:¬ ((S:Int) < (S:Int)):=by omega
    have HD:Hid ((∀ j,j < S→xs.getD j 0 = ys.getD j 0)→R = 0):=deq rfl
    have HL:Hid (∀ k,k < S→xs.getD k 0 < ys.getD k 0→(∀ j,k < j→j < S→xs.getD j 0 = ys.getD j 0)→R = -1):=fun k=>tlt k rfl
    have HR:Hid (∀ k,k < S→ys.getD k 0 < xs.getD k 0→(∀ j,k < j→j < S→xs.getD j 0 = ys.getD j 0)→R = 1):=fun k=>tgt k rfl
    clear dlt dgt deq tlt tgt
    go_enter Tryz.func38,Tryz.ntmps38
    go_wp2_with fail
    refine h1.mono ?_;rintro e w' ⟨rfl,hw'⟩;obtain rfl:=hw'.symm
    go_wp2_with fail
    refine h2.mono ?_;rintro e w' ⟨rfl,hw'⟩;obtain rfl:=hw'.symm
    clear h1 h2
    go_wp2
    clear t1
    go_loopw [7] (fun i wr=>∃ (k:Nat) (z:Int),k≤S∧z = (k:Int) - 1∧i = .int .i64 z∧Kp w wr∧∀ j,k≤j→j < S→xs.getD j 0 = ys.getD j 0) (fun i _=>(intOf i + 1).toNat)
    case atStart=>exact ⟨S,_,Nat.le_refl _,rfl,by go_num,hg,fun j _ _=>by omega⟩
    case round =>
      clear hg
      obtain ⟨k,z,hk,hz,rfl,hg,hs⟩:=hrel
      rcases k with _ | k
      · have hR0:=HD.out (fun j hj=>hs j (Nat.zero_le _) hj)
        subst hR0
        have hz0:z = -1:=by omega
        subst hz0
        clear hz HX HY HN HD HL HR hs hk lS lT
        go_wp2
        exact bodyPost_ret (v:=.int .i64 (0)) (by simp [results,Tryz.results38,go_sem] <;> simp only [*]) rfl ⟨rfl,hg⟩
      · have hz0:z = (k:Int):=by omega
        subst hz0
        obtain ⟨hN,hM⟩:=HN.out
        obtain ⟨b,off,rfl,hc⟩:=HX.out.at (k:=k) (by omega)
        obtain ⟨b',off',rfl,hc'⟩:=HY.out.at (k:=k) (by omega)
        have e1:=kkeep hg (hc k (by omega))
        have e2:=kkeep hg (hc' k (by omega))
        have i0:(0:Int)≤(k:Int):=by omega
        have i1:(k:Int) < (N:Int):=by omega
        have i2:(k:Int) < (M:Int):=by omega
        have rl:=fun h=>HL.out k (by omega) h (fun j a b=>hs j (by omega) b)
        have rg:=fun h=>HR.out k (by omega) h (fun j a b=>hs j (by omega) b)
        have re:xs.getD k 0 = ys.getD k 0→∀ j,k≤j→j < S→xs.getD j 0 = ys.getD j 0:=fun h j a b=>by
          by_cases e:j = k
          · subst e;exact h
          · exact hs j (by omega) b
        obtain ⟨X,hX⟩:∃ X,X = xs.getD k 0:=⟨_,rfl⟩
        obtain ⟨Y,hY⟩:∃ Y,Y = ys.getD k 0:=⟨_,rfl⟩
        rw [← hX] at e1 rl rg re
        rw [← hY] at e2 rl rg re
        have hk2:k≤S:=by omega
        clear hc hc' HX HY HN HD HL HR hs hN hM hX hY hz hk lS lT
        rcases (by omega:X < Y∨Y < X∨X = Y) with cx | cx | cx
        · have hR1:=rl cx
          subst hR1
          clear rl rg re
          go_wp2
          refine wp_region_kp (by kernel_rfl) (by kernel_rfl) (fun ι _ G hG hall=>?_)
          have c0:∀ n,(G n).cell? ⟨b,off + k,none⟩ = some (.int .u32 X):=fun n=>kkeep (hG n) e1
          have c1:∀ n,(G n).cell? ⟨b',off' + k,none⟩ = some (.int .u32 Y):=fun n=>kkeep (hG n) e2
          repeat (go_big_quiet_step (fail))
          refine wpQuiet_nil ?_
          rintro _ ⟨nq,rfl⟩
          have gq:=hG nq
          replace e1:=kkeep gq e1
          replace e2:=kkeep gq e2
          replace hg:=hg.trans gq
          clear c0 c1 hall hG gq
          go_wp2
          exact bodyPost_ret (v:=.int .i64 (-1)) (by simp [results,Tryz.results38,go_sem] <;> simp only [*]) rfl ⟨rfl,hg⟩
        · have hR1:=rg cx
          subst hR1
          have cy:¬ (X < Y):=by omega
          clear rl rg re
          go_wp2
          refine wp_region_kp (by kernel_rfl) (by kernel_rfl) (fun ι _ G hG hall=>?_)
          have c0:∀ n,(G n).cell? ⟨b,off + k,none⟩ = some (.int .u32 X):=fun n=>kkeep (hG n) e1
          have c1:∀ n,(G n).cell? ⟨b',off' + k,none⟩ = some (.int .u32 Y):=fun n=>kkeep (hG n) e2
          repeat (go_big_quiet_step (fail))
          refine wpQuiet_nil ?_
          rintro _ ⟨nq,rfl⟩
          have gq:=hG nq
          replace e1:=kkeep gq e1
          replace e2:=kkeep gq e2
          replace hg:=hg.trans gq
          clear c0 c1 hall hG gq
          go_wp2
          refine wp_region_kp (by kernel_rfl) (by kernel_rfl) (fun ι2 _ G2 hG hall=>?_)
          have c0:∀ n,(G2 n).cell? ⟨b,off + k,none⟩ = some (.int .u32 X):=fun n=>kkeep (hG n) e1
          have c1:∀ n,(G2 n).cell? ⟨b',off' + k,none⟩ = some (.int .u32 Y):=fun n=>kkeep (hG n) e2
          repeat (go_big_quiet_step (fail))
          refine wpQuiet_nil ?_
          rintro _ ⟨nq2,rfl⟩
          have gq:=hG nq2
          replace e1:=kkeep gq e1
          replace e2:=kkeep gq e2
          replace hg:=hg.trans gq
          clear c0 c1 hall hG gq
          go_wp2
          exact bodyPost_ret (v:=.int .i64 (1)) (by simp [results,Tryz.results38,go_sem] <;> simp only [*]) rfl ⟨rfl,hg⟩
        · have hs2:=re cx
          subst cx
          have cy:¬ (X < X):=by omega
          clear rl rg re
          go_wp2
          refine wp_region_kp (by kernel_rfl) (by kernel_rfl) (fun ι _ G hG hall=>?_)
          have c0:∀ n,(G n).cell? ⟨b,off + k,none⟩ = some (.int .u32 X):=fun n=>kkeep (hG n) e1
          have c1:∀ n,(G n).cell? ⟨b',off' + k,none⟩ = some (.int .u32 X):=fun n=>kkeep (hG n) e2
          repeat (go_big_quiet_step (fail))
          refine wpQuiet_nil ?_
          rintro _ ⟨nq,rfl⟩
          have gq:=hG nq
          replace e1:=kkeep gq e1
          replace e2:=kkeep gq e2
          replace hg:=hg.trans gq
          clear c0 c1 hall hG gq
          go_wp2
          refine wp_region_kp (by kernel_rfl) (by kernel_rfl) (fun ι2 _ G2 hG hall=>?_)
          have c0:∀ n,(G2 n).cell? ⟨b,off + k,none⟩ = some (.int .u32 X):=fun n=>kkeep (hG n) e1
          have c1:∀ n,(G2 n).cell? ⟨b',off' + k,none⟩ = some (.int .u32 X):=fun n=>kkeep (hG n) e2
          repeat (go_big_quiet_step (fail))
          refine wpQuiet_nil ?_
          rintro _ ⟨nq2,rfl⟩
          have gq:=hG nq2
          replace e1:=kkeep gq e1
          replace e2:=kkeep gq e2
          replace hg:=hg.trans gq
          clear c0 c1 hall hG gq
          go_wp2
          exact ⟨⟨k,_,hk2,rfl,by go_num,hg,hs2⟩,by simp [intOf]⟩
  · rw [dgt cST]
    have t1:¬ ((S:Int) < (T:Int)):=by omega
    have t2:(T:Int) < (S:Int):=by omega
    clear dlt dgt deq tlt tgt HX HY HN cST lS lT
    go_enter Tryz.func38,Tryz.ntmps38
    go_wp2_with fail
    refine h1.mono ?_;rintro e w' ⟨rfl,hw'⟩;obtain rfl:=hw'.symm
    go_wp2_with fail
    refine h2.mono ?_;rintro e w' ⟨rfl,hw'⟩;obtain rfl:=hw'.symm
    go_wp2
    exact bodyPost_ret (v:=.int .i64 (1)) (by simp [results,Tryz.results38,go_sem] <;> simp only [*]) rfl ⟨rfl,hg⟩
end Go.Proofs.YtnileplkkmhdgaaGreatDoor
