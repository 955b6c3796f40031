import Derived.Test.YtnileplkkmhdgaaGreatDoorKNF
set_option maxHeartbeats 2000000
set_option maxRecDepth 20000
namespace Go.Proofs.YtnileplkkmhdgaaGreatDoor
open Go.RowKit
theorem Kb.trans {g:Nat} {a b c:World} (h:Kb g a b) (k:Kb g b c):Kb g a c :=
  ⟨k.1.trans h.1,k.2.1.trans h.2.1,k.2.2.1.trans h.2.2.1,Nat.le_trans h.2.2.2.1 k.2.2.2.1,fun j hj hg=>(k.2.2.2.2 j (Nat.lt_of_lt_of_le hj h.2.2.2.1) hg).trans (h.2.2.2.2 j hj hg)⟩
theorem takeOff_ (g n i c1 d:Nat) (q:Option Addr) (zs ys:List Int) (w:World) (hr:Rw w g n zs) (hzl:zs.length = n) (hwz:Wd zs) (hy:Arr w q ys) (hwy:Wd ys) (hq:0 < ys.length→∀ b off,q = some ⟨b,off,none⟩→b≠g) (hy2:2≤ys.length) (htop:2147483648≤(ys.getD (ys.length - 1) 0).toNat) (hin:i + ys.length + 1≤n) (hn:n≤16777216) (hcc:ys.length + 1≤c1) (hlt:val (zs.take (i + ys.length + 1)) < val ys * 4294967296 ^ (i + 1)) :
    Calls Tryz.prog 173 #[.slice (some ⟨g,i,none⟩) (ys.length + 1) c1,.slice q ys.length d] w fun e w'=>∃ us:List Int,e = .returned (.int .u32 ((val (zs.take (i + ys.length + 1)) / (val ys * 4294967296 ^ i):Nat):Int))∧Rw w' g n us∧us.length = n∧Wd us∧val (us.take (i + ys.length)) = val (zs.take (i + ys.length + 1)) % (val ys * 4294967296 ^ i)∧Kb g w w':=by
  obtain ⟨k,hk⟩:∃ k,ys.length = k + 2:=⟨ys.length - 2,by omega⟩
  have wz:=hwz (i + k + 2)
  have wz1:=hwz (i + k + 1)
  have wz0:=hwz (i + k)
  have wy1:=hwy (k + 1)
  have wy0:=hwy k
  obtain ⟨z,hz⟩:∃ z:Nat,(z:Int) = zs.getD (i + k + 2) 0:=⟨_,Int.toNat_of_nonneg wz.1⟩
  obtain ⟨y,hy9⟩:∃ y:Nat,(y:Int) = zs.getD (i + k + 1) 0:=⟨_,Int.toNat_of_nonneg wz1.1⟩
  obtain ⟨u0,hu0⟩:∃ u0:Nat,(u0:Int) = zs.getD (i + k) 0:=⟨_,Int.toNat_of_nonneg wz0.1⟩
  obtain ⟨v1,hv1⟩:∃ v1:Nat,(v1:Int) = ys.getD (k + 1) 0:=⟨_,Int.toNat_of_nonneg wy1.1⟩
  obtain ⟨v0,hv0⟩:∃ v0:Nat,(v0:Int) = ys.getD k 0:=⟨_,Int.toNat_of_nonneg wy0.1⟩
  have ht1:2147483648≤v1:=by
    rw [show ys.length - 1 = k + 1 from by omega,← hv1,Int.toNat_natCast] at htop
    exact htop
  have hV0:0 < val ys:=val_pos_top ys (k + 1) (by rw [← hv1,Int.toNat_natCast];omega)
  obtain ⟨hTA,hT1,hT2⟩:=head_fits zs ys hwz hwy i k u0 y z v1 v0 hk (by rw [← hu0];rfl) (by rw [← hy9];rfl) (by rw [← hz];rfl) (by rw [← hv0];rfl) (by rw [← hv1];rfl) ht1 hlt
  obtain ⟨b',off',rfl,hc'⟩:=hy.at (k:=k) (by omega)
  have hbg:=hq (by omega) b' off' rfl
  have htr:=trial_ (z * 4294967296 + y) u0 v1 v0 hTA
  obtain ⟨T,hT⟩:∃ T,T = trialN (z * 4294967296 + y) u0 v1 v0:=⟨_,rfl⟩
  have hT32:=trialN_lt (z * 4294967296 + y) u0 v1 v0
  rw [← hT] at htr hT1 hT2 hT32
  obtain ⟨hd,hhd⟩:∃ hd,hd = z * 4294967296 + y:=⟨_,rfl⟩
  rw [← hhd] at htr
  have e1:=World.rowIs.cell hr (i:=i + k + 2) (by omega)
  have e2:=World.rowIs.cell hr (i:=i + k + 1) (by omega)
  have e3:=World.rowIs.cell hr (i:=i + k) (by omega)
  have e4:=hc' (k + 1) (by omega)
  have e5:=hc' k (by omega)
  rw [← hz] at e1
  rw [← hy9] at e2
  rw [← hu0] at e3
  rw [← hv1] at e4
  rw [← hv0] at e5
  obtain ⟨S,hS⟩:∃ S,S = z * 4294967296:=⟨_,rfl⟩
  have f1:IntKind.u64.wrap (z:Int) = (z:Int):=by rw [IntKind.wrap_u64];omega
  have f2:IntKind.u64.wrap (y:Int) = (y:Int):=by rw [IntKind.wrap_u64];omega
  have f3:IntKind.u64.wrap ((z:Int) * 4294967296) = (S:Int):=by rw [IntKind.wrap_u64];omega
  have f4:bits BinOp.or IntKind.u64 (S:Int) (y:Int) = (hd:Int):=by
    rw [hS,bits_or_u64_nat (z * 4294967296) y (by omega) (by omega)]
    have e2:z * 4294967296 ||| y = hd:=by
      rw [Nat.or_comm,hhd]
      have:=or_low y z 32 (by omega)
      rw [show (2:Nat) ^ 32 = 4294967296 from rfl] at this
      omega
    rw [e2]
  have hsub:=fun (w':World) (h1:Rw w' g n zs) (h2:Arr w' (some ⟨b',off',none⟩) ys)=>subTimes_ g n i c1 d T (some ⟨b',off',none⟩) zs ys w' h1 hzl hwz h2 hwy hT32 hq hin hn hcc
  have hput:=fun (us:List Int) (w':World) (h1:Rw w' g n us) (h3:us.length = n) (h4:Wd us) (h2:Arr w' (some ⟨b',off',none⟩) ys)=>putBack_ g n i c1 d (some ⟨b',off',none⟩) us ys w' h1 h3 h4 h2 hwy hq hin hn hcc
  obtain ⟨M,hM⟩:∃ M,M = ys.length:=⟨_,rfl⟩
  obtain ⟨M1,hM1⟩:∃ M1,M1 = k + 1:=⟨_,rfl⟩
  rw [← hM] at hsub hput ⊢
  have a1:i + k + 2 = i + M:=by omega
  have a2:i + k + 1 = i + M1:=by omega
  rw [a1] at e1
  rw [a2] at e2
  rw [← hM1] at e4
  have g1:IntKind.i64.wrap ((M:Int) - 1) = (M1:Int):=by rw [IntKind.wrap_i64];omega
  have g2:IntKind.i64.wrap ((M:Int) - 2) = (k:Int):=by rw [IntKind.wrap_i64];omega
  have i0:(M:Int) < (M:Int) + 1:=by omega
  have i1:(M1:Int) < (M:Int) + 1:=by omega
  have i2:(k:Int) < (M:Int) + 1:=by omega
  have i3:(M1:Int) < (M:Int):=by omega
  have i4:(k:Int) < (M:Int):=by omega
  have HH:Hid (M = ys.length∧zs.length = n∧Wd zs∧Wd ys∧T < 4294967296∧0 < val ys∧val (zs.take (i + ys.length + 1)) / (val ys * 4294967296 ^ i)≤T∧T≤val (zs.take (i + ys.length + 1)) / (val ys * 4294967296 ^ i) + 1):=⟨hM,hzl,hwz,hwy,hT32,hV0,hT1,hT2⟩
  have HR:Hid (Rw w g n zs∧Arr w (some ⟨b',off',none⟩) ys):=⟨hr,hy⟩
  have HB:Hid (b'≠g):=hbg
  clear hr hzl hwz hwy hy hq hy2 htop hin hn hcc hlt hk wz wz1 wz0 wy1 wy0 hz hy9 hu0 hv1 hv0 ht1 hV0 hTA hT1 hT2 hc' hbg hT hT32 hhd hS hM hM1 a1 a2
  go_enter Tryz.func173,Tryz.ntmps173
  go_wp2
  go_region_held3 (fun w'=>w'.cell? ⟨g,i + M,none⟩ = some (.int .u32 (z:Int))∧w'.cell? ⟨g,i + M1,none⟩ = some (.int .u32 (y:Int))∧w'.cell? ⟨g,i + k,none⟩ = some (.int .u32 (u0:Int))∧w'.cell? ⟨b',off' + M1,none⟩ = some (.int .u32 (v1:Int))∧w'.cell? ⟨b',off' + k,none⟩ = some (.int .u32 (v0:Int))) (exact ⟨e1,e2,e3,e4,e5⟩) (first | (go_at_call 174;refine (htr _).mono ?_;rintro e w' ⟨rfl,rfl⟩))
  rename_i hHeld
  clear hHeld
  clear e1 e2 e3 e4 e5 htr f1 f2 f3 f4 g1 g2 i1 i2 i3 i4
  go_wp2_with fail
  refine (hsub w.drew.drew HR.out.1 HR.out.2).mono ?_
  rintro e w' ⟨O,bo,us,rfl,hR2,hul,hwu,hO,hbo,hv,hsam,hkb⟩
  obtain ⟨hM,hzl,hwz,hwy,hT32,hV0,hT1,hT2⟩:=HH.out
  have hkb2:Kb g w w':=hkb
  have hA2:Arr w' (some ⟨b',off',none⟩) ys:=Or.inr ⟨b',off',rfl,fun j hj=>by
    obtain ⟨b2,off2,e,hc⟩:=HR.out.2.at (k:=j) hj
    cases e
    exact hkb2.arr HB.out (hc j hj)⟩
  by_cases cz:(zs.getD (i + M) 0).toNat < O + bo
  · rw [decide_eq_true cz]
    have hpu:=hput us w' hR2 hul hwu hA2
    rw [hM] at hv hsam cz
    have hfin:=fun (C:Nat) (vs:List Int) (hl2:vs.length = us.length) (hwv:Wd vs) hs2 hv2=>off_back us vs zs ys i O bo T C (by omega) hl2 hwu hwv hwy hsam hv hV0 hT1 hT2 cz hs2 hv2
    obtain ⟨T',hT'⟩:∃ T',T' = T - 1:=⟨_,rfl⟩
    rw [← hM] at hfin
    have hT0:1≤T:=by
      by_cases e:T = 0
      · exfalso
        subst e
        have h1:=off_eq us zs ys i O bo 0 (by omega) hsam hv
        have h2:=val_take_lt us hwu (i + ys.length)
        have h3:((zs.getD (i + ys.length) 0).toNat + 1) * 4294967296 ^ (i + ys.length)≤(O + bo) * 4294967296 ^ (i + ys.length):=Nat.mul_le_mul_right _ cz
        rw [Nat.add_mul,Nat.one_mul] at h3
        rw [Nat.mul_zero,Nat.zero_mul] at h1
        omega
      · omega
    have fT:IntKind.u32.wrap ((T:Int) - 1) = (T':Int):=by rw [IntKind.wrap_u32];omega
    have HF:Hid (∀ (C:Nat) (vs:List Int),vs.length = us.length→Wd vs→(∀ j,i + M≤j→vs.getD j 0 = us.getD j 0)→val vs + C * 4294967296 ^ (i + M) = val us + val ys * 4294967296 ^ i→T' = val (zs.take (i + M + 1)) / (val ys * 4294967296 ^ i)∧val (vs.take (i + M)) = val (zs.take (i + M + 1)) % (val ys * 4294967296 ^ i)):=fun C vs a b c d=>by rw [hT'];exact (hfin C vs a b c d).2
    have HU:Hid (us.length = n∧Kb g w w'):=⟨hul,hkb2⟩
    clear hsub hput HH HR HB hM hzl hwz hwy hT32 hV0 hT1 hT2 hul hwu hO hbo hv hsam hkb hkb2 hA2 cz hfin hT' hT0 hR2 i0
    go_wp2_with fail
    refine hpu.mono ?_
    rintro e w2 ⟨C,vs,rfl,hRv,hvl,hwv,hvv,hvs,hkv⟩
    obtain ⟨hq1,hq2⟩:=HF.out C vs (by rw [hvl,HU.out.1]) hwv hvs hvv
    have hK:Kb g w w2:=HU.out.2.trans hkv
    have HQ:Hid (T' = val (zs.take (i + M + 1)) / (val ys * 4294967296 ^ i)∧val (vs.take (i + M)) = val (zs.take (i + M + 1)) % (val ys * 4294967296 ^ i)):=⟨hq1,hq2⟩
    clear hpu HF HU hvv hvs hkv hq1 hq2
    go_wp2
    exact bodyPost_ret (v:=.int .u32 (T':Int)) (by simp [results,Tryz.results173,go_sem]) rfl ⟨vs,by rw [HQ.out.1],hRv,hvl,hwv,HQ.out.2,hK⟩
  · rw [decide_eq_false cz]
    rw [hM] at hv hsam cz
    obtain ⟨hq1,hq2⟩:=off_right us zs ys i O bo T (by omega) hwu hwy hsam hv hV0 hT1 cz
    rw [← hM] at hq1 hq2
    have HQ:Hid (T = val (zs.take (i + M + 1)) / (val ys * 4294967296 ^ i)∧val (us.take (i + M)) = val (zs.take (i + M + 1)) % (val ys * 4294967296 ^ i)):=⟨hq1,hq2⟩
    clear hsub hput HH HR HB hM hzl hwz hwy hT32 hV0 hT1 hT2 hO hbo hv hsam hkb hA2 cz i0 hq1 hq2
    go_wp2
    exact bodyPost_ret (v:=.int .u32 (T:Int)) (by simp [results,Tryz.results173,go_sem]) rfl ⟨us,by rw [HQ.out.1],hR2,hul,hwu,HQ.out.2,hkb2⟩
theorem rnorm_ (p:Option Addr) (c:Nat) (xs:List Int) (w:World) (hx:Arr w p xs) (lx:xs.length≤1099511627776) :
    Calls Tryz.prog 45 #[.slice p xs.length c] w fun e w'=>∃ v,e = .returned v∧Own w' w.heap.size v (nz xs)∧Kp w w':=by
  obtain ⟨N,hN⟩:∃ N,N = xs.length:=⟨_,rfl⟩
  rw [← hN] at lx ⊢
  have HX:Hid (Arr w p xs):=hx
  have HN:Hid (N = xs.length):=hN
  obtain ⟨T,hT⟩:∃ T,T = tl xs:=⟨_,rfl⟩
  have HT:Hid (tlAux xs N = T):=by rw [hT,hN];exact rfl
  have HT2:Hid (T≤N∧T = tl xs):=⟨by rw [hT,hN];exact tl_le xs,hT⟩
  obtain ⟨i0,hi0,hi1,hi2,hi3⟩:=inf32p
  clear hN hx hT
  go_enter Tryz.func45,Tryz.ntmps45
  go_wp2
  go_loop [3] (fun i=>∃ k:Nat,i = .int .i64 k∧k≤N∧tlAux xs k = T) (fun i=>(intOf i).toNat)
  case atStart=>exact ⟨N,rfl,Nat.le_refl _,HT.out⟩
  case round =>
    obtain ⟨k,rfl,hk,ht⟩:=hrel
    have hN:=HN.out
    have step2:k = 0∨(∃ k',k = k' + 1∧xs.getD k' 0 = 0)∨(∃ k',k = k' + 1∧xs.getD k' 0≠0):=by
      rcases k with _ | k'
      · exact Or.inl rfl
      · by_cases cz:xs.getD k' 0 = 0
        · exact Or.inr (Or.inl ⟨k',rfl,cz⟩)
        · exact Or.inr (Or.inr ⟨k',rfl,cz⟩)
    rcases step2 with rfl | ⟨k,rfl,cz⟩ | ⟨k,rfl,cz⟩
    · have hT0:T = 0:=by rw [← ht];rfl
      subst hT0
      clear hN HN HX HT ht hk
      have hnz:nz xs = []:=by unfold nz;rw [← HT2.out.2];rfl
      go_wp2
      go_loopw [4,5] (fun v i wr=>v = .slice none 0 0∧i = .int .i64 0∧wr = w) (fun _ _ _=>0)
      case atStart=>exact ⟨rfl,rfl,rfl⟩
      case round =>
        obtain ⟨rfl,rfl,rfl⟩:=hrel
        go_wp2
        exact bodyPost_ret (v:=.slice none 0 0) (by simp [results,Tryz.results45,go_sem] <;> simp only [*]) rfl ⟨_,rfl,by rw [hnz];exact Own.nil _ _,Kp.refl _⟩
    · obtain ⟨b,off,rfl,hc'⟩:=HX.out.at (k:=k) (by omega)
      have e1:=hc' k (by omega)
      rw [tlAux_zero xs k cz] at ht
      rw [cz] at e1
      clear hN HN HX HT hc' HT2
      go_wp2
      exact ⟨⟨k,by go_num,by omega,ht⟩,by simp [intOf]⟩
    · obtain ⟨b,off,rfl,hc'⟩:=HX.out.at (k:=k) (by omega)
      have e1:=hc' k (by omega)
      rw [tlAux_nz xs k cz] at ht
      obtain ⟨X,hX⟩:∃ X,X = xs.getD k 0:=⟨_,rfl⟩
      rw [← hX] at e1 cz
      have t1:(X == 0) = false:=by simp [cz]
      have HK:Hid (k + 1 = T):=ht
      clear hN HT hc' hX cz ht
      go_wp2
      go_loopw [4,5] (fun a i wr=>∃ (v:Value) (j:Nat),v = a∧j≤k + 1∧i = .int .i64 j∧Own wr w.heap.size v (xs.take j)∧Kp w wr) (fun _ i _=>k + 1 - (intOf i).toNat)
      case atStart=>exact ⟨_,0,rfl,Nat.zero_le _,rfl,by simpa using Own.nil w w.heap.size,Kp.refl _⟩
      case round =>
        obtain ⟨v,j,rfl,hj,rfl,hown,hkp⟩:=hrel
        obtain ⟨hTN,hTe⟩:=HT2.out
        have hKT:=HK.out
        have hN:=HN.out
        clear e1 t1
        by_cases cj:j < k + 1
        · obtain ⟨b2,off2,hb2,hc2⟩:=HX.out.at (k:=j) (by omega)
          obtain ⟨rfl,rfl⟩:b = b2∧off = off2:=by simpa using hb2
          have e2:=kkeep hkp (hc2 j (by omega))
          have hpush:=take_push xs j (by omega)
          have hob:=own_block hown
          have hlen:(xs.take j).length = j:=by rw [List.length_take];omega
          have hown':wr.ownsRow w.heap.size 72 1 v ((xs.take j).length) ((xs.take j).map (Value.int .u32)):=hown
          obtain ⟨Y,hY⟩:∃ Y,Y = xs.getD j 0:=⟨_,rfl⟩
          rw [← hY] at e2 hpush
          have hsz:=hkp.size
          clear hc2 hb2 hY hTe HX HN HT2 HK hown
          clear hN
          go_wp2_with (first | (at_builtin;refine wpList_append_own _ rfl _ _ 25 rfl w.heap.size 72 i0 (.int .u32 0) 1 4 Tryz.underlying25 hi0 hi1 hi2 hi3 rfl (by decide) _ _ _ rfl (hown'.alloc _) ⟨wr.heap.size,0,none⟩ 1 1 [.int .u32 Y] rfl rfl ?c1 ?c2 ?c3 ?c4 ?c5 ?_))
          case c1 =>
            intro j' u hj'
            match j',hj' with
            | 0,hj'=>simp at hj';subst hj';simp [Addr.add]
          case c2=>intro u hu;simp at hu;subst hu;rfl
          case c3=>unfold maxLen;omega
          case c4=>omega
          case c5=>simp;omega
          intro v' w1 hown2 hgrow _
          have hO:Own w1 w.heap.size v' (xs.take (j + 1)):=by rw [← hpush];refine Own.push ?_;rw [hlen,List.map_take];exact hown2
          have hK2:Kp w w1:=(hkp.alloc _).grown hgrow hob
          clear hown2 hgrow hown' hkp hob e2 hsz hpush hlen
          go_wp2
          exact ⟨⟨_,j + 1,rfl,by omega,by go_num,hO,hK2⟩,by simp [intOf];omega⟩
        · have hjk:j = k + 1:=by omega
          have hnz:nz xs = xs.take j:=by unfold nz;rw [← hTe,← hKT,hjk]
          clear hN HN HX HT2 HK hTe hTN hKT
          go_wp2
          exact bodyPost_ret (v:=v) (by simp [results,Tryz.results45,go_sem] <;> simp only [*]) rfl ⟨_,rfl,by rw [hnz];exact hown,hkp⟩
end Go.Proofs.YtnileplkkmhdgaaGreatDoor
