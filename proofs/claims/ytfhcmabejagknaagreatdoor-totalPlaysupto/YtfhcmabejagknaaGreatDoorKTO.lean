import Derived.Test.YtfhcmabejagknaaGreatDoorKNF
set_option maxHeartbeats 2000000
set_option maxRecDepth 20000
namespace Go.Proofs.YtfhcmabejagknaaGreatDoor
open Go.RowKit
theorem Kb.trans {g:Nat} {a b c:World} (h:Kb g a b) (k:Kb g b c):Kb g a c :=
  ⟨k.1.trans h.1,k.2.1.trans h.2.1,k.2.2.1.trans h.2.2.1,Nat.le_trans h.2.2.2.1 k.2.2.2.1,fun j hj hg=>(k.2.2.2.2 j (Nat.lt_of_lt_of_le hj h.2.2.2.1) hg).trans (h.2.2.2.2 j hj hg)⟩
theorem takeOff_ (g n i c1 d:Nat) (q:Option Addr) (zs ys:List Int) (w:World) (hr:Rw w g n zs) (hzl:zs.length = n) (hwz:Wd zs) (hy:Arr w q ys) (hwy:Wd ys) (hq:0 < ys.length→∀ b off,q = some ⟨b,off,none⟩→b≠g) (hy2:2≤ys.length) (htop:2147483648≤(ys.getD (ys.length - 1) 0).toNat) (hin:i + ys.length + 1≤n) (hn:n≤16777216) (hcc:ys.length + 1≤c1) (hlt:val (zs.take (i + ys.length + 1)) < val ys * 4294967296 ^ (i + 1)) :
    Calls Tryz.prog 155 #[.slice (some ⟨g,i,none⟩) (ys.length + 1) c1,.slice q ys.length d] w fun e w'=>∃ us:List Int,e = .returned (.int .u32 ((val (zs.take (i + ys.length + 1)) / (val ys * 4294967296 ^ i):Nat):Int))∧Rw w' g n us∧us.length = n∧Wd us∧val (us.take (i + ys.length)) = val (zs.take (i + ys.length + 1)) % (val ys * 4294967296 ^ i)∧Kb g w w':=by
  obtain ⟨k,hk⟩:∃ k,ys.length = k + 2:=⟨ys.length - 2,by omega⟩
  have wz:=hwz (i + k + 2)
  have wz1:=hwz (i + k + 1)
  have wz0:=hwz (i + k)
  have wy1:=hwy (k + 1)
  have wy0:=hwy k
  obtain ⟨z,hz⟩:∃ z:Nat,(z:Int) = zs.getD (i + k + 2) 0:=⟨_,Int.toNat_of_nonneg wz.1⟩
  obtain ⟨y,hy9⟩:∃ y:Nat,(y:Int) = zs.getD (i + k + 1) 0:=⟨_,Int.toNat_of_nonneg wz1.1⟩
  obtain ⟨u0,hu0⟩:∃ u0:Nat,(u0:Int) = zs.getD (i + k) 0:=⟨_,Int.toNat_of_nonneg wz0.1⟩
  obtain ⟨v1,hv1⟩:∃ v1:Nat,(v1:Int) = ys.getD (k + 1) 0:=⟨_,Int.toNat_of_nonneg wy1.1⟩
  obtain ⟨v0,hv0⟩:∃ v0:Nat,(v0:Int) = ys.getD k 0:=⟨_,Int.toNat_of_nonneg wy0.1⟩
  have ht1:2147483648≤v1:=by
    rw [show ys.length - 1 = k + 1 from by omega,← hv1,Int.toNat_natCast] at htop
    exact htop
  have hV0:0 < val ys:=val_pos_top ys (k + 1) (by rw [← hv1,Int.toNat_natCast];omega)
  obtain ⟨hTA,hT1,hT2⟩:=head_fits zs ys hwz hwy i k u0 y z v1 v0 hk (by rw [← hu0];rfl) (by rw [← hy9];rfl) (by rw [← hz];rfl) (by rw [← hv0];rfl) (by rw [← hv1];rfl) ht1 hlt
  obtain ⟨b',off',rfl,hc'⟩:=hy.at (k:=k) (by omega)
  have hbg:=hq (by omega) b' off' rfl
  have htr:=trial_ (z * 4294967296 + y) u0 v1 v0 hTA
  obtain ⟨T,hT⟩:∃ T,T = trialN (z * 4294967296 + y) u0 v1 v0:=⟨_,rfl⟩
  have hT32:=trialN_lt (z * 4294967296 + y) u0 v1 v0
  rw [← hT] at htr hT1 hT2 hT32
  obtain ⟨hd,hhd⟩:∃ hd,hd = z * 4294967296 + y:=⟨_,rfl⟩
  rw [← hhd] at htr
  have e1:=World.rowIs.cell hr (i:=i + k + 2) (by omega)
  have e2:=World.rowIs.cell hr (i:=i + k + 1) (by omega)
  have e3:=World.rowIs.cell hr (i:=i + k) (by omega)
  have e4:=hc' (k + 1) (by omega)
  have e5:=hc' k (by omega)
  rw [← hz] at e1
  rw [← hy9] at e2
  rw [← hu0] at e3
  rw [← hv1] at e4
  rw [← hv0] at e5
  obtain ⟨S,hS⟩:∃ S,S = z * 4294967296:=⟨_,rfl⟩
  have f1:IntKind.u64.wrap (z:Int) = (z:Int):=by rw [IntKind.wrap_u64];omega
  have f2:IntKind.u64.wrap (y:Int) = (y:Int):=by rw [IntKind.wrap_u64];omega
  have f3:IntKind.u64.wrap ((z:Int) * 4294967296) = (S:Int):=by rw [IntKind.wrap_u64];omega
  have f4:bits BinOp.or IntKind.u64 (S:Int) (y:Int) = (hd:Int):=by
    rw [hS,bits_or_u64_nat (z * 4294967296) y (by omega) (by omega)]
    have e2:z * 4294967296 ||| y = hd:=by
      rw [Nat.or_comm,hhd]
      have:=or_low y z 32 (by omega)
      rw [show (2:Nat) ^ 32 = 4294967296 from rfl] at this
      omega
    rw [e2]
  have hsub:=fun (w':World) (h1:Rw w' g n zs) (h2:Arr w' (some ⟨b',off',none⟩) ys)=>subTimes_ g n i c1 d T (some ⟨b',off',none⟩) zs ys w' h1 hzl hwz h2 hwy hT32 hq hin hn hcc
  have hput:=fun (us:List Int) (w':World) (h1:Rw w' g n us) (h3:us.length = n) (h4:Wd us) (h2:Arr w' (some ⟨b',off',none⟩) ys)=>putBack_ g n i c1 d (some ⟨b',off',none⟩) us ys w' h1 h3 h4 h2 hwy hq hin hn hcc
  obtain ⟨M,hM⟩:∃ M,M = ys.length:=⟨_,rfl⟩
  obtain ⟨M1,hM1⟩:∃ M1,M1 = k + 1:=⟨_,rfl⟩
  rw [← hM] at hsub hput ⊢
  have a1:i + k + 2 = i + M:=by omega
  have a2:i + k + 1 = i + M1:=by omega
  rw [a1] at e1
  rw [a2] at e2
  rw [← hM1] at e4
  have g1:IntKind.i64.wrap ((M:Int) - 1) = (M1:Int):=by rw [IntKind.wrap_i64];omega
  have g2:IntKind.i64.wrap ((M:Int) - 2) = (k:Int):=by rw [IntKind.wrap_i64];omega
  have i0:(M:Int) < (M:Int) + 1:=by omega
  have i1:(M1:Int) < (M:Int) + 1:=by omega
  have i2:(k:Int) < (M:Int) + 1:=by omega
  have i3:(M1:Int) < (M:Int):=by omega
  have i4:(k:Int) < (M:Int):=by omega
  have HH:Hid (M = ys.length∧zs.length = n∧Wd zs∧Wd ys∧T < 4294967296∧0 < val ys∧val (zs.take (i + ys.length + 1)) / (val ys * 4294967296 ^ i)≤T∧T≤val (zs.take (i + ys.length + 1)) / (val ys * 4294967296 ^ i) + 1):=⟨hM,hzl,hwz,hwy,hT32,hV0,hT1,hT2⟩
  have HR:Hid (Rw w g n zs∧Arr w (some ⟨b',off',none⟩) ys):=⟨hr,hy⟩
  have HB:Hid (b'≠g):=hbg
  clear hr hzl hwz hwy hy hq hy2 htop hin hn hcc hlt hk wz wz1 wz0 wy1 wy0 hz hy9 hu0 hv1 hv0 ht1 hV0 hTA hT1 hT2 hc' hbg hT hT32 hhd hS hM hM1 a1 a2
  go_enter Tryz.func155,Tryz.ntmps155
  go_wp2
  go_region_held3 (fun w'=>w'.cell? ⟨g,i + M,none⟩ = some (.int .u32 (z:Int))∧w'.cell? ⟨g,i + M1,none⟩ = some (.int .u32 (y:Int))∧w'.cell? ⟨g,i + k,none⟩ = some (.int .u32 (u0:Int))∧w'.cell? ⟨b',off' + M1,none⟩ = some (.int .u32 (v1:Int))∧w'.cell? ⟨b',off' + k,none⟩ = some (.int .u32 (v0:Int))) (exact ⟨e1,e2,e3,e4,e5⟩) (first | (go_at_call 158;refine (htr _).mono ?_;rintro e w' ⟨rfl,rfl⟩))
  rename_i hHeld
  clear hHeld
  clear e1 e2 e3 e4 e5 htr f1 f2 f3 f4 g1 g2 i1 i2 i3 i4
  go_wp2_with fail
  refine (hsub w.drew.drew HR.out.1 HR.out.2).mono ?_
  rintro e w' ⟨O,bo,us,rfl,hR2,hul,hwu,hO,hbo,hv,hsam,hkb⟩
  obtain ⟨hM,hzl,hwz,hwy,hT32,hV0,hT1,hT2⟩:=HH.out
  have hkb2:Kb g w w':=hkb
  have hA2:Arr w' (some ⟨b',off',none⟩) ys:=Or.inr ⟨b',off',rfl,fun j hj=>by
    obtain ⟨b2,off2,e,hc⟩:=HR.out.2.at (k:=j) hj
    cases e
    exact hkb2.arr HB.out (hc j hj)⟩
  by_cases cz:(zs.getD (i + M) 0).toNat < O + bo
  · rw [decide_eq_true cz]
    have hpu:=hput us w' hR2 hul hwu hA2
    rw [hM] at hv hsam cz
    have hfin:=fun (C:Nat) (vs:List Int) (hl2:vs.length = us.length) (hwv:Wd vs) hs2 hv2=>off_back us vs zs ys i O bo T C (by omega) hl2 hwu hwv hwy hsam hv hV0 hT1 hT2 cz hs2 hv2
    obtain ⟨T',hT'⟩:∃ T',T' = T - 1:=⟨_,rfl⟩
    rw [← hM] at hfin
    have hT0:1≤T:=by
      by_cases e:T = 0
      · exfalso
        subst e
        have h1:=off_eq us zs ys i O bo 0 (by omega) hsam hv
        have h2:=val_take_lt us hwu (i + ys.length)
        have h3:((zs.getD (i + ys.length) 0).toNat + 1) * 4294967296 ^ (i + ys.length)≤(O + bo) * 4294967296 ^ (i + ys.length):=Nat.mul_le_mul_right _ cz
        rw [Nat.add_mul,Nat.one_mul] at h3
        rw [Nat.mul_zero,Nat.zero_mul] at h1
        omega
      · omega
    have fT:IntKind.u32.wrap ((T:Int) - 1) = (T':Int):=by rw [IntKind.wrap_u32];omega
    have HF:Hid (∀ (C:Nat) (vs:List Int),vs.length = us.length→Wd vs→(∀ j,i + M≤j→vs.getD j 0 = us.getD j 0)→val vs + C * 4294967296 ^ (i + M) = val us + val ys * 4294967296 ^ i→T' = val (zs.take (i + M + 1)) / (val ys * 4294967296 ^ i)∧val (vs.take (i + M)) = val (zs.take (i + M + 1)) % (val ys * 4294967296 ^ i)):=fun C vs a b c d=>by rw [hT'];exact (hfin C vs a b c d).2
    have HU:Hid (us.length = n∧Kb g w w'):=⟨hul,hkb2⟩
    clear hsub hput HH HR HB hM hzl hwz hwy hT32 hV0 hT1 hT2 hul hwu hO hbo hv hsam hkb hkb2 hA2 cz hfin hT' hT0 hR2 i0
    go_wp2_with fail
    refine hpu.mono ?_
    rintro e w2 ⟨C,vs,rfl,hRv,hvl,hwv,hvv,hvs,hkv⟩
    obtain ⟨hq1,hq2⟩:=HF.out C vs (by rw [hvl,HU.out.1]) hwv hvs hvv
    have hK:Kb g w w2:=HU.out.2.trans hkv
    have HQ:Hid (T' = val (zs.take (i + M + 1)) / (val ys * 4294967296 ^ i)∧val (vs.take (i + M)) = val (zs.take (i + M + 1)) % (val ys * 4294967296 ^ i)):=⟨hq1,hq2⟩
    clear hpu HF HU hvv hvs hkv hq1 hq2
    go_wp2
    exact bodyPost_ret (v:=.int .u32 (T':Int)) (by simp [results,Tryz.results155,go_sem]) rfl ⟨vs,by rw [HQ.out.1],hRv,hvl,hwv,HQ.out.2,hK⟩
  · rw [decide_eq_false cz]
    rw [hM] at hv hsam cz
    obtain ⟨hq1,hq2⟩:=off_right us zs ys i O bo T (by omega) hwu hwy hsam hv hV0 hT1 cz
    rw [← hM] at hq1 hq2
    have HQ:Hid (T = val (zs.take (i + M + 1)) / (val ys * 4294967296 ^ i)∧val (us.take (i + M)) = val (zs.take (i + M + 1)) % (val ys * 4294967296 ^ i)):=⟨hq1,hq2⟩
    clear hsub hput HH HR HB hM hzl hwz hwy hT32 hV0 hT1 hT2 hO hbo hv hsam hkb hA2 cz i0 hq1 hq2
    go_wp2
    exact bodyPost_ret (v:=.int .u32 (T:Int)) (by simp [results,Tryz.results155,go_sem]) rfl ⟨us,by rw [HQ.out.1],hR2,hul,hwu,HQ.out.2,hkb2⟩
theorem rnorm_ (p:Option Addr) (c:Nat) (xs:List Int) (w:World) (hx:Arr w p xs) (lx:xs.length≤1099511627776) :
    Calls Tryz.prog 79 #[.slice p xs.length c] w fun e w'=>∃ v,e = .returned v∧Own w' w.heap.size v (nz xs)∧Kp w w':=by
  obtain ⟨N,hN⟩:∃ N,N = xs.length:=⟨_,rfl⟩
  rw [← hN] at lx ⊢
  have HX:Hid (Arr w p xs):=hx
  have HN:Hid (N = xs.length):=hN
  obtain ⟨T,hT⟩:∃ T,T = tl xs:=⟨_,rfl⟩
  have HT:Hid (tlAux xs N = T):=by rw [hT,hN];exact rfl
  have HT2:Hid (T≤N∧T = tl xs):=⟨by rw [hT,hN];exact tl_le xs,hT⟩
  obtain ⟨i0,hi0,hi1,hi2,hi3⟩:=inf32p
  clear hN hx hT
  go_enter Tryz.func79,Tryz.ntmps79
  go_wp2
  go_loop [3] (fun i=>∃ k:Nat,i = .int .i64 k∧k≤N∧tlAux xs k = T) (fun i=>(intOf i).toNat)
  case atStart=>exact ⟨N,rfl,Nat.le_refl _,HT.out⟩
  case round =>
    obtain ⟨k,rfl,hk,ht⟩:=hrel
    have hN:=HN.out
    have step2:k = 0∨(∃ k',k = k' + 1∧xs.getD k' 0 = 0)∨(∃ k',k = k' + 1∧xs.getD k' 0≠0):=by
      rcases k with _ | k'
      · exact Or.inl rfl
      · by_cases cz:xs.getD k' 0 = 0
        · exact Or.inr (Or.inl ⟨k',rfl,cz⟩)
        · exact Or.inr (Or.inr ⟨k',rfl,cz⟩)
    rcases step2 with rfl | ⟨k,rfl,cz⟩ | ⟨k,rfl,cz⟩
    · have hT0:T = 0:=by rw [← ht];rfl
      subst hT0
      clear hN HN HX HT ht hk
      have hnz:nz xs = []:=by unfold nz;rw [← HT2.out.2];rfl
      go_wp2
      go_loopw [4,5] (fun v i wr=>v = .slice none 0 0∧i = .int .i64 0∧wr = w) (fun _ _ _=>0)
      case atStart=>exact ⟨rfl,rfl,rfl⟩
      case round =>
        obtain ⟨rfl,rfl,rfl⟩:=hrel
        go_wp2
        exact bodyPost_ret (v:=.slice none 0 0) (by simp [results,Tryz.results79,go_sem] <;> simp only [*]) rfl ⟨_,rfl,by rw [hnz];exact Own.nil _ _,Kp.refl _⟩
    · obtain ⟨b,off,rfl,hc'⟩:=HX.out.at (k:=k) (by omega)
      have e1:=hc' k (by omega)
      rw [tlAux_zero xs k cz] at ht
      rw [cz] at e1
      clear hN HN HX HT hc' HT2
      go_wp2
      exact ⟨⟨k,by go_num,by omega,ht⟩,by simp [intOf]⟩
    · obtain ⟨b,off,rfl,hc'⟩:=HX.out.at (k:=k) (by omega)
      have e1:=hc' k (by omega)
      rw [tlAux_nz xs k cz] at ht
      obtain ⟨X,hX⟩:∃ X,X = xs.getD k 0:=⟨_,rfl⟩
      rw [← hX] at e1 cz
      have t1:(X == 0) = false:=by simp [cz]
      have HK:Hid (k + 1 = T):=ht
      clear hN HT hc' hX cz ht
      go_wp2
      go_loopw [4,5] (fun a i wr=>∃ (v:Value) (j:Nat),v = a∧j≤k + 1∧i = .int .i64 j∧Own wr w.heap.size v (xs.take j)∧Kp w wr) (fun _ i _=>k + 1 - (intOf i).toNat)
      case atStart=>exact ⟨_,0,rfl,Nat.zero_le _,rfl,by simpa using Own.nil w w.heap.size,Kp.refl _⟩
      case round =>
        obtain ⟨v,j,rfl,hj,rfl,hown,hkp⟩:=hrel
        obtain ⟨hTN,hTe⟩:=HT2.out
        have hKT:=HK.out
        have hN:=HN.out
        clear e1 t1
        by_cases cj:j < k + 1
        · obtain ⟨b2,off2,hb2,hc2⟩:=HX.out.at (k:=j) (by omega)
          obtain ⟨rfl,rfl⟩:b = b2∧off = off2:=by simpa using hb2
          have e2:=kkeep hkp (hc2 j (by omega))
          have hpush:=take_push xs j (by omega)
          have hob:=own_block hown
          have hlen:(xs.take j).length = j:=by rw [List.length_take];omega
          have hown':wr.ownsRow w.heap.size 86 1 v ((xs.take j).length) ((xs.take j).map (Value.int .u32)):=hown
          obtain ⟨Y,hY⟩:∃ Y,Y = xs.getD j 0:=⟨_,rfl⟩
          rw [← hY] at e2 hpush
          have hsz:=hkp.size
          clear hc2 hb2 hY hTe HX HN HT2 HK hown
          clear hN
          go_wp2_with (first | (at_builtin;refine wpList_append_own _ rfl _ _ 25 rfl w.heap.size 86 i0 (.int .u32 0) 1 4 Tryz.underlying25 hi0 hi1 hi2 hi3 rfl (by decide) _ _ _ rfl (hown'.alloc _) ⟨wr.heap.size,0,none⟩ 1 1 [.int .u32 Y] rfl rfl ?c1 ?c2 ?c3 ?c4 ?c5 ?_))
          case c1 =>
            intro j' u hj'
            match j',hj' with
            | 0,hj'=>simp at hj';subst hj';simp [Addr.add]
          case c2=>intro u hu;simp at hu;subst hu;rfl
          case c3=>unfold maxLen;omega
          case c4=>omega
          case c5=>simp;omega
          intro v' w1 hown2 hgrow _
          have hO:Own w1 w.heap.size v' (xs.take (j + 1)):=by rw [← hpush];refine Own.push ?_;rw [hlen,List.map_take];exact hown2
          have hK2:Kp w w1:=(hkp.alloc _).grown hgrow hob
          clear hown2 hgrow hown' hkp hob e2 hsz hpush hlen
          go_wp2
          exact ⟨⟨_,j + 1,rfl,by omega,by go_num,hO,hK2⟩,by simp [intOf];omega⟩
        · have hjk:j = k + 1:=by omega
          have hnz:nz xs = xs.take j:=by unfold nz;rw [← hTe,← hKT,hjk]
          clear hN HN HX HT2 HK hTe hTN hKT
          go_wp2
          exact bodyPost_ret (v:=v) (by simp [results,Tryz.results79,go_sem] <;> simp only [*]) rfl ⟨_,rfl,by rw [hnz];exact hown,hkp⟩
theorem sum_ge (p q:Option Addr) (c d:Nat) (xs ys:List Int) (w:World) (hx:Arr w p xs) (hy:Arr w q ys) (hwx:Wd xs) (hwy:Wd ys) (lx:xs.length < 1099511627775) (hl:ys.length≤xs.length) :
    Calls Tryz.prog 122 #[.slice p xs.length c,.slice q ys.length d] w fun e w'=>∃ v,e = .returned v∧Own w' w.heap.size v (dig (val xs + val ys))∧Kp w w':=by
  obtain ⟨N,hN⟩:∃ N,N = xs.length:=⟨_,rfl⟩
  obtain ⟨M,hM⟩:∃ M,M = ys.length:=⟨_,rfl⟩
  have hNM:M≤N:=by omega
  have hmk:∀ w:World,(Instr.makeSlice 25 (.int .i64 ((N:Int) + 1)) (.int .i64 ((N:Int) + 1))).run Tryz.prog w = .ok (.slice (some ⟨w.heap.size,0,none⟩) (N + 1) (N + 1)) (w.alloc (.cells (madeCells #[.int .u32 0] (N + 1)) 86)):=by
    have:=mk32 (N + 1) (by omega)
    simpa using this
  have hk1:Kp w (w.alloc (.cells (madeCells #[.int .u32 0] (N + 1)) 86)):=(Kp.refl w).alloc _
  obtain ⟨w2,hcp,hr2,hkw⟩:=copy32 (w.alloc (.cells (madeCells #[.int .u32 0] (N + 1)) 86)) w.heap.size (N + 1) c p xs _ (World.rowIs_made w (.int .u32 0) (N + 1) 86) (hx.grown hk1) (by omega)
  have hk2:Kp w w2:=hkw w (Nat.le_refl _) hk1
  have hrz:Rw w2 w.heap.size (N + 1) (xs ++ [0]):=World.rowIs.congr hr2 (fun j _=>by
    rw [getD_end]
    by_cases e:j < xs.length
    · rw [if_pos e,if_pos e]
    · rw [if_neg e,if_neg e])
  have hwz:Wd (xs ++ [0]):=hwx.append (Wd.one (by omega))
  have hvz:=val_zero_end xs
  have hgz:∀ j,j < N→(xs ++ [0]).getD j 0 = xs.getD j 0:=fun j hj=>by rw [getD_end,if_pos (by omega)]
  have hlz:(xs ++ [0]).length = N + 1:=by simp;omega
  obtain ⟨zs0,hz0⟩:∃ zs0,zs0 = xs ++ [0]:=⟨_,rfl⟩
  rw [← hz0] at hrz hwz hvz hgz hlz
  rw [← hN] at hcp ⊢
  rw [← hM]
  have t0:¬ ((N:Int) < (M:Int)):=by omega
  have hb1:N < 1099511627775:=by omega
  have HX:Hid (Arr w p xs):=hx
  have HY:Hid (Arr w q ys):=hy
  have HW:Hid (Wd xs∧Wd ys):=⟨hwx,hwy⟩
  have HN:Hid (N = xs.length∧M = ys.length∧M≤N):=⟨hN,hM,hNM⟩
  obtain ⟨g,hg⟩:∃ g,g = w.heap.size:=⟨_,rfl⟩
  rw [← hg] at hrz
  have HG:Hid (g = w.heap.size):=hg
  clear hx hy hwx hwy lx hl hN hM hkw hr2 hk1 hz0
  go_enter Tryz.func122,Tryz.ntmps122
  go_wp2
  rw [← hg]
  clear hmk hcp
  go_loopw [6,25] (fun cc i wr=>∃ (k C:Nat) (zs:List Int),cc = .int .u32 C∧i = .int .i64 k∧k≤M∧Rw wr g (N + 1) zs∧zs.length = N + 1∧Wd zs∧C≤1∧val zs + C * 4294967296 ^ k = val xs + val (ys.take k)∧(∀ j,k≤j→j < N→zs.getD j 0 = xs.getD j 0)∧Kp w wr) (fun _ i _=>M - (intOf i).toNat)
  case atStart=>exact ⟨0,0,zs0,rfl,rfl,Nat.zero_le _,hrz,hlz,hwz,by omega,by simp [val,hvz],fun j _ hj=>hgz j hj,hk2⟩
  case round =>
    clear hrz hwz hvz hgz hlz hk2 hg t0
    obtain ⟨k,C,zs,rfl,rfl,hk,hrow,hzl,hwz,hC,hv,hsam,hkp⟩:=hrel
    obtain ⟨hN,hM,hNM⟩:=HN.out
    obtain ⟨hwx,hwy⟩:=HW.out
    by_cases ck:k < M
    · obtain ⟨b,off,rfl,hc⟩:=HX.out.at (k:=k) (by omega)
      obtain ⟨b',off',rfl,hc'⟩:=HY.out.at (k:=k) (by omega)
      have e1:=kkeep hkp (hc k (by omega))
      have e2:=kkeep hkp (hc' k (by omega))
      have hbg:b≠g:=by have:=cell_lt (hc k (by omega));have:=HG.out;omega
      have hbg':b'≠g:=by have:=cell_lt (hc' k (by omega));have:=HG.out;omega
      have e3:=World.rowIs.cell hrow (i:=k) (by omega)
      have e4:=World.rowIs.frozen hrow k
      have wx:=hwx k
      have wy:=hwy k
      have hzX:=hsam k (Nat.le_refl _) (by omega)
      obtain ⟨S,hS⟩:∃ S:Nat,S = (xs.getD k 0).toNat + (ys.getD k 0).toNat + C:=⟨_,rfl⟩
      have hst:=sum_step zs k C S _ (xs.getD k 0) (ys.getD k 0) (by omega) hzX hS hv
      rw [Nat.add_assoc,← val_take_succ] at hst
      obtain ⟨X,hX⟩:∃ X,X = xs.getD k 0:=⟨_,rfl⟩
      obtain ⟨Y,hY⟩:∃ Y,Y = ys.getD k 0:=⟨_,rfl⟩
      rw [← hX] at e1 wx hS
      rw [← hY] at e2 wy hS
      have had:=add32_ X Y (C:Int) wx wy (by omega)
      have f1:(X + Y + (C:Int)) % 4294967296 = ((S % 4294967296:Nat):Int):=by omega
      have f2:(X + Y + (C:Int)) / 4294967296 = ((S / 4294967296:Nat):Int):=by omega
      rw [f1,f2] at had
      have hC':S / 4294967296≤1:=by omega
      obtain ⟨Z,hZ⟩:∃ Z:Int,Z = ((S % 4294967296:Nat):Int):=⟨_,rfl⟩
      obtain ⟨C',hC2⟩:∃ C':Nat,C' = S / 4294967296:=⟨_,rfl⟩
      rw [← hZ] at had hst
      rw [← hC2] at had hst hC'
      have hsam2:∀ j,k + 1≤j→j < N→(zs.set k Z).getD j 0 = xs.getD j 0:=fun j h1 h2=>by
        rw [← hsam j (by omega) h2];simp [List.getD,show ¬ k = j from by omega]
      have hw2:Wd (zs.set k Z):=hwz.set k Z (by omega)
      have hl2:(zs.set k Z).length = N + 1:=by rw [List.length_set];exact hzl
      have hrs:∀ w':World,Kp wr w'→Rw (w'.setCell ⟨g,k,none⟩ (.int .u32 Z)) g (N + 1) (zs.set k Z):=fun w' h=>(hrow.grown h).set k Z (by omega)
      have hkk:k < N + 1:=by omega
      have i0:(0:Int)≤(k:Int):=by omega
      have i1:(k:Int) < (N:Int):=by omega
      have i2:(k:Int) < (M:Int):=by omega
      have i3:(k:Int) < (N:Int) + 1:=by omega
      have hgw:w.heap.size≤g:=by rw [HG.out];exact Nat.le_refl _
      clear hc hc' HX HY HW HN HG hN hM hX hY hS hv hZ hC2 wx wy hwz hC hwx hwy f1 f2 hzX hsam hzl hrow
      go_wp2
      go_region_held3 (fun w'=>w'.cell? ⟨b,off + k,none⟩ = some (.int .u32 X)∧w'.cell? ⟨b',off' + k,none⟩ = some (.int .u32 Y)) (first | (exact ⟨e1,e2⟩) | (exact ⟨(World.cell?_setCell_far _ _ _ _ (Ne.symm hbg)).trans e1,(World.cell?_setCell_far _ _ _ _ (Ne.symm hbg')).trans e2⟩)) (first | (go_at_call 141;refine (had _).mono ?_;rintro e w' ⟨rfl,rfl⟩))
      have hR:Rw (wr.setCell ⟨g,k,none⟩ (.int .u32 Z)).drew g (N + 1) (zs.set k Z):=hrs wr (Kp.refl _)
      have hK:Kp w (wr.setCell ⟨g,k,none⟩ (.int .u32 Z)).drew:=(hkp.setCell hgw _).drew
      clear hrs hkp e1 e2 e3 e4 had
      go_wp2
      exact ⟨⟨k + 1,C',zs.set k Z,rfl,by go_num,by omega,hR,hl2,hw2,hC',hst,hsam2,hK⟩,by simp [intOf];omega⟩
    · have hkM:k = M:=by omega
      subst hkM
      rw [hM,List.take_length,← hM] at hv
      have i2:¬ ((k:Int) < (k:Int)):=by omega
      have HV:Hid (val zs + C * 4294967296 ^ k = val xs + val ys):=hv
      clear hv HX HY hsam hk ck hN hM hNM hwx hwy
      go_wp2
      go_loopw [6,8] (fun cc i wq=>∃ (j C:Nat) (zs:List Int),cc = .int .u32 C∧i = .int .i64 j∧Rw wq g (N + 1) zs∧zs.length = N + 1∧Wd zs∧C≤1∧val zs + C * 4294967296 ^ j = val xs + val ys∧Kp w wq∧j≤N + 1) (fun _ i _=>N + 2 - (intOf i).toNat)
      case atStart=>exact ⟨k,C,zs,rfl,rfl,hrow,hzl,hwz,hC,HV.out,hkp,by have:=HN.out.2.2;omega⟩
      case round =>
        clear hrow hzl hwz hC HV hkp
        obtain ⟨j,C,zs,rfl,rfl,hrow,hzl,hwz,hC,hv,hkp,hj⟩:=hrel
        obtain ⟨hN,hM,hNM⟩:=HN.out
        obtain ⟨hwx,hwy⟩:=HW.out
        rcases (by omega:C = 0∨C = 1) with rfl | rfl
        · rw [Nat.zero_mul,Nat.add_zero] at hv
          have hA:=hrow.arr (N + 1) (Nat.le_refl _) (by omega)
          rw [List.take_of_length_le (by omega)] at hA
          have htr:=trim_ (some ⟨g,0,none⟩) (N + 1) zs wr hA (by omega) (by omega)
          have hO:Own wr w.heap.size (.slice (some ⟨g,0,none⟩) (tl zs) (N + 1)) (dig (val xs + val ys)):=by
            have h1:=Own.of_row (base:=w.heap.size) (k:=tl zs) hrow (by rw [HG.out];exact Nat.le_refl _) (by have:=tl_le zs;omega) hzl (by unfold maxLen;omega)
            have h2:zs.take (tl zs) = dig (val xs + val ys):=by rw [← hv,← nz_dig zs hwz];rfl
            rw [h2] at h1
            exact h1
          rw [hzl] at htr
          obtain ⟨T,hT⟩:∃ T,T = tl zs:=⟨_,rfl⟩
          rw [← hT] at htr hO
          clear hA hrow hzl hwz hC hv hj hT HW HN HG hN hM hNM hwx hwy i2
          go_wp2_with (first | (go_at_call 90;refine htr.mono ?_;rintro e w' ⟨rfl,rfl⟩))
          exact bodyPost_ret (v:=.slice (some ⟨g,0,none⟩) T (N + 1)) (by simp [results,Tryz.results122,go_sem] <;> simp only [*]) rfl ⟨_,rfl,hO,hkp⟩
        · have hjN:j≤N:=by
            have:=sum_room xs ys zs j hwx hwy (by omega) hv
            omega
          have e3:=World.rowIs.cell hrow (i:=j) (by omega)
          have e4:=World.rowIs.frozen hrow j
          have wz:=hwz j
          obtain ⟨Z0,hZ0⟩:∃ Z0,Z0 = zs.getD j 0:=⟨_,rfl⟩
          obtain ⟨S,hS⟩:∃ S:Nat,S = Z0.toNat + (0:Int).toNat + 1:=⟨_,rfl⟩
          have hst:=sum_step zs j 1 S _ Z0 0 (by omega) hZ0.symm hS hv
          rw [show (0:Int).toNat = 0 from rfl,Nat.zero_mul,Nat.add_zero] at hst
          rw [← hZ0] at wz
          rw [show (0:Int).toNat = 0 from rfl] at hS
          have had:=add32_ Z0 0 1 wz (by omega) (by omega)
          have f1:(Z0 + 0 + 1) % 4294967296 = ((S % 4294967296:Nat):Int):=by omega
          have f2:(Z0 + 0 + 1) / 4294967296 = ((S / 4294967296:Nat):Int):=by omega
          rw [f1,f2] at had
          have hC':S / 4294967296≤1:=by omega
          obtain ⟨Z,hZ⟩:∃ Z:Int,Z = ((S % 4294967296:Nat):Int):=⟨_,rfl⟩
          obtain ⟨C',hC2⟩:∃ C':Nat,C' = S / 4294967296:=⟨_,rfl⟩
          rw [← hZ] at had hst
          rw [← hC2] at had hst hC'
          have hw2:Wd (zs.set j Z):=hwz.set j Z (by omega)
          have hl2:(zs.set j Z).length = N + 1:=by rw [List.length_set];exact hzl
          have hR:Rw (wr.setCell ⟨g,j,none⟩ (.int .u32 Z)) g (N + 1) (zs.set j Z):=hrow.set j Z (by omega)
          have hK:Kp w (wr.setCell ⟨g,j,none⟩ (.int .u32 Z)):=hkp.setCell (by rw [HG.out];exact Nat.le_refl _) _
          have e3':wr.cell? ⟨g,j,none⟩ = some (.int .u32 Z0):=by rw [hZ0];exact e3
          have i0:(0:Int)≤(j:Int):=by omega
          have i3:(j:Int) < (N:Int) + 1:=by omega
          clear e3 hrow hzl hwz hC hv hS hZ hC2 hZ0 wz f1 f2 HW HN HG hN hM hNM hwx hwy i2 hkp
          go_wp2_with (first | (go_at_call 141;refine (had _).mono ?_;rintro e w' ⟨rfl,rfl⟩))
          exact ⟨⟨j + 1,C',zs.set j Z,rfl,by go_num,hR,hl2,hw2,hC',hst,hK,by omega⟩,by simp [intOf];omega⟩
theorem sum_lt (p q:Option Addr) (c d:Nat) (xs ys:List Int) (w:World) (hx:Arr w p xs) (hy:Arr w q ys) (hwx:Wd xs) (hwy:Wd ys) (lx:xs.length < 1099511627775) (hl:ys.length < xs.length) :
    Calls Tryz.prog 122 #[.slice q ys.length d,.slice p xs.length c] w fun e w'=>∃ v,e = .returned v∧Own w' w.heap.size v (dig (val xs + val ys))∧Kp w w':=by
  obtain ⟨N,hN⟩:∃ N,N = xs.length:=⟨_,rfl⟩
  obtain ⟨M,hM⟩:∃ M,M = ys.length:=⟨_,rfl⟩
  have hNM:M≤N:=by omega
  have hmk:∀ w:World,(Instr.makeSlice 25 (.int .i64 ((N:Int) + 1)) (.int .i64 ((N:Int) + 1))).run Tryz.prog w = .ok (.slice (some ⟨w.heap.size,0,none⟩) (N + 1) (N + 1)) (w.alloc (.cells (madeCells #[.int .u32 0] (N + 1)) 86)):=by
    have:=mk32 (N + 1) (by omega)
    simpa using this
  have hk1:Kp w (w.alloc (.cells (madeCells #[.int .u32 0] (N + 1)) 86)):=(Kp.refl w).alloc _
  obtain ⟨w2,hcp,hr2,hkw⟩:=copy32 (w.alloc (.cells (madeCells #[.int .u32 0] (N + 1)) 86)) w.heap.size (N + 1) c p xs _ (World.rowIs_made w (.int .u32 0) (N + 1) 86) (hx.grown hk1) (by omega)
  have hk2:Kp w w2:=hkw w (Nat.le_refl _) hk1
  have hrz:Rw w2 w.heap.size (N + 1) (xs ++ [0]):=World.rowIs.congr hr2 (fun j _=>by
    rw [getD_end]
    by_cases e:j < xs.length
    · rw [if_pos e,if_pos e]
    · rw [if_neg e,if_neg e])
  have hwz:Wd (xs ++ [0]):=hwx.append (Wd.one (by omega))
  have hvz:=val_zero_end xs
  have hgz:∀ j,j < N→(xs ++ [0]).getD j 0 = xs.getD j 0:=fun j hj=>by rw [getD_end,if_pos (by omega)]
  have hlz:(xs ++ [0]).length = N + 1:=by simp;omega
  obtain ⟨zs0,hz0⟩:∃ zs0,zs0 = xs ++ [0]:=⟨_,rfl⟩
  rw [← hz0] at hrz hwz hvz hgz hlz
  rw [← hN] at hcp ⊢
  rw [← hM]
  have t0:(M:Int) < (N:Int):=by omega
  have hb1:N < 1099511627775:=by omega
  have HX:Hid (Arr w p xs):=hx
  have HY:Hid (Arr w q ys):=hy
  have HW:Hid (Wd xs∧Wd ys):=⟨hwx,hwy⟩
  have HN:Hid (N = xs.length∧M = ys.length∧M≤N):=⟨hN,hM,hNM⟩
  obtain ⟨g,hg⟩:∃ g,g = w.heap.size:=⟨_,rfl⟩
  rw [← hg] at hrz
  have HG:Hid (g = w.heap.size):=hg
  clear hx hy hwx hwy lx hl hN hM hkw hr2 hk1 hz0
  go_enter Tryz.func122,Tryz.ntmps122
  go_wp2
  rw [← hg]
  clear hmk hcp
  go_loopw [6,25] (fun cc i wr=>∃ (k C:Nat) (zs:List Int),cc = .int .u32 C∧i = .int .i64 k∧k≤M∧Rw wr g (N + 1) zs∧zs.length = N + 1∧Wd zs∧C≤1∧val zs + C * 4294967296 ^ k = val xs + val (ys.take k)∧(∀ j,k≤j→j < N→zs.getD j 0 = xs.getD j 0)∧Kp w wr) (fun _ i _=>M - (intOf i).toNat)
  case atStart=>exact ⟨0,0,zs0,rfl,rfl,Nat.zero_le _,hrz,hlz,hwz,by omega,by simp [val,hvz],fun j _ hj=>hgz j hj,hk2⟩
  case round =>
    clear hrz hwz hvz hgz hlz hk2 hg t0
    obtain ⟨k,C,zs,rfl,rfl,hk,hrow,hzl,hwz,hC,hv,hsam,hkp⟩:=hrel
    obtain ⟨hN,hM,hNM⟩:=HN.out
    obtain ⟨hwx,hwy⟩:=HW.out
    by_cases ck:k < M
    · obtain ⟨b,off,rfl,hc⟩:=HX.out.at (k:=k) (by omega)
      obtain ⟨b',off',rfl,hc'⟩:=HY.out.at (k:=k) (by omega)
      have e1:=kkeep hkp (hc k (by omega))
      have e2:=kkeep hkp (hc' k (by omega))
      have hbg:b≠g:=by have:=cell_lt (hc k (by omega));have:=HG.out;omega
      have hbg':b'≠g:=by have:=cell_lt (hc' k (by omega));have:=HG.out;omega
      have e3:=World.rowIs.cell hrow (i:=k) (by omega)
      have e4:=World.rowIs.frozen hrow k
      have wx:=hwx k
      have wy:=hwy k
      have hzX:=hsam k (Nat.le_refl _) (by omega)
      obtain ⟨S,hS⟩:∃ S:Nat,S = (xs.getD k 0).toNat + (ys.getD k 0).toNat + C:=⟨_,rfl⟩
      have hst:=sum_step zs k C S _ (xs.getD k 0) (ys.getD k 0) (by omega) hzX hS hv
      rw [Nat.add_assoc,← val_take_succ] at hst
      obtain ⟨X,hX⟩:∃ X,X = xs.getD k 0:=⟨_,rfl⟩
      obtain ⟨Y,hY⟩:∃ Y,Y = ys.getD k 0:=⟨_,rfl⟩
      rw [← hX] at e1 wx hS
      rw [← hY] at e2 wy hS
      have had:=add32_ X Y (C:Int) wx wy (by omega)
      have f1:(X + Y + (C:Int)) % 4294967296 = ((S % 4294967296:Nat):Int):=by omega
      have f2:(X + Y + (C:Int)) / 4294967296 = ((S / 4294967296:Nat):Int):=by omega
      rw [f1,f2] at had
      have hC':S / 4294967296≤1:=by omega
      obtain ⟨Z,hZ⟩:∃ Z:Int,Z = ((S % 4294967296:Nat):Int):=⟨_,rfl⟩
      obtain ⟨C',hC2⟩:∃ C':Nat,C' = S / 4294967296:=⟨_,rfl⟩
      rw [← hZ] at had hst
      rw [← hC2] at had hst hC'
      have hsam2:∀ j,k + 1≤j→j < N→(zs.set k Z).getD j 0 = xs.getD j 0:=fun j h1 h2=>by
        rw [← hsam j (by omega) h2];simp [List.getD,show ¬ k = j from by omega]
      have hw2:Wd (zs.set k Z):=hwz.set k Z (by omega)
      have hl2:(zs.set k Z).length = N + 1:=by rw [List.length_set];exact hzl
      have hrs:∀ w':World,Kp wr w'→Rw (w'.setCell ⟨g,k,none⟩ (.int .u32 Z)) g (N + 1) (zs.set k Z):=fun w' h=>(hrow.grown h).set k Z (by omega)
      have hkk:k < N + 1:=by omega
      have i0:(0:Int)≤(k:Int):=by omega
      have i1:(k:Int) < (N:Int):=by omega
      have i2:(k:Int) < (M:Int):=by omega
      have i3:(k:Int) < (N:Int) + 1:=by omega
      have hgw:w.heap.size≤g:=by rw [HG.out];exact Nat.le_refl _
      clear hc hc' HX HY HW HN HG hN hM hX hY hS hv hZ hC2 wx wy hwz hC hwx hwy f1 f2 hzX hsam hzl hrow
      go_wp2
      go_region_held3 (fun w'=>w'.cell? ⟨b,off + k,none⟩ = some (.int .u32 X)∧w'.cell? ⟨b',off' + k,none⟩ = some (.int .u32 Y)) (first | (exact ⟨e1,e2⟩) | (exact ⟨(World.cell?_setCell_far _ _ _ _ (Ne.symm hbg)).trans e1,(World.cell?_setCell_far _ _ _ _ (Ne.symm hbg')).trans e2⟩)) (first | (go_at_call 141;refine (had _).mono ?_;rintro e w' ⟨rfl,rfl⟩))
      have hR:Rw (wr.setCell ⟨g,k,none⟩ (.int .u32 Z)).drew g (N + 1) (zs.set k Z):=hrs wr (Kp.refl _)
      have hK:Kp w (wr.setCell ⟨g,k,none⟩ (.int .u32 Z)).drew:=(hkp.setCell hgw _).drew
      clear hrs hkp e1 e2 e3 e4 had
      go_wp2
      exact ⟨⟨k + 1,C',zs.set k Z,rfl,by go_num,by omega,hR,hl2,hw2,hC',hst,hsam2,hK⟩,by simp [intOf];omega⟩
    · have hkM:k = M:=by omega
      subst hkM
      rw [hM,List.take_length,← hM] at hv
      have i2:¬ ((k:Int) < (k:Int)):=by omega
      have HV:Hid (val zs + C * 4294967296 ^ k = val xs + val ys):=hv
      clear hv HX HY hsam hk ck hN hM hNM hwx hwy
      go_wp2
      go_loopw [6,8] (fun cc i wq=>∃ (j C:Nat) (zs:List Int),cc = .int .u32 C∧i = .int .i64 j∧Rw wq g (N + 1) zs∧zs.length = N + 1∧Wd zs∧C≤1∧val zs + C * 4294967296 ^ j = val xs + val ys∧Kp w wq∧j≤N + 1) (fun _ i _=>N + 2 - (intOf i).toNat)
      case atStart=>exact ⟨k,C,zs,rfl,rfl,hrow,hzl,hwz,hC,HV.out,hkp,by have:=HN.out.2.2;omega⟩
      case round =>
        clear hrow hzl hwz hC HV hkp
        obtain ⟨j,C,zs,rfl,rfl,hrow,hzl,hwz,hC,hv,hkp,hj⟩:=hrel
        obtain ⟨hN,hM,hNM⟩:=HN.out
        obtain ⟨hwx,hwy⟩:=HW.out
        rcases (by omega:C = 0∨C = 1) with rfl | rfl
        · rw [Nat.zero_mul,Nat.add_zero] at hv
          have hA:=hrow.arr (N + 1) (Nat.le_refl _) (by omega)
          rw [List.take_of_length_le (by omega)] at hA
          have htr:=trim_ (some ⟨g,0,none⟩) (N + 1) zs wr hA (by omega) (by omega)
          have hO:Own wr w.heap.size (.slice (some ⟨g,0,none⟩) (tl zs) (N + 1)) (dig (val xs + val ys)):=by
            have h1:=Own.of_row (base:=w.heap.size) (k:=tl zs) hrow (by rw [HG.out];exact Nat.le_refl _) (by have:=tl_le zs;omega) hzl (by unfold maxLen;omega)
            have h2:zs.take (tl zs) = dig (val xs + val ys):=by rw [← hv,← nz_dig zs hwz];rfl
            rw [h2] at h1
            exact h1
          rw [hzl] at htr
          obtain ⟨T,hT⟩:∃ T,T = tl zs:=⟨_,rfl⟩
          rw [← hT] at htr hO
          clear hA hrow hzl hwz hC hv hj hT HW HN HG hN hM hNM hwx hwy i2
          go_wp2_with (first | (go_at_call 90;refine htr.mono ?_;rintro e w' ⟨rfl,rfl⟩))
          exact bodyPost_ret (v:=.slice (some ⟨g,0,none⟩) T (N + 1)) (by simp [results,Tryz.results122,go_sem] <;> simp only [*]) rfl ⟨_,rfl,hO,hkp⟩
        · have hjN:j≤N:=by
            have:=sum_room xs ys zs j hwx hwy (by omega) hv
            omega
          have e3:=World.rowIs.cell hrow (i:=j) (by omega)
          have e4:=World.rowIs.frozen hrow j
          have wz:=hwz j
          obtain ⟨Z0,hZ0⟩:∃ Z0,Z0 = zs.getD j 0:=⟨_,rfl⟩
          obtain ⟨S,hS⟩:∃ S:Nat,S = Z0.toNat + (0:Int).toNat + 1:=⟨_,rfl⟩
          have hst:=sum_step zs j 1 S _ Z0 0 (by omega) hZ0.symm hS hv
          rw [show (0:Int).toNat = 0 from rfl,Nat.zero_mul,Nat.add_zero] at hst
          rw [← hZ0] at wz
          rw [show (0:Int).toNat = 0 from rfl] at hS
          have had:=add32_ Z0 0 1 wz (by omega) (by omega)
          have f1:(Z0 + 0 + 1) % 4294967296 = ((S % 4294967296:Nat):Int):=by omega
          have f2:(Z0 + 0 + 1) / 4294967296 = ((S / 4294967296:Nat):Int):=by omega
          rw [f1,f2] at had
          have hC':S / 4294967296≤1:=by omega
          obtain ⟨Z,hZ⟩:∃ Z:Int,Z = ((S % 4294967296:Nat):Int):=⟨_,rfl⟩
          obtain ⟨C',hC2⟩:∃ C':Nat,C' = S / 4294967296:=⟨_,rfl⟩
          rw [← hZ] at had hst
          rw [← hC2] at had hst hC'
          have hw2:Wd (zs.set j Z):=hwz.set j Z (by omega)
          have hl2:(zs.set j Z).length = N + 1:=by rw [List.length_set];exact hzl
          have hR:Rw (wr.setCell ⟨g,j,none⟩ (.int .u32 Z)) g (N + 1) (zs.set j Z):=hrow.set j Z (by omega)
          have hK:Kp w (wr.setCell ⟨g,j,none⟩ (.int .u32 Z)):=hkp.setCell (by rw [HG.out];exact Nat.le_refl _) _
          have e3':wr.cell? ⟨g,j,none⟩ = some (.int .u32 Z0):=by rw [hZ0];exact e3
          have i0:(0:Int)≤(j:Int):=by omega
          have i3:(j:Int) < (N:Int) + 1:=by omega
          clear e3 hrow hzl hwz hC hv hS hZ hC2 hZ0 wz f1 f2 HW HN HG hN hM hNM hwx hwy i2 hkp
          go_wp2_with (first | (go_at_call 141;refine (had _).mono ?_;rintro e w' ⟨rfl,rfl⟩))
          exact ⟨⟨j + 1,C',zs.set j Z,rfl,by go_num,hR,hl2,hw2,hC',hst,hK,by omega⟩,by simp [intOf];omega⟩
theorem Arr.take {w:World} {p:Option Addr} {xs:List Int} (h:Arr w p xs) (k:Nat):Arr w p (xs.take k):=by
  rcases h with h | ⟨b,off,h1,h2⟩
  · subst h;exact Or.inl (by simp)
  · refine Or.inr ⟨b,off,h1,fun j hj=>?_⟩
    have hj2:j < k∧j < xs.length:=by simp at hj;omega
    rw [h2 j hj2.2];simp [List.getD,hj2.1]
theorem sum_any (p q:Option Addr) (c d:Nat) (xs ys:List Int) (w:World) (hx:Arr w p xs) (hy:Arr w q ys) (hwx:Wd xs) (hwy:Wd ys) (lx:xs.length < 1099511627775) (ly:ys.length < 1099511627775) :
    Calls Tryz.prog 122 #[.slice p xs.length c,.slice q ys.length d] w fun e w'=>∃ v,e = .returned v∧Own w' w.heap.size v (dig (val xs + val ys))∧Kp w w':=by
  by_cases h:ys.length≤xs.length
  · exact sum_ge p q c d xs ys w hx hy hwx hwy lx h
  · rw [Nat.add_comm]
    exact sum_lt q p d c ys xs w hy hx hwy hwx ly (by omega)
theorem nadd_ (p q:Option Addr) (c d:Nat) (xs ys:List Int) (w:World) (hx:Arr w p xs) (hy:Arr w q ys) (hwx:Wd xs) (hwy:Wd ys) (lx:xs.length < 1099511627775) (ly:ys.length < 1099511627775) (hc:xs.length≤c) (hd:ys.length≤d) :
    Calls Tryz.prog 93 #[.slice p xs.length c,.slice q ys.length d] w fun e w'=>∃ v,e = .returned (.tuple #[v,.int .i64 (addN (val xs) (val ys)).2])∧Own w' w.heap.size v (addN (val xs) (val ys)).1∧Kp w w':=by
  have h1:=trim_ p c xs w hx (by omega) hc
  have h2:=trim_ q d ys w hy (by omega) hd
  have h3:=tooLong_ p (tl xs) c
  have h4:=tooLong_ q (tl ys) d
  have h5:=sum_any p q c d (nz xs) (nz ys) w (hx.take _) (hy.take _) (hwx.take _) (hwy.take _) (by rw [nz_length];have:=tl_le xs;omega) (by rw [nz_length];have:=tl_le ys;omega)
  rw [nz_length,nz_length,val_nz,val_nz] at h5
  have e1:=tl_len xs hwx
  have e2:=tl_len ys hwy
  obtain ⟨N,hN⟩:∃ N,N = xs.length:=⟨_,rfl⟩
  obtain ⟨M,hM⟩:∃ M,M = ys.length:=⟨_,rfl⟩
  obtain ⟨S,hS⟩:∃ S,S = tl xs:=⟨_,rfl⟩
  obtain ⟨T,hT⟩:∃ T,T = tl ys:=⟨_,rfl⟩
  rw [← hN,← hS] at h1
  rw [← hM,← hT] at h2
  rw [← hS] at h3 h5 e1
  rw [← hT] at h4 h5 e2
  rw [← hN,← hM]
  by_cases c1:16384 < S
  · rw [decide_eq_true c1] at h3
    have e3:addN (val xs) (val ys) = ([],2):=by unfold addN;rw [if_pos (Or.inl (by omega))]
    rw [e3]
    clear hx hy hwx hwy lx ly hc hd hN hM hS hT h4 h5 c1 e1 e2 e3
    go_enter Tryz.func93,Tryz.ntmps93
    go_wp2_with fail
    refine h1.mono ?_;rintro e w' ⟨rfl,rfl⟩
    go_wp2_with fail
    refine h2.mono ?_;rintro e w' ⟨rfl,rfl⟩
    go_wp2_with fail
    refine (h3 _).mono ?_;rintro e w' ⟨rfl,rfl⟩
    go_wp2
    exact bodyPost_ret (v:=.tuple #[.slice none 0 0,.int .i64 2]) (by simp [results,Tryz.results93,go_sem] <;> simp only [*]) rfl ⟨_,rfl,Own.nil _ _,Kp.refl _⟩
  rw [decide_eq_false c1] at h3
  by_cases c2:16384 < T
  · rw [decide_eq_true c2] at h4
    have e3:addN (val xs) (val ys) = ([],2):=by unfold addN;rw [if_pos (Or.inr (by omega))]
    rw [e3]
    clear hx hy hwx hwy lx ly hc hd hN hM hS hT h5 c1 c2 e1 e2 e3
    go_enter Tryz.func93,Tryz.ntmps93
    go_wp2_with fail
    refine h1.mono ?_;rintro e w' ⟨rfl,rfl⟩
    go_wp2_with fail
    refine h2.mono ?_;rintro e w' ⟨rfl,rfl⟩
    go_wp2_with fail
    refine (h3 _).mono ?_;rintro e w' ⟨rfl,rfl⟩
    go_wp2_with fail
    refine (h4 _).mono ?_;rintro e w' ⟨rfl,rfl⟩
    go_wp2
    exact bodyPost_ret (v:=.tuple #[.slice none 0 0,.int .i64 2]) (by simp [results,Tryz.results93,go_sem] <;> simp only [*]) rfl ⟨_,rfl,Own.nil _ _,Kp.refl _⟩
  rw [decide_eq_false c2] at h4
  have e0:addN (val xs) (val ys) = if 16384 < len32 (val xs + val ys) then ([],2) else (dig (val xs + val ys),0):=by unfold addN;rw [if_neg (by omega)]
  obtain ⟨K,hK⟩:∃ K,K = val xs + val ys:=⟨_,rfl⟩
  rw [e0,← hK]
  rw [← hK] at h5
  clear hx hy hwx hwy hc hd hN hM hS hT c1 c2 e0 hK e1 e2
  by_cases c3:16384 < len32 K
  · rw [if_pos c3]
    go_enter Tryz.func93,Tryz.ntmps93
    go_wp2_with fail
    refine h1.mono ?_;rintro e w' ⟨rfl,rfl⟩
    go_wp2_with fail
    refine h2.mono ?_;rintro e w' ⟨rfl,rfl⟩
    go_wp2_with fail
    refine (h3 _).mono ?_;rintro e w' ⟨rfl,rfl⟩
    go_wp2_with fail
    refine (h4 _).mono ?_;rintro e w' ⟨rfl,rfl⟩
    go_wp2_with fail
    refine h5.mono ?_;rintro e w1 ⟨v,rfl,hO,hkp⟩
    obtain ⟨p1,cc,rfl,hA,_⟩:=hO.arr
    have hf:=unlessLong_ p1 (dig K).length cc
    have c4:(16384 < (dig K).length):=c3
    rw [if_pos c4] at hf
    clear c4
    obtain ⟨D,hD⟩:∃ D,D = (dig K).length:=⟨_,rfl⟩
    have hO':Own w1 w'.heap.size (.slice p1 D cc) (dig K):=by rw [hD];exact hO
    rw [← hD] at hf ⊢
    clear hA h1 h2 h3 h4 h5 hD c3 hO
    go_wp2_with fail
    refine (hf _).mono ?_;rintro e w2 ⟨rfl,rfl⟩
    go_wp2
    exact bodyPost_ret (v:=.tuple #[.slice none 0 0,.int .i64 2]) (by simp [results,Tryz.results93,go_sem] <;> simp only [*]) rfl ⟨_,rfl,Own.nil _ _,hkp⟩
  · rw [if_neg c3]
    go_enter Tryz.func93,Tryz.ntmps93
    go_wp2_with fail
    refine h1.mono ?_;rintro e w' ⟨rfl,rfl⟩
    go_wp2_with fail
    refine h2.mono ?_;rintro e w' ⟨rfl,rfl⟩
    go_wp2_with fail
    refine (h3 _).mono ?_;rintro e w' ⟨rfl,rfl⟩
    go_wp2_with fail
    refine (h4 _).mono ?_;rintro e w' ⟨rfl,rfl⟩
    go_wp2_with fail
    refine h5.mono ?_;rintro e w1 ⟨v,rfl,hO,hkp⟩
    obtain ⟨p1,cc,rfl,hA,_⟩:=hO.arr
    have hf:=unlessLong_ p1 (dig K).length cc
    have c4:¬ (16384 < (dig K).length):=c3
    rw [if_neg c4] at hf
    clear c4
    obtain ⟨D,hD⟩:∃ D,D = (dig K).length:=⟨_,rfl⟩
    have hO':Own w1 w'.heap.size (.slice p1 D cc) (dig K):=by rw [hD];exact hO
    rw [← hD] at hf ⊢
    clear hA h1 h2 h3 h4 h5 hD c3 hO
    go_wp2_with fail
    refine (hf _).mono ?_;rintro e w2 ⟨rfl,rfl⟩
    go_wp2
    exact bodyPost_ret (v:=.tuple #[.slice p1 D cc,.int .i64 0]) (by simp [results,Tryz.results93,go_sem] <;> simp only [*]) rfl ⟨_,rfl,hO',hkp⟩

end Go.Proofs.YtfhcmabejagknaaGreatDoor
