import Derived.Test.YtoibnopiinclaaaGreatDoorKXQ
set_option maxHeartbeats 1000000
set_option maxRecDepth 20000
namespace Go.Proofs.YtoibnopiinclaaaGreatDoor
open Go.RowKit
theorem Kb.trans {g:Nat} {a b c:World} (h:Kb g a b) (k:Kb g b c):Kb g a c :=
  ⟨k.1.trans h.1,k.2.1.trans h.2.1,k.2.2.1.trans h.2.2.1,Nat.le_trans h.2.2.2.1 k.2.2.2.1,fun j hj hg=>(k.2.2.2.2 j (Nat.lt_of_lt_of_le hj h.2.2.2.1) hg).trans (h.2.2.2.2 j hj hg)⟩
theorem takeOff_ (g n i c1 d:Nat) (q:Option Addr) (zs ys:List Int) (w:World) (hr:Rw w g n zs) (hzl:zs.length = n) (hwz:Wd zs) (hy:Arr w q ys) (hwy:Wd ys) (hq:0 < ys.length→∀ b off,q = some ⟨b,off,none⟩→b≠g) (hy2:2≤ys.length) (htop:2147483648≤(ys.getD (ys.length - 1) 0).toNat) (hin:i + ys.length + 1≤n) (hn:n≤16777216) (hcc:ys.length + 1≤c1) (hlt:val (zs.take (i + ys.length + 1)) < val ys * 4294967296 ^ (i + 1)) :
    Calls Tryz.prog 137 #[.slice (some ⟨g,i,none⟩) (ys.length + 1) c1,.slice q ys.length d] w fun e w'=>∃ us:List Int,e = .returned (.int .u32 ((val (zs.take (i + ys.length + 1)) / (val ys * 4294967296 ^ i):Nat):Int))∧Rw w' g n us∧us.length = n∧Wd us∧val (us.take (i + ys.length)) = val (zs.take (i + ys.length + 1)) % (val ys * 4294967296 ^ i)∧Kb g w w':=by
  obtain ⟨k,hk⟩:∃ k,ys.length = k + 2:=⟨ys.length - 2,by omega⟩
  have wz:=hwz (i + k + 2)
  have wz1:=hwz (i + k + 1)
  have wz0:=hwz (i + k)
  have wy1:=hwy (k + 1)
  have wy0:=hwy k
  obtain ⟨z,hz⟩:∃ z:Nat,(z:Int) = zs.getD (i + k + 2) 0:=⟨_,Int.toNat_of_nonneg wz.1⟩
  obtain ⟨y,hy9⟩:∃ y:Nat,(y:Int) = zs.getD (i + k + 1) 0:=⟨_,Int.toNat_of_nonneg wz1.1⟩
  obtain ⟨u0,hu0⟩:∃ u0:Nat,(u0:Int) = zs.getD (i + k) 0:=⟨_,Int.toNat_of_nonneg wz0.1⟩
  obtain ⟨v1,hv1⟩:∃ v1:Nat,(v1:Int) = ys.getD (k + 1) 0:=⟨_,Int.toNat_of_nonneg wy1.1⟩
  obtain ⟨v0,hv0⟩:∃ v0:Nat,(v0:Int) = ys.getD k 0:=⟨_,Int.toNat_of_nonneg wy0.1⟩
  have ht1:2147483648≤v1:=by
    rw [show ys.length - 1 = k + 1 from by omega,← hv1,Int.toNat_natCast] at htop
    exact htop
  have hV0:0 < val ys:=val_pos_top ys (k + 1) (by rw [← hv1,Int.toNat_natCast];omega)
  obtain ⟨hTA,hT1,hT2⟩:=head_fits zs ys hwz hwy i k u0 y z v1 v0 hk (by rw [← hu0];rfl) (by rw [← hy9];rfl) (by rw [← hz];rfl) (by rw [← hv0];rfl) (by rw [← hv1];rfl) ht1 hlt
  obtain ⟨b',off',rfl,hc'⟩:=hy.at (k:=k) (by omega)
  have hbg:=hq (by omega) b' off' rfl
  have htr:=trial_ (z * 4294967296 + y) u0 v1 v0 hTA
  obtain ⟨T,hT⟩:∃ T,T = trialN (z * 4294967296 + y) u0 v1 v0:=⟨_,rfl⟩
  have hT32:=trialN_lt (z * 4294967296 + y) u0 v1 v0
  rw [← hT] at htr hT1 hT2 hT32
  obtain ⟨hd,hhd⟩:∃ hd,hd = z * 4294967296 + y:=⟨_,rfl⟩
  rw [← hhd] at htr
  have e1:=World.rowIs.cell hr (i:=i + k + 2) (by omega)
  have e2:=World.rowIs.cell hr (i:=i + k + 1) (by omega)
  have e3:=World.rowIs.cell hr (i:=i + k) (by omega)
  have e4:=hc' (k + 1) (by omega)
  have e5:=hc' k (by omega)
  rw [← hz] at e1
  rw [← hy9] at e2
  rw [← hu0] at e3
  rw [← hv1] at e4
  rw [← hv0] at e5
  obtain ⟨S,hS⟩:∃ S,S = z * 4294967296:=⟨_,rfl⟩
  have f1:IntKind.u64.wrap (z:Int) = (z:Int):=by rw [IntKind.wrap_u64];omega
  have f2:IntKind.u64.wrap (y:Int) = (y:Int):=by rw [IntKind.wrap_u64];omega
  have f3:IntKind.u64.wrap ((z:Int) * 4294967296) = (S:Int):=by rw [IntKind.wrap_u64];omega
  have f4:bits BinOp.or IntKind.u64 (S:Int) (y:Int) = (hd:Int):=by
    rw [hS,bits_or_u64_nat (z * 4294967296) y (by omega) (by omega)]
    have e2:z * 4294967296 ||| y = hd:=by
      rw [Nat.or_comm,hhd]
      have:=or_low y z 32 (by omega)
      rw [show (2:Nat) ^ 32 = 4294967296 from rfl] at this
      omega
    rw [e2]
  have hsub:=fun (w':World) (h1:Rw w' g n zs) (h2:Arr w' (some ⟨b',off',none⟩) ys)=>subTimes_ g n i c1 d T (some ⟨b',off',none⟩) zs ys w' h1 hzl hwz h2 hwy hT32 hq hin hn hcc
  have hput:=fun (us:List Int) (w':World) (h1:Rw w' g n us) (h3:us.length = n) (h4:Wd us) (h2:Arr w' (some ⟨b',off',none⟩) ys)=>putBack_ g n i c1 d (some ⟨b',off',none⟩) us ys w' h1 h3 h4 h2 hwy hq hin hn hcc
  obtain ⟨M,hM⟩:∃ M,M = ys.length:=⟨_,rfl⟩
  obtain ⟨M1,hM1⟩:∃ M1,M1 = k + 1:=⟨_,rfl⟩
  rw [← hM] at hsub hput ⊢
  have a1:i + k + 2 = i + M:=by omega
  have a2:i + k + 1 = i + M1:=by omega
  rw [a1] at e1
  rw [a2] at e2
  rw [← hM1] at e4
  have g1:IntKind.i64.wrap ((M:Int) - 1) = (M1:Int):=by rw [IntKind.wrap_i64];omega
  have g2:IntKind.i64.wrap ((M:Int) - 2) = (k:Int):=by rw [IntKind.wrap_i64];omega
  have i0:(M:Int) < (M:Int) + 1:=by omega
  have i1:(M1:Int) < (M:Int) + 1:=by omega
  have i2:(k:Int) < (M:Int) + 1:=by omega
  have i3:(M1:Int) < (M:Int):=by omega
  have i4:(k:Int) < (M:Int):=by omega
  have HH:Hid (M = ys.length∧zs.length = n∧Wd zs∧Wd ys∧T < 4294967296∧0 < val ys∧val (zs.take (i + ys.length + 1)) / (val ys * 4294967296 ^ i)≤T∧T≤val (zs.take (i + ys.length + 1)) / (val ys * 4294967296 ^ i) + 1):=⟨hM,hzl,hwz,hwy,hT32,hV0,hT1,hT2⟩
  have HR:Hid (Rw w g n zs∧Arr w (some ⟨b',off',none⟩) ys):=⟨hr,hy⟩
  have HB:Hid (b'≠g):=hbg
  clear hr hzl hwz hwy hy hq hy2 htop hin hn hcc hlt hk wz wz1 wz0 wy1 wy0 hz hy9 hu0 hv1 hv0 ht1 hV0 hTA hT1 hT2 hc' hbg hT hT32 hhd hS hM hM1 a1 a2
  go_enter Tryz.func137,Tryz.ntmps137
  go_wp2
  go_region_held3 (fun w'=>w'.cell? ⟨g,i + M,none⟩ = some (.int .u32 (z:Int))∧w'.cell? ⟨g,i + M1,none⟩ = some (.int .u32 (y:Int))∧w'.cell? ⟨g,i + k,none⟩ = some (.int .u32 (u0:Int))∧w'.cell? ⟨b',off' + M1,none⟩ = some (.int .u32 (v1:Int))∧w'.cell? ⟨b',off' + k,none⟩ = some (.int .u32 (v0:Int))) (exact ⟨e1,e2,e3,e4,e5⟩) (first | (go_at_call 138;refine (htr _).mono ?_;rintro e w' ⟨rfl,rfl⟩))
  rename_i hHeld
  clear hHeld
  clear e1 e2 e3 e4 e5 htr f1 f2 f3 f4 g1 g2 i1 i2 i3 i4
  go_wp2_with fail
  refine (hsub w.drew.drew HR.out.1 HR.out.2).mono ?_
  rintro e w' ⟨O,bo,us,rfl,hR2,hul,hwu,hO,hbo,hv,hsam,hkb⟩
  obtain ⟨hM,hzl,hwz,hwy,hT32,hV0,hT1,hT2⟩:=HH.out
  have hkb2:Kb g w w':=hkb
  have hA2:Arr w' (some ⟨b',off',none⟩) ys:=Or.inr ⟨b',off',rfl,fun j hj=>by
    obtain ⟨b2,off2,e,hc⟩:=HR.out.2.at (k:=j) hj
    cases e
    exact hkb2.arr HB.out (hc j hj)⟩
  by_cases cz:(zs.getD (i + M) 0).toNat < O + bo
  · rw [decide_eq_true cz]
    have hpu:=hput us w' hR2 hul hwu hA2
    rw [hM] at hv hsam cz
    have hfin:=fun (C:Nat) (vs:List Int) (hl2:vs.length = us.length) (hwv:Wd vs) hs2 hv2=>off_back us vs zs ys i O bo T C (by omega) hl2 hwu hwv hwy hsam hv hV0 hT1 hT2 cz hs2 hv2
    obtain ⟨T',hT'⟩:∃ T',T' = T - 1:=⟨_,rfl⟩
    rw [← hM] at hfin
    have hT0:1≤T:=by
      by_cases e:T = 0
      · exfalso
        subst e
        have h1:=off_eq us zs ys i O bo 0 (by omega) hsam hv
        have h2:=val_take_lt us hwu (i + ys.length)
        have h3:((zs.getD (i + ys.length) 0).toNat + 1) * 4294967296 ^ (i + ys.length)≤(O + bo) * 4294967296 ^ (i + ys.length):=Nat.mul_le_mul_right _ cz
        rw [Nat.add_mul,Nat.one_mul] at h3
        rw [Nat.mul_zero,Nat.zero_mul] at h1
        omega
      · omega
    have fT:IntKind.u32.wrap ((T:Int) - 1) = (T':Int):=by rw [IntKind.wrap_u32];omega
    have HF:Hid (∀ (C:Nat) (vs:List Int),vs.length = us.length→Wd vs→(∀ j,i + M≤j→vs.getD j 0 = us.getD j 0)→val vs + C * 4294967296 ^ (i + M) = val us + val ys * 4294967296 ^ i→T' = val (zs.take (i + M + 1)) / (val ys * 4294967296 ^ i)∧val (vs.take (i + M)) = val (zs.take (i + M + 1)) % (val ys * 4294967296 ^ i)):=fun C vs a b c d=>by rw [hT'];exact (hfin C vs a b c d).2
    have HU:Hid (us.length = n∧Kb g w w'):=⟨hul,hkb2⟩
    clear hsub hput HH HR HB hM hzl hwz hwy hT32 hV0 hT1 hT2 hul hwu hO hbo hv hsam hkb hkb2 hA2 cz hfin hT' hT0 hR2 i0
    go_wp2_with fail
    refine hpu.mono ?_
    rintro e w2 ⟨C,vs,rfl,hRv,hvl,hwv,hvv,hvs,hkv⟩
    obtain ⟨hq1,hq2⟩:=HF.out C vs (by rw [hvl,HU.out.1]) hwv hvs hvv
    have hK:Kb g w w2:=HU.out.2.trans hkv
    have HQ:Hid (T' = val (zs.take (i + M + 1)) / (val ys * 4294967296 ^ i)∧val (vs.take (i + M)) = val (zs.take (i + M + 1)) % (val ys * 4294967296 ^ i)):=⟨hq1,hq2⟩
    clear hpu HF HU hvv hvs hkv hq1 hq2
    go_wp2
    exact bodyPost_ret (v:=.int .u32 (T':Int)) (by simp [results,Tryz.results137,go_sem]) rfl ⟨vs,by rw [HQ.out.1],hRv,hvl,hwv,HQ.out.2,hK⟩
  · rw [decide_eq_false cz]
    rw [hM] at hv hsam cz
    obtain ⟨hq1,hq2⟩:=off_right us zs ys i O bo T (by omega) hwu hwy hsam hv hV0 hT1 cz
    rw [← hM] at hq1 hq2
    have HQ:Hid (T = val (zs.take (i + M + 1)) / (val ys * 4294967296 ^ i)∧val (us.take (i + M)) = val (zs.take (i + M + 1)) % (val ys * 4294967296 ^ i)):=⟨hq1,hq2⟩
    clear hsub hput HH HR HB hM hzl hwz hwy hT32 hV0 hT1 hT2 hO hbo hv hsam hkb hA2 cz i0 hq1 hq2
    go_wp2
    exact bodyPost_ret (v:=.int .u32 (T:Int)) (by simp [results,Tryz.results137,go_sem]) rfl ⟨us,by rw [HQ.out.1],hR2,hul,hwu,HQ.out.2,hkb2⟩
theorem rcmp_ (p q:Option Addr) (c d:Nat) (xs ys:List Int) (w:World) (hx:Arr w p xs) (hy:Arr w q ys) (hwx:Wd xs) (hwy:Wd ys) (lx:xs.length≤1099511627776) (ly:ys.length≤1099511627776) :
    Calls Tryz.prog 62 #[.slice p xs.length c,.slice q ys.length d] w fun e w'=>e = .returned (.int .i64 (cmpN (val xs) (val ys)))∧Kp w w':=by
  have h1:=words_ p c xs w hx lx
  have h2:=words_ q d ys w hy ly
  have lS:=tl_le xs
  have lT:=tl_le ys
  have hg:Kp w w:=Kp.refl w
  have dlt:=fun h=>cmpN_lt (tl_lt_val xs ys hwx hwy h)
  have dgt:=fun h=>cmpN_gt (tl_lt_val ys xs hwy hwx h)
  have deq:tl xs = tl ys→(∀ j,j < tl xs→xs.getD j 0 = ys.getD j 0)→cmpN (val xs) (val ys) = 0:=fun e h=>by
    apply cmpN_eq
    rw [← val_tl xs,← val_tl ys,← e]
    exact cmp_all xs ys _ h
  have tlt:∀ k,tl xs = tl ys→k < tl xs→xs.getD k 0 < ys.getD k 0→(∀ j,k < j→j < tl xs→xs.getD j 0 = ys.getD j 0)→cmpN (val xs) (val ys) = -1:=fun k e h1 h2 h3=>by
    apply cmpN_lt
    rw [← val_tl xs,← val_tl ys,← e]
    exact cmp_top xs ys hwx k (hwx k).1 h2 _ h1 h3
  have tgt:∀ k,tl xs = tl ys→k < tl xs→ys.getD k 0 < xs.getD k 0→(∀ j,k < j→j < tl xs→xs.getD j 0 = ys.getD j 0)→cmpN (val xs) (val ys) = 1:=fun k e h1 h2 h3=>by
    apply cmpN_gt
    rw [← val_tl xs,← val_tl ys,← e]
    exact cmp_top ys xs hwy k (hwy k).1 h2 _ h1 (fun j a b=>(h3 j a b).symm)
  obtain ⟨R,hR⟩:∃ R,R = cmpN (val xs) (val ys):=⟨_,rfl⟩
  obtain ⟨N,hN⟩:∃ N,N = xs.length:=⟨_,rfl⟩
  obtain ⟨M,hM⟩:∃ M,M = ys.length:=⟨_,rfl⟩
  obtain ⟨S,hS⟩:∃ S,S = tl xs:=⟨_,rfl⟩
  obtain ⟨T,hT⟩:∃ T,T = tl ys:=⟨_,rfl⟩
  rw [← hS,← hN] at h1 lS
  rw [← hT,← hM] at h2 lT
  rw [← hS,← hT,← hR] at dlt dgt deq tlt tgt
  rw [← hN,← hM,← hR]
  have HX:Hid (Arr w p xs):=hx
  have HY:Hid (Arr w q ys):=hy
  have HN:Hid (N = xs.length∧M = ys.length):=⟨hN,hM⟩
  have lS2:S≤1099511627776:=by omega
  clear hx hy hwx hwy lx ly hN hM hS hT hR
  rcases Nat.lt_trichotomy S T with cST | cST | cST
  · rw [dlt cST]
    have t1:(S:Int) < (T:Int):=by omega
    clear dlt dgt deq tlt tgt HX HY HN cST lS lT
    go_enter Tryz.func62,Tryz.ntmps62
    go_wp2_with fail
    refine h1.mono ?_;rintro e w' ⟨rfl,hw'⟩;obtain rfl:=hw'.symm
    go_wp2_with fail
    refine h2.mono ?_;rintro e w' ⟨rfl,hw'⟩;obtain rfl:=hw'.symm
    go_wp2
    exact bodyPost_ret (v:=.int .i64 (-1)) (by simp [results,Tryz.results62,go_sem] <;> simp only [*]) rfl ⟨rfl,hg⟩
  · subst cST
    have t1:¬ ((S:Int) < (S:Int)):=by omega
    have HD:Hid ((∀ j,j < S→xs.getD j 0 = ys.getD j 0)→R = 0):=deq rfl
    have HL:Hid (∀ k,k < S→xs.getD k 0 < ys.getD k 0→(∀ j,k < j→j < S→xs.getD j 0 = ys.getD j 0)→R = -1):=fun k=>tlt k rfl
    have HR:Hid (∀ k,k < S→ys.getD k 0 < xs.getD k 0→(∀ j,k < j→j < S→xs.getD j 0 = ys.getD j 0)→R = 1):=fun k=>tgt k rfl
    clear dlt dgt deq tlt tgt
    go_enter Tryz.func62,Tryz.ntmps62
    go_wp2_with fail
    refine h1.mono ?_;rintro e w' ⟨rfl,hw'⟩;obtain rfl:=hw'.symm
    go_wp2_with fail
    refine h2.mono ?_;rintro e w' ⟨rfl,hw'⟩;obtain rfl:=hw'.symm
    clear h1 h2
    go_wp2
    clear t1
    go_loopw [7] (fun i wr=>∃ (k:Nat) (z:Int),k≤S∧z = (k:Int) - 1∧i = .int .i64 z∧Kp w wr∧∀ j,k≤j→j < S→xs.getD j 0 = ys.getD j 0) (fun i _=>(intOf i + 1).toNat)
    case atStart=>exact ⟨S,_,Nat.le_refl _,rfl,by go_num,hg,fun j _ _=>by omega⟩
    case round =>
      clear hg
      obtain ⟨k,z,hk,hz,rfl,hg,hs⟩:=hrel
      rcases k with _ | k
      · have hR0:=HD.out (fun j hj=>hs j (Nat.zero_le _) hj)
        subst hR0
        have hz0:z = -1:=by omega
        subst hz0
        clear hz HX HY HN HD HL HR hs hk lS lT
        go_wp2
        exact bodyPost_ret (v:=.int .i64 (0)) (by simp [results,Tryz.results62,go_sem] <;> simp only [*]) rfl ⟨rfl,hg⟩
      · have hz0:z = (k:Int):=by omega
        subst hz0
        obtain ⟨hN,hM⟩:=HN.out
        obtain ⟨b,off,rfl,hc⟩:=HX.out.at (k:=k) (by omega)
        obtain ⟨b',off',rfl,hc'⟩:=HY.out.at (k:=k) (by omega)
        have e1:=kkeep hg (hc k (by omega))
        have e2:=kkeep hg (hc' k (by omega))
        have i0:(0:Int)≤(k:Int):=by omega
        have i1:(k:Int) < (N:Int):=by omega
        have i2:(k:Int) < (M:Int):=by omega
        have rl:=fun h=>HL.out k (by omega) h (fun j a b=>hs j (by omega) b)
        have rg:=fun h=>HR.out k (by omega) h (fun j a b=>hs j (by omega) b)
        have re:xs.getD k 0 = ys.getD k 0→∀ j,k≤j→j < S→xs.getD j 0 = ys.getD j 0:=fun h j a b=>by
          by_cases e:j = k
          · subst e;exact h
          · exact hs j (by omega) b
        obtain ⟨X,hX⟩:∃ X,X = xs.getD k 0:=⟨_,rfl⟩
        obtain ⟨Y,hY⟩:∃ Y,Y = ys.getD k 0:=⟨_,rfl⟩
        rw [← hX] at e1 rl rg re
        rw [← hY] at e2 rl rg re
        have hk2:k≤S:=by omega
        clear hc hc' HX HY HN HD HL HR hs hN hM hX hY hz hk lS lT
        rcases (by omega:X < Y∨Y < X∨X = Y) with cx | cx | cx
        · have hR1:=rl cx
          subst hR1
          clear rl rg re
          go_wp2
          refine wp_region_kp (by kernel_rfl) (by kernel_rfl) (fun ι _ G hG hall=>?_)
          have c0:∀ n,(G n).cell? ⟨b,off + k,none⟩ = some (.int .u32 X):=fun n=>kkeep (hG n) e1
          have c1:∀ n,(G n).cell? ⟨b',off' + k,none⟩ = some (.int .u32 Y):=fun n=>kkeep (hG n) e2
          repeat (go_big_quiet_step (fail))
          refine wpQuiet_nil ?_
          rintro _ ⟨nq,rfl⟩
          have gq:=hG nq
          replace e1:=kkeep gq e1
          replace e2:=kkeep gq e2
          replace hg:=hg.trans gq
          clear c0 c1 hall hG gq
          go_wp2
          exact bodyPost_ret (v:=.int .i64 (-1)) (by simp [results,Tryz.results62,go_sem] <;> simp only [*]) rfl ⟨rfl,hg⟩
        · have hR1:=rg cx
          subst hR1
          have cy:¬ (X < Y):=by omega
          clear rl rg re
          go_wp2
          refine wp_region_kp (by kernel_rfl) (by kernel_rfl) (fun ι _ G hG hall=>?_)
          have c0:∀ n,(G n).cell? ⟨b,off + k,none⟩ = some (.int .u32 X):=fun n=>kkeep (hG n) e1
          have c1:∀ n,(G n).cell? ⟨b',off' + k,none⟩ = some (.int .u32 Y):=fun n=>kkeep (hG n) e2
          repeat (go_big_quiet_step (fail))
          refine wpQuiet_nil ?_
          rintro _ ⟨nq,rfl⟩
          have gq:=hG nq
          replace e1:=kkeep gq e1
          replace e2:=kkeep gq e2
          replace hg:=hg.trans gq
          clear c0 c1 hall hG gq
          go_wp2
          refine wp_region_kp (by kernel_rfl) (by kernel_rfl) (fun ι2 _ G2 hG hall=>?_)
          have c0:∀ n,(G2 n).cell? ⟨b,off + k,none⟩ = some (.int .u32 X):=fun n=>kkeep (hG n) e1
          have c1:∀ n,(G2 n).cell? ⟨b',off' + k,none⟩ = some (.int .u32 Y):=fun n=>kkeep (hG n) e2
          repeat (go_big_quiet_step (fail))
          refine wpQuiet_nil ?_
          rintro _ ⟨nq2,rfl⟩
          have gq:=hG nq2
          replace e1:=kkeep gq e1
          replace e2:=kkeep gq e2
          replace hg:=hg.trans gq
          clear c0 c1 hall hG gq
          go_wp2
          exact bodyPost_ret (v:=.int .i64 (1)) (by simp [results,Tryz.results62,go_sem] <;> simp only [*]) rfl ⟨rfl,hg⟩
        · have hs2:=re cx
          subst cx
          have cy:¬ (X < X):=by omega
          clear rl rg re
          go_wp2
          refine wp_region_kp (by kernel_rfl) (by kernel_rfl) (fun ι _ G hG hall=>?_)
          have c0:∀ n,(G n).cell? ⟨b,off + k,none⟩ = some (.int .u32 X):=fun n=>kkeep (hG n) e1
          have c1:∀ n,(G n).cell? ⟨b',off' + k,none⟩ = some (.int .u32 X):=fun n=>kkeep (hG n) e2
          repeat (go_big_quiet_step (fail))
          refine wpQuiet_nil ?_
          rintro _ ⟨nq,rfl⟩
          have gq:=hG nq
          replace e1:=kkeep gq e1
          replace e2:=kkeep gq e2
          replace hg:=hg.trans gq
          clear c0 c1 hall hG gq
          go_wp2
          refine wp_region_kp (by kernel_rfl) (by kernel_rfl) (fun ι2 _ G2 hG hall=>?_)
          have c0:∀ n,(G2 n).cell? ⟨b,off + k,none⟩ = some (.int .u32 X):=fun n=>kkeep (hG n) e1
          have c1:∀ n,(G2 n).cell? ⟨b',off' + k,none⟩ = some (.int .u32 X):=fun n=>kkeep (hG n) e2
          repeat (go_big_quiet_step (fail))
          refine wpQuiet_nil ?_
          rintro _ ⟨nq2,rfl⟩
          have gq:=hG nq2
          replace e1:=kkeep gq e1
          replace e2:=kkeep gq e2
          replace hg:=hg.trans gq
          clear c0 c1 hall hG gq
          go_wp2
          exact ⟨⟨k,_,hk2,rfl,by go_num,hg,hs2⟩,by simp [intOf]⟩
  · rw [dgt cST]
    have t1:¬ ((S:Int) < (T:Int)):=by omega
    have t2:(T:Int) < (S:Int):=by omega
    clear dlt dgt deq tlt tgt HX HY HN cST lS lT
    go_enter Tryz.func62,Tryz.ntmps62
    go_wp2_with fail
    refine h1.mono ?_;rintro e w' ⟨rfl,hw'⟩;obtain rfl:=hw'.symm
    go_wp2_with fail
    refine h2.mono ?_;rintro e w' ⟨rfl,hw'⟩;obtain rfl:=hw'.symm
    go_wp2
    exact bodyPost_ret (v:=.int .i64 (1)) (by simp [results,Tryz.results62,go_sem] <;> simp only [*]) rfl ⟨rfl,hg⟩
theorem isnan_i (x:Int) (w:World):Calls Tryz.prog 118 #[.int .i64 x] w fun e w'=>e = .returned (.bool false)∧w' = w:=by
  go_enter Tryz.func118,Tryz.ntmps118
  go_wp2
  exact bodyPost_ret (v:=.bool false) (by simp [results,Tryz.results118,go_sem] <;> simp only [*]) rfl ⟨rfl,rfl⟩
theorem compare_i (x y:Int) (w:World):Calls Tryz.prog 92 #[.int .i64 x,.int .i64 y] w fun e w'=>e = .returned (.int .i64 (cmpz x y))∧w' = w:=by
  rcases (by omega:x < y∨y < x∨x = y) with c | c | c
  · have ec:cmpz x y = -1:=by unfold cmpz;simp [c]
    rw [ec];clear ec
    go_enter Tryz.func92,Tryz.ntmps92
    go_wp2_with (first | (go_at_call 118;refine (isnan_i _ _).mono ?_;rintro e w' ⟨rfl,rfl⟩))
    exact bodyPost_ret (v:=.int .i64 (-1)) (by simp [results,Tryz.results92,go_sem] <;> simp only [*]) rfl ⟨rfl,rfl⟩
  · have d:¬ (x < y):=by omega
    have ec:cmpz x y = 1:=by unfold cmpz;simp [c,d]
    rw [ec];clear ec
    go_enter Tryz.func92,Tryz.ntmps92
    go_wp2_with (first | (go_at_call 118;refine (isnan_i _ _).mono ?_;rintro e w' ⟨rfl,rfl⟩))
    exact bodyPost_ret (v:=.int .i64 1) (by simp [results,Tryz.results92,go_sem] <;> simp only [*]) rfl ⟨rfl,rfl⟩
  · subst c
    have d:¬ (x < x):=by omega
    have ec:cmpz x x = 0:=by unfold cmpz;simp
    rw [ec];clear ec
    go_enter Tryz.func92,Tryz.ntmps92
    go_wp2_with (first | (go_at_call 118;refine (isnan_i _ _).mono ?_;rintro e w' ⟨rfl,rfl⟩))
    exact bodyPost_ret (v:=.int .i64 0) (by simp [results,Tryz.results92,go_sem] <;> simp only [*]) rfl ⟨rfl,rfl⟩
theorem isnan_u (x:Int) (w:World):Calls Tryz.prog 119 #[.int .u32 x] w fun e w'=>e = .returned (.bool false)∧w' = w:=by
  go_enter Tryz.func119,Tryz.ntmps119
  go_wp2
  exact bodyPost_ret (v:=.bool false) (by simp [results,Tryz.results119,go_sem] <;> simp only [*]) rfl ⟨rfl,rfl⟩
theorem compare_u (x y:Int) (w:World):Calls Tryz.prog 93 #[.int .u32 x,.int .u32 y] w fun e w'=>e = .returned (.int .i64 (cmpz x y))∧w' = w:=by
  rcases (by omega:x < y∨y < x∨x = y) with c | c | c
  · have ec:cmpz x y = -1:=by unfold cmpz;simp [c]
    rw [ec];clear ec
    go_enter Tryz.func93,Tryz.ntmps93
    go_wp2_with (first | (go_at_call 119;refine (isnan_u _ _).mono ?_;rintro e w' ⟨rfl,rfl⟩))
    exact bodyPost_ret (v:=.int .i64 (-1)) (by simp [results,Tryz.results93,go_sem] <;> simp only [*]) rfl ⟨rfl,rfl⟩
  · have d:¬ (x < y):=by omega
    have ec:cmpz x y = 1:=by unfold cmpz;simp [c,d]
    rw [ec];clear ec
    go_enter Tryz.func93,Tryz.ntmps93
    go_wp2_with (first | (go_at_call 119;refine (isnan_u _ _).mono ?_;rintro e w' ⟨rfl,rfl⟩))
    exact bodyPost_ret (v:=.int .i64 1) (by simp [results,Tryz.results93,go_sem] <;> simp only [*]) rfl ⟨rfl,rfl⟩
  · subst c
    have d:¬ (x < x):=by omega
    have ec:cmpz x x = 0:=by unfold cmpz;simp
    rw [ec];clear ec
    go_enter Tryz.func93,Tryz.ntmps93
    go_wp2_with (first | (go_at_call 119;refine (isnan_u _ _).mono ?_;rintro e w' ⟨rfl,rfl⟩))
    exact bodyPost_ret (v:=.int .i64 0) (by simp [results,Tryz.results93,go_sem] <;> simp only [*]) rfl ⟨rfl,rfl⟩
theorem ncmp_ (p q:Option Addr) (c d:Nat) (xs ys:List Int) (w:World) (hx:Arr w p xs) (hy:Arr w q ys) (hwx:Wd xs) (hwy:Wd ys) (lx:xs.length≤1099511627776) (ly:ys.length≤1099511627776) (hc:xs.length≤c) (hd:ys.length≤d) :
    Calls Tryz.prog 55 #[.slice p xs.length c,.slice q ys.length d] w fun e w'=>e = .returned (.int .i64 (cmpN (val xs) (val ys)))∧Kp w w':=by
  have h1:=trim_ p c xs w hx lx hc
  have h2:=trim_ q d ys w hy ly hd
  have lS:=tl_le xs
  have lT:=tl_le ys
  have hg:Kp w w:=Kp.refl w
  have dne:tl xs≠tl ys→cmpz (tl xs:Int) (tl ys:Int) = cmpN (val xs) (val ys):=fun h=>by
    rcases (by omega:tl xs < tl ys∨tl ys < tl xs) with e | e
    · rw [cmpN_lt (tl_lt_val xs ys hwx hwy e)];unfold cmpz;rw [if_pos (by omega)]
    · rw [cmpN_gt (tl_lt_val ys xs hwy hwx e)];unfold cmpz;rw [if_neg (by omega),if_pos (by omega)]
  have deq:tl xs = tl ys→(∀ j,j < tl xs→xs.getD j 0 = ys.getD j 0)→cmpN (val xs) (val ys) = 0:=fun e h=>by
    apply cmpN_eq
    rw [← val_tl xs,← val_tl ys,← e]
    exact cmp_all xs ys _ h
  have tne:∀ k,tl xs = tl ys→k < tl xs→xs.getD k 0≠ys.getD k 0→(∀ j,k < j→j < tl xs→xs.getD j 0 = ys.getD j 0)→cmpz (xs.getD k 0) (ys.getD k 0) = cmpN (val xs) (val ys):=fun k e h1 h2 h3=>by
    rcases (by omega:xs.getD k 0 < ys.getD k 0∨ys.getD k 0 < xs.getD k 0) with f | f
    · rw [cmpN_lt (by rw [← val_tl xs,← val_tl ys,← e];exact cmp_top xs ys hwx k (hwx k).1 f _ h1 h3)];unfold cmpz;rw [if_pos f]
    · rw [cmpN_gt (by rw [← val_tl xs,← val_tl ys,← e];exact cmp_top ys xs hwy k (hwy k).1 f _ h1 (fun j a b=>(h3 j a b).symm))];unfold cmpz;rw [if_neg (by omega),if_pos f]
  obtain ⟨R,hR⟩:∃ R,R = cmpN (val xs) (val ys):=⟨_,rfl⟩
  obtain ⟨N,hN⟩:∃ N,N = xs.length:=⟨_,rfl⟩
  obtain ⟨M,hM⟩:∃ M,M = ys.length:=⟨_,rfl⟩
  obtain ⟨S,hS⟩:∃ S,S = tl xs:=⟨_,rfl⟩
  obtain ⟨T,hT⟩:∃ T,T = tl ys:=⟨_,rfl⟩
  rw [← hS,← hN] at h1 lS
  rw [← hT,← hM] at h2 lT
  rw [← hS,← hT,← hR] at dne deq tne
  rw [← hN,← hM,← hR]
  have HX:Hid (Arr w p xs):=hx
  have HY:Hid (Arr w q ys):=hy
  have HN:Hid (N = xs.length∧M = ys.length):=⟨hN,hM⟩
  have lS2:S≤1099511627776:=by omega
  clear hx hy hwx hwy lx ly hN hM hS hT hR hc hd
  by_cases cST:S = T
  · subst cST
    have t1:((S:Int) != (S:Int)) = false:=by simp
    have HD:Hid ((∀ j,j < S→xs.getD j 0 = ys.getD j 0)→R = 0):=deq rfl
    have HL:Hid (∀ k,k < S→xs.getD k 0≠ys.getD k 0→(∀ j,k < j→j < S→xs.getD j 0 = ys.getD j 0)→cmpz (xs.getD k 0) (ys.getD k 0) = R):=fun k=>tne k rfl
    clear dne deq tne
    go_enter Tryz.func55,Tryz.ntmps55
    go_wp2_with fail
    refine h1.mono ?_;rintro e w' ⟨rfl,hw'⟩;obtain rfl:=hw'.symm
    go_wp2_with fail
    refine h2.mono ?_;rintro e w' ⟨rfl,hw'⟩;obtain rfl:=hw'.symm
    clear h1 h2
    go_wp2
    clear t1
    go_loopw [23] (fun i wr=>∃ (k:Nat),k≤S∧i = .int .i64 k∧Kp w wr∧∀ j,S≤j + k→j < S→xs.getD j 0 = ys.getD j 0) (fun i _=>S - (intOf i).toNat)
    case atStart=>exact ⟨0,Nat.zero_le _,rfl,hg,fun j _ _=>by omega⟩
    case round =>
      clear hg
      obtain ⟨k,hk,rfl,hg,hs⟩:=hrel
      by_cases ck:k < S
      · obtain ⟨hN,hM⟩:=HN.out
        obtain ⟨m,hm⟩:∃ m:Nat,m + k + 1 = S:=⟨S - 1 - k,by omega⟩
        obtain ⟨b,off,rfl,hc⟩:=HX.out.at (k:=m) (by omega)
        obtain ⟨b',off',rfl,hc'⟩:=HY.out.at (k:=m) (by omega)
        have e1:=kkeep hg (hc m (by omega))
        have e2:=kkeep hg (hc' m (by omega))
        have hm2:m = S - 1 - k:=by omega
        rw [hm2] at e1 e2
        have i0:(0:Int)≤(S:Int) - 1 - (k:Int):=by omega
        have i1:(S:Int) - 1 - (k:Int) < (S:Int):=by omega
        have i2:(k:Int) < (S:Int):=by omega
        have i3:wrap64 ((S:Int) - 1) = (S:Int) - 1:=by unfold wrap64;omega
        have i5:(k:Int)≤(S:Int) - 1:=by omega
        have i4:wrap64 ((S:Int) - 1 - (k:Int)) = (S:Int) - 1 - (k:Int):=by unfold wrap64;omega
        have rl:=fun h=>HL.out m (by omega) h (fun j a b=>hs j (by omega) b)
        have re:xs.getD m 0 = ys.getD m 0→∀ j,S≤j + (k + 1)→j < S→xs.getD j 0 = ys.getD j 0:=fun h j a b=>by
          by_cases e:j = m
          · subst e;exact h
          · exact hs j (by omega) b
        obtain ⟨X,hX⟩:∃ X,X = xs.getD m 0:=⟨_,rfl⟩
        obtain ⟨Y,hY⟩:∃ Y,Y = ys.getD m 0:=⟨_,rfl⟩
        rw [hm2] at hX hY
        rw [← hX] at e1
        rw [← hY] at e2
        rw [← hm2] at hX hY
        rw [← hX,← hY] at rl re
        clear hc hc' HX HY HN HD HL hs hN hM hX hY lS lT
        by_cases cx:X = Y
        · have hs2:=re cx
          subst cx
          have t1:(X != X) = false:=by simp
          clear rl re
          go_wp2
          refine wp_region_kp (by kernel_rfl) (by kernel_rfl) (fun ι _ G hG hall=>?_)
          have c0:∀ n,(G n).cell? ⟨b,off + (S - 1 - k),none⟩ = some (.int .u32 X):=fun n=>kkeep (hG n) e1
          have c1:∀ n,(G n).cell? ⟨b',off' + (S - 1 - k),none⟩ = some (.int .u32 X):=fun n=>kkeep (hG n) e2
          repeat (go_big_quiet_step (fail))
          refine wpQuiet_nil ?_
          rintro _ ⟨nq,rfl⟩
          have gq:=hG nq
          replace e1:=kkeep gq e1
          replace e2:=kkeep gq e2
          replace hg:=hg.trans gq
          clear c0 c1 hall hG gq
          go_wp2
          exact ⟨⟨k + 1,by omega,by go_num,hg,hs2⟩,by simp [intOf];omega⟩
        · have t1:(X != Y) = true:=by simp [cx]
          have hcm:=compare_u X Y
          rw [rl cx] at hcm
          clear rl re cx
          go_wp2
          refine wp_region_kp (by kernel_rfl) (by kernel_rfl) (fun ι _ G hG hall=>?_)
          have c0:∀ n,(G n).cell? ⟨b,off + (S - 1 - k),none⟩ = some (.int .u32 X):=fun n=>kkeep (hG n) e1
          have c1:∀ n,(G n).cell? ⟨b',off' + (S - 1 - k),none⟩ = some (.int .u32 Y):=fun n=>kkeep (hG n) e2
          repeat (go_big_quiet_step (fail))
          refine wpQuiet_nil ?_
          rintro _ ⟨nq,rfl⟩
          have gq:=hG nq
          replace e1:=kkeep gq e1
          replace e2:=kkeep gq e2
          replace hg:=hg.trans gq
          clear c0 c1 hall hG gq
          go_wp2
          go_region_held3 (fun w'=>w'.cell? ⟨b,off + (S - 1 - k),none⟩ = some (.int .u32 X)∧w'.cell? ⟨b',off' + (S - 1 - k),none⟩ = some (.int .u32 Y)) (exact ⟨e1,e2⟩) (first | (go_at_call 93;refine (hcm _).mono ?_;rintro e w' ⟨rfl,rfl⟩))
          go_wp2
          exact bodyPost_ret (v:=.int .i64 R) (by simp [results,Tryz.results55,go_sem] <;> simp only [*]) rfl ⟨rfl,(by repeat (with_reducible (first | assumption | exact Kp.refl _ | apply Kp.drew | apply Kp.alloc | apply Kp.drewN | (refine Kp.trans ?_ (by assumption)))))⟩
      · have hR0:=HD.out (fun j hj=>hs j (by omega) hj)
        subst hR0
        have i2:¬ ((k:Int) < (S:Int)):=by omega
        clear HX HY HN HD HL hs lS lT hk ck
        go_wp2
        exact bodyPost_ret (v:=.int .i64 0) (by simp [results,Tryz.results55,go_sem] <;> simp only [*]) rfl ⟨rfl,hg⟩
  · have t1:((S:Int) != (T:Int)) = true:=by simp;omega
    have hcm:=compare_i (S:Int) (T:Int)
    rw [dne cST] at hcm
    clear dne deq tne HX HY HN cST lS lT
    go_enter Tryz.func55,Tryz.ntmps55
    go_wp2_with fail
    refine h1.mono ?_;rintro e w' ⟨rfl,hw'⟩;obtain rfl:=hw'.symm
    go_wp2_with fail
    refine h2.mono ?_;rintro e w' ⟨rfl,hw'⟩;obtain rfl:=hw'.symm
    go_wp2_with (first | (go_at_call 92;refine (hcm _).mono ?_;rintro e w' ⟨rfl,rfl⟩))
    exact bodyPost_ret (v:=.int .i64 R) (by simp [results,Tryz.results55,go_sem] <;> simp only [*]) rfl ⟨rfl,hg⟩
end Go.Proofs.YtoibnopiinclaaaGreatDoor
