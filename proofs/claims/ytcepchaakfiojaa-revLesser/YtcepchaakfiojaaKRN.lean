import Derived.Test.YtcepchaakfiojaaKLX
import Derived.Laws.BitsAllLaws
set_option maxHeartbeats 2000000
set_option maxRecDepth 20000
namespace Go.Proofs.Ytcepchaakfiojaa
open Go.RowKit
theorem rnorm_ (p:Option Addr) (c:Nat) (xs:List Int) (w:World) (hx:Arr w p xs) (lx:xs.length≤1099511627776) :
    Calls Try.prog 57 #[.slice p xs.length c] w fun e w'=>∃ v,e = .returned v∧Own w' w.heap.size v (nz xs)∧Kp w w':=by
  obtain ⟨N,hN⟩:∃ N,N = xs.length:=⟨_,rfl⟩
  rw [← hN] at lx ⊢
  have HX:Hid (Arr w p xs):=hx
  have HN:Hid (N = xs.length):=hN
  obtain ⟨T,hT⟩:∃ T,T = tl xs:=⟨_,rfl⟩
  have HT:Hid (tlAux xs N = T):=by rw [hT,hN];exact rfl
  have HT2:Hid (T≤N∧T = tl xs):=⟨by rw [hT,hN];exact tl_le xs,hT⟩
  obtain ⟨i0,hi0,hi1,hi2,hi3⟩:=inf32p
  clear hN hx hT
  go_enter Try.func57,Try.ntmps57
  go_wp2
  go_loop [3] (fun i=>∃ k:Nat,i = .int .i64 k∧k≤N∧tlAux xs k = T) (fun i=>(intOf i).toNat)
  case atStart=>exact ⟨N,rfl,Nat.le_refl _,HT.out⟩
  case round =>
    obtain ⟨k,rfl,hk,ht⟩:=hrel
    have hN:=HN.out
    have step2:k = 0∨(∃ k',k = k' + 1∧xs.getD k' 0 = 0)∨(∃ k',k = k' + 1∧xs.getD k' 0≠0):=by
      rcases k with _ | k'
      · exact Or.inl rfl
      · by_cases cz:xs.getD k' 0 = 0
        · exact Or.inr (Or.inl ⟨k',rfl,cz⟩)
        · exact Or.inr (Or.inr ⟨k',rfl,cz⟩)
    rcases step2 with rfl | ⟨k,rfl,cz⟩ | ⟨k,rfl,cz⟩
    · have hT0:T = 0:=by rw [← ht];rfl
      subst hT0
      clear hN HN HX HT ht hk
      have hnz:nz xs = []:=by unfold nz;rw [← HT2.out.2];rfl
      go_wp2
      go_loopw [4,5] (fun v i wr=>v = .slice none 0 0∧i = .int .i64 0∧wr = w) (fun _ _ _=>0)
      case atStart=>exact ⟨rfl,rfl,rfl⟩
      case round =>
        obtain ⟨rfl,rfl,rfl⟩:=hrel
        go_wp2
        exact bodyPost_ret (v:=.slice none 0 0) (by simp [results,Try.results57,go_sem] <;> simp only [*]) rfl ⟨_,rfl,by rw [hnz];exact Own.nil _ _,Kp.refl _⟩
    · obtain ⟨b,off,rfl,hc'⟩:=HX.out.at (k:=k) (by omega)
      have e1:=hc' k (by omega)
      rw [tlAux_zero xs k cz] at ht
      rw [cz] at e1
      clear hN HN HX HT hc' HT2
      go_wp2
      exact ⟨⟨k,by go_num,by omega,ht⟩,by simp [intOf]⟩
    · obtain ⟨b,off,rfl,hc'⟩:=HX.out.at (k:=k) (by omega)
      have e1:=hc' k (by omega)
      rw [tlAux_nz xs k cz] at ht
      obtain ⟨X,hX⟩:∃ X,X = xs.getD k 0:=⟨_,rfl⟩
      rw [← hX] at e1 cz
      have t1:(X == 0) = false:=by simp [cz]
      have HK:Hid (k + 1 = T):=ht
      clear hN HT hc' hX cz ht
      go_wp2
      go_loopw [4,5] (fun a i wr=>∃ (v:Value) (j:Nat),v = a∧j≤k + 1∧i = .int .i64 j∧Own wr w.heap.size v (xs.take j)∧Kp w wr) (fun _ i _=>k + 1 - (intOf i).toNat)
      case atStart=>exact ⟨_,0,rfl,Nat.zero_le _,rfl,by simpa using Own.nil w w.heap.size,Kp.refl _⟩
      case round =>
        obtain ⟨v,j,rfl,hj,rfl,hown,hkp⟩:=hrel
        obtain ⟨hTN,hTe⟩:=HT2.out
        have hKT:=HK.out
        have hN:=HN.out
        clear e1 t1
        by_cases cj:j < k + 1
        · obtain ⟨b2,off2,hb2,hc2⟩:=HX.out.at (k:=j) (by omega)
          obtain ⟨rfl,rfl⟩:b = b2∧off = off2:=by simpa using hb2
          have e2:=kkeep hkp (hc2 j (by omega))
          have hpush:=take_push xs j (by omega)
          have hob:=own_block hown
          have hlen:(xs.take j).length = j:=by rw [List.length_take];omega
          have hown':wr.ownsRow w.heap.size 81 1 v ((xs.take j).length) ((xs.take j).map (Value.int .u32)):=hown
          obtain ⟨Y,hY⟩:∃ Y,Y = xs.getD j 0:=⟨_,rfl⟩
          rw [← hY] at e2 hpush
          have hsz:=hkp.size
          clear hc2 hb2 hY hTe HX HN HT2 HK hown
          clear hN
          go_wp2_with (first | (at_builtin;refine wpList_append_own _ rfl _ _ 42 rfl w.heap.size 81 i0 (.int .u32 0) 1 4 Try.underlying42 hi0 hi1 hi2 hi3 rfl (by decide) _ _ _ rfl (hown'.alloc _) ⟨wr.heap.size,0,none⟩ 1 1 [.int .u32 Y] rfl rfl ?c1 ?c2 ?c3 ?c4 ?c5 ?_))
          case c1 =>
            intro j' u hj'
            match j',hj' with
            | 0,hj'=>simp at hj';subst hj';simp [Addr.add]
          case c2=>intro u hu;simp at hu;subst hu;rfl
          case c3=>unfold maxLen;omega
          case c4=>omega
          case c5=>simp;omega
          intro v' w1 hown2 hgrow _
          have hO:Own w1 w.heap.size v' (xs.take (j + 1)):=by rw [← hpush];refine Own.push ?_;rw [hlen,List.map_take];exact hown2
          have hK2:Kp w w1:=(hkp.alloc _).grown hgrow hob
          clear hown2 hgrow hown' hkp hob e2 hsz hpush hlen
          go_wp2
          exact ⟨⟨_,j + 1,rfl,by omega,by go_num,hO,hK2⟩,by simp [intOf];omega⟩
        · have hjk:j = k + 1:=by omega
          have hnz:nz xs = xs.take j:=by unfold nz;rw [← hTe,← hKT,hjk]
          clear hN HN HX HT2 HK hTe hTN hKT
          go_wp2
          exact bodyPost_ret (v:=v) (by simp [results,Try.results57,go_sem] <;> simp only [*]) rfl ⟨_,rfl,by rw [hnz];exact hown,hkp⟩
theorem row2 (w:World) (x y:Int):Rw (w.alloc (.cells #[.int .u32 x,.int .u32 y] 81)) w.heap.size 2 [x,y]:=by
  have:=World.rowIs_alloc w #[.int .u32 x,.int .u32 y] 81 (fun i=>.int .u32 ([x,y].getD i 0)) (fun i hi=>by
    have h:i = 0∨i = 1:=by simp at hi;omega
    rcases h with rfl | rfl <;> rfl)
  exact this
theorem row1 (w:World) (x:Int):Rw (w.alloc (.cells #[.int .u32 x] 81)) w.heap.size 1 [x]:=by
  have:=World.rowIs_alloc w #[.int .u32 x] 81 (fun i=>.int .u32 ([x].getD i 0)) (fun i hi=>by
    have h:i = 0:=by simp at hi;omega
    rcases h with rfl;rfl)
  exact this
theorem own1 (w:World):Own (w.alloc (.cells #[.int .u32 1] 81)) w.heap.size (.slice (some ⟨w.heap.size,0,none⟩) 1 1) [1] :=
  Own.of_row (row1 w 1) (Nat.le_refl _) (Nat.le_refl _) rfl (by unfold maxLen;omega)
theorem Arr.take {w:World} {p:Option Addr} {xs:List Int} (h:Arr w p xs) (k:Nat):Arr w p (xs.take k):=by
  rcases h with h | ⟨b,off,h1,h2⟩
  · subst h;exact Or.inl (by simp)
  · refine Or.inr ⟨b,off,h1,fun j hj=>?_⟩
    have hj2:j < k∧j < xs.length:=by simp at hj;omega
    rw [h2 j hj2.2];simp [List.getD,hj2.1]
theorem rsmall_ (v:Nat) (hv:v < 18446744073709551616) (w:World) :
    Calls Try.prog 47 #[.int .u64 (v:Int)] w fun e w'=>∃ r,e = .returned r∧Own w' w.heap.size r (dig v)∧Kp w w':=by
  have f0:=and32 v hv
  obtain ⟨lo,hlo⟩:∃ lo:Nat,lo = v % 4294967296:=⟨_,rfl⟩
  obtain ⟨hi,hhi⟩:∃ hi:Nat,hi = v / 4294967296:=⟨_,rfl⟩
  rw [← hlo] at f0
  have f1:IntKind.u32.wrap (lo:Int) = (lo:Int):=by rw [IntKind.wrap_u32];omega
  have f2:(v:Int) / 4294967296 = (hi:Int):=by omega
  have f3:IntKind.u32.wrap (hi:Int) = (hi:Int):=by rw [IntKind.wrap_u32];omega
  have hw:Wd [(lo:Int),(hi:Int)]:=Wd.mk (by omega) (Wd.mk (by omega) Wd.nil)
  have hval:val [(lo:Int),(hi:Int)] = v:=by simp [val];omega
  have hr:=row2 w (lo:Int) (hi:Int)
  have hk:Kp w (w.alloc (.cells #[.int .u32 (lo:Int),.int .u32 (hi:Int)] 81)):=(Kp.refl w).alloc _
  have hno:=rnorm_ (some ⟨w.heap.size,0,none⟩) 2 [(lo:Int),(hi:Int)] _ (by simpa using hr.arr 2 (Nat.le_refl _) (by simp)) (by simp)
  rw [nz_dig _ hw,hval] at hno
  obtain ⟨Z,hZ⟩:∃ Z,Z = dig v:=⟨_,rfl⟩
  rw [← hZ] at hno ⊢
  have hno2:Calls Try.prog 57 #[.slice (some ⟨w.heap.size,0,none⟩) 2 2] (w.alloc (.cells #[.int .u32 (lo:Int),.int .u32 (hi:Int)] 81)) fun e w'=>∃ v,e = .returned v∧Own w' (w.alloc (.cells #[.int .u32 (lo:Int),.int .u32 (hi:Int)] 81)).heap.size v Z∧Kp (w.alloc (.cells #[.int .u32 (lo:Int),.int .u32 (hi:Int)] 81)) w':=hno
  clear hno hZ hval hw hlo hhi hv hr
  go_enter Try.func47,Try.ntmps47
  go_wp2_with fail
  refine hno2.mono ?_;rintro e w1 ⟨r,rfl,hO,hk2⟩
  have hO2:=hO.mono hk.size
  have hk3:=hk.trans hk2
  clear hno2 hO hk hk2
  go_wp2
  exact bodyPost_ret (v:=r) (by simp [results,Try.results47,go_sem] <;> simp only [*]) rfl ⟨_,rfl,hO2,hk3⟩
theorem rword_ (p:Option Addr) (c:Nat) (xs:List Int) (w:World) (hx:Arr w p xs) (hwx:Wd xs) (lx:xs.length≤16777216) :
    Calls Try.prog 74 #[.slice p xs.length c] w fun e w'=>e = .returned (.tuple #[.int .u64 ((wordN (val xs)).1:Nat),.bool (wordN (val xs)).2])∧w' = w:=by
  have h1:=words_ p c xs w hx (by omega)
  have e1:=tl_len xs hwx
  have lS:=tl_le xs
  have hv0:val ((nz xs).drop 0) = val xs:=by rw [List.drop_zero,val_nz]
  have hnl:=nz_length xs
  have hg:∀ k,k < tl xs→(nz xs).getD k 0 = xs.getD k 0:=fun k hk=>by unfold nz;simp [List.getD,hk]
  obtain ⟨zs,hzs⟩:∃ zs,zs = nz xs:=⟨_,rfl⟩
  have hwz:Wd zs:=by rw [hzs];exact hwx.take _
  rw [← hzs] at hv0 hnl hg
  obtain ⟨a,ha⟩:∃ a,a = val xs:=⟨_,rfl⟩
  obtain ⟨N,hN⟩:∃ N,N = xs.length:=⟨_,rfl⟩
  obtain ⟨S,hS⟩:∃ S,S = tl xs:=⟨_,rfl⟩
  rw [← ha] at e1 hv0 ⊢
  rw [← hN,← hS] at h1
  rw [← hS] at e1 hnl hg lS
  rw [← hN] at lS ⊢
  have HX:Hid (Arr w p xs∧Wd zs∧N = xs.length∧zs.length = S∧val (zs.drop 0) = a∧(∀ k,k < S→zs.getD k 0 = xs.getD k 0)):=⟨hx,hwz,hN,hnl,hv0,hg⟩
  clear hx hwx lx ha hN hS hzs hwz hnl hv0 hg
  by_cases cs:2 < S
  · have e2:wordN a = (0,false):=by unfold wordN;rw [if_pos (by omega)]
    rw [e2]
    have t1:(2:Int) < (S:Int):=by omega
    clear e1 e2 cs HX lS
    go_enter Try.func74,Try.ntmps74
    go_wp2_with fail
    refine h1.mono ?_;rintro e w' ⟨rfl,hw'⟩;obtain rfl:=hw'.symm
    go_wp2
    exact bodyPost_ret (v:=.tuple #[.int .u64 0,.bool false]) (by simp [results,Try.results74,go_sem] <;> simp only [*]) rfl ⟨rfl,rfl⟩
  · have e2:wordN a = (a,true):=by unfold wordN;rw [if_neg (by omega)]
    rw [e2]
    have t1:¬ ((2:Int) < (S:Int)):=by omega
    have hS2:S≤2:=by omega
    clear e1 e2 cs
    go_enter Try.func74,Try.ntmps74
    go_wp2_with fail
    refine h1.mono ?_;rintro e w' ⟨rfl,hw'⟩;obtain rfl:=hw'.symm
    clear h1
    go_wp2
    clear t1
    go_loop [5,6] (fun v i=>∃ (k:Nat) (z:Int),z = (k:Int) - 1∧i = .int .i64 z∧k≤S∧v = .int .u64 (val (zs.drop k):Nat)) (fun _ i=>(intOf i + 1).toNat)
    case atStart=>exact ⟨S,_,rfl,by go_num,Nat.le_refl _,by rw [List.drop_of_length_le (by have:=HX.out.2.2.2.1;omega)];rfl⟩
    case round =>
      obtain ⟨k,z,hz,rfl,hk,rfl⟩:=hrel
      obtain ⟨hx,hwz,hN,hnl,hv0,hg⟩:=HX.out
      rcases k with _ | k
      · have hz0:z = -1:=by omega
        subst hz0
        rw [hv0]
        clear hz HX hx hwz hN hnl hv0 hg hk
        go_wp2
        exact bodyPost_ret (v:=.tuple #[.int .u64 (a:Int),.bool true]) (by simp [results,Try.results74,go_sem] <;> simp only [*]) rfl ⟨rfl,rfl⟩
      · have hz0:z = (k:Int):=by omega
        subst hz0
        obtain ⟨b,off,rfl,hc⟩:=hx.at (k:=k) (by omega)
        have e1:=hc k (by omega)
        rw [← hg k (by omega)] at e1
        have wz:=hwz k
        have hd:=val_drop zs k (by omega)
        have hlt:val (zs.drop (k + 1)) < 4294967296:=by
          have h1:=val_lt (zs.drop (k + 1)) (fun j=>by
            have:=hwz (k + 1 + j)
            simpa [List.getD,List.getElem?_drop] using this)
          have h2:(zs.drop (k + 1)).length≤1:=by rw [List.length_drop];omega
          exact Nat.lt_of_lt_of_le h1 (Nat.le_trans (Nat.pow_le_pow_right (by omega) h2) (by decide))
        obtain ⟨X,hX⟩:∃ X:Nat,(X:Int) = zs.getD k 0:=⟨(zs.getD k 0).toNat,by omega⟩
        rw [← hX] at e1 hd
        rw [Int.toNat_natCast] at hd
        obtain ⟨V,hV⟩:∃ V,V = val (zs.drop (k + 1)):=⟨_,rfl⟩
        rw [← hV] at hd hlt ⊢
        have HG:Hid (val (zs.drop k) = X + 4294967296 * V):=hd
        have f0:IntKind.u64.wrap (X:Int) = (X:Int):=by rw [IntKind.wrap_u64];omega
        have f1:IntKind.u64.wrap ((V:Int) * 4294967296) = ((V * 4294967296:Nat):Int):=by rw [IntKind.wrap_u64];omega
        have hor:=or_low X V 32 (by omega)
        have f2:=bits_or_u64_nat (V * 4294967296) X (by omega) (by omega)
        have e2:V * 4294967296 ||| X = X + 4294967296 * V:=by
          rw [Nat.or_comm,Nat.mul_comm 4294967296];exact hor
        rw [e2] at f2
        obtain ⟨Y,hY⟩:∃ Y:Nat,Y = V * 4294967296:=⟨_,rfl⟩
        obtain ⟨T,hT⟩:∃ T:Nat,T = X + 4294967296 * V:=⟨_,rfl⟩
        rw [← hY] at f1 f2
        rw [← hT] at f2 HG
        have i0:(0:Int)≤(k:Int):=by omega
        have i1:(k:Int) < (N:Int):=by omega
        have hk2:k≤S:=by omega
        clear hz HX hx hwz hN hnl hv0 hg hc wz hd hX hV hor e2 hY hT hlt hk lS hS2
        go_wp2
        exact ⟨⟨k,_,rfl,by go_num,hk2,by rw [HG.out]⟩,by simp [intOf]⟩
theorem Kb.trans {g:Nat} {a b c:World} (h:Kb g a b) (k:Kb g b c):Kb g a c :=
  ⟨k.1.trans h.1,k.2.1.trans h.2.1,k.2.2.1.trans h.2.2.1,Nat.le_trans h.2.2.2.1 k.2.2.2.1,fun j hj hg=>(k.2.2.2.2 j (Nat.lt_of_lt_of_le hj h.2.2.2.1) hg).trans (h.2.2.2.2 j hj hg)⟩
theorem pow_split (m:Nat):2 ^ (m % 32) * 4294967296 ^ (m / 32) = 2 ^ m:=by
  rw [pow32,← Nat.pow_add,show m % 32 + 32 * (m / 32) = m from by omega]
end Go.Proofs.Ytcepchaakfiojaa
