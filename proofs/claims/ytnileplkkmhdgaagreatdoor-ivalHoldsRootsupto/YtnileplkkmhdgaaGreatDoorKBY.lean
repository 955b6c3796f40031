import Derived.Test.YtnileplkkmhdgaaGreatDoorKBW
import Derived.Test.YtnileplkkmhdgaaGreatDoorKXRL
import Derived.Test.YtnileplkkmhdgaaGreatDoorKXY
set_option maxHeartbeats 1000000
set_option maxRecDepth 20000
namespace Go.Proofs.YtnileplkkmhdgaaGreatDoor
open Go.RowKit
def ByS (w wq:World) (pu pv:Option Addr) (us vs qs:List Int) (gq L:Nat):Prop:=Arr wq pu us∧Arr wq pv vs∧Rw wq gq L qs∧Kp w wq
theorem arr_kb {g:Nat} {w w':World} {p:Option Addr} {xs:List Int} (h:Arr w p xs) (k:Kb g w w') (hne:∀ b off,p = some ⟨b,off,none⟩→b≠g):Arr w' p xs:=by
  rcases h with h | ⟨b,off,h1,h2⟩
  · exact Or.inl h
  · exact Or.inr ⟨b,off,h1,fun j hj=>k.arr (hne b off h1) (h2 j hj)⟩
theorem ByS.kb {w wq w':World} {pu pv:Option Addr} {us vs qs:List Int} {gq L g:Nat} (h:ByS w wq pu pv us vs qs gq L) (k:Kb g wq w') (h1:∀ b off,pu = some ⟨b,off,none⟩→b≠g) (h2:∀ b off,pv = some ⟨b,off,none⟩→b≠g) (h3:gq≠g) (h4:w.heap.size≤g):ByS w w' pu pv us vs qs gq L :=
  ⟨arr_kb h.1 k h1,arr_kb h.2.1 k h2,h.2.2.1.kb k h3,k.kp h.2.2.2 h4⟩
theorem ByS.kp {w wq w':World} {pu pv:Option Addr} {us vs qs:List Int} {gq L:Nat} (h:ByS w wq pu pv us vs qs gq L) (k:Kp wq w'):ByS w w' pu pv us vs qs gq L :=
  ⟨h.1.grown k,h.2.1.grown k,h.2.2.1.grown k,h.2.2.2.trans k⟩
def Ls (w:World) (v:Value) (L:List Int):Prop:=∃ p c,v = .slice p L.length c∧Arr w p L∧L.length≤c
theorem Ls.kp {w w':World} {v:Value} {L:List Int} (h:Ls w v L) (k:Kp w w'):Ls w' v L:=by
  obtain ⟨p,c,e,hA,hc⟩:=h
  exact ⟨p,c,e,hA.grown k,hc⟩
theorem Own.ls {w:World} {base:Nat} {v:Value} {L:List Int} (h:Own w base v L):Ls w v L:=by
  obtain ⟨p,c,e,hA,hc⟩:=h.arr
  exact ⟨p,c,e,hA,hc⟩
theorem dlen (a K:Nat) (h:blen a≤32 * K):(dig a).length≤K:=by
  have h1:=(blen_le_iff a (32 * K)).1 h
  rw [← pow32] at h1
  by_cases c:(dig a).length≤K
  · exact c
  · exfalso
    have:=len32_lt a K (by unfold len32;omega)
    omega
theorem row2 (w:World) (x y:Int):Rw (w.alloc (.cells #[.int .u32 x,.int .u32 y] 72)) w.heap.size 2 [x,y]:=by
  have:=World.rowIs_alloc w #[.int .u32 x,.int .u32 y] 72 (fun i=>.int .u32 ([x,y].getD i 0)) (fun i hi=>by
    have h:i = 0∨i = 1:=by simp at hi;omega
    rcases h with rfl | rfl <;> rfl)
  exact this
theorem row1 (w:World) (x:Int):Rw (w.alloc (.cells #[.int .u32 x] 72)) w.heap.size 1 [x]:=by
  have:=World.rowIs_alloc w #[.int .u32 x] 72 (fun i=>.int .u32 ([x].getD i 0)) (fun i hi=>by
    have h:i = 0:=by simp at hi;omega
    rcases h with rfl;rfl)
  exact this
theorem own1 (w:World):Own (w.alloc (.cells #[.int .u32 1] 72)) w.heap.size (.slice (some ⟨w.heap.size,0,none⟩) 1 1) [1] :=
  Own.of_row (row1 w 1) (Nat.le_refl _) (Nat.le_refl _) rfl (by unfold maxLen;omega)
theorem nsmall_ (v:Nat) (hv:v < 18446744073709551616) (w:World) :
    Calls Tryz.prog 93 #[.int .u64 (v:Int)] w fun e w'=>∃ r,e = .returned r∧Own w' w.heap.size r (dig v)∧Kp w w':=by
  obtain ⟨lo,hlo⟩:∃ lo:Nat,lo = v % 4294967296:=⟨_,rfl⟩
  obtain ⟨hi,hhi⟩:∃ hi:Nat,hi = v / 4294967296:=⟨_,rfl⟩
  have f1:IntKind.u32.wrap (v:Int) = (lo:Int):=by rw [IntKind.wrap_u32];omega
  have f2:(v:Int) / 4294967296 = (hi:Int):=by omega
  have f3:IntKind.u32.wrap (hi:Int) = (hi:Int):=by rw [IntKind.wrap_u32];omega
  have hw:Wd [(lo:Int),(hi:Int)]:=Wd.mk (by omega) (Wd.mk (by omega) Wd.nil)
  have hval:val [(lo:Int),(hi:Int)] = v:=by simp [val];omega
  have hr:=row2 w (lo:Int) (hi:Int)
  have htr:=trim_ (some ⟨w.heap.size,0,none⟩) 2 [(lo:Int),(hi:Int)] _ (by simpa using hr.arr 2 (Nat.le_refl _) (by simp)) (by simp) (by simp)
  have hO:Own (w.alloc (.cells #[.int .u32 (lo:Int),.int .u32 (hi:Int)] 72)) w.heap.size (.slice (some ⟨w.heap.size,0,none⟩) (tl [(lo:Int),(hi:Int)]) 2) (dig v):=by
    have h1:=Own.of_row (base:=w.heap.size) (k:=tl [(lo:Int),(hi:Int)]) hr (Nat.le_refl _) (tl_le _) rfl (by unfold maxLen;omega)
    have h2:[(lo:Int),(hi:Int)].take (tl [(lo:Int),(hi:Int)]) = dig v:=by rw [← hval,← nz_dig _ hw];rfl
    rw [h2] at h1
    exact h1
  have hk:Kp w (w.alloc (.cells #[.int .u32 (lo:Int),.int .u32 (hi:Int)] 72)):=(Kp.refl w).alloc _
  obtain ⟨T,hT⟩:∃ T,T = tl [(lo:Int),(hi:Int)]:=⟨_,rfl⟩
  rw [← hT] at htr hO
  have htr2:Calls Tryz.prog 120 #[.slice (some ⟨w.heap.size,0,none⟩) 2 2] (w.alloc (.cells #[.int .u32 (lo:Int),.int .u32 (hi:Int)] 72)) fun e w'=>e = .returned (.slice (some ⟨w.heap.size,0,none⟩) T 2)∧w' = w.alloc (.cells #[.int .u32 (lo:Int),.int .u32 (hi:Int)] 72):=htr
  clear htr hT hval hw hlo hhi hv hr
  go_enter Tryz.func93,Tryz.ntmps93
  go_wp2_with fail
  refine htr2.mono ?_;rintro e w' ⟨rfl,hw'⟩;subst hw'
  clear htr2
  go_wp2
  exact bodyPost_ret (v:=.slice (some ⟨w.heap.size,0,none⟩) T 2) (by simp [results,Tryz.results93,go_sem] <;> simp only [*]) rfl ⟨_,rfl,hO,hk⟩
theorem rsmall_ (v:Nat) (hv:v < 18446744073709551616) (w:World) :
    Calls Tryz.prog 49 #[.int .u64 (v:Int)] w fun e w'=>∃ r,e = .returned r∧Own w' w.heap.size r (dig v)∧Kp w w':=by
  have f0:=and32 v hv
  obtain ⟨lo,hlo⟩:∃ lo:Nat,lo = v % 4294967296:=⟨_,rfl⟩
  obtain ⟨hi,hhi⟩:∃ hi:Nat,hi = v / 4294967296:=⟨_,rfl⟩
  rw [← hlo] at f0
  have f1:IntKind.u32.wrap (lo:Int) = (lo:Int):=by rw [IntKind.wrap_u32];omega
  have f2:(v:Int) / 4294967296 = (hi:Int):=by omega
  have f3:IntKind.u32.wrap (hi:Int) = (hi:Int):=by rw [IntKind.wrap_u32];omega
  have hw:Wd [(lo:Int),(hi:Int)]:=Wd.mk (by omega) (Wd.mk (by omega) Wd.nil)
  have hval:val [(lo:Int),(hi:Int)] = v:=by simp [val];omega
  have hr:=row2 w (lo:Int) (hi:Int)
  have hk:Kp w (w.alloc (.cells #[.int .u32 (lo:Int),.int .u32 (hi:Int)] 72)):=(Kp.refl w).alloc _
  have hno:=rnorm_ (some ⟨w.heap.size,0,none⟩) 2 [(lo:Int),(hi:Int)] _ (by simpa using hr.arr 2 (Nat.le_refl _) (by simp)) (by simp)
  rw [nz_dig _ hw,hval] at hno
  obtain ⟨Z,hZ⟩:∃ Z,Z = dig v:=⟨_,rfl⟩
  rw [← hZ] at hno ⊢
  have hno2:Calls Tryz.prog 45 #[.slice (some ⟨w.heap.size,0,none⟩) 2 2] (w.alloc (.cells #[.int .u32 (lo:Int),.int .u32 (hi:Int)] 72)) fun e w'=>∃ v,e = .returned v∧Own w' (w.alloc (.cells #[.int .u32 (lo:Int),.int .u32 (hi:Int)] 72)).heap.size v Z∧Kp (w.alloc (.cells #[.int .u32 (lo:Int),.int .u32 (hi:Int)] 72)) w':=hno
  clear hno hZ hval hw hlo hhi hv hr
  go_enter Tryz.func49,Tryz.ntmps49
  go_wp2_with fail
  refine hno2.mono ?_;rintro e w1 ⟨r,rfl,hO,hk2⟩
  have hO2:=hO.mono hk.size
  have hk3:=hk.trans hk2
  clear hno2 hO hk hk2
  go_wp2
  exact bodyPost_ret (v:=r) (by simp [results,Tryz.results49,go_sem] <;> simp only [*]) rfl ⟨_,rfl,hO2,hk3⟩
theorem lowest_ (p:Option Addr) (c:Nat) (xs:List Int) (w:World) (hx:Arr w p xs) (hwx:Wd xs) (lx:xs.length≤2) :
    Calls Tryz.prog 139 #[.slice p xs.length c] w fun e w'=>e = .returned (.int .u64 (val xs:Nat))∧w' = w:=by
  obtain ⟨N,hN⟩:∃ N,N = xs.length:=⟨_,rfl⟩
  have HX:Hid (Arr w p xs∧Wd xs∧N = xs.length):=⟨hx,hwx,hN⟩
  have hmin:min (N:Int) 2 = (N:Int):=by omega
  have hN2:N≤2:=by omega
  rw [← hN]
  clear hx hwx lx hN
  go_enter Tryz.func139,Tryz.ntmps139
  go_wp2
  go_loop [3,8] (fun v i=>∃ k:Nat,i = .int .i64 k∧k≤N∧v = .int .u64 (val (xs.take k):Nat)) (fun _ i=>N - (intOf i).toNat)
  case atStart=>exact ⟨0,rfl,Nat.zero_le _,by simp [val]⟩
  case round =>
    obtain ⟨k,rfl,hk,rfl⟩:=hrel
    obtain ⟨hx,hwx,hN⟩:=HX.out
    by_cases ck:k < N
    · obtain ⟨b,off,rfl,hc⟩:=hx.at (k:=k) (by omega)
      have e1:=hc k (by omega)
      have wx:=hwx k
      have hst:=val_take_succ xs k
      have hlt:=val_two xs hwx (by omega) (k + 1)
      have hlk:=val_take_lt xs hwx k
      obtain ⟨X,hX⟩:∃ X:Nat,(X:Int) = xs.getD k 0:=⟨(xs.getD k 0).toNat,by omega⟩
      rw [← hX] at e1 hst
      rw [Int.toNat_natCast] at hst
      obtain ⟨V,hV⟩:∃ V,V = val (xs.take k):=⟨_,rfl⟩
      obtain ⟨V',hV'⟩:∃ V',V' = val (xs.take (k + 1)):=⟨_,rfl⟩
      rw [← hV] at hst hlk ⊢
      rw [← hV'] at hst hlt
      have HG:Hid (V' = val (xs.take (k + 1))):=hV'
      have f0:IntKind.u64.wrap (X:Int) = (X:Int):=by rw [IntKind.wrap_u64];omega
      have i0:(0:Int)≤(k:Int):=by omega
      have i1:(k:Int) < (N:Int):=by omega
      have hX32:X < 4294967296:=by omega
      clear hx hwx hN hc wx hX hV hV' HX
      rcases (by omega:k = 0∨k = 1) with rfl | rfl
      · have hV0:V = 0:=by simpa using hlk
        subst hV0
        have hX':V' = X:=by simpa using hst
        subst hX'
        have f2:bits BinOp.or IntKind.u64 0 (V':Int) = (V':Int):=by
          have:=bits_or_u64_nat 0 V' (by omega) (by omega)
          simpa using this
        rw [Nat.add_zero] at e1
        clear hst hlt hlk
        go_wp2
        exact ⟨⟨1,by go_num,by omega,by rw [← HG.out]⟩,by simp [intOf];omega⟩
      · have f1:IntKind.u64.wrap ((X:Int) * 4294967296) = ((X * 4294967296:Nat):Int):=by rw [IntKind.wrap_u64];omega
        have hor:=or_low V X 32 (by simpa using hlk)
        have f2:=bits_or_u64_nat V (X * 4294967296) (by omega) (by omega)
        have e2:V ||| X * 4294967296 = V':=by
          have e3:V + X * 4294967296 = V':=by omega
          rw [← e3];exact hor
        rw [e2] at f2
        obtain ⟨Y,hY⟩:∃ Y:Nat,Y = X * 4294967296:=⟨_,rfl⟩
        rw [← hY] at f1 f2
        clear hst hlt hlk hor e2 hY
        go_wp2
        exact ⟨⟨2,by go_num,by omega,by rw [← HG.out]⟩,by simp [intOf];omega⟩
    · have hkN:k = N:=by omega
      subst hkN
      rw [hN,List.take_length]
      obtain ⟨V,hV⟩:∃ V,V = val xs:=⟨_,rfl⟩
      rw [← hV]
      have i1:¬ ((k:Int) < (k:Int)):=by omega
      have HV:Hid (V = val xs):=hV
      clear HX hx hwx hN hV
      go_wp2
      exact bodyPost_ret (v:=.int .u64 (V:Int)) (by simp [results,Tryz.results139,go_sem] <;> simp only [*]) rfl ⟨by rw [HV.out],rfl⟩
theorem nword_ (p:Option Addr) (c:Nat) (xs:List Int) (w:World) (hx:Arr w p xs) (hwx:Wd xs) (lx:xs.length≤16777216) (hc:xs.length≤c) :
    Calls Tryz.prog 108 #[.slice p xs.length c] w fun e w'=>e = .returned (.tuple #[.int .u64 ((wordN (val xs)).1:Nat),.bool (wordN (val xs)).2])∧w' = w:=by
  have h1:=trim_ p c xs w hx (by omega) hc
  have e1:=tl_len xs hwx
  have h2:tl xs≤2→Calls Tryz.prog 139 #[.slice p (tl xs) c] w fun e w'=>e = .returned (.int .u64 (val xs:Nat))∧w' = w:=fun h=>by
    have:=lowest_ p c (nz xs) w (hx.take _) (hwx.take _) (by rw [nz_length];exact h)
    rw [nz_length,val_nz] at this
    exact this
  obtain ⟨a,ha⟩:∃ a,a = val xs:=⟨_,rfl⟩
  obtain ⟨N,hN⟩:∃ N,N = xs.length:=⟨_,rfl⟩
  obtain ⟨S,hS⟩:∃ S,S = tl xs:=⟨_,rfl⟩
  rw [← ha] at e1 h2 ⊢
  rw [← hN,← hS] at h1
  rw [← hS] at e1 h2
  rw [← hN]
  clear hx hwx lx hc ha hN hS
  by_cases cs:2 < S
  · have e2:wordN a = (0,false):=by unfold wordN;rw [if_pos (by omega)]
    rw [e2]
    have t1:(2:Int) < (S:Int):=by omega
    clear h2 e1 e2 cs
    go_enter Tryz.func108,Tryz.ntmps108
    go_wp2_with fail
    refine h1.mono ?_;rintro e w' ⟨rfl,hw'⟩;obtain rfl:=hw'.symm
    go_wp2
    exact bodyPost_ret (v:=.tuple #[.int .u64 0,.bool false]) (by simp [results,Tryz.results108,go_sem] <;> simp only [*]) rfl ⟨rfl,rfl⟩
  · have e2:wordN a = (a,true):=by unfold wordN;rw [if_neg (by omega)]
    rw [e2]
    have t1:¬ ((2:Int) < (S:Int)):=by omega
    have h3:=h2 (by omega)
    clear h2 e1 e2 cs
    go_enter Tryz.func108,Tryz.ntmps108
    go_wp2_with fail
    refine h1.mono ?_;rintro e w' ⟨rfl,hw'⟩;obtain rfl:=hw'.symm
    go_wp2_with fail
    refine h3.mono ?_;rintro e w' ⟨rfl,hw'⟩;obtain rfl:=hw'.symm
    go_wp2
    exact bodyPost_ret (v:=.tuple #[.int .u64 (a:Int),.bool true]) (by simp [results,Tryz.results108,go_sem] <;> simp only [*]) rfl ⟨rfl,rfl⟩
theorem w64x (z:Int) (h0:-1099511627776≤z) (h1:z≤1099511627776):wrap64 z = z:=by unfold wrap64;omega
namespace Fb
open Ieee

def rg (f:Format) (x:Nat):Nat:=x % f.signWeight
def ng (f:Format) (x:Nat):Bool:=x / f.signWeight % 2 == 1
def pl (f:Format) (x:Nat):Int:=if ng f x then -(rg f x:Int) else rg f x
def eE (f:Format) (r:Nat):Nat:=if r < f.binade then 0 else r / f.binade - 1
def mM (f:Format) (r:Nat):Nat:=if r < f.binade then r else f.binade + r % f.binade
def vV (f:Format) (r:Nat):Nat:=mM f r * 2 ^ eE f r

theorem binade_pos (f:Format):0 < f.binade:=Nat.two_pow_pos _

theorem vV_step (f:Format) (r:Nat):vV f r < vV f (r + 1):=by
  have hB:=binade_pos f
  unfold vV mM eE
  generalize f.binade = B at *
  by_cases h1:r + 1 < B
  · have:r < B:=by omega
    simp [h1,this]
  · by_cases h2:r < B
    · have h3:r + 1 = B:=by omega
      simp [h2,h3]
      rw [Nat.div_self hB];simp;omega
    · have hq:1≤r / B:=(Nat.le_div_iff_mul_le hB).2 (by omega)
      simp only [h1,h2,if_false]
      have hdm:=Nat.div_add_mod r B
      have hm:=Nat.mod_lt r hB
      by_cases h4:r % B + 1 < B
      · have e1:(r + 1) / B = r / B:=by
          rw [show r + 1 = (r % B + 1) + B * (r / B) from by omega,Nat.add_mul_div_left _ _ hB,Nat.div_eq_of_lt h4];omega
        have e2:(r + 1) % B = r % B + 1:=by
          rw [show r + 1 = (r % B + 1) + B * (r / B) from by omega,Nat.add_mul_mod_self_left,Nat.mod_eq_of_lt h4]
        rw [e1,e2]
        exact Nat.mul_lt_mul_of_pos_right (by omega) (Nat.two_pow_pos _)
      · have e0:r + 1 = B * (r / B + 1):=by rw [Nat.mul_add];omega
        have e1:(r + 1) / B = r / B + 1:=by rw [e0,Nat.mul_div_cancel_left _ hB]
        have e2:(r + 1) % B = 0:=by rw [e0,Nat.mul_mod_right]
        rw [e1,e2]
        obtain ⟨k,hk⟩:∃ k,r / B = k + 1:=⟨r / B - 1,by omega⟩
        rw [hk]
        simp only [Nat.add_sub_cancel,Nat.add_zero]
        rw [Nat.pow_succ,Nat.mul_comm (2 ^ k) 2,← Nat.mul_assoc]
        exact Nat.mul_lt_mul_of_pos_right (by omega) (Nat.two_pow_pos _)

theorem vV_lt (f:Format) {r s:Nat} (h:r < s):vV f r < vV f s:=by
  induction s with
  | zero=>omega
  | succ s ih =>
    by_cases e:r = s
    · subst e;exact vV_step f r
    · exact Nat.lt_trans (ih (by omega)) (vV_step f s)

theorem vV_lt_iff (f:Format) (r s:Nat):vV f r < vV f s ↔ r < s:=by
  constructor
  · intro h
    by_cases c:r < s
    · exact c
    · exfalso
      by_cases e:r = s
      · subst e;omega
      · have:=vV_lt f (r:=s) (s:=r) (by omega);omega
  · exact vV_lt f

theorem vV_inj (f:Format) (r s:Nat):vV f r = vV f s ↔ r = s:=by
  constructor
  · intro h
    by_cases c:r < s
    · have:=vV_lt f c;omega
    · by_cases d:s < r
      · have:=vV_lt f d;omega
      · omega
  · intro h;rw [h]

theorem vV_zero (f:Format):vV f 0 = 0:=by
  unfold vV mM;simp [binade_pos f]

theorem read_fin (f:Format) (x:Nat) (h:rg f x < f.infRung) :
    f.read x = .number (ng f x) (mM f (rg f x)) (f.leastPlace + (eE f (rg f x):Nat)):=by
  unfold Format.read mM eE
  change (if rg f x < f.binade then _ else _) = _
  by_cases c:rg f x < f.binade
  · rw [if_pos c,if_pos c,if_pos c,Int.natCast_zero,Int.add_zero];rfl
  · rw [if_neg c]
    change (if rg f x < f.infRung then _ else _) = _
    rw [if_pos h,if_neg c,if_neg c];rfl

theorem read_inf (f:Format) (x:Nat) (hb:f.binade≤f.infRung) (h:rg f x = f.infRung) :
    f.read x = .infinity (ng f x):=by
  unfold Format.read
  change (if rg f x < f.binade then _ else if rg f x < f.infRung then _ else if rg f x = f.infRung then _ else _) = _
  rw [if_neg (by omega),if_neg (by omega),if_pos h];rfl

theorem read_nan (f:Format) (x:Nat) (hb:f.binade≤f.infRung) (h:f.infRung < rg f x) :
    f.read x = .nan (ng f x) (rg f x - f.infRung):=by
  unfold Format.read
  change (if rg f x < f.binade then _ else if rg f x < f.infRung then _ else if rg f x = f.infRung then _ else _) = _
  rw [if_neg (by omega),if_neg (by omega),if_neg (by omega)];rfl

theorem cmp_congr {a b c d:Int} (h1:a < b ↔ c < d) (h2:a = b ↔ c = d):compare a b = compare c d:=by
  simp only [compare,compareOfLessAndEq,h1,h2]

theorem cmp_lt {a b:Int} (h:a < b):compare a b = .lt:=by simp [compare,compareOfLessAndEq,h]
theorem cmp_gt {a b:Int} (h:b < a):compare a b = .gt:=by
  have h1:¬ a < b:=by omega
  have h2:a≠b:=by omega
  simp [compare,compareOfLessAndEq,h1,h2]
theorem cmp_eq {a b:Int} (h:a = b):compare a b = .eq:=by subst h;simp [compare,compareOfLessAndEq]

theorem signed_eq (s:Bool) (m k:Nat):signed s m k = if s then -((m * 2 ^ k:Nat):Int) else ((m * 2 ^ k:Nat):Int):=by
  unfold signed;rw [Nat.shiftLeft_eq]

def sV (f:Format) (x:Nat):Int:=if ng f x then -(vV f (rg f x):Int) else vV f (rg f x)

theorem sV_lt (f:Format) (x y:Nat):sV f x < sV f y ↔ pl f x < pl f y:=by
  have h1:=vV_lt_iff f (rg f x) (rg f y)
  have h2:=vV_lt_iff f (rg f y) (rg f x)
  have h3:=vV_inj f (rg f x) 0
  have h4:=vV_inj f (rg f y) 0
  rw [vV_zero] at h3 h4
  unfold sV pl
  cases ng f x <;> cases ng f y <;> simp <;> omega

theorem sV_eq (f:Format) (x y:Nat):sV f x = sV f y ↔ pl f x = pl f y:=by
  have h1:=vV_inj f (rg f x) (rg f y)
  have h3:=vV_inj f (rg f x) 0
  have h4:=vV_inj f (rg f y) 0
  rw [vV_zero] at h3 h4
  unfold sV pl
  cases ng f x <;> cases ng f y <;> simp <;> omega

theorem scale (f:Format) (x:Nat) (b:Int) (c:Nat) (hb:b = f.leastPlace + (c:Nat)) (hc:c≤eE f (rg f x)) :
    signed (ng f x) (mM f (rg f x)) (f.leastPlace + (eE f (rg f x):Nat) - b).toNat * (2 ^ c:Nat) = sV f x:=by
  subst hb
  rw [signed_eq,show (f.leastPlace + (eE f (rg f x):Nat) - (f.leastPlace + (c:Nat)):Int).toNat = eE f (rg f x) - c from by omega]
  unfold sV vV
  have e:mM f (rg f x) * 2 ^ eE f (rg f x) = mM f (rg f x) * 2 ^ (eE f (rg f x) - c) * 2 ^ c:=by
    rw [Nat.mul_assoc,← Nat.pow_add,Nat.sub_add_cancel hc]
  rw [e]
  cases ng f x
  · simp only [Bool.false_eq_true,if_false];exact (Int.natCast_mul _ _).symm
  · simp only [if_true];rw [Int.neg_mul];congr 1

theorem order_fin (f:Format) (x y:Nat) (hx:rg f x < f.infRung) (hy:rg f y < f.infRung) :
    f.order x y = some (compare (pl f x) (pl f y)):=by
  unfold Format.order
  rw [read_fin f x hx,read_fin f y hy]
  simp only [Datum.order]
  congr 1
  have hm:min (f.leastPlace + (eE f (rg f x):Nat)) (f.leastPlace + (eE f (rg f y):Nat)) = f.leastPlace + ((min (eE f (rg f x)) (eE f (rg f y)):Nat):Int):=by omega
  have sx:=scale f x _ _ hm (Nat.min_le_left _ _)
  have sy:=scale f y _ _ hm (Nat.min_le_right _ _)
  have hp:(0:Int) < ((2 ^ (min (eE f (rg f x)) (eE f (rg f y))):Nat):Int):=by exact_mod_cast Nat.two_pow_pos _
  refine cmp_congr ?_ ?_
  · rw [← sV_lt,← sx,← sy]
    exact (Int.mul_lt_mul_right hp).symm
  · rw [← sV_eq,← sx,← sy]
    constructor
    · intro h;rw [h]
    · intro h;exact Int.eq_of_mul_eq_mul_right (by omega) h

theorem order_num (f:Format) (x y:Nat) (hb:f.binade≤f.infRung) (hx:rg f x≤f.infRung) (hy:rg f y≤f.infRung) :
    f.order x y = some (compare (pl f x) (pl f y)):=by
  have hB:=binade_pos f
  by_cases cx:rg f x < f.infRung
  · by_cases cy:rg f y < f.infRung
    · exact order_fin f x y cx cy
    · have ey:rg f y = f.infRung:=by omega
      unfold Format.order
      rw [read_fin f x cx,read_inf f y hb ey]
      simp only [Datum.order]
      congr 1
      unfold pl
      rw [ey]
      cases ng f x <;> cases ng f y <;> simp only [Bool.false_eq_true,if_false,if_true] <;> symm <;> first | (apply cmp_lt;omega) | (apply cmp_gt;omega)
  · have ex:rg f x = f.infRung:=by omega
    by_cases cy:rg f y < f.infRung
    · unfold Format.order
      rw [read_inf f x hb ex,read_fin f y cy]
      simp only [Datum.order]
      congr 1
      unfold pl
      rw [ex]
      cases ng f x <;> cases ng f y <;> simp only [Bool.false_eq_true,if_false,if_true] <;> symm <;> first | (apply cmp_lt;omega) | (apply cmp_gt;omega)
    · have ey:rg f y = f.infRung:=by omega
      unfold Format.order
      rw [read_inf f x hb ex,read_inf f y hb ey]
      simp only [Datum.order]
      congr 1
      unfold pl
      rw [ex,ey]
      cases ng f x <;> cases ng f y <;> simp only [Bool.false_eq_true,if_false,if_true]
      · rw [cmp_eq rfl];rfl
      · rw [cmp_gt (by omega)];rfl
      · rw [cmp_lt (by omega)];rfl
      · rw [cmp_eq rfl];rfl

theorem order_nan_left (f:Format) (x y:Nat) (hb:f.binade≤f.infRung) (hx:f.infRung < rg f x):f.order x y = none:=by
  unfold Format.order;rw [read_nan f x hb hx];rfl

theorem order_nan_right (f:Format) (x y:Nat) (hb:f.binade≤f.infRung) (hy:f.infRung < rg f y):f.order x y = none:=by
  unfold Format.order;rw [read_nan f y hb hy]
  cases f.read x <;> rfl



/-! ### words by sign and rung -/
def plz (n:Bool) (m:Nat):Int:=if n then -(m:Int) else m
def wD (n:Bool) (m:Nat):Nat:=if n then 9223372036854775808 + m else m
theorem signD:double.signWeight = 9223372036854775808:=by decide +kernel
theorem infD:double.infRung = 9218868437227405312:=by decide +kernel
theorem infS:single.infRung = 2139095040:=by decide +kernel
theorem binD:double.binade = 4503599627370496:=by decide +kernel
theorem binfD:double.binade≤double.infRung:=by rw [binD,infD];decide
theorem rgD (n:Bool) (m:Nat) (h:m < 9223372036854775808):rg double (wD n m) = m:=by
  unfold rg wD;rw [signD];cases n <;> simp <;> omega
theorem ngD (n:Bool) (m:Nat) (h:m < 9223372036854775808):ng double (wD n m) = n:=by
  unfold ng wD;rw [signD];cases n <;> simp <;> omega
theorem exD (x:Nat) (h:x < 18446744073709551616):∃ n m,m < 9223372036854775808∧x = wD n m:=by
  by_cases c:x < 9223372036854775808
  · exact ⟨false,x,c,rfl⟩
  · exact ⟨true,x - 9223372036854775808,by omega,by unfold wD;simp;omega⟩
theorem ordD (n n':Bool) (m m':Nat) (h:m≤9218868437227405312) (h':m'≤9218868437227405312) :
    FloatKind.f64.format.order (wD n m) (wD n' m') = some (compare (plz n m) (plz n' m')):=by
  have e:=order_num double (wD n m) (wD n' m') binfD (by rw [rgD n m (by omega),infD];exact h) (by rw [rgD n' m' (by omega),infD];exact h')
  have p1:pl double (wD n m) = plz n m:=by unfold pl plz;rw [rgD n m (by omega),ngD n m (by omega)]
  have p2:pl double (wD n' m') = plz n' m':=by unfold pl plz;rw [rgD n' m' (by omega),ngD n' m' (by omega)]
  rw [p1,p2] at e;exact e
theorem ordD_nanl (n:Bool) (m y:Nat) (h:9218868437227405312 < m) (h2:m < 9223372036854775808):FloatKind.f64.format.order (wD n m) y = none :=
  order_nan_left double _ _ binfD (by rw [rgD n m h2,infD];exact h)
theorem ordD_nanr (n:Bool) (m y:Nat) (h:9218868437227405312 < m) (h2:m < 9223372036854775808):FloatKind.f64.format.order y (wD n m) = none :=
  order_nan_right double _ _ binfD (by rw [rgD n m h2,infD];exact h)
theorem xor_top (k m:Nat) (h:m < 2 ^ k):m ^^^ 2 ^ k = 2 ^ k + m:=by
  apply Nat.eq_of_testBit_eq
  intro i
  rw [Nat.testBit_xor,Nat.testBit_two_pow]
  by_cases c:k = i
  · subst c
    rw [Nat.testBit_two_pow_add_eq,Nat.testBit_lt_two_pow h];simp
  · by_cases d:i < k
    · rw [Nat.testBit_two_pow_add_gt d];simp [c]
    · have g:k < i:=by omega
      have l1:m < 2 ^ i:=Nat.lt_of_lt_of_le h (Nat.pow_le_pow_right (by decide) (by omega))
      have l2:2 ^ k + m < 2 ^ i:=Nat.lt_of_lt_of_le (by rw [Nat.pow_succ];omega:2 ^ k + m < 2 ^ (k + 1)) (Nat.pow_le_pow_right (by decide) (by omega))
      rw [Nat.testBit_lt_two_pow l1,Nat.testBit_lt_two_pow l2];simp [c]

theorem negD (n:Bool) (m:Nat) (h:m < 9223372036854775808):Op.negFloat .f64 (wD n m) = wD (!n) m:=by
  have e:=xor_top 63 m h
  have h2:Op.negFloat .f64 (wD n m) = wD n m ^^^ 2 ^ 63:=rfl
  rw [h2]
  cases n
  · show m ^^^ 2 ^ 63 = _;rw [e];rfl
  · show (2 ^ 63 + m) ^^^ 2 ^ 63 = m
    rw [← e,Nat.xor_assoc,Nat.xor_self,Nat.xor_zero]
theorem andD (n:Bool) (m:Nat) (h:m < 9223372036854775808):RowKit.wrap64 (bits .andNot .u64 ((wD n m:Nat):Int) 9223372036854775808) = (m:Int):=by
  have e:=u64_andNot_nat (wD n m) 9223372036854775808 (by unfold wD;split <;> omega) (by decide)
  have e2:wD n m &&& (18446744073709551615 - 9223372036854775808) = m:=by
    have:=Nat.and_two_pow_sub_one_eq_mod (wD n m) 63
    rw [show (18446744073709551615 - 9223372036854775808:Nat) = 2 ^ 63 - 1 from by decide,this]
    unfold wD;split <;> omega
  rw [e2] at e
  have e3:bits .andNot .u64 ((wD n m:Nat):Int) 9223372036854775808 = (m:Int):=e
  rw [e3];unfold RowKit.wrap64;omega
theorem shrD (n:Bool) (m:Nat) (h:m < 9223372036854775808):(((wD n m:Nat):Int) / 9223372036854775808 != 0) = n:=by
  unfold wD;cases n <;> simp <;> omega
theorem wrapU {x:Int} (h:0≤x) (h2:x < 18446744073709551616):IntKind.u64.wrap x = x:=by
  rw [IntKind.wrap_u64];omega
theorem wrapI {x:Int} (h:-9223372036854775808≤x) (h2:x < 9223372036854775808):wrap64 x = x:=by
  unfold wrap64;omega
def sgG (B I:Nat) (m:Nat):Nat:=if m < B then m else if m < I then B + m % B else m % B
def epG (L:Int) (B I:Nat) (m:Nat):Int:=if m < B then L else if m < I then L + (m / B:Nat) - 1 else L
def sgD:=sgG 4503599627370496 9218868437227405312
def epD:=epG (-1074) 4503599627370496 9218868437227405312
theorem eqzD (n:Bool) (m:Nat) (h:m < 9223372036854775808):(FloatKind.f64.format.order (wD n m) 0 == some .eq) = (m == 0):=by
  by_cases c:9218868437227405312 < m
  · rw [ordD_nanl n m 0 c h];simp;omega
  · have e:FloatKind.f64.format.order (wD n m) 0 = some (compare (plz n m) 0):=ordD n false m 0 (by omega) (by omega)
    rw [e];by_cases d:m = 0
    · subst d;rw [cmp_eq (by unfold plz;split <;> rfl)];simp
    · have hd:(m == 0) = false:=by simp [d]
      rw [hd]
      cases n
      · rw [cmp_gt (by show (0:Int) < (m:Int);omega)];rfl
      · rw [cmp_lt (by show -(m:Int) < 0;omega)];rfl
def cmpz (x y:Int):Int:=if x < y then -1 else if y < x then 1 else 0

theorem plz_bd (n:Bool) (m:Nat):-(m:Int)≤plz n m∧plz n m≤m:=by unfold plz;cases n <;> simp <;> omega

def fD (p:Int):Nat:=wD (decide (p < 0)) p.natAbs
end Fb
end Go.Proofs.YtnileplkkmhdgaaGreatDoor
