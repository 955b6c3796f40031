import Derived.Test.YtnileplkkmhdgaaGreatDoorKNF
import Derived.Lib.LaidTab
set_option maxHeartbeats 1000000
set_option maxRecDepth 20000
namespace Go.Proofs.YtnileplkkmhdgaaGreatDoor
open Go.RowKit
theorem low_bit32 (o k:Nat) (ho:o % 2 = 1) (hx:o * 2 ^ k < 2 ^ 32):(o * 2 ^ k) &&& (2 ^ 32 - o * 2 ^ k) = 2 ^ k:=by
  have hp:=Nat.two_pow_pos k
  have hpos:0 < o * 2 ^ k:=Nat.mul_pos (by omega) hp
  apply Nat.eq_of_testBit_eq
  intro i
  rw [Nat.testBit_and,show 2 ^ 32 - o * 2 ^ k = 2 ^ 32 - ((o * 2 ^ k - 1) + 1) from by omega,Nat.testBit_two_pow_sub_succ (by omega),Nat.testBit_two_pow]
  have e1:(o * 2 ^ k).testBit i = (decide (i ≥ k) && o.testBit (i - k)):=by rw [← Nat.shiftLeft_eq,Nat.testBit_shiftLeft]
  have e2:(o * 2 ^ k - 1).testBit i = if i < k then (2 ^ k - 1).testBit i else (o - 1).testBit (i - k):=by
    rw [← Nat.testBit_two_pow_mul_add (o - 1) (by omega:2 ^ k - 1 < 2 ^ k) i]
    congr 1
    have:2 ^ k * (o - 1) + 2 ^ k = 2 ^ k * o:=by rw [← Nat.mul_succ];congr 1;omega
    rw [Nat.mul_comm o]
    omega
  have hk:k < 32:=by
    have h1:2 ^ k≤o * 2 ^ k:=Nat.le_mul_of_pos_left _ (by omega)
    exact (Nat.pow_lt_pow_iff_right (by decide:1 < 2)).1 (Nat.lt_of_le_of_lt h1 hx)
  rw [e1,e2]
  by_cases c:i < k
  · have:¬ i ≥ k:=by omega
    have h2:¬ k = i:=by omega
    simp [this,h2]
  · rw [if_neg c]
    obtain ⟨j,rfl⟩:∃ j,i = k + j:=⟨i - k,by omega⟩
    rw [show k + j - k = j from by omega]
    cases j with
    | zero =>
      have h1:(o - 1).testBit 0 = false:=by rw [Nat.testBit_zero];simp;omega
      have h2:o.testBit 0 = true:=by rw [Nat.testBit_zero];simp;omega
      simp [h1,h2,hk]
    | succ j =>
      have h1:(o - 1).testBit (j + 1) = o.testBit (j + 1):=by
        rw [Nat.testBit_succ,Nat.testBit_succ];congr 1;omega
      rw [h1]
      have h2:¬ k = k + (j + 1):=by omega
      cases o.testBit (j + 1) <;> simp

def tabL:List Int:=[0,1,28,2,29,14,24,3,30,22,20,15,25,17,4,8,31,27,13,23,21,19,16,7,26,12,18,6,11,5,10,9]
def Tab (w:World):Prop:=∀ i:Nat,i < 32→w.cell? ⟨2,i,none⟩ = some (.int .u8 (tabL.getD i 0))
theorem Tab.grown {w w':World} (h:Tab w) (g:Kp w w'):Tab w':=fun i hi=>kkeep g (h i hi)
theorem Tab.lt {w:World} (h:Tab w):2 < w.heap.size:=cell_lt (h 0 (by omega))
theorem Tab.kb {w w':World} {g:Nat} (h:Tab w) (k:Kb g w w') (hne:2≠g):Tab w':=fun i hi=>k.arr hne (h i hi)
theorem castj (P D M Q:Nat):((P * D % M / Q:Nat):Int) = (P:Int) * (D:Int) % (M:Int) / (Q:Int):=by push_cast;rfl
theorem tab_at:∀ k:Fin 32,2 ^ k.val * 125613361 % 4294967296 / 134217728 < 32∧tabL.getD (2 ^ k.val * 125613361 % 4294967296 / 134217728) 0 = (k.val:Int):=by decide +kernel
theorem tz32_ (o k:Nat) (ho:o % 2 = 1) (hx:o * 2 ^ k < 4294967296) (w:World) (hT:Tab w) :
    Calls Tryz.prog 170 #[.int .u32 ((o * 2 ^ k:Nat):Int)] w fun e w'=>e = .returned (.int .i64 (k:Int))∧w' = w:=by
  have hp:=Nat.two_pow_pos k
  have hpos:0 < o * 2 ^ k:=Nat.mul_pos (by omega) hp
  have h64:(2:Nat) ^ 32 = 4294967296:=by decide
  have hk:k < 32:=by
    have h1:2 ^ k≤o * 2 ^ k:=Nat.le_mul_of_pos_left _ (by omega)
    exact (Nat.pow_lt_pow_iff_right (by decide:1 < 2)).1 (Nat.lt_of_le_of_lt h1 (by rw [h64];exact hx))
  have hlow:=low_bit32 o k ho (by rw [h64];exact hx)
  rw [h64] at hlow
  obtain ⟨t1,t2⟩:=tab_at ⟨k,hk⟩
  simp only at t1 t2
  obtain ⟨x,hxx⟩:∃ x:Nat,x = o * 2 ^ k:=⟨_,rfl⟩
  rw [← hxx] at hlow hx hpos ⊢
  obtain ⟨P,hP⟩:∃ P:Nat,P = 2 ^ k:=⟨_,rfl⟩
  rw [← hP] at hlow t1 t2
  have hc:w.cell? ⟨2,P * 125613361 % 4294967296 / 134217728,none⟩ = some (.int .u8 (k:Int)):=by rw [hT _ t1,t2]
  have d1:((x:Int) == 0) = false:=by simp;omega
  have f1:IntKind.u32.wrap (-(x:Int)) = ((4294967296 - x:Nat):Int):=by rw [IntKind.wrap_u32];omega
  have f2:bits BinOp.and IntKind.u32 (x:Int) ((4294967296 - x:Nat):Int) = (P:Int):=by
    rw [u32_and_nat x (4294967296 - x) hx (by omega),hlow]
  obtain ⟨y,hy⟩:∃ y:Int,y = ((4294967296 - x:Nat):Int):=⟨_,rfl⟩
  rw [← hy] at f1 f2
  have f4:(0:Int)≤(P:Int) * 125613361 % 4294967296 / 134217728:=by omega
  have f5:(P:Int) * 125613361 % 4294967296 / 134217728 < 32:=by omega
  have f6:wrap64 (k:Int) = (k:Int):=by unfold wrap64;omega
  clear hy hP hxx hlow t1 t2 hpos hp h64 hx ho hT hk
  go_enter Tryz.func170,Tryz.ntmps170
  go_wp2
  exact bodyPost_ret (v:=.int .i64 (k:Int)) (by simp [results,Tryz.results170,go_sem] <;> simp only [*]) rfl ⟨rfl,rfl⟩
theorem nzeros_ (p:Option Addr) (c:Nat) (xs:List Int) (w:World) (hx:Arr w p xs) (hwx:Wd xs) (lx:xs.length≤16777216) (hT:Tab w) :
    Calls Tryz.prog 165 #[.slice p xs.length c] w fun e w'=>e = .returned (.int .i64 (ctz (val xs):Nat))∧w' = w:=by
  obtain ⟨N,hN⟩:∃ N,N = xs.length:=⟨_,rfl⟩
  obtain ⟨R,hR⟩:∃ R,R = ctz (val xs):=⟨_,rfl⟩
  have HX:Hid (Arr w p xs∧Wd xs∧N = xs.length∧R = ctz (val xs)∧Tab w):=⟨hx,hwx,hN,hR,hT⟩
  have lN:N≤16777216:=by omega
  rw [← hN,← hR]
  clear hx hwx lx hN hR hT
  go_enter Tryz.func165,Tryz.ntmps165
  go_wp2
  go_loop [6] (fun i=>∃ k:Nat,i = .int .i64 k∧k≤N∧∀ j,j < k→xs.getD j 0 = 0) (fun i=>N - (intOf i).toNat)
  case atStart=>exact ⟨0,rfl,Nat.zero_le _,fun j h=>by omega⟩
  case round =>
    obtain ⟨k,rfl,hk,hz⟩:=hrel
    obtain ⟨hx,hwx,hN,hR,hT⟩:=HX.out
    by_cases ck:k < N
    · obtain ⟨b,off,rfl,hc⟩:=hx.at (k:=k) (by omega)
      have e1:=hc k (by omega)
      have wx:=hwx k
      have i0:(0:Int)≤(k:Int):=by omega
      have i1:(k:Int) < (N:Int):=by omega
      by_cases cx:xs.getD k 0 = 0
      · have HZ:Hid (∀ j,j < k + 1→xs.getD j 0 = 0):=fun j hj=>by
          by_cases e:j = k
          · subst e;exact cx
          · exact hz j (by omega)
        rw [cx] at e1
        clear HX hx hwx hN hR hT hc wx cx hz
        go_wp2
        exact ⟨⟨k + 1,by go_num,by omega,HZ.out⟩,by simp [intOf];omega⟩
      · obtain ⟨o,s,ho,hs⟩:=odd_part (xs.getD k 0).toNat (by omega)
        have hlt:o * 2 ^ s < 4294967296:=by omega
        have hs32:s < 32:=by
          have h1:2 ^ s≤o * 2 ^ s:=Nat.le_mul_of_pos_left _ (by omega)
          exact (Nat.pow_lt_pow_iff_right (by decide:1 < 2)).1 (Nat.lt_of_le_of_lt h1 (Nat.lt_of_lt_of_le hlt (by decide)))
        have hRv:=ctz_val xs k o s hz (by omega) ho hs32 hs
        rw [← hR] at hRv
        have htz:=tz32_ o s ho hlt w hT
        have e2:xs.getD k 0 = ((o * 2 ^ s:Nat):Int):=by omega
        rw [e2] at e1
        obtain ⟨X,hX⟩:∃ X:Nat,X = o * 2 ^ s:=⟨_,rfl⟩
        rw [← hX] at e1 htz hs
        have t1:((X:Int) != 0) = true:=by simp;omega
        have f1:(k:Int) * 32 + (s:Int) = (R:Int):=by omega
        have hkb:k≤16777216:=by omega
        clear HX hx hwx hN hR hT hc wx cx hz ho hs hlt e2 hX hRv
        go_wp2_with (first | (go_at_call 170;refine htz.mono ?_;rintro e w' ⟨rfl,hw'⟩;obtain rfl:=hw'.symm))
        exact bodyPost_ret (v:=.int .i64 (R:Int)) (by simp [results,Tryz.results165,go_sem] <;> simp only [*]) rfl ⟨rfl,rfl⟩
    · have hv:val xs = 0:=val_zeros xs (fun j=>by
        by_cases e:j < k
        · exact hz j e
        · simp [List.getD,List.getElem?_eq_none (by omega:xs.length≤j)])
      rw [hv,ctz_zero] at hR
      subst hR
      have i1:¬ ((k:Int) < (N:Int)):=by omega
      clear HX hx hwx hN hT hz hv
      go_wp2
      exact bodyPost_ret (v:=.int .i64 0) (by simp [results,Tryz.results165,go_sem] <;> simp only [*]) rfl ⟨rfl,rfl⟩
theorem rbit_ (p:Option Addr) (c i j:Nat) (xs:List Int) (w:World) (hx:Arr w p xs) (hwx:Wd xs) (lx:xs.length≤16777216) (hi:i < xs.length) (hj:j < 32) :
    Calls Tryz.prog 85 #[.slice p xs.length c,.int .i64 ((32 * i + j:Nat):Int)] w fun e w'=>e = .returned (.int .u32 ((xs.getD i 0).toNat / 2 ^ j % 2:Nat))∧w' = w:=by
  obtain ⟨N,hN⟩:∃ N,N = xs.length:=⟨_,rfl⟩
  obtain ⟨b,off,rfl,hc⟩:=hx.at hi
  have e1:=hc i hi
  have wx:=hwx i
  obtain ⟨X,hX⟩:∃ X:Nat,(X:Int) = xs.getD i 0:=⟨(xs.getD i 0).toNat,by omega⟩
  rw [← hX] at e1 ⊢
  rw [Int.toNat_natCast]
  obtain ⟨k,hk⟩:∃ k,k = 32 * i + j:=⟨_,rfl⟩
  rw [← hk,← hN]
  have t0:¬ ((k:Int) < 0):=by omega
  have f1:(k:Int) / 32 = (i:Int):=by omega
  have f2:(k:Int) % 32 = (j:Int):=by omega
  have i0:(0:Int)≤(i:Int):=by omega
  have i1:(i:Int) < (N:Int):=by omega
  have i2:¬ ((N:Int)≤(i:Int)):=by omega
  have f3:IntKind.u64.wrap (j:Int) = (j:Int):=by rw [IntKind.wrap_u64];omega
  have f7:wrap64 (i:Int) = (i:Int):=by unfold wrap64;omega
  have f8:wrap64 (j:Int) = (j:Int):=by unfold wrap64;omega
  obtain ⟨Q,hQ⟩:∃ Q,Q = X / 2 ^ j:=⟨_,rfl⟩
  rw [← hQ]
  have hQX:Q≤X:=by rw [hQ];exact Nat.div_le_self _ _
  have f4:(X:Int) / 2 ^ j = (Q:Int):=by rw [hQ];push_cast;rfl
  have f5:bits BinOp.and IntKind.u32 (Q:Int) 1 = ((Q % 2:Nat):Int):=by
    have:=u32_and_nat Q 1 (by omega) (by omega)
    rw [Nat.and_one_is_mod] at this
    exact this
  obtain ⟨B,hB⟩:∃ B,B = Q % 2:=⟨_,rfl⟩
  rw [← hB] at f5 ⊢
  clear hx hwx lx hi hc wx hX hk hN hQ hQX hB
  go_enter Tryz.func85,Tryz.ntmps85
  go_wp2
  exact bodyPost_ret (v:=.int .u32 (B:Int)) (by simp [results,Tryz.results85,go_sem] <;> simp only [*]) rfl ⟨rfl,rfl⟩
theorem rzeros_ (p:Option Addr) (c:Nat) (xs:List Int) (w:World) (hx:Arr w p xs) (hwx:Wd xs) (lx:xs.length≤16777216) :
    Calls Tryz.prog 53 #[.slice p xs.length c] w fun e w'=>e = .returned (.int .i64 (ctz (val xs):Nat))∧w' = w:=by
  have h1:=words_ p c xs w hx (by omega)
  have lS:=tl_le xs
  obtain ⟨R,hR⟩:∃ R,R = ctz (val xs):=⟨_,rfl⟩
  rcases Nat.eq_zero_or_pos (tl xs) with h0 | h0
  · have e0:val xs = 0:=by rw [← val_tl xs,h0];rfl
    rw [h0] at h1
    rw [e0,ctz_zero]
    obtain ⟨N,hN⟩:∃ N,N = xs.length:=⟨_,rfl⟩
    rw [← hN] at h1 ⊢
    clear hx hwx lx lS h0 e0 hN hR
    go_enter Tryz.func53,Tryz.ntmps53
    go_wp2_with fail
    refine h1.mono ?_;rintro e w' ⟨rfl,hw'⟩;obtain rfl:=hw'.symm
    go_wp2
    exact bodyPost_ret (v:=.int .i64 0) (by simp [results,Tryz.results53,go_sem] <;> simp only [*]) rfl ⟨rfl,rfl⟩
  · have hbit:=fun (i j:Nat) hi hj=>rbit_ p c i j xs w hx hwx lx hi hj
    have htop:xs.getD (tl xs - 1) 0≠0:=by
      rcases (tl_spec xs xs.length).2 with e | e
      · exfalso;have:tl xs = 0:=e;omega
      · exact e
    obtain ⟨N,hN⟩:∃ N,N = xs.length:=⟨_,rfl⟩
    obtain ⟨S,hS⟩:∃ S,S = tl xs:=⟨_,rfl⟩
    rw [← hN,← hS] at h1
    rw [← hS] at htop h0 lS
    rw [← hR]
    rw [← hN] at hbit lS lx ⊢
    have t0:((S:Int) == 0) = false:=by simp;omega
    have HX:Hid (Arr w p xs∧Wd xs∧N = xs.length∧R = ctz (val xs)∧xs.getD (S - 1) 0≠0∧0 < S∧S≤N):=⟨hx,hwx,hN,hR,htop,h0,lS⟩
    have HB:Hid (∀ (i j:Nat),i < N→j < 32→Calls Tryz.prog 85 #[.slice p N c,.int .i64 ((32 * i + j:Nat):Int)] w fun e w'=>e = .returned (.int .u32 ((xs.getD i 0).toNat / 2 ^ j % 2:Nat))∧w' = w):=hbit
    clear hx hwx hN hR hbit htop h0 hS lS
    go_enter Tryz.func53,Tryz.ntmps53
    go_wp2_with fail
    refine h1.mono ?_;rintro e w' ⟨rfl,hw'⟩;obtain rfl:=hw'.symm
    clear h1
    go_wp2
    clear t0
    go_loop [3] (fun z=>∃ i:Nat,z = .int .i64 ((32 * i:Nat):Int)∧i < S∧∀ j,j < i→xs.getD j 0 = 0) (fun z=>32 * S - (intOf z).toNat)
    case atStart=>exact ⟨0,rfl,HX.out.2.2.2.2.2.1,fun j h=>by omega⟩
    case round =>
      obtain ⟨i,rfl,hi,hz⟩:=hrel
      obtain ⟨hx,hwx,hN,hR,htop,h0,lS⟩:=HX.out
      obtain ⟨b,off,rfl,hc⟩:=hx.at (k:=i) (by omega)
      have e1:=hc i (by omega)
      obtain ⟨k,hk⟩:∃ k,k = 32 * i:=⟨_,rfl⟩
      rw [← hk]
      have f1:(k:Int) / 32 = (i:Int):=by omega
      have i0:(0:Int)≤(i:Int):=by omega
      have i1:(i:Int) < (N:Int):=by omega
      have hkb:k≤536870912:=by omega
      by_cases cx:xs.getD i 0 = 0
      · have hi2:i + 1 < S:=by
          by_cases e:i = S - 1
          · subst e;exact absurd cx htop
          · omega
        have HZ:Hid ((∀ j,j < i + 1→xs.getD j 0 = 0)∧k = 32 * i):=⟨fun j hj=>by
          by_cases e:j = i
          · subst e;exact cx
          · exact hz j (by omega),hk⟩
        rw [cx] at e1
        clear HX HB hx hwx hN hR htop h0 lS hc cx hz hk
        go_wp2
        exact ⟨⟨i + 1,by have:=HZ.out.2;go_num,hi2,HZ.out.1⟩,by have:=HZ.out.2;simp [intOf];omega⟩
      · have wx:=hwx i
        obtain ⟨X,hX⟩:∃ X:Nat,(X:Int) = xs.getD i 0:=⟨(xs.getD i 0).toNat,by omega⟩
        have HX2:Hid (R = ctz (val xs)∧(∀ j,j < i→xs.getD j 0 = 0)∧i < xs.length∧(X:Int) = xs.getD i 0∧X≠0∧X < 4294967296∧k = 32 * i∧i < N):=⟨hR,hz,by omega,hX,by omega,by omega,hk,by omega⟩
        rw [← hX] at e1
        have t1:((X:Int) == 0) = false:=by simp;omega
        clear HX hx hwx hN hR htop h0 lS hc cx hz wx hX
        go_wp2
        clear e1 t1 f1 i0 i1 hk hi
        go_loop [3] (fun z=>∃ j:Nat,z = .int .i64 ((32 * i + j:Nat):Int)∧j < 32∧X % 2 ^ j = 0) (fun z=>32 * (i + 1) - (intOf z).toNat)
        case atStart=>exact ⟨0,by simp,by omega,by simp [Nat.mod_one]⟩
        case round =>
          obtain ⟨j,rfl,hj,hm⟩:=hrel
          obtain ⟨hR,hz,hi,hX,hX0,hX32,hk,hiN⟩:=HX2.out
          have h2:=HB.out i j hiN hj
          rw [← hX,Int.toNat_natCast] at h2
          have hXd:X = X / 2 ^ j * 2 ^ j:=by
            have:=Nat.div_add_mod X (2 ^ j)
            rw [hm,Nat.add_zero,Nat.mul_comm] at this
            exact this.symm
          obtain ⟨Q,hQ⟩:∃ Q,Q = X / 2 ^ j:=⟨_,rfl⟩
          rw [← hQ] at h2 hXd
          rcases (by omega:Q % 2 = 0∨Q % 2 = 1) with cq | cq
          · rw [cq] at h2
            have hj2:j + 1 < 32:=by
              by_cases e:j = 31
              · exfalso
                subst e
                have:Q = 0∨2≤Q:=by omega
                rcases this with q0 | q0
                · rw [q0] at hXd;simp at hXd;exact hX0 hXd
                · have:2 * 2 ^ 31≤Q * 2 ^ 31:=Nat.mul_le_mul_right _ q0
                  omega
              · omega
            have HM:Hid (X % 2 ^ (j + 1) = 0):=by
              show X % 2 ^ (j + 1) = 0
              rw [hXd,Nat.pow_succ,Nat.mul_comm Q,Nat.mul_mod_mul_left,cq,Nat.mul_zero]
            obtain ⟨z,hz2⟩:∃ z,z = 32 * i + j:=⟨_,rfl⟩
            rw [← hz2] at h2 ⊢
            have hzb:z≤536870944:=by omega
            have HZ:Hid (z = 32 * i + j):=hz2
            clear HX2 HB hR hz hi hX hX0 hX32 hk hiN hXd hQ cq hm hz2
            go_wp2_with fail
            refine h2.mono ?_;rintro e w' ⟨rfl,hw'⟩;obtain rfl:=hw'.symm
            clear h2
            go_wp2
            exact ⟨⟨j + 1,by have:=HZ.out;go_num,hj2,HM.out⟩,by have:=HZ.out;simp [intOf];omega⟩
          · rw [cq] at h2
            have hRv:=ctz_val xs i Q j hz hi cq hj (by rw [← hX,Int.toNat_natCast];exact hXd)
            rw [← hR] at hRv
            rw [← hRv] at h2 ⊢
            clear HX2 HB hR hz hi hX hX0 hX32 hk hiN hXd hQ cq hm hRv
            go_wp2_with fail
            refine h2.mono ?_;rintro e w' ⟨rfl,hw'⟩;obtain rfl:=hw'.symm
            clear h2
            go_wp2
            exact bodyPost_ret (v:=.int .i64 (R:Int)) (by simp [results,Tryz.results53,go_sem] <;> simp only [*]) rfl ⟨rfl,rfl⟩
end Go.Proofs.YtnileplkkmhdgaaGreatDoor
