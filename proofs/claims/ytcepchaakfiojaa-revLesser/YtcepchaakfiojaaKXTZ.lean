import Derived.Test.YtcepchaakfiojaaKRN
import Derived.Deep.RegionWith
set_option maxHeartbeats 1000000
set_option maxRecDepth 20000
namespace Go.Proofs.Ytcepchaakfiojaa
open Go.RowKit
theorem rbit_ (p:Option Addr) (c i j:Nat) (xs:List Int) (w:World) (hx:Arr w p xs) (hwx:Wd xs) (lx:xs.length≤16777216) (hi:i < xs.length) (hj:j < 32) :
    Calls Try.prog 69 #[.slice p xs.length c,.int .i64 ((32 * i + j:Nat):Int)] w fun e w'=>e = .returned (.int .u32 ((xs.getD i 0).toNat / 2 ^ j % 2:Nat))∧w' = w:=by
  obtain ⟨N,hN⟩:∃ N,N = xs.length:=⟨_,rfl⟩
  obtain ⟨b,off,rfl,hc⟩:=hx.at hi
  have e1:=hc i hi
  have wx:=hwx i
  obtain ⟨X,hX⟩:∃ X:Nat,(X:Int) = xs.getD i 0:=⟨(xs.getD i 0).toNat,by omega⟩
  rw [← hX] at e1 ⊢
  rw [Int.toNat_natCast]
  obtain ⟨k,hk⟩:∃ k,k = 32 * i + j:=⟨_,rfl⟩
  rw [← hk,← hN]
  have t0:¬ ((k:Int) < 0):=by omega
  have f1:(k:Int) / 32 = (i:Int):=by omega
  have f2:(k:Int) % 32 = (j:Int):=by omega
  have i0:(0:Int)≤(i:Int):=by omega
  have i1:(i:Int) < (N:Int):=by omega
  have i2:¬ ((N:Int)≤(i:Int)):=by omega
  have f3:IntKind.u64.wrap (j:Int) = (j:Int):=by rw [IntKind.wrap_u64];omega
  have f7:wrap64 (i:Int) = (i:Int):=by unfold wrap64;omega
  have f8:wrap64 (j:Int) = (j:Int):=by unfold wrap64;omega
  obtain ⟨Q,hQ⟩:∃ Q,Q = X / 2 ^ j:=⟨_,rfl⟩
  rw [← hQ]
  have hQX:Q≤X:=by rw [hQ];exact Nat.div_le_self _ _
  have f4:(X:Int) / 2 ^ j = (Q:Int):=by rw [hQ];push_cast;rfl
  have f5:bits BinOp.and IntKind.u32 (Q:Int) 1 = ((Q % 2:Nat):Int):=by
    have:=u32_and_nat Q 1 (by omega) (by omega)
    rw [Nat.and_one_is_mod] at this
    exact this
  obtain ⟨B,hB⟩:∃ B,B = Q % 2:=⟨_,rfl⟩
  rw [← hB] at f5 ⊢
  clear hx hwx lx hi hc wx hX hk hN hQ hQX hB
  go_enter Try.func69,Try.ntmps69
  go_wp2
  exact bodyPost_ret (v:=.int .u32 (B:Int)) (by simp [results,Try.results69,go_sem] <;> simp only [*]) rfl ⟨rfl,rfl⟩
theorem rzeros_ (p:Option Addr) (c:Nat) (xs:List Int) (w:World) (hx:Arr w p xs) (hwx:Wd xs) (lx:xs.length≤16777216) :
    Calls Try.prog 59 #[.slice p xs.length c] w fun e w'=>e = .returned (.int .i64 (ctz (val xs):Nat))∧w' = w:=by
  have h1:=words_ p c xs w hx (by omega)
  have lS:=tl_le xs
  obtain ⟨R,hR⟩:∃ R,R = ctz (val xs):=⟨_,rfl⟩
  rcases Nat.eq_zero_or_pos (tl xs) with h0 | h0
  · have e0:val xs = 0:=by rw [← val_tl xs,h0];rfl
    rw [h0] at h1
    rw [e0,ctz_zero]
    obtain ⟨N,hN⟩:∃ N,N = xs.length:=⟨_,rfl⟩
    rw [← hN] at h1 ⊢
    clear hx hwx lx lS h0 e0 hN hR
    go_enter Try.func59,Try.ntmps59
    go_wp2_with fail
    refine h1.mono ?_;rintro e w' ⟨rfl,hw'⟩;obtain rfl:=hw'.symm
    go_wp2
    exact bodyPost_ret (v:=.int .i64 0) (by simp [results,Try.results59,go_sem] <;> simp only [*]) rfl ⟨rfl,rfl⟩
  · have hbit:=fun (i j:Nat) hi hj=>rbit_ p c i j xs w hx hwx lx hi hj
    have htop:xs.getD (tl xs - 1) 0≠0:=by
      rcases (tl_spec xs xs.length).2 with e | e
      · exfalso;have:tl xs = 0:=e;omega
      · exact e
    obtain ⟨N,hN⟩:∃ N,N = xs.length:=⟨_,rfl⟩
    obtain ⟨S,hS⟩:∃ S,S = tl xs:=⟨_,rfl⟩
    rw [← hN,← hS] at h1
    rw [← hS] at htop h0 lS
    rw [← hR]
    rw [← hN] at hbit lS lx ⊢
    have t0:((S:Int) == 0) = false:=by simp;omega
    have HX:Hid (Arr w p xs∧Wd xs∧N = xs.length∧R = ctz (val xs)∧xs.getD (S - 1) 0≠0∧0 < S∧S≤N):=⟨hx,hwx,hN,hR,htop,h0,lS⟩
    have HB:Hid (∀ (i j:Nat),i < N→j < 32→Calls Try.prog 69 #[.slice p N c,.int .i64 ((32 * i + j:Nat):Int)] w fun e w'=>e = .returned (.int .u32 ((xs.getD i 0).toNat / 2 ^ j % 2:Nat))∧w' = w):=hbit
    clear hx hwx hN hR hbit htop h0 hS lS
    go_enter Try.func59,Try.ntmps59
    go_wp2_with fail
    refine h1.mono ?_;rintro e w' ⟨rfl,hw'⟩;obtain rfl:=hw'.symm
    clear h1
    go_wp2
    clear t0
    go_loop [3] (fun z=>∃ i:Nat,z = .int .i64 ((32 * i:Nat):Int)∧i < S∧∀ j,j < i→xs.getD j 0 = 0) (fun z=>32 * S - (intOf z).toNat)
    case atStart=>exact ⟨0,rfl,HX.out.2.2.2.2.2.1,fun j h=>by omega⟩
    case round =>
      obtain ⟨i,rfl,hi,hz⟩:=hrel
      obtain ⟨hx,hwx,hN,hR,htop,h0,lS⟩:=HX.out
      obtain ⟨b,off,rfl,hc⟩:=hx.at (k:=i) (by omega)
      have e1:=hc i (by omega)
      obtain ⟨k,hk⟩:∃ k,k = 32 * i:=⟨_,rfl⟩
      rw [← hk]
      have f1:(k:Int) / 32 = (i:Int):=by omega
      have i0:(0:Int)≤(i:Int):=by omega
      have i1:(i:Int) < (N:Int):=by omega
      have hkb:k≤536870912:=by omega
      by_cases cx:xs.getD i 0 = 0
      · have hi2:i + 1 < S:=by
          by_cases e:i = S - 1
          · subst e;exact absurd cx htop
          · omega
        have HZ:Hid ((∀ j,j < i + 1→xs.getD j 0 = 0)∧k = 32 * i):=⟨fun j hj=>by
          by_cases e:j = i
          · subst e;exact cx
          · exact hz j (by omega),hk⟩
        rw [cx] at e1
        clear HX HB hx hwx hN hR htop h0 lS hc cx hz hk
        go_wp2
        exact ⟨⟨i + 1,by have:=HZ.out.2;go_num,hi2,HZ.out.1⟩,by have:=HZ.out.2;simp [intOf];omega⟩
      · have wx:=hwx i
        obtain ⟨X,hX⟩:∃ X:Nat,(X:Int) = xs.getD i 0:=⟨(xs.getD i 0).toNat,by omega⟩
        have HX2:Hid (R = ctz (val xs)∧(∀ j,j < i→xs.getD j 0 = 0)∧i < xs.length∧(X:Int) = xs.getD i 0∧X≠0∧X < 4294967296∧k = 32 * i∧i < N):=⟨hR,hz,by omega,hX,by omega,by omega,hk,by omega⟩
        rw [← hX] at e1
        have t1:((X:Int) == 0) = false:=by simp;omega
        clear HX hx hwx hN hR htop h0 lS hc cx hz wx hX
        go_wp2
        clear e1 t1 f1 i0 i1 hk hi
        go_loop [3] (fun z=>∃ j:Nat,z = .int .i64 ((32 * i + j:Nat):Int)∧j < 32∧X % 2 ^ j = 0) (fun z=>32 * (i + 1) - (intOf z).toNat)
        case atStart=>exact ⟨0,by simp,by omega,by simp [Nat.mod_one]⟩
        case round =>
          obtain ⟨j,rfl,hj,hm⟩:=hrel
          obtain ⟨hR,hz,hi,hX,hX0,hX32,hk,hiN⟩:=HX2.out
          have h2:=HB.out i j hiN hj
          rw [← hX,Int.toNat_natCast] at h2
          have hXd:X = X / 2 ^ j * 2 ^ j:=by
            have:=Nat.div_add_mod X (2 ^ j)
            rw [hm,Nat.add_zero,Nat.mul_comm] at this
            exact this.symm
          obtain ⟨Q,hQ⟩:∃ Q,Q = X / 2 ^ j:=⟨_,rfl⟩
          rw [← hQ] at h2 hXd
          rcases (by omega:Q % 2 = 0∨Q % 2 = 1) with cq | cq
          · rw [cq] at h2
            have hj2:j + 1 < 32:=by
              by_cases e:j = 31
              · exfalso
                subst e
                have:Q = 0∨2≤Q:=by omega
                rcases this with q0 | q0
                · rw [q0] at hXd;simp at hXd;exact hX0 hXd
                · have:2 * 2 ^ 31≤Q * 2 ^ 31:=Nat.mul_le_mul_right _ q0
                  omega
              · omega
            have HM:Hid (X % 2 ^ (j + 1) = 0):=by
              show X % 2 ^ (j + 1) = 0
              rw [hXd,Nat.pow_succ,Nat.mul_comm Q,Nat.mul_mod_mul_left,cq,Nat.mul_zero]
            obtain ⟨z,hz2⟩:∃ z,z = 32 * i + j:=⟨_,rfl⟩
            rw [← hz2] at h2 ⊢
            have hzb:z≤536870944:=by omega
            have HZ:Hid (z = 32 * i + j):=hz2
            clear HX2 HB hR hz hi hX hX0 hX32 hk hiN hXd hQ cq hm hz2
            go_wp2_with fail
            refine h2.mono ?_;rintro e w' ⟨rfl,hw'⟩;obtain rfl:=hw'.symm
            clear h2
            go_wp2
            exact ⟨⟨j + 1,by have:=HZ.out;go_num,hj2,HM.out⟩,by have:=HZ.out;simp [intOf];omega⟩
          · rw [cq] at h2
            have hRv:=ctz_val xs i Q j hz hi cq hj (by rw [← hX,Int.toNat_natCast];exact hXd)
            rw [← hR] at hRv
            rw [← hRv] at h2 ⊢
            clear HX2 HB hR hz hi hX hX0 hX32 hk hiN hXd hQ cq hm hRv
            go_wp2_with fail
            refine h2.mono ?_;rintro e w' ⟨rfl,hw'⟩;obtain rfl:=hw'.symm
            clear h2
            go_wp2
            exact bodyPost_ret (v:=.int .i64 (R:Int)) (by simp [results,Try.results59,go_sem] <;> simp only [*]) rfl ⟨rfl,rfl⟩
def Two (w:World) (base:Nat) (l1 l2:List Int) (e:Value):Prop:=∃ p1 c1 p2 c2,e = .tuple #[.slice p1 l1.length c1,.slice p2 l2.length c2]∧Own w base (.slice p1 l1.length c1) l1∧Own w base (.slice p2 l2.length c2) l2∧∀ g,p1 = some ⟨g,0,none⟩→p2≠some ⟨g,0,none⟩
theorem Own.above {w:World} {base n c b:Nat} {xs:List Int} (h:Own w base (.slice (some ⟨b,0,none⟩) n c) xs):base≤b∧b < w.heap.size:=by
  rcases h.2 with h' | ⟨g,cap,cur,h1,h2,h3,h4⟩
  · have:=h'.1
    cases this
  · cases h1
    refine ⟨h2, ?_⟩
    by_cases c:b < w.heap.size
    · exact c
    · rw [Array.getElem?_eq_none (by omega)] at h3
      cases h3
theorem Own.len {w:World} {base:Nat} {v:Value} {xs:List Int} (h:Own w base v xs):∃ p c,v = .slice p xs.length c∧(p = none∨∃ b,p = some ⟨b,0,none⟩):=by
  obtain ⟨p,c,e,_⟩:=h.arr
  refine ⟨p,c,e, ?_⟩
  subst e
  rcases h.2 with h' | ⟨g,cap,cur,h1,h2⟩
  · have h3:=h'.1
    injection h3 with h4
    exact Or.inl h4
  · cases h1
    exact Or.inr ⟨g,rfl⟩
theorem rcmp_ (p q:Option Addr) (c d:Nat) (xs ys:List Int) (w:World) (hx:Arr w p xs) (hy:Arr w q ys) (hwx:Wd xs) (hwy:Wd ys) (lx:xs.length≤1099511627776) (ly:ys.length≤1099511627776) :
    Calls Try.prog 43 #[.slice p xs.length c,.slice q ys.length d] w fun e w'=>e = .returned (.int .i64 (cmpN (val xs) (val ys)))∧Kp w w':=by
  have h1:=words_ p c xs w hx lx
  have h2:=words_ q d ys w hy ly
  have lS:=tl_le xs
  have lT:=tl_le ys
  have hg:Kp w w:=Kp.refl w
  have dlt:=fun h=>cmpN_lt (tl_lt_val xs ys hwx hwy h)
  have dgt:=fun h=>cmpN_gt (tl_lt_val ys xs hwy hwx h)
  have deq:tl xs = tl ys→(∀ j,j < tl xs→xs.getD j 0 = ys.getD j 0)→cmpN (val xs) (val ys) = 0:=fun e h=>by
    apply cmpN_eq
    rw [← val_tl xs,← val_tl ys,← e]
    exact cmp_all xs ys _ h
  have tlt:∀ k,tl xs = tl ys→k < tl xs→xs.getD k 0 < ys.getD k 0→(∀ j,k < j→j < tl xs→xs.getD j 0 = ys.getD j 0)→cmpN (val xs) (val ys) = -1:=fun k e h1 h2 h3=>by
    apply cmpN_lt
    rw [← val_tl xs,← val_tl ys,← e]
    exact cmp_top xs ys hwx k (hwx k).1 h2 _ h1 h3
  have tgt:∀ k,tl xs = tl ys→k < tl xs→ys.getD k 0 < xs.getD k 0→(∀ j,k < j→j < tl xs→xs.getD j 0 = ys.getD j 0)→cmpN (val xs) (val ys) = 1:=fun k e h1 h2 h3=>by
    apply cmpN_gt
    rw [← val_tl xs,← val_tl ys,← e]
    exact cmp_top ys xs hwy k (hwy k).1 h2 _ h1 (fun j a b=>(h3 j a b).symm)
  obtain ⟨R,hR⟩:∃ R,R = cmpN (val xs) (val ys):=⟨_,rfl⟩
  obtain ⟨N,hN⟩:∃ N,N = xs.length:=⟨_,rfl⟩
  obtain ⟨M,hM⟩:∃ M,M = ys.length:=⟨_,rfl⟩
  obtain ⟨S,hS⟩:∃ S,S = tl xs:=⟨_,rfl⟩
  obtain ⟨T,hT⟩:∃ T,T = tl ys:=⟨_,rfl⟩
  rw [← hS,← hN] at h1 lS
  rw [← hT,← hM] at h2 lT
  rw [← hS,← hT,← hR] at dlt dgt deq tlt tgt
  rw [← hN,← hM,← hR]
  have HX:Hid (Arr w p xs):=hx
  have HY:Hid (Arr w q ys):=hy
  have HN:Hid (N = xs.length∧M = ys.length):=⟨hN,hM⟩
  have lS2:S≤1099511627776:=by omega
  clear hx hy hwx hwy lx ly hN hM hS hT hR
  rcases Nat.lt_trichotomy S T with cST | cST | cST
  · rw [dlt cST]
    have t1:(S:Int) < (T:Int):=by omega
    clear dlt dgt deq tlt tgt HX HY HN cST lS lT
    go_enter Try.func43,Try.ntmps43
    go_wp2_with fail
    refine h1.mono ?_;rintro e w' ⟨rfl,hw'⟩;obtain rfl:=hw'.symm
    go_wp2_with fail
    refine h2.mono ?_;rintro e w' ⟨rfl,hw'⟩;obtain rfl:=hw'.symm
    go_wp2
    exact bodyPost_ret (v:=.int .i64 (-1)) (by simp [results,Try.results43,go_sem] <;> simp only [*]) rfl ⟨rfl,hg⟩
  · subst cST
    have t1:¬ ((S:Int) < (S:Int)):=by omega
    have HD:Hid ((∀ j,j < S→xs.getD j 0 = ys.getD j 0)→R = 0):=deq rfl
    have HL:Hid (∀ k,k < S→xs.getD k 0 < ys.getD k 0→(∀ j,k < j→j < S→xs.getD j 0 = ys.getD j 0)→R = -1):=fun k=>tlt k rfl
    have HR:Hid (∀ k,k < S→ys.getD k 0 < xs.getD k 0→(∀ j,k < j→j < S→xs.getD j 0 = ys.getD j 0)→R = 1):=fun k=>tgt k rfl
    clear dlt dgt deq tlt tgt
    go_enter Try.func43,Try.ntmps43
    go_wp2_with fail
    refine h1.mono ?_;rintro e w' ⟨rfl,hw'⟩;obtain rfl:=hw'.symm
    go_wp2_with fail
    refine h2.mono ?_;rintro e w' ⟨rfl,hw'⟩;obtain rfl:=hw'.symm
    clear h1 h2
    go_wp2
    clear t1
    go_loopw [7] (fun i wr=>∃ (k:Nat) (z:Int),k≤S∧z = (k:Int) - 1∧i = .int .i64 z∧Kp w wr∧∀ j,k≤j→j < S→xs.getD j 0 = ys.getD j 0) (fun i _=>(intOf i + 1).toNat)
    case atStart=>exact ⟨S,_,Nat.le_refl _,rfl,by go_num,hg,fun j _ _=>by omega⟩
    case round =>
      clear hg
      obtain ⟨k,z,hk,hz,rfl,hg,hs⟩:=hrel
      rcases k with _ | k
      · have hR0:=HD.out (fun j hj=>hs j (Nat.zero_le _) hj)
        subst hR0
        have hz0:z = -1:=by omega
        subst hz0
        clear hz HX HY HN HD HL HR hs hk lS lT
        go_wp2
        exact bodyPost_ret (v:=.int .i64 (0)) (by simp [results,Try.results43,go_sem] <;> simp only [*]) rfl ⟨rfl,hg⟩
      · have hz0:z = (k:Int):=by omega
        subst hz0
        obtain ⟨hN,hM⟩:=HN.out
        obtain ⟨b,off,rfl,hc⟩:=HX.out.at (k:=k) (by omega)
        obtain ⟨b',off',rfl,hc'⟩:=HY.out.at (k:=k) (by omega)
        have e1:=kkeep hg (hc k (by omega))
        have e2:=kkeep hg (hc' k (by omega))
        have i0:(0:Int)≤(k:Int):=by omega
        have i1:(k:Int) < (N:Int):=by omega
        have i2:(k:Int) < (M:Int):=by omega
        have rl:=fun h=>HL.out k (by omega) h (fun j a b=>hs j (by omega) b)
        have rg:=fun h=>HR.out k (by omega) h (fun j a b=>hs j (by omega) b)
        have re:xs.getD k 0 = ys.getD k 0→∀ j,k≤j→j < S→xs.getD j 0 = ys.getD j 0:=fun h j a b=>by
          by_cases e:j = k
          · subst e;exact h
          · exact hs j (by omega) b
        obtain ⟨X,hX⟩:∃ X,X = xs.getD k 0:=⟨_,rfl⟩
        obtain ⟨Y,hY⟩:∃ Y,Y = ys.getD k 0:=⟨_,rfl⟩
        rw [← hX] at e1 rl rg re
        rw [← hY] at e2 rl rg re
        have hk2:k≤S:=by omega
        clear hc hc' HX HY HN HD HL HR hs hN hM hX hY hz hk lS lT
        rcases (by omega:X < Y∨Y < X∨X = Y) with cx | cx | cx
        · have hR1:=rl cx
          subst hR1
          clear rl rg re
          go_wp2
          refine wp_region_kp (by kernel_rfl) (by kernel_rfl) (fun ι _ G hG hall=>?_)
          have c0:∀ n,(G n).cell? ⟨b,off + k,none⟩ = some (.int .u32 X):=fun n=>kkeep (hG n) e1
          have c1:∀ n,(G n).cell? ⟨b',off' + k,none⟩ = some (.int .u32 Y):=fun n=>kkeep (hG n) e2
          repeat (go_big_quiet_step (fail))
          refine wpQuiet_nil ?_
          rintro _ ⟨nq,rfl⟩
          have gq:=hG nq
          replace e1:=kkeep gq e1
          replace e2:=kkeep gq e2
          replace hg:=hg.trans gq
          clear c0 c1 hall hG gq
          go_wp2
          exact bodyPost_ret (v:=.int .i64 (-1)) (by simp [results,Try.results43,go_sem] <;> simp only [*]) rfl ⟨rfl,hg⟩
        · have hR1:=rg cx
          subst hR1
          have cy:¬ (X < Y):=by omega
          clear rl rg re
          go_wp2
          refine wp_region_kp (by kernel_rfl) (by kernel_rfl) (fun ι _ G hG hall=>?_)
          have c0:∀ n,(G n).cell? ⟨b,off + k,none⟩ = some (.int .u32 X):=fun n=>kkeep (hG n) e1
          have c1:∀ n,(G n).cell? ⟨b',off' + k,none⟩ = some (.int .u32 Y):=fun n=>kkeep (hG n) e2
          repeat (go_big_quiet_step (fail))
          refine wpQuiet_nil ?_
          rintro _ ⟨nq,rfl⟩
          have gq:=hG nq
          replace e1:=kkeep gq e1
          replace e2:=kkeep gq e2
          replace hg:=hg.trans gq
          clear c0 c1 hall hG gq
          go_wp2
          refine wp_region_kp (by kernel_rfl) (by kernel_rfl) (fun ι2 _ G2 hG hall=>?_)
          have c0:∀ n,(G2 n).cell? ⟨b,off + k,none⟩ = some (.int .u32 X):=fun n=>kkeep (hG n) e1
          have c1:∀ n,(G2 n).cell? ⟨b',off' + k,none⟩ = some (.int .u32 Y):=fun n=>kkeep (hG n) e2
          repeat (go_big_quiet_step (fail))
          refine wpQuiet_nil ?_
          rintro _ ⟨nq2,rfl⟩
          have gq:=hG nq2
          replace e1:=kkeep gq e1
          replace e2:=kkeep gq e2
          replace hg:=hg.trans gq
          clear c0 c1 hall hG gq
          go_wp2
          exact bodyPost_ret (v:=.int .i64 (1)) (by simp [results,Try.results43,go_sem] <;> simp only [*]) rfl ⟨rfl,hg⟩
        · have hs2:=re cx
          subst cx
          have cy:¬ (X < X):=by omega
          clear rl rg re
          go_wp2
          refine wp_region_kp (by kernel_rfl) (by kernel_rfl) (fun ι _ G hG hall=>?_)
          have c0:∀ n,(G n).cell? ⟨b,off + k,none⟩ = some (.int .u32 X):=fun n=>kkeep (hG n) e1
          have c1:∀ n,(G n).cell? ⟨b',off' + k,none⟩ = some (.int .u32 X):=fun n=>kkeep (hG n) e2
          repeat (go_big_quiet_step (fail))
          refine wpQuiet_nil ?_
          rintro _ ⟨nq,rfl⟩
          have gq:=hG nq
          replace e1:=kkeep gq e1
          replace e2:=kkeep gq e2
          replace hg:=hg.trans gq
          clear c0 c1 hall hG gq
          go_wp2
          refine wp_region_kp (by kernel_rfl) (by kernel_rfl) (fun ι2 _ G2 hG hall=>?_)
          have c0:∀ n,(G2 n).cell? ⟨b,off + k,none⟩ = some (.int .u32 X):=fun n=>kkeep (hG n) e1
          have c1:∀ n,(G2 n).cell? ⟨b',off' + k,none⟩ = some (.int .u32 X):=fun n=>kkeep (hG n) e2
          repeat (go_big_quiet_step (fail))
          refine wpQuiet_nil ?_
          rintro _ ⟨nq2,rfl⟩
          have gq:=hG nq2
          replace e1:=kkeep gq e1
          replace e2:=kkeep gq e2
          replace hg:=hg.trans gq
          clear c0 c1 hall hG gq
          go_wp2
          exact ⟨⟨k,_,hk2,rfl,by go_num,hg,hs2⟩,by simp [intOf]⟩
  · rw [dgt cST]
    have t1:¬ ((S:Int) < (T:Int)):=by omega
    have t2:(T:Int) < (S:Int):=by omega
    clear dlt dgt deq tlt tgt HX HY HN cST lS lT
    go_enter Try.func43,Try.ntmps43
    go_wp2_with fail
    refine h1.mono ?_;rintro e w' ⟨rfl,hw'⟩;obtain rfl:=hw'.symm
    go_wp2_with fail
    refine h2.mono ?_;rintro e w' ⟨rfl,hw'⟩;obtain rfl:=hw'.symm
    go_wp2
    exact bodyPost_ret (v:=.int .i64 (1)) (by simp [results,Try.results43,go_sem] <;> simp only [*]) rfl ⟨rfl,hg⟩
end Go.Proofs.Ytcepchaakfiojaa
