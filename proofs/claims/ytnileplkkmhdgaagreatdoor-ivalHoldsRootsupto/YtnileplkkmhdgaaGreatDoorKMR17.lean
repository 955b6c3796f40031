import Derived.Test.YtnileplkkmhdgaaGreatDoorKH2DQ
import Derived.Test.YtnileplkkmhdgaaGreatDoorKMR18
set_option maxHeartbeats 1000000
namespace Go.Proofs.YtnileplkkmhdgaaGreatDoor
open Go.RowKit
theorem vV_lt (m:Nat) (hm:m≤9110782046170513408) (K:Nat) (hK:K = 2075):Fq.vV Ieee.double m < 2 ^ K:=by
  unfold Fq.vV Fq.mM Fq.eE
  rw [Fq.binD]
  by_cases c:m < 4503599627370496
  · rw [if_pos c,if_pos c,Nat.pow_zero,Nat.mul_one]
    have h1:2 ^ 53≤2 ^ K:=Nat.pow_le_pow_right (by omega) (by omega)
    rw [show (2:Nat) ^ 53 = 9007199254740992 from by decide] at h1
    omega
  · rw [if_neg c,if_neg c]
    obtain ⟨e,he⟩:∃ e,e = m / 4503599627370496 - 1:=⟨_,rfl⟩
    have he2:e≤2022:=by omega
    rw [← he]
    have h1:2 ^ 53 * 2 ^ e≤2 ^ K:=by rw [← Nat.pow_add];exact Nat.pow_le_pow_right (by omega) (by omega)
    have h2:(4503599627370496 + m % 4503599627370496) * 2 ^ e < 2 ^ 53 * 2 ^ e:=Nat.mul_lt_mul_of_pos_right (by rw [show (2:Nat) ^ 53 = 9007199254740992 from by decide];omega) (Nat.two_pow_pos _)
    exact Nat.lt_of_lt_of_le h2 h1
theorem iv_abs (n:Bool) (m:Nat):(Iv n m).natAbs = Fq.vV Ieee.double m:=by
  unfold Iv;cases n <;> simp
theorem of_sum (d:Int) (ng:Bool) (c:Nat) (low V:Int) (h1:-1074≤low) (h2:low≤2048) (hb:blen c≤524288) (hV:V = if ng then -((c * 2 ^ (low + 1074).toNat:Nat):Int) else ((c * 2 ^ (low + 1074).toNat:Nat):Int)):ofW d ng c low = sumW d V:=by
  have hconf:conf low = low:=by unfold conf;omega
  have hpm:∀ g R,pW 9223372036854775808 g R = mdW g R:=fun g R=>rfl
  unfold ofW
  rw [if_neg (by omega),hconf,hpm]
  have hrv:∀ dd,rV dd 53 c 1 (low + 1074) = rU dd 53 (c * 2 ^ (low + 1074).toNat) 1:=fun dd=>by
    unfold rV;rw [show (-(low + 1074)).toNat = 0 from by omega,Nat.pow_zero,Nat.mul_one]
  rw [hrv]
  obtain ⟨C,hC⟩:∃ C,C = c * 2 ^ (low + 1074).toNat:=⟨_,rfl⟩
  rw [← hC] at hV ⊢
  unfold sumW
  by_cases c0:C = 0
  · have hV0:V = 0:=by rw [hV,c0];cases ng <;> simp
    rw [if_pos hV0,c0]
    have h0:rU (dirN ng d) 53 0 1 = 0:=by
      unfold rU rS rR
      rw [Nat.zero_div,Nat.zero_mod,upw_none _ _ _ (by rw [Nat.one_mul];exact Nat.two_pow_pos _)]
      simp
    rw [h0]
    unfold finU
    rw [blen_zero,if_pos (by omega),rgU_zero]
    rfl
  · have hVn:V≠0:=by rw [hV];cases ng <;> simp <;> omega
    have hneg:decide (V < 0) = ng:=by rw [hV];cases ng <;> simp <;> omega
    have hab:V.natAbs = C:=by rw [hV];cases ng <;> simp
    rw [if_neg hVn,hneg,hab]
theorem sum_signs (s t:Bool) (a b:Nat) (ea eb low:Int) (ea1:-1074≤ea) (eb1:-1074≤eb) (hlow:low = min ea eb) (n n':Bool) (m m':Nat) (hs:s = (n && !(m == 0))) (ht:t = (n' && !(m' == 0))) (ha:a * 2 ^ (ea + 1074).toNat = Fq.vV Ieee.double m) (hb:b * 2 ^ (eb + 1074).toNat = Fq.vV Ieee.double m') (A B:Nat) (hA:A = a * 2 ^ (ea - low).toNat) (hB:B = b * 2 ^ (eb - low).toNat) :
    (s = t→Iv n m + Iv n' m' = if s then -(((A + B) * 2 ^ (low + 1074).toNat:Nat):Int) else (((A + B) * 2 ^ (low + 1074).toNat:Nat):Int))∧(s≠t→B≤A→Iv n m + Iv n' m' = if s then -(((A - B) * 2 ^ (low + 1074).toNat:Nat):Int) else (((A - B) * 2 ^ (low + 1074).toNat:Nat):Int))∧(s≠t→A < B→Iv n m + Iv n' m' = if t then -(((B - A) * 2 ^ (low + 1074).toNat:Nat):Int) else (((B - A) * 2 ^ (low + 1074).toNat:Nat):Int)):=by
  obtain ⟨P,hP⟩:∃ P,P = 2 ^ (low + 1074).toNat:=⟨_,rfl⟩
  have e1:A * P = Fq.vV Ieee.double m:=by
    rw [hA,hP,← ha,Nat.mul_assoc,← Nat.pow_add];congr 2;omega
  have e2:B * P = Fq.vV Ieee.double m':=by
    rw [hB,hP,← hb,Nat.mul_assoc,← Nat.pow_add];congr 2;omega
  have i1:Iv n m = if s then -((A * P:Nat):Int) else ((A * P:Nat):Int):=by
    rw [e1,hs];unfold Iv
    by_cases c:m = 0
    · rw [c,(vV_pos 0).2 rfl];cases n <;> simp
    · have:(m == 0) = false:=by simp [c]
      rw [this];cases n <;> simp
  have i2:Iv n' m' = if t then -((B * P:Nat):Int) else ((B * P:Nat):Int):=by
    rw [e2,ht];unfold Iv
    by_cases c:m' = 0
    · rw [c,(vV_pos 0).2 rfl];cases n' <;> simp
    · have:(m' == 0) = false:=by simp [c]
      rw [this];cases n' <;> simp
  rw [← hP,i1,i2,Nat.add_mul,Nat.sub_mul,Nat.sub_mul]
  obtain ⟨X,hX⟩:∃ X,X = A * P:=⟨_,rfl⟩
  obtain ⟨Y,hY⟩:∃ Y,Y = B * P:=⟨_,rfl⟩
  have hle:B≤A→Y≤X:=fun h=>by rw [hX,hY];exact Nat.mul_le_mul_right _ h
  have hlt:A < B→X≤Y:=fun h=>by rw [hX,hY];exact Nat.mul_le_mul_right _ (Nat.le_of_lt h)
  rw [← hX,← hY]
  clear hX hY e1 e2 i1 i2
  refine ⟨fun h=>?_,fun h hh=>?_,fun h hh=>?_⟩
  · subst h;cases s <;> simp <;> omega
  · have:=hle hh
    cases s <;> cases t <;> simp at h ⊢ <;> omega
  · have:=hlt hh
    cases s <;> cases t <;> simp at h ⊢ <;> omega
theorem two_between {E e a b:Nat} (h1:2 ^ a * 2 ^ e < 2 ^ E) (h2:2 ^ E < 2 ^ b * 2 ^ e):a + e < E∧E < b + e:=by
  rw [← Nat.pow_add] at h1 h2
  exact ⟨(Nat.pow_lt_pow_iff_right (by decide)).1 h1,(Nat.pow_lt_pow_iff_right (by decide)).1 h2⟩
theorem p26:(2:Nat) ^ 26 = 67108864:=by decide
theorem p27:(2:Nat) ^ 27 = 134217728:=by decide
theorem p28:(2:Nat) ^ 28 = 268435456:=by decide
theorem p29:(2:Nat) ^ 29 = 536870912:=by decide
theorem unit_two {T U:Nat} (hT:∃ E,T = 2 ^ E) (hU:∃ e,U = 2 ^ e) (h1:67108864 * U < T) (h2:T < 536870912 * U):T = 134217728 * U∨T = 268435456 * U:=by
  obtain ⟨E,rfl⟩:=hT
  obtain ⟨e,rfl⟩:=hU
  rw [← p26] at h1
  rw [← p29] at h2
  obtain ⟨a,b⟩:=two_between h1 h2
  have:E = 27 + e∨E = 28 + e:=by omega
  rcases this with h | h
  · left;rw [h,Nat.pow_add,p27]
  · right;rw [h,Nat.pow_add,p28]
theorem fl_of {v:Int} {U:Nat} (hU:∃ e,U = 2 ^ e) (h1:(U:Int) ∣ v) (h2:v.natAbs≤9007199254740992 * U):FL v:=by
  obtain ⟨e,rfl⟩:=hU
  exact ⟨e,by rw [← castpow];exact h1,h2⟩
theorem two_times {U:Nat} (hU:∃ e,U = 2 ^ e) (k:Nat):∃ e,2 ^ k * U = 2 ^ e:=by
  obtain ⟨e,rfl⟩:=hU
  exact ⟨k + e,(Nat.pow_add 2 k e).symm⟩
theorem veltkamp_pos {x c g h l:Int} {T0 T1 T2 T3 U:Nat} (hU:∃ e,U = 2 ^ e) (hx:(U:Int) ∣ x) (h1:4503599627370496 * (U:Int)≤x) (h2:x < 9007199254740992 * (U:Int))
    (k0:Nr (134217729 * x) c T0) (k1:Nr (c - x) g T1) (k2:Nr (c - g) h T2) (k3:Nr (x - h) l T3) :
    ((134217728 * U:Nat):Int) ∣ h∧l = x - h∧(U:Int) ∣ l∧l.natAbs≤67108864 * U:=by
  have hUp:0 < U:=by obtain ⟨e,rfl⟩:=hU;exact Nat.two_pow_pos e
  have hx2:x≤9007199254740992 * (U:Int) - U:=by
    have hd:(U:Int) ∣ (9007199254740992 * (U:Int) - x):=Int.dvd_sub (Int.dvd_mul_left _ _) hx
    by_cases c:x≤9007199254740992 * (U:Int) - U
    · exact c
    · have:=dvd_small (by omega) hd (by omega)
      omega
  -- the unit of c
  have hT0:T0 = 134217728 * U∨T0 = 268435456 * U:=by
    have a1:=k0.lt
    have a2:=k0.low
    refine unit_two k0.two hU (by omega) ?_
    rcases a2 with a2 | a2 <;> omega
  have hKc:((134217728 * U:Nat):Int) ∣ c:=by
    have:=k0.dvd
    rcases hT0 with e | e
    · rw [← e];exact this
    · refine Int.dvd_trans ?_ this
      rw [e];exact ⟨2,by omega⟩
  have hv1:604462909807314587353088 * (U:Int)≤c - x∧c - x≤1208925819614629174706176 * (U:Int):=by
    have a1:=k0.near
    have a2:=k0.low
    by_cases cx:x = 4503599627370496 * (U:Int)
    · have hf:FL (134217729 * x):=by
        refine fl_of (two_times hU 52) ?_ ?_
        · rw [cx,show (2:Nat) ^ 52 = 4503599627370496 from by decide];exact ⟨134217729,by omega⟩
        · rw [cx,show (2:Nat) ^ 52 = 4503599627370496 from by decide];omega
      have:=k0.fix hf
      omega
    · have hx3:4503599627370496 * (U:Int) + U≤x:=by
        have hd:(U:Int) ∣ (x - 4503599627370496 * (U:Int)):=Int.dvd_sub hx (Int.dvd_mul_left _ _)
        by_cases c:4503599627370496 * (U:Int) + U≤x
        · exact c
        · have:=dvd_small (by omega) hd (by omega)
          omega
      rcases hT0 with e | e <;> rw [e] at a1 a2 <;> omega
  have hg:((134217728 * U:Nat):Int) ∣ g∧(c - x - g).natAbs≤67108864 * U:=by
    by_cases cv:c - x = 1208925819614629174706176 * (U:Int)
    · have hf:FL (c - x):=by
        refine fl_of (two_times hU 52) ?_ ?_
        · rw [cv,show (2:Nat) ^ 52 = 4503599627370496 from by decide];exact ⟨268435456,by omega⟩
        · rw [cv,show (2:Nat) ^ 52 = 4503599627370496 from by decide];omega
      have:=k1.fix hf
      rw [this]
      exact ⟨by rw [cv];exact ⟨9007199254740992,by omega⟩,by omega⟩
    · have a1:=k1.lt
      have a2:=k1.low
      have a3:=k1.near
      have hT1:T1 = 134217728 * U∨T1 = 268435456 * U:=by
        refine unit_two k1.two hU (by omega) ?_
        rcases a2 with a2 | a2 <;> omega
      have hT:T1 = 134217728 * U:=by
        rcases hT1 with e | e
        · exact e
        · exfalso;rcases a2 with a2 | a2 <;> omega
      exact ⟨by rw [← hT];exact k1.dvd,by omega⟩
  have hKv:((134217728 * U:Nat):Int) ∣ (c - g):=Int.dvd_sub hKc hg.1
  have hg2:=hg.2
  have hh:h = c - g:=k2.fix (fl_of (U:=134217728 * U) (by rw [← p27];exact two_times hU 27) hKv (by omega))
  have hUK:(U:Int) ∣ ((134217728 * U:Nat):Int):=⟨134217728,by omega⟩
  have hUl:(U:Int) ∣ (x - h):=Int.dvd_sub hx (Int.dvd_trans hUK (by rw [hh];exact hKv))
  have hl:l = x - h:=k3.fix (fl_of hU hUl (by omega))
  exact ⟨by rw [hh];exact hKv,hl,by rw [hl];exact hUl,by omega⟩
theorem unit_52 {T W:Nat} (hT:∃ E,T = 2 ^ E) (hW:∃ e,W = 2 ^ e) (h1:2251799813685248 * W < T) (h2:T < 18014398509481984 * W):T = 4503599627370496 * W∨T = 9007199254740992 * W:=by
  obtain ⟨E,rfl⟩:=hT
  obtain ⟨e,rfl⟩:=hW
  rw [show (2251799813685248:Nat) = 2 ^ 51 from by decide] at h1
  rw [show (18014398509481984:Nat) = 2 ^ 54 from by decide] at h2
  obtain ⟨a,b⟩:=two_between h1 h2
  have:E = 52 + e∨E = 53 + e:=by omega
  rcases this with h | h
  · left;rw [h,Nat.pow_add]
  · right;rw [h,Nat.pow_add]
theorem dekker {P wp wq wr wt s r1 r2 r3 o:Int} {T0 T1 T2 T3 T4 W:Nat} (hW:∃ e,W = 2 ^ e) (dp:(W:Int) ∣ wp) (dq:(W:Int) ∣ wq) (dr:(W:Int) ∣ wr) (dt:(W:Int) ∣ wt)
    (bp:wp.natAbs≤4503599627370496 * W) (bq:wq.natAbs≤4503599627370496 * W) (br:wr.natAbs≤4503599627370496 * W) (bt:wt.natAbs≤4503599627370496 * W)
    (hP:P = 18014398509481984 * wp + 134217728 * (wq + wr) + wt) (h1:20282409603651670423947251286016 * W≤P.natAbs) (h2:P.natAbs < 81129638414606681695789005144064 * W)
    (k0:Nr P s T0) (k1:Nr (s - 18014398509481984 * wp) r1 T1) (k2:Nr (r1 - 134217728 * wq) r2 T2) (k3:Nr (r2 - 134217728 * wr) r3 T3) (k4:Nr (wt - r3) o T4):o = P - s:=by
  have hWp:0 < W:=by obtain ⟨e,rfl⟩:=hW;exact Nat.two_pow_pos e
  have hT0:T0 = 4503599627370496 * W∨T0 = 9007199254740992 * W:=by
    have a1:=k0.lt
    have a2:=k0.low
    refine unit_52 k0.two hW (by omega) ?_
    rcases a2 with a2 | a2 <;> omega
  have hds:((4503599627370496 * W:Nat):Int) ∣ s:=by
    have:=k0.dvd
    rcases hT0 with e | e
    · rw [← e];exact this
    · refine Int.dvd_trans ?_ this
      rw [e];exact ⟨2,by omega⟩
  have hn:(P - s).natAbs≤4503599627370496 * W:=by
    have:=k0.near
    rcases hT0 with e | e <;> omega
  have hp52:(4503599627370496:Nat) = 2 ^ 52:=by decide
  have hp27:(134217728:Nat) = 2 ^ 27:=by decide
  have mul52:((4503599627370496 * W:Nat):Int) ∣ 18014398509481984 * wp:=by
    obtain ⟨z,rfl⟩:=dp
    exact ⟨4 * z,by rw [Int.natCast_mul];simp only [Int.mul_assoc,Int.mul_left_comm (W:Int)];omega⟩
  have w27:∀ v:Int,(W:Int) ∣ v→((134217728 * W:Nat):Int) ∣ 134217728 * v:=fun v hv=>by
    rw [Int.natCast_mul];exact Int.mul_dvd_mul (Int.dvd_refl _) hv
  have d27:((134217728 * W:Nat):Int) ∣ ((4503599627370496 * W:Nat):Int):=⟨33554432,by omega⟩
  have d0:(W:Int) ∣ ((134217728 * W:Nat):Int):=⟨134217728,by omega⟩
  have e1:r1 = s - 18014398509481984 * wp:=k1.fix (fl_of (U:=4503599627370496 * W) (by rw [hp52];exact two_times hW 52) (Int.dvd_sub hds mul52) (by omega))
  have e2:r2 = r1 - 134217728 * wq:=k2.fix (fl_of (U:=134217728 * W) (by rw [hp27];exact two_times hW 27) (Int.dvd_sub (by rw [e1];exact Int.dvd_trans d27 (Int.dvd_sub hds mul52)) (w27 _ dq)) (by omega))
  have g2:((134217728 * W:Nat):Int) ∣ r2:=by
    rw [e2,e1];exact Int.dvd_sub (Int.dvd_trans d27 (Int.dvd_sub hds mul52)) (w27 _ dq)
  have e3:r3 = r2 - 134217728 * wr:=k3.fix (fl_of (U:=134217728 * W) (by rw [hp27];exact two_times hW 27) (Int.dvd_sub g2 (w27 _ dr)) (by omega))
  have g3:(W:Int) ∣ r3:=by
    rw [e3];exact Int.dvd_trans d0 (Int.dvd_sub g2 (w27 _ dr))
  have e4:o = wt - r3:=k4.fix (fl_of hW (Int.dvd_sub dt g3) (by omega))
  omega
theorem veltkamp {x c g h l:Int} {T0 T1 T2 T3 U:Nat} (hU:∃ e,U = 2 ^ e) (hx:(U:Int) ∣ x) (h1:4503599627370496 * U≤x.natAbs) (h2:x.natAbs < 9007199254740992 * U)
    (k0:Nr (134217729 * x) c T0) (k1:Nr (c - x) g T1) (k2:Nr (c - g) h T2) (k3:Nr (x - h) l T3) :
    ((134217728 * U:Nat):Int) ∣ h∧l = x - h∧(U:Int) ∣ l∧l.natAbs≤67108864 * U:=by
  rcases Int.lt_or_le x 0 with c0 | c0
  · have n0:=k0.neg
    have n1:=k1.neg
    have n2:=k2.neg
    have n3:=k3.neg
    rw [show -(134217729 * x) = 134217729 * (-x) from by omega] at n0
    rw [show -(c - x) = -c - -x from by omega] at n1
    rw [show -(c - g) = -c - -g from by omega] at n2
    rw [show -(x - h) = -x - -h from by omega] at n3
    obtain ⟨a,b,e,f⟩:=veltkamp_pos hU (Int.dvd_neg.2 hx) (by omega) (by omega) n0 n1 n2 n3
    exact ⟨Int.dvd_neg.1 a,by omega,Int.dvd_neg.1 e,by omega⟩
  · exact veltkamp_pos hU hx (by omega) (by omega) k0 k1 k2 k3
theorem near_shift (neg:Bool) (a j:Nat) (p:Int) (ha:a≠0):Ieee.double.nearest neg (a * 2 ^ j) p = Ieee.double.nearest neg a (p + j):=by
  have hp:=Nat.two_pow_pos j
  have hm:a * 2 ^ j≠0:=fun h=>by rcases Nat.mul_eq_zero.1 h with h | h <;> omega
  have hlg:(a * 2 ^ j).log2 = a.log2 + j:=by
    have h1:=blen_mul a j ha
    rw [log2_blen _ hm,log2_blen _ ha] at h1
    omega
  rw [nearest_def _ _ _ _ hm,nearest_def _ _ _ _ ha,lpD9,fbD9,Fq.binD,Fq.infD,hlg]
  obtain ⟨last,hl⟩:∃ last:Int,last = max (p + ((a.log2 + j:Nat):Int) - ((52:Nat):Int)) (-1074):=⟨_,rfl⟩
  have hl2:max (p + (j:Int) + ((a.log2:Nat):Int) - ((52:Nat):Int)) (-1074) = last:=by rw [hl];congr 1;omega
  rw [← hl,hl2]
  congr 3
  rw [cut_even,cut_even,Nat.shiftLeft_eq,Nat.shiftLeft_eq]
  by_cases c1:last≤p
  · rw [show (last - p).toNat = 0 from by omega,show (last - (p + (j:Int))).toNat = 0 from by omega,show (p + (j:Int) - last).toNat = j + (p - last).toNat from by omega,Nat.pow_add,Nat.mul_assoc]
  · rw [show (p - last).toNat = 0 from by omega,Nat.pow_zero,Nat.mul_one]
    by_cases c2:last≤p + (j:Int)
    · rw [show (last - (p + (j:Int))).toNat = 0 from by omega]
      obtain ⟨c,hc⟩:∃ c,c = (last - p).toNat:=⟨_,rfl⟩
      rw [← hc,show (p + (j:Int) - last).toNat = j - c from by omega]
      have e1:a * 2 ^ j = a * 2 ^ (j - c) * 2 ^ c:=by rw [Nat.mul_assoc,← Nat.pow_add];congr 2;omega
      rw [e1,Nat.mul_div_cancel _ (Nat.two_pow_pos c),Nat.mul_mod_left,upw_none _ _ _ (Nat.two_pow_pos c),Nat.pow_zero,Nat.div_one,Nat.mod_one,upw_none _ _ _ (by omega)]
    · rw [show (p + (j:Int) - last).toNat = 0 from by omega,Nat.pow_zero,Nat.mul_one]
      obtain ⟨c,hc⟩:∃ c,c = (last - (p + (j:Int))).toNat:=⟨_,rfl⟩
      rw [← hc,show (last - p).toNat = c + j from by omega,Nat.pow_add,Nat.mul_div_mul_right _ _ hp,Nat.mul_mod_mul_right,upw_scale _ _ _ _ _ hp]
theorem near_v (neg:Bool) (mag P K t:Nat) (place:Int) (ht:(t:Int) = place + 1074 + K) (hP:mag * 2 ^ t = P * 2 ^ K):Ieee.double.nearest neg mag place = Fq.wD neg (finU 53 2098 9218868437227405311 9218868437227405312 0 (rU 0 53 P 1)):=by
  by_cases c:K≤t
  · have e:mag * 2 ^ (t - K) = P:=by
      have h1:mag * 2 ^ (t - K) * 2 ^ K = P * 2 ^ K:=by
        rw [Nat.mul_assoc,← Nat.pow_add,show t - K + K = t from by omega,hP]
      exact Nat.eq_of_mul_eq_mul_right (Nat.two_pow_pos K) h1
    rw [near_w neg mag place (t - K) (by omega),e]
  · have e:mag = P * 2 ^ (K - t):=by
      have h1:mag * 2 ^ t = P * 2 ^ (K - t) * 2 ^ t:=by
        rw [hP,Nat.mul_assoc,← Nat.pow_add,show K - t + t = K from by omega]
      exact Nat.eq_of_mul_eq_mul_right (Nat.two_pow_pos t) h1
    by_cases c0:P = 0
    · have h0:mag = 0:=by rw [e,c0,Nat.zero_mul]
      have h1:=near_w neg 0 (-1074) 0 (by omega)
      rw [Nat.zero_mul] at h1
      rw [c0,← h1,h0]
      unfold Ieee.Format.nearest
      rw [if_pos rfl,if_pos rfl]
    · rw [e,near_shift neg P (K - t) place c0,near_w neg P _ 0 (by omega),Nat.pow_zero,Nat.mul_one]
theorem mul_v (n n':Bool) (m m':Nat) (h:m < 9218868437227405312) (h':m' < 9218868437227405312) (K:Nat) (V:Int) (hK:K = 1074) (hV:V * ((2 ^ K:Nat):Int) = Iv n m * Iv n' m') :
    FloatKind.f64.format.mul (Fq.wD n m) (Fq.wD n' m') = some (Fq.wD (if V = 0 then n ^^ n' else decide (V < 0)) (finU 53 2098 9218868437227405311 9218868437227405312 0 (rU 0 53 V.natAbs 1))):=by
  have hab:V.natAbs * 2 ^ K = Fq.vV Ieee.double m * Fq.vV Ieee.double m':=by
    have h1:=congrArg Int.natAbs hV
    rw [Int.natAbs_mul,Int.natAbs_mul,Int.natAbs_natCast,iv_abs,iv_abs] at h1
    exact h1
  have hsg:V≠0→(n ^^ n') = decide (V < 0):=fun hv=>by
    have hp:(0:Int) < ((2 ^ K:Nat):Int):=by have:=Nat.two_pow_pos K;omega
    obtain ⟨q,hq⟩:∃ q:Int,q = ((2 ^ K:Nat):Int):=⟨_,rfl⟩
    rw [← hq] at hV hp
    have hz:V * q≠0:=fun h=>by rcases Int.mul_eq_zero.1 h with h | h <;> omega
    have hs:V < 0 ↔ V * q < 0:=by
      constructor
      · intro h;exact Int.mul_neg_of_neg_of_pos h hp
      · intro h
        rcases Int.lt_or_le V 0 with c | c
        · exact c
        · have:=Int.mul_nonneg c (Int.le_of_lt hp);omega
    obtain ⟨x,hx⟩:∃ x:Int,x = ((Fq.vV Ieee.double m:Nat):Int):=⟨_,rfl⟩
    obtain ⟨y,hy⟩:∃ y:Int,y = ((Fq.vV Ieee.double m':Nat):Int):=⟨_,rfl⟩
    have hxy:0≤x * y:=Int.mul_nonneg (by omega) (by omega)
    unfold Iv at hV
    rw [← hx,← hy] at hV
    cases n <;> cases n' <;> simp only [if_true,if_false,Bool.false_eq_true,Int.neg_mul,Int.mul_neg,Int.neg_neg] at hV <;> by_cases c:V < 0 <;> simp [c] <;> omega
  show Ieee.double.mul _ _ = _
  unfold Ieee.Format.mul
  rw [Fq.read_fin _ _ (by rw [Fq.rgD n m (by omega),Fq.infD];exact h),Fq.read_fin _ _ (by rw [Fq.rgD n' m' (by omega),Fq.infD];exact h'),Fq.rgD n m (by omega),Fq.rgD n' m' (by omega),Fq.ngD n m (by omega),Fq.ngD n' m' (by omega),lpD9]
  unfold Ieee.Datum.product
  unfold Fq.vV at hab
  obtain ⟨e,hee⟩:∃ e,e = Fq.eE Ieee.double m:=⟨_,rfl⟩
  obtain ⟨e',hee'⟩:∃ e',e' = Fq.eE Ieee.double m':=⟨_,rfl⟩
  obtain ⟨a,ha⟩:∃ a,a = Fq.mM Ieee.double m:=⟨_,rfl⟩
  obtain ⟨a',ha'⟩:∃ a',a' = Fq.mM Ieee.double m':=⟨_,rfl⟩
  rw [← hee,← hee',← ha,← ha'] at hab
  rw [← hee,← hee',← ha,← ha']
  simp only [Option.map_some]
  unfold Ieee.Format.write
  simp only
  rw [near_v (n ^^ n') (a * a') V.natAbs K (e + e') _ (by omega) (by rw [hab,Nat.pow_add];simp only [Nat.mul_assoc,Nat.mul_left_comm])]
  congr 2
  by_cases c:V = 0
  · rw [if_pos c]
  · rw [if_neg c];exact hsg c
theorem mild_unit (n:Bool) (m:Nat) (h1:2580562586483294208≤m) (h2:m≤6633802251116740608):∃ e:Nat,572≤e∧e≤1472∧((2 ^ e:Nat):Int) ∣ Iv n m∧4503599627370496 * 2 ^ e≤(Iv n m).natAbs∧(Iv n m).natAbs < 9007199254740992 * 2 ^ e:=by
  have hb:¬ m < 4503599627370496:=by omega
  refine ⟨m / 4503599627370496 - 1,by omega,by omega, ?_⟩
  have hv:(Iv n m).natAbs = (4503599627370496 + m % 4503599627370496) * 2 ^ (m / 4503599627370496 - 1):=by
    rw [iv_abs];unfold Fq.vV Fq.mM Fq.eE;rw [Fq.binD,if_neg hb,if_neg hb]
  refine ⟨Int.dvd_natAbs.1 (by rw [hv];exact Int.natCast_dvd_natCast.2 (Nat.dvd_mul_left _ _)), ?_, ?_⟩
  · rw [hv];exact Nat.mul_le_mul_right _ (by omega)
  · rw [hv];exact Nat.mul_lt_mul_of_pos_right (by omega) (Nat.two_pow_pos _)
theorem iv_c27 (K:Nat) (hK:K = 1074):Iv false 4728779608772575232 = 134217729 * ((2 ^ K:Nat):Int):=by
  unfold Iv Fq.vV Fq.mM Fq.eE
  rw [Fq.binD,if_neg (by decide),if_neg (by decide),if_neg (by decide),show (4728779608772575232:Nat) / 4503599627370496 - 1 = 1049 from by decide,show (4503599627370496:Nat) + 4728779608772575232 % 4503599627370496 = 134217729 * 2 ^ 25 from by decide]
  obtain ⟨j,hj⟩:∃ j,j = 1049:=⟨_,rfl⟩
  rw [← hj,Nat.mul_assoc,← Nat.pow_add,show 25 + j = K from by omega]
  simp
theorem half_words (n:Bool) (m:Nat) (hm:m < 9218868437227405312) (e:Nat) (he:e≤1960) (hU:((2 ^ e:Nat):Int) ∣ Iv n m) (b1:4503599627370496 * 2 ^ e≤(Iv n m).natAbs) (b2:(Iv n m).natAbs < 9007199254740992 * 2 ^ e) :
    ∃ (c g h l:Bool) (cr gr hr lr:Nat),FloatKind.f64.format.mul (Fq.wD n m) (Fq.wD false 4728779608772575232) = some (Fq.wD c cr)∧FloatKind.f64.format.sub (Fq.wD c cr) (Fq.wD n m) = some (Fq.wD g gr)∧FloatKind.f64.format.sub (Fq.wD c cr) (Fq.wD g gr) = some (Fq.wD h hr)∧FloatKind.f64.format.sub (Fq.wD n m) (Fq.wD h hr) = some (Fq.wD l lr)∧hr < 9218868437227405312∧lr < 9218868437227405312∧∃ a b:Int,Iv h hr = 134217728 * (((2 ^ e:Nat):Int) * a)∧Iv l lr = ((2 ^ e:Nat):Int) * b∧Iv n m = Iv h hr + Iv l lr∧a.natAbs≤67108864∧b.natAbs≤67108864:=by
  obtain ⟨K,hK⟩:∃ K,K = 2020:=⟨_,rfl⟩
  obtain ⟨L,hL⟩:∃ L,L = 1074:=⟨_,rfl⟩
  have hx:(Iv n m).natAbs < 2 ^ K:=by
    refine Nat.lt_of_lt_of_le b2 ?_
    rw [show (9007199254740992:Nat) = 2 ^ 53 from by decide,← Nat.pow_add]
    exact Nat.pow_le_pow_right (by decide) (by omega)
  obtain ⟨X,hX⟩:∃ X,X = Iv n m:=⟨_,rfl⟩
  have hv:(134217729 * X).natAbs < 2 ^ (K + 28):=by
    rw [← hX] at hx
    rw [Nat.pow_add,show (2:Nat) ^ 28 = 268435456 from by decide]
    omega
  obtain ⟨c,cr,T0,w0,r0,n0,_,_,l0⟩:=op_nr (134217729 * X) (n ^^ false) (K + 28) (by omega) (by omega) hv
  obtain ⟨g,gr,T1,w1,r1,n1,_,_,l1⟩:=op_nr (Iv c cr - Iv n m) (c && !n) (K + 30) (by omega) (by omega) (lt_add9 l0 hx (by omega)).2
  obtain ⟨h,hr,T2,w2,r2,n2,_,_,l2⟩:=op_nr (Iv c cr - Iv g gr) (c && !g) (K + 32) (by omega) (by omega) (lt_sub9 l0 l1 (by omega)).2
  obtain ⟨l,lr,T3,w3,r3,n3,_,_,l3⟩:=op_nr (Iv n m - Iv h hr) (n && !h) (K + 34) (by omega) (by omega) (lt_sub9 hx l2 (by omega)).2
  rw [← hX] at n1 n3 hU b1 b2
  obtain ⟨q1,q2,q3,q4⟩:=veltkamp ⟨e,rfl⟩ hU b1 b2 n0 n1 n2 n3
  obtain ⟨U,hUU⟩:∃ U,U = 2 ^ e:=⟨_,rfl⟩
  have hUp:0 < U:=by rw [hUU];exact Nat.two_pow_pos e
  refine ⟨c,g,h,l,cr,gr,hr,lr, ?_, ?_, ?_, ?_,r2,r3, ?_⟩
  · rw [mul_v n false m _ hm (by decide) L (134217729 * X) hL (by rw [iv_c27 L hL,← hX];simp only [Int.mul_assoc,Int.mul_left_comm]),w0]
  · rw [sub_w c n cr m r0 hm _ rfl,w1]
  · rw [sub_w c g cr gr r0 r1 _ rfl,w2]
  · rw [sub_w n h m hr hm r2 _ rfl,w3]
  · rw [← hUU] at q1 q3 q4 b2 ⊢
    obtain ⟨a,ha⟩:=q1
    obtain ⟨b,hb⟩:=q3
    rw [Int.natCast_mul,Int.mul_assoc] at ha
    refine ⟨a,b,ha,hb,by rw [← hX];omega, ?_, ?_⟩
    · have hh:(Iv h hr).natAbs < 9007199254740992 * U + 67108864 * U + 1:=by omega
      have h5:(Iv h hr).natAbs = 134217728 * (U * a.natAbs):=by rw [ha,Int.natAbs_mul,Int.natAbs_mul];rfl
      rw [h5] at hh
      rcases Nat.lt_or_ge 67108864 a.natAbs with c5 | c5
      · exfalso
        have:=Nat.mul_le_mul_left U c5
        omega
      · exact c5
    · rw [hb,Int.natAbs_mul,Int.natAbs_natCast] at q4
      rcases Nat.lt_or_ge 67108864 b.natAbs with c5 | c5
      · exfalso
        have:=Nat.mul_le_mul_left U c5
        omega
      · exact c5
theorem prod_eq {U U' W Z:Int} (hW:U * U' = W * Z) (c c' a a':Int):c * (U * a) * (c' * (U' * a')) = c * c' * (W * (a * a')) * Z:=by
  have e:c * (U * a) * (c' * (U' * a')) = c * c' * (U * U' * (a * a')):=by ac_rfl
  rw [e,hW];ac_rfl
theorem part_le {a b:Int} {W:Nat} (ha:a.natAbs≤67108864) (hb:b.natAbs≤67108864):((W:Int) * (a * b)).natAbs≤4503599627370496 * W:=by
  have h:=Nat.mul_le_mul ha hb
  rw [Int.natAbs_mul,Int.natAbs_mul,Int.natAbs_natCast,Nat.mul_comm]
  exact Nat.mul_le_mul_right _ (by omega)
theorem sq_rearr (c U V:Nat):c * U * (c * V) = c * c * (U * V):=by ac_rfl
theorem prod_words (n n' h l h' l':Bool) (m m' hr lr hr' lr' e e':Nat) (hm:m < 9218868437227405312) (hm':m' < 9218868437227405312) (f1:hr < 9218868437227405312) (f2:lr < 9218868437227405312) (f3:hr' < 9218868437227405312) (f4:lr' < 9218868437227405312)
    (e1:1074≤e + e') (e2:e + e'≤2944) (b1:4503599627370496 * 2 ^ e≤(Iv n m).natAbs) (b2:(Iv n m).natAbs < 9007199254740992 * 2 ^ e) (b3:4503599627370496 * 2 ^ e'≤(Iv n' m').natAbs) (b4:(Iv n' m').natAbs < 9007199254740992 * 2 ^ e')
    (a b a' b':Int) (ga:Iv h hr = 134217728 * (((2 ^ e:Nat):Int) * a)) (gb:Iv l lr = ((2 ^ e:Nat):Int) * b) (gx:Iv n m = Iv h hr + Iv l lr) (la:a.natAbs≤67108864) (lb:b.natAbs≤67108864)
    (ga':Iv h' hr' = 134217728 * (((2 ^ e':Nat):Int) * a')) (gb':Iv l' lr' = ((2 ^ e':Nat):Int) * b') (gx':Iv n' m' = Iv h' hr' + Iv l' lr') (la':a'.natAbs≤67108864) (lb':b'.natAbs≤67108864) (L:Nat) (hL:L = 1074) :
    ∃ (V:Int) (s p1 q1 p2 q2 p3 q3 p4 o:Bool) (r pr1 qr1 pr2 qr2 pr3 qr3 pr4 ro K:Nat),V * ((2 ^ L:Nat):Int) = Iv n m * Iv n' m'∧FloatKind.f64.format.mul (Fq.wD n m) (Fq.wD n' m') = some (Fq.wD s r)∧FloatKind.f64.format.mul (Fq.wD h hr) (Fq.wD h' hr') = some (Fq.wD p1 pr1)∧FloatKind.f64.format.sub (Fq.wD s r) (Fq.wD p1 pr1) = some (Fq.wD q1 qr1)
      ∧ FloatKind.f64.format.mul (Fq.wD l lr) (Fq.wD h' hr') = some (Fq.wD p2 pr2)∧FloatKind.f64.format.sub (Fq.wD q1 qr1) (Fq.wD p2 pr2) = some (Fq.wD q2 qr2)∧FloatKind.f64.format.mul (Fq.wD h hr) (Fq.wD l' lr') = some (Fq.wD p3 pr3)∧FloatKind.f64.format.sub (Fq.wD q2 qr2) (Fq.wD p3 pr3) = some (Fq.wD q3 qr3)
      ∧ FloatKind.f64.format.mul (Fq.wD l lr) (Fq.wD l' lr') = some (Fq.wD p4 pr4)∧FloatKind.f64.format.sub (Fq.wD p4 pr4) (Fq.wD q3 qr3) = some (Fq.wD o ro)∧r < 9218868437227405312∧ro < 9218868437227405312∧r = rgU 53 (rU 0 53 V.natAbs 1)∧s = (if V = 0 then n ^^ n' else decide (V < 0))∧Iv o ro = V - Iv s r∧53≤K∧K≤2096∧V.natAbs < 2 ^ K:=by
  obtain ⟨W,hW⟩:∃ W,W = 2 ^ (e + e' - L):=⟨_,rfl⟩
  obtain ⟨K,hK,hK9⟩:∃ K,1979≤K∧K≤1981:=⟨1980,by decide,by decide⟩
  obtain ⟨Z,hZ⟩:∃ Z:Nat,Z = 2 ^ L:=⟨_,rfl⟩
  have hZp:0 < Z:=by rw [hZ];exact Nat.two_pow_pos L
  have hWp:0 < W:=by rw [hW];exact Nat.two_pow_pos _
  have hWZ:2 ^ e * 2 ^ e' = W * Z:=by rw [hW,hZ,← Nat.pow_add,← Nat.pow_add];congr 1;omega
  have hWK:162259276829213363391578010288128 * W≤2 ^ K:=by
    rw [hW,show (162259276829213363391578010288128:Nat) = 2 ^ 107 from by decide,← Nat.pow_add]
    exact Nat.pow_le_pow_right (by decide) (by omega)
  have hWi:((2 ^ e:Nat):Int) * ((2 ^ e':Nat):Int) = (W:Int) * (Z:Int):=by rw [← Int.natCast_mul,← Int.natCast_mul,hWZ]
  obtain ⟨wp,hwp⟩:∃ x:Int,x = (W:Int) * (a * a'):=⟨_,rfl⟩
  obtain ⟨wq,hwq⟩:∃ x:Int,x = (W:Int) * (b * a'):=⟨_,rfl⟩
  obtain ⟨wr,hwr⟩:∃ x:Int,x = (W:Int) * (a * b'):=⟨_,rfl⟩
  obtain ⟨wt,hwt⟩:∃ x:Int,x = (W:Int) * (b * b'):=⟨_,rfl⟩
  have z1:18014398509481984 * wp * (Z:Int) = Iv h hr * Iv h' hr':=by
    rw [ga,ga',prod_eq hWi,← hwp,show (134217728:Int) * 134217728 = 18014398509481984 from by decide]
  have z2:134217728 * wq * (Z:Int) = Iv l lr * Iv h' hr':=by
    have:=prod_eq hWi 1 134217728 b a'
    rw [Int.one_mul,Int.one_mul] at this
    rw [gb,ga',this,← hwq]
  have z3:134217728 * wr * (Z:Int) = Iv h hr * Iv l' lr':=by
    have:=prod_eq hWi 134217728 1 a b'
    rw [Int.one_mul,Int.mul_one] at this
    rw [ga,gb',this,← hwr]
  have z4:wt * (Z:Int) = Iv l lr * Iv l' lr':=by
    have:=prod_eq hWi 1 1 b b'
    rw [Int.one_mul,Int.one_mul,Int.one_mul,Int.one_mul] at this
    rw [gb,gb',this,← hwt]
  obtain ⟨V,hV⟩:∃ V:Int,V = 18014398509481984 * wp + 134217728 * (wq + wr) + wt:=⟨_,rfl⟩
  have zV:V * (Z:Int) = Iv n m * Iv n' m':=by
    rw [gx,gx',Int.add_mul,Int.mul_add,Int.mul_add,← z1,← z2,← z3,← z4,hV]
    simp only [Int.add_mul,Int.mul_add]
    omega
  have bp:wp.natAbs≤4503599627370496 * W:=by rw [hwp];exact part_le la la'
  have bq:wq.natAbs≤4503599627370496 * W:=by rw [hwq];exact part_le lb la'
  have br:wr.natAbs≤4503599627370496 * W:=by rw [hwr];exact part_le la lb'
  have bt:wt.natAbs≤4503599627370496 * W:=by rw [hwt];exact part_le lb lb'
  have dp:(W:Int) ∣ wp:=by rw [hwp];exact Int.dvd_mul_right _ _
  have dq:(W:Int) ∣ wq:=by rw [hwq];exact Int.dvd_mul_right _ _
  have dr:(W:Int) ∣ wr:=by rw [hwr];exact Int.dvd_mul_right _ _
  have dt:(W:Int) ∣ wt:=by rw [hwt];exact Int.dvd_mul_right _ _
  have hab:V.natAbs * Z = (Iv n m).natAbs * (Iv n' m').natAbs:=by
    have h1:=congrArg Int.natAbs zV
    rw [Int.natAbs_mul,Int.natAbs_mul,Int.natAbs_natCast] at h1
    exact h1
  have v1:20282409603651670423947251286016 * W≤V.natAbs:=by
    have h1:=Nat.mul_le_mul b1 b3
    rw [← hab,sq_rearr,show (4503599627370496:Nat) * 4503599627370496 = 20282409603651670423947251286016 from by decide,hWZ,← Nat.mul_assoc] at h1
    exact Nat.le_of_mul_le_mul_right h1 hZp
  have v2:V.natAbs < 81129638414606681695789005144064 * W:=by
    have h1:=Nat.mul_lt_mul'' b2 b4
    rw [← hab,sq_rearr,show (9007199254740992:Nat) * 9007199254740992 = 81129638414606681695789005144064 from by decide,hWZ,← Nat.mul_assoc] at h1
    exact Nat.lt_of_mul_lt_mul_right h1
  have hW2:∃ x,W = 2 ^ x:=⟨_,hW⟩
  clear hab hWi hWZ b1 b2 b3 b4 hW hwp hwq hwr hwt la lb la' lb' ga gb ga' gb' gx gx' e1 e2
  have kV:V.natAbs < 2 ^ K:=by omega
  have k1:(18014398509481984 * wp).natAbs < 2 ^ K:=by omega
  have k2:(134217728 * wq).natAbs < 2 ^ K:=by omega
  have k3:(134217728 * wr).natAbs < 2 ^ K:=by omega
  have k4:wt.natAbs < 2 ^ K:=by omega
  have g1:FL (18014398509481984 * wp):=fl_of (U:=18014398509481984 * W) (by rw [show (18014398509481984:Nat) = 2 ^ 54 from by decide];exact two_times hW2 54) (by rw [Int.natCast_mul];exact Int.mul_dvd_mul (Int.dvd_refl _) dp) (by omega)
  have g2:FL (134217728 * wq):=fl_of (U:=134217728 * W) (by rw [← p27];exact two_times hW2 27) (by rw [Int.natCast_mul];exact Int.mul_dvd_mul (Int.dvd_refl _) dq) (by omega)
  have g3:FL (134217728 * wr):=fl_of (U:=134217728 * W) (by rw [← p27];exact two_times hW2 27) (by rw [Int.natCast_mul];exact Int.mul_dvd_mul (Int.dvd_refl _) dr) (by omega)
  have g4:FL (wt):=fl_of hW2 dt (by omega)
  clear hWK
  obtain ⟨s,r,T0,w0,r0,n0,e0,e0',l0⟩:=op_nr V (n ^^ n') K (by omega) (by omega) kV
  obtain ⟨p1,pr1,T1,w1,r1,n1,_,_,_⟩:=op_nr (18014398509481984 * wp) (h ^^ h') K (by omega) (by omega) k1
  obtain ⟨p2,pr2,T2,w2,r2,n2,_,_,_⟩:=op_nr (134217728 * wq) (l ^^ h') K (by omega) (by omega) k2
  obtain ⟨p3,pr3,T3,w3,r3,n3,_,_,_⟩:=op_nr (134217728 * wr) (h ^^ l') K (by omega) (by omega) k3
  obtain ⟨p4,pr4,T4,w4,r4,n4,_,_,_⟩:=op_nr wt (l ^^ l') K (by omega) (by omega) k4
  have x1:Iv p1 pr1 = 18014398509481984 * wp:=n1.fix g1
  have x2:Iv p2 pr2 = 134217728 * wq:=n2.fix g2
  have x3:Iv p3 pr3 = 134217728 * wr:=n3.fix g3
  have x4:Iv p4 pr4 = wt:=n4.fix g4
  have y1:(Iv p1 pr1).natAbs < 2 ^ K:=by rw [x1];exact k1
  have y2:(Iv p2 pr2).natAbs < 2 ^ K:=by rw [x2];exact k2
  have y3:(Iv p3 pr3).natAbs < 2 ^ K:=by rw [x3];exact k3
  have y4:(Iv p4 pr4).natAbs < 2 ^ K:=by rw [x4];exact k4
  obtain ⟨q1,qr1,T5,w5,r5,n5,_,_,l5⟩:=op_nr (Iv s r - Iv p1 pr1) (s && !p1) (K + 2) (by omega) (by omega) (lt_add9 l0 y1 (by omega)).2
  obtain ⟨q2,qr2,T6,w6,r6,n6,_,_,l6⟩:=op_nr (Iv q1 qr1 - Iv p2 pr2) (q1 && !p2) (K + 4) (by omega) (by omega) (lt_add9 l5 y2 (by omega)).2
  obtain ⟨q3,qr3,T7,w7,r7,n7,_,_,l7⟩:=op_nr (Iv q2 qr2 - Iv p3 pr3) (q2 && !p3) (K + 6) (by omega) (by omega) (lt_add9 l6 y3 (by omega)).2
  obtain ⟨o,ro,T8,w8,r8,n8,_,_,l8⟩:=op_nr (Iv p4 pr4 - Iv q3 qr3) (p4 && !q3) (K + 8) (by omega) (by omega) (lt_sub9 y4 l7 (by omega)).2
  have hex:=dekker hW2 dp dq dr dt bp bq br bt hV v1 v2 n0 (by rw [← x1];exact n5) (by rw [← x2];exact n6) (by rw [← x3];exact n7) (by rw [← x4];exact n8)
  rw [hZ] at z1 z2 z3 z4 zV
  refine ⟨V,s,p1,q1,p2,q2,p3,q3,p4,o,r,pr1,qr1,pr2,qr2,pr3,qr3,pr4,ro,K,zV, ?_, ?_, ?_, ?_, ?_, ?_, ?_, ?_, ?_,r0,r8,e0,e0',hex,by omega,by omega,kV⟩
  · rw [mul_v n n' m m' hm hm' L V hL zV,w0]
  · rw [mul_v h h' hr hr' f1 f3 L _ hL z1,w1]
  · rw [sub_w s p1 r pr1 r0 r1 _ rfl,w5]
  · rw [mul_v l h' lr hr' f2 f3 L _ hL z2,w2]
  · rw [sub_w q1 p2 qr1 pr2 r5 r2 _ rfl,w6]
  · rw [mul_v h l' hr lr' f1 f4 L _ hL z3,w3]
  · rw [sub_w q2 p3 qr2 pr3 r6 r3 _ rfl,w7]
  · rw [mul_v l l' lr lr' f2 f4 L _ hL z4,w4]
  · rw [sub_w p4 q3 pr4 qr3 r4 r7 _ rfl,w8]
end Go.Proofs.YtnileplkkmhdgaaGreatDoor
