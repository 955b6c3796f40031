import Derived.Laws.Bits64b
import Derived.RowKit
namespace Go.Proofs.YtnileplkkmhdgaaGreatDoor
open Go.RowKit

def tlAux (xs:List Int):Nat→Nat
  | 0=>0
  | n + 1=>if xs.getD n 0 = 0 then tlAux xs n else n + 1
def tl (xs:List Int):Nat:=tlAux xs xs.length
theorem tlAux_zero (xs:List Int) (n:Nat) (h:xs.getD n 0 = 0):tlAux xs (n + 1) = tlAux xs n:=by show (if xs.getD n 0 = 0 then tlAux xs n else n + 1) = _;rw [if_pos h]
theorem tlAux_nz (xs:List Int) (n:Nat) (h:xs.getD n 0≠0):tlAux xs (n + 1) = n + 1:=by show (if xs.getD n 0 = 0 then tlAux xs n else n + 1) = _;rw [if_neg h]
theorem tlAux_le (xs:List Int):∀ n,tlAux xs n≤n
  | 0=>Nat.le_refl _
  | n + 1=>by
    show (if xs.getD n 0 = 0 then tlAux xs n else n + 1)≤n + 1
    split
    · exact Nat.le_succ_of_le (tlAux_le xs n)
    · exact Nat.le_refl _
theorem tl_le (xs:List Int):tl xs≤xs.length:=tlAux_le xs _

def val:List Int→Nat
  | []=>0
  | x :: xs=>x.toNat + 4294967296 * val xs
def Wd (xs:List Int):Prop:=∀ j,0≤xs.getD j 0∧xs.getD j 0 < 4294967296
def nz (xs:List Int):List Int:=xs.take (tl xs)
theorem Wd.cons {x:Int} {xs:List Int} (h:Wd (x :: xs)):(0≤x∧x < 4294967296)∧Wd xs:=by
  refine ⟨by simpa using h 0,fun j=>?_⟩
  have:=h (j + 1)
  simpa using this
theorem Wd.mk {x:Int} {xs:List Int} (h0:0≤x∧x < 4294967296) (h:Wd xs):Wd (x :: xs):=by
  intro j
  cases j with
  | zero=>simpa using h0
  | succ j=>simpa using h j
theorem Wd.nil:Wd []:=fun j=>by simp
theorem Wd.take {xs:List Int} (h:Wd xs) (k:Nat):Wd (xs.take k):=by
  intro j
  by_cases c:j < k
  · have:=h j;simpa [List.getD,List.getElem?_take,c] using this
  · simp [List.getD,List.getElem?_take,c]
theorem Wd.set {xs:List Int} (h:Wd xs) (k:Nat) (x:Int) (hx:0≤x∧x < 4294967296):Wd (xs.set k x):=by
  intro j
  by_cases c:k = j
  · subst c
    by_cases d:k < xs.length
    · simpa [List.getD,List.getElem?_set,d] using hx
    · simp [List.getD,d]
  · have:=h j;simpa [List.getD,List.getElem?_set,c] using this
theorem Wd.append {xs ys:List Int} (h:Wd xs) (k:Wd ys):Wd (xs ++ ys):=by
  intro j
  by_cases c:j < xs.length
  · have:=h j;simpa [List.getD,List.getElem?_append,c] using this
  · have:=k (j - xs.length);simpa [List.getD,List.getElem?_append,c] using this
theorem val_append:∀ (xs ys:List Int),val (xs ++ ys) = val xs + 4294967296 ^ xs.length * val ys
  | [],ys=>by simp [val]
  | x :: xs,ys=>by
    simp only [List.cons_append,val,val_append xs ys,List.length_cons,Nat.pow_succ]
    rw [Nat.mul_add,← Nat.mul_assoc,Nat.mul_comm 4294967296 (4294967296 ^ xs.length)];omega
theorem val_take_succ (xs:List Int) (i:Nat):val (xs.take (i + 1)) = val (xs.take i) + (xs.getD i 0).toNat * 4294967296 ^ i:=by
  by_cases c:i < xs.length
  · rw [List.take_add_one,List.getElem?_eq_getElem c,val_append]
    simp only [Option.toList_some,val,Nat.mul_zero,Nat.add_zero,List.length_take]
    rw [Nat.min_eq_left (by omega),Nat.mul_comm]
    simp [List.getD,c]
  · rw [List.take_of_length_le (by omega),List.take_of_length_le (by omega)]
    simp [List.getD,List.getElem?_eq_none (by omega:xs.length≤i)]
theorem val_set:∀ (xs:List Int) (i:Nat) (s:Int),i < xs.length→val (xs.set i s) + (xs.getD i 0).toNat * 4294967296 ^ i = val xs + s.toNat * 4294967296 ^ i
  | [],i,s,h=>by simp at h
  | x :: xs,0,s,_=>by simp [val];omega
  | x :: xs,i + 1,s,h=>by
    have ih:=val_set xs i s (by simpa using h)
    simp only [List.set_cons_succ,val,List.getD_cons_succ,Nat.pow_succ]
    rw [← Nat.mul_assoc,← Nat.mul_assoc,Nat.mul_comm _ 4294967296,Nat.mul_comm _ 4294967296]
    omega
theorem val_lt:∀ (xs:List Int),Wd xs→val xs < 4294967296 ^ xs.length
  | [],_=>by simp [val]
  | x :: xs,h=>by
    obtain ⟨h0,h1⟩:=h.cons
    have ih:=val_lt xs h1
    simp only [val,List.length_cons,Nat.pow_succ]
    omega
theorem tl_spec (xs:List Int) (n:Nat):(∀ j,tlAux xs n≤j→j < n→xs.getD j 0 = 0)∧(tlAux xs n = 0∨xs.getD (tlAux xs n - 1) 0≠0):=by
  induction n with
  | zero=>exact ⟨fun j _ h=>by omega,Or.inl rfl⟩
  | succ n ih =>
    by_cases c:xs.getD n 0 = 0
    · rw [tlAux_zero xs n c]
      refine ⟨fun j h1 h2=>?_,ih.2⟩
      by_cases d:j = n
      · subst d;exact c
      · exact ih.1 j h1 (by omega)
    · rw [tlAux_nz xs n c]
      exact ⟨fun j h1 h2=>by omega,Or.inr (by simpa using c)⟩
theorem val_take_zero (xs:List Int) (k:Nat) (h:∀ j,k≤j→j < xs.length→xs.getD j 0 = 0):∀ n,k≤n→n≤xs.length→val (xs.take n) = val (xs.take k):=by
  intro n
  induction n with
  | zero=>intro h1 _;rw [show k = 0 from by omega]
  | succ n ih =>
    intro h1 h2
    by_cases c:k = n + 1
    · rw [c]
    · rw [val_take_succ,ih (by omega) (by omega),h n (by omega) (by omega)];simp
theorem val_nz (xs:List Int):val (nz xs) = val xs:=by
  have h:=tl_spec xs xs.length
  have:=val_take_zero xs (tl xs) h.1 xs.length (tl_le xs) (Nat.le_refl _)
  rw [List.take_length] at this
  exact this.symm
theorem nz_length (xs:List Int):(nz xs).length = tl xs:=by
  unfold nz;rw [List.length_take,Nat.min_eq_left (tl_le xs)]
theorem nz_last (xs:List Int):nz xs = []∨(nz xs).getD ((nz xs).length - 1) 0≠0:=by
  rw [nz_length]
  rcases (tl_spec xs xs.length).2 with h | h
  · left;unfold nz tl;rw [h];rfl
  · by_cases c:tl xs = 0
    · left;unfold nz;rw [c];rfl
    · right
      have h':xs.getD (tl xs - 1) 0≠0:=h
      unfold nz
      simpa [List.getD,List.getElem?_take,show tl xs - 1 < tl xs from by omega] using h'
theorem val_uniq:∀ (xs ys:List Int),Wd xs→Wd ys→(xs = []∨xs.getD (xs.length - 1) 0≠0)→(ys = []∨ys.getD (ys.length - 1) 0≠0)→val xs = val ys→xs = ys
  | [],[],_,_,_,_,_=>rfl
  | [],y :: ys,_,hy,_,hl,h=>by
    exfalso
    have key:∀ (zs:List Int),Wd zs→zs≠[]→zs.getD (zs.length - 1) 0≠0→val zs≠0:=by
      intro zs
      induction zs with
      | nil=>intro _ h _;exact absurd rfl h
      | cons z zs ih =>
        intro hz _ hl
        obtain ⟨h0,h1⟩:=hz.cons
        by_cases c:zs = []
        · subst c
          simp at hl
          simp [val];omega
        · have hlen:0 < zs.length:=List.length_pos_iff.2 c
          have:=ih h1 c (by
            rw [List.length_cons,show zs.length + 1 - 1 = (zs.length - 1) + 1 from by omega,List.getD_cons_succ] at hl
            exact hl)
          simp only [val];omega
    exact key (y :: ys) hy (by simp) (hl.resolve_left (by simp)) (by rw [← h];rfl)
  | x :: xs,[],hx,_,hl,_,h=>by
    exfalso
    have key:∀ (zs:List Int),Wd zs→zs≠[]→zs.getD (zs.length - 1) 0≠0→val zs≠0:=by
      intro zs
      induction zs with
      | nil=>intro _ h _;exact absurd rfl h
      | cons z zs ih =>
        intro hz _ hl
        obtain ⟨h0,h1⟩:=hz.cons
        by_cases c:zs = []
        · subst c
          simp at hl
          simp [val];omega
        · have hlen:0 < zs.length:=List.length_pos_iff.2 c
          have:=ih h1 c (by
            rw [List.length_cons,show zs.length + 1 - 1 = (zs.length - 1) + 1 from by omega,List.getD_cons_succ] at hl
            exact hl)
          simp only [val];omega
    exact key (x :: xs) hx (by simp) (hl.resolve_left (by simp)) (by rw [h];rfl)
  | x :: xs,y :: ys,hx,hy,lx,ly,h=>by
    obtain ⟨h0,h1⟩:=hx.cons
    obtain ⟨k0,k1⟩:=hy.cons
    simp only [val] at h
    have hv:val xs = val ys∧x.toNat = y.toNat:=by omega
    have tail:∀ (z:Int) (zs:List Int),(z :: zs = []∨(z :: zs).getD ((z :: zs).length - 1) 0≠0)→(zs = []∨zs.getD (zs.length - 1) 0≠0):=fun z zs hh=>by
      by_cases c:zs = []
      · exact Or.inl c
      · right
        have hlen:0 < zs.length:=List.length_pos_iff.2 c
        have:=hh.resolve_left (by simp)
        rw [List.length_cons,show zs.length + 1 - 1 = (zs.length - 1) + 1 from by omega,List.getD_cons_succ] at this
        exact this
    have:=val_uniq xs ys h1 k1 (tail x xs lx) (tail y ys ly) hv.1
    rw [this,show x = y from by omega]

def dig (n:Nat):List Int:=if h:n = 0 then [] else ((n % 4294967296:Nat):Int) :: dig (n / 4294967296)
termination_by n
decreasing_by omega
theorem dig_zero:dig 0 = []:=by rw [dig];simp
theorem dig_pos (n:Nat) (h:n≠0):dig n = ((n % 4294967296:Nat):Int) :: dig (n / 4294967296):=by rw [dig];simp [h]
theorem val_dig (n:Nat):val (dig n) = n:=by
  induction n using Nat.strongRecOn with
  | ind n ih =>
    by_cases h:n = 0
    · subst h;rw [dig_zero];rfl
    · rw [dig_pos n h]
      simp only [val,Int.toNat_natCast,ih (n / 4294967296) (by omega)]
      omega
theorem Wd_dig (n:Nat):Wd (dig n):=by
  induction n using Nat.strongRecOn with
  | ind n ih =>
    by_cases h:n = 0
    · subst h;rw [dig_zero];exact Wd.nil
    · rw [dig_pos n h];exact Wd.mk (by omega) (ih _ (by omega))
theorem last_dig (n:Nat):dig n = []∨(dig n).getD ((dig n).length - 1) 0≠0:=by
  induction n using Nat.strongRecOn with
  | ind n ih =>
    by_cases h:n = 0
    · subst h;exact Or.inl dig_zero
    · right
      rw [dig_pos n h]
      by_cases c:n / 4294967296 = 0
      · rw [c,dig_zero];simp;omega
      · have h2:=ih (n / 4294967296) (by omega)
        have h3:dig (n / 4294967296)≠[]:=by rw [dig_pos _ c];simp
        have h4:=h2.resolve_left h3
        have hl:0 < (dig (n / 4294967296)).length:=List.length_pos_iff.2 h3
        rw [List.length_cons,show (dig (n / 4294967296)).length + 1 - 1 = ((dig (n / 4294967296)).length - 1) + 1 from by omega,List.getD_cons_succ]
        exact h4
theorem nz_dig (L:List Int) (h:Wd L):nz L = dig (val L) :=
  val_uniq _ _ (h.take _) (Wd_dig _) (nz_last L) (last_dig _) (by rw [val_nz,val_dig])
def len32 (n:Nat):Nat:=(dig n).length
theorem tl_len (L:List Int) (h:Wd L):tl L = len32 (val L):=by
  rw [← nz_length,nz_dig L h];rfl
theorem tl_dig (n:Nat):tl (dig n) = len32 n:=by rw [tl_len _ (Wd_dig n),val_dig]
def addN (a b:Nat):List Int × Int:=if 16384 < len32 a∨16384 < len32 b then ([],2) else if 16384 < len32 (a + b) then ([],2) else (dig (a + b),0)

def cmpN (a b:Nat):Int:=if a < b then -1 else if b < a then 1 else 0
def cmpz (x y:Int):Int:=if x < y then -1 else if y < x then 1 else 0
theorem cmpN_lt {a b:Nat} (h:a < b):cmpN a b = -1:=by unfold cmpN;rw [if_pos h]
theorem cmpN_gt {a b:Nat} (h:b < a):cmpN a b = 1:=by unfold cmpN;rw [if_neg (by omega),if_pos h]
theorem cmpN_eq {a b:Nat} (h:a = b):cmpN a b = 0:=by unfold cmpN;rw [if_neg (by omega),if_neg (by omega)]
theorem val_take_lt (xs:List Int) (h:Wd xs) (k:Nat):val (xs.take k) < 4294967296 ^ k:=by
  have h1:=val_lt (xs.take k) (h.take k)
  have h2:(xs.take k).length≤k:=by rw [List.length_take];omega
  exact Nat.lt_of_lt_of_le h1 (Nat.pow_le_pow_right (by decide) h2)
theorem cmp_top (xs ys:List Int) (hx:Wd xs) (k:Nat) (h0:0≤xs.getD k 0) (h:xs.getD k 0 < ys.getD k 0):∀ n,k < n→(∀ j,k < j→j < n→xs.getD j 0 = ys.getD j 0)→val (xs.take n) < val (ys.take n):=by
  intro n
  induction n with
  | zero=>intro h1;omega
  | succ n ih =>
    intro h1 he
    rw [val_take_succ,val_take_succ]
    by_cases c:k = n
    · subst c
      have h2:=val_take_lt xs hx k
      obtain ⟨P,hP⟩:∃ P,P = 4294967296 ^ k:=⟨_,rfl⟩
      rw [← hP] at h2 ⊢
      have h3:((xs.getD k 0).toNat + 1) * P≤(ys.getD k 0).toNat * P:=Nat.mul_le_mul_right P (by omega)
      rw [Nat.add_mul,Nat.one_mul] at h3
      omega
    · have:=ih (by omega) (fun j a b=>he j a (by omega))
      rw [he n (by omega) (by omega)]
      omega
theorem cmp_all (xs ys:List Int):∀ n,(∀ j,j < n→xs.getD j 0 = ys.getD j 0)→val (xs.take n) = val (ys.take n):=by
  intro n
  induction n with
  | zero=>intro _;simp
  | succ n ih =>
    intro he
    rw [val_take_succ,val_take_succ,ih (fun j h=>he j (by omega)),he n (by omega)]
theorem val_tl (xs:List Int):val (xs.take (tl xs)) = val xs:=val_nz xs
theorem val_ge_tl (xs:List Int) (h:Wd xs) (k:Nat) (hk:k < tl xs):4294967296 ^ k≤val xs:=by
  have h1:=(tl_spec xs xs.length).2
  have h2:xs.getD (tl xs - 1) 0≠0:=by
    rcases h1 with h1 | h1
    · exfalso;have:tl xs = 0:=h1;omega
    · exact h1
  have h3:=h (tl xs - 1)
  rw [← val_tl xs]
  obtain ⟨t,ht⟩:∃ t,tl xs = t + 1:=⟨tl xs - 1,by omega⟩
  rw [ht] at h2 h3 ⊢
  rw [val_take_succ]
  simp only [Nat.add_sub_cancel] at h2 h3
  have h4:4294967296 ^ k≤4294967296 ^ t:=Nat.pow_le_pow_right (by decide) (by omega)
  have h5:1 * 4294967296 ^ t≤(xs.getD t 0).toNat * 4294967296 ^ t:=Nat.mul_le_mul_right _ (by omega)
  omega
theorem tl_lt_val (xs ys:List Int) (hx:Wd xs) (hy:Wd ys) (h:tl xs < tl ys):val xs < val ys:=by
  have h1:=val_take_lt xs hx (tl xs)
  rw [val_tl] at h1
  exact Nat.lt_of_lt_of_le h1 (val_ge_tl ys hy (tl xs) h)
theorem tl_mono (xs ys:List Int) (hx:Wd xs) (hy:Wd ys) (h:val xs≤val ys):tl xs≤tl ys:=by
  by_cases c:tl ys < tl xs
  · have:=tl_lt_val ys xs hy hx c;omega
  · omega
theorem len32_mono {a b:Nat} (h:a≤b):len32 a≤len32 b:=by
  rw [← tl_dig a,← tl_dig b]
  exact tl_mono _ _ (Wd_dig a) (Wd_dig b) (by rw [val_dig,val_dig];exact h)
def subN (a b:Nat):List Int × Int:=if a < b then ([],1) else if 16384 < len32 a then ([],2) else (dig (a - b),0)
theorem sub_borrow (x y b d:Nat) (hx:x < 4294967296) (hy:y < 4294967296) (hb:b≤1) (hd:d = (x + 8589934592 - y - b) % 4294967296) :
    ((4294967295 - x) &&& y ||| (4294967295 - (x ^^^ y)) &&& d) / 2147483648 = if x < y + b then 1 else 0:=by
  have e:∀ n:Nat,n / 2147483648 = n >>> 31:=fun n=>by rw [Nat.shiftRight_eq_div_pow]
  have hz:x ^^^ y < 4294967296:=Nat.xor_lt_two_pow (n:=32) hx hy
  have ez:(x ^^^ y) / 2147483648 = (x / 2147483648) ^^^ (y / 2147483648):=by rw [e,e,e,Nat.shiftRight_xor_distrib]
  have e1:(4294967295 - x) / 2147483648 = 1 - x / 2147483648:=by omega
  have e2:(4294967295 - (x ^^^ y)) / 2147483648 = 1 - (x ^^^ y) / 2147483648:=by omega
  rw [e,Nat.shiftRight_or_distrib,Nat.shiftRight_and_distrib,Nat.shiftRight_and_distrib,← e,← e,← e,← e,e1,e2,ez]
  have hd2:d < 4294967296:=by omega
  obtain ⟨X,hX⟩:∃ X,X = x / 2147483648:=⟨_,rfl⟩
  obtain ⟨Y,hY⟩:∃ Y,Y = y / 2147483648:=⟨_,rfl⟩
  obtain ⟨D,hD⟩:∃ D,D = d / 2147483648:=⟨_,rfl⟩
  rw [← hX,← hY,← hD]
  clear e1 e2 ez hz e
  rcases (by omega:X = 0∨X = 1) with hX0 | hX0 <;> rcases (by omega:Y = 0∨Y = 1) with hY0 | hY0 <;> rcases (by omega:D = 0∨D = 1) with hD0 | hD0 <;> rw [hX0,hY0,hD0] <;> simp <;> omega
theorem not32 (x:Nat) (h:x < 4294967296):4294967295 ^^^ x = 4294967295 - x:=by
  apply Nat.eq_of_testBit_eq
  intro i
  have e1:(4294967295:Nat).testBit i = decide (i < 32):=Nat.testBit_two_pow_sub_one 32 i
  have e2:(4294967295 - x).testBit i = (decide (i < 32) && !x.testBit i):=by
    rw [← Nat.testBit_two_pow_sub_succ (show x < 2 ^ 32 from h) i]
    congr 1
    omega
  rw [Nat.testBit_xor,e1,e2]
  by_cases c:i < 32
  · simp [c]
  · have:x.testBit i = false:=Nat.testBit_lt_two_pow (Nat.lt_of_lt_of_le h (Nat.pow_le_pow_right (n:=2) (by omega) (by omega:32≤i)))
    simp [c,this]
theorem diff_step (zs:List Int) (k C C' Z V T:Nat) (X Y:Int) (hk:k < zs.length) (hX:zs.getD k 0 = X) (hZ:Z + (Y.toNat + C) = X.toNat + C' * 4294967296) (h:val zs + T = V + C * 4294967296 ^ k) :
    val (zs.set k (Z:Int)) + (T + Y.toNat * 4294967296 ^ k) = V + C' * 4294967296 ^ (k + 1):=by
  have h1:=val_set zs k (Z:Int) hk
  rw [hX,Int.toNat_natCast] at h1
  obtain ⟨P,hP⟩:∃ P,P = 4294967296 ^ k:=⟨_,rfl⟩
  rw [Nat.pow_succ,← hP]
  rw [← hP] at h h1
  have e:=congrArg (· * P) hZ
  simp only [Nat.add_mul] at e
  have e3:C' * 4294967296 * P = C' * (P * 4294967296):=by rw [Nat.mul_comm P,Nat.mul_assoc]
  omega
theorem diff_room (zs xs ys:List Int) (j n:Nat) (hl:zs.length = n) (hz:Wd zs) (hle:val ys≤val xs) (h:val zs + val ys = val xs + 1 * 4294967296 ^ j):j < n:=by
  by_cases c:j < n
  · exact c
  · exfalso
    have h1:=val_lt zs hz
    rw [hl] at h1
    have h2:4294967296 ^ n≤4294967296 ^ j:=Nat.pow_le_pow_right (by decide) (by omega)
    omega

def blen (n:Nat):Nat:=if n = 0 then 0 else n.log2 + 1
theorem blen_zero:blen 0 = 0:=by simp [blen]
theorem blen_spec (n:Nat) (h:n≠0):2 ^ (blen n - 1)≤n∧n < 2 ^ blen n∧1≤blen n:=by
  have:=(Nat.log2_eq_iff h (k:=n.log2)).1 rfl
  unfold blen
  rw [if_neg h]
  simp only [Nat.add_sub_cancel]
  exact ⟨this.1,this.2,by omega⟩
theorem blen_uniq (n k:Nat) (h1:2 ^ k≤n) (h2:n < 2 ^ (k + 1)):blen n = k + 1:=by
  have hp:=Nat.two_pow_pos k
  have h:n≠0:=by omega
  have:=(Nat.log2_eq_iff h (k:=k)).2 ⟨h1,h2⟩
  unfold blen
  rw [if_neg h,this]
theorem blen_half (n:Nat) (h:n≠0):blen n = blen (n / 2) + 1:=by
  by_cases c:n = 1
  · subst c;simp [blen_zero];exact blen_uniq 1 0 (by simp) (by simp)
  · have h2:n / 2≠0:=by omega
    obtain ⟨a,b,d⟩:=blen_spec (n / 2) h2
    obtain ⟨k,hk⟩:∃ k,blen (n / 2) = k + 1:=⟨blen (n / 2) - 1,by omega⟩
    rw [hk] at a b ⊢
    simp only [Nat.add_sub_cancel] at a
    apply blen_uniq
    · rw [Nat.pow_succ];omega
    · rw [Nat.pow_succ];omega
theorem blen_lt (n k:Nat) (h:n < 2 ^ k):blen n≤k:=by
  by_cases c:n = 0
  · subst c;rw [blen_zero];omega
  · obtain ⟨a,_,d⟩:=blen_spec n c
    have:=Nat.lt_of_le_of_lt a h
    have:=(Nat.pow_lt_pow_iff_right (by omega:1 < 2)).1 this
    omega
theorem pow32 (k:Nat):4294967296 ^ k = 2 ^ (32 * k):=by
  rw [Nat.pow_mul]
theorem blen_val (xs:List Int) (h:Wd xs) (t:Nat) (ht:tl xs = t + 1):blen (val xs) = 32 * t + blen (xs.getD t 0).toNat:=by
  have hX:xs.getD t 0≠0:=by
    rcases (tl_spec xs xs.length).2 with e | e
    · exfalso;have:tl xs = 0:=e;omega
    · have e':xs.getD (tl xs - 1) 0≠0:=e
      rw [ht,Nat.add_sub_cancel] at e'
      exact e'
  have hw:=h t
  have h1:=val_take_lt xs h t
  have h2:=val_tl xs
  rw [ht,val_take_succ] at h2
  obtain ⟨X,hXX⟩:∃ X,X = (xs.getD t 0).toNat:=⟨_,rfl⟩
  rw [← hXX] at h2 ⊢
  have hX0:X≠0:=by omega
  rw [pow32] at h1 h2
  obtain ⟨P,hP⟩:∃ P,P = 2 ^ (32 * t):=⟨_,rfl⟩
  obtain ⟨a,b,d⟩:=blen_spec X hX0
  obtain ⟨k,hk⟩:∃ k,blen X = k + 1:=⟨blen X - 1,by omega⟩
  rw [hk] at a b ⊢
  simp only [Nat.add_sub_cancel] at a
  have e1:2 ^ (32 * t + k) = P * 2 ^ k:=by rw [Nat.pow_add,hP]
  have e2:2 ^ (32 * t + k + 1) = P * (2 ^ k * 2):=by rw [show 32 * t + k + 1 = 32 * t + (k + 1) from by omega,Nat.pow_add,hP,Nat.pow_succ]
  rw [← hP] at h1 h2
  rw [show 32 * t + (k + 1) = (32 * t + k) + 1 from by omega]
  have m1:P * 2 ^ k≤P * X:=Nat.mul_le_mul_left P a
  have m2:P * (X + 1)≤P * (2 ^ k * 2):=Nat.mul_le_mul_left P (by rw [Nat.pow_succ] at b;omega)
  rw [Nat.mul_add,Nat.mul_one] at m2
  rw [Nat.mul_comm X P] at h2
  exact blen_uniq _ _ (by rw [e1];omega) (by rw [e2];omega)
theorem len32_gt (n k:Nat) (h:4294967296 ^ k≤n):k < len32 n:=by
  have h1:=val_lt (dig n) (Wd_dig n)
  rw [val_dig] at h1
  by_cases c:k < len32 n
  · exact c
  · exfalso
    have h2:4294967296 ^ (dig n).length≤4294967296 ^ k:=Nat.pow_le_pow_right (by omega) (by have:len32 n = (dig n).length:=rfl;omega)
    omega
theorem len32_lt (n k:Nat) (h:k < len32 n):4294967296 ^ k≤n:=by
  have:=val_ge_tl (dig n) (Wd_dig n) k (by rw [tl_dig];exact h)
  rw [val_dig] at this
  exact this
theorem blen_len (a K:Nat) (h:len32 a≤K):blen a≤32 * K:=by
  apply blen_lt
  rw [← pow32]
  by_cases c:a < 4294967296 ^ K
  · exact c
  · have:=len32_gt a K (by omega);omega
theorem len32_up (a K:Nat) (h:len32 a≤K):a < 4294967296 ^ K:=by
  by_cases c:a < 4294967296 ^ K
  · exact c
  · have:=len32_gt a K (by omega);omega
theorem mul_len (a b K:Nat) (ha:len32 a≤K) (hb:len32 b≤K):len32 (a * b)≤K + K:=by
  by_cases c:len32 (a * b)≤K + K
  · exact c
  · exfalso
    have g1:=len32_lt (a * b) (K + K) (by omega)
    have g4:=Nat.mul_lt_mul'' (len32_up a K ha) (len32_up b K hb)
    rw [← Nat.pow_add] at g4
    omega
theorem mul_grow (ys:List Int) (X i k:Nat):val (ys.take (k + 1)) * X * 4294967296 ^ i = val (ys.take k) * X * 4294967296 ^ i + (ys.getD k 0).toNat * X * 4294967296 ^ (i + k):=by
  rw [val_take_succ,Nat.add_mul,Nat.add_mul,Nat.pow_add]
  congr 1
  generalize 4294967296 ^ i = P
  generalize 4294967296 ^ k = Q
  simp only [Nat.mul_assoc,Nat.mul_comm,Nat.mul_left_comm]
theorem mul_word (A Y C Z:Nat) (hA:A < 4294967296) (hY:Y < 4294967296) (hC:C < 4294967296) (hZ:Z < 4294967296):C + (A * Y + Z) < 18446744073709551616∧A * Y≤18446744065119617025:=by
  have:A * Y≤4294967295 * 4294967295:=Nat.mul_le_mul (by omega) (by omega)
  omega
theorem row_prod (xs:List Int) (i V:Nat):val (xs.take i) * V + V * (xs.getD i 0).toNat * 4294967296 ^ i = val (xs.take (i + 1)) * V:=by
  rw [val_take_succ,Nat.add_mul,Nat.mul_assoc V,Nat.mul_comm V]

theorem or_low (v x k:Nat) (hv:v < 2 ^ k):v ||| x * 2 ^ k = v + x * 2 ^ k:=by
  have:=Nat.shiftLeft_add_eq_or_of_lt hv x
  rw [Nat.shiftLeft_eq] at this
  rw [Nat.or_comm,← this,Nat.add_comm]
theorem val_drop (xs:List Int) (k:Nat) (h:k < xs.length):val (xs.drop k) = (xs.getD k 0).toNat + 4294967296 * val (xs.drop (k + 1)):=by
  rw [List.drop_eq_getElem_cons h]
  simp [val,List.getD,h]
theorem val_two (xs:List Int) (h:Wd xs) (hl:xs.length≤2) (k:Nat):val (xs.take k) < 18446744073709551616:=by
  have h1:=val_lt (xs.take k) (h.take k)
  have h2:(xs.take k).length≤2:=by rw [List.length_take];omega
  exact Nat.lt_of_lt_of_le h1 (Nat.le_trans (Nat.pow_le_pow_right (by omega) h2) (by decide))
def wordN (a:Nat):Nat × Bool:=if 2 < len32 a then (0,false) else (a,true)

def ctz (n:Nat):Nat:=if h:n = 0 then 0 else if n % 2 = 1 then 0 else ctz (n / 2) + 1
termination_by n
decreasing_by omega
theorem ctz_zero:ctz 0 = 0:=by rw [ctz];simp
theorem ctz_eq:∀ (k o:Nat),o % 2 = 1→ctz (o * 2 ^ k) = k
  | 0,o,h=>by
    rw [Nat.pow_zero,Nat.mul_one,ctz]
    by_cases c:o = 0
    · subst c;simp at h
    · rw [dif_neg c,if_pos h]
  | k + 1,o,h=>by
    have hp:=Nat.two_pow_pos k
    have hne:o * 2 ^ (k + 1)≠0:=by
      have:0 < o * 2 ^ (k + 1):=Nat.mul_pos (by omega) (Nat.two_pow_pos _)
      omega
    have e1:o * 2 ^ (k + 1) = 2 * (o * 2 ^ k):=by rw [Nat.pow_succ,← Nat.mul_assoc,Nat.mul_comm]
    rw [ctz,dif_neg hne,e1,if_neg (by omega),Nat.mul_div_cancel_left _ (by omega),ctz_eq k o h]
theorem odd_part:∀ (x:Nat),x≠0→∃ o k,o % 2 = 1∧x = o * 2 ^ k:=by
  intro x
  induction x using Nat.strongRecOn with
  | ind x ih =>
    intro h
    by_cases c:x % 2 = 1
    · exact ⟨x,0,c,by simp⟩
    · obtain ⟨o,k,h1,h2⟩:=ih (x / 2) (by omega) (by omega)
      refine ⟨o,k + 1,h1, ?_⟩
      rw [Nat.pow_succ,← Nat.mul_assoc,← h2]
      omega
theorem val_lowzero (xs:List Int) (i:Nat) (h:∀ j,j < i→xs.getD j 0 = 0) (hi:i < xs.length):∃ r,val xs = ((xs.getD i 0).toNat + 4294967296 * r) * 4294967296 ^ i:=by
  have h0:∀ n,n≤i→val (xs.take n) = 0:=by
    intro n
    induction n with
    | zero=>intro _;rfl
    | succ n ih=>intro hn;rw [val_take_succ,ih (by omega),h n (by omega)];simp
  have h1:=val_append (xs.take i) (xs.drop i)
  rw [List.take_append_drop,h0 i (Nat.le_refl _),List.length_take,Nat.min_eq_left (by omega),List.drop_eq_getElem_cons hi] at h1
  refine ⟨val (xs.drop (i + 1)), ?_⟩
  rw [h1]
  simp [val,List.getD,hi]
  rw [Nat.mul_comm]
theorem ctz_val (xs:List Int) (i o k:Nat) (h:∀ j,j < i→xs.getD j 0 = 0) (hi:i < xs.length) (ho:o % 2 = 1) (hk:k < 32) (hx:(xs.getD i 0).toNat = o * 2 ^ k):ctz (val xs) = 32 * i + k:=by
  obtain ⟨r,hr⟩:=val_lowzero xs i h hi
  have e:(4294967296:Nat) = 2 ^ (31 - k) * 2 * 2 ^ k:=by
    rw [Nat.mul_assoc,← Nat.pow_succ',← Nat.pow_add,show 31 - k + (k + 1) = 32 from by omega]
  have e2:val xs = (o + 2 * (2 ^ (31 - k) * r)) * 2 ^ (32 * i + k):=by
    rw [hr,hx,Nat.pow_add,← pow32]
    have e3:o * 2 ^ k + 4294967296 * r = (o + 2 * (2 ^ (31 - k) * r)) * 2 ^ k:=by
      rw [Nat.add_mul]
      congr 1
      have:4294967296 * r = 2 ^ (31 - k) * 2 * 2 ^ k * r:=by rw [← e]
      rw [this]
      simp only [Nat.mul_comm,Nat.mul_left_comm]
    rw [e3]
    simp only [Nat.mul_assoc,Nat.mul_comm,Nat.mul_left_comm]
  rw [e2]
  exact ctz_eq _ _ (by omega)

theorem and32 (S:Nat) (h:S < 18446744073709551616):bits BinOp.and IntKind.u64 (S:Int) 4294967295 = ((S % 4294967296:Nat):Int):=by
  have:=bits_and_u64_nat S 4294967295 h (by decide)
  have e:S &&& 4294967295 = S % 4294967296:=Nat.and_two_pow_sub_one_eq_mod S 32
  rw [e] at this
  exact this
theorem Wd.one {x:Int} (h:0≤x∧x < 4294967296):Wd [x]:=Wd.mk h Wd.nil

theorem sum_step (zs:List Int) (k C S V:Nat) (X Y:Int) (hk:k < zs.length) (hX:zs.getD k 0 = X) (hS:S = X.toNat + Y.toNat + C) (h:val zs + C * 4294967296 ^ k = V) :
    val (zs.set k ((S % 4294967296:Nat):Int)) + S / 4294967296 * 4294967296 ^ (k + 1) = V + Y.toNat * 4294967296 ^ k:=by
  have h1:=val_set zs k ((S % 4294967296:Nat):Int) hk
  rw [hX,Int.toNat_natCast] at h1
  have e:S % 4294967296 + 4294967296 * (S / 4294967296) = S:=Nat.mod_add_div _ _
  obtain ⟨P,hP⟩:∃ P,P = 4294967296 ^ k:=⟨_,rfl⟩
  rw [Nat.pow_succ,← hP]
  rw [← hP] at h h1
  have e2:S % 4294967296 * P + S / 4294967296 * (P * 4294967296) = S * P:=by
    have:S / 4294967296 * (P * 4294967296) = 4294967296 * (S / 4294967296) * P:=by
      rw [Nat.mul_comm P,← Nat.mul_assoc,Nat.mul_comm (S / 4294967296)]
    rw [this,← Nat.add_mul,e]
  have e3:S * P = X.toNat * P + Y.toNat * P + C * P:=by rw [hS,Nat.add_mul,Nat.add_mul]
  omega
theorem sum_room (xs ys zs:List Int) (k:Nat) (hx:Wd xs) (hy:Wd ys) (hl:ys.length≤xs.length) (h:val zs + 1 * 4294967296 ^ k = val xs + val ys):k≤xs.length:=by
  by_cases c:k≤xs.length
  · exact c
  · exfalso
    have h1:=val_lt xs hx
    have h2:=val_lt ys hy
    have h3:4294967296 ^ ys.length≤4294967296 ^ xs.length:=Nat.pow_le_pow_right (by decide) hl
    have h4:4294967296 ^ (xs.length + 1)≤4294967296 ^ k:=Nat.pow_le_pow_right (by decide) (by omega)
    rw [Nat.pow_succ] at h4
    omega
theorem val_zero_end (xs:List Int):val (xs ++ [0]) = val xs:=by rw [val_append];simp [val]
theorem getD_end (xs:List Int) (j:Nat):(xs ++ [0]).getD j 0 = if j < xs.length then xs.getD j 0 else 0:=by
  by_cases c:j < xs.length
  · rw [if_pos c];simp [List.getD,List.getElem?_append,c]
  · rw [if_neg c]
    by_cases d:j = xs.length
    · subst d;simp [List.getD]
    · simp [List.getD,List.getElem?_eq_none (by simp;omega:(xs ++ [0]).length≤j)]

def shlN (a:Nat) (n:Int):List Int × Int:=if n < 0 then ([],1) else if 16384 < len32 a then ([],2) else if a = 0 then ([],0) else if 524288 < blen a + n.toNat then ([],2) else (dig (a * 2 ^ n.toNat),0)
def shrN (a:Nat) (n:Int):List Int × Bool × Int:=if n < 0 then ([],false,1) else if 16384 < len32 a then ([],false,2) else (dig (a / 2 ^ n.toNat),decide (a % 2 ^ n.toNat≠0),0)
theorem cast_shl (X s:Nat):((X * 2 ^ s % 4294967296:Nat):Int) = (X:Int) * 2 ^ s % 4294967296:=by
  rw [Int.natCast_emod,Int.natCast_mul,Int.natCast_pow];rfl
theorem split32 (s:Nat) (h:s < 32):(4294967296:Nat) = 2 ^ s * 2 ^ (32 - s):=by
  rw [← Nat.pow_add,show s + (32 - s) = 32 from by omega]
theorem shl_word (X C s:Nat) (hs:s < 32) (hX:X < 4294967296) (hC:C < 2 ^ s):X * 2 ^ s % 4294967296 ||| C = X * 2 ^ s % 4294967296 + C∧X * 2 ^ s % 4294967296 + C < 4294967296∧X / 2 ^ (32 - s) < 2 ^ s∧(X * 2 ^ s % 4294967296 + C) + 4294967296 * (X / 2 ^ (32 - s)) = X * 2 ^ s + C:=by
  have e:=split32 s hs
  have hp:=Nat.two_pow_pos s
  have hp2:=Nat.two_pow_pos (32 - s)
  have e1:X * 2 ^ s % 4294967296 = (X % 2 ^ (32 - s)) * 2 ^ s:=by
    rw [e,Nat.mul_comm (2 ^ s) (2 ^ (32 - s)),Nat.mul_mod_mul_right]
  have e2:X * 2 ^ s / 4294967296 = X / 2 ^ (32 - s):=by
    rw [e,Nat.mul_comm (2 ^ s) (2 ^ (32 - s)),Nat.mul_div_mul_right _ _ hp]
  have e3:=or_low C (X % 2 ^ (32 - s)) s hC
  have e4:=Nat.mod_add_div (X * 2 ^ s) 4294967296
  have e5:X / 2 ^ (32 - s) < 2 ^ s:=by
    rw [Nat.div_lt_iff_lt_mul hp2,← e];exact hX
  refine ⟨by rw [e1,Nat.or_comm,e3,Nat.add_comm], ?_,e5,by rw [← e2];omega⟩
  rw [e1]
  have m1:X % 2 ^ (32 - s) < 2 ^ (32 - s):=Nat.mod_lt _ hp2
  have m2:(X % 2 ^ (32 - s) + 1) * 2 ^ s≤2 ^ (32 - s) * 2 ^ s:=Nat.mul_le_mul_right _ (by omega)
  rw [Nat.add_mul,Nat.one_mul,Nat.mul_comm (2 ^ (32 - s)),← e] at m2
  omega
theorem raise_step (us xs:List Int) (o k C C' Z s X:Nat) (hk:o + k < us.length) (h0:us.getD (o + k) 0 = 0) (hX:(xs.getD k 0).toNat = X) (hZ:Z + 4294967296 * C' = X * 2 ^ s + C) (h:val us + C * 4294967296 ^ (o + k) = val (xs.take k) * 2 ^ s * 4294967296 ^ o) :
    val (us.set (o + k) (Z:Int)) + C' * 4294967296 ^ (o + (k + 1)) = val (xs.take (k + 1)) * 2 ^ s * 4294967296 ^ o:=by
  have h1:=val_set us (o + k) (Z:Int) hk
  rw [h0,Int.toNat_natCast] at h1
  have hg:=mul_grow xs (2 ^ s) o k
  rw [hX] at hg
  rw [hg,← h,← Nat.add_assoc o k 1,Nat.pow_succ]
  generalize 4294967296 ^ (o + k) = P at h1 h ⊢
  have e:=congrArg (· * P) hZ
  simp only [Nat.add_mul] at e
  have e3:C' * (P * 4294967296) = 4294967296 * C' * P:=by
    simp only [Nat.mul_comm,Nat.mul_left_comm]
  simp at h1
  omega
theorem digits_eq (us:List Int) (q:Nat) (h:∀ j,j < us.length→us.getD j 0 = ((q / 4294967296 ^ j % 4294967296:Nat):Int)):∀ n,n≤us.length→val (us.take n) = q % 4294967296 ^ n:=by
  intro n
  induction n with
  | zero=>intro _;simp [val,Nat.mod_one]
  | succ n ih =>
    intro hn
    rw [val_take_succ,ih (by omega),h n (by omega),Int.toNat_natCast,Nat.pow_succ,Nat.mod_mul,Nat.mul_comm (4294967296 ^ n)]
theorem shr_word (D X Y r s:Nat) (hs:s < 32) (hX:X < 4294967296) (hD:D = X + 4294967296 * (Y + 4294967296 * r)):D / 2 ^ s % 4294967296 = X / 2 ^ s ||| Y * 2 ^ (32 - s) % 4294967296:=by
  have e:=split32 s hs
  have hp:=Nat.two_pow_pos s
  have hp2:=Nat.two_pow_pos (32 - s)
  have e1:D / 2 ^ s = X / 2 ^ s + 2 ^ (32 - s) * (Y + 4294967296 * r):=by
    have:D = X + 2 ^ s * (2 ^ (32 - s) * (Y + 4294967296 * r)):=by rw [hD,← Nat.mul_assoc,← e]
    rw [this,Nat.add_mul_div_left _ _ hp]
  have hlt:X / 2 ^ s < 2 ^ (32 - s):=by
    rw [Nat.div_lt_iff_lt_mul hp,Nat.mul_comm,← e];exact hX
  have e2:Y * 2 ^ (32 - s) % 4294967296 = (Y % 2 ^ s) * 2 ^ (32 - s):=by
    rw [e,Nat.mul_mod_mul_right]
  have e3:X / 2 ^ s + 2 ^ (32 - s) * (Y + 4294967296 * r) = (X / 2 ^ s + (Y % 2 ^ s) * 2 ^ (32 - s)) + 4294967296 * (Y / 2 ^ s + 2 ^ (32 - s) * r):=by
    have d:=Nat.mod_add_div Y (2 ^ s)
    have:2 ^ (32 - s) * (Y + 4294967296 * r) = (Y % 2 ^ s) * 2 ^ (32 - s) + 4294967296 * (Y / 2 ^ s + 2 ^ (32 - s) * r):=by
      rw [Nat.mul_add,Nat.mul_add]
      have a1:2 ^ (32 - s) * Y = (Y % 2 ^ s) * 2 ^ (32 - s) + 4294967296 * (Y / 2 ^ s):=by
        have:=congrArg (2 ^ (32 - s) * ·) d
        simp only [Nat.mul_add] at this
        rw [← this,Nat.mul_comm (2 ^ (32 - s)) (Y % 2 ^ s),← Nat.mul_assoc,Nat.mul_comm (2 ^ (32 - s)) (2 ^ s),← e]
      rw [a1]
      have a2:2 ^ (32 - s) * (4294967296 * r) = 4294967296 * (2 ^ (32 - s) * r):=Nat.mul_left_comm _ _ _
      rw [a2]
      omega
    omega
  have hb:X / 2 ^ s + (Y % 2 ^ s) * 2 ^ (32 - s) < 4294967296:=by
    have m1:Y % 2 ^ s < 2 ^ s:=Nat.mod_lt _ hp
    have m2:(Y % 2 ^ s + 1) * 2 ^ (32 - s)≤2 ^ s * 2 ^ (32 - s):=Nat.mul_le_mul_right _ (by omega)
    rw [Nat.add_mul,Nat.one_mul,← e] at m2
    omega
  rw [e1,e3,Nat.add_mul_mod_self_left,Nat.mod_eq_of_lt hb,e2,or_low _ _ _ hlt]

theorem val_div (xs:List Int) (h:Wd xs) (o:Nat) (ho:o≤xs.length):val xs / 4294967296 ^ o = val (xs.drop o)∧val xs % 4294967296 ^ o = val (xs.take o):=by
  have h1:=val_append (xs.take o) (xs.drop o)
  rw [List.take_append_drop,List.length_take,Nat.min_eq_left ho] at h1
  have h2:=val_take_lt xs h o
  have hp:0 < 4294967296 ^ o:=Nat.pow_pos (by decide)
  constructor
  · rw [h1,Nat.add_mul_div_left _ _ hp,Nat.div_eq_of_lt h2,Nat.zero_add]
  · rw [h1,Nat.add_mul_mod_self_left,Nat.mod_eq_of_lt h2]
theorem Wd.drop {xs:List Int} (h:Wd xs) (o:Nat):Wd (xs.drop o):=fun j=>by
  have:=h (o + j)
  simpa [List.getD,List.getElem?_drop] using this
theorem pow_div (a m:Nat):a / 2 ^ m = a / 4294967296 ^ (m / 32) / 2 ^ (m % 32):=by
  rw [Nat.div_div_eq_div_mul,pow32,← Nat.pow_add,show 32 * (m / 32) + m % 32 = m from by omega]
theorem low_word (ys:List Int) (h:Wd ys) (k s X Y:Nat) (hs:s < 32) (hk:k + 1 < ys.length) (hX:ys.getD k 0 = (X:Int)) (hY:ys.getD (k + 1) 0 = (Y:Int)):val ys / 2 ^ s / 4294967296 ^ k % 4294967296 = X / 2 ^ s ||| Y * 2 ^ (32 - s) % 4294967296:=by
  have hX32:=h k
  rw [hX] at hX32
  have e1:=(val_div ys h k (by omega)).1
  have e2:=val_drop ys k (by omega)
  have e3:=val_drop ys (k + 1) hk
  rw [hX,Int.toNat_natCast] at e2
  rw [hY,Int.toNat_natCast] at e3
  rw [Nat.div_div_eq_div_mul,Nat.mul_comm,← Nat.div_div_eq_div_mul,e1]
  exact shr_word _ X Y (val (ys.drop (k + 1 + 1))) s hs (by omega) (by rw [e2,e3])
theorem low_last (ys:List Int) (h:Wd ys) (k s X:Nat) (hk:k + 1 = ys.length) (hX:ys.getD k 0 = (X:Int)):val ys / 2 ^ s / 4294967296 ^ k % 4294967296 = X / 2 ^ s:=by
  have hX32:=h k
  rw [hX] at hX32
  have e1:=(val_div ys h k (by omega)).1
  have e2:=val_drop ys k (by omega)
  have e3:ys.drop (k + 1) = []:=List.drop_of_length_le (by omega)
  rw [hX,Int.toNat_natCast,e3] at e2
  rw [Nat.div_div_eq_div_mul,Nat.mul_comm,← Nat.div_div_eq_div_mul,e1,e2]
  simp only [val,Nat.mul_zero,Nat.add_zero]
  apply Nat.mod_eq_of_lt
  exact Nat.lt_of_le_of_lt (Nat.div_le_self _ _) (by omega)
theorem low_all (us ys:List Int) (h:Wd ys) (s:Nat) (hl:us.length = ys.length) (hd:∀ j,j < us.length→us.getD j 0 = ((val ys / 2 ^ s / 4294967296 ^ j % 4294967296:Nat):Int)):val us = val ys / 2 ^ s:=by
  have:=digits_eq us (val ys / 2 ^ s) hd us.length (Nat.le_refl _)
  rw [List.take_length] at this
  rw [this]
  apply Nat.mod_eq_of_lt
  have h1:=val_lt ys h
  rw [hl]
  exact Nat.lt_of_le_of_lt (Nat.div_le_self _ _) h1

theorem mod_ctz (a m:Nat):a % 2 ^ m≠0 ↔ a≠0∧ctz a < m:=by
  by_cases h0:a = 0
  · subst h0;simp
  · obtain ⟨o,k,ho,rfl⟩:=odd_part a h0
    rw [ctz_eq k o ho]
    constructor
    · intro h
      refine ⟨h0, ?_⟩
      by_cases c:k < m
      · exact c
      · exfalso
        apply h
        rw [show k = m + (k - m) from by omega,Nat.pow_add,← Nat.mul_assoc,Nat.mul_comm o,Nat.mul_assoc]
        exact Nat.mul_mod_right _ _
    · rintro ⟨_,c⟩ h
      rw [show m = (m - k - 1) + 1 + k from by omega,Nat.pow_add,Nat.mul_mod_mul_right,Nat.mul_eq_zero] at h
      rcases h with h | h
      · rw [Nat.pow_succ] at h
        have h2:o % 2 = 0:=by
          have:=Nat.mod_mul_left_mod o (2 ^ (m - k - 1)) 2
          rw [h] at this
          simpa using this.symm
        omega
      · have:=Nat.two_pow_pos k;omega
theorem lost_mod (xs:List Int) (h:Wd xs) (o s X:Nat) (hs:s < 32) (ho:o < xs.length) (hX:xs.getD o 0 = (X:Int)):val xs % (4294967296 ^ o * 2 ^ s)≠0 ↔ X % 2 ^ s≠0∨val (xs.take o)≠0:=by
  obtain ⟨e1,e2⟩:=val_div xs h o (by omega)
  have e3:=val_drop xs o ho
  rw [hX,Int.toNat_natCast] at e3
  have e:=split32 s hs
  have hp:0 < 4294967296 ^ o:=Nat.pow_pos (by decide)
  have e4:val (xs.drop o) % 2 ^ s = X % 2 ^ s:=by
    have:(4294967296:Nat) * val (xs.drop (o + 1)) = 2 ^ s * (2 ^ (32 - s) * val (xs.drop (o + 1))):=by rw [← Nat.mul_assoc,← e]
    rw [e3,this,Nat.add_mul_mod_self_left]
  rw [Nat.mod_mul,e1,e2,e4]
  constructor
  · intro h1
    by_cases c:X % 2 ^ s = 0
    · right;rw [c] at h1;simpa using h1
    · exact Or.inl c
  · rintro (h1 | h1) h2
    · have:0 < 4294967296 ^ o * (X % 2 ^ s):=Nat.mul_pos hp (by omega)
      omega
    · omega
theorem lost_word (X s:Nat) (hs:s < 32):X * 2 ^ (31 - s) % 4294967296 * 2 % 4294967296 = X % 2 ^ s * 2 ^ (32 - s):=by
  have e:=split32 s hs
  rw [Nat.mod_mul_mod,Nat.mul_assoc,← Nat.pow_succ,show (31 - s).succ = 32 - s from by omega,e,Nat.mul_mod_mul_right]
theorem right_word (ys:List Int) (h:Wd ys) (k s X Y:Nat) (hs:s < 32) (hk:k < ys.length) (hX:ys.getD k 0 = (X:Int)) (hY:ys.getD (k + 1) 0 = (Y:Int)):val ys / 2 ^ s / 4294967296 ^ k % 4294967296 = (X + Y * 4294967296) / 2 ^ s % 4294967296:=by
  have hX32:=h k
  rw [hX] at hX32
  by_cases c:k + 1 < ys.length
  · rw [low_word ys h k s X Y hs c hX hY]
    exact (shr_word (X + Y * 4294967296) X Y 0 s hs (by omega) (by omega)).symm
  · have hY0:Y = 0:=by
      have:ys.getD (k + 1) 0 = 0:=by simp [List.getD,List.getElem?_eq_none (by omega:ys.length≤k + 1)]
      omega
    rw [low_last ys h k s X (by omega) hX,hY0,Nat.zero_mul,Nat.add_zero]
    exact (Nat.mod_eq_of_lt (Nat.lt_of_le_of_lt (Nat.div_le_self _ _) (by omega))).symm

theorem subt_step (us ys:List Int) (i k O b b' H low D y u X V0:Nat) (hk:i + k < us.length) (hu:us.getD (i + k) 0 = (u:Int)) (hy:(ys.getD k 0).toNat = y) (hO:O + y * X = low + 4294967296 * H) (hD:D + (low + b) = u + b' * 4294967296) (h:val us + val (ys.take k) * X * 4294967296 ^ i = V0 + (O + b) * 4294967296 ^ (i + k)) :
    val (us.set (i + k) (D:Int)) + val (ys.take (k + 1)) * X * 4294967296 ^ i = V0 + (H + b') * 4294967296 ^ (i + (k + 1)):=by
  have h1:=val_set us (i + k) (D:Int) hk
  rw [hu,Int.toNat_natCast,Int.toNat_natCast] at h1
  have hg:=mul_grow ys X i k
  rw [hy] at hg
  rw [hg,← Nat.add_assoc i k 1,Nat.pow_succ]
  generalize 4294967296 ^ (i + k) = P at h1 h ⊢
  have e1:=congrArg (· * P) hO
  have e2:=congrArg (· * P) hD
  simp only [Nat.add_mul] at e1 e2 h
  have e3:(H + b') * (P * 4294967296) = 4294967296 * H * P + b' * 4294967296 * P:=by
    rw [Nat.add_mul]
    congr 1
    · simp only [Nat.mul_comm,Nat.mul_left_comm]
    · rw [Nat.mul_comm P,Nat.mul_assoc]
  rw [e3]
  omega
def trialN (head u v1 v0:Nat):Nat:=min ((head * 4294967296 + u) / (v1 * 4294967296 + v0)) 4294967295
theorem trial_le (q r v1 v0 u head:Nat) (h:q * v1 + r = head) (hv:0 < v1):q≤(head * 4294967296 + u) / (v1 * 4294967296 + v0) ↔ q * v0≤r * 4294967296 + u:=by
  rw [Nat.le_div_iff_mul_le (by omega),← h,Nat.mul_add,Nat.add_mul,Nat.mul_assoc]
  omega
def TI (head u v1 v0 q r:Nat):Prop:=q * v1 + r = head∧trialN head u v1 v0≤q∧q≤4294967297∧r < 8589934592∧(4294967296≤q→r < 4294967296)
def TA (head u v1 v0:Nat):Prop:=2147483648≤v1∧v1 < 4294967296∧v0 < 4294967296∧u < 4294967296∧head≤v1 * 4294967296 + v0
theorem TI.start {head u v1 v0:Nat} (h:TA head u v1 v0):TI head u v1 v0 (head / v1) (head % v1):=by
  obtain ⟨h1,h2,h3,h4,h5⟩:=h
  obtain ⟨q0,hq0⟩:∃ q0,q0 = head / v1:=⟨_,rfl⟩
  obtain ⟨r0,hr0⟩:∃ r0,r0 = head % v1:=⟨_,rfl⟩
  rw [← hq0,← hr0]
  have hqr:q0 * v1 + r0 = head:=by rw [hq0,hr0,Nat.mul_comm];exact Nat.div_add_mod head v1
  have hr1:r0 < v1:=by rw [hr0];exact Nat.mod_lt _ (by omega)
  have hq1:q0≤4294967297:=by
    have:head / v1 < 4294967298:=by rw [Nat.div_lt_iff_lt_mul (by omega)];omega
    omega
  refine ⟨hqr, ?_,hq1,by omega,fun _=>by omega⟩
  unfold trialN
  by_cases c:4294967295≤q0
  · exact Nat.le_trans (Nat.min_le_right _ _) c
  · have:(head * 4294967296 + u) / (v1 * 4294967296 + v0)≤q0:=by
      by_cases d:(head * 4294967296 + u) / (v1 * 4294967296 + v0)≤q0
      · exact d
      · exfalso
        have e:=(Nat.le_div_iff_mul_le (by omega:0 < v1 * 4294967296 + v0) (x:=q0 + 1) (y:=head * 4294967296 + u)).1 (by omega)
        rw [Nat.add_mul,Nat.one_mul,Nat.mul_add,← Nat.mul_assoc] at e
        omega
    exact Nat.le_trans (Nat.min_le_left _ _) this
theorem TI.step {head u v1 v0 q r:Nat} (h:TA head u v1 v0) (t:TI head u v1 v0 q r) (hr:r < 4294967296) (hq:4294967296≤q∨r * 4294967296 + u < q * v0):1≤q∧TI head u v1 v0 (q - 1) (r + v1):=by
  obtain ⟨h1,h2,h3,h4,h5⟩:=h
  obtain ⟨t1,t2,t3,t4,t5⟩:=t
  have hle:=trial_le q r v1 v0 u head t1 (by omega)
  have q1:1≤q:=by
    cases hq with
    | inl a=>omega
    | inr a =>
      by_cases e:q = 0
      · rw [e] at a;omega
      · omega
  obtain ⟨q',hq'⟩:∃ q',q' = q - 1:=⟨_,rfl⟩
  have hqq:q = q' + 1:=by omega
  rw [← hq']
  have e1:q' * v1 + (r + v1) = head:=by rw [hqq,Nat.add_mul,Nat.one_mul] at t1;omega
  have e2:trialN head u v1 v0≤q':=by
    unfold trialN at t2 ⊢
    cases hq with
    | inl a=>omega
    | inr a =>
      have:¬ (q≤(head * 4294967296 + u) / (v1 * 4294967296 + v0)):=fun e=>by have:=hle.1 e;omega
      omega
  clear hle t2 hq t5 t1
  refine ⟨q1,e1,e2,by omega,by omega,fun hge=>?_⟩
  obtain ⟨d,hd⟩:∃ d,q' = 4294967296 + d:=⟨q' - 4294967296,by omega⟩
  rw [hd,Nat.add_mul] at e1
  omega
theorem TI.stop {head u v1 v0 q r:Nat} (h:TA head u v1 v0) (t:TI head u v1 v0 q r) (hr:4294967296≤r∨(q < 4294967296∧q * v0≤r * 4294967296 + u)):q = trialN head u v1 v0:=by
  obtain ⟨h1,h2,h3,h4,h5⟩:=h
  obtain ⟨t1,t2,t3,t4,t5⟩:=t
  have hle:=trial_le q r v1 v0 u head t1 (by omega)
  have hq:q < 4294967296:=by
    cases hr with
    | inl a =>
      by_cases e:4294967296≤q
      · have:=t5 e;omega
      · omega
    | inr a=>exact a.1
  have hm:q * v0≤r * 4294967296 + u:=by
    cases hr with
    | inl a =>
      have e1:q * v0≤4294967296 * 4294967296:=Nat.mul_le_mul (by omega) (by omega)
      omega
    | inr a=>exact a.2
  have:=hle.2 hm
  unfold trialN at t2 ⊢
  omega
theorem TI.bounds {head u v1 v0 q r:Nat} (t:TI head u v1 v0 q r):q≤4294967297∧r < 8589934592:=⟨t.2.2.1,t.2.2.2.1⟩
theorem TA.bounds {head u v1 v0:Nat} (h:TA head u v1 v0):0 < v1∧v1 < 4294967296∧v0 < 4294967296∧u < 4294967296∧head < 18446744073709551616:=by
  obtain ⟨h1,h2,h3,h4,h5⟩:=h
  exact ⟨by omega,h2,h3,h4,by omega⟩
theorem mul64 {q v:Nat} (hq:q < 4294967296) (hv:v < 4294967296):q * v < 18446744073709551616:=by
  have:q * v≤4294967295 * 4294967295:=Nat.mul_le_mul (by omega) (by omega)
  omega
theorem trialN_lt (head u v1 v0:Nat):trialN head u v1 v0 < 4294967296:=by unfold trialN;omega
theorem trial_near (L D P lowL lowD head u v1 v0:Nat) (hL:L = lowL + (head * 4294967296 + u) * P) (hlL:lowL < P) (hD:D = lowD + (v1 * 4294967296 + v0) * P) (hlD:lowD < P) (hv:2147483648≤v1) (hlt:L < 4294967296 * D) :
    L / D≤trialN head u v1 v0∧trialN head u v1 v0≤L / D + 1:=by
  obtain ⟨V,hV⟩:∃ V,V = v1 * 4294967296 + v0:=⟨_,rfl⟩
  obtain ⟨U,hU⟩:∃ U,U = head * 4294967296 + u:=⟨_,rfl⟩
  have hVb:4294967296≤V:=by omega
  unfold trialN
  rw [← hU] at hL ⊢
  rw [← hV] at hD ⊢
  clear hV hU hv
  have hDp:0 < D:=by
    have:1 * P≤V * P:=Nat.mul_le_mul_right P (by omega)
    omega
  obtain ⟨Q,hQ⟩:∃ Q,Q = L / D:=⟨_,rfl⟩
  have hQB:Q < 4294967296:=by rw [hQ];exact (Nat.div_lt_iff_lt_mul hDp).2 hlt
  have hQL:Q * D≤L:=by rw [hQ];exact Nat.div_mul_le_self L D
  rw [← hQ]
  have hQT:Q≤U / V:=by
    rw [Nat.le_div_iff_mul_le (by omega)]
    have e1:Q * V * P≤Q * D:=by rw [Nat.mul_assoc];exact Nat.mul_le_mul_left Q (by omega)
    have e2:Q * V * P < (U + 1) * P:=by rw [Nat.add_mul];omega
    have:=Nat.lt_of_mul_lt_mul_right e2
    omega
  refine ⟨by omega, ?_⟩
  obtain ⟨t,ht⟩:∃ t,t = min (U / V) 4294967295:=⟨_,rfl⟩
  rw [← ht]
  by_cases t0:t≤1
  · omega
  · obtain ⟨s,rfl⟩:∃ s,t = s + 1:=⟨t - 1,by omega⟩
    have hs:s≤Q:=by
      rw [hQ,Nat.le_div_iff_mul_le hDp]
      have e1:(s + 1) * V≤U:=by
        have:s + 1≤U / V:=by omega
        exact (Nat.le_div_iff_mul_le (by omega)).1 this
      have e2:(s + 1) * V * P≤U * P:=Nat.mul_le_mul_right P e1
      have e3:s * D≤s * ((V + 1) * P):=Nat.mul_le_mul_left s (by rw [hD,Nat.add_mul];omega)
      have e4:s * ((V + 1) * P)≤(s + 1) * V * P:=by
        rw [← Nat.mul_assoc]
        refine Nat.mul_le_mul_right P ?_
        rw [Nat.mul_add,Nat.add_mul]
        omega
      omega
    omega
theorem mod_same (X Y c d P:Nat) (hX:X < P) (hY:Y < P) (h:X + c * P = Y + d * P):X = Y:=by
  have e:=congrArg (· % P) h
  simp only [Nat.add_mul_mod_self_right] at e
  rwa [Nat.mod_eq_of_lt hX,Nat.mod_eq_of_lt hY] at e
theorem take_both (us zs:List Int) (k a b:Nat) (hl:us.length = zs.length) (hs:∀ j,k≤j→us.getD j 0 = zs.getD j 0) (h:val us + a = val zs + b):val (us.take k) + a = val (zs.take k) + b:=by
  have e:∀ n,val (us.take (k + n)) + val (zs.take k) = val (zs.take (k + n)) + val (us.take k):=by
    intro n
    induction n with
    | zero=>rw [Nat.add_zero];omega
    | succ n ih =>
      rw [← Nat.add_assoc,val_take_succ,val_take_succ,hs (k + n) (by omega)]
      omega
  have e1:=e us.length
  rw [List.take_of_length_le (i:=k + us.length) (l:=us) (by omega),List.take_of_length_le (i:=k + us.length) (l:=zs) (by omega)] at e1
  omega
theorem took_right (L V X i m lo z C Q:Nat) (hlo:lo < 4294967296 ^ (i + m)) (hV:V < 4294967296 ^ m) (hV0:0 < V) (hQ:Q = L / (V * 4294967296 ^ i)) (hX:Q≤X) (h:lo + V * X * 4294967296 ^ i + z * 4294967296 ^ (i + m) = L + C * 4294967296 ^ (i + m)) (hz:C≤z):X = Q∧lo = L % (V * 4294967296 ^ i):=by
  have hP:4294967296 ^ (i + m) = 4294967296 ^ m * 4294967296 ^ i:=by rw [Nat.pow_add,Nat.mul_comm]
  have hG:0 < 4294967296 ^ i:=Nat.pow_pos (by omega)
  obtain ⟨D,hD⟩:∃ D,D = V * 4294967296 ^ i:=⟨_,rfl⟩
  have hDp:0 < D:=by rw [hD];exact Nat.mul_pos hV0 hG
  have hDP:D < 4294967296 ^ (i + m):=by rw [hD,hP];exact Nat.mul_lt_mul_of_pos_right hV hG
  have e1:V * X * 4294967296 ^ i = D * X:=by rw [hD,Nat.mul_right_comm]
  rw [e1] at h
  rw [← hD] at hQ ⊢
  generalize 4294967296 ^ (i + m) = P at *
  have e2:C * P≤z * P:=Nat.mul_le_mul_right P hz
  have hXQ:X≤Q:=by rw [hQ,Nat.le_div_iff_mul_le hDp,Nat.mul_comm];omega
  have hXe:X = Q:=by omega
  subst hXe
  have hdm:=Nat.div_add_mod L D
  rw [← hQ] at hdm
  have hml:=Nat.mod_lt L hDp
  refine ⟨rfl, ?_⟩
  have:lo + z * P = L % D + C * P:=by omega
  exact mod_same _ _ _ _ P hlo (by omega) this
theorem took_back (L V X i m lo lo2 c z C Q:Nat) (hlo:lo < 4294967296 ^ (i + m)) (hlo2:lo2 < 4294967296 ^ (i + m)) (hV:V < 4294967296 ^ m) (hV0:0 < V) (hQ:Q = L / (V * 4294967296 ^ i)) (hX:Q≤X) (hX2:X≤Q + 1) (h:lo + V * X * 4294967296 ^ i + z * 4294967296 ^ (i + m) = L + C * 4294967296 ^ (i + m)) (hz:z < C) (hb:lo2 + c * 4294967296 ^ (i + m) = lo + V * 4294967296 ^ i):1≤X∧X - 1 = Q∧lo2 = L % (V * 4294967296 ^ i):=by
  have hP:4294967296 ^ (i + m) = 4294967296 ^ m * 4294967296 ^ i:=by rw [Nat.pow_add,Nat.mul_comm]
  have hG:0 < 4294967296 ^ i:=Nat.pow_pos (by omega)
  obtain ⟨D,hD⟩:∃ D,D = V * 4294967296 ^ i:=⟨_,rfl⟩
  have hDp:0 < D:=by rw [hD];exact Nat.mul_pos hV0 hG
  have hDP:D < 4294967296 ^ (i + m):=by rw [hD,hP];exact Nat.mul_lt_mul_of_pos_right hV hG
  have e1:V * X * 4294967296 ^ i = D * X:=by rw [hD,Nat.mul_right_comm]
  rw [e1] at h
  rw [← hD] at hQ hb ⊢
  generalize 4294967296 ^ (i + m) = P at *
  have e2:(z + 1) * P≤C * P:=Nat.mul_le_mul_right P hz
  rw [Nat.add_mul,Nat.one_mul] at e2
  have hdm:=Nat.div_add_mod L D
  rw [← hQ] at hdm
  have hml:=Nat.mod_lt L hDp
  have hXQ:X≠Q:=fun e=>by rw [e] at h;omega
  have hXe:X = Q + 1:=by omega
  subst hXe
  rw [Nat.mul_add,Nat.mul_one] at h
  refine ⟨by omega,by omega, ?_⟩
  have:lo2 + (z + c) * P = L % D + C * P:=by rw [Nat.add_mul];omega
  exact mod_same _ _ _ _ P hlo2 (by omega) this
theorem val_top3 (zs:List Int) (k a b c:Nat) (ha:(zs.getD k 0).toNat = a) (hb:(zs.getD (k + 1) 0).toNat = b) (hc:(zs.getD (k + 2) 0).toNat = c):val (zs.take (k + 3)) = val (zs.take k) + ((c * 4294967296 + b) * 4294967296 + a) * 4294967296 ^ k:=by
  rw [show k + 3 = k + 2 + 1 from rfl,val_take_succ,show k + 2 = k + 1 + 1 from rfl,val_take_succ,val_take_succ,ha,hb,hc]
  simp only [Nat.pow_succ]
  generalize 4294967296 ^ k = P
  have e:((c * 4294967296 + b) * 4294967296 + a) * P = c * P * 4294967296 * 4294967296 + b * P * 4294967296 + a * P:=by simp only [Nat.add_mul,Nat.mul_right_comm _ _ P]
  rw [e]
  simp only [← Nat.mul_assoc]
  omega
theorem val_top2 (zs:List Int) (k a b:Nat) (ha:(zs.getD k 0).toNat = a) (hb:(zs.getD (k + 1) 0).toNat = b):val (zs.take (k + 2)) = val (zs.take k) + (b * 4294967296 + a) * 4294967296 ^ k:=by
  rw [show k + 2 = k + 1 + 1 from rfl,val_take_succ,val_take_succ,ha,hb]
  simp only [Nat.pow_succ]
  generalize 4294967296 ^ k = P
  have e:(b * 4294967296 + a) * P = b * P * 4294967296 + a * P:=by simp only [Nat.add_mul,Nat.mul_right_comm _ _ P]
  rw [e]
  simp only [← Nat.mul_assoc]
  omega
theorem head_fits (zs ys:List Int) (hwz:Wd zs) (hwy:Wd ys) (i k a b c v1 v0:Nat) (hl:ys.length = k + 2) (ha:(zs.getD (i + k) 0).toNat = a) (hb:(zs.getD (i + k + 1) 0).toNat = b) (hc:(zs.getD (i + k + 2) 0).toNat = c) (h0:(ys.getD k 0).toNat = v0) (h1:(ys.getD (k + 1) 0).toNat = v1) (hv:2147483648≤v1) (hlt:val (zs.take (i + ys.length + 1)) < val ys * 4294967296 ^ (i + 1)) :
    TA (c * 4294967296 + b) a v1 v0∧val (zs.take (i + ys.length + 1)) / (val ys * 4294967296 ^ i)≤trialN (c * 4294967296 + b) a v1 v0∧trialN (c * 4294967296 + b) a v1 v0≤val (zs.take (i + ys.length + 1)) / (val ys * 4294967296 ^ i) + 1:=by
  have wa:=hwz (i + k)
  have w1:=hwy (k + 1)
  have w0:=hwy k
  have eL:val (zs.take (i + ys.length + 1)) = val (zs.take (i + k)) + ((c * 4294967296 + b) * 4294967296 + a) * 4294967296 ^ (i + k):=by rw [hl,show i + (k + 2) + 1 = i + k + 3 from by omega];exact val_top3 zs (i + k) a b c ha hb hc
  have eY:val ys = val (ys.take k) + (v1 * 4294967296 + v0) * 4294967296 ^ k:=by
    have:=val_top2 ys k v0 v1 h0 h1
    rwa [List.take_of_length_le (by omega)] at this
  have hlL:val (zs.take (i + k)) < 4294967296 ^ (i + k):=val_take_lt zs hwz (i + k)
  have hlY:val (ys.take k) < 4294967296 ^ k:=val_take_lt ys hwy k
  have hG:0 < 4294967296 ^ i:=Nat.pow_pos (by omega)
  have eD:val ys * 4294967296 ^ i = val (ys.take k) * 4294967296 ^ i + (v1 * 4294967296 + v0) * 4294967296 ^ (i + k):=by
    rw [eY,Nat.add_mul,Nat.pow_add,Nat.mul_assoc,Nat.mul_comm (4294967296 ^ k)]
  have hlD:val (ys.take k) * 4294967296 ^ i < 4294967296 ^ (i + k):=by
    rw [Nat.pow_add,Nat.mul_comm (4294967296 ^ i)];exact Nat.mul_lt_mul_of_pos_right hlY hG
  have hlt2:val (zs.take (i + ys.length + 1)) < 4294967296 * (val ys * 4294967296 ^ i):=by
    rw [Nat.pow_succ] at hlt
    rw [Nat.mul_left_comm,Nat.mul_comm 4294967296]
    exact hlt
  refine ⟨⟨hv,by omega,by omega,by omega, ?_⟩,trial_near _ _ (4294967296 ^ (i + k)) _ _ _ _ _ _ eL hlL eD hlD hv hlt2⟩
  rw [eL,eD] at hlt2
  generalize 4294967296 ^ (i + k) = P at *
  by_cases e:c * 4294967296 + b≤v1 * 4294967296 + v0
  · exact e
  · exfalso
    have e1:(v1 * 4294967296 + v0 + 1) * 4294967296 * P≤((c * 4294967296 + b) * 4294967296 + a) * P:=Nat.mul_le_mul_right P (by omega)
    rw [Nat.add_mul,Nat.add_mul,Nat.mul_right_comm] at e1
    omega
theorem back_step (us ys:List Int) (i k C C' S y u V0:Nat) (hk:i + k < us.length) (hu:us.getD (i + k) 0 = (u:Int)) (hy:(ys.getD k 0).toNat = y) (hS:S + C' * 4294967296 = u + y + C) (h:val us + C * 4294967296 ^ (i + k) = V0 + val (ys.take k) * 4294967296 ^ i) :
    val (us.set (i + k) (S:Int)) + C' * 4294967296 ^ (i + (k + 1)) = V0 + val (ys.take (k + 1)) * 4294967296 ^ i:=by
  have h1:=val_set us (i + k) (S:Int) hk
  rw [hu,Int.toNat_natCast,Int.toNat_natCast] at h1
  have e2:val (ys.take (k + 1)) * 4294967296 ^ i = val (ys.take k) * 4294967296 ^ i + y * 4294967296 ^ (i + k):=by
    rw [val_take_succ,hy,Nat.add_mul,Nat.pow_add,Nat.mul_assoc,Nat.mul_comm (4294967296 ^ k)]
  rw [e2,← Nat.add_assoc i k 1,Nat.pow_succ]
  generalize 4294967296 ^ (i + k) = P at *
  have e1:=congrArg (· * P) hS
  simp only [Nat.add_mul] at e1
  have e3:C' * (P * 4294967296) = C' * 4294967296 * P:=by rw [Nat.mul_comm P,Nat.mul_assoc]
  rw [e3]
  omega
theorem off_eq (us zs ys:List Int) (i O b X:Nat) (hl:us.length = zs.length) (hs:∀ j,i + ys.length≤j→us.getD j 0 = zs.getD j 0) (hv:val us + val ys * X * 4294967296 ^ i = val zs + (O + b) * 4294967296 ^ (i + ys.length)) :
    val (us.take (i + ys.length)) + val ys * X * 4294967296 ^ i + (zs.getD (i + ys.length) 0).toNat * 4294967296 ^ (i + ys.length) = val (zs.take (i + ys.length + 1)) + (O + b) * 4294967296 ^ (i + ys.length):=by
  have h1:=take_both us zs (i + ys.length) _ _ hl hs hv
  rw [val_take_succ]
  omega
theorem off_right (us zs ys:List Int) (i O b X:Nat) (hl:us.length = zs.length) (hwu:Wd us) (hwy:Wd ys) (hs:∀ j,i + ys.length≤j→us.getD j 0 = zs.getD j 0) (hv:val us + val ys * X * 4294967296 ^ i = val zs + (O + b) * 4294967296 ^ (i + ys.length)) (hV0:0 < val ys) (hX:val (zs.take (i + ys.length + 1)) / (val ys * 4294967296 ^ i)≤X) (hz:¬ ((zs.getD (i + ys.length) 0).toNat < O + b)) :
    X = val (zs.take (i + ys.length + 1)) / (val ys * 4294967296 ^ i)∧val (us.take (i + ys.length)) = val (zs.take (i + ys.length + 1)) % (val ys * 4294967296 ^ i) :=
  took_right _ (val ys) X i ys.length _ _ (O + b) _ (val_take_lt us hwu _) (val_lt ys hwy) hV0 rfl hX (off_eq us zs ys i O b X hl hs hv) (by omega)
theorem off_back (us vs zs ys:List Int) (i O b X C:Nat) (hl:us.length = zs.length) (hl2:vs.length = us.length) (hwu:Wd us) (hwv:Wd vs) (hwy:Wd ys) (hs:∀ j,i + ys.length≤j→us.getD j 0 = zs.getD j 0) (hv:val us + val ys * X * 4294967296 ^ i = val zs + (O + b) * 4294967296 ^ (i + ys.length)) (hV0:0 < val ys) (hX:val (zs.take (i + ys.length + 1)) / (val ys * 4294967296 ^ i)≤X) (hX2:X≤val (zs.take (i + ys.length + 1)) / (val ys * 4294967296 ^ i) + 1) (hz:(zs.getD (i + ys.length) 0).toNat < O + b) (hs2:∀ j,i + ys.length≤j→vs.getD j 0 = us.getD j 0) (hv2:val vs + C * 4294967296 ^ (i + ys.length) = val us + val ys * 4294967296 ^ i) :
    1≤X∧X - 1 = val (zs.take (i + ys.length + 1)) / (val ys * 4294967296 ^ i)∧val (vs.take (i + ys.length)) = val (zs.take (i + ys.length + 1)) % (val ys * 4294967296 ^ i) :=
  took_back _ (val ys) X i ys.length _ _ C _ (O + b) _ (val_take_lt us hwu _) (val_take_lt vs hwv _) (val_lt ys hwy) hV0 rfl hX hX2 (off_eq us zs ys i O b X hl hs hv) hz (take_both vs us _ _ _ hl2 hs2 hv2)
theorem val_pos_top (ys:List Int) (k:Nat) (h:(ys.getD k 0).toNat≠0):0 < val ys:=by
  by_cases e:k < ys.length
  · have h1:=val_set ys k 0 e
    have h2:0 < (ys.getD k 0).toNat * 4294967296 ^ k:=Nat.mul_pos (by omega) (Nat.pow_pos (by omega))
    simp only [Int.toNat_zero,Nat.zero_mul,Nat.add_zero] at h1
    omega
  · exfalso
    apply h
    simp [List.getD,List.getElem?_eq_none (show ys.length≤k from by omega)]
theorem top_le (ys:List Int) (hwy:Wd ys) (k t:Nat) (hl:ys.length = k + 1) (ht:(ys.getD k 0).toNat = t):t * 4294967296 ^ k≤val ys∧val ys < (t + 1) * 4294967296 ^ k:=by
  have h1:=val_take_succ ys k
  rw [List.take_of_length_le (by omega),ht] at h1
  have h2:=val_take_lt ys hwy k
  rw [Nat.add_mul,Nat.one_mul]
  omega
theorem blen_range (t s:Nat) (h0:t≠0) (h1:t < 4294967296) (hs:s = 32 - blen t):s < 32∧2147483648≤t * 2 ^ s∧(t + 1) * 2 ^ s≤4294967296∧blen t≤32:=by
  obtain ⟨a,b,c⟩:=blen_spec t h0
  have d:blen t≤32:=blen_lt t 32 h1
  have e1:(2:Nat) ^ (blen t - 1) * 2 ^ s = 2147483648:=by rw [← Nat.pow_add,show blen t - 1 + s = 31 from by omega]
  have e2:(2:Nat) ^ (blen t) * 2 ^ s = 4294967296:=by rw [← Nat.pow_add,show blen t + s = 32 from by omega]
  refine ⟨by omega, ?_, ?_,d⟩
  · rw [← e1];exact Nat.mul_le_mul_right _ a
  · rw [← e2];exact Nat.mul_le_mul_right _ b
theorem norm_top (ys:List Int) (hwy:Wd ys) (k t s:Nat) (hl:ys.length = k + 1) (ht:(ys.getD k 0).toNat = t) (h0:t≠0) (hs:s = 32 - blen t) :
    (dig (val ys * 2 ^ s)).length = k + 1∧2147483648≤((dig (val ys * 2 ^ s)).getD k 0).toNat:=by
  have h1:t < 4294967296:=by have:=hwy k;omega
  obtain ⟨a1,a2,a3,_⟩:=blen_range t s h0 h1 hs
  obtain ⟨b1,b2⟩:=top_le ys hwy k t hl ht
  obtain ⟨V,hV⟩:∃ V,V = val ys * 2 ^ s:=⟨_,rfl⟩
  rw [← hV]
  have c1:2147483648 * 4294967296 ^ k≤V:=by
    rw [hV]
    refine Nat.le_trans (Nat.mul_le_mul_right _ a2) ?_
    rw [Nat.mul_right_comm]
    exact Nat.mul_le_mul_right _ b1
  have c2:V < 4294967296 ^ (k + 1):=by
    rw [hV,Nat.pow_succ,Nat.mul_comm (4294967296 ^ k)]
    refine Nat.lt_of_lt_of_le (Nat.mul_lt_mul_of_pos_right b2 (Nat.pow_pos (by omega))) ?_
    rw [Nat.mul_right_comm]
    exact Nat.mul_le_mul_right _ a3
  have hlen:(dig V).length = k + 1:=by
    have d1:k < len32 V:=len32_gt V k (Nat.le_trans (by omega) c1)
    have d2:¬ (k + 1 < len32 V):=fun e=>by have:=len32_lt V (k + 1) e;omega
    have:len32 V = k + 1:=by omega
    exact this
  refine ⟨hlen, ?_⟩
  have e1:=(top_le (dig V) (Wd_dig V) k _ hlen rfl).2
  rw [val_dig] at e1
  have e2:2147483648 * 4294967296 ^ k < (((dig V).getD k 0).toNat + 1) * 4294967296 ^ k:=Nat.lt_of_le_of_lt c1 e1
  have:=Nat.lt_of_mul_lt_mul_right e2
  omega
theorem dw_start (xs ys:List Int) (hwx:Wd xs) (hwy:Wd ys) (k t s:Nat) (hl:ys.length = k + 1) (ht:(ys.getD k 0).toNat = t) (h0:t≠0) (hle:ys.length≤xs.length):val xs * 2 ^ s < val ys * 2 ^ s * 4294967296 ^ (xs.length - ys.length + 1):=by
  have h1:=val_lt xs hwx
  have h2:=(top_le ys hwy k t hl ht).1
  have h3:4294967296 ^ k≤val ys:=Nat.le_trans (Nat.le_mul_of_pos_left _ (by omega)) h2
  rw [Nat.mul_right_comm]
  refine Nat.mul_lt_mul_of_pos_right (Nat.lt_of_lt_of_le h1 ?_) (Nat.pow_pos (by omega))
  refine Nat.le_trans ?_ (Nat.mul_le_mul_right _ h3)
  rw [← Nat.pow_add]
  exact Nat.pow_le_pow_right (by omega) (by omega)
theorem dw_step (qs us us':List Int) (V r m d X:Nat) (hr:r < qs.length) (h0:qs.getD r 0 = 0) (hd:d = val (us.take (r + m + 1)) / (V * 4294967296 ^ r)) (hlo:val (us'.take (r + m)) = val (us.take (r + m + 1)) % (V * 4294967296 ^ r)) (hV:0 < V) (hlt:val (us.take (r + m + 1)) < V * 4294967296 ^ (r + 1)) (h:val qs * V + val (us.take (r + m + 1)) = X) :
    val (qs.set r (d:Int)) * V + val (us'.take (r + m)) = X∧val (us'.take (r + m)) < V * 4294967296 ^ r∧d < 4294967296:=by
  have h1:=val_set qs r (d:Int) hr
  rw [h0,Int.toNat_natCast] at h1
  simp only [Int.toNat_zero,Nat.zero_mul,Nat.add_zero] at h1
  have hD:0 < V * 4294967296 ^ r:=Nat.mul_pos hV (Nat.pow_pos (by omega))
  have h2:=Nat.div_add_mod (val (us.take (r + m + 1))) (V * 4294967296 ^ r)
  rw [← hd,← hlo] at h2
  refine ⟨?_,by rw [hlo];exact Nat.mod_lt _ hD, ?_⟩
  · rw [h1,Nat.add_mul,Nat.mul_right_comm d,Nat.mul_assoc d,Nat.mul_comm d,← h]
    omega
  · rw [hd,Nat.div_lt_iff_lt_mul hD]
    rw [Nat.pow_succ,← Nat.mul_assoc,Nat.mul_comm] at hlt
    exact hlt
theorem dw_end (A V0 s q l:Nat) (h:q * (V0 * 2 ^ s) + l = A * 2 ^ s) (hl:l < V0 * 2 ^ s):q = A / V0∧l / 2 ^ s = A % V0:=by
  have hp:0 < 2 ^ s:=Nat.pow_pos (by omega)
  have h1:A * 2 ^ s / (V0 * 2 ^ s) = A / V0:=Nat.mul_div_mul_right A V0 hp
  have h2:A * 2 ^ s % (V0 * 2 ^ s) = A % V0 * 2 ^ s:=Nat.mul_mod_mul_right _ _ _
  have h3:A * 2 ^ s / (V0 * 2 ^ s) = q:=by
    rw [← h,Nat.mul_comm q,Nat.mul_add_div (by omega),Nat.div_eq_of_lt hl,Nat.add_zero]
  have h4:A * 2 ^ s % (V0 * 2 ^ s) = l:=by
    rw [← h,Nat.mul_comm q,Nat.mul_add_mod,Nat.mod_eq_of_lt hl]
  refine ⟨by rw [← h1,h3], ?_⟩
  rw [← h4,h2,Nat.mul_div_cancel _ hp]
theorem bw_step (qs xs:List Int) (b r q' rest rest' x A:Nat) (hr:r < qs.length) (h0:qs.getD r 0 = 0) (hx:(xs.getD r 0).toNat = x) (hd:q' * b + rest' = rest * 4294967296 + x) (h:val qs * b + rest * 4294967296 ^ (r + 1) + val (xs.take (r + 1)) = A) :
    val (qs.set r (q':Int)) * b + rest' * 4294967296 ^ r + val (xs.take r) = A:=by
  have h1:=val_set qs r (q':Int) hr
  rw [h0,Int.toNat_natCast] at h1
  simp only [Int.toNat_zero,Nat.zero_mul,Nat.add_zero] at h1
  rw [val_take_succ,hx,Nat.pow_succ,← Nat.mul_assoc] at h
  rw [h1,Nat.add_mul,Nat.mul_right_comm q']
  generalize 4294967296 ^ r = P at *
  have e:=congrArg (· * P) hd
  simp only [Nat.add_mul] at e
  rw [Nat.mul_right_comm rest] at e
  omega
theorem div_word (rest x b:Nat) (hb:0 < b) (hr:rest < b):(rest * 4294967296 + x) / b * b + (rest * 4294967296 + x) % b = rest * 4294967296 + x∧(rest * 4294967296 + x) % b < b∧(x < 4294967296→(rest * 4294967296 + x) / b < 4294967296):=by
  refine ⟨by rw [Nat.mul_comm];exact Nat.div_add_mod _ _,Nat.mod_lt _ hb,fun hx=>?_⟩
  rw [Nat.div_lt_iff_lt_mul hb]
  have:(rest + 1) * 4294967296≤b * 4294967296:=Nat.mul_le_mul_right _ hr
  rw [Nat.mul_comm 4294967296]
  omega
theorem bw_end (q b r A:Nat) (h:q * b + r = A) (hr:r < b):q = A / b∧r = A % b:=by
  subst h
  rw [Nat.mul_comm q,Nat.mul_add_div (by omega),Nat.div_eq_of_lt hr,Nat.mul_add_mod,Nat.mod_eq_of_lt hr]
  exact ⟨rfl,rfl⟩
def IsRt (a s:Nat):Prop:=s * s≤a∧a < (s + 1) * (s + 1)
theorem IsRt.uniq {a s t:Nat} (h:IsRt a s) (k:IsRt a t):s = t:=by
  obtain ⟨h1,h2⟩:=h
  obtain ⟨k1,k2⟩:=k
  by_cases c:s < t
  · have:=Nat.mul_le_mul (show s + 1≤t from c) (show s + 1≤t from c)
    omega
  · by_cases d:t < s
    · have:=Nat.mul_le_mul (show t + 1≤s from d) (show t + 1≤s from d)
      omega
    · omega
def rtN (a:Nat):Nat:=if h:a = 0 then 0 else if (2 * rtN (a / 4) + 1) * (2 * rtN (a / 4) + 1)≤a then 2 * rtN (a / 4) + 1 else 2 * rtN (a / 4)
  termination_by a
  decreasing_by all_goals omega
theorem rtN_is (a:Nat):IsRt a (rtN a):=by
  induction a using Nat.strongRecOn with
  | ind a ih =>
    by_cases h:a = 0
    · subst h
      rw [rtN]
      simp [IsRt]
    · obtain ⟨h1,h2⟩:=ih (a / 4) (by omega)
      rw [rtN,dif_neg h]
      obtain ⟨t,ht⟩:∃ t,t = rtN (a / 4):=⟨_,rfl⟩
      rw [← ht] at h1 h2 ⊢
      have e1:2 * t * (2 * t) = 4 * (t * t):=by rw [Nat.mul_mul_mul_comm]
      have e2:(t + 1) * (t + 1) = t * t + 2 * t + 1:=by rw [Nat.add_mul,Nat.mul_add,Nat.one_mul];omega
      have e3:(2 * t + 1) * (2 * t + 1) = 4 * (t * t) + 4 * t + 1:=by rw [Nat.add_mul,Nat.mul_add,Nat.one_mul,e1];omega
      have e4:(2 * t + 1 + 1) * (2 * t + 1 + 1) = 4 * (t * t) + 8 * t + 4:=by
        rw [show 2 * t + 1 + 1 = 2 * (t + 1) from by omega,Nat.mul_mul_mul_comm,e2];omega
      by_cases c:(2 * t + 1) * (2 * t + 1)≤a
      · rw [if_pos c]
        refine ⟨c, ?_⟩
        rw [e4]
        omega
      · rw [if_neg c]
        refine ⟨?_,by omega⟩
        rw [e1]
        omega
theorem IsRt.eq {a s:Nat} (h:IsRt a s):s = rtN a:=h.uniq (rtN_is a)
def RI (v r e:Nat):Prop:=(∃ x,r = x * 2 ^ e)∧r + 2 ^ e≤4294967296∧r * r≤v∧v < (r + 2 ^ e) * (r + 2 ^ e)
theorem RI.start (v:Nat) (h:v < 18446744073709551616):RI v 0 32:=⟨⟨0,by simp⟩,by decide,by omega,by
  rw [Nat.zero_add,show (2:Nat) ^ 32 * 2 ^ 32 = 18446744073709551616 from by decide];exact h⟩
theorem RI.tries {v r e:Nat} (h:RI v r (e + 1)):r ||| 2 ^ e = r + 2 ^ e∧r + 2 ^ e < 4294967296∧(r + 2 ^ e) * (r + 2 ^ e) < 18446744073709551616∧r < 4294967296∧2 ^ e < 4294967296:=by
  obtain ⟨⟨x,hx⟩,h2,h3,h4⟩:=h
  have hp:0 < 2 ^ e:=Nat.pow_pos (by omega)
  rw [Nat.pow_succ] at h2 hx
  have h5:r + 2 ^ e < 4294967296:=by omega
  refine ⟨?_,h5,mul64 h5 h5,by omega,by omega⟩
  have:=or_low (2 ^ e) x (e + 1) (by rw [Nat.pow_succ];omega)
  rw [Nat.pow_succ,← hx] at this
  rw [Nat.or_comm,this]
  omega
theorem RI.up {v r e:Nat} (h:RI v r (e + 1)) (hle:(r + 2 ^ e) * (r + 2 ^ e)≤v):RI v (r + 2 ^ e) e:=by
  obtain ⟨⟨x,hx⟩,h2,h3,h4⟩:=h
  have e1:r + 2 ^ e + 2 ^ e = r + 2 ^ (e + 1):=by rw [Nat.pow_succ];omega
  exact ⟨⟨2 * x + 1,by rw [hx,Nat.pow_succ,Nat.add_mul,Nat.one_mul,Nat.mul_comm 2 x,Nat.mul_assoc,Nat.mul_comm 2]⟩,by rw [e1];exact h2,hle,by rw [e1];exact h4⟩
theorem RI.stay {v r e:Nat} (h:RI v r (e + 1)) (hle:¬ (r + 2 ^ e) * (r + 2 ^ e)≤v):RI v r e:=by
  obtain ⟨⟨x,hx⟩,h2,h3,h4⟩:=h
  have hp:0 < 2 ^ e:=Nat.pow_pos (by omega)
  rw [Nat.pow_succ] at h2
  exact ⟨⟨2 * x,by rw [hx,Nat.pow_succ,Nat.mul_comm 2 x,Nat.mul_assoc,Nat.mul_comm 2]⟩,by omega,h3,by omega⟩
theorem RI.done {v r:Nat} (h:RI v r 0):IsRt v r∧r < 4294967296:=by
  obtain ⟨⟨x,hx⟩,h2,h3,h4⟩:=h
  rw [Nat.pow_zero] at h2 h4
  exact ⟨⟨h3,h4⟩,by omega⟩
def rootN (a:Nat):List Int × Bool × Int:=if 16384 < len32 a then ([],false,2) else (dig (rtN a),decide (a = rtN a * rtN a),0)
theorem dig_len_zero (n:Nat):(dig n).length = 0 ↔ n = 0:=by
  constructor
  · intro e
    have:=List.length_eq_zero_iff.1 e
    have h:=val_dig n
    rw [this] at h
    exact h.symm
  · intro e
    rw [e,dig_zero];rfl
theorem wd1 (x:Nat) (h:x < 4294967296):Wd [(x:Int)]:=Wd.mk (by omega) Wd.nil
theorem dig_one:dig 1 = [1]:=by rw [dig_pos 1 (by decide)];simp [dig_zero]
theorem rem_val (xs:List Int) (hw:Wd xs) (o s X:Nat) (hs:s < 32) (ho:o < xs.length) (hX:(xs.getD o 0).toNat = X):val ((xs.take (o + 1)).set o ((X % 2 ^ s:Nat):Int)) = val xs % 2 ^ (32 * o + s):=by
  have hl:o < (xs.take (o + 1)).length:=by rw [List.length_take];omega
  have h1:=val_set (xs.take (o + 1)) o ((X % 2 ^ s:Nat):Int) hl
  have hg:(xs.take (o + 1)).getD o 0 = xs.getD o 0:=by simp [List.getD]
  rw [hg,hX,val_take_succ,hX,Int.toNat_natCast] at h1
  have h2:val ((xs.take (o + 1)).set o ((X % 2 ^ s:Nat):Int)) = val (xs.take o) + X % 2 ^ s * 4294967296 ^ o:=by omega
  obtain ⟨d1,d2⟩:=val_div xs hw o (by omega)
  have hdr:val (xs.drop o) = X + 4294967296 * val (xs.drop (o + 1)):=by
    rw [List.drop_eq_getElem_cons ho]
    have e:(xs.getD o 0) = xs[o]:=by simp [List.getD,ho]
    show (xs[o]).toNat + 4294967296 * val (xs.drop (o + 1)) = _
    rw [← e,hX]
  have hm:(X + 4294967296 * val (xs.drop (o + 1))) % 2 ^ s = X % 2 ^ s:=by
    rw [split32 s hs,Nat.mul_assoc,Nat.add_mul_mod_self_left]
  rw [h2,Nat.pow_add,← pow32,Nat.mod_mul,d1,d2,hdr,hm,Nat.mul_comm (4294967296 ^ o)]
theorem zimm (A P h m v t k q left S rest:Nat) (hP:0 < P) (hA:A = (h * P + m) * P + v) (hm:m < P) (hv:v < P) (hh:P * P≤h) (ht:IsRt h t) (hk:k = h - t * t) (hq:q * (2 * t) + left = k * P + m) (hl:left < 2 * t) (hS:S = t * P + q) (hr:rest = left * P + v) :
    (q * q≤rest→IsRt A S∧rest - q * q = A - S * S)∧(rest < q * q→1≤S∧IsRt A (S - 1)∧q * q≤rest + S + (S - 1)∧rest + S + (S - 1) - q * q = A - (S - 1) * (S - 1)):=by
  obtain ⟨t1,t2⟩:=ht
  have htP:P≤t:=by
    by_cases c:P≤t
    · exact c
    · exfalso
      have:=Nat.mul_le_mul (show t + 1≤P by omega) (show t + 1≤P by omega)
      omega
  have hk2:k≤2 * t:=by
    have e:(t + 1) * (t + 1) = t * t + 2 * t + 1:=by rw [Nat.add_mul,Nat.mul_add,Nat.one_mul];omega
    omega
  have hqP:q≤P:=by
    by_cases c:q≤P
    · exact c
    · exfalso
      have e1:(P + 1) * (2 * t)≤q * (2 * t):=Nat.mul_le_mul_right _ (by omega)
      have e2:k * P≤2 * t * P:=Nat.mul_le_mul_right _ hk2
      rw [Nat.add_mul,Nat.one_mul,Nat.mul_comm P] at e1
      omega
  have hqq:q * q≤S:=by
    have e1:q * q≤P * P:=Nat.mul_le_mul hqP hqP
    have e2:P * P≤t * P:=Nat.mul_le_mul_right _ htP
    omega
  -- S S + rest = A + q q
  have hSS:S * S + rest = A + q * q:=by
    have e0:h = t * t + k:=by omega
    have e1:S * S = t * t * P * P + 2 * t * q * P + q * q:=by
      rw [hS,Nat.add_mul,Nat.mul_add,Nat.mul_add]
      have a1:t * P * (t * P) = t * t * P * P:=by rw [Nat.mul_mul_mul_comm,← Nat.mul_assoc]
      have a2:t * P * q = t * q * P:=Nat.mul_right_comm _ _ _
      have a3:q * (t * P) = t * q * P:=by rw [Nat.mul_comm q,Nat.mul_right_comm]
      have a4:2 * t * q * P = t * q * P + t * q * P:=by rw [Nat.mul_assoc 2,Nat.mul_assoc 2];omega
      rw [a1,a2,a3,a4]
      omega
    have e2:A = t * t * P * P + (k * P + m) * P + v:=by
      rw [hA,e0]
      simp only [Nat.add_mul]
      omega
    have e3:(k * P + m) * P = 2 * t * q * P + left * P:=by
      rw [← hq,Nat.add_mul,Nat.mul_comm q]
    rw [e1,e2,e3,hr]
    omega
  have hrS:rest < 2 * S + 1:=by
    have e1:(left + 1) * P≤2 * t * P:=Nat.mul_le_mul_right _ hl
    rw [Nat.add_mul,Nat.one_mul,Nat.mul_assoc] at e1
    omega
  have hS1:1≤S:=by
    have:1 * 1≤t * P:=Nat.mul_le_mul (by omega) (by omega)
    omega
  have eS:(S + 1) * (S + 1) = S * S + 2 * S + 1:=by rw [Nat.add_mul,Nat.mul_add,Nat.one_mul];omega
  refine ⟨fun hc=>⟨⟨by omega,by omega⟩,by omega⟩,fun hc=>?_⟩
  obtain ⟨R,rfl⟩:∃ R,S = R + 1:=⟨S - 1,by omega⟩
  have eR:(R + 1) * (R + 1) = R * R + 2 * R + 1:=by rw [Nat.add_mul,Nat.mul_add,Nat.one_mul];omega
  rw [Nat.add_sub_cancel]
  exact ⟨by omega,⟨by omega,by omega⟩,by omega,by omega⟩
theorem quarters (A l:Nat) (h:2 ^ (4 * l)≤A):A = (A / 2 ^ (2 * l) * 2 ^ l + A / 2 ^ l % 2 ^ l) * 2 ^ l + A % 2 ^ l∧2 ^ l * 2 ^ l≤A / 2 ^ (2 * l):=by
  have e1:(2:Nat) ^ (2 * l) = 2 ^ l * 2 ^ l:=by rw [← Nat.pow_add];congr 1;omega
  have e2:(2:Nat) ^ (4 * l) = 2 ^ l * 2 ^ l * (2 ^ l * 2 ^ l):=by rw [← Nat.pow_add,← Nat.pow_add];congr 1;omega
  have hp:0 < 2 ^ l:=Nat.pow_pos (by omega)
  constructor
  · rw [e1,← Nat.div_div_eq_div_mul]
    have a1:=Nat.div_add_mod (A / 2 ^ l) (2 ^ l)
    have a2:=Nat.div_add_mod A (2 ^ l)
    rw [Nat.mul_comm] at a1 a2
    rw [a1,a2]
  · rw [e1,Nat.le_div_iff_mul_le (Nat.mul_pos hp hp),← e2]
    exact h
theorem rt_le (h:Nat):rtN h≤h:=by
  have h1:=(rtN_is h).1
  by_cases e:rtN h = 0
  · omega
  · have:rtN h * 1≤rtN h * rtN h:=Nat.mul_le_mul_left _ (by omega)
    omega
theorem half_le (A l:Nat):A / 2 ^ (2 * l) * 2 ^ l≤A:=by
  have e1:(2:Nat) ^ (2 * l) = 2 ^ l * 2 ^ l:=by rw [← Nat.pow_add];congr 1;omega
  have h1:A / 2 ^ (2 * l) * 2 ^ (2 * l)≤A:=Nat.div_mul_le_self _ _
  refine Nat.le_trans (Nat.mul_le_mul_left _ ?_) h1
  rw [e1]
  exact Nat.le_mul_of_pos_left _ (Nat.pow_pos (by omega))
theorem quarter (A:Nat) (h:18446744073709551616≤A):2 ^ (4 * ((blen A - 1) / 4))≤A∧1≤(blen A - 1) / 4∧2 * ((blen A - 1) / 4) < blen A:=by
  obtain ⟨a,b,c⟩:=blen_spec A (by omega)
  have h64:64 < blen A:=by
    by_cases e:64 < blen A
    · exact e
    · exfalso
      have:(2:Nat) ^ blen A≤2 ^ 64:=Nat.pow_le_pow_right (by omega) (by omega)
      have e2:(2:Nat) ^ 64 = 18446744073709551616:=by decide
      omega
  refine ⟨Nat.le_trans (Nat.pow_le_pow_right (by omega) (by omega)) a,by omega,by omega⟩
theorem bits_words (a m:Nat) (h:m < blen a):m / 32 < (dig a).length:=by
  have h0:a≠0:=fun e=>by rw [e,blen_zero] at h;omega
  have h1:blen a≤32 * len32 a:=blen_len a (len32 a) (Nat.le_refl _)
  have h2:(dig a).length = len32 a:=rfl
  omega
theorem blen_div (a l:Nat) (h:2 * l < blen a):l < blen (a / 2 ^ l):=by
  have h0:a≠0:=fun e=>by rw [e,blen_zero] at h;omega
  obtain ⟨x,_,z⟩:=blen_spec a h0
  have h1:2 ^ l≤a / 2 ^ l:=by
    rw [Nat.le_div_iff_mul_le (Nat.pow_pos (by omega)),← Nat.pow_add]
    exact Nat.le_trans (Nat.pow_le_pow_right (by omega) (by omega)) x
  by_cases e:l < blen (a / 2 ^ l)
  · exact e
  · exfalso
    have hne:a / 2 ^ l≠0:=by have:=Nat.pow_pos (n:=l) (show 0 < 2 by omega);omega
    have h2:=(blen_spec (a / 2 ^ l) hne).2.1
    have h3:(2:Nat) ^ blen (a / 2 ^ l)≤2 ^ l:=Nat.pow_le_pow_right (by omega) (by omega)
    omega
theorem sz {K A x:Nat} (h:A < 4294967296 ^ K) (hk:K≤16384) (hx:x≤16 * A):(dig x).length≤16385:=by
  have h1:x < 4294967296 ^ (K + 1):=by
    rw [Nat.pow_succ]
    generalize 4294967296 ^ K = P at *
    omega
  have h2:(dig x).length = len32 x:=rfl
  by_cases e:(dig x).length≤16385
  · exact e
  · exfalso
    have:=len32_lt x (K + 1) (by omega)
    omega
theorem words3 (A:Nat) (h:2 < (dig A).length):18446744073709551616≤A:=by
  have h1:=len32_lt A 2 h
  have h2:(4294967296:Nat) ^ 2 = 18446744073709551616:=by decide
  omega
theorem rootN_ok {a s:Nat} (ha:len32 a≤16384) (hs:IsRt a s):rootN a = (dig s,decide (a = s * s),0):=by
  have:=hs.eq
  subst this
  unfold rootN
  rw [if_neg (by omega)]
end Go.Proofs.YtnileplkkmhdgaaGreatDoor
