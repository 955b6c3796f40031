import Derived.Test.YtnileplkkmhdgaaGreatDoorKXM
import Derived.Laws.FloatArith
namespace Go.Proofs.YtnileplkkmhdgaaGreatDoor
open Go.RowKit
def upw (d:Int) (S r w:Nat):Bool:=if d = 1 then decide (0 < r) else if d = -1 then false else decide (w < 2 * r) || (decide (w = 2 * r) && decide (S % 2 = 1))
def rE (p A B:Nat):Nat:=blen (A / B) - p
def rS (p A B:Nat):Nat:=A / (B * 2 ^ rE p A B)
def rR (p A B:Nat):Nat:=A % (B * 2 ^ rE p A B)
def rU (d:Int) (p A B:Nat):Nat:=(rS p A B + (upw d (rS p A B) (rR p A B) (B * 2 ^ rE p A B)).toNat) * 2 ^ rE p A B
def rV (d:Int) (p A B:Nat) (t:Int):Nat:=rU d p (A * 2 ^ t.toNat) (B * 2 ^ (-t).toNat)
theorem upw_scale (d:Int) (S r w k:Nat) (hk:0 < k):upw d S (r * k) (w * k) = upw d S r w:=by
  have h1:(0 < r * k) ↔ 0 < r:=⟨fun h=>Nat.pos_of_ne_zero (fun e=>by subst e;simp at h),fun h=>Nat.mul_pos h hk⟩
  have h2:(w * k < 2 * (r * k)) ↔ w < 2 * r:=by rw [← Nat.mul_assoc];exact Nat.mul_lt_mul_right hk
  have h3:(w * k = 2 * (r * k)) ↔ w = 2 * r:=by rw [← Nat.mul_assoc];exact Nat.mul_left_inj (by omega)
  unfold upw
  simp only [h1,h2,h3]
theorem upw_none (d:Int) (S w:Nat) (hw:0 < w):upw d S 0 w = false:=by
  unfold upw
  split
  · simp
  · split
    · rfl
    · simp;omega
theorem upw_small (d:Int) (S r w w':Nat) (h:2 * r < w) (h':2 * r < w'):upw d S r w = upw d S r w':=by
  unfold upw
  split
  · rfl
  · split
    · rfl
    · rw [decide_eq_false (show ¬ w < 2 * r by omega),decide_eq_false (show ¬ w = 2 * r by omega),decide_eq_false (show ¬ w' < 2 * r by omega),decide_eq_false (show ¬ w' = 2 * r by omega)]
theorem blen_le_iff (x k:Nat):blen x≤k ↔ x < 2 ^ k:=by
  constructor
  · intro h
    by_cases c:x = 0
    · subst c;exact Nat.pow_pos (by omega)
    · exact Nat.lt_of_lt_of_le (blen_spec x c).2.1 (Nat.pow_le_pow_right (by omega) h)
  · exact blen_lt x k
theorem rE_spec (p A B:Nat) (hB:0 < B) (hp:0 < p):A < B * 2 ^ (rE p A B + p)∧(rE p A B = 0∨B * 2 ^ (rE p A B + p - 1)≤A):=by
  have h1:blen (A / B)≤rE p A B + p:=by unfold rE;omega
  rw [blen_le_iff,Nat.div_lt_iff_lt_mul hB,Nat.mul_comm] at h1
  refine ⟨h1, ?_⟩
  by_cases c:rE p A B = 0
  · exact Or.inl c
  · right
    have h2:¬ blen (A / B)≤rE p A B + p - 1:=by unfold rE at c ⊢;omega
    rw [blen_le_iff,Nat.div_lt_iff_lt_mul hB,Nat.mul_comm] at h2
    omega
theorem rE_uniq (p A B E:Nat) (hB:0 < B) (hp:0 < p) (h1:A < B * 2 ^ (E + p)) (h2:E = 0∨B * 2 ^ (E + p - 1)≤A):rE p A B = E:=by
  have a1:blen (A / B)≤E + p:=by rw [blen_le_iff,Nat.div_lt_iff_lt_mul hB,Nat.mul_comm];exact h1
  unfold rE
  rcases h2 with h2 | h2
  · omega
  · by_cases c:E = 0
    · omega
    · have a2:¬ blen (A / B)≤E + p - 1:=by
        rw [blen_le_iff,Nat.div_lt_iff_lt_mul hB,Nat.mul_comm];omega
      omega
theorem rU_scale (d:Int) (p A B k:Nat) (hk:0 < k):rU d p (A * k) (B * k) = rU d p A B:=by
  have hE:rE p (A * k) (B * k) = rE p A B:=by unfold rE;rw [Nat.mul_div_mul_right _ _ hk]
  have hW:B * k * 2 ^ rE p A B = B * 2 ^ rE p A B * k:=by rw [Nat.mul_assoc,Nat.mul_comm k,← Nat.mul_assoc]
  have hS:rS p (A * k) (B * k) = rS p A B:=by unfold rS;rw [hE,hW,Nat.mul_div_mul_right _ _ hk]
  have hR:rR p (A * k) (B * k) = rR p A B * k:=by unfold rR;rw [hE,hW,Nat.mul_mod_mul_right]
  unfold rU
  rw [hS,hR,hE,hW,upw_scale _ _ _ _ _ hk]
theorem rU_ratio (d:Int) (p A B A' B':Nat) (hB:0 < B) (hB':0 < B') (h:A * B' = A' * B):rU d p A B = rU d p A' B':=by
  rw [← rU_scale d p A B B' hB',← rU_scale d p A' B' B hB,h,Nat.mul_comm B B']
theorem rU_sticky (d:Int) (p A A' B c h l l' t:Nat) (hB:0 < B) (hp:0 < p) (hA:A = h * c + l) (hl:l < c) (hA':A' = h * c + l') (hl':l' < c) (hz:l = 0 ↔ l' = 0) (hd:B * 2 ^ rE p A B = 2 * (c * t)):rU d p A B = rU d p A' B:=by
  obtain ⟨E,hE⟩:∃ E,E = rE p A B:=⟨_,rfl⟩
  have hc:0 < c:=by omega
  have ht:0 < t:=by
    rcases Nat.eq_zero_or_pos t with e | e
    · subst e
      have:0 < B * 2 ^ rE p A B:=Nat.mul_pos hB (Nat.pow_pos (by omega))
      simp at hd;omega
    · exact e
  rw [← hE] at hd
  -- multiples of c part A and A' alike
  have key:∀ T,(∃ u,T = c * u)→(A < T ↔ A' < T):=by
    rintro T ⟨u,rfl⟩
    rw [hA,hA',Nat.mul_comm c u]
    constructor
    · intro g
      have:h < u:=Nat.lt_of_mul_lt_mul_right (show h * c < u * c by omega)
      have:(h + 1) * c≤u * c:=Nat.mul_le_mul_right c this
      rw [Nat.add_mul,Nat.one_mul] at this
      omega
    · intro g
      have:h < u:=Nat.lt_of_mul_lt_mul_right (show h * c < u * c by omega)
      have:(h + 1) * c≤u * c:=Nat.mul_le_mul_right c this
      rw [Nat.add_mul,Nat.one_mul] at this
      omega
  have hmul:∀ j,E≤j→∃ u,B * 2 ^ j = c * u:=fun j hj=>by
    refine ⟨2 * t * 2 ^ (j - E), ?_⟩
    have:(2:Nat) ^ j = 2 ^ E * 2 ^ (j - E):=by rw [← Nat.pow_add];exact congrArg _ (by omega)
    rw [this,← Nat.mul_assoc,hd,← Nat.mul_assoc c,Nat.mul_left_comm c 2 t]
  obtain ⟨s1,s2⟩:=rE_spec p A B hB hp
  rw [← hE] at s1 s2
  have hE':rE p A' B = E:=rE_uniq p A' B E hB hp ((key _ (hmul _ (by omega))).1 s1) (by
    rcases s2 with s2 | s2
    · exact Or.inl s2
    · by_cases c0:E = 0
      · exact Or.inl c0
      · right
        have:=key _ (hmul (E + p - 1) (by omega))
        omega)
  have hS:∀ l,l < c→(h * c + l) / (2 * (c * t)) = h / (2 * t)∧(h * c + l) % (2 * (c * t)) = h % (2 * t) * c + l:=by
    intro l hl
    have e1:(2:Nat) * (c * t) = c * (2 * t):=by rw [Nat.mul_left_comm]
    have e2:(h * c + l) / c = h:=by rw [Nat.add_comm,Nat.add_mul_div_right _ _ hc,Nat.div_eq_of_lt hl,Nat.zero_add]
    have e3:(h * c + l) % c = l:=by rw [Nat.add_comm,Nat.add_mul_mod_self_right,Nat.mod_eq_of_lt hl]
    rw [e1]
    refine ⟨by rw [← Nat.div_div_eq_div_mul,e2], ?_⟩
    rw [Nat.mod_mul,e2,e3,Nat.mul_comm c,Nat.add_comm]
  unfold rU rS rR
  rw [hE',← hE,hd,hA,hA',(hS l hl).1,(hS l' hl').1,(hS l hl).2,(hS l' hl').2]
  have hup:upw d (h / (2 * t)) (h % (2 * t) * c + l) (2 * (c * t)) = upw d (h / (2 * t)) (h % (2 * t) * c + l') (2 * (c * t)):=by
    obtain ⟨y,hy⟩:∃ y,y = h % (2 * t):=⟨_,rfl⟩
    rw [← hy]
    have k1:∀ l,l < c→(2 * (c * t) < 2 * (y * c + l) ↔ t < y∨(t = y∧l≠0)):=by
      intro l hl
      rw [Nat.mul_comm c t]
      constructor
      · intro g
        by_cases c1:t < y
        · exact Or.inl c1
        · right
          have:y * c≤t * c:=Nat.mul_le_mul_right c (by omega)
          by_cases c2:t = y
          · subst c2;exact ⟨rfl,by omega⟩
          · exfalso
            have:(y + 1) * c≤t * c:=Nat.mul_le_mul_right c (by omega)
            rw [Nat.add_mul,Nat.one_mul] at this
            omega
      · rintro (g | ⟨g,g2⟩)
        · have:(t + 1) * c≤y * c:=Nat.mul_le_mul_right c g
          rw [Nat.add_mul,Nat.one_mul] at this
          omega
        · subst g;omega
    have k2:∀ l,l < c→(2 * (c * t) = 2 * (y * c + l) ↔ t = y∧l = 0):=by
      intro l hl
      rw [Nat.mul_comm c t]
      constructor
      · intro g
        by_cases c2:t = y
        · subst c2;exact ⟨rfl,by omega⟩
        · exfalso
          rcases Nat.lt_or_gt_of_ne c2 with c3 | c3
          · have:(t + 1) * c≤y * c:=Nat.mul_le_mul_right c c3
            rw [Nat.add_mul,Nat.one_mul] at this
            omega
          · have:(y + 1) * c≤t * c:=Nat.mul_le_mul_right c c3
            rw [Nat.add_mul,Nat.one_mul] at this
            omega
      · rintro ⟨g,g2⟩
        subst g;subst g2;omega
    have k3:∀ l,(0 < y * c + l ↔ 0 < y∨l≠0):=by
      intro l
      constructor
      · intro g
        by_cases c2:0 < y
        · exact Or.inl c2
        · right;intro e;subst e
          have:y = 0:=by omega
          subst this;simp at g
      · rintro (g | g)
        · have:=Nat.mul_pos g hc;omega
        · omega
    unfold upw
    simp only [k1 l hl,k1 l' hl',k2 l hl,k2 l' hl',k3,ne_eq,hz]
  rw [hup]
theorem rV_ratio (d:Int) (p A B A' B':Nat) (t:Int) (hB:0 < B) (hB':0 < B') (h:A * B' = A' * B):rV d p A B t = rV d p A' B' t:=by
  unfold rV
  refine rU_ratio d p _ _ _ _ (Nat.mul_pos hB (Nat.pow_pos (by omega))) (Nat.mul_pos hB' (Nat.pow_pos (by omega))) ?_
  rw [Nat.mul_mul_mul_comm,h,Nat.mul_mul_mul_comm]
theorem rV_up (d:Int) (p A B k:Nat) (t:Int) (hB:0 < B):rV d p (A * 2 ^ k) B t = rV d p A B (t + k):=by
  unfold rV
  refine rU_ratio d p _ _ _ _ (Nat.mul_pos hB (Nat.pow_pos (by omega))) (Nat.mul_pos hB (Nat.pow_pos (by omega))) ?_
  have e:k + t.toNat + (-(t + k)).toNat = (t + k).toNat + (-t).toNat:=by omega
  rw [Nat.mul_assoc A,← Nat.pow_add,Nat.mul_mul_mul_comm,← Nat.pow_add,e,Nat.pow_add,Nat.mul_mul_mul_comm]
theorem rV_down (d:Int) (p A B k:Nat) (t:Int) (hB:0 < B):rV d p A (B * 2 ^ k) t = rV d p A B (t - k):=by
  unfold rV
  refine rU_ratio d p _ _ _ _ (Nat.mul_pos (Nat.mul_pos hB (Nat.pow_pos (by omega))) (Nat.pow_pos (by omega))) (Nat.mul_pos hB (Nat.pow_pos (by omega))) ?_
  have e:t.toNat + (-(t - k)).toNat = (t - k).toNat + (k + (-t).toNat):=by omega
  rw [Nat.mul_assoc B,← Nat.pow_add,Nat.mul_mul_mul_comm,← Nat.pow_add,e,Nat.pow_add,Nat.mul_mul_mul_comm]
theorem blen_mul (x n:Nat) (h:x≠0):blen (x * 2 ^ n) = blen x + n:=by
  obtain ⟨h1,h2,h3⟩:=blen_spec x h
  have e:blen x + n = (blen x - 1 + n) + 1:=by omega
  rw [e]
  refine blen_uniq _ _ ?_ ?_
  · rw [Nat.pow_add];exact Nat.mul_le_mul_right _ h1
  · rw [show blen x - 1 + n + 1 = blen x + n from by omega,Nat.pow_add];exact Nat.mul_lt_mul_of_pos_right h2 (Nat.pow_pos (by omega))
theorem blen_shr (x b:Nat):blen (x / 2 ^ b) = blen x - b:=by
  have key:∀ k,blen (x / 2 ^ b)≤k ↔ blen x≤k + b:=fun k=>by
    rw [blen_le_iff,blen_le_iff,Nat.div_lt_iff_lt_mul (Nat.pow_pos (by omega)),Nat.pow_add]
  have h1:=(key (blen x - b)).2 (by omega)
  have h2:=(key (blen (x / 2 ^ b))).1 (Nat.le_refl _)
  omega
theorem prog_round (d:Int) (p sig:Nat) (t:Int) (L c:Nat) (hp:0 < p) (hL:(L:Int) = max (max t (t + blen sig - p)) 0) (hc:(c:Int) = L - t) :
    rV d p sig 1 t = (sig / 2 ^ c + (upw d (sig / 2 ^ c) (sig % 2 ^ c) (2 ^ c)).toNat) * 2 ^ L∧sig / 2 ^ c < 2 ^ p:=by
  have hlt:sig / 2 ^ c < 2 ^ p:=by
    rw [← blen_le_iff,blen_shr];omega
  refine ⟨?_,hlt⟩
  unfold rV
  by_cases ht:0≤t
  · obtain ⟨n,rfl⟩:∃ n:Nat,t = (n:Int):=⟨t.toNat,by omega⟩
    rw [show (-(n:Int)).toNat = 0 from by omega,Int.toNat_natCast,Nat.pow_zero,Nat.mul_one]
    by_cases h0:sig = 0
    · subst h0
      unfold rU rS rR
      rw [Nat.zero_mul,Nat.zero_div,Nat.zero_mod,Nat.zero_div,Nat.zero_mod,upw_none _ _ _ (Nat.mul_pos (by omega) (Nat.pow_pos (by omega))),upw_none _ _ _ (Nat.pow_pos (by omega))]
      simp
    · have hE:rE p (sig * 2 ^ n) 1 = blen sig + n - p:=by unfold rE;rw [Nat.div_one,blen_mul _ _ h0]
      by_cases hl:blen sig≤p
      · have hLn:L = n:=by omega
        have hc0:c = 0:=by omega
        subst hLn;subst hc0
        obtain ⟨k,hk⟩:∃ k,L = rE p (sig * 2 ^ L) 1 + k:=⟨L - rE p (sig * 2 ^ L) 1,by omega⟩
        obtain ⟨E,hE9⟩:∃ E,E = rE p (sig * 2 ^ L) 1:=⟨_,rfl⟩
        rw [← hE9] at hk hE
        unfold rU rS rR
        rw [← hE9,Nat.one_mul,Nat.pow_zero,Nat.div_one,Nat.mod_one,upw_none _ _ 1 (by omega)]
        have e1:sig * 2 ^ L = sig * 2 ^ k * 2 ^ E:=by rw [Nat.mul_assoc,← Nat.pow_add,hk,Nat.add_comm]
        have e2:(2:Nat) ^ L = 2 ^ k * 2 ^ E:=by rw [← Nat.pow_add,hk,Nat.add_comm]
        rw [e1,Nat.mul_div_cancel _ (Nat.pow_pos (by omega)),Nat.mul_mod_left,upw_none _ _ _ (Nat.pow_pos (by omega)),e2,← Nat.mul_assoc]
        simp
      · have hLn:L = c + n:=by omega
        have hcl:c = blen sig - p:=by omega
        have hE2:rE p (sig * 2 ^ n) 1 = L:=by omega
        unfold rU rS rR
        rw [hE2,Nat.one_mul]
        have e2:(2:Nat) ^ L = 2 ^ c * 2 ^ n:=by rw [← Nat.pow_add,hLn]
        rw [e2,Nat.mul_div_mul_right _ _ (Nat.pow_pos (by omega)),Nat.mul_mod_mul_right,upw_scale _ _ _ _ _ (Nat.pow_pos (by omega))]
  · obtain ⟨b,hb⟩:∃ b:Nat,-t = (b:Int):=⟨(-t).toNat,by omega⟩
    rw [show t.toNat = 0 from by omega,show (-t).toNat = b from by omega,Nat.pow_zero,Nat.mul_one,Nat.one_mul]
    have hE:rE p sig (2 ^ b) = L:=by unfold rE;rw [blen_shr];omega
    have hcb:c = b + L:=by omega
    unfold rU rS rR
    rw [hE,← Nat.pow_add,← hcb]
def rgU (p U:Nat):Nat:=(blen U - p) * 2 ^ (p - 1) + U / 2 ^ (blen U - p)
def finU (p T G I:Nat) (d:Int) (U:Nat):Nat:=if blen U≤T then rgU p U else if d = -1 then G else I
theorem rgU_mul (p o x s:Nat) (ho:o≠0) (hs:s = min (p - blen o) x) (hb:blen o≤p):rgU p (o * 2 ^ x) = (x - s) * 2 ^ (p - 1) + o * 2 ^ s:=by
  unfold rgU
  rw [blen_mul _ _ ho]
  have e1:blen o + x - p = x - s:=by omega
  rw [e1]
  have e2:(2:Nat) ^ x = 2 ^ s * 2 ^ (x - s):=by rw [← Nat.pow_add];exact congrArg _ (by omega)
  rw [e2,← Nat.mul_assoc,Nat.mul_div_cancel _ (Nat.pow_pos (by omega))]
theorem rgU_zero (p:Nat):rgU p 0 = 0:=by unfold rgU;rw [blen_zero];simp
def mdW (neg:Bool) (m:Nat):Nat:=if m = 0 then 0 else if neg then 9223372036854775808 + m else m
def MdI (U s:Nat) (x:Int):Prop:=s≠0∧s≤9007199254740992∧-1074≤x∧x≤5000∧s * 2 ^ (x + 1074).toNat = U
theorem MdI.half {U s:Nat} {x:Int} (h:MdI U s x) (hx:x < 5000) (hs:9007199254740992≤s):MdI U (s / 2) (x + 1)∧s / 2 < 9007199254740992:=by
  obtain ⟨h1,h2,h3,h4,h5⟩:=h
  have e:s = 9007199254740992:=by omega
  subst e
  refine ⟨⟨by omega,by omega,by omega,by omega, ?_⟩,by omega⟩
  rw [← h5,show (x + 1 + 1074).toNat = (x + 1074).toNat + 1 from by omega,Nat.pow_succ]
  generalize 2 ^ (x + 1074).toNat = y
  omega
theorem MdI.top {U s:Nat} {x:Int} (h:MdI U s x) (h1:4503599627370496≤s) (h2:s < 9007199254740992) (hb:blen U≤2098):x≤971∧rgU 53 U = (s - 4503599627370496) + (x + 1075).toNat * 4503599627370496∧rgU 53 U < 9218868437227405312∧rgU 53 U≠0:=by
  obtain ⟨a1,_,a3,a4,a5⟩:=h
  have hbl:blen s = 53:=blen_uniq s 52 (by rw [show (2:Nat) ^ 52 = 4503599627370496 from by decide];exact h1) (by rw [show (2:Nat) ^ (52 + 1) = 9007199254740992 from by decide];exact h2)
  have hU:blen U = 53 + (x + 1074).toNat:=by rw [← a5,blen_mul _ _ a1,hbl]
  have hr:=rgU_mul 53 s (x + 1074).toNat 0 a1 (by rw [hbl];omega) (by omega)
  rw [a5,Nat.sub_zero,Nat.pow_zero,Nat.mul_one,show (2:Nat) ^ (53 - 1) = 4503599627370496 from by decide] at hr
  have hx:x≤971:=by omega
  rw [hr]
  omega
theorem MdI.low {U s:Nat} {x:Int} (h:MdI U s x) (h1:s < 4503599627370496) (hx:x = -1074):rgU 53 U = s∧rgU 53 U≠0:=by
  obtain ⟨a1,_,a3,a4,a5⟩:=h
  subst hx
  have hbl:blen s≤53:=blen_lt s 53 (by rw [show (2:Nat) ^ 53 = 9007199254740992 from by decide];omega)
  have hr:=rgU_mul 53 s 0 0 a1 (by omega) hbl
  rw [show (-1074 + 1074:Int).toNat = 0 from rfl,Nat.pow_zero,Nat.mul_one] at a5
  rw [Nat.pow_zero,Nat.mul_one,Nat.sub_zero,Nat.zero_mul,Nat.zero_add] at hr
  rw [← a5,hr]
  exact ⟨rfl,a1⟩
def dirN (neg:Bool) (d:Int):Int:=if neg then -d else d
theorem blen_mono {a b:Nat} (h:a≤b):blen a≤blen b:=(blen_le_iff a (blen b)).2 (Nat.lt_of_le_of_lt h ((blen_le_iff b (blen b)).1 (Nat.le_refl _)))
theorem ctz_odd (a:Nat) (h:a≠0):∃ o,o % 2 = 1∧a = o * 2 ^ ctz a∧a / 2 ^ ctz a = o∧ctz a≤blen a:=by
  obtain ⟨o,k,ho,e⟩:=odd_part a h
  have hk:ctz a = k:=by rw [e];exact ctz_eq k o ho
  refine ⟨o,ho,by rw [hk];exact e, ?_, ?_⟩
  · rw [hk,e,Nat.mul_div_cancel _ (Nat.pow_pos (by omega))]
  · rw [hk,e,blen_mul _ _ (by omega)];omega
theorem frac_rV (d:Int) (p a b a1 b1 ka kb x y:Nat) (exp ex t:Int) (ha:a = a1 * 2 ^ ka) (hb:b = b1 * 2 ^ kb) (hb1:0 < b1) (hex:ex = exp + ka - kb) (hx:x = ex.toNat) (hy:y = (-ex).toNat) :
    rV d p (a1 * 2 ^ x) (b1 * 2 ^ y) t = rV d p a b (t + exp):=by
  rw [rV_up d p a1 _ x t (Nat.mul_pos hb1 (Nat.pow_pos (by omega))),rV_down d p a1 b1 y _ hb1,ha,hb,rV_up d p a1 _ ka _ (Nat.mul_pos hb1 (Nat.pow_pos (by omega))),rV_down d p a1 b1 kb _ hb1]
  exact congrArg _ (by omega)
def FracOf (a b:Nat) (exp:Int) (a' b':Nat):Prop:=b'≠0∧(a' = 0 ↔ a = 0)∧(∀ (d:Int) (p:Nat) (t:Int),a≠0→rV d p a' b' t = rV d p a b (t + exp))∧blen a'≤2 * blen a + exp.natAbs + 1∧blen b'≤2 * blen b + exp.natAbs + 1
theorem frac_of (a b a1 b1 ka kb x y:Nat) (exp ex:Int) (h0:a1≠0) (hb1:b1≠0) (ha:a = a1 * 2 ^ ka) (hb:b = b1 * 2 ^ kb) (_hka:ka≤blen a) (_hkb:kb≤blen b) (hex:ex = exp + ka - kb) (hx:x = ex.toNat) (hy:y = (-ex).toNat):FracOf a b exp (a1 * 2 ^ x) (b1 * 2 ^ y):=by
  have la:blen a = blen a1 + ka:=by rw [ha,blen_mul _ _ h0]
  have lb:blen b = blen b1 + kb:=by rw [hb,blen_mul _ _ hb1]
  have hp:∀ k,0 < (2:Nat) ^ k:=fun k=>Nat.pow_pos (by omega)
  refine ⟨Nat.ne_of_gt (Nat.mul_pos (by omega) (hp y)), ?_, ?_, ?_, ?_⟩
  · constructor
    · intro h;exact absurd h (Nat.ne_of_gt (Nat.mul_pos (by omega) (hp x)))
    · intro h;rw [ha] at h;exact absurd h (Nat.ne_of_gt (Nat.mul_pos (by omega) (hp ka)))
  · intro d p t _
    exact frac_rV d p a b a1 b1 ka kb x y exp ex t ha hb (by omega) hex hx hy
  · rw [blen_mul _ _ h0];omega
  · rw [blen_mul _ _ hb1];omega
theorem rV_sticky (d:Int) (p N D h r H:Nat) (t:Int) (hD:0 < D) (hp:0 < p) (hp53:p≤53) (hN:N = h * D + r) (hr:r < D) (hH:H = 2 * h + (if r = 0 then 0 else 1)) (hbig:r = 0∨36028797018963968≤h):rV d p (2 * N) D t = rV d p H 1 t:=by
  by_cases c:r = 0
  · rw [if_pos c,Nat.add_zero] at hH
    refine rV_ratio d p _ _ _ _ t hD (by omega) ?_
    rw [hN,hH,c,Nat.add_zero,Nat.mul_one,Nat.mul_assoc]
  · rw [if_neg c] at hH
    have hh:36028797018963968≤h:=by rcases hbig with h9 | h9;exact absurd h9 c;exact h9
    have e0:rV d p H 1 t = rV d p (H * D) D t:=rV_ratio d p _ _ _ _ t (by omega) hD (by rw [Nat.mul_one])
    rw [e0]
    unfold rV
    obtain ⟨x,hx⟩:∃ x,x = t.toNat:=⟨_,rfl⟩
    obtain ⟨y,hy⟩:∃ y,y = (-t).toNat:=⟨_,rfl⟩
    rw [← hx,← hy]
    obtain ⟨X,hX⟩:∃ X,X = 2 ^ x:=⟨_,rfl⟩
    have hXp:0 < X:=by rw [hX];exact Nat.pow_pos (by omega)
    have hB:0 < D * 2 ^ y:=Nat.mul_pos hD (Nat.pow_pos (by omega))
    obtain ⟨E,hE⟩:∃ E,E = rE p (2 * N * 2 ^ x) (D * 2 ^ y):=⟨_,rfl⟩
    have hs:=(rE_spec p (2 * N * 2 ^ x) (D * 2 ^ y) hB hp).1
    rw [← hE] at hs
    have hbound:x + 2≤y + E:=by
      by_cases c2:x + 2≤y + E
      · exact c2
      · exfalso
        have h1:D * 2 ^ y * 2 ^ (E + p)≤D * 2 ^ (x + 54):=by
          rw [Nat.mul_assoc,← Nat.pow_add]
          exact Nat.mul_le_mul_left _ (Nat.pow_le_pow_right (by omega) (by omega))
        have h2:D * 2 ^ (x + 54)≤2 * N * 2 ^ x:=by
          rw [Nat.pow_add,Nat.mul_left_comm,Nat.mul_comm (2 * N)]
          refine Nat.mul_le_mul_left _ ?_
          rw [show (2:Nat) ^ 54 = 18014398509481984 from by decide,hN]
          have:D * 18014398509481984≤h * D:=by rw [Nat.mul_comm];exact Nat.mul_le_mul_right _ (by omega)
          omega
        omega
    refine rU_sticky d p (2 * N * 2 ^ x) (H * D * 2 ^ x) (D * 2 ^ y) (2 * D * X) h (2 * r * X) (D * X) (2 ^ (y + E - x - 2)) hB hp ?_ ?_ ?_ ?_ ?_ ?_
    · rw [hN,← hX]
      rw [Nat.mul_add,Nat.add_mul,← Nat.mul_assoc h,Nat.mul_left_comm 2 h D]
    · exact Nat.mul_lt_mul_of_pos_right (by omega) hXp
    · rw [hH,← hX,Nat.add_mul,Nat.add_mul,Nat.one_mul,Nat.mul_assoc 2 h D,Nat.mul_left_comm 2 h D,Nat.mul_assoc h]
    · exact Nat.mul_lt_mul_of_pos_right (by omega) hXp
    · have a1:0 < 2 * r * X:=Nat.mul_pos (by omega) hXp
      have a2:0 < D * X:=Nat.mul_pos hD hXp
      constructor <;> intro h9 <;> omega
    · rw [← hE,hX]
      have e1:(2:Nat) ^ y * 2 ^ E = 4 * 2 ^ x * 2 ^ (y + E - x - 2):=by
        rw [← Nat.pow_add,show (4:Nat) = 2 ^ 2 from rfl,← Nat.pow_add,← Nat.pow_add]
        exact congrArg _ (by omega)
      rw [Nat.mul_assoc D,e1]
      generalize (2:Nat) ^ x = a
      generalize (2:Nat) ^ (y + E - x - 2) = b
      rw [show (4:Nat) = 2 * 2 from rfl]
      ac_rfl
def FL (v:Int):Prop:=∃ k:Nat,(2 ^ k:Int) ∣ v∧v.natAbs≤9007199254740992 * 2 ^ k
structure Nr (v s:Int) (T:Nat):Prop where
  pos:0 < T
  dvd:(T:Int) ∣ s
  near:2 * (v - s).natAbs≤T
  lt:v.natAbs < 9007199254740992 * T
  low:T = 1∨4503599627370496 * T≤v.natAbs
  two:∃ E:Nat,T = 2 ^ E
theorem dvd_small {T x:Int} (_hT:0 < T) (h:T ∣ x) (hx:x.natAbs < T.natAbs):x = 0:=by
  obtain ⟨q,rfl⟩:=h
  by_cases c:q = 0
  · rw [c,Int.mul_zero]
  · exfalso
    rw [Int.natAbs_mul] at hx
    have:1≤q.natAbs:=by omega
    have:=Nat.mul_le_mul_left T.natAbs this
    omega
theorem pow_dvd_int {j k:Nat} (h:j≤k):(2 ^ j:Int) ∣ 2 ^ k:=⟨2 ^ (k - j),by rw [← Int.pow_add];congr 1;omega⟩
theorem castpow (k:Nat):((2 ^ k:Nat):Int) = (2:Int) ^ k:=by rw [Int.natCast_pow];rfl
theorem Nr.nearest {v s:Int} {T:Nat} (h:Nr v s T) {B:Int} (hB:FL B):(v - s).natAbs≤(v - B).natAbs:=by
  obtain ⟨k,hk,hb⟩:=hB
  obtain ⟨E,hE⟩:=h.two
  -- a multiple of the unit is no nearer
  have hmul:∀ C:Int,(T:Int) ∣ C→(v - s).natAbs≤(v - C).natAbs:=fun C hC=>by
    by_cases c:s = C
    · rw [c];exact Nat.le_refl _
    · have hd:(T:Int) ∣ (C - s):=Int.dvd_sub hC h.dvd
      have h1:¬ (C - s).natAbs < (T:Int).natAbs:=fun hx=>by
        have:=dvd_small (by have:=h.pos;omega) hd hx
        omega
      have h2:(T:Int).natAbs = T:=by simp
      rw [h2] at h1
      have:=h.near
      omega
  by_cases c:E≤k
  · exact hmul B (by rw [hE,castpow];exact Int.dvd_trans (pow_dvd_int c) hk)
  · have hp:2 ^ k * 2≤T:=by
      rw [hE,← Nat.pow_succ]
      exact Nat.pow_le_pow_right (by omega) (by omega)
    have hT1:¬ T = 1:=by have:=Nat.two_pow_pos k;omega
    have hlow:=h.low.resolve_left hT1
    rcases Int.lt_or_le v 0 with hv | hv
    · have:=hmul (-(4503599627370496 * (T:Int))) (Int.dvd_neg.2 (Int.dvd_mul_left _ _))
      omega
    · have:=hmul (4503599627370496 * (T:Int)) (Int.dvd_mul_left _ _)
      omega
theorem Nr.fix {v s:Int} {T:Nat} (h:Nr v s T) (hv:FL v):s = v:=by
  have:=h.nearest hv
  omega
theorem Nr.fl {v s:Int} {T:Nat} (h:Nr v s T):FL s:=by
  obtain ⟨E,hE⟩:=h.two
  refine ⟨E,by rw [← castpow,← hE];exact h.dvd, ?_⟩
  rw [← hE]
  have h1:=h.near
  have h2:=h.lt
  by_cases c:s.natAbs≤9007199254740992 * T
  · exact c
  · exfalso
    -- beyond the top by less than a unit
    rcases Int.lt_or_le s 0 with hs | hs
    · have hd:(T:Int) ∣ (s + 9007199254740992 * (T:Int)):=Int.dvd_add h.dvd (Int.dvd_mul_left _ _)
      have:=dvd_small (by have:=h.pos;omega) hd (by simp;omega)
      omega
    · have hd:(T:Int) ∣ (s - 9007199254740992 * (T:Int)):=Int.dvd_sub h.dvd (Int.dvd_mul_left _ _)
      have:=dvd_small (by have:=h.pos;omega) hd (by simp;omega)
      omega
theorem Nr.mul {v s:Int} {T:Nat} (h:Nr v s T) (j:Nat) (hj:(2 ^ j:Int) ∣ v):(2 ^ j:Int) ∣ s:=by
  obtain ⟨E,hE⟩:=h.two
  by_cases c:j≤E
  · have:=h.dvd
    rw [hE,castpow] at this
    exact Int.dvd_trans (pow_dvd_int c) this
  · have hT:(T:Int) ∣ v:=by rw [hE,castpow];exact Int.dvd_trans (pow_dvd_int (by omega)) hj
    have hd:(T:Int) ∣ (v - s):=Int.dvd_sub hT h.dvd
    have:=dvd_small (by have:=h.pos;omega) hd (by have:=h.near;have:=h.pos;simp;omega)
    rw [show s = v from by omega];exact hj
theorem FL.neg {v:Int} (h:FL v):FL (-v):=by
  obtain ⟨k,h1,h2⟩:=h
  exact ⟨k,Int.dvd_neg.2 h1,by rw [Int.natAbs_neg];exact h2⟩
theorem FL.zero:FL 0:=⟨0,Int.dvd_zero _,by simp⟩
theorem Nr.neg {v s:Int} {T:Nat} (h:Nr v s T):Nr (-v) (-s) T:=by
  obtain ⟨h1,h2,h3,h4,h5,h6⟩:=h
  exact ⟨h1,Int.dvd_neg.2 h2,by omega,by omega,by omega,h6⟩
theorem FL.both {x y:Int} (hx:FL x) (hy:FL y):∃ j:Nat,(2 ^ j:Int) ∣ x∧(2 ^ j:Int) ∣ y∧(x.natAbs≤9007199254740992 * 2 ^ j∨y.natAbs≤9007199254740992 * 2 ^ j):=by
  obtain ⟨k,h1,h2⟩:=hx
  obtain ⟨l,h3,h4⟩:=hy
  by_cases c:k≤l
  · exact ⟨k,h1,Int.dvd_trans (pow_dvd_int c) h3,Or.inl h2⟩
  · exact ⟨l,Int.dvd_trans (pow_dvd_int (by omega)) h1,h3,Or.inr h4⟩
theorem FL.diff {x y d:Int} (hx:FL x) (hy:FL y) (hd:∀ j:Nat,(2 ^ j:Int) ∣ x→(2 ^ j:Int) ∣ y→(2 ^ j:Int) ∣ d) (h1:d.natAbs≤x.natAbs) (h2:d.natAbs≤y.natAbs):FL d:=by
  obtain ⟨j,a,b,c⟩:=hx.both hy
  exact ⟨j,hd j a b,by rcases c with c | c <;> omega⟩
theorem sterbenz {x y:Int} (hx:FL x) (hy:FL y) (h:(x - y).natAbs≤x.natAbs∧(x - y).natAbs≤y.natAbs):FL (x - y) :=
  FL.diff hx hy (fun _ a b=>Int.dvd_sub a b) h.1 h.2
theorem off_fl {x y s:Int} {T:Nat} (hx:FL x) (hy:FL y) (h:Nr (x + y) s T):FL (x + y - s):=by
  refine FL.diff hx hy (fun j a b=>?_) ?_ ?_
  · exact Int.dvd_sub (Int.dvd_add a b) (h.mul j (Int.dvd_add a b))
  · have:=h.nearest hy;omega
  · have:=h.nearest hx;omega
theorem FL.unit {x:Int} (hx:FL x) (E:Nat) (h:9007199254740992 * 2 ^ E < x.natAbs):(2 ^ (E + 1):Int) ∣ x:=by
  obtain ⟨k,h1,h2⟩:=hx
  by_cases c:E + 1≤k
  · exact Int.dvd_trans (pow_dvd_int c) h1
  · exfalso
    have:2 ^ k≤2 ^ E:=Nat.pow_le_pow_right (by omega) (by omega)
    omega
theorem fast_fl {x y s:Int} {T:Nat} (hx:FL x) (hy:FL y) (h:Nr (x + y) s T) (hxy:y.natAbs≤x.natAbs):FL (s - x):=by
  by_cases he:s = x + y
  · rw [he,show x + y - x = y from by omega];exact hy
  · obtain ⟨E,hE⟩:=h.two
    have hn:=h.near
    have hlt:=h.lt
    have hT1:¬ T = 1:=fun e=>by
      rw [e] at hn
      omega
    have hlow:=h.low.resolve_left hT1
    have hE0:E≠0:=fun e=>hT1 (by rw [hE,e,Nat.pow_zero])
    obtain ⟨F,rfl⟩:∃ F,E = F + 1:=⟨E - 1,by omega⟩
    obtain ⟨S,hS⟩:∃ S,S = 2 ^ F:=⟨_,rfl⟩
    have hTS:T = 2 * S:=by rw [hE,hS,Nat.pow_succ];omega
    have hSp:0 < S:=by rw [hS];exact Nat.two_pow_pos F
    have hdT:(T:Int) ∣ s:=h.dvd
    by_cases hsg:(0≤x∧0≤y)∨(x≤0∧y≤0)
    · -- of like sign: both sides are multiples of half a unit
      have hdx:((2:Int) ^ F) ∣ x:=by
        by_cases c:9007199254740992 * 2 ^ F < x.natAbs
        · exact Int.dvd_trans (pow_dvd_int (by omega)) (hx.unit F c)
        · -- at the edge
          by_cases c2:F = 0
          · rw [c2,Int.pow_zero];exact Int.one_dvd _
          · obtain ⟨G,rfl⟩:∃ G,F = G + 1:=⟨F - 1,by omega⟩
            by_cases c3:9007199254740992 * 2 ^ G < x.natAbs
            · exact hx.unit G c3
            · have hg:2 ^ (G + 1) = 2 * 2 ^ G:=by rw [Nat.pow_succ];omega
              have hx2:x.natAbs = 4503599627370496 * 2 ^ (G + 1):=by omega
              rcases Int.lt_or_le x 0 with hs | hs
              · have e:x = -(4503599627370496 * (2:Int) ^ (G + 1)):=by rw [← castpow];omega
                rw [e];exact Int.dvd_neg.2 (Int.dvd_mul_left _ _)
              · have e:x = 4503599627370496 * (2:Int) ^ (G + 1):=by rw [← castpow];omega
                rw [e];exact Int.dvd_mul_left _ _
      have hds:((2:Int) ^ F) ∣ s:=by
        rw [hE,castpow] at hdT
        exact Int.dvd_trans (pow_dvd_int (by omega)) hdT
      refine ⟨F,Int.dvd_sub hds hdx, ?_⟩
      rw [← hS]
      -- y is a multiple too,or small
      by_cases c:9007199254740992 * 2 ^ F < 2 * y.natAbs
      · by_cases c2:F = 0
        · have:S = 1:=by rw [hS,c2]
          omega
        · obtain ⟨G,rfl⟩:∃ G,F = G + 1:=⟨F - 1,by omega⟩
          have hg:2 ^ (G + 1) = 2 * 2 ^ G:=by rw [Nat.pow_succ];omega
          have hdy:=hy.unit G (by omega)
          rw [← hS] at c
          have hd2:(S:Int) ∣ (y.natAbs:Int) - 9007199254740992 * (S:Int):=by
            refine Int.dvd_sub ?_ (Int.dvd_mul_left _ _)
            rw [hS,castpow]
            exact Int.dvd_natAbs.2 hdy
          by_cases c4:y.natAbs + S≤9007199254740992 * S
          · omega
          · have:=dvd_small (by omega) hd2 (by simp;omega)
            omega
      · rw [← hS] at c;omega
    · -- of unlike sign
      have hbig:¬ ((x - -y).natAbs≤x.natAbs∧(x - -y).natAbs≤(-y).natAbs):=fun hh=>by
        have h9:=sterbenz hx hy.neg hh
        rw [show x - -y = x + y from by omega] at h9
        exact he (h.fix h9)
      have hdx:((2:Int) ^ (F + 1)) ∣ x:=hx.unit F (by rw [← hS];omega)
      have hdd:(T:Int) ∣ (s - x):=Int.dvd_sub hdT (by rw [hE,castpow];exact hdx)
      refine ⟨F + 1,by rw [← castpow,← hE];exact hdd, ?_⟩
      rw [← hE]
      by_cases c:(s - x).natAbs≤9007199254740992 * T
      · exact c
      · exfalso
        rcases Int.lt_or_le (s - x) 0 with hs | hs
        · have hd:(T:Int) ∣ (s - x + 9007199254740992 * (T:Int)):=Int.dvd_add hdd (Int.dvd_mul_left _ _)
          have:=dvd_small (by omega) hd (by simp;omega)
          omega
        · have hd:(T:Int) ∣ (s - x - 9007199254740992 * (T:Int)):=Int.dvd_sub hdd (Int.dvd_mul_left _ _)
          have:=dvd_small (by omega) hd (by simp;omega)
          omega
theorem twoSum_exact {x y s p d1 d2 d3 o:Int} {T0 T1 T2 T3 T4 T5:Nat} (hx:FL x) (hy:FL y) (h0:Nr (x + y) s T0) (h1:Nr (s - x) p T1) (h2:Nr (s - p) d1 T2) (h3:Nr (x - d1) d2 T3) (h4:Nr (y - p) d3 T4) (h5:Nr (d2 + d3) o T5):o = x + y - s:=by
  have he:=off_fl hx hy h0
  by_cases hc:s - x = p∧True
  · -- p is exact
    have hp:p = s - x:=hc.1.symm
    have e1:d1 = x:=by
      have:=h2.fix (by rw [hp,show s - (s - x) = x from by omega];exact hx)
      omega
    have e2:d2 = 0:=by
      have:=h3.fix (by rw [e1,show x - x = 0 from by omega];exact FL.zero)
      omega
    have e3:d3 = x + y - s:=by
      have:=h4.fix (by rw [hp,show y - (s - x) = x + y - s from by omega];exact he)
      omega
    have:=h5.fix (by rw [e2,e3,show (0:Int) + (x + y - s) = x + y - s from by omega];exact he)
    omega
  · have hp:p≠s - x:=fun e=>hc ⟨e.symm,trivial⟩
    have hlt:x.natAbs < y.natAbs:=by
      rcases Nat.lt_or_ge x.natAbs y.natAbs with h | h
      · exact h
      · exact absurd (h1.fix (fast_fl hx hy h0 h)) hp
    have hne:s≠x + y:=fun e=>by
      have:=h1.fix (by rw [e,show x + y - x = y from by omega];exact hy)
      exact hp this
    -- the nearest is not below x
    have hfs:=h0.fl
    have hsx:x.natAbs≤s.natAbs:=by
      have n1:=h0.nearest hx
      have n2:=h0.nearest hx.neg
      have hbig:¬ ((x - -y).natAbs≤x.natAbs∧(x - -y).natAbs≤(-y).natAbs):=fun hh=>by
        have h9:=sterbenz hx hy.neg hh
        rw [show x - -y = x + y from by omega] at h9
        exact hne (h0.fix h9)
      omega
    -- the second sum
    have h1':Nr (s + -x) p T1:=by rw [show s + -x = s - x from by omega];exact h1
    have f1:=fast_fl hfs hx.neg h1' (by rw [Int.natAbs_neg];exact hsx)
    have e1:d1 = s - p:=h2.fix (by rw [show s - p = -(p - s) from by omega];exact f1.neg)
    have f2:=off_fl hfs hx.neg h1'
    have e2:d2 = x - d1:=h3.fix (by rw [e1,show x - (s - p) = -(s + -x - p) from by omega];exact f2.neg)
    -- y and p lie near each other
    have hn:=h0.near
    have hT1:¬ T0 = 1:=fun e=>by rw [e] at hn;omega
    have hlow:=h0.low.resolve_left hT1
    have n3:=h1.nearest hy
    have f3:FL (y - p):=sterbenz hy h1.fl ⟨by omega,by omega⟩
    have e3:d3 = y - p:=h4.fix f3
    have:=h5.fix (by rw [e2,e3,e1,show x - (s - p) + (y - p) = x + y - s from by omega];exact he)
    omega
open Ieee in
theorem cut_even (neg:Bool) (n drop:Nat):Toward.even.cut neg n drop = n / 2 ^ drop + (upw 0 (n / 2 ^ drop) (n % 2 ^ drop) (2 ^ drop)).toNat:=by
  unfold Toward.cut
  simp only [Nat.shiftLeft_eq,Nat.one_mul]
  have hup:∀ S r w:Nat,upw 0 S r w = (decide (w < 2 * r) || (w == 2 * r && S % 2 == 1)):=fun S r w=>by
    unfold upw
    simp
    rfl
  rcases Nat.lt_or_ge (n.log2 + 2) drop with c | c
  · rw [Nat.min_eq_right (by omega)]
    have h1:n < 2 ^ (n.log2 + 1):=Nat.lt_log2_self
    have h2:2 ^ (n.log2 + 2) = 2 * 2 ^ (n.log2 + 1):=by rw [Nat.pow_succ];omega
    have h3:2 ^ (n.log2 + 2)≤2 ^ drop:=Nat.pow_le_pow_right (by omega) (by omega)
    rw [Nat.div_eq_of_lt (show n < 2 ^ (n.log2 + 2) by omega),Nat.mod_eq_of_lt (show n < 2 ^ (n.log2 + 2) by omega),Nat.div_eq_of_lt (show n < 2 ^ drop by omega),Nat.mod_eq_of_lt (show n < 2 ^ drop by omega),hup]
    have e1:¬ 2 ^ (n.log2 + 2) < 2 * n:=by omega
    have e2:¬ 2 ^ drop < 2 * n:=by omega
    have e3:¬ 2 ^ (n.log2 + 2) = 2 * n:=by omega
    have e4:¬ 2 ^ drop = 2 * n:=by omega
    simp [e1,e2]
  · rw [Nat.min_eq_left c,hup]
theorem rn_nr (A:Nat):Nr (A:Int) ((rU 0 53 A 1:Nat):Int) (2 ^ rE 53 A 1):=by
  obtain ⟨h1,h2⟩:=rE_spec 53 A 1 (by omega) (by omega)
  obtain ⟨E,hE⟩:∃ E,E = rE 53 A 1:=⟨_,rfl⟩
  obtain ⟨T,hT⟩:∃ T,T = 2 ^ E:=⟨_,rfl⟩
  have hTp:0 < T:=by rw [hT];exact Nat.two_pow_pos E
  have hU:rU 0 53 A 1 = (A / T + (upw 0 (A / T) (A % T) T).toNat) * T:=by
    unfold rU rS rR
    rw [← hE,Nat.one_mul,← hT]
  rw [← hE,Nat.one_mul,Nat.pow_add,← hT,show (2:Nat) ^ 53 = 9007199254740992 from by decide] at h1
  rw [hU,← hE,← hT]
  have hdm:=Nat.div_add_mod A T
  have hml:=Nat.mod_lt A hTp
  obtain ⟨Q,hQ⟩:∃ Q,Q = A / T:=⟨_,rfl⟩
  obtain ⟨r,hr⟩:∃ r,r = A % T:=⟨_,rfl⟩
  rw [← hQ,← hr] at hdm
  rw [← hr] at hml
  rw [← hQ,← hr]
  refine ⟨hTp,⟨((Q + (upw 0 Q r T).toNat:Nat):Int),by rw [Int.natCast_mul,Int.mul_comm]⟩, ?_,by rw [Int.natAbs_natCast];omega, ?_,⟨E,hT⟩⟩
  · have hc:T * Q = Q * T:=Nat.mul_comm _ _
    cases hu:upw 0 Q r T
    · have h9:¬ T < 2 * r:=fun h=>by unfold upw at hu;simp at hu;omega
      simp only [Bool.toNat_false,Nat.add_zero]
      omega
    · have h9:T≤2 * r:=by
        unfold upw at hu
        simp at hu
        omega
      simp only [Bool.toNat_true]
      have:(Q + 1) * T = Q * T + T:=by rw [Nat.add_mul,Nat.one_mul]
      omega
  · rw [Int.natAbs_natCast]
    rcases h2 with h | h
    · left;rw [hT,hE,h,Nat.pow_zero]
    · right
      rw [← hE,Nat.one_mul,show E + 53 - 1 = E + 52 from by omega,Nat.pow_add,← hT,show (2:Nat) ^ 52 = 4503599627370496 from by decide] at h
      omega
theorem rung_of (A:Nat) (d:Int) (E K:Nat) (hE:E = rE 53 A 1) (hK:K = rS 53 A 1 + (upw d (rS 53 A 1) (rR 53 A 1) (1 * 2 ^ rE 53 A 1)).toNat):rU d 53 A 1 = K * 2 ^ E∧K≤9007199254740992∧(E = 0→K < 9007199254740992)∧(E = 0∨4503599627370496≤K)∧rgU 53 (rU d 53 A 1) = E * 4503599627370496 + K∧(blen (rU d 53 A 1)≤2098 ↔ E * 4503599627370496 + K < 9218868437227405312):=by
  obtain ⟨h1,h2⟩:=rE_spec 53 A 1 (by omega) (by omega)
  have hU:rU d 53 A 1 = K * 2 ^ E:=by unfold rU;rw [← hK,← hE]
  rw [← hE] at h1 h2
  rw [Nat.one_mul,Nat.pow_add,show (2:Nat) ^ 53 = 9007199254740992 from by decide] at h1
  have hTp:0 < 2 ^ E:=Nat.two_pow_pos E
  have hSq:rS 53 A 1 = A / 2 ^ E:=by unfold rS;rw [← hE,Nat.one_mul]
  have hRq:rR 53 A 1 = A % 2 ^ E:=by unfold rR;rw [← hE,Nat.one_mul]
  have hS1:rS 53 A 1 < 9007199254740992:=by rw [hSq,Nat.div_lt_iff_lt_mul hTp,Nat.mul_comm];exact h1
  have hS2:E = 0∨4503599627370496≤rS 53 A 1:=by
    rcases h2 with h | h
    · exact Or.inl h
    · right
      rw [Nat.one_mul,show E + 53 - 1 = 52 + E from by omega,Nat.pow_add,show (2:Nat) ^ 52 = 4503599627370496 from by decide] at h
      rw [hSq,Nat.le_div_iff_mul_le hTp]
      exact h
  have hb:(upw d (rS 53 A 1) (rR 53 A 1) (1 * 2 ^ rE 53 A 1)).toNat≤1:=Bool.toNat_le _
  have hK1:K≤9007199254740992:=by omega
  have hK0:E = 0→K < 9007199254740992:=fun h=>by
    have h0:rR 53 A 1 = 0:=by rw [hRq,h,Nat.pow_zero,Nat.mod_one]
    rw [h0,upw_none _ _ _ (by rw [Nat.one_mul];exact Nat.two_pow_pos _)] at hK
    simp at hK
    omega
  have hK2:E = 0∨4503599627370496≤K:=by omega
  refine ⟨hU,hK1,hK0,hK2, ?_⟩
  rw [hU]
  by_cases c0:K = 0
  · have hE0:E = 0:=by omega
    rw [c0,hE0,Nat.zero_mul,rgU_zero,blen_zero]
    omega
  · by_cases c1:K = 9007199254740992
    · have hp:0 < E:=by
        rcases Nat.eq_zero_or_pos E with h | h
        · exact absurd (hK0 h) (by omega)
        · exact h
      have e1:K * 2 ^ E = 4503599627370496 * 2 ^ (E + 1):=by rw [c1,Nat.pow_succ];omega
      have b1:blen 4503599627370496 = 53:=by
        have:=blen_uniq 4503599627370496 52 (by decide) (by decide)
        exact this
      rw [e1,rgU_mul 53 4503599627370496 (E + 1) 0 (by decide) (by rw [b1];omega) (by rw [b1];omega),blen_mul _ _ (by decide),b1,show (2:Nat) ^ (53 - 1) = 4503599627370496 from by decide,Nat.pow_zero,Nat.mul_one,c1]
      constructor
      · omega
      · omega
    · have hlt:K < 9007199254740992:=by omega
      by_cases c2:E = 0
      · rw [c2,Nat.pow_zero,Nat.mul_one]
        have hb2:blen K≤53:=by rw [blen_le_iff,show (2:Nat) ^ 53 = 9007199254740992 from by decide];exact hlt
        have:rgU 53 K = K:=by
          unfold rgU
          rw [show blen K - 53 = 0 from by omega,Nat.zero_mul,Nat.pow_zero,Nat.div_one,Nat.zero_add]
        rw [this]
        omega
      · have hge:4503599627370496≤K:=by omega
        have b1:blen K = 53:=by
          have hb2:blen K≤53:=by rw [blen_le_iff,show (2:Nat) ^ 53 = 9007199254740992 from by decide];exact hlt
          have hb3:¬ blen K≤52:=by rw [blen_le_iff,show (2:Nat) ^ 52 = 4503599627370496 from by decide];omega
          omega
        rw [rgU_mul 53 K E 0 c0 (by rw [b1];omega) (by omega),blen_mul _ _ c0,b1,show (2:Nat) ^ (53 - 1) = 4503599627370496 from by decide,Nat.pow_zero,Nat.mul_one]
        constructor
        · omega
        · omega
end Go.Proofs.YtnileplkkmhdgaaGreatDoor
