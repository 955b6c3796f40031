import Derived.Test.YtmpjcknaelgnoaaGreatDoorKXM
namespace Go.Proofs.YtmpjcknaelgnoaaGreatDoor
open Go.RowKit
def upw (d:Int) (S r w:Nat):Bool:=if d=1 then decide (0<r) else if d = -1 then false else decide (w<2*r) || (decide (w=2*r) && decide (S % 2=1))
def rE (p A B:Nat):Nat:=blen (A / B) - p
def rS (p A B:Nat):Nat:=A / (B*2 ^ rE p A B)
def rR (p A B:Nat):Nat:=A % (B*2 ^ rE p A B)
def rU (d:Int) (p A B:Nat):Nat:=(rS p A B+(upw d (rS p A B) (rR p A B) (B*2 ^ rE p A B)).toNat)*2 ^ rE p A B
def rV (d:Int) (p A B:Nat) (t:Int):Nat:=rU d p (A*2 ^ t.toNat) (B*2 ^ (-t).toNat)
theorem upw_scale (d:Int) (S r w k:Nat) (hk:0<k):upw d S (r*k) (w*k)=upw d S r w:=by
 have h1:(0<r*k) ↔ 0<r:=⟨fun h=>Nat.pos_of_ne_zero (fun e=>by subst e;simp at h),fun h=>Nat.mul_pos h hk⟩
 have h2:(w*k<2*(r*k)) ↔ w<2*r:=by rw [← Nat.mul_assoc];exact Nat.mul_lt_mul_right hk
 have h3:(w*k=2*(r*k)) ↔ w=2*r:=by rw [← Nat.mul_assoc];exact Nat.mul_left_inj (by omega)
 unfold upw
 simp only [h1,h2,h3]
theorem upw_none (d:Int) (S w:Nat) (hw:0<w):upw d S 0 w=false:=by
 unfold upw
 split
 ·simp
 ·split
  ·rfl
  ·simp;omega
theorem upw_small (d:Int) (S r w w':Nat) (h:2*r<w) (h':2*r<w'):upw d S r w=upw d S r w':=by
 unfold upw
 split
 ·rfl
 ·split
  ·rfl
  ·rw [decide_eq_false (show ¬ w<2*r by omega),decide_eq_false (show ¬ w=2*r by omega),decide_eq_false (show ¬ w'<2*r by omega),decide_eq_false (show ¬ w'=2*r by omega)]
theorem blen_le_iff (x k:Nat):blen x≤k ↔ x<2 ^ k:=by
 constructor
 ·intro h
  by_cases c:x=0
  ·subst c;exact Nat.pow_pos (by omega)
  ·exact Nat.lt_of_lt_of_le (blen_spec x c).2.1 (Nat.pow_le_pow_right (by omega) h)
 ·exact blen_lt x k
theorem rE_spec (p A B:Nat) (hB:0<B) (hp:0<p):A<B*2 ^ (rE p A B+p)∧(rE p A B=0∨B*2 ^ (rE p A B+p - 1)≤A):=by
 have h1:blen (A / B)≤rE p A B+p:=by unfold rE;omega
 rw [blen_le_iff,Nat.div_lt_iff_lt_mul hB,Nat.mul_comm] at h1
 refine ⟨h1, ?_⟩
 by_cases c:rE p A B=0
 ·exact Or.inl c
 ·right
  have h2:¬ blen (A / B)≤rE p A B+p - 1:=by unfold rE at c ⊢;omega
  rw [blen_le_iff,Nat.div_lt_iff_lt_mul hB,Nat.mul_comm] at h2
  omega
theorem rE_uniq (p A B E:Nat) (hB:0<B) (hp:0<p) (h1:A<B*2 ^ (E+p)) (h2:E=0∨B*2 ^ (E+p - 1)≤A):rE p A B=E:=by
 have a1:blen (A / B)≤E+p:=by rw [blen_le_iff,Nat.div_lt_iff_lt_mul hB,Nat.mul_comm];exact h1
 unfold rE
 rcases h2 with h2 | h2
 ·omega
 ·by_cases c:E=0
  ·omega
  ·have a2:¬ blen (A / B)≤E+p - 1:=by
    rw [blen_le_iff,Nat.div_lt_iff_lt_mul hB,Nat.mul_comm];omega
   omega
theorem rU_scale (d:Int) (p A B k:Nat) (hk:0<k):rU d p (A*k) (B*k)=rU d p A B:=by
 have hE:rE p (A*k) (B*k)=rE p A B:=by unfold rE;rw [Nat.mul_div_mul_right _ _ hk]
 have hW:B*k*2 ^ rE p A B=B*2 ^ rE p A B*k:=by rw [Nat.mul_assoc,Nat.mul_comm k,← Nat.mul_assoc]
 have hS:rS p (A*k) (B*k)=rS p A B:=by unfold rS;rw [hE,hW,Nat.mul_div_mul_right _ _ hk]
 have hR:rR p (A*k) (B*k)=rR p A B*k:=by unfold rR;rw [hE,hW,Nat.mul_mod_mul_right]
 unfold rU
 rw [hS,hR,hE,hW,upw_scale _ _ _ _ _ hk]
theorem rU_ratio (d:Int) (p A B A' B':Nat) (hB:0<B) (hB':0<B') (h:A*B'=A'*B):rU d p A B=rU d p A' B':=by
 rw [← rU_scale d p A B B' hB',← rU_scale d p A' B' B hB,h,Nat.mul_comm B B']
theorem rU_sticky (d:Int) (p A A' B c h l l' t:Nat) (hB:0<B) (hp:0<p) (hA:A=h*c+l) (hl:l<c) (hA':A'=h*c+l') (hl':l'<c) (hz:l=0 ↔ l'=0) (hd:B*2 ^ rE p A B=2*(c*t)):rU d p A B=rU d p A' B:=by
 obtain ⟨E,hE⟩:∃ E,E=rE p A B:=⟨_,rfl⟩
 have hc:0<c:=by omega
 have ht:0<t:=by
  rcases Nat.eq_zero_or_pos t with e | e
  ·subst e
   have:0<B*2 ^ rE p A B:=Nat.mul_pos hB (Nat.pow_pos (by omega))
   simp at hd;omega
  ·exact e
 rw [← hE] at hd
 -- multiples of c part A and A' alike
 have key:∀ T,(∃ u,T=c*u)→(A<T ↔ A'<T):=by
  rintro T ⟨u,rfl⟩
  rw [hA,hA',Nat.mul_comm c u]
  constructor
  ·intro g
   have:h<u:=Nat.lt_of_mul_lt_mul_right (show h*c<u*c by omega)
   have:(h+1)*c≤u*c:=Nat.mul_le_mul_right c this
   rw [Nat.add_mul,Nat.one_mul] at this
   omega
  ·intro g
   have:h<u:=Nat.lt_of_mul_lt_mul_right (show h*c<u*c by omega)
   have:(h+1)*c≤u*c:=Nat.mul_le_mul_right c this
   rw [Nat.add_mul,Nat.one_mul] at this
   omega
 have hmul:∀ j,E≤j→∃ u,B*2 ^ j=c*u:=fun j hj=>by
  refine ⟨2*t*2 ^ (j - E), ?_⟩
  have:(2:Nat) ^ j=2 ^ E*2 ^ (j - E):=by rw [← Nat.pow_add];exact congrArg _ (by omega)
  rw [this,← Nat.mul_assoc,hd,← Nat.mul_assoc c,Nat.mul_left_comm c 2 t]
 obtain ⟨s1,s2⟩:=rE_spec p A B hB hp
 rw [← hE] at s1 s2
 have hE':rE p A' B=E:=rE_uniq p A' B E hB hp ((key _ (hmul _ (by omega))).1 s1) (by
  rcases s2 with s2 | s2
  ·exact Or.inl s2
  ·by_cases c0:E=0
   ·exact Or.inl c0
   ·right
    have:=key _ (hmul (E+p - 1) (by omega))
    omega)
 have hS:∀ l,l<c→(h*c+l) / (2*(c*t))=h / (2*t)∧(h*c+l) % (2*(c*t))=h % (2*t)*c+l:=by
  intro l hl
  have e1:(2:Nat)*(c*t)=c*(2*t):=by rw [Nat.mul_left_comm]
  have e2:(h*c+l) / c=h:=by rw [Nat.add_comm,Nat.add_mul_div_right _ _ hc,Nat.div_eq_of_lt hl,Nat.zero_add]
  have e3:(h*c+l) % c=l:=by rw [Nat.add_comm,Nat.add_mul_mod_self_right,Nat.mod_eq_of_lt hl]
  rw [e1]
  refine ⟨by rw [← Nat.div_div_eq_div_mul,e2], ?_⟩
  rw [Nat.mod_mul,e2,e3,Nat.mul_comm c,Nat.add_comm]
 unfold rU rS rR
 rw [hE',← hE,hd,hA,hA',(hS l hl).1,(hS l' hl').1,(hS l hl).2,(hS l' hl').2]
 have hup:upw d (h / (2*t)) (h % (2*t)*c+l) (2*(c*t))=upw d (h / (2*t)) (h % (2*t)*c+l') (2*(c*t)):=by
  obtain ⟨y,hy⟩:∃ y,y=h % (2*t):=⟨_,rfl⟩
  rw [← hy]
  have k1:∀ l,l<c→(2*(c*t)<2*(y*c+l) ↔ t<y∨(t=y∧l≠0)):=by
   intro l hl
   rw [Nat.mul_comm c t]
   constructor
   ·intro g
    by_cases c1:t<y
    ·exact Or.inl c1
    ·right
     have:y*c≤t*c:=Nat.mul_le_mul_right c (by omega)
     by_cases c2:t=y
     ·subst c2;exact ⟨rfl,by omega⟩
     ·exfalso
      have:(y+1)*c≤t*c:=Nat.mul_le_mul_right c (by omega)
      rw [Nat.add_mul,Nat.one_mul] at this
      omega
   ·rintro (g | ⟨g,g2⟩)
    ·have:(t+1)*c≤y*c:=Nat.mul_le_mul_right c g
     rw [Nat.add_mul,Nat.one_mul] at this
     omega
    ·subst g;omega
  have k2:∀ l,l<c→(2*(c*t)=2*(y*c+l) ↔ t=y∧l=0):=by
   intro l hl
   rw [Nat.mul_comm c t]
   constructor
   ·intro g
    by_cases c2:t=y
    ·subst c2;exact ⟨rfl,by omega⟩
    ·exfalso
     rcases Nat.lt_or_gt_of_ne c2 with c3 | c3
     ·have:(t+1)*c≤y*c:=Nat.mul_le_mul_right c c3
      rw [Nat.add_mul,Nat.one_mul] at this
      omega
     ·have:(y+1)*c≤t*c:=Nat.mul_le_mul_right c c3
      rw [Nat.add_mul,Nat.one_mul] at this
      omega
   ·rintro ⟨g,g2⟩
    subst g;subst g2;omega
  have k3:∀ l,(0<y*c+l ↔ 0<y∨l≠0):=by
   intro l
   constructor
   ·intro g
    by_cases c2:0<y
    ·exact Or.inl c2
    ·right;intro e;subst e
     have:y=0:=by omega
     subst this;simp at g
   ·rintro (g | g)
    ·have:=Nat.mul_pos g hc;omega
    ·omega
  unfold upw
  simp only [k1 l hl,k1 l' hl',k2 l hl,k2 l' hl',k3,ne_eq,hz]
 rw [hup]
theorem rV_ratio (d:Int) (p A B A' B':Nat) (t:Int) (hB:0<B) (hB':0<B') (h:A*B'=A'*B):rV d p A B t=rV d p A' B' t:=by
 unfold rV
 refine rU_ratio d p _ _ _ _ (Nat.mul_pos hB (Nat.pow_pos (by omega))) (Nat.mul_pos hB' (Nat.pow_pos (by omega))) ?_
 rw [Nat.mul_mul_mul_comm,h,Nat.mul_mul_mul_comm]
theorem rV_up (d:Int) (p A B k:Nat) (t:Int) (hB:0<B):rV d p (A*2 ^ k) B t=rV d p A B (t+k):=by
 unfold rV
 refine rU_ratio d p _ _ _ _ (Nat.mul_pos hB (Nat.pow_pos (by omega))) (Nat.mul_pos hB (Nat.pow_pos (by omega))) ?_
 have e:k+t.toNat+(-(t+k)).toNat=(t+k).toNat+(-t).toNat:=by omega
 rw [Nat.mul_assoc A,← Nat.pow_add,Nat.mul_mul_mul_comm,← Nat.pow_add,e,Nat.pow_add,Nat.mul_mul_mul_comm]
theorem rV_down (d:Int) (p A B k:Nat) (t:Int) (hB:0<B):rV d p A (B*2 ^ k) t=rV d p A B (t - k):=by
 unfold rV
 refine rU_ratio d p _ _ _ _ (Nat.mul_pos (Nat.mul_pos hB (Nat.pow_pos (by omega))) (Nat.pow_pos (by omega))) (Nat.mul_pos hB (Nat.pow_pos (by omega))) ?_
 have e:t.toNat+(-(t - k)).toNat=(t - k).toNat+(k+(-t).toNat):=by omega
 rw [Nat.mul_assoc B,← Nat.pow_add,Nat.mul_mul_mul_comm,← Nat.pow_add,e,Nat.pow_add,Nat.mul_mul_mul_comm]
theorem blen_mul (x n:Nat) (h:x≠0):blen (x*2 ^ n)=blen x+n:=by
 obtain ⟨h1,h2,h3⟩:=blen_spec x h
 have e:blen x+n=(blen x - 1+n)+1:=by omega
 rw [e]
 refine blen_uniq _ _ ?_ ?_
 ·rw [Nat.pow_add];exact Nat.mul_le_mul_right _ h1
 ·rw [show blen x - 1+n+1=blen x+n from by omega,Nat.pow_add];exact Nat.mul_lt_mul_of_pos_right h2 (Nat.pow_pos (by omega))
theorem blen_shr (x b:Nat):blen (x / 2 ^ b)=blen x - b:=by
 have key:∀ k,blen (x / 2 ^ b)≤k ↔ blen x≤k+b:=fun k=>by
  rw [blen_le_iff,blen_le_iff,Nat.div_lt_iff_lt_mul (Nat.pow_pos (by omega)),Nat.pow_add]
 have h1:=(key (blen x - b)).2 (by omega)
 have h2:=(key (blen (x / 2 ^ b))).1 (Nat.le_refl _)
 omega
theorem prog_round (d:Int) (p sig:Nat) (t:Int) (L c:Nat) (hp:0<p) (hL:(L:Int)=max (max t (t+blen sig - p)) 0) (hc:(c:Int)=L - t) :
  rV d p sig 1 t=(sig / 2 ^ c+(upw d (sig / 2 ^ c) (sig % 2 ^ c) (2 ^ c)).toNat)*2 ^ L∧sig / 2 ^ c<2 ^ p:=by
 have hlt:sig / 2 ^ c<2 ^ p:=by
  rw [← blen_le_iff,blen_shr];omega
 refine ⟨?_,hlt⟩
 unfold rV
 by_cases ht:0≤t
 ·obtain ⟨n,rfl⟩:∃ n:Nat,t=(n:Int):=⟨t.toNat,by omega⟩
  rw [show (-(n:Int)).toNat=0 from by omega,Int.toNat_natCast,Nat.pow_zero,Nat.mul_one]
  by_cases h0:sig=0
  ·subst h0
   unfold rU rS rR
   rw [Nat.zero_mul,Nat.zero_div,Nat.zero_mod,Nat.zero_div,Nat.zero_mod,upw_none _ _ _ (Nat.mul_pos (by omega) (Nat.pow_pos (by omega))),upw_none _ _ _ (Nat.pow_pos (by omega))]
   simp
  ·have hE:rE p (sig*2 ^ n) 1=blen sig+n - p:=by unfold rE;rw [Nat.div_one,blen_mul _ _ h0]
   by_cases hl:blen sig≤p
   ·have hLn:L=n:=by omega
    have hc0:c=0:=by omega
    subst hLn;subst hc0
    obtain ⟨k,hk⟩:∃ k,L=rE p (sig*2 ^ L) 1+k:=⟨L - rE p (sig*2 ^ L) 1,by omega⟩
    obtain ⟨E,hE9⟩:∃ E,E=rE p (sig*2 ^ L) 1:=⟨_,rfl⟩
    rw [← hE9] at hk hE
    unfold rU rS rR
    rw [← hE9,Nat.one_mul,Nat.pow_zero,Nat.div_one,Nat.mod_one,upw_none _ _ 1 (by omega)]
    have e1:sig*2 ^ L=sig*2 ^ k*2 ^ E:=by rw [Nat.mul_assoc,← Nat.pow_add,hk,Nat.add_comm]
    have e2:(2:Nat) ^ L=2 ^ k*2 ^ E:=by rw [← Nat.pow_add,hk,Nat.add_comm]
    rw [e1,Nat.mul_div_cancel _ (Nat.pow_pos (by omega)),Nat.mul_mod_left,upw_none _ _ _ (Nat.pow_pos (by omega)),e2,← Nat.mul_assoc]
    simp
   ·have hLn:L=c+n:=by omega
    have hcl:c=blen sig - p:=by omega
    have hE2:rE p (sig*2 ^ n) 1=L:=by omega
    unfold rU rS rR
    rw [hE2,Nat.one_mul]
    have e2:(2:Nat) ^ L=2 ^ c*2 ^ n:=by rw [← Nat.pow_add,hLn]
    rw [e2,Nat.mul_div_mul_right _ _ (Nat.pow_pos (by omega)),Nat.mul_mod_mul_right,upw_scale _ _ _ _ _ (Nat.pow_pos (by omega))]
 ·obtain ⟨b,hb⟩:∃ b:Nat,-t=(b:Int):=⟨(-t).toNat,by omega⟩
  rw [show t.toNat=0 from by omega,show (-t).toNat=b from by omega,Nat.pow_zero,Nat.mul_one,Nat.one_mul]
  have hE:rE p sig (2 ^ b)=L:=by unfold rE;rw [blen_shr];omega
  have hcb:c=b+L:=by omega
  unfold rU rS rR
  rw [hE,← Nat.pow_add,← hcb]
theorem ref_round (d:Int) (p n m K E N' M' k:Nat) (hE:rE p (n*2 ^ K) m=E) (h1:n*2 ^ K=N'*2 ^ k) (h2:m*2 ^ E=M'*2 ^ k) :
  rV d p n m (K:Int)=(N' / M'+(upw d (N' / M') (N' % M') M').toNat)*2 ^ E:=by
 unfold rV
 rw [show (-(K:Int)).toNat=0 from by omega,Int.toNat_natCast,Nat.pow_zero,Nat.mul_one]
 unfold rU rS rR
 rw [hE,h2,h1,Nat.mul_div_mul_right _ _ (Nat.pow_pos (by omega)),Nat.mul_mod_mul_right,upw_scale _ _ _ _ _ (Nat.pow_pos (by omega))]
theorem ref_rE (p n m K a b E:Nat) (hp:0<p) (hm:0<m) (h1:m*2 ^ a≤n*2 ^ b) (h2:n*2 ^ b<m*2 ^ (a+1)) (hE:(E:Int)=max ((a:Int) - b - p+1+K) 0):rE p (n*2 ^ K) m=E:=by
 refine rE_uniq p _ m E hm hp ?_ ?_
 ·have e1:n*2 ^ K*2 ^ b<m*2 ^ (E+p)*2 ^ b:=by
   have e2:n*2 ^ b*2 ^ K<m*2 ^ (a+1)*2 ^ K:=Nat.mul_lt_mul_of_pos_right h2 (Nat.pow_pos (by omega))
   have e3:m*2 ^ (a+1)*2 ^ K≤m*2 ^ (E+p)*2 ^ b:=by
    rw [Nat.mul_assoc,Nat.mul_assoc,← Nat.pow_add,← Nat.pow_add]
    exact Nat.mul_le_mul_left _ (Nat.pow_le_pow_right (by omega) (by omega))
   rw [Nat.mul_right_comm n]
   omega
  exact Nat.lt_of_mul_lt_mul_right e1
 ·by_cases c:E=0
  ·exact Or.inl c
  ·right
   have e1:m*2 ^ (E+p - 1)*2 ^ b≤n*2 ^ K*2 ^ b:=by
    have e2:m*2 ^ a*2 ^ K≤n*2 ^ b*2 ^ K:=Nat.mul_le_mul_right _ h1
    have e3:m*2 ^ (E+p - 1)*2 ^ b=m*2 ^ a*2 ^ K:=by
     rw [Nat.mul_assoc,Nat.mul_assoc,← Nat.pow_add,← Nat.pow_add]
     exact congrArg (fun x=>m*2 ^ x) (by omega)
    rw [Nat.mul_right_comm n]
    omega
   exact Nat.le_of_mul_le_mul_right e1 (Nat.pow_pos (by omega))
theorem ratio_top (n m:Nat) (hn:n≠0) (hm:m≠0):n*2 ^ blen m<m*2 ^ (blen n+1)∧m*2 ^ blen n<n*2 ^ (blen m+1):=by
 obtain ⟨n1,n2,n3⟩:=blen_spec n hn
 obtain ⟨m1,m2,m3⟩:=blen_spec m hm
 have e1:(2:Nat) ^ (blen n+1)=2*2 ^ blen n:=by rw [Nat.pow_succ,Nat.mul_comm]
 have e2:(2:Nat) ^ (blen m+1)=2*2 ^ blen m:=by rw [Nat.pow_succ,Nat.mul_comm]
 have e3:(2:Nat) ^ blen m≤2*m:=by
  have:(2:Nat) ^ blen m=2*2 ^ (blen m - 1):=by rw [← Nat.pow_succ',show (blen m - 1).succ=blen m from by omega]
  omega
 have e4:(2:Nat) ^ blen n≤2*n:=by
  have:(2:Nat) ^ blen n=2*2 ^ (blen n - 1):=by rw [← Nat.pow_succ',show (blen n - 1).succ=blen n from by omega]
  omega
 constructor
 ·rw [e1]
  have a1:n*2 ^ blen m≤n*(2*m):=Nat.mul_le_mul_left _ e3
  have a2:n*(2*m)<2 ^ blen n*(2*m):=Nat.mul_lt_mul_of_pos_right n2 (by omega)
  have a3:m*(2*2 ^ blen n)=2 ^ blen n*(2*m):=by rw [Nat.mul_left_comm,Nat.mul_comm m,Nat.mul_left_comm]
  omega
 ·rw [e2]
  have a1:m*2 ^ blen n≤m*(2*n):=Nat.mul_le_mul_left _ e4
  have a2:m*(2*n)<2 ^ blen m*(2*n):=Nat.mul_lt_mul_of_pos_right m2 (by omega)
  have a3:n*(2*2 ^ blen m)=2 ^ blen m*(2*n):=by rw [Nat.mul_left_comm,Nat.mul_comm n,Nat.mul_left_comm]
  omega
def rgU (p U:Nat):Nat:=(blen U - p)*2 ^ (p - 1)+U / 2 ^ (blen U - p)
def finU (p T G I:Nat) (d:Int) (U:Nat):Nat:=if blen U≤T then rgU p U else if d = -1 then G else I
theorem rgU_mul (p o x s:Nat) (ho:o≠0) (hs:s=min (p - blen o) x) (hb:blen o≤p):rgU p (o*2 ^ x)=(x - s)*2 ^ (p - 1)+o*2 ^ s:=by
 unfold rgU
 rw [blen_mul _ _ ho]
 have e1:blen o+x - p=x - s:=by omega
 rw [e1]
 have e2:(2:Nat) ^ x=2 ^ s*2 ^ (x - s):=by rw [← Nat.pow_add];exact congrArg _ (by omega)
 rw [e2,← Nat.mul_assoc,Nat.mul_div_cancel _ (Nat.pow_pos (by omega))]
theorem rgU_zero (p:Nat):rgU p 0=0:=by unfold rgU;rw [blen_zero];simp
def mdW (neg:Bool) (m:Nat):Nat:=if m=0 then 0 else if neg then 9223372036854775808+m else m
def MdI (U s:Nat) (x:Int):Prop:=s≠0∧s≤9007199254740992∧-1074≤x∧x≤5000∧s*2 ^ (x+1074).toNat=U
theorem MdI.half {U s:Nat} {x:Int} (h:MdI U s x) (hx:x<5000) (hs:9007199254740992≤s):MdI U (s / 2) (x+1)∧s / 2<9007199254740992:=by
 obtain ⟨h1,h2,h3,h4,h5⟩:=h
 have e:s=9007199254740992:=by omega
 subst e
 refine ⟨⟨by omega,by omega,by omega,by omega, ?_⟩,by omega⟩
 rw [← h5,show (x+1+1074).toNat=(x+1074).toNat+1 from by omega,Nat.pow_succ]
 generalize 2 ^ (x+1074).toNat=y
 omega
theorem MdI.dbl {U s:Nat} {x:Int} (h:MdI U s x) (hs:s<4503599627370496) (hx:-1074<x):MdI U (2*s) (x - 1):=by
 obtain ⟨h1,h2,h3,h4,h5⟩:=h
 refine ⟨by omega,by omega,by omega,by omega, ?_⟩
 rw [← h5,show (x+1074).toNat=(x - 1+1074).toNat+1 from by omega,Nat.pow_succ]
 generalize 2 ^ (x - 1+1074).toNat=y
 rw [Nat.mul_comm 2 s,Nat.mul_assoc,Nat.mul_comm 2 y]
theorem MdI.top {U s:Nat} {x:Int} (h:MdI U s x) (h1:4503599627370496≤s) (h2:s<9007199254740992) (hb:blen U≤2098):x≤971∧rgU 53 U=(s - 4503599627370496)+(x+1075).toNat*4503599627370496∧rgU 53 U<9218868437227405312∧rgU 53 U≠0:=by
 obtain ⟨a1,_,a3,a4,a5⟩:=h
 have hbl:blen s=53:=blen_uniq s 52 (by rw [show (2:Nat) ^ 52=4503599627370496 from by decide];exact h1) (by rw [show (2:Nat) ^ (52+1)=9007199254740992 from by decide];exact h2)
 have hU:blen U=53+(x+1074).toNat:=by rw [← a5,blen_mul _ _ a1,hbl]
 have hr:=rgU_mul 53 s (x+1074).toNat 0 a1 (by rw [hbl];omega) (by omega)
 rw [a5,Nat.sub_zero,Nat.pow_zero,Nat.mul_one,show (2:Nat) ^ (53 - 1)=4503599627370496 from by decide] at hr
 have hx:x≤971:=by omega
 rw [hr]
 omega
theorem MdI.low {U s:Nat} {x:Int} (h:MdI U s x) (h1:s<4503599627370496) (hx:x = -1074):rgU 53 U=s∧rgU 53 U≠0:=by
 obtain ⟨a1,_,a3,a4,a5⟩:=h
 subst hx
 have hbl:blen s≤53:=blen_lt s 53 (by rw [show (2:Nat) ^ 53=9007199254740992 from by decide];omega)
 have hr:=rgU_mul 53 s 0 0 a1 (by omega) hbl
 rw [show (-1074+1074:Int).toNat=0 from rfl,Nat.pow_zero,Nat.mul_one] at a5
 rw [Nat.pow_zero,Nat.mul_one,Nat.sub_zero,Nat.zero_mul,Nat.zero_add] at hr
 rw [← a5,hr]
 exact ⟨rfl,a1⟩
def adjN (n m:Nat):Bool:=if blen m≤blen n then decide (n<m*2 ^ (blen n - blen m)) else decide (n*2 ^ (blen m - blen n)<m)
def topF (n m:Nat):Int:=(blen n:Int) - blen m - (if adjN n m then 1 else 0)
theorem topF_spec (n m:Nat) (hn:n≠0) (hm:m≠0):∃ a b:Nat,topF n m=(a:Int) - b∧m*2 ^ a≤n*2 ^ b∧n*2 ^ b<m*2 ^ (a+1):=by
 obtain ⟨r1,r2⟩:=ratio_top n m hn hm
 by_cases c:adjN n m=true
 ·refine ⟨blen n,blen m+1,by unfold topF;rw [if_pos c];omega,Nat.le_of_lt r2, ?_⟩
  unfold adjN at c
  split at c
  ·next h =>
   have h1:=of_decide_eq_true c
   have h2:=Nat.mul_lt_mul_of_pos_right h1 (Nat.pow_pos (n:=blen m+1) (by omega:0<2))
   rw [Nat.mul_assoc m,← Nat.pow_add,show blen n - blen m+(blen m+1)=blen n+1 from by omega] at h2
   exact h2
  ·next h =>
   have h1:=of_decide_eq_true c
   have h2:=Nat.mul_lt_mul_of_pos_right h1 (Nat.pow_pos (n:=blen n+1) (by omega:0<2))
   rw [Nat.mul_assoc n,← Nat.pow_add,show blen m - blen n+(blen n+1)=blen m+1 from by omega] at h2
   exact h2
 ·refine ⟨blen n+1,blen m+1,by unfold topF;rw [if_neg c];omega, ?_, ?_⟩
  ·unfold adjN at c
   split at c
   ·next h =>
    have h1:¬ n<m*2 ^ (blen n - blen m):=by simpa using c
    have h2:=Nat.mul_le_mul_right (2 ^ (blen m+1)) (Nat.le_of_not_lt h1)
    rw [Nat.mul_assoc m,← Nat.pow_add,show blen n - blen m+(blen m+1)=blen n+1 from by omega] at h2
    exact h2
   ·next h =>
    have h1:¬ n*2 ^ (blen m - blen n)<m:=by simpa using c
    have h2:=Nat.mul_le_mul_right (2 ^ (blen n+1)) (Nat.le_of_not_lt h1)
    rw [Nat.mul_assoc n,← Nat.pow_add,show blen m - blen n+(blen n+1)=blen m+1 from by omega] at h2
    exact h2
  ·have e1:(2:Nat) ^ (blen m+1)=2 ^ blen m*2:=Nat.pow_succ _ _
   have e2:(2:Nat) ^ (blen n+1+1)=2 ^ (blen n+1)*2:=Nat.pow_succ _ _
   rw [e1,e2,← Nat.mul_assoc,← Nat.mul_assoc]
   omega
theorem ref_all (d:Int) (P MO K T n m:Nat) (e:Int) (E ue de k:Nat) (hP:0<P) (hPT:P≤T) (hT:T=MO+1+K) (hn:n≠0) (hm:m≠0) (he:e=max (topF n m - P+1) (-(K:Int))) (hE:(E:Int)=e+K)
  (hu:n*2 ^ K=n*2 ^ ue*2 ^ k) (hd:m*2 ^ E=m*2 ^ de*2 ^ k) (sig:Nat) (hs:sig=n*2 ^ ue / (m*2 ^ de)+(upw d (n*2 ^ ue / (m*2 ^ de)) (n*2 ^ ue % (m*2 ^ de)) (m*2 ^ de)).toNat) :
  rV d P n m (K:Int)=sig*2 ^ E∧n*2 ^ ue / (m*2 ^ de)<2 ^ P∧sig≤2 ^ P∧((MO:Int)<topF n m→T<blen (rV d P n m (K:Int)))∧(¬ (MO:Int)<topF n m→(blen (rV d P n m (K:Int))≤T ↔ ¬ (sig=2 ^ P∧(MO:Int)<e+P))):=by
 obtain ⟨a,b,hf,f1,f2⟩:=topF_spec n m hn hm
 have hrE:rE P (n*2 ^ K) m=E:=ref_rE P n m K a b E hP (by omega) f1 f2 (by rw [hE,he,hf];omega)
 have hV:=ref_round d P n m K E (n*2 ^ ue) (m*2 ^ de) k hrE hu hd
 rw [← hs] at hV
 have hw:n*2 ^ ue / (m*2 ^ de)=n*2 ^ K / (m*2 ^ E):=by
  rw [hu,hd,Nat.mul_div_mul_right _ _ (Nat.pow_pos (by omega))]
 have hM:0<m*2 ^ E:=Nat.mul_pos (by omega) (Nat.pow_pos (by omega))
 obtain ⟨s1,s2⟩:=rE_spec P (n*2 ^ K) m (by omega) hP
 rw [hrE] at s1 s2
 have hlt:n*2 ^ ue / (m*2 ^ de)<2 ^ P:=by
  rw [hw,Nat.div_lt_iff_lt_mul hM,Nat.mul_left_comm,← Nat.pow_add,Nat.add_comm P E];exact s1
 have hsig:sig≤2 ^ P:=by
  rw [hs]
  have:(upw d (n*2 ^ ue / (m*2 ^ de)) (n*2 ^ ue % (m*2 ^ de)) (m*2 ^ de)).toNat≤1:=Bool.toNat_le _
  omega
 refine ⟨hV,hlt,hsig, ?_, ?_⟩
 ·intro hg
  have hE2:E+P - 1=(topF n m+K).toNat:=by omega
  have h1:m*2 ^ (E+P - 1)≤n*2 ^ K:=by
   rcases s2 with s2 | s2
   ·omega
   ·exact s2
  have h2:2 ^ (P - 1)≤n*2 ^ ue / (m*2 ^ de):=by
   rw [hw,Nat.le_div_iff_mul_le hM,Nat.mul_left_comm,← Nat.pow_add,show P - 1+E=E+P - 1 from by omega];exact h1
  have h3:2 ^ (P - 1)≤sig:=by rw [hs];omega
  have h4:2 ^ (P - 1+E)≤rV d P n m (K:Int):=by rw [hV,Nat.pow_add];exact Nat.mul_le_mul_right _ h3
  by_cases c:blen (rV d P n m (K:Int))≤T
  ·exfalso
   rw [blen_le_iff] at c
   have:(2:Nat) ^ T≤2 ^ (P - 1+E):=Nat.pow_le_pow_right (by omega) (by omega)
   omega
  ·omega
 ·intro hg
  rw [hV,blen_le_iff]
  constructor
  ·intro h1 h2
   rw [h2.1,← Nat.pow_add] at h1
   have:(2:Nat) ^ T≤2 ^ (P+E):=Nat.pow_le_pow_right (by omega) (by omega)
   omega
  ·intro h1
   by_cases c:sig=2 ^ P
   ·have h2:¬ (MO:Int)<e+P:=fun h=>h1 ⟨c,h⟩
    rw [c,← Nat.pow_add]
    exact Nat.pow_lt_pow_right (by omega) (by omega)
   ·have h3:sig<2 ^ P:=by omega
    have h4:sig*2 ^ E<2 ^ P*2 ^ E:=Nat.mul_lt_mul_of_pos_right h3 (Nat.pow_pos (by omega))
    rw [← Nat.pow_add] at h4
    have h5:(2:Nat) ^ (P+E)≤2 ^ T:=Nat.pow_le_pow_right (by omega) (by omega)
    omega
def dirN (neg:Bool) (d:Int):Int:=if neg then -d else d
def refW (P K T G k0:Nat) (d:Int) (neg:Bool) (n m:Nat):Nat :=
 if n=0 then 0 else mdW neg (if blen (rV (dirN neg d) P n m (K:Int))≤T then rgU 53 (rV (dirN neg d) P n m (K:Int)*2 ^ k0) else if dirN neg d = -1 then G else 9218868437227405312)
theorem blen_mono {a b:Nat} (h:a≤b):blen a≤blen b:=(blen_le_iff a (blen b)).2 (Nat.lt_of_le_of_lt h ((blen_le_iff b (blen b)).1 (Nat.le_refl _)))
theorem ctz_odd (a:Nat) (h:a≠0):∃ o,o % 2=1∧a=o*2 ^ ctz a∧a / 2 ^ ctz a=o∧ctz a≤blen a:=by
 obtain ⟨o,k,ho,e⟩:=odd_part a h
 have hk:ctz a=k:=by rw [e];exact ctz_eq k o ho
 refine ⟨o,ho,by rw [hk];exact e, ?_, ?_⟩
 ·rw [hk,e,Nat.mul_div_cancel _ (Nat.pow_pos (by omega))]
 ·rw [hk,e,blen_mul _ _ (by omega)];omega
theorem frac_rV (d:Int) (p a b a1 b1 ka kb x y:Nat) (exp ex t:Int) (ha:a=a1*2 ^ ka) (hb:b=b1*2 ^ kb) (hb1:0<b1) (hex:ex=exp+ka - kb) (hx:x=ex.toNat) (hy:y=(-ex).toNat) :
  rV d p (a1*2 ^ x) (b1*2 ^ y) t=rV d p a b (t+exp):=by
 rw [rV_up d p a1 _ x t (Nat.mul_pos hb1 (Nat.pow_pos (by omega))),rV_down d p a1 b1 y _ hb1,ha,hb,rV_up d p a1 _ ka _ (Nat.mul_pos hb1 (Nat.pow_pos (by omega))),rV_down d p a1 b1 kb _ hb1]
 exact congrArg _ (by omega)
def FracOf (a b:Nat) (exp:Int) (a' b':Nat):Prop:=b'≠0∧(a'=0 ↔ a=0)∧(∀ (d:Int) (p:Nat) (t:Int),a≠0→rV d p a' b' t=rV d p a b (t+exp))∧blen a'≤2*blen a+exp.natAbs+1∧blen b'≤2*blen b+exp.natAbs+1
theorem frac_of (a b a1 b1 ka kb x y:Nat) (exp ex:Int) (h0:a1≠0) (hb1:b1≠0) (ha:a=a1*2 ^ ka) (hb:b=b1*2 ^ kb) (_hka:ka≤blen a) (_hkb:kb≤blen b) (hex:ex=exp+ka - kb) (hx:x=ex.toNat) (hy:y=(-ex).toNat):FracOf a b exp (a1*2 ^ x) (b1*2 ^ y):=by
 have la:blen a=blen a1+ka:=by rw [ha,blen_mul _ _ h0]
 have lb:blen b=blen b1+kb:=by rw [hb,blen_mul _ _ hb1]
 have hp:∀ k,0<(2:Nat) ^ k:=fun k=>Nat.pow_pos (by omega)
 refine ⟨Nat.ne_of_gt (Nat.mul_pos (by omega) (hp y)), ?_, ?_, ?_, ?_⟩
 ·constructor
  ·intro h;exact absurd h (Nat.ne_of_gt (Nat.mul_pos (by omega) (hp x)))
  ·intro h;rw [ha] at h;exact absurd h (Nat.ne_of_gt (Nat.mul_pos (by omega) (hp ka)))
 ·intro d p t _
  exact frac_rV d p a b a1 b1 ka kb x y exp ex t ha hb (by omega) hex hx hy
 ·rw [blen_mul _ _ h0];omega
 ·rw [blen_mul _ _ hb1];omega
theorem rV_sticky (d:Int) (p N D h r H:Nat) (t:Int) (hD:0<D) (hp:0<p) (hp53:p≤53) (hN:N=h*D+r) (hr:r<D) (hH:H=2*h+(if r=0 then 0 else 1)) (hbig:r=0∨36028797018963968≤h):rV d p (2*N) D t=rV d p H 1 t:=by
 by_cases c:r=0
 ·rw [if_pos c,Nat.add_zero] at hH
  refine rV_ratio d p _ _ _ _ t hD (by omega) ?_
  rw [hN,hH,c,Nat.add_zero,Nat.mul_one,Nat.mul_assoc]
 ·rw [if_neg c] at hH
  have hh:36028797018963968≤h:=by rcases hbig with h9 | h9;exact absurd h9 c;exact h9
  have e0:rV d p H 1 t=rV d p (H*D) D t:=rV_ratio d p _ _ _ _ t (by omega) hD (by rw [Nat.mul_one])
  rw [e0]
  unfold rV
  obtain ⟨x,hx⟩:∃ x,x=t.toNat:=⟨_,rfl⟩
  obtain ⟨y,hy⟩:∃ y,y=(-t).toNat:=⟨_,rfl⟩
  rw [← hx,← hy]
  obtain ⟨X,hX⟩:∃ X,X=2 ^ x:=⟨_,rfl⟩
  have hXp:0<X:=by rw [hX];exact Nat.pow_pos (by omega)
  have hB:0<D*2 ^ y:=Nat.mul_pos hD (Nat.pow_pos (by omega))
  obtain ⟨E,hE⟩:∃ E,E=rE p (2*N*2 ^ x) (D*2 ^ y):=⟨_,rfl⟩
  have hs:=(rE_spec p (2*N*2 ^ x) (D*2 ^ y) hB hp).1
  rw [← hE] at hs
  have hbound:x+2≤y+E:=by
   by_cases c2:x+2≤y+E
   ·exact c2
   ·exfalso
    have h1:D*2 ^ y*2 ^ (E+p)≤D*2 ^ (x+54):=by
     rw [Nat.mul_assoc,← Nat.pow_add]
     exact Nat.mul_le_mul_left _ (Nat.pow_le_pow_right (by omega) (by omega))
    have h2:D*2 ^ (x+54)≤2*N*2 ^ x:=by
     rw [Nat.pow_add,Nat.mul_left_comm,Nat.mul_comm (2*N)]
     refine Nat.mul_le_mul_left _ ?_
     rw [show (2:Nat) ^ 54=18014398509481984 from by decide,hN]
     have:D*18014398509481984≤h*D:=by rw [Nat.mul_comm];exact Nat.mul_le_mul_right _ (by omega)
     omega
    omega
  refine rU_sticky d p (2*N*2 ^ x) (H*D*2 ^ x) (D*2 ^ y) (2*D*X) h (2*r*X) (D*X) (2 ^ (y+E - x - 2)) hB hp ?_ ?_ ?_ ?_ ?_ ?_
  ·rw [hN,← hX]
   rw [Nat.mul_add,Nat.add_mul,← Nat.mul_assoc h,Nat.mul_left_comm 2 h D]
  ·exact Nat.mul_lt_mul_of_pos_right (by omega) hXp
  ·rw [hH,← hX,Nat.add_mul,Nat.add_mul,Nat.one_mul,Nat.mul_assoc 2 h D,Nat.mul_left_comm 2 h D,Nat.mul_assoc h]
  ·exact Nat.mul_lt_mul_of_pos_right (by omega) hXp
  ·have a1:0<2*r*X:=Nat.mul_pos (by omega) hXp
   have a2:0<D*X:=Nat.mul_pos hD hXp
   constructor <;> intro h9 <;> omega
  ·rw [← hE,hX]
   have e1:(2:Nat) ^ y*2 ^ E=4*2 ^ x*2 ^ (y+E - x - 2):=by
    rw [← Nat.pow_add,show (4:Nat)=2 ^ 2 from rfl,← Nat.pow_add,← Nat.pow_add]
    exact congrArg _ (by omega)
   rw [Nat.mul_assoc D,e1]
   generalize (2:Nat) ^ x=a
   generalize (2:Nat) ^ (y+E - x - 2)=b
   rw [show (4:Nat)=2*2 from rfl]
   ac_rfl
theorem rU_tiny (d:Int) (p A B:Nat) (hA:0<A) (h:2*A<B):rU d p A B=if d=1 then 1 else 0:=by
 have hE:rE p A B=0:=by unfold rE;rw [Nat.div_eq_of_lt (by omega),blen_zero];omega
 unfold rU rS rR
 rw [hE,Nat.pow_zero,Nat.mul_one,Nat.mul_one,Nat.div_eq_of_lt (by omega),Nat.mod_eq_of_lt (by omega)]
 unfold upw
 by_cases c1:d=1
 ·rw [if_pos c1,if_pos c1,decide_eq_true hA];rfl
 ·rw [if_neg c1,if_neg c1]
  by_cases c2:d = -1
  ·rw [if_pos c2];rfl
  ·rw [if_neg c2,decide_eq_false (by omega),decide_eq_false (by omega)];rfl
theorem rU_huge (d:Int) (p A B T:Nat) (hB:0<B) (hp:0<p) (hT:p≤T) (h:B*2 ^ T≤A):T<blen (rU d p A B):=by
 obtain ⟨s1,s2⟩:=rE_spec p A B hB hp
 obtain ⟨E,hE⟩:∃ E,E=rE p A B:=⟨_,rfl⟩
 have hM:0<B*2 ^ E:=Nat.mul_pos hB (Nat.pow_pos (by omega))
 rw [← hE] at s1 s2
 have hET:T<E+p:=by
  by_cases c:T<E+p
  ·exact c
  ·exfalso
   have:B*2 ^ (E+p)≤B*2 ^ T:=Nat.mul_le_mul_left _ (Nat.pow_le_pow_right (by omega) (by omega))
   omega
 have hS:2 ^ (T - E)≤A / (B*2 ^ E):=by
  rw [Nat.le_div_iff_mul_le hM,Nat.mul_left_comm,← Nat.pow_add]
  by_cases c:E≤T
  ·rw [show T - E+E=T from by omega];exact h
  ·rcases s2 with s2 | s2
   ·omega
   ·refine Nat.le_trans (Nat.mul_le_mul_left _ (Nat.pow_le_pow_right (by omega) (by omega))) s2
 by_cases c:blen (rU d p A B)≤T
 ·exfalso
  rw [blen_le_iff] at c
  unfold rU rS at c
  rw [← hE] at c
  have h1:2 ^ (T - E)*2 ^ E≤(A / (B*2 ^ E)+(upw d (A / (B*2 ^ E)) (rR p A B) (B*2 ^ E)).toNat)*2 ^ E:=Nat.mul_le_mul_right _ (by omega)
  rw [← Nat.pow_add] at h1
  have h2:(2:Nat) ^ T≤2 ^ (T - E+E):=Nat.pow_le_pow_right (by omega) (by omega)
  omega
 ·omega
def dropS:Nat→Code→Code
 | 0,c=>c
 | k+1,.seq _ b=>dropS k b
 | _+1,c=>c
theorem rr_fin (P MO Kv T G k0 Y n m U sig wq rq E M:Nat) (dm e f:Int) (neg up:Bool) (hP:P≤53) (hT:T+k0≤2098) (hk:k0+Kv=1074) (hMO:MO≤1023)
  (hU:U=sig*2 ^ E) (hw:wq<2 ^ P) (hs:sig≤2 ^ P) (hb:blen U≤T ↔ ¬ (sig=2 ^ P∧(MO:Int)<e+(P:Int))) (hup:up=upw dm wq rq M) (hsig:sig=wq+up.toNat) (hE:(E:Int)=e+(Kv:Int)) (he:e=max (f - (P:Int)+1) (-(Kv:Int))) (hf:f≤(MO:Int))
  (hY:Y=mdW neg (if blen U≤T then rgU 53 (U*2 ^ k0) else if dm = -1 then G else 9218868437227405312)) (_h:n=n∧m=m) :
  ((sig=2 ^ P∧(MO:Int)<e+(P:Int))→Y=mdW neg 9218868437227405312)∧(¬ (sig=2 ^ P∧(MO:Int)<e+(P:Int))→Y=mdW neg (rgU 53 (sig*2 ^ (e+1074).toNat))∧blen (sig*2 ^ (e+1074).toNat)≤2098)∧sig≤9007199254740992∧-1074≤e∧e<5000:=by
 have h53:(2:Nat) ^ P≤9007199254740992:=by
  have:(2:Nat) ^ P≤2 ^ 53:=Nat.pow_le_pow_right (by omega) hP
  rw [show (2:Nat) ^ 53=9007199254740992 from by decide] at this
  exact this
 refine ⟨?_, ?_,by omega,by omega,by omega⟩
 ·intro h
  have h1:¬ blen U≤T:=fun h2=>hb.1 h2 h
  rw [hY,if_neg h1,if_neg]
  intro hd
  have h2:up=true:=by
   cases up
   ·simp at hsig;omega
   ·rfl
  rw [hup] at h2
  unfold upw at h2
  rw [if_neg (by omega),if_pos hd] at h2
  cases h2
 ·intro h
  have h1:blen U≤T:=hb.2 h
  have e1:sig*2 ^ (e+1074).toNat=U*2 ^ k0:=by
   rw [hU,Nat.mul_assoc,← Nat.pow_add]
   exact congrArg (fun x=>sig*2 ^ x) (by omega)
  rw [hY,if_pos h1,e1]
  refine ⟨rfl, ?_⟩
  by_cases c:U=0
  ·rw [c,Nat.zero_mul,blen_zero];omega
  ·rw [blen_mul _ _ c];omega
theorem fin_huge (d:Int) (A B:Nat) (t:Int) (hB:0<B) (h:B*2 ^ (-t).toNat*2 ^ 2098≤A*2 ^ t.toNat):finU 53 2098 9218868437227405311 9218868437227405312 d (rV d 53 A B t)=if d = -1 then 9218868437227405311 else 9218868437227405312:=by
 have:=rU_huge d 53 (A*2 ^ t.toNat) (B*2 ^ (-t).toNat) 2098 (Nat.mul_pos hB (Nat.pow_pos (by omega))) (by omega) (by omega) h
 unfold finU rV
 rw [if_neg (by omega)]
theorem fin_tiny (d:Int) (A B:Nat) (t:Int) (hA:0<A) (h:2*(A*2 ^ t.toNat)<B*2 ^ (-t).toNat):rV d 53 A B t=if d=1 then 1 else 0:=by
 unfold rV
 exact rU_tiny d 53 _ _ (Nat.mul_pos hA (Nat.pow_pos (by omega))) h
theorem huge_len (A B T:Nat) (t:Int) (hA:A≠0) (hB:B≠0) (h:(T:Int)+1≤(blen A:Int) - blen B+t):B*2 ^ (-t).toNat*2 ^ T≤A*2 ^ t.toNat:=by
 obtain ⟨a1,a2,a3⟩:=blen_spec A hA
 obtain ⟨b1,b2,b3⟩:=blen_spec B hB
 have h1:B*2 ^ (-t).toNat*2 ^ T≤2 ^ blen B*2 ^ (-t).toNat*2 ^ T:=Nat.mul_le_mul_right _ (Nat.mul_le_mul_right _ (Nat.le_of_lt b2))
 have h2:2 ^ (blen A - 1)*2 ^ t.toNat≤A*2 ^ t.toNat:=Nat.mul_le_mul_right _ a1
 have h3:(2:Nat) ^ blen B*2 ^ (-t).toNat*2 ^ T≤2 ^ (blen A - 1)*2 ^ t.toNat:=by
  rw [← Nat.pow_add,← Nat.pow_add,← Nat.pow_add]
  exact Nat.pow_le_pow_right (by omega) (by omega)
 omega
theorem tiny_len (A B:Nat) (t:Int) (hA:A≠0) (hB:B≠0) (h:(blen A:Int) - blen B+t+2≤0):2*(A*2 ^ t.toNat)<B*2 ^ (-t).toNat:=by
 obtain ⟨a1,a2,a3⟩:=blen_spec A hA
 obtain ⟨b1,b2,b3⟩:=blen_spec B hB
 have h1:2 ^ (blen B - 1)*2 ^ (-t).toNat≤B*2 ^ (-t).toNat:=Nat.mul_le_mul_right _ b1
 have h2:A*2 ^ t.toNat<2 ^ blen A*2 ^ t.toNat:=Nat.mul_lt_mul_of_pos_right a2 (Nat.pow_pos (by omega))
 have h3:2*(2 ^ blen A*2 ^ t.toNat)≤2 ^ (blen B - 1)*2 ^ (-t).toNat:=by
  rw [← Nat.pow_add,← Nat.pow_succ',← Nat.pow_add]
  exact Nat.pow_le_pow_right (by omega) (by omega)
 omega
theorem fin_clamp (d:Int) (A B A' B':Nat) (t t':Int) (hA:A≠0) (hB:B≠0) (hA':A'≠0) (hB':B'≠0)
  (h:(2099≤(blen A:Int) - blen B+t∧2099≤(blen A':Int) - blen B'+t')∨((blen A:Int) - blen B+t+2≤0∧(blen A':Int) - blen B'+t'+2≤0)) :
  finU 53 2098 9218868437227405311 9218868437227405312 d (rV d 53 A B t)=finU 53 2098 9218868437227405311 9218868437227405312 d (rV d 53 A' B' t'):=by
 rcases h with ⟨h1,h2⟩ | ⟨h1,h2⟩
 ·rw [fin_huge d A B t (by omega) (huge_len A B 2098 t hA hB (by omega)),fin_huge d A' B' t' (by omega) (huge_len A' B' 2098 t' hA' hB' (by omega))]
 ·rw [fin_tiny d A B t (by omega) (tiny_len A B t hA hB h1),fin_tiny d A' B' t' (by omega) (tiny_len A' B' t' hA' hB' h2)]
end Go.Proofs.YtmpjcknaelgnoaaGreatDoor
