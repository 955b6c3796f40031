import Derived.Test.YtngglmnhjjlgkaaGreatDoorKXA0
import Derived.Test.YtngglmnhjjlgkaaGreatDoorKXY
set_option maxHeartbeats 1000000
set_option maxRecDepth 20000
namespace Go.Proofs.YtngglmnhjjlgkaaGreatDoor
open Go.RowKit

structure Rs where
 l1:List Int
 l2:List Int
 W:Int
 Z:Int
 B:Bool
 E:Int
structure Out (w:World) (base:Nat) (r:Rs) (p1:Option Addr) (c1:Nat) (p2:Option Addr) (c2:Nat):Prop where
 o1:Own w base (.slice p1 r.l1.length c1) r.l1
 o2:Own w base (.slice p2 r.l2.length c2) r.l2
 ne:∀ g,p1 = some ⟨g,0,none⟩→p2≠some ⟨g,0,none⟩
theorem Out.grown {w w':World} {base:Nat} {r:Rs} {p1 p2:Option Addr} {c1 c2:Nat} (h:Out w base r p1 c1 p2 c2) (k:Kp w w'):Out w' base r p1 c1 p2 c2:=⟨h.o1.kp k,h.o2.kp k,h.ne⟩
theorem Rw.all {w:World} {g n:Nat} {xs:List Int} (h:Rw w g n xs) (hn:xs.length = n):Arr w (some ⟨g,0,none⟩) xs:=by
 refine Or.inr ⟨g,0,rfl,fun j hj=>?_⟩
 rw [Nat.zero_add]
 exact World.rowIs.cell h (by omega)
theorem Rw.kb {w w':World} {a g n:Nat} {xs:List Int} (h:Rw w g n xs) (k:Kb a w w') (hne:g≠a):Rw w' g n xs:=World.rowIs.of_block h (k.2.2.2.2 g (World.rowIs.lt h) hne)
theorem Own.kb {w w':World} {a base:Nat} {v:Value} {xs:List Int} (h:Own w base v xs) (k:Kb a w w') (hne:∀ g,v.ownBlock = some g→g≠a):Own w' base v xs:=by
 refine ⟨h.1, ?_⟩
 rcases h.2 with h' | ⟨g,cap,cur,h1,h2,h3,h4,h5,h6,h7⟩
 ·exact Or.inl h'
 ·have hlt:g < w.heap.size:=by
   by_cases c:g < w.heap.size
   ·exact c
   ·rw [Array.getElem?_eq_none (by simpa using c)] at h3;cases h3
  exact Or.inr ⟨g,cap,cur,h1,h2,by rw [k.2.2.2.2 g hlt (hne g (by rw [h1];rfl))];exact h3,h4,h5,h6,h7⟩
structure Cs (w:World) (b:Nat) (r:Rs) (p1:Option Addr) (c1:Nat) (p2:Option Addr) (c2:Nat):Prop where
 c0:w.cell? ⟨b,0,none⟩ = some (.slice p1 r.l1.length c1)
 c1:w.cell? ⟨b,1,none⟩ = some (.slice p2 r.l2.length c2)
 c2:w.cell? ⟨b,2,none⟩ = some (.int .u64 r.W)
 c3:w.cell? ⟨b,3,none⟩ = some (.int .i64 r.Z)
 c4:w.cell? ⟨b,4,none⟩ = some (.bool r.B)
 c5:w.cell? ⟨b,5,none⟩ = some (.int .i64 r.E)
theorem Cs.grown {w w':World} {b:Nat} {r:Rs} {p1 p2:Option Addr} {c1 c2:Nat} (h:Cs w b r p1 c1 p2 c2) (k:Kp w w'):Cs w' b r p1 c1 p2 c2:=⟨kkeep k h.c0,kkeep k h.c1,kkeep k h.c2,kkeep k h.c3,kkeep k h.c4,kkeep k h.c5⟩
theorem Cs.kb {w w':World} {a b:Nat} {r:Rs} {p1 p2:Option Addr} {c1 c2:Nat} (h:Cs w b r p1 c1 p2 c2) (k:Kb a w w') (hne:b≠a):Cs w' b r p1 c1 p2 c2:=⟨k.arr hne h.c0,k.arr hne h.c1,k.arr hne h.c2,k.arr hne h.c3,k.arr hne h.c4,k.arr hne h.c5⟩
def Bd (lo hi:Nat) (p1 p2:Option Addr):Prop:=∀ g,p1 = some ⟨g,0,none⟩∨p2 = some ⟨g,0,none⟩→lo≤g∧g < hi
theorem own_p {p:Option Addr} {n c g:Nat} {w:World} {base:Nat} {xs:List Int} (h:Own w base (.slice p n c) xs) (hg:(Value.slice p n c).ownBlock = some g):p = some ⟨g,0,none⟩:=by
 rcases h.2 with ⟨h',_⟩ | ⟨g',cap,cur,h1,_⟩
 ·rw [h'] at hg;cases hg
 ·cases h1;cases hg;rfl
theorem Out.bd {w:World} {base:Nat} {r:Rs} {p1 p2:Option Addr} {c1 c2:Nat} (h:Out w base r p1 c1 p2 c2):Bd base w.heap.size p1 p2:=by
 intro g hg
 rcases hg with rfl | rfl
 ·exact h.o1.lt g rfl
 ·exact h.o2.lt g rfl
theorem Out.kb {w w':World} {a base lo hi:Nat} {r:Rs} {p1 p2:Option Addr} {c1 c2:Nat} (h:Out w base r p1 c1 p2 c2) (k:Kb a w w') (b:Bd lo hi p1 p2) (ha:a < lo∨hi≤a):Out w' base r p1 c1 p2 c2 :=
 ⟨h.o1.kb k (fun g hg=>by have:=b g (Or.inl (own_p h.o1 hg));omega),h.o2.kb k (fun g hg=>by have:=b g (Or.inr (own_p h.o2 hg));omega),h.ne⟩
def Ls (w:World) (v:Value) (L:List Int):Prop:=∃ p c,v = .slice p L.length c∧Arr w p L∧L.length≤c
theorem Ls.kp {w w':World} {v:Value} {L:List Int} (h:Ls w v L) (k:Kp w w'):Ls w' v L:=by
 obtain ⟨p,c,e,hA,hc⟩:=h
 exact ⟨p,c,e,hA.grown k,hc⟩
theorem Own.ls {w:World} {base:Nat} {v:Value} {L:List Int} (h:Own w base v L):Ls w v L:=by
 obtain ⟨p,c,e,hA,hc⟩:=h.arr
 exact ⟨p,c,e,hA,hc⟩
theorem dlen (a K:Nat) (h:blen a≤32 * K):(dig a).length≤K:=by
 have h1:=(blen_le_iff a (32 * K)).1 h
 rw [← pow32] at h1
 by_cases c:(dig a).length≤K
 ·exact c
 ·exfalso
  have:=len32_lt a K (by unfold len32;omega)
  omega
theorem row2 (w:World) (x y:Int):Rw (w.alloc (.cells #[.int .u32 x,.int .u32 y] 107)) w.heap.size 2 [x,y]:=by
 have:=World.rowIs_alloc w #[.int .u32 x,.int .u32 y] 107 (fun i=>.int .u32 ([x,y].getD i 0)) (fun i hi=>by
  have h:i = 0∨i = 1:=by simp at hi;omega
  rcases h with rfl | rfl <;> rfl)
 exact this
theorem row1 (w:World) (x:Int):Rw (w.alloc (.cells #[.int .u32 x] 107)) w.heap.size 1 [x]:=by
 have:=World.rowIs_alloc w #[.int .u32 x] 107 (fun i=>.int .u32 ([x].getD i 0)) (fun i hi=>by
  have h:i = 0:=by simp at hi;omega
  rcases h with rfl;rfl)
 exact this
theorem own1 (w:World):Own (w.alloc (.cells #[.int .u32 1] 107)) w.heap.size (.slice (some ⟨w.heap.size,0,none⟩) 1 1) [1] :=
 Own.of_row (row1 w 1) (Nat.le_refl _) (Nat.le_refl _) rfl (by unfold maxLen;omega)
theorem nsmall_ (v:Nat) (hv:v < 18446744073709551616) (w:World) :
  Calls Tryz.prog 90 #[.int .u64 (v:Int)] w fun e w'=>∃ r,e = .returned r∧Own w' w.heap.size r (dig v)∧Kp w w':=by
 obtain ⟨lo,hlo⟩:∃ lo:Nat,lo = v % 4294967296:=⟨_,rfl⟩
 obtain ⟨hi,hhi⟩:∃ hi:Nat,hi = v / 4294967296:=⟨_,rfl⟩
 have f1:IntKind.u32.wrap (v:Int) = (lo:Int):=by rw [IntKind.wrap_u32];omega
 have f2:(v:Int) / 4294967296 = (hi:Int):=by omega
 have f3:IntKind.u32.wrap (hi:Int) = (hi:Int):=by rw [IntKind.wrap_u32];omega
 have hw:Wd [(lo:Int),(hi:Int)]:=Wd.mk (by omega) (Wd.mk (by omega) Wd.nil)
 have hval:val [(lo:Int),(hi:Int)] = v:=by simp [val];omega
 have hr:=row2 w (lo:Int) (hi:Int)
 have htr:=trim_ (some ⟨w.heap.size,0,none⟩) 2 [(lo:Int),(hi:Int)] _ (by simpa using hr.arr 2 (Nat.le_refl _) (by simp)) (by simp) (by simp)
 have hO:Own (w.alloc (.cells #[.int .u32 (lo:Int),.int .u32 (hi:Int)] 107)) w.heap.size (.slice (some ⟨w.heap.size,0,none⟩) (tl [(lo:Int),(hi:Int)]) 2) (dig v):=by
  have h1:=Own.of_row (base:=w.heap.size) (k:=tl [(lo:Int),(hi:Int)]) hr (Nat.le_refl _) (tl_le _) rfl (by unfold maxLen;omega)
  have h2:[(lo:Int),(hi:Int)].take (tl [(lo:Int),(hi:Int)]) = dig v:=by rw [← hval,← nz_dig _ hw];rfl
  rw [h2] at h1
  exact h1
 have hk:Kp w (w.alloc (.cells #[.int .u32 (lo:Int),.int .u32 (hi:Int)] 107)):=(Kp.refl w).alloc _
 obtain ⟨T,hT⟩:∃ T,T = tl [(lo:Int),(hi:Int)]:=⟨_,rfl⟩
 rw [← hT] at htr hO
 have htr2:Calls Tryz.prog 126 #[.slice (some ⟨w.heap.size,0,none⟩) 2 2] (w.alloc (.cells #[.int .u32 (lo:Int),.int .u32 (hi:Int)] 107)) fun e w'=>e = .returned (.slice (some ⟨w.heap.size,0,none⟩) T 2)∧w' = w.alloc (.cells #[.int .u32 (lo:Int),.int .u32 (hi:Int)] 107):=htr
 clear htr hT hval hw hlo hhi hv hr
 go_enter Tryz.func90,Tryz.ntmps90
 go_wp2_with fail
 refine htr2.mono ?_;rintro e w' ⟨rfl,hw'⟩;subst hw'
 clear htr2
 go_wp2
 exact bodyPost_ret (v:=.slice (some ⟨w.heap.size,0,none⟩) T 2) (by simp [results,Tryz.results90,go_sem] <;> simp only [*]) rfl ⟨_,rfl,hO,hk⟩
end Go.Proofs.YtngglmnhjjlgkaaGreatDoor
