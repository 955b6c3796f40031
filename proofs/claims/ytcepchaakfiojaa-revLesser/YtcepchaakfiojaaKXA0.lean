import Derived.Test.YtcepchaakfiojaaKXM
import Derived.Test.YtcepchaakfiojaaProg
import Derived.Below
import Derived.BigQuiet
import Derived.Deep.OwnRows
import Derived.Deep.QuietTactic
import Derived.Laws.IdiomCopy
import Derived.OwnWalk
import Derived.ProofKit
import Derived.RowKit3
import Derived.StillTactics
import Derived.WalkKit
import Derived.WalkSpells
set_option maxHeartbeats 1000000
set_option maxRecDepth 20000
namespace Go.Proofs.Ytcepchaakfiojaa
open Go.RowKit

def Kp (w w':World):Prop:=Below w.heap.size w w'
theorem Kp.refl (w:World):Kp w w:=Below.refl _ _
theorem Kp.trans {a b c:World} (h:Kp a b) (k:Kp b c):Kp a c:=Below.trans h (Below.mono k h.size)
theorem Kp.drew {a b:World} (h:Kp a b):Kp a b.drew:=Below.drew h
theorem Kp.drewN {a b:World} (n:Nat) (h:Kp a b):Kp a (b.drewN n):=by
  induction n with
  | zero=>exact h
  | succ n ih=>exact Below.drew ih
theorem Kp.alloc {a b:World} (h:Kp a b) (o:Obj):Kp a (b.alloc o):=Below.alloc h h.size o
theorem Kp.setCell {a b:World} (h:Kp a b) {p:Addr} (hp:a.heap.size≤p.block) (u:Value):Kp a (b.setCell p u):=Below.setCell h hp u
theorem Kp.grown {a w w':World} {row:Option Nat} (h:Kp a w) (hg:w.grownBy w' row) (hr:∀ k,row = some k→a.heap.size≤k):Kp a w':=Below.grown h hg h.size hr
theorem cell_lt {w:World} {b o:Nat} {v:Value} (h:w.cell? ⟨b,o,none⟩ = some v):b < w.heap.size:=by
  unfold World.cell? at h
  by_cases c:b < w.heap.size
  · exact c
  · rw [Array.getElem?_eq_none (by simpa using c)] at h;simp at h
theorem kkeep {W w:World} {b o:Nat} {v:Value} (g:Kp W w) (h:W.cell? ⟨b,o,none⟩ = some v):w.cell? ⟨b,o,none⟩ = some v:=by
  rw [Below.cell g (cell_lt h)];exact h
theorem wp_region_kp {P:Program} {id:Nat} {Q:Exit→Act→World→Prop} {a:Act} {w:World} {l:List Oper} (hm:P.follows .mixedOrders = true) (hB:Region.lexB .any l.toArray = true)
    (h:∀ (ι:Type) (_:Nonempty ι) (G:ι→World),(∀ n,Kp w (G n))→(∀ w',Kp w w'→∃ n,w' = G n)→wpQuiet P l.toArray (fun w'=>∃ n,w' = G n) (fun a'=>∀ w',(∃ n,w' = G n)→Q .normal a' w') l a) :
    (Code.region id l.toArray true).wp P Q a w:=by
  have hh:=h {w':World // Kp w w'} ⟨⟨w,Kp.refl w⟩⟩ Subtype.val (fun n=>n.2) (fun w' hw=>⟨⟨w',hw⟩,rfl⟩)
  exact wp_region_quiet (C:=fun w'=>∃ n:{w':World // Kp w w'},w' = n.val) hm hB ⟨⟨_,(Kp.refl w).drew⟩,rfl⟩ (by simpa using hh)
def Arr (w:World) (p:Option Addr) (xs:List Int):Prop:=xs = []∨∃ b off,p = some ⟨b,off,none⟩∧∀ j,j < xs.length→w.cell? ⟨b,off + j,none⟩ = some (.int .u32 (xs.getD j 0))
theorem Arr.grown {w w':World} {p:Option Addr} {xs:List Int} (h:Arr w p xs) (g:Kp w w'):Arr w' p xs:=by
  rcases h with h | ⟨b,off,h1,h2⟩
  · exact Or.inl h
  · exact Or.inr ⟨b,off,h1,fun j hj=>kkeep g (h2 j hj)⟩
theorem Arr.at {w:World} {p:Option Addr} {xs:List Int} (h:Arr w p xs) {k:Nat} (hk:k < xs.length):∃ b off,p = some ⟨b,off,none⟩∧∀ j,j < xs.length→w.cell? ⟨b,off + j,none⟩ = some (.int .u32 (xs.getD j 0)):=by
  rcases h with h | h
  · subst h;simp at hk
  · exact h
open Go
def Rw (w:World) (g n:Nat) (xs:List Int):Prop:=w.rowIs g 81 n (fun j=>.int .u32 (xs.getD j 0))
theorem rowIs_grown {w w':World} {g:Nat} {t:TypeId} {n:Nat} {f:Nat→Value} (h:w.rowIs g t n f) (gr:Kp w w'):w'.rowIs g t n f:=by
  exact h.of_block (Below.block gr g h.lt)
theorem Rw.grown {w w':World} {g n:Nat} {xs:List Int} (h:Rw w g n xs) (gr:Kp w w'):Rw w' g n xs:=rowIs_grown h gr
theorem Rw.arr {w:World} {g n:Nat} {xs:List Int} (h:Rw w g n xs) (k:Nat) (hk:k≤n) (hx:k≤xs.length):Arr w (some ⟨g,0,none⟩) (xs.take k):=by
  refine Or.inr ⟨g,0,rfl,fun j hj=>?_⟩
  have hj2:j < k:=by simp at hj;omega
  rw [Nat.zero_add,World.rowIs.cell h (by omega)]
  simp [List.getD,hj2]
theorem inf32:(Try.prog.info? 81).map (fun i=>(i.zero,i.size,i.bytes)) = some (some (.int .u32 0),1,4):=by kernel_rfl
theorem mk32 (n:Nat) (h:n≤1099511627776) (w:World):(Instr.makeSlice 42 (.int .i64 (n:Int)) (.int .i64 (n:Int))).run Try.prog w = .ok (.slice (some ⟨w.heap.size,0,none⟩) n n) (w.alloc (.cells (madeCells #[.int .u32 0] n) 81)) :=
  run_make_row' 42 81 (.int .u32 0) 4 Try.underlying42 inf32 rfl .i64 .i64 n (by omega) (by omega) w

def Own (w:World) (base:Nat) (v:Value) (xs:List Int):Prop:=w.ownsRow base 81 1 v xs.length (xs.map (Value.int .u32))
theorem Own.nil (w:World) (base:Nat):Own w base (.slice none 0 0) []:=World.ownsRow_nil _ _ _ _
theorem Own.arr {w:World} {base:Nat} {v:Value} {xs:List Int} (h:Own w base v xs):∃ p c,v = .slice p xs.length c∧Arr w p xs∧xs.length≤c:=by
  have hc:∀ g,v.ownBlock = some g→∀ j u,(xs.map (Value.int .u32))[j]? = some u→w.cell? ((⟨g,0,none⟩:Addr).add j) = some u:=fun g hg=>World.ownsRow.cells h hg
  rcases h.2 with ⟨h1,h2⟩ | ⟨g,cap,cur,h1,h2,h3,h4,h5,h6,h7⟩
  · have:xs = []:=List.length_eq_zero_iff.1 h2
    subst this
    exact ⟨none,0,h1,Or.inl rfl,Nat.le_refl _⟩
  · refine ⟨_,cap,h1,Or.inr ⟨g,0,rfl,fun j hj=>?_⟩,h4⟩
    have:=hc g (by rw [h1];rfl) j (.int .u32 (xs.getD j 0)) (by simp [List.getD,hj])
    have e:(⟨g,0,none⟩:Addr).add j = ⟨g,j,none⟩:=by
      unfold Addr.add
      by_cases c:j = 0
      · subst c;simp
      · simp [c]
    rw [Nat.zero_add,← e]
    exact this
theorem Own.kp {w w':World} {base:Nat} {v:Value} {xs:List Int} (h:Own w base v xs) (k:Kp w w'):Own w' base v xs:=by
  refine ⟨h.1, ?_⟩
  rcases h.2 with h' | ⟨g,cap,cur,h1,h2,h3,h4,h5,h6,h7⟩
  · exact Or.inl h'
  · have hlt:g < w.heap.size:=by
      by_cases c:g < w.heap.size
      · exact c
      · rw [Array.getElem?_eq_none (by simpa using c)] at h3;cases h3
    exact Or.inr ⟨g,cap,cur,h1,h2,by rw [Below.block k g hlt];exact h3,h4,h5,h6,h7⟩
theorem Own.mono {w:World} {base base':Nat} {v:Value} {xs:List Int} (h:Own w base v xs) (hb:base'≤base):Own w base' v xs:=by
  refine ⟨h.1, ?_⟩
  rcases h.2 with h' | ⟨g,cap,cur,h1,h2,h3⟩
  · exact Or.inl h'
  · exact Or.inr ⟨g,cap,cur,h1,Nat.le_trans hb h2,h3⟩
theorem Own.of_row {w:World} {base g n k:Nat} {xs:List Int} (h:Rw w g n xs) (hb:base≤g) (hk:k≤n) (hx:xs.length = n) (hn:n≤maxLen):Own w base (.slice (some ⟨g,0,none⟩) k n) (xs.take k):=by
  have hl:(xs.take k).length = k:=by rw [List.length_take];omega
  refine ⟨by simp,Or.inr ?_⟩
  rw [hl]
  obtain ⟨cur,h1,h2,h3⟩:=h
  refine ⟨g,n,cur,rfl,hb,h1,hk,hn,by omega, ?_⟩
  rw [Nat.mul_one]
  apply List.ext_getElem?
  intro j
  by_cases c:j < k
  · have:=h3 j (by omega)
    simp [c,List.getElem?_map]
    simpa [List.getD,show j < xs.length from by omega] using this
  · simp [List.getElem?_take,c]
theorem inf32p:∃ i,Try.prog.info? 81 = some i∧i.zero = some (.int .u32 0)∧i.size = 1∧i.bytes = 4:=info_parts inf32
theorem Own.push {w:World} {base:Nat} {v:Value} {xs:List Int} {X:Int} (h:w.ownsRow base 81 1 v (xs.length + 1) (xs.map (Value.int .u32) ++ [.int .u32 X])):Own w base v (xs ++ [X]):=by
  unfold Own
  simpa using h
theorem own_block {w:World} {base:Nat} {v:Value} {xs:List Int} (h:Own w base v xs):∀ k,v.ownBlock = some k→base≤k:=fun k hk=>(h.lt k hk).1
theorem take_push (xs:List Int) (k:Nat) (h:k < xs.length):xs.take k ++ [xs.getD k 0] = xs.take (k + 1):=by
  rw [List.take_add_one,List.getElem?_eq_getElem h]
  simp [List.getD,h]
def Kb (g:Nat) (w w':World):Prop:=w'.os = w.os∧w'.tape = w.tape∧w'.output = w.output∧w.heap.size≤w'.heap.size∧∀ k,k < w.heap.size→k≠g→w'.heap[k]? = w.heap[k]?
theorem Kb.refl (g:Nat) (w:World):Kb g w w:=⟨rfl,rfl,rfl,Nat.le_refl _,fun _ _ _=>rfl⟩
theorem Kb.setCell {g:Nat} {w w':World} (h:Kb g w w') (j:Nat) (v:Value):Kb g w (w'.setCell ⟨g,j,none⟩ v):=by
  obtain ⟨h1,h2,h3,h4,h5⟩:=h
  refine ⟨h1,h2,h3,by simpa [World.setCell] using h4,fun k hk hne=>?_⟩
  rw [← h5 k hk hne]
  simp only [World.setCell,Array.getElem?_modify]
  rw [if_neg (by omega)]
theorem Kb.kp {g:Nat} {a w w':World} (h:Kb g w w') (k:Kp a w) (hg:a.heap.size≤g):Kp a w' :=
  ⟨h.1.trans k.os,h.2.1.trans k.tape,h.2.2.1.trans k.output,Nat.le_trans k.size h.2.2.2.1,fun i hi=>(h.2.2.2.2 i (Nat.lt_of_lt_of_le hi k.size) (by omega)).trans (Below.block k i hi)⟩
theorem Kb.arr {g:Nat} {w w':World} (h:Kb g w w') {b off:Nat} {v:Value} (hne:b≠g) (hc:w.cell? ⟨b,off,none⟩ = some v):w'.cell? ⟨b,off,none⟩ = some v:=by
  have e:=h.2.2.2.2 b (cell_lt hc) hne
  rw [World.cell?_of_block (w:=w) (a:=⟨b,off,none⟩) e];exact hc
theorem Rw.set {w:World} {g n:Nat} {xs:List Int} (h:Rw w g n xs) (k:Nat) (x:Int) (hk:k < xs.length):Rw (w.setCell ⟨g,k,none⟩ (.int .u32 x)) g n (xs.set k x):=by
  refine World.rowIs.congr (World.rowIs.set h k (.int .u32 x)) (fun j _=>?_)
  by_cases c:j = k
  · subst c;rw [if_pos rfl];simp [List.getD,hk]
  · have c':¬ k = j:=fun h=>c h.symm
    rw [if_neg c];simp [List.getD,c']

theorem Own.setOther {w:World} {base:Nat} {v:Value} {xs:List Int} (h:Own w base v xs) {a:Addr} (ha:a.block < base) (u:Value):Own (w.setCell a u) base v xs:=by
  refine ⟨h.1, ?_⟩
  rcases h.2 with h' | ⟨g,cap,cur,h1,h2,h3,h4⟩
  · exact Or.inl h'
  · refine Or.inr ⟨g,cap,cur,h1,h2, ?_,h4⟩
    rw [← h3]
    simp only [World.setCell,Array.getElem?_modify]
    rw [if_neg (by omega)]

structure Rs where
  l1:List Int
  l2:List Int
  W:Int
  Z:Int
  B:Bool
  E:Int
structure Out (w:World) (base:Nat) (r:Rs) (p1:Option Addr) (c1:Nat) (p2:Option Addr) (c2:Nat):Prop where
  o1:Own w base (.slice p1 r.l1.length c1) r.l1
  o2:Own w base (.slice p2 r.l2.length c2) r.l2
  ne:∀ g,p1 = some ⟨g,0,none⟩→p2≠some ⟨g,0,none⟩
theorem Out.grown {w w':World} {base:Nat} {r:Rs} {p1 p2:Option Addr} {c1 c2:Nat} (h:Out w base r p1 c1 p2 c2) (k:Kp w w'):Out w' base r p1 c1 p2 c2:=⟨h.o1.kp k,h.o2.kp k,h.ne⟩
theorem Rw.all {w:World} {g n:Nat} {xs:List Int} (h:Rw w g n xs) (hn:xs.length = n):Arr w (some ⟨g,0,none⟩) xs:=by
  refine Or.inr ⟨g,0,rfl,fun j hj=>?_⟩
  rw [Nat.zero_add]
  exact World.rowIs.cell h (by omega)
theorem Rw.kb {w w':World} {a g n:Nat} {xs:List Int} (h:Rw w g n xs) (k:Kb a w w') (hne:g≠a):Rw w' g n xs:=World.rowIs.of_block h (k.2.2.2.2 g (World.rowIs.lt h) hne)
theorem Own.kb {w w':World} {a base:Nat} {v:Value} {xs:List Int} (h:Own w base v xs) (k:Kb a w w') (hne:∀ g,v.ownBlock = some g→g≠a):Own w' base v xs:=by
  refine ⟨h.1, ?_⟩
  rcases h.2 with h' | ⟨g,cap,cur,h1,h2,h3,h4,h5,h6,h7⟩
  · exact Or.inl h'
  · have hlt:g < w.heap.size:=by
      by_cases c:g < w.heap.size
      · exact c
      · rw [Array.getElem?_eq_none (by simpa using c)] at h3;cases h3
    exact Or.inr ⟨g,cap,cur,h1,h2,by rw [k.2.2.2.2 g hlt (hne g (by rw [h1];rfl))];exact h3,h4,h5,h6,h7⟩
structure Cs (w:World) (b:Nat) (r:Rs) (p1:Option Addr) (c1:Nat) (p2:Option Addr) (c2:Nat):Prop where
  c0:w.cell? ⟨b,0,none⟩ = some (.slice p1 r.l1.length c1)
  c1:w.cell? ⟨b,1,none⟩ = some (.slice p2 r.l2.length c2)
  c2:w.cell? ⟨b,2,none⟩ = some (.int .u64 r.W)
  c3:w.cell? ⟨b,3,none⟩ = some (.int .i64 r.Z)
  c4:w.cell? ⟨b,4,none⟩ = some (.bool r.B)
  c5:w.cell? ⟨b,5,none⟩ = some (.int .i64 r.E)
theorem Cs.grown {w w':World} {b:Nat} {r:Rs} {p1 p2:Option Addr} {c1 c2:Nat} (h:Cs w b r p1 c1 p2 c2) (k:Kp w w'):Cs w' b r p1 c1 p2 c2:=⟨kkeep k h.c0,kkeep k h.c1,kkeep k h.c2,kkeep k h.c3,kkeep k h.c4,kkeep k h.c5⟩
theorem Cs.kb {w w':World} {a b:Nat} {r:Rs} {p1 p2:Option Addr} {c1 c2:Nat} (h:Cs w b r p1 c1 p2 c2) (k:Kb a w w') (hne:b≠a):Cs w' b r p1 c1 p2 c2:=⟨k.arr hne h.c0,k.arr hne h.c1,k.arr hne h.c2,k.arr hne h.c3,k.arr hne h.c4,k.arr hne h.c5⟩
def Bd (lo hi:Nat) (p1 p2:Option Addr):Prop:=∀ g,p1 = some ⟨g,0,none⟩∨p2 = some ⟨g,0,none⟩→lo≤g∧g < hi
theorem own_p {p:Option Addr} {n c g:Nat} {w:World} {base:Nat} {xs:List Int} (h:Own w base (.slice p n c) xs) (hg:(Value.slice p n c).ownBlock = some g):p = some ⟨g,0,none⟩:=by
  rcases h.2 with ⟨h',_⟩ | ⟨g',cap,cur,h1,_⟩
  · rw [h'] at hg;cases hg
  · cases h1;cases hg;rfl
theorem Out.kb {w w':World} {a base lo hi:Nat} {r:Rs} {p1 p2:Option Addr} {c1 c2:Nat} (h:Out w base r p1 c1 p2 c2) (k:Kb a w w') (b:Bd lo hi p1 p2) (ha:a < lo∨hi≤a):Out w' base r p1 c1 p2 c2 :=
  ⟨h.o1.kb k (fun g hg=>by have:=b g (Or.inl (own_p h.o1 hg));omega),h.o2.kb k (fun g hg=>by have:=b g (Or.inr (own_p h.o2 hg));omega),h.ne⟩
theorem words_ (p:Option Addr) (c:Nat) (xs:List Int) (w:World) (hx:Arr w p xs) (lx:xs.length≤1099511627776) :
    Calls Try.prog 58 #[.slice p xs.length c] w fun e w'=>e = .returned (.int .i64 (tl xs:Int))∧w' = w:=by
  obtain ⟨N,hN⟩:∃ N,N = xs.length:=⟨_,rfl⟩
  rw [← hN] at lx ⊢
  have HX:Hid (Arr w p xs):=hx
  have HN:Hid (N = xs.length):=hN
  obtain ⟨T,hT⟩:∃ T,T = tl xs:=⟨_,rfl⟩
  rw [← hT]
  have HT:Hid (tlAux xs N = T):=by rw [hT,hN];exact rfl
  have hT2:T≤N:=by rw [hT,hN];exact tl_le xs
  clear hN hx hT
  go_enter Try.func58,Try.ntmps58
  go_wp2
  go_loop [3] (fun i=>∃ k:Nat,i = .int .i64 k∧k≤N∧tlAux xs k = T) (fun i=>(intOf i).toNat)
  case atStart=>exact ⟨N,rfl,Nat.le_refl _,HT.out⟩
  case round =>
    obtain ⟨k,rfl,hk,ht⟩:=hrel
    have hN:=HN.out
    rcases k with _ | k
    · have hT0:T = 0:=by rw [← ht];rfl
      subst hT0
      clear hN HN HX HT ht hk
      go_wp2
      exact bodyPost_ret (v:=.int .i64 0) (by simp [results,Try.results58,go_sem] <;> simp only [*]) rfl ⟨rfl,rfl⟩
    · obtain ⟨b,off,rfl,hc'⟩:=HX.out.at (k:=k) (by omega)
      have e1:=hc' k (by omega)
      have f1:(((k + 1:Nat):Int) - 1) = (k:Int):=by omega
      by_cases cz:xs.getD k 0 = 0
      · rw [tlAux_zero xs k cz] at ht
        rw [cz] at e1
        clear hN HN HX HT hc'
        go_wp2
        exact ⟨⟨k,by go_num,by omega,ht⟩,by simp [intOf]⟩
      · rw [tlAux_nz xs k cz] at ht
        subst ht
        obtain ⟨X,hX⟩:∃ X,X = xs.getD k 0:=⟨_,rfl⟩
        rw [← hX] at e1 cz
        have t1:(X == 0) = false:=by simp [cz]
        clear hN HN HX HT hc' hX cz
        go_wp2
        exact bodyPost_ret (v:=.int .i64 ((k + 1:Nat):Int)) (by simp [results,Try.results58,go_sem] <;> simp only [*]) rfl ⟨rfl,rfl⟩
end Go.Proofs.Ytcepchaakfiojaa
