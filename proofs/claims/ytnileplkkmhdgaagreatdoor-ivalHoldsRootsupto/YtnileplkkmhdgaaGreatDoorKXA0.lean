import Derived.Test.YtnileplkkmhdgaaGreatDoorKXM
import Derived.Test.YtnileplkkmhdgaaGreatDoorProg
import Derived.Below
import Derived.BigQuiet
import Derived.Deep.OwnRows
import Derived.Deep.QuietTactic
import Derived.Laws.IdiomCopy
import Derived.OwnWalk
import Derived.ProofKit
import Derived.RowKit3
import Derived.StillTactics
import Derived.WalkKit
import Derived.WalkSpells
set_option maxHeartbeats 1000000
set_option maxRecDepth 20000
namespace Go.Proofs.YtnileplkkmhdgaaGreatDoor
open Go.RowKit

def Kp (w w':World):Prop:=Below w.heap.size w w'
theorem Kp.refl (w:World):Kp w w:=Below.refl _ _
theorem Kp.trans {a b c:World} (h:Kp a b) (k:Kp b c):Kp a c:=Below.trans h (Below.mono k h.size)
theorem Kp.drew {a b:World} (h:Kp a b):Kp a b.drew:=Below.drew h
theorem Kp.drewN {a b:World} (n:Nat) (h:Kp a b):Kp a (b.drewN n):=by
  induction n with
  | zero=>exact h
  | succ n ih=>exact Below.drew ih
theorem Kp.alloc {a b:World} (h:Kp a b) (o:Obj):Kp a (b.alloc o):=Below.alloc h h.size o
theorem Kp.setCell {a b:World} (h:Kp a b) {p:Addr} (hp:a.heap.size≤p.block) (u:Value):Kp a (b.setCell p u):=Below.setCell h hp u
theorem Kp.grown {a w w':World} {row:Option Nat} (h:Kp a w) (hg:w.grownBy w' row) (hr:∀ k,row = some k→a.heap.size≤k):Kp a w':=Below.grown h hg h.size hr
theorem cell_lt {w:World} {b o:Nat} {v:Value} (h:w.cell? ⟨b,o,none⟩ = some v):b < w.heap.size:=by
  unfold World.cell? at h
  by_cases c:b < w.heap.size
  · exact c
  · rw [Array.getElem?_eq_none (by simpa using c)] at h;simp at h
theorem kkeep {W w:World} {b o:Nat} {v:Value} (g:Kp W w) (h:W.cell? ⟨b,o,none⟩ = some v):w.cell? ⟨b,o,none⟩ = some v:=by
  rw [Below.cell g (cell_lt h)];exact h
theorem wp_region_kp {P:Program} {id:Nat} {Q:Exit→Act→World→Prop} {a:Act} {w:World} {l:List Oper} (hm:P.follows .mixedOrders = true) (hB:Region.lexB .any l.toArray = true)
    (h:∀ (ι:Type) (_:Nonempty ι) (G:ι→World),(∀ n,Kp w (G n))→(∀ w',Kp w w'→∃ n,w' = G n)→wpQuiet P l.toArray (fun w'=>∃ n,w' = G n) (fun a'=>∀ w',(∃ n,w' = G n)→Q .normal a' w') l a) :
    (Code.region id l.toArray true).wp P Q a w:=by
  have hh:=h {w':World // Kp w w'} ⟨⟨w,Kp.refl w⟩⟩ Subtype.val (fun n=>n.2) (fun w' hw=>⟨⟨w',hw⟩,rfl⟩)
  exact wp_region_quiet (C:=fun w'=>∃ n:{w':World // Kp w w'},w' = n.val) hm hB ⟨⟨_,(Kp.refl w).drew⟩,rfl⟩ (by simpa using hh)
def Arr (w:World) (p:Option Addr) (xs:List Int):Prop:=xs = []∨∃ b off,p = some ⟨b,off,none⟩∧∀ j,j < xs.length→w.cell? ⟨b,off + j,none⟩ = some (.int .u32 (xs.getD j 0))
theorem Arr.grown {w w':World} {p:Option Addr} {xs:List Int} (h:Arr w p xs) (g:Kp w w'):Arr w' p xs:=by
  rcases h with h | ⟨b,off,h1,h2⟩
  · exact Or.inl h
  · exact Or.inr ⟨b,off,h1,fun j hj=>kkeep g (h2 j hj)⟩
theorem Arr.at {w:World} {p:Option Addr} {xs:List Int} (h:Arr w p xs) {k:Nat} (hk:k < xs.length):∃ b off,p = some ⟨b,off,none⟩∧∀ j,j < xs.length→w.cell? ⟨b,off + j,none⟩ = some (.int .u32 (xs.getD j 0)):=by
  rcases h with h | h
  · subst h;simp at hk
  · exact h
open Go
def Rw (w:World) (g n:Nat) (xs:List Int):Prop:=w.rowIs g 72 n (fun j=>.int .u32 (xs.getD j 0))
theorem rowIs_grown {w w':World} {g:Nat} {t:TypeId} {n:Nat} {f:Nat→Value} (h:w.rowIs g t n f) (gr:Kp w w'):w'.rowIs g t n f:=by
  exact h.of_block (Below.block gr g h.lt)
theorem Rw.grown {w w':World} {g n:Nat} {xs:List Int} (h:Rw w g n xs) (gr:Kp w w'):Rw w' g n xs:=rowIs_grown h gr
theorem Rw.arr {w:World} {g n:Nat} {xs:List Int} (h:Rw w g n xs) (k:Nat) (hk:k≤n) (hx:k≤xs.length):Arr w (some ⟨g,0,none⟩) (xs.take k):=by
  refine Or.inr ⟨g,0,rfl,fun j hj=>?_⟩
  have hj2:j < k:=by simp at hj;omega
  rw [Nat.zero_add,World.rowIs.cell h (by omega)]
  simp [List.getD,hj2]
theorem inf32:(Tryz.prog.info? 72).map (fun i=>(i.zero,i.size,i.bytes)) = some (some (.int .u32 0),1,4):=by kernel_rfl
theorem mk32 (n:Nat) (h:n≤1099511627776) (w:World):(Instr.makeSlice 25 (.int .i64 (n:Int)) (.int .i64 (n:Int))).run Tryz.prog w = .ok (.slice (some ⟨w.heap.size,0,none⟩) n n) (w.alloc (.cells (madeCells #[.int .u32 0] n) 72)) :=
  run_make_row' 25 72 (.int .u32 0) 4 Tryz.underlying25 inf32 rfl .i64 .i64 n (by omega) (by omega) w

def Own (w:World) (base:Nat) (v:Value) (xs:List Int):Prop:=w.ownsRow base 72 1 v xs.length (xs.map (Value.int .u32))
theorem Own.nil (w:World) (base:Nat):Own w base (.slice none 0 0) []:=World.ownsRow_nil _ _ _ _
theorem Own.arr {w:World} {base:Nat} {v:Value} {xs:List Int} (h:Own w base v xs):∃ p c,v = .slice p xs.length c∧Arr w p xs∧xs.length≤c:=by
  have hc:∀ g,v.ownBlock = some g→∀ j u,(xs.map (Value.int .u32))[j]? = some u→w.cell? ((⟨g,0,none⟩:Addr).add j) = some u:=fun g hg=>World.ownsRow.cells h hg
  rcases h.2 with ⟨h1,h2⟩ | ⟨g,cap,cur,h1,h2,h3,h4,h5,h6,h7⟩
  · have:xs = []:=List.length_eq_zero_iff.1 h2
    subst this
    exact ⟨none,0,h1,Or.inl rfl,Nat.le_refl _⟩
  · refine ⟨_,cap,h1,Or.inr ⟨g,0,rfl,fun j hj=>?_⟩,h4⟩
    have:=hc g (by rw [h1];rfl) j (.int .u32 (xs.getD j 0)) (by simp [List.getD,hj])
    have e:(⟨g,0,none⟩:Addr).add j = ⟨g,j,none⟩:=by
      unfold Addr.add
      by_cases c:j = 0
      · subst c;simp
      · simp [c]
    rw [Nat.zero_add,← e]
    exact this
theorem Own.kp {w w':World} {base:Nat} {v:Value} {xs:List Int} (h:Own w base v xs) (k:Kp w w'):Own w' base v xs:=by
  refine ⟨h.1, ?_⟩
  rcases h.2 with h' | ⟨g,cap,cur,h1,h2,h3,h4,h5,h6,h7⟩
  · exact Or.inl h'
  · have hlt:g < w.heap.size:=by
      by_cases c:g < w.heap.size
      · exact c
      · rw [Array.getElem?_eq_none (by simpa using c)] at h3;cases h3
    exact Or.inr ⟨g,cap,cur,h1,h2,by rw [Below.block k g hlt];exact h3,h4,h5,h6,h7⟩
theorem Own.mono {w:World} {base base':Nat} {v:Value} {xs:List Int} (h:Own w base v xs) (hb:base'≤base):Own w base' v xs:=by
  refine ⟨h.1, ?_⟩
  rcases h.2 with h' | ⟨g,cap,cur,h1,h2,h3⟩
  · exact Or.inl h'
  · exact Or.inr ⟨g,cap,cur,h1,Nat.le_trans hb h2,h3⟩
theorem Own.of_row {w:World} {base g n k:Nat} {xs:List Int} (h:Rw w g n xs) (hb:base≤g) (hk:k≤n) (hx:xs.length = n) (hn:n≤maxLen):Own w base (.slice (some ⟨g,0,none⟩) k n) (xs.take k):=by
  have hl:(xs.take k).length = k:=by rw [List.length_take];omega
  refine ⟨by simp,Or.inr ?_⟩
  rw [hl]
  obtain ⟨cur,h1,h2,h3⟩:=h
  refine ⟨g,n,cur,rfl,hb,h1,hk,hn,by omega, ?_⟩
  rw [Nat.mul_one]
  apply List.ext_getElem?
  intro j
  by_cases c:j < k
  · have:=h3 j (by omega)
    simp [c,List.getElem?_map]
    simpa [List.getD,show j < xs.length from by omega] using this
  · simp [List.getElem?_take,c]
theorem inf32p:∃ i,Tryz.prog.info? 72 = some i∧i.zero = some (.int .u32 0)∧i.size = 1∧i.bytes = 4:=info_parts inf32
theorem Own.push {w:World} {base:Nat} {v:Value} {xs:List Int} {X:Int} (h:w.ownsRow base 72 1 v (xs.length + 1) (xs.map (Value.int .u32) ++ [.int .u32 X])):Own w base v (xs ++ [X]):=by
  unfold Own
  simpa using h
theorem own_block {w:World} {base:Nat} {v:Value} {xs:List Int} (h:Own w base v xs):∀ k,v.ownBlock = some k→base≤k:=fun k hk=>(h.lt k hk).1
theorem take_push (xs:List Int) (k:Nat) (h:k < xs.length):xs.take k ++ [xs.getD k 0] = xs.take (k + 1):=by
  rw [List.take_add_one,List.getElem?_eq_getElem h]
  simp [List.getD,h]

theorem setCells_row {g:Nat} {t:TypeId} {n:Nat}:∀ (vs:List Value) (o:Nat) (w:World) (f:Nat→Value),w.rowIs g t n f→(w.setCells g o vs).rowIs g t n (fun j=>if o≤j∧j < o + vs.length then vs.getD (j - o) (f j) else f j)
  | [],o,w,f,h=>h.congr (fun j _=>by rw [if_neg (by simp)])
  | v :: vs,o,w,f,h=>by
    have ih:=setCells_row vs (o + 1) _ _ (h.set o v)
    refine World.rowIs.congr ih (fun j _=>?_)
    by_cases c1:j = o
    · subst c1
      rw [if_neg (by omega),if_pos rfl,if_pos ⟨Nat.le_refl _,by simp⟩];simp
    · by_cases c2:o + 1≤j∧j < o + 1 + vs.length
      · have c3:o≤j∧j < o + (v :: vs).length:=⟨by omega,by simp;omega⟩
        rw [if_pos c2,if_pos c3,if_neg c1,show j - o = (j - (o + 1)) + 1 from by omega];simp
      · rw [if_neg c2,if_neg c1,if_neg (by simp;omega)]
theorem setCells_kp {W:World} {g:Nat} (hg:W.heap.size≤g):∀ (vs:List Value) (o:Nat) (w:World),Kp W w→Kp W (w.setCells g o vs)
  | [],_,_,h=>h
  | v :: vs,o,_,h=>setCells_kp hg vs (o + 1) _ (h.setCell hg v)
theorem siz32:(Tryz.prog.info? 72).map (·.size) = some 1:=by kernel_rfl
theorem copy32 (w:World) (g n c:Nat) (p:Option Addr) (xs:List Int) (f:Nat→Value) (hr:w.rowIs g 72 n f) (hx:Arr w p xs) (hl:xs.length≤n) :
    ∃ w2,(∀ ty,(Builtin.copy_ #[25,25] ty #[.slice (some ⟨g,0,none⟩) n n,.slice p xs.length c]).run Tryz.prog w = .ok (goInt xs.length) w2) ∧
      w2.rowIs g 72 n (fun j=>if j < xs.length then .int .u32 (xs.getD j 0) else f j)∧(∀ W:World,W.heap.size≤g→Kp W w→Kp W w2):=by
  rcases hx with rfl | ⟨b,off,rfl,hc⟩
  · refine ⟨w,fun ty=>run_copy_none w 25 25 ty 72 _ _ _ _ _ _ Tryz.underlying25 siz32 (by simp),hr.congr (fun j _=>by rw [if_neg (by simp)]),fun W _ h=>h⟩
  · refine ⟨w.setCells g 0 (xs.map (Value.int .u32)),fun ty=>?_, ?_,fun W hW h=>setCells_kp hW _ _ _ h⟩
    · have:=run_copy_cells (P:=Tryz.prog) w 25 25 ty 72 g 0 n n ⟨b,off,none⟩ xs.length c (xs.map (Value.int .u32)) Tryz.underlying25 siz32 (by simp [Nat.min_eq_left hl])
        (fun j v hv=>by
          have hj:j < xs.length:=by
            have:=List.getElem?_eq_some_iff.1 hv
            simpa using this.1
          have e:(⟨b,off,none⟩:Addr).add j = ⟨b,off + j,none⟩:=by
            unfold Addr.add
            by_cases c:j = 0
            · subst c;simp
            · simp [c]
          rw [e,hc j hj]
          simpa [List.getD,hj] using hv)
        (fun j hj=>by rw [Nat.zero_add,hr.cell (by simp at hj;omega)];rfl) (fun j _=>by rw [Nat.zero_add];exact hr.frozen j)
        (fun v hv=>by obtain ⟨x,_,rfl⟩:=List.mem_map.1 hv;rfl)
      simpa using this
    · refine World.rowIs.congr (setCells_row (xs.map (Value.int .u32)) 0 w f hr) (fun j _=>?_)
      by_cases c:j < xs.length
      · rw [if_pos c,if_pos ⟨Nat.zero_le _,by simpa using c⟩];simp [List.getD,c]
      · rw [if_neg c,if_neg (by simp;omega)]
theorem Rw.set {w:World} {g n:Nat} {xs:List Int} (h:Rw w g n xs) (k:Nat) (x:Int) (hk:k < xs.length):Rw (w.setCell ⟨g,k,none⟩ (.int .u32 x)) g n (xs.set k x):=by
  refine World.rowIs.congr (World.rowIs.set h k (.int .u32 x)) (fun j _=>?_)
  by_cases c:j = k
  · subst c;rw [if_pos rfl];simp [List.getD,hk]
  · have c':¬ k = j:=fun h=>c h.symm
    rw [if_neg c];simp [List.getD,c']

theorem Own.setOther {w:World} {base:Nat} {v:Value} {xs:List Int} (h:Own w base v xs) {a:Addr} (ha:a.block < base) (u:Value):Own (w.setCell a u) base v xs:=by
  refine ⟨h.1, ?_⟩
  rcases h.2 with h' | ⟨g,cap,cur,h1,h2,h3,h4⟩
  · exact Or.inl h'
  · refine Or.inr ⟨g,cap,cur,h1,h2, ?_,h4⟩
    rw [← h3]
    simp only [World.setCell,Array.getElem?_modify]
    rw [if_neg (by omega)]
def Kb (g:Nat) (w w':World):Prop:=w'.os = w.os∧w'.tape = w.tape∧w'.output = w.output∧w.heap.size≤w'.heap.size∧∀ k,k < w.heap.size→k≠g→w'.heap[k]? = w.heap[k]?
theorem Kb.refl (g:Nat) (w:World):Kb g w w:=⟨rfl,rfl,rfl,Nat.le_refl _,fun _ _ _=>rfl⟩
theorem Kb.setCell {g:Nat} {w w':World} (h:Kb g w w') (j:Nat) (v:Value):Kb g w (w'.setCell ⟨g,j,none⟩ v):=by
  obtain ⟨h1,h2,h3,h4,h5⟩:=h
  refine ⟨h1,h2,h3,by simpa [World.setCell] using h4,fun k hk hne=>?_⟩
  rw [← h5 k hk hne]
  simp only [World.setCell,Array.getElem?_modify]
  rw [if_neg (by omega)]
theorem Kb.kp {g:Nat} {a w w':World} (h:Kb g w w') (k:Kp a w) (hg:a.heap.size≤g):Kp a w' :=
  ⟨h.1.trans k.os,h.2.1.trans k.tape,h.2.2.1.trans k.output,Nat.le_trans k.size h.2.2.2.1,fun i hi=>(h.2.2.2.2 i (Nat.lt_of_lt_of_le hi k.size) (by omega)).trans (Below.block k i hi)⟩
theorem Kb.arr {g:Nat} {w w':World} (h:Kb g w w') {b off:Nat} {v:Value} (hne:b≠g) (hc:w.cell? ⟨b,off,none⟩ = some v):w'.cell? ⟨b,off,none⟩ = some v:=by
  have e:=h.2.2.2.2 b (cell_lt hc) hne
  rw [World.cell?_of_block (w:=w) (a:=⟨b,off,none⟩) e];exact hc
theorem trim_ (p:Option Addr) (c:Nat) (xs:List Int) (w:World) (hx:Arr w p xs) (lx:xs.length≤1099511627776) (hc:xs.length≤c) :
    Calls Tryz.prog 120 #[.slice p xs.length c] w fun e w'=>e = .returned (.slice p (tl xs) c)∧w' = w:=by
  obtain ⟨N,hN⟩:∃ N,N = xs.length:=⟨_,rfl⟩
  rw [← hN] at lx hc ⊢
  have HX:Hid (Arr w p xs):=hx
  have HN:Hid (N = xs.length):=hN
  obtain ⟨T,hT⟩:∃ T,T = tl xs:=⟨_,rfl⟩
  rw [← hT]
  have HT:Hid (tlAux xs N = T):=by rw [hT,hN];exact rfl
  have hT2:T≤N:=by rw [hT,hN];exact tl_le xs
  clear hN hx hT
  go_enter Tryz.func120,Tryz.ntmps120
  go_wp2
  go_loop [3] (fun i=>∃ k:Nat,i = .int .i64 k∧k≤N∧tlAux xs k = T) (fun i=>(intOf i).toNat)
  case atStart=>exact ⟨N,rfl,Nat.le_refl _,HT.out⟩
  case round =>
    obtain ⟨k,rfl,hk,ht⟩:=hrel
    have hN:=HN.out
    rcases k with _ | k
    · have hT0:T = 0:=by rw [← ht];rfl
      subst hT0
      clear hN HN HX HT ht hk
      go_wp2
      exact bodyPost_ret (v:=.slice p 0 c) (by simp [results,Tryz.results120,go_sem] <;> simp only [*]) rfl ⟨rfl,rfl⟩
    · obtain ⟨b,off,rfl,hc'⟩:=HX.out.at (k:=k) (by omega)
      have e1:=hc' k (by omega)
      have f1:(((k + 1:Nat):Int) - 1) = (k:Int):=by omega
      by_cases cz:xs.getD k 0 = 0
      · rw [tlAux_zero xs k cz] at ht
        rw [cz] at e1
        clear hN HN HX HT hc'
        go_wp2
        exact ⟨⟨k,by go_num,by omega,ht⟩,by simp [intOf]⟩
      · rw [tlAux_nz xs k cz] at ht
        subst ht
        obtain ⟨X,hX⟩:∃ X,X = xs.getD k 0:=⟨_,rfl⟩
        rw [← hX] at e1 cz
        have t1:(X == 0) = false:=by simp [cz]
        clear hN HN HX HT hc' hX cz
        go_wp2
        exact bodyPost_ret (v:=.slice (some ⟨b,off,none⟩) (k + 1) c) (by simp [results,Tryz.results120,go_sem] <;> simp only [*]) rfl ⟨rfl,rfl⟩
theorem words_ (p:Option Addr) (c:Nat) (xs:List Int) (w:World) (hx:Arr w p xs) (lx:xs.length≤1099511627776) :
    Calls Tryz.prog 52 #[.slice p xs.length c] w fun e w'=>e = .returned (.int .i64 (tl xs:Int))∧w' = w:=by
  obtain ⟨N,hN⟩:∃ N,N = xs.length:=⟨_,rfl⟩
  rw [← hN] at lx ⊢
  have HX:Hid (Arr w p xs):=hx
  have HN:Hid (N = xs.length):=hN
  obtain ⟨T,hT⟩:∃ T,T = tl xs:=⟨_,rfl⟩
  rw [← hT]
  have HT:Hid (tlAux xs N = T):=by rw [hT,hN];exact rfl
  have hT2:T≤N:=by rw [hT,hN];exact tl_le xs
  clear hN hx hT
  go_enter Tryz.func52,Tryz.ntmps52
  go_wp2
  go_loop [3] (fun i=>∃ k:Nat,i = .int .i64 k∧k≤N∧tlAux xs k = T) (fun i=>(intOf i).toNat)
  case atStart=>exact ⟨N,rfl,Nat.le_refl _,HT.out⟩
  case round =>
    obtain ⟨k,rfl,hk,ht⟩:=hrel
    have hN:=HN.out
    rcases k with _ | k
    · have hT0:T = 0:=by rw [← ht];rfl
      subst hT0
      clear hN HN HX HT ht hk
      go_wp2
      exact bodyPost_ret (v:=.int .i64 0) (by simp [results,Tryz.results52,go_sem] <;> simp only [*]) rfl ⟨rfl,rfl⟩
    · obtain ⟨b,off,rfl,hc'⟩:=HX.out.at (k:=k) (by omega)
      have e1:=hc' k (by omega)
      have f1:(((k + 1:Nat):Int) - 1) = (k:Int):=by omega
      by_cases cz:xs.getD k 0 = 0
      · rw [tlAux_zero xs k cz] at ht
        rw [cz] at e1
        clear hN HN HX HT hc'
        go_wp2
        exact ⟨⟨k,by go_num,by omega,ht⟩,by simp [intOf]⟩
      · rw [tlAux_nz xs k cz] at ht
        subst ht
        obtain ⟨X,hX⟩:∃ X,X = xs.getD k 0:=⟨_,rfl⟩
        rw [← hX] at e1 cz
        have t1:(X == 0) = false:=by simp [cz]
        clear hN HN HX HT hc' hX cz
        go_wp2
        exact bodyPost_ret (v:=.int .i64 ((k + 1:Nat):Int)) (by simp [results,Tryz.results52,go_sem] <;> simp only [*]) rfl ⟨rfl,rfl⟩
theorem add32_ (x y c:Int) (hx:0≤x∧x < 4294967296) (hy:0≤y∧y < 4294967296) (hc:0≤c∧c < 4294967296) (w:World) :
    Calls Tryz.prog 152 #[.int .u32 x,.int .u32 y,.int .u32 c] w fun e w'=>e = .returned (.tuple #[.int .u32 ((x + y + c) % 4294967296),.int .u32 ((x + y + c) / 4294967296)])∧w' = w:=by
  have f1:IntKind.u64.wrap x = x:=by rw [IntKind.wrap_u64];omega
  have f2:IntKind.u64.wrap y = y:=by rw [IntKind.wrap_u64];omega
  have f3:IntKind.u64.wrap c = c:=by rw [IntKind.wrap_u64];omega
  have f4:IntKind.u64.wrap (x + y) = x + y:=by rw [IntKind.wrap_u64];omega
  have f5:IntKind.u64.wrap (x + y + c) = x + y + c:=by rw [IntKind.wrap_u64];omega
  have f6:IntKind.u32.wrap (x + y + c) = (x + y + c) % 4294967296:=by rw [IntKind.wrap_u32]
  have f7:IntKind.u32.wrap ((x + y + c) / 4294967296) = (x + y + c) / 4294967296:=by rw [IntKind.wrap_u32];omega
  clear hx hy hc
  go_enter Tryz.func152,Tryz.ntmps152
  go_wp2
  exact bodyPost_ret (v:=.tuple #[.int .u32 ((x + y + c) % 4294967296),.int .u32 ((x + y + c) / 4294967296)]) (by simp [results,Tryz.results152,go_sem] <;> simp only [*]) rfl ⟨rfl,rfl⟩
theorem tooLong_ (p:Option Addr) (m c:Nat) (w:World):Calls Tryz.prog 121 #[.slice p m c] w fun e w'=>e = .returned (.bool (decide (16384 < m)))∧w' = w:=by
  go_enter Tryz.func121,Tryz.ntmps121
  go_wp2
  have h:decide ((16384:Int) < (m:Int)) = decide (16384 < m):=by by_cases d:16384 < m <;> simp [d] <;> omega
  exact bodyPost_ret (v:=.bool (decide (16384 < m))) (by simp [results,Tryz.results121,go_sem] <;> omega) rfl ⟨rfl,rfl⟩
theorem unlessLong_ (p:Option Addr) (m c:Nat) (w:World):Calls Tryz.prog 124 #[.slice p m c] w fun e w'=>e = .returned (if 16384 < m then .tuple #[.slice none 0 0,.int .i64 2] else .tuple #[.slice p m c,.int .i64 0])∧w' = w:=by
  have h:=tooLong_ p m c
  by_cases d:16384 < m
  · rw [decide_eq_true d] at h
    rw [if_pos d]
    clear d
    go_enter Tryz.func124,Tryz.ntmps124
    go_wp2_with (first | (go_at_call 121;refine (h _).mono ?_;rintro e w' ⟨rfl,rfl⟩))
    exact bodyPost_ret (v:=.tuple #[.slice none 0 0,.int .i64 2]) (by simp [results,Tryz.results124,go_sem] <;> simp only [*]) rfl ⟨rfl,rfl⟩
  · rw [decide_eq_false d] at h
    rw [if_neg d]
    clear d
    go_enter Tryz.func124,Tryz.ntmps124
    go_wp2_with (first | (go_at_call 121;refine (h _).mono ?_;rintro e w' ⟨rfl,rfl⟩))
    exact bodyPost_ret (v:=.tuple #[.slice p m c,.int .i64 0]) (by simp [results,Tryz.results124,go_sem] <;> simp only [*]) rfl ⟨rfl,rfl⟩
theorem Kb.kp2 {g:Nat} {w w' w'':World} (h:Kb g w w') (k:Kp w' w''):Kb g w w'' :=
  ⟨k.os.trans h.1,k.tape.trans h.2.1,k.output.trans h.2.2.1,Nat.le_trans h.2.2.2.1 k.size,fun i hi hne=>(Below.block k i (Nat.lt_of_lt_of_le hi h.2.2.2.1)).trans (h.2.2.2.2 i hi hne)⟩
theorem addTimes_ (g n i c1 d X:Nat) (q:Option Addr) (zs ys:List Int) (w:World) (hr:Rw w g n zs) (hzl:zs.length = n) (hwz:Wd zs) (hy:Arr w q ys) (hwy:Wd ys) (hX:X < 4294967296) (hq:0 < ys.length→∀ b off,q = some ⟨b,off,none⟩→b≠g) (hin:i + ys.length≤n) (hn:n≤1099511627776) (hcc:ys.length≤c1) :
    Calls Tryz.prog 158 #[.slice (some ⟨g,i,none⟩) ys.length c1,.slice q ys.length d,.int .u32 (X:Int)] w fun e w'=>∃ (C:Nat) (us:List Int),e = .returned (.int .u32 (C:Int))∧Rw w' g n us∧us.length = n∧Wd us∧C < 4294967296∧val us + C * 4294967296 ^ (i + ys.length) = val zs + val ys * X * 4294967296 ^ i∧(∀ j,i + ys.length≤j→us.getD j 0 = zs.getD j 0)∧Kb g w w':=by
  obtain ⟨M,hM⟩:∃ M,M = ys.length:=⟨_,rfl⟩
  rw [← hM] at hin hcc ⊢
  have HY:Hid (Arr w q ys∧(0 < ys.length→∀ b off,q = some ⟨b,off,none⟩→b≠g)):=⟨hy,hq⟩
  have HW:Hid (Wd ys∧M = ys.length):=⟨hwy,hM⟩
  have HZ:Hid (Rw w g n zs∧zs.length = n∧Wd zs):=⟨hr,hzl,hwz⟩
  have hX2:IntKind.u64.wrap (X:Int) = (X:Int):=by rw [IntKind.wrap_u64];omega
  clear hy hq hwy hM hr hzl hwz
  go_enter Tryz.func158,Tryz.ntmps158
  go_wp2
  go_loopw [7,11] (fun cc ii wr=>∃ (k C:Nat) (us:List Int),cc = .int .u64 (C:Int)∧ii = .int .i64 k∧k≤M∧Rw wr g n us∧us.length = n∧Wd us∧C < 4294967296∧val us + C * 4294967296 ^ (i + k) = val zs + val (ys.take k) * X * 4294967296 ^ i∧(∀ j,i + k≤j→us.getD j 0 = zs.getD j 0)∧Kb g w wr) (fun _ i _=>M - (intOf i).toNat)
  case atStart=>exact ⟨0,0,zs,rfl,rfl,Nat.zero_le _,HZ.out.1,HZ.out.2.1,HZ.out.2.2,by omega,by simp [val],fun j _=>rfl,Kb.refl _ _⟩
  case round =>
    obtain ⟨k,C,us,rfl,rfl,hk,hrow,hul,hwu,hC,hv,hsam,hkb⟩:=hrel
    obtain ⟨hwy,hM⟩:=HW.out
    by_cases ck:k < M
    · obtain ⟨b',off',rfl,hc'⟩:=HY.out.1.at (k:=k) (by omega)
      have hbg:=HY.out.2 (by omega) b' off' rfl
      have e2:=hkb.arr hbg (hc' k (by omega))
      have e1:=World.rowIs.cell hrow (i:=i + k) (by omega)
      have wy:=hwy k
      have wz:=hwu (i + k)
      obtain ⟨Y,hY⟩:∃ Y:Nat,(Y:Int) = ys.getD k 0:=⟨(ys.getD k 0).toNat,by omega⟩
      obtain ⟨Z0,hZ0⟩:∃ Z0:Nat,(Z0:Int) = us.getD (i + k) 0:=⟨(us.getD (i + k) 0).toNat,by omega⟩
      rw [← hY] at e2
      rw [← hZ0] at e1
      have hmw:=mul_word Y X C Z0 (by omega) hX hC (by omega)
      obtain ⟨P,hP⟩:∃ P,P = Y * X:=⟨_,rfl⟩
      rw [← hP] at hmw
      obtain ⟨S,hS⟩:∃ S:Nat,S = (Z0:Int).toNat + ((P:Nat):Int).toNat + C:=⟨_,rfl⟩
      have hst:=sum_step us (i + k) C S _ (Z0:Int) (P:Int) (by omega) hZ0.symm hS hv
      simp only [Int.toNat_natCast] at hS hst
      have hg2:=mul_grow ys X i k
      rw [← hY,Int.toNat_natCast,← hP] at hg2
      rw [Nat.add_assoc (val zs),← hg2,Nat.add_assoc i k 1] at hst
      have f1:IntKind.u64.wrap (Y:Int) = (Y:Int):=by rw [IntKind.wrap_u64];omega
      have f2:IntKind.u64.wrap ((Y:Int) * (X:Int)) = (P:Int):=by
        have:(Y:Int) * (X:Int) = (P:Int):=by rw [hP];exact (Int.natCast_mul Y X).symm
        rw [this,IntKind.wrap_u64];omega
      have f3:IntKind.u64.wrap (Z0:Int) = (Z0:Int):=by rw [IntKind.wrap_u64];omega
      have f4:IntKind.u64.wrap ((P:Int) + (Z0:Int)) = (P:Int) + (Z0:Int):=by rw [IntKind.wrap_u64];omega
      have f5:IntKind.u64.wrap ((C:Int) + ((P:Int) + (Z0:Int))) = (S:Int):=by rw [IntKind.wrap_u64];omega
      obtain ⟨Z,hZ⟩:∃ Z:Nat,Z = S % 4294967296:=⟨_,rfl⟩
      obtain ⟨C',hC2⟩:∃ C':Nat,C' = S / 4294967296:=⟨_,rfl⟩
      have f6:IntKind.u32.wrap (S:Int) = (Z:Int):=by rw [IntKind.wrap_u32];omega
      have f7:(S:Int) / 4294967296 = (C':Int):=by omega
      rw [← hZ,← hC2] at hst
      have hC':C' < 4294967296:=by omega
      have hw2:Wd (us.set (i + k) (Z:Int)):=hwu.set (i + k) Z (by omega)
      have hl2:(us.set (i + k) (Z:Int)).length = n:=by rw [List.length_set];exact hul
      have hsam2:∀ j,i + (k + 1)≤j→(us.set (i + k) (Z:Int)).getD j 0 = zs.getD j 0:=fun j h1=>by
        rw [← hsam j (by omega)];simp [List.getD,show ¬ i + k = j from by omega]
      have hik:i + k < us.length:=by omega
      have i0:(0:Int)≤(k:Int):=by omega
      have i1:(k:Int) < (M:Int):=by omega
      clear hc' HY HW HZ hwy hM hY hZ0 hZ hC2 hS hv hP hg2 wy wz hwu hC hsam hul hmw
      go_wp2
      refine wp_region_kp (by kernel_rfl) (by kernel_rfl) (fun ι _ G hG hall=>?_)
      have c0:∀ n,(G n).cell? ⟨g,i + k,none⟩ = some (.int .u32 (Z0:Int)):=fun n=>kkeep (hG n) e1
      have c1:∀ n,(G n).cell? ⟨b',off' + k,none⟩ = some (.int .u32 (Y:Int)):=fun n=>kkeep (hG n) e2
      repeat (go_big_quiet_step (fail))
      refine wpQuiet_nil ?_
      rintro _ ⟨nq,rfl⟩
      have gq:=hG nq
      replace hrow:=hrow.grown gq
      have e3:=World.rowIs.cell hrow (i:=i + k) (by have:=hrow;omega)
      have e4:=World.rowIs.frozen hrow (i + k)
      have hR:=hrow.set (i + k) (Z:Int) hik
      have hK:=(hkb.kp2 gq).setCell (i + k) (.int .u32 (Z:Int))
      clear c0 c1 hall hG gq e1 e2 hrow hkb
      go_wp2
      exact ⟨⟨k + 1,C',us.set (i + k) (Z:Int),rfl,by go_num,by omega,hR,hl2,hw2,hC',hst,hsam2,hK⟩,by simp [intOf];omega⟩
    · have hkM:k = M:=by omega
      subst hkM
      rw [hM,List.take_length,← hM] at hv
      have i2:¬ ((k:Int) < (k:Int)):=by omega
      have f6:IntKind.u32.wrap (C:Int) = (C:Int):=by rw [IntKind.wrap_u32];omega
      clear HY HW HZ hwy hM hk ck
      go_wp2
      exact bodyPost_ret (v:=.int .u32 (C:Int)) (by simp [results,Tryz.results158,go_sem] <;> simp only [*]) rfl ⟨C,rfl,us,hrow,hul,hwu,hC,hv,hsam,hkb⟩

structure Rs where
  l1:List Int
  l2:List Int
  W:Int
  Z:Int
  B:Bool
  E:Int
structure Out (w:World) (base:Nat) (r:Rs) (p1:Option Addr) (c1:Nat) (p2:Option Addr) (c2:Nat):Prop where
  o1:Own w base (.slice p1 r.l1.length c1) r.l1
  o2:Own w base (.slice p2 r.l2.length c2) r.l2
  ne:∀ g,p1 = some ⟨g,0,none⟩→p2≠some ⟨g,0,none⟩
theorem Out.grown {w w':World} {base:Nat} {r:Rs} {p1 p2:Option Addr} {c1 c2:Nat} (h:Out w base r p1 c1 p2 c2) (k:Kp w w'):Out w' base r p1 c1 p2 c2:=⟨h.o1.kp k,h.o2.kp k,h.ne⟩
theorem Rw.all {w:World} {g n:Nat} {xs:List Int} (h:Rw w g n xs) (hn:xs.length = n):Arr w (some ⟨g,0,none⟩) xs:=by
  refine Or.inr ⟨g,0,rfl,fun j hj=>?_⟩
  rw [Nat.zero_add]
  exact World.rowIs.cell h (by omega)
theorem Rw.kb {w w':World} {a g n:Nat} {xs:List Int} (h:Rw w g n xs) (k:Kb a w w') (hne:g≠a):Rw w' g n xs:=World.rowIs.of_block h (k.2.2.2.2 g (World.rowIs.lt h) hne)
theorem Own.kb {w w':World} {a base:Nat} {v:Value} {xs:List Int} (h:Own w base v xs) (k:Kb a w w') (hne:∀ g,v.ownBlock = some g→g≠a):Own w' base v xs:=by
  refine ⟨h.1, ?_⟩
  rcases h.2 with h' | ⟨g,cap,cur,h1,h2,h3,h4,h5,h6,h7⟩
  · exact Or.inl h'
  · have hlt:g < w.heap.size:=by
      by_cases c:g < w.heap.size
      · exact c
      · rw [Array.getElem?_eq_none (by simpa using c)] at h3;cases h3
    exact Or.inr ⟨g,cap,cur,h1,h2,by rw [k.2.2.2.2 g hlt (hne g (by rw [h1];rfl))];exact h3,h4,h5,h6,h7⟩
structure Cs (w:World) (b:Nat) (r:Rs) (p1:Option Addr) (c1:Nat) (p2:Option Addr) (c2:Nat):Prop where
  c0:w.cell? ⟨b,0,none⟩ = some (.slice p1 r.l1.length c1)
  c1:w.cell? ⟨b,1,none⟩ = some (.slice p2 r.l2.length c2)
  c2:w.cell? ⟨b,2,none⟩ = some (.int .u64 r.W)
  c3:w.cell? ⟨b,3,none⟩ = some (.int .i64 r.Z)
  c4:w.cell? ⟨b,4,none⟩ = some (.bool r.B)
  c5:w.cell? ⟨b,5,none⟩ = some (.int .i64 r.E)
theorem Cs.grown {w w':World} {b:Nat} {r:Rs} {p1 p2:Option Addr} {c1 c2:Nat} (h:Cs w b r p1 c1 p2 c2) (k:Kp w w'):Cs w' b r p1 c1 p2 c2:=⟨kkeep k h.c0,kkeep k h.c1,kkeep k h.c2,kkeep k h.c3,kkeep k h.c4,kkeep k h.c5⟩
theorem Cs.kb {w w':World} {a b:Nat} {r:Rs} {p1 p2:Option Addr} {c1 c2:Nat} (h:Cs w b r p1 c1 p2 c2) (k:Kb a w w') (hne:b≠a):Cs w' b r p1 c1 p2 c2:=⟨k.arr hne h.c0,k.arr hne h.c1,k.arr hne h.c2,k.arr hne h.c3,k.arr hne h.c4,k.arr hne h.c5⟩
theorem Cs.six {w:World} {b:Nat} {r:Rs} {p1 p2:Option Addr} {c1 c2:Nat} (h:Cs w b r p1 c1 p2 c2):w.cell? ⟨b,0,none⟩ = some (.slice p1 r.l1.length c1)∧w.cell? ⟨b,1,none⟩ = some (.slice p2 r.l2.length c2)∧w.cell? ⟨b,2,none⟩ = some (.int .u64 r.W)∧w.cell? ⟨b,3,none⟩ = some (.int .i64 r.Z)∧w.cell? ⟨b,4,none⟩ = some (.bool r.B)∧w.cell? ⟨b,5,none⟩ = some (.int .i64 r.E):=⟨h.c0,h.c1,h.c2,h.c3,h.c4,h.c5⟩
def Bd (lo hi:Nat) (p1 p2:Option Addr):Prop:=∀ g,p1 = some ⟨g,0,none⟩∨p2 = some ⟨g,0,none⟩→lo≤g∧g < hi
theorem own_p {p:Option Addr} {n c g:Nat} {w:World} {base:Nat} {xs:List Int} (h:Own w base (.slice p n c) xs) (hg:(Value.slice p n c).ownBlock = some g):p = some ⟨g,0,none⟩:=by
  rcases h.2 with ⟨h',_⟩ | ⟨g',cap,cur,h1,_⟩
  · rw [h'] at hg;cases hg
  · cases h1;cases hg;rfl
theorem Out.kb {w w':World} {a base lo hi:Nat} {r:Rs} {p1 p2:Option Addr} {c1 c2:Nat} (h:Out w base r p1 c1 p2 c2) (k:Kb a w w') (b:Bd lo hi p1 p2) (ha:a < lo∨hi≤a):Out w' base r p1 c1 p2 c2 :=
  ⟨h.o1.kb k (fun g hg=>by have:=b g (Or.inl (own_p h.o1 hg));omega),h.o2.kb k (fun g hg=>by have:=b g (Or.inr (own_p h.o2 hg));omega),h.ne⟩
end Go.Proofs.YtnileplkkmhdgaaGreatDoor
