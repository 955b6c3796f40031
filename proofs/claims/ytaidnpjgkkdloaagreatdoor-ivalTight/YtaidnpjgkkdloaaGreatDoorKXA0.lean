import Derived.Test.YtaidnpjgkkdloaaGreatDoorKXM
import Derived.Test.YtaidnpjgkkdloaaGreatDoorProg
import Derived.Below
import Derived.BigQuiet
import Derived.Deep.OwnRows
import Derived.Deep.QuietTactic
import Derived.Laws.BitsAllLaws
import Derived.Laws.FloatArith
import Derived.Laws.IdiomCopy
import Derived.Lib.BitFns
import Derived.OwnWalk
import Derived.ProofKit
import Derived.RowKit3
import Derived.StillTactics
import Derived.WalkKit
import Derived.WalkSpells
namespace Go.Proofs.YtaidnpjgkkdloaaGreatDoor
open Go.RowKit

def Kp (w w':World):Prop:=Below w.heap.size w w'
theorem Kp.refl (w:World):Kp w w:=Below.refl _ _
theorem Kp.trans {a b c:World} (h:Kp a b) (k:Kp b c):Kp a c:=Below.trans h (Below.mono k h.size)
theorem Kp.drew {a b:World} (h:Kp a b):Kp a b.drew:=Below.drew h
theorem Kp.drewN {a b:World} (n:Nat) (h:Kp a b):Kp a (b.drewN n):=by
  induction n with
  | zero=>exact h
  | succ n ih=>exact Below.drew ih
theorem Kp.alloc {a b:World} (h:Kp a b) (o:Obj):Kp a (b.alloc o):=Below.alloc h h.size o
theorem Kp.setCell {a b:World} (h:Kp a b) {p:Addr} (hp:a.heap.size≤p.block) (u:Value):Kp a (b.setCell p u):=Below.setCell h hp u
theorem Kp.grown {a w w':World} {row:Option Nat} (h:Kp a w) (hg:w.grownBy w' row) (hr:∀ k,row = some k→a.heap.size≤k):Kp a w':=Below.grown h hg h.size hr
theorem cell_lt {w:World} {b o:Nat} {v:Value} (h:w.cell? ⟨b,o,none⟩ = some v):b < w.heap.size:=by
  unfold World.cell? at h
  by_cases c:b < w.heap.size
  · exact c
  · rw [Array.getElem?_eq_none (by simpa using c)] at h;simp at h
theorem kkeep {W w:World} {b o:Nat} {v:Value} (g:Kp W w) (h:W.cell? ⟨b,o,none⟩ = some v):w.cell? ⟨b,o,none⟩ = some v:=by
  rw [Below.cell g (cell_lt h)];exact h
theorem wp_region_kp {P:Program} {id:Nat} {Q:Exit→Act→World→Prop} {a:Act} {w:World} {l:List Oper} (hm:P.follows .mixedOrders = true) (hB:Region.lexB .any l.toArray = true)
    (h:∀ (ι:Type) (_:Nonempty ι) (G:ι→World),(∀ n,Kp w (G n))→(∀ w',Kp w w'→∃ n,w' = G n)→wpQuiet P l.toArray (fun w'=>∃ n,w' = G n) (fun a'=>∀ w',(∃ n,w' = G n)→Q .normal a' w') l a) :
    (Code.region id l.toArray true).wp P Q a w:=by
  have hh:=h {w':World // Kp w w'} ⟨⟨w,Kp.refl w⟩⟩ Subtype.val (fun n=>n.2) (fun w' hw=>⟨⟨w',hw⟩,rfl⟩)
  exact wp_region_quiet (C:=fun w'=>∃ n:{w':World // Kp w w'},w' = n.val) hm hB ⟨⟨_,(Kp.refl w).drew⟩,rfl⟩ (by simpa using hh)
def Arr (w:World) (p:Option Addr) (xs:List Int):Prop:=xs = []∨∃ b off,p = some ⟨b,off,none⟩∧∀ j,j < xs.length→w.cell? ⟨b,off + j,none⟩ = some (.int .u32 (xs.getD j 0))
theorem Arr.grown {w w':World} {p:Option Addr} {xs:List Int} (h:Arr w p xs) (g:Kp w w'):Arr w' p xs:=by
  rcases h with h | ⟨b,off,h1,h2⟩
  · exact Or.inl h
  · exact Or.inr ⟨b,off,h1,fun j hj=>kkeep g (h2 j hj)⟩
theorem Arr.at {w:World} {p:Option Addr} {xs:List Int} (h:Arr w p xs) {k:Nat} (hk:k < xs.length):∃ b off,p = some ⟨b,off,none⟩∧∀ j,j < xs.length→w.cell? ⟨b,off + j,none⟩ = some (.int .u32 (xs.getD j 0)):=by
  rcases h with h | h
  · subst h;simp at hk
  · exact h
open Go
def Rw (w:World) (g n:Nat) (xs:List Int):Prop:=w.rowIs g 43 n (fun j=>.int .u32 (xs.getD j 0))
theorem rowIs_grown {w w':World} {g:Nat} {t:TypeId} {n:Nat} {f:Nat→Value} (h:w.rowIs g t n f) (gr:Kp w w'):w'.rowIs g t n f:=by
  exact h.of_block (Below.block gr g h.lt)
theorem Rw.grown {w w':World} {g n:Nat} {xs:List Int} (h:Rw w g n xs) (gr:Kp w w'):Rw w' g n xs:=rowIs_grown h gr
theorem Rw.arr {w:World} {g n:Nat} {xs:List Int} (h:Rw w g n xs) (k:Nat) (hk:k≤n) (hx:k≤xs.length):Arr w (some ⟨g,0,none⟩) (xs.take k):=by
  refine Or.inr ⟨g,0,rfl,fun j hj=>?_⟩
  have hj2:j < k:=by simp at hj;omega
  rw [Nat.zero_add,World.rowIs.cell h (by omega)]
  simp [List.getD,hj2]
theorem inf32:(Tryz.prog.info? 43).map (fun i=>(i.zero,i.size,i.bytes)) = some (some (.int .u32 0),1,4):=by kernel_rfl
theorem mk32 (n:Nat) (h:n≤1099511627776) (w:World):(Instr.makeSlice 25 (.int .i64 (n:Int)) (.int .i64 (n:Int))).run Tryz.prog w = .ok (.slice (some ⟨w.heap.size,0,none⟩) n n) (w.alloc (.cells (madeCells #[.int .u32 0] n) 43)) :=
  run_make_row' 25 43 (.int .u32 0) 4 Tryz.underlying25 inf32 rfl .i64 .i64 n (by omega) (by omega) w

def Own (w:World) (base:Nat) (v:Value) (xs:List Int):Prop:=w.ownsRow base 43 1 v xs.length (xs.map (Value.int .u32))
theorem Own.nil (w:World) (base:Nat):Own w base (.slice none 0 0) []:=World.ownsRow_nil _ _ _ _
theorem Own.arr {w:World} {base:Nat} {v:Value} {xs:List Int} (h:Own w base v xs):∃ p c,v = .slice p xs.length c∧Arr w p xs∧xs.length≤c:=by
  have hc:∀ g,v.ownBlock = some g→∀ j u,(xs.map (Value.int .u32))[j]? = some u→w.cell? ((⟨g,0,none⟩:Addr).add j) = some u:=fun g hg=>World.ownsRow.cells h hg
  rcases h.2 with ⟨h1,h2⟩ | ⟨g,cap,cur,h1,h2,h3,h4,h5,h6,h7⟩
  · have:xs = []:=List.length_eq_zero_iff.1 h2
    subst this
    exact ⟨none,0,h1,Or.inl rfl,Nat.le_refl _⟩
  · refine ⟨_,cap,h1,Or.inr ⟨g,0,rfl,fun j hj=>?_⟩,h4⟩
    have:=hc g (by rw [h1];rfl) j (.int .u32 (xs.getD j 0)) (by simp [List.getD,hj])
    have e:(⟨g,0,none⟩:Addr).add j = ⟨g,j,none⟩:=by
      unfold Addr.add
      by_cases c:j = 0
      · subst c;simp
      · simp [c]
    rw [Nat.zero_add,← e]
    exact this
theorem Own.kp {w w':World} {base:Nat} {v:Value} {xs:List Int} (h:Own w base v xs) (k:Kp w w'):Own w' base v xs:=by
  refine ⟨h.1, ?_⟩
  rcases h.2 with h' | ⟨g,cap,cur,h1,h2,h3,h4,h5,h6,h7⟩
  · exact Or.inl h'
  · have hlt:g < w.heap.size:=by
      by_cases c:g < w.heap.size
      · exact c
      · rw [Array.getElem?_eq_none (by simpa using c)] at h3;cases h3
    exact Or.inr ⟨g,cap,cur,h1,h2,by rw [Below.block k g hlt];exact h3,h4,h5,h6,h7⟩
theorem Own.mono {w:World} {base base':Nat} {v:Value} {xs:List Int} (h:Own w base v xs) (hb:base'≤base):Own w base' v xs:=by
  refine ⟨h.1, ?_⟩
  rcases h.2 with h' | ⟨g,cap,cur,h1,h2,h3⟩
  · exact Or.inl h'
  · exact Or.inr ⟨g,cap,cur,h1,Nat.le_trans hb h2,h3⟩
theorem Own.of_row {w:World} {base g n k:Nat} {xs:List Int} (h:Rw w g n xs) (hb:base≤g) (hk:k≤n) (hx:xs.length = n) (hn:n≤maxLen):Own w base (.slice (some ⟨g,0,none⟩) k n) (xs.take k):=by
  have hl:(xs.take k).length = k:=by rw [List.length_take];omega
  refine ⟨by simp,Or.inr ?_⟩
  rw [hl]
  obtain ⟨cur,h1,h2,h3⟩:=h
  refine ⟨g,n,cur,rfl,hb,h1,hk,hn,by omega, ?_⟩
  rw [Nat.mul_one]
  apply List.ext_getElem?
  intro j
  by_cases c:j < k
  · have:=h3 j (by omega)
    simp [c,List.getElem?_map]
    simpa [List.getD,show j < xs.length from by omega] using this
  · simp [List.getElem?_take,c]
theorem inf32p:∃ i,Tryz.prog.info? 43 = some i∧i.zero = some (.int .u32 0)∧i.size = 1∧i.bytes = 4:=info_parts inf32
theorem Own.push {w:World} {base:Nat} {v:Value} {xs:List Int} {X:Int} (h:w.ownsRow base 43 1 v (xs.length + 1) (xs.map (Value.int .u32) ++ [.int .u32 X])):Own w base v (xs ++ [X]):=by
  unfold Own
  simpa using h
theorem own_block {w:World} {base:Nat} {v:Value} {xs:List Int} (h:Own w base v xs):∀ k,v.ownBlock = some k→base≤k:=fun k hk=>(h.lt k hk).1
theorem take_push (xs:List Int) (k:Nat) (h:k < xs.length):xs.take k ++ [xs.getD k 0] = xs.take (k + 1):=by
  rw [List.take_add_one,List.getElem?_eq_getElem h]
  simp [List.getD,h]
def Kb (g:Nat) (w w':World):Prop:=w'.os = w.os∧w'.tape = w.tape∧w'.output = w.output∧w.heap.size≤w'.heap.size∧∀ k,k < w.heap.size→k≠g→w'.heap[k]? = w.heap[k]?
theorem Kb.refl (g:Nat) (w:World):Kb g w w:=⟨rfl,rfl,rfl,Nat.le_refl _,fun _ _ _=>rfl⟩
theorem Kb.setCell {g:Nat} {w w':World} (h:Kb g w w') (j:Nat) (v:Value):Kb g w (w'.setCell ⟨g,j,none⟩ v):=by
  obtain ⟨h1,h2,h3,h4,h5⟩:=h
  refine ⟨h1,h2,h3,by simpa [World.setCell] using h4,fun k hk hne=>?_⟩
  rw [← h5 k hk hne]
  simp only [World.setCell,Array.getElem?_modify]
  rw [if_neg (by omega)]
theorem Kb.kp {g:Nat} {a w w':World} (h:Kb g w w') (k:Kp a w) (hg:a.heap.size≤g):Kp a w' :=
  ⟨h.1.trans k.os,h.2.1.trans k.tape,h.2.2.1.trans k.output,Nat.le_trans k.size h.2.2.2.1,fun i hi=>(h.2.2.2.2 i (Nat.lt_of_lt_of_le hi k.size) (by omega)).trans (Below.block k i hi)⟩
theorem Kb.arr {g:Nat} {w w':World} (h:Kb g w w') {b off:Nat} {v:Value} (hne:b≠g) (hc:w.cell? ⟨b,off,none⟩ = some v):w'.cell? ⟨b,off,none⟩ = some v:=by
  have e:=h.2.2.2.2 b (cell_lt hc) hne
  rw [World.cell?_of_block (w:=w) (a:=⟨b,off,none⟩) e];exact hc

theorem setCells_row {g:Nat} {t:TypeId} {n:Nat}:∀ (vs:List Value) (o:Nat) (w:World) (f:Nat→Value),w.rowIs g t n f→(w.setCells g o vs).rowIs g t n (fun j=>if o≤j∧j < o + vs.length then vs.getD (j - o) (f j) else f j)
  | [],o,w,f,h=>h.congr (fun j _=>by rw [if_neg (by simp)])
  | v :: vs,o,w,f,h=>by
    have ih:=setCells_row vs (o + 1) _ _ (h.set o v)
    refine World.rowIs.congr ih (fun j _=>?_)
    by_cases c1:j = o
    · subst c1
      rw [if_neg (by omega),if_pos rfl,if_pos ⟨Nat.le_refl _,by simp⟩];simp
    · by_cases c2:o + 1≤j∧j < o + 1 + vs.length
      · have c3:o≤j∧j < o + (v :: vs).length:=⟨by omega,by simp;omega⟩
        rw [if_pos c2,if_pos c3,if_neg c1,show j - o = (j - (o + 1)) + 1 from by omega];simp
      · rw [if_neg c2,if_neg c1,if_neg (by simp;omega)]
theorem setCells_kp {W:World} {g:Nat} (hg:W.heap.size≤g):∀ (vs:List Value) (o:Nat) (w:World),Kp W w→Kp W (w.setCells g o vs)
  | [],_,_,h=>h
  | v :: vs,o,_,h=>setCells_kp hg vs (o + 1) _ (h.setCell hg v)
theorem siz32:(Tryz.prog.info? 43).map (·.size) = some 1:=by kernel_rfl
theorem copy32 (w:World) (g n c:Nat) (p:Option Addr) (xs:List Int) (f:Nat→Value) (hr:w.rowIs g 43 n f) (hx:Arr w p xs) (hl:xs.length≤n) :
    ∃ w2,(∀ ty,(Builtin.copy_ #[25,25] ty #[.slice (some ⟨g,0,none⟩) n n,.slice p xs.length c]).run Tryz.prog w = .ok (goInt xs.length) w2) ∧
      w2.rowIs g 43 n (fun j=>if j < xs.length then .int .u32 (xs.getD j 0) else f j)∧(∀ W:World,W.heap.size≤g→Kp W w→Kp W w2):=by
  rcases hx with rfl | ⟨b,off,rfl,hc⟩
  · refine ⟨w,fun ty=>run_copy_none w 25 25 ty 43 _ _ _ _ _ _ Tryz.underlying25 siz32 (by simp),hr.congr (fun j _=>by rw [if_neg (by simp)]),fun W _ h=>h⟩
  · refine ⟨w.setCells g 0 (xs.map (Value.int .u32)),fun ty=>?_, ?_,fun W hW h=>setCells_kp hW _ _ _ h⟩
    · have:=run_copy_cells (P:=Tryz.prog) w 25 25 ty 43 g 0 n n ⟨b,off,none⟩ xs.length c (xs.map (Value.int .u32)) Tryz.underlying25 siz32 (by simp [Nat.min_eq_left hl])
        (fun j v hv=>by
          have hj:j < xs.length:=by
            have:=List.getElem?_eq_some_iff.1 hv
            simpa using this.1
          have e:(⟨b,off,none⟩:Addr).add j = ⟨b,off + j,none⟩:=by
            unfold Addr.add
            by_cases c:j = 0
            · subst c;simp
            · simp [c]
          rw [e,hc j hj]
          simpa [List.getD,hj] using hv)
        (fun j hj=>by rw [Nat.zero_add,hr.cell (by simp at hj;omega)];rfl) (fun j _=>by rw [Nat.zero_add];exact hr.frozen j)
        (fun v hv=>by obtain ⟨x,_,rfl⟩:=List.mem_map.1 hv;rfl)
      simpa using this
    · refine World.rowIs.congr (setCells_row (xs.map (Value.int .u32)) 0 w f hr) (fun j _=>?_)
      by_cases c:j < xs.length
      · rw [if_pos c,if_pos ⟨Nat.zero_le _,by simpa using c⟩];simp [List.getD,c]
      · rw [if_neg c,if_neg (by simp;omega)]
theorem Rw.set {w:World} {g n:Nat} {xs:List Int} (h:Rw w g n xs) (k:Nat) (x:Int) (hk:k < xs.length):Rw (w.setCell ⟨g,k,none⟩ (.int .u32 x)) g n (xs.set k x):=by
  refine World.rowIs.congr (World.rowIs.set h k (.int .u32 x)) (fun j _=>?_)
  by_cases c:j = k
  · subst c;rw [if_pos rfl];simp [List.getD,hk]
  · have c':¬ k = j:=fun h=>c h.symm
    rw [if_neg c];simp [List.getD,c']

theorem Own.setOther {w:World} {base:Nat} {v:Value} {xs:List Int} (h:Own w base v xs) {a:Addr} (ha:a.block < base) (u:Value):Own (w.setCell a u) base v xs:=by
  refine ⟨h.1, ?_⟩
  rcases h.2 with h' | ⟨g,cap,cur,h1,h2,h3,h4⟩
  · exact Or.inl h'
  · refine Or.inr ⟨g,cap,cur,h1,h2, ?_,h4⟩
    rw [← h3]
    simp only [World.setCell,Array.getElem?_modify]
    rw [if_neg (by omega)]
namespace Fq
open Ieee

def rg (f:Format) (x:Nat):Nat:=x % f.signWeight
def ng (f:Format) (x:Nat):Bool:=x / f.signWeight % 2 == 1
def pl (f:Format) (x:Nat):Int:=if ng f x then -(rg f x:Int) else rg f x
def eE (f:Format) (r:Nat):Nat:=if r < f.binade then 0 else r / f.binade - 1
def mM (f:Format) (r:Nat):Nat:=if r < f.binade then r else f.binade + r % f.binade
def vV (f:Format) (r:Nat):Nat:=mM f r * 2 ^ eE f r

theorem binade_pos (f:Format):0 < f.binade:=Nat.two_pow_pos _

theorem vV_step (f:Format) (r:Nat):vV f r < vV f (r + 1):=by
  have hB:=binade_pos f
  unfold vV mM eE
  generalize f.binade = B at *
  by_cases h1:r + 1 < B
  · have:r < B:=by omega
    simp [h1,this]
  · by_cases h2:r < B
    · have h3:r + 1 = B:=by omega
      simp [h2,h3]
      rw [Nat.div_self hB];simp;omega
    · have hq:1≤r / B:=(Nat.le_div_iff_mul_le hB).2 (by omega)
      simp only [h1,h2,if_false]
      have hdm:=Nat.div_add_mod r B
      have hm:=Nat.mod_lt r hB
      by_cases h4:r % B + 1 < B
      · have e1:(r + 1) / B = r / B:=by
          rw [show r + 1 = (r % B + 1) + B * (r / B) from by omega,Nat.add_mul_div_left _ _ hB,Nat.div_eq_of_lt h4];omega
        have e2:(r + 1) % B = r % B + 1:=by
          rw [show r + 1 = (r % B + 1) + B * (r / B) from by omega,Nat.add_mul_mod_self_left,Nat.mod_eq_of_lt h4]
        rw [e1,e2]
        exact Nat.mul_lt_mul_of_pos_right (by omega) (Nat.two_pow_pos _)
      · have e0:r + 1 = B * (r / B + 1):=by rw [Nat.mul_add];omega
        have e1:(r + 1) / B = r / B + 1:=by rw [e0,Nat.mul_div_cancel_left _ hB]
        have e2:(r + 1) % B = 0:=by rw [e0,Nat.mul_mod_right]
        rw [e1,e2]
        obtain ⟨k,hk⟩:∃ k,r / B = k + 1:=⟨r / B - 1,by omega⟩
        rw [hk]
        simp only [Nat.add_sub_cancel,Nat.add_zero]
        rw [Nat.pow_succ,Nat.mul_comm (2 ^ k) 2,← Nat.mul_assoc]
        exact Nat.mul_lt_mul_of_pos_right (by omega) (Nat.two_pow_pos _)

theorem vV_lt (f:Format) {r s:Nat} (h:r < s):vV f r < vV f s:=by
  induction s with
  | zero=>omega
  | succ s ih =>
    by_cases e:r = s
    · subst e;exact vV_step f r
    · exact Nat.lt_trans (ih (by omega)) (vV_step f s)

theorem vV_lt_iff (f:Format) (r s:Nat):vV f r < vV f s ↔ r < s:=by
  constructor
  · intro h
    by_cases c:r < s
    · exact c
    · exfalso
      by_cases e:r = s
      · subst e;omega
      · have:=vV_lt f (r:=s) (s:=r) (by omega);omega
  · exact vV_lt f

theorem vV_inj (f:Format) (r s:Nat):vV f r = vV f s ↔ r = s:=by
  constructor
  · intro h
    by_cases c:r < s
    · have:=vV_lt f c;omega
    · by_cases d:s < r
      · have:=vV_lt f d;omega
      · omega
  · intro h;rw [h]

theorem vV_zero (f:Format):vV f 0 = 0:=by
  unfold vV mM;simp [binade_pos f]

theorem read_fin (f:Format) (x:Nat) (h:rg f x < f.infRung) :
    f.read x = .number (ng f x) (mM f (rg f x)) (f.leastPlace + (eE f (rg f x):Nat)):=by
  unfold Format.read mM eE
  change (if rg f x < f.binade then _ else _) = _
  by_cases c:rg f x < f.binade
  · rw [if_pos c,if_pos c,if_pos c,Int.natCast_zero,Int.add_zero];rfl
  · rw [if_neg c]
    change (if rg f x < f.infRung then _ else _) = _
    rw [if_pos h,if_neg c,if_neg c];rfl

theorem read_inf (f:Format) (x:Nat) (hb:f.binade≤f.infRung) (h:rg f x = f.infRung) :
    f.read x = .infinity (ng f x):=by
  unfold Format.read
  change (if rg f x < f.binade then _ else if rg f x < f.infRung then _ else if rg f x = f.infRung then _ else _) = _
  rw [if_neg (by omega),if_neg (by omega),if_pos h];rfl

theorem read_nan (f:Format) (x:Nat) (hb:f.binade≤f.infRung) (h:f.infRung < rg f x) :
    f.read x = .nan (ng f x) (rg f x - f.infRung):=by
  unfold Format.read
  change (if rg f x < f.binade then _ else if rg f x < f.infRung then _ else if rg f x = f.infRung then _ else _) = _
  rw [if_neg (by omega),if_neg (by omega),if_neg (by omega)];rfl

theorem cmp_congr {a b c d:Int} (h1:a < b ↔ c < d) (h2:a = b ↔ c = d):compare a b = compare c d:=by
  simp only [compare,compareOfLessAndEq,h1,h2]

theorem cmp_lt {a b:Int} (h:a < b):compare a b = .lt:=by simp [compare,compareOfLessAndEq,h]
theorem cmp_gt {a b:Int} (h:b < a):compare a b = .gt:=by
  have h1:¬ a < b:=by omega
  have h2:a≠b:=by omega
  simp [compare,compareOfLessAndEq,h1,h2]
theorem cmp_eq {a b:Int} (h:a = b):compare a b = .eq:=by subst h;simp [compare,compareOfLessAndEq]

theorem signed_eq (s:Bool) (m k:Nat):signed s m k = if s then -((m * 2 ^ k:Nat):Int) else ((m * 2 ^ k:Nat):Int):=by
  unfold signed;rw [Nat.shiftLeft_eq]

def sV (f:Format) (x:Nat):Int:=if ng f x then -(vV f (rg f x):Int) else vV f (rg f x)

theorem sV_lt (f:Format) (x y:Nat):sV f x < sV f y ↔ pl f x < pl f y:=by
  have h1:=vV_lt_iff f (rg f x) (rg f y)
  have h2:=vV_lt_iff f (rg f y) (rg f x)
  have h3:=vV_inj f (rg f x) 0
  have h4:=vV_inj f (rg f y) 0
  rw [vV_zero] at h3 h4
  unfold sV pl
  cases ng f x <;> cases ng f y <;> simp <;> omega

theorem sV_eq (f:Format) (x y:Nat):sV f x = sV f y ↔ pl f x = pl f y:=by
  have h1:=vV_inj f (rg f x) (rg f y)
  have h3:=vV_inj f (rg f x) 0
  have h4:=vV_inj f (rg f y) 0
  rw [vV_zero] at h3 h4
  unfold sV pl
  cases ng f x <;> cases ng f y <;> simp <;> omega

theorem scale (f:Format) (x:Nat) (b:Int) (c:Nat) (hb:b = f.leastPlace + (c:Nat)) (hc:c≤eE f (rg f x)) :
    signed (ng f x) (mM f (rg f x)) (f.leastPlace + (eE f (rg f x):Nat) - b).toNat * (2 ^ c:Nat) = sV f x:=by
  subst hb
  rw [signed_eq,show (f.leastPlace + (eE f (rg f x):Nat) - (f.leastPlace + (c:Nat)):Int).toNat = eE f (rg f x) - c from by omega]
  unfold sV vV
  have e:mM f (rg f x) * 2 ^ eE f (rg f x) = mM f (rg f x) * 2 ^ (eE f (rg f x) - c) * 2 ^ c:=by
    rw [Nat.mul_assoc,← Nat.pow_add,Nat.sub_add_cancel hc]
  rw [e]
  cases ng f x
  · simp only [Bool.false_eq_true,if_false];exact (Int.natCast_mul _ _).symm
  · simp only [if_true];rw [Int.neg_mul];congr 1

theorem order_fin (f:Format) (x y:Nat) (hx:rg f x < f.infRung) (hy:rg f y < f.infRung) :
    f.order x y = some (compare (pl f x) (pl f y)):=by
  unfold Format.order
  rw [read_fin f x hx,read_fin f y hy]
  simp only [Datum.order]
  congr 1
  have hm:min (f.leastPlace + (eE f (rg f x):Nat)) (f.leastPlace + (eE f (rg f y):Nat)) = f.leastPlace + ((min (eE f (rg f x)) (eE f (rg f y)):Nat):Int):=by omega
  have sx:=scale f x _ _ hm (Nat.min_le_left _ _)
  have sy:=scale f y _ _ hm (Nat.min_le_right _ _)
  have hp:(0:Int) < ((2 ^ (min (eE f (rg f x)) (eE f (rg f y))):Nat):Int):=by exact_mod_cast Nat.two_pow_pos _
  refine cmp_congr ?_ ?_
  · rw [← sV_lt,← sx,← sy]
    exact (Int.mul_lt_mul_right hp).symm
  · rw [← sV_eq,← sx,← sy]
    constructor
    · intro h;rw [h]
    · intro h;exact Int.eq_of_mul_eq_mul_right (by omega) h

theorem order_num (f:Format) (x y:Nat) (hb:f.binade≤f.infRung) (hx:rg f x≤f.infRung) (hy:rg f y≤f.infRung) :
    f.order x y = some (compare (pl f x) (pl f y)):=by
  have hB:=binade_pos f
  by_cases cx:rg f x < f.infRung
  · by_cases cy:rg f y < f.infRung
    · exact order_fin f x y cx cy
    · have ey:rg f y = f.infRung:=by omega
      unfold Format.order
      rw [read_fin f x cx,read_inf f y hb ey]
      simp only [Datum.order]
      congr 1
      unfold pl
      rw [ey]
      cases ng f x <;> cases ng f y <;> simp only [Bool.false_eq_true,if_false,if_true] <;> symm <;> first | (apply cmp_lt;omega) | (apply cmp_gt;omega)
  · have ex:rg f x = f.infRung:=by omega
    by_cases cy:rg f y < f.infRung
    · unfold Format.order
      rw [read_inf f x hb ex,read_fin f y cy]
      simp only [Datum.order]
      congr 1
      unfold pl
      rw [ex]
      cases ng f x <;> cases ng f y <;> simp only [Bool.false_eq_true,if_false,if_true] <;> symm <;> first | (apply cmp_lt;omega) | (apply cmp_gt;omega)
    · have ey:rg f y = f.infRung:=by omega
      unfold Format.order
      rw [read_inf f x hb ex,read_inf f y hb ey]
      simp only [Datum.order]
      congr 1
      unfold pl
      rw [ex,ey]
      cases ng f x <;> cases ng f y <;> simp only [Bool.false_eq_true,if_false,if_true]
      · rw [cmp_eq rfl];rfl
      · rw [cmp_gt (by omega)];rfl
      · rw [cmp_lt (by omega)];rfl
      · rw [cmp_eq rfl];rfl

theorem order_nan_left (f:Format) (x y:Nat) (hb:f.binade≤f.infRung) (hx:f.infRung < rg f x):f.order x y = none:=by
  unfold Format.order;rw [read_nan f x hb hx];rfl

theorem order_nan_right (f:Format) (x y:Nat) (hb:f.binade≤f.infRung) (hy:f.infRung < rg f y):f.order x y = none:=by
  unfold Format.order;rw [read_nan f y hb hy]
  cases f.read x <;> rfl



/-! ### words by sign and rung -/
def plz (n:Bool) (m:Nat):Int:=if n then -(m:Int) else m
def wD (n:Bool) (m:Nat):Nat:=if n then 9223372036854775808 + m else m
theorem signD:double.signWeight = 9223372036854775808:=by decide +kernel
theorem infD:double.infRung = 9218868437227405312:=by decide +kernel
theorem infS:single.infRung = 2139095040:=by decide +kernel
theorem binD:double.binade = 4503599627370496:=by decide +kernel
theorem binfD:double.binade≤double.infRung:=by rw [binD,infD];decide
theorem rgD (n:Bool) (m:Nat) (h:m < 9223372036854775808):rg double (wD n m) = m:=by
  unfold rg wD;rw [signD];cases n <;> simp <;> omega
theorem ngD (n:Bool) (m:Nat) (h:m < 9223372036854775808):ng double (wD n m) = n:=by
  unfold ng wD;rw [signD];cases n <;> simp <;> omega
theorem exD (x:Nat) (h:x < 18446744073709551616):∃ n m,m < 9223372036854775808∧x = wD n m:=by
  by_cases c:x < 9223372036854775808
  · exact ⟨false,x,c,rfl⟩
  · exact ⟨true,x - 9223372036854775808,by omega,by unfold wD;simp;omega⟩
theorem ordD (n n':Bool) (m m':Nat) (h:m≤9218868437227405312) (h':m'≤9218868437227405312) :
    FloatKind.f64.format.order (wD n m) (wD n' m') = some (compare (plz n m) (plz n' m')):=by
  have e:=order_num double (wD n m) (wD n' m') binfD (by rw [rgD n m (by omega),infD];exact h) (by rw [rgD n' m' (by omega),infD];exact h')
  have p1:pl double (wD n m) = plz n m:=by unfold pl plz;rw [rgD n m (by omega),ngD n m (by omega)]
  have p2:pl double (wD n' m') = plz n' m':=by unfold pl plz;rw [rgD n' m' (by omega),ngD n' m' (by omega)]
  rw [p1,p2] at e;exact e
theorem ordD_nanl (n:Bool) (m y:Nat) (h:9218868437227405312 < m) (h2:m < 9223372036854775808):FloatKind.f64.format.order (wD n m) y = none :=
  order_nan_left double _ _ binfD (by rw [rgD n m h2,infD];exact h)
theorem ordD_nanr (n:Bool) (m y:Nat) (h:9218868437227405312 < m) (h2:m < 9223372036854775808):FloatKind.f64.format.order y (wD n m) = none :=
  order_nan_right double _ _ binfD (by rw [rgD n m h2,infD];exact h)
theorem xor_top (k m:Nat) (h:m < 2 ^ k):m ^^^ 2 ^ k = 2 ^ k + m:=by
  apply Nat.eq_of_testBit_eq
  intro i
  rw [Nat.testBit_xor,Nat.testBit_two_pow]
  by_cases c:k = i
  · subst c
    rw [Nat.testBit_two_pow_add_eq,Nat.testBit_lt_two_pow h];simp
  · by_cases d:i < k
    · rw [Nat.testBit_two_pow_add_gt d];simp [c]
    · have g:k < i:=by omega
      have l1:m < 2 ^ i:=Nat.lt_of_lt_of_le h (Nat.pow_le_pow_right (by decide) (by omega))
      have l2:2 ^ k + m < 2 ^ i:=Nat.lt_of_lt_of_le (by rw [Nat.pow_succ];omega:2 ^ k + m < 2 ^ (k + 1)) (Nat.pow_le_pow_right (by decide) (by omega))
      rw [Nat.testBit_lt_two_pow l1,Nat.testBit_lt_two_pow l2];simp [c]

theorem negD (n:Bool) (m:Nat) (h:m < 9223372036854775808):Op.negFloat .f64 (wD n m) = wD (!n) m:=by
  have e:=xor_top 63 m h
  have h2:Op.negFloat .f64 (wD n m) = wD n m ^^^ 2 ^ 63:=rfl
  rw [h2]
  cases n
  · show m ^^^ 2 ^ 63 = _;rw [e];rfl
  · show (2 ^ 63 + m) ^^^ 2 ^ 63 = m
    rw [← e,Nat.xor_assoc,Nat.xor_self,Nat.xor_zero]
theorem andD (n:Bool) (m:Nat) (h:m < 9223372036854775808):RowKit.wrap64 (bits .andNot .u64 ((wD n m:Nat):Int) 9223372036854775808) = (m:Int):=by
  have e:=u64_andNot_nat (wD n m) 9223372036854775808 (by unfold wD;split <;> omega) (by decide)
  have e2:wD n m &&& (18446744073709551615 - 9223372036854775808) = m:=by
    have:=Nat.and_two_pow_sub_one_eq_mod (wD n m) 63
    rw [show (18446744073709551615 - 9223372036854775808:Nat) = 2 ^ 63 - 1 from by decide,this]
    unfold wD;split <;> omega
  rw [e2] at e
  have e3:bits .andNot .u64 ((wD n m:Nat):Int) 9223372036854775808 = (m:Int):=e
  rw [e3];unfold RowKit.wrap64;omega
theorem shrD (n:Bool) (m:Nat) (h:m < 9223372036854775808):(((wD n m:Nat):Int) / 9223372036854775808 != 0) = n:=by
  unfold wD;cases n <;> simp <;> omega
theorem wrapU {x:Int} (h:0≤x) (h2:x < 18446744073709551616):IntKind.u64.wrap x = x:=by
  rw [IntKind.wrap_u64];omega
theorem wrapI {x:Int} (h:-9223372036854775808≤x) (h2:x < 9223372036854775808):wrap64 x = x:=by
  unfold wrap64;omega
def sgG (B I:Nat) (m:Nat):Nat:=if m < B then m else if m < I then B + m % B else m % B
def epG (L:Int) (B I:Nat) (m:Nat):Int:=if m < B then L else if m < I then L + (m / B:Nat) - 1 else L
def sgD:=sgG 4503599627370496 9218868437227405312
def epD:=epG (-1074) 4503599627370496 9218868437227405312
theorem eqzD (n:Bool) (m:Nat) (h:m < 9223372036854775808):(FloatKind.f64.format.order (wD n m) 0 == some .eq) = (m == 0):=by
  by_cases c:9218868437227405312 < m
  · rw [ordD_nanl n m 0 c h];simp;omega
  · have e:FloatKind.f64.format.order (wD n m) 0 = some (compare (plz n m) 0):=ordD n false m 0 (by omega) (by omega)
    rw [e];by_cases d:m = 0
    · subst d;rw [cmp_eq (by unfold plz;split <;> rfl)];simp
    · have hd:(m == 0) = false:=by simp [d]
      rw [hd]
      cases n
      · rw [cmp_gt (by show (0:Int) < (m:Int);omega)];rfl
      · rw [cmp_lt (by show -(m:Int) < 0;omega)];rfl
def cmpz (x y:Int):Int:=if x < y then -1 else if y < x then 1 else 0

theorem plz_bd (n:Bool) (m:Nat):-(m:Int)≤plz n m∧plz n m≤m:=by unfold plz;cases n <;> simp <;> omega

def fD (p:Int):Nat:=wD (decide (p < 0)) p.natAbs
end Fq
namespace Fq

def pla (x:Nat):Nat:=if x = 9223372036854775808 then 0 else x
open Ieee in
theorem feq (n n':Bool) (m m':Nat) (h:m < 9223372036854775808) (h':m' < 9223372036854775808):(FloatKind.f64.format.order (wD n m) (wD n' m') == some Ordering.eq) = decide (m≤9218868437227405312∧m'≤9218868437227405312∧plz n m = plz n' m'):=by
  by_cases c:9218868437227405312 < m
  · rw [ordD_nanl n m _ c h,decide_eq_false (by omega)];rfl
  by_cases c':9218868437227405312 < m'
  · rw [ordD_nanr n' m' _ c' h',decide_eq_false (by omega)];rfl
  rw [ordD n n' m m' (by omega) (by omega)]
  by_cases e:plz n m = plz n' m'
  · rw [cmp_eq e,decide_eq_true ⟨by omega,by omega,e⟩];rfl
  · rw [decide_eq_false (fun x=>e x.2.2)]
    rcases Int.lt_or_gt_of_ne e with g | g
    · rw [cmp_lt g];rfl
    · rw [cmp_gt g];rfl
open Ieee in
theorem fle (n n':Bool) (m m':Nat) (h:m < 9223372036854775808) (h':m' < 9223372036854775808):(FloatKind.f64.format.order (wD n m) (wD n' m') == some Ordering.lt || FloatKind.f64.format.order (wD n m) (wD n' m') == some Ordering.eq) = decide (m≤9218868437227405312∧m'≤9218868437227405312∧plz n m≤plz n' m'):=by
  by_cases c:9218868437227405312 < m
  · rw [ordD_nanl n m _ c h,decide_eq_false (by omega)];rfl
  by_cases c':9218868437227405312 < m'
  · rw [ordD_nanr n' m' _ c' h',decide_eq_false (by omega)];rfl
  rw [ordD n n' m m' (by omega) (by omega)]
  rcases Int.lt_trichotomy (plz n m) (plz n' m') with g | g | g
  · rw [cmp_lt g,decide_eq_true ⟨by omega,by omega,by omega⟩];rfl
  · rw [cmp_eq g,decide_eq_true ⟨by omega,by omega,by omega⟩];rfl
  · rw [cmp_gt g,decide_eq_false (by omega)];rfl
theorem feq0 (x:Nat) (h:x < 18446744073709551616):(FloatKind.f64.format.order x 0 == some Ordering.eq) = decide (x = 0∨x = 9223372036854775808):=by
  obtain ⟨n,m,hm,rfl⟩:=exD x h
  have g:=feq n false m 0 hm (by decide)
  rw [show wD false 0 = 0 from rfl] at g
  rw [g];congr 1;apply propext
  unfold plz wD
  cases n <;> simp <;> omega
theorem feqI (x:Nat) (h:x < 18446744073709551616):(FloatKind.f64.format.order x 9218868437227405312 == some Ordering.eq) = decide (x = 9218868437227405312):=by
  obtain ⟨n,m,hm,rfl⟩:=exD x h
  have g:=feq n false m 9218868437227405312 hm (by decide)
  rw [show wD false 9218868437227405312 = 9218868437227405312 from rfl] at g
  rw [g];congr 1;apply propext
  unfold plz wD
  cases n <;> simp <;> omega
theorem feqM (x:Nat) (h:x < 18446744073709551616):(FloatKind.f64.format.order x 18442240474082181120 == some Ordering.eq) = decide (x = 18442240474082181120):=by
  obtain ⟨n,m,hm,rfl⟩:=exD x h
  have g:=feq n true m 9218868437227405312 hm (by decide)
  rw [show wD true 9218868437227405312 = 18442240474082181120 from rfl] at g
  rw [g];congr 1;apply propext
  unfold plz wD
  cases n <;> simp <;> omega
def snd (a b:Nat):Bool:=(FloatKind.f64.format.order a b == some Ordering.lt || FloatKind.f64.format.order a b == some Ordering.eq) && (!(decide (a = 9218868437227405312)) && !(decide (b = 18442240474082181120)))
def rlo (a b:Nat):Nat:=if snd a b then pla a else 9218868437227405312
def rhi (a b:Nat):Nat:=if snd a b then pla b else 18442240474082181120
theorem pla_lt (x:Nat) (h:x < 18446744073709551616):pla x < 18446744073709551616:=by unfold pla;split <;> omega
theorem snd_w (n n':Bool) (m m':Nat) (h:m < 9223372036854775808) (h':m' < 9223372036854775808):snd (wD n m) (wD n' m') = decide (m≤9218868437227405312∧m'≤9218868437227405312∧plz n m≤plz n' m'∧¬ (n = false∧m = 9218868437227405312)∧¬ (n' = true∧m' = 9218868437227405312)):=by
  unfold snd
  rw [fle n n' m m' h h']
  have e1:(wD n m = 9218868437227405312) ↔ (n = false∧m = 9218868437227405312):=by unfold wD;cases n <;> simp;omega
  have e2:(wD n' m' = 18442240474082181120) ↔ (n' = true∧m' = 9218868437227405312):=by unfold wD;cases n' <;> simp <;> omega
  simp only [e1,e2]
  by_cases c1:m≤9218868437227405312∧m'≤9218868437227405312∧plz n m≤plz n' m' <;> by_cases c2:n = false∧m = 9218868437227405312 <;> by_cases c3:n' = true∧m' = 9218868437227405312 <;> simp [c1,c2,c3]
end Fq
namespace Fq
open Ieee
theorem vV_of (f:Format) (q k:Nat) (h1:f.binade≤k) (h2:k < 2 * f.binade):vV f (q * f.binade + k) = k * 2 ^ q:=by
  have hB:=binade_pos f
  unfold vV mM eE
  have e1:¬ (q * f.binade + k < f.binade):=by have:=Nat.zero_le (q * f.binade);omega
  have e2:(q * f.binade + k) / f.binade = q + 1:=by
    rw [show q * f.binade + k = (k - f.binade) + (q + 1) * f.binade from by rw [Nat.add_mul];omega,Nat.add_mul_div_right _ _ hB,Nat.div_eq_of_lt (by omega)];omega
  have e3:(q * f.binade + k) % f.binade = k - f.binade:=by
    rw [show q * f.binade + k = (k - f.binade) + (q + 1) * f.binade from by rw [Nat.add_mul];omega,Nat.add_mul_mod_self_right,Nat.mod_eq_of_lt (by omega)]
  rw [if_neg e1,if_neg e1,e2,e3,show f.binade + (k - f.binade) = k from by omega,Nat.add_sub_cancel]

def vlD (m:Nat):Nat:=vV double m
end Fq
namespace Fq
open Ieee
theorem bitLen_bd (o:Nat) (h0:o≠0) (h:o < 18446744073709551616):0 < Lib.bitLen o∧Lib.bitLen o≤64∧2 ^ (Lib.bitLen o - 1)≤o∧o < 2 ^ Lib.bitLen o:=by
  have h64:(2:Nat) ^ 64 = 18446744073709551616:=by decide
  have key:∀ k o:Nat,o≠0→o < 2 ^ 64→o.log2 = k→Lib.bitLen o = k + 1:=by
    intro k
    induction k with
    | zero =>
      intro o h0 h hk
      have h1:o < 2 ^ 1:=(Nat.log2_lt h0).1 (by omega)
      have:o = 1:=by omega
      subst this;decide
    | succ k ih =>
      intro o h0 h hk
      have h2:2 ^ (k + 1)≤o:=by rw [← hk];exact Nat.log2_self_le h0
      have hp:=Nat.two_pow_pos k
      rw [Nat.pow_succ] at h2
      have hd:(o / 2).log2 = k:=by rw [Nat.log2_def] at hk;rw [if_pos (by omega)] at hk;omega
      rw [Lib.bitLen_half o h0 h,ih (o / 2) (by omega) (by omega) hd];omega
  have e:=key o.log2 o h0 (by rw [h64];exact h) rfl
  have l:=(Nat.log2_lt h0 (k:=64)).2 (by rw [h64];exact h)
  rw [e]
  exact ⟨by omega,by omega,by rw [Nat.add_sub_cancel];exact Nat.log2_self_le h0,Nat.lt_log2_self⟩

def jokD (o:Nat) (E:Int):Bool:=decide (Lib.bitLen o≤53) && decide (-1074≤E) && decide (E + Lib.bitLen o≤1024)
def jshD (o:Nat) (E:Int):Nat:=min (53 - Lib.bitLen o) (E + 1074).toNat
def jrD (o:Nat) (E:Int):Nat:=((E + 1074).toNat - jshD o E) * 4503599627370496 + o * 2 ^ jshD o E
theorem jokD_iff (o:Nat) (E:Int):jokD o E = true ↔ Lib.bitLen o≤53∧-1074≤E∧E + Lib.bitLen o≤1024:=by
  unfold jokD;simp only [Bool.and_eq_true,decide_eq_true_eq,and_assoc]
theorem jrD_spec (o:Nat) (h0:o≠0) (h:o < 18446744073709551616) (E:Int) (hj:jokD o E = true) :
    0 < jrD o E∧jrD o E < 9218868437227405312∧vlD (jrD o E) = o * 2 ^ (E + 1074).toNat∧o * 2 ^ jshD o E < 9007199254740992:=by
  obtain ⟨j1,j2,j3⟩:=(jokD_iff o E).1 hj
  obtain ⟨l0,l1,l2,l3⟩:=bitLen_bd o h0 h
  obtain ⟨n,hn⟩:∃ n,n = Lib.bitLen o:=⟨_,rfl⟩
  obtain ⟨X,hX⟩:∃ X:Nat,X = (E + 1074).toNat:=⟨_,rfl⟩
  unfold jrD jshD
  rw [← hn] at j1 j3 l0 l1 l2 l3 ⊢
  rw [← hX]
  have hB:(2:Nat) ^ 52 = 4503599627370496:=by decide
  have hb:=binD
  by_cases c:53 - n≤X
  · rw [Nat.min_eq_left c]
    have k1:4503599627370496≤o * 2 ^ (53 - n):=by
      rw [← hB]
      refine Nat.le_trans (Nat.le_of_eq ?_) (Nat.mul_le_mul_right _ l2)
      rw [← Nat.pow_add];congr 1;omega
    have k2:o * 2 ^ (53 - n) < 9007199254740992:=by
      have h2:(2:Nat) ^ 53 = 9007199254740992:=by decide
      rw [← h2]
      refine Nat.lt_of_lt_of_le (Nat.mul_lt_mul_of_pos_right l3 (Nat.two_pow_pos _)) (Nat.le_of_eq ?_)
      rw [← Nat.pow_add];congr 1;omega
    obtain ⟨M,hM⟩:∃ M,M = o * 2 ^ (53 - n):=⟨_,rfl⟩
    rw [← hM] at k1 k2 ⊢
    obtain ⟨q,hq⟩:∃ q,q = X - (53 - n):=⟨_,rfl⟩
    rw [← hq]
    have hv:=vV_of double q M (by omega) (by omega)
    rw [hb] at hv
    refine ⟨by omega, ?_, ?_,k2⟩
    · have hq2:q≤2045:=by omega
      have:=Nat.mul_le_mul_right 4503599627370496 hq2
      omega
    · show vV double (q * 4503599627370496 + M) = _
      rw [hv,hM,Nat.mul_assoc,← Nat.pow_add];congr 2;omega
  · rw [Nat.min_eq_right (by omega),Nat.sub_self,Nat.zero_mul,Nat.zero_add]
    have k2:o * 2 ^ X < 4503599627370496:=by
      rw [← hB]
      refine Nat.lt_of_lt_of_le (Nat.mul_lt_mul_of_pos_right l3 (Nat.two_pow_pos _)) ?_
      rw [← Nat.pow_add];exact Nat.pow_le_pow_right (by decide) (by omega)
    refine ⟨Nat.mul_pos (by omega) (Nat.two_pow_pos _),by omega, ?_,by omega⟩
    show vV double (o * 2 ^ X) = _
    unfold vV mM eE
    rw [if_pos (by rw [hb];exact k2),if_pos (by rw [hb];exact k2),Nat.pow_zero,Nat.mul_one]

end Fq
namespace Fq
open Ieee
theorem vlsgD (m:Nat) (hm:m < 9218868437227405312):sgD m * 2 ^ (epD m + 1074).toNat = vlD m∧sgD m < 9007199254740992∧(m = 0 ↔ sgD m = 0)∧-1074≤epD m∧epD m≤971:=by
  have hb:=binD
  by_cases c:m < 4503599627370496
  · have e1:sgD m = m:=by unfold sgD sgG;rw [if_pos c]
    have e2:epD m = -1074:=by unfold epD epG;rw [if_pos c]
    rw [e1,e2,show (-1074 + 1074:Int).toNat = 0 from rfl,Nat.pow_zero,Nat.mul_one]
    refine ⟨?_,by omega,Iff.rfl,by omega,by omega⟩
    show m = vV double m
    unfold vV mM eE
    rw [hb,if_pos c,if_pos c,Nat.pow_zero,Nat.mul_one]
  · have e1:sgD m = 4503599627370496 + m % 4503599627370496:=by unfold sgD sgG;rw [if_neg c,if_pos hm]
    have e2:epD m = -1074 + m / 4503599627370496 - 1:=by unfold epD epG;(repeat' split) <;> omega
    rw [e1,e2]
    have hd:=Nat.div_add_mod m 4503599627370496
    have hq:1≤m / 4503599627370496:=by omega
    have hr:=Nat.mod_lt m (by decide:0 < 4503599627370496)
    have hq2:m / 4503599627370496≤2046:=by omega
    refine ⟨?_,by omega,by omega,by omega,by omega⟩
    rw [show (-1074 + (m:Int) / 4503599627370496 - 1 + 1074).toNat = m / 4503599627370496 - 1 from by omega]
    have hv:=vV_of double (m / 4503599627370496 - 1) (4503599627370496 + m % 4503599627370496) (by rw [hb];omega) (by rw [hb];omega)
    rw [← hv]
    show vV double _ = vV double m
    congr 1
    rw [hb]
    have:(m / 4503599627370496 - 1) * 4503599627370496 + 4503599627370496 = m / 4503599627370496 * 4503599627370496:=by rw [Nat.sub_mul,Nat.one_mul,Nat.sub_add_cancel (by omega)]
    omega
end Fq
end Go.Proofs.YtaidnpjgkkdloaaGreatDoor
