import Derived.Deep.RegionHeld
import Derived.Test.YtmpjcknaelgnoaaGreatDoorKXY
import Derived.Test.YtmpjcknaelgnoaaGreatDoorProg
import Derived.Below
import Derived.BigQuiet
import Derived.Deep.OwnRows
import Derived.Deep.QuietTactic
import Derived.Laws.BitsAllLaws
import Derived.Laws.IdiomCopy
import Derived.Laws.Slices
import Derived.OwnWalk
import Derived.ProofKit
import Derived.RowKit3
import Derived.StillTactics
import Derived.WalkKit
import Derived.WalkSpells
set_option maxHeartbeats 400000
set_option maxRecDepth 20000
namespace Go.Proofs.YtmpjcknaelgnoaaGreatDoor
open Go.RowKit Tryz
theorem SM {P:Program}{n:FuncId}{zs:Array Value}{w:World}{x:Ending}{Q:Ending->World->Prop}(h:Calls P n zs w fun e w'=>e=x∧w'=w)(q:Q x w):Calls P n zs w Q:=h.mono (by rintro e v ⟨rfl,rfl⟩;exact q)
theorem CF (w : World)(p a : Addr)(v : Value)(h : p.block ≠ a.block) : (w.setCell p v).cell? a=w.cell? a := World.cell?_setCell_far w p a v h

theorem AW {w:World}{b:Nat}{o0 o1 o2:Nat}{v0 v1 v2:Value}{a:Addr}{r:Option Value}(h:b≠a.block)(x:w.cell? a=r):(((w.setCell ⟨b,o0,none⟩ v0).setCell ⟨b,o1,none⟩ v1).setCell ⟨b,o2,none⟩ v2).cell? a=r:=((CF _ _ _ _ h).trans ((CF _ _ _ _ h).trans ((CF _ _ _ _ h).trans x)))
theorem vF {w:World}{b:Nat}{o0 o1 o2 o3:Nat}{v0 v1 v2 v3:Value}{a:Addr}{r:Option Value}(h:b≠a.block)(x:w.cell? a=r):((((w.setCell ⟨b,o0,none⟩ v0).setCell ⟨b,o1,none⟩ v1).setCell ⟨b,o2,none⟩ v2).setCell ⟨b,o3,none⟩ v3).cell? a=r:=((CF _ _ _ _ h).trans ((CF _ _ _ _ h).trans ((CF _ _ _ _ h).trans ((CF _ _ _ _ h).trans x))))
theorem jB {w:World}{b:Nat}{o0 o1 o2 o3 o4 o5 o6 o7 o8:Nat}{v0 v1 v2 v3 v4 v5 v6 v7 v8:Value}{a:Addr}{r:Option Value}(h:b≠a.block)(x:w.cell? a=r):(((((((((w.setCell ⟨b,o0,none⟩ v0).setCell ⟨b,o1,none⟩ v1).setCell ⟨b,o2,none⟩ v2).setCell ⟨b,o3,none⟩ v3).setCell ⟨b,o4,none⟩ v4).setCell ⟨b,o5,none⟩ v5).setCell ⟨b,o6,none⟩ v6).setCell ⟨b,o7,none⟩ v7).setCell ⟨b,o8,none⟩ v8).cell? a=r:=((CF _ _ _ _ h).trans ((CF _ _ _ _ h).trans ((CF _ _ _ _ h).trans ((CF _ _ _ _ h).trans ((CF _ _ _ _ h).trans ((CF _ _ _ _ h).trans ((CF _ _ _ _ h).trans ((CF _ _ _ _ h).trans ((CF _ _ _ _ h).trans x)))))))))
theorem rm {w:World}{b:Nat}{o0 o1 o2 o3 o4 o5 o6 o7 o8 o9 o10 o11 o12:Nat}{v0 v1 v2 v3 v4 v5 v6 v7 v8 v9 v10 v11 v12:Value}{a:Addr}{r:Option Value}(h:b≠a.block)(x:w.cell? a=r):(((((((((((((w.setCell ⟨b,o0,none⟩ v0).setCell ⟨b,o1,none⟩ v1).setCell ⟨b,o2,none⟩ v2).setCell ⟨b,o3,none⟩ v3).setCell ⟨b,o4,none⟩ v4).setCell ⟨b,o5,none⟩ v5).setCell ⟨b,o6,none⟩ v6).setCell ⟨b,o7,none⟩ v7).setCell ⟨b,o8,none⟩ v8).setCell ⟨b,o9,none⟩ v9).setCell ⟨b,o10,none⟩ v10).setCell ⟨b,o11,none⟩ v11).setCell ⟨b,o12,none⟩ v12).cell? a=r:=((CF _ _ _ _ h).trans ((CF _ _ _ _ h).trans ((CF _ _ _ _ h).trans ((CF _ _ _ _ h).trans ((CF _ _ _ _ h).trans ((CF _ _ _ _ h).trans ((CF _ _ _ _ h).trans ((CF _ _ _ _ h).trans ((CF _ _ _ _ h).trans ((CF _ _ _ _ h).trans ((CF _ _ _ _ h).trans ((CF _ _ _ _ h).trans ((CF _ _ _ _ h).trans x)))))))))))))
def Kp (w w':World):Prop:=Below w.heap.size w w'
theorem BR {P:Program}{fn:Func}{R:Ending->World->Prop}{a:Act}{w:World}{v:Value}(hR:R (.returned v) w)(hr:(results fn a.tmps).run P w=.ok v w:=by simp[results,go_sem,results4,results9,results10,results38,results40,results41,results48,results50,results52,results59,results63,results68,results72,results73,results77,results87,results89,results90,results93,results94,results95,results96,results98,results99,results100,results102,results107,results109,results115,results116,results130,results133,results134,results135,results139,results140,results144,results145,results146,results147,results148,results149,results150,results153,results157,results158,results161,results167,results169,results170,results171,results172,results173,results175,results176,results180,results184,results188,results189,results191,results192,results195,results196,results199,results200,results202,results203,results208,results209,results210,results211,results212,results213,results214,results216,results217,results218,results219,results220,results221,results222,results223,results224,results225,results226,results228,results229,results230,results231,results232,results233,results234,results241,results243,results244,results245,results246,results247,results248,results250,results251,results253,results254,results255,results256,results257,results261,results266,results267,results268,results269,results270,results271,results272,results273,results274,results276,results277,results278,results279,results280,results281,results282,results283,results284,results285]<;>simp only[*])(hd:a.defers=[]:=by rfl):bodyPost P fn R .ret a w:=bodyPost_ret hr hd hR
def RC (f:FuncId)(zs:Array Value)(W:World)(Q:World->Bool->Option Addr->Nat->Nat->Option Addr->Nat->Nat->Prop):Prop:=Calls prog f zs W fun e w'=>∃s p l c q k d,e=.returned (.agg #[.bool s,.slice p l c,.slice q k d])∧Q w' s p l c q k d∧Kp W w'
def KW (w:World) (f:FuncId) (zs:Array Value) (r:Value):Prop:=∀W:World,Kp w W->Calls prog f zs W fun e w'=>e=.returned r∧Kp W w'
abbrev RT (r:Value)(w:World):Ending->World->Prop:=fun e w'=>e=.returned r∧Kp w w'
abbrev RE (r:Value)(w:World):Ending->World->Prop:=fun e w'=>e=.returned r∧w'=w
def KC (f:FuncId)(zs:Array Value)(r:Value):Prop:=∀w:World,Calls prog f zs w fun e w'=>e=.returned r∧Kp w w'
def SC (f:FuncId)(zs:Array Value)(r:Value):Prop:=∀w:World,Calls prog f zs w fun e w'=>e=.returned r∧w'=w
theorem Kp.refl (w:World):Kp w w:=Below.refl _ _
theorem Kp.trans {a b c:World}(h:Kp a b)(k:Kp b c):Kp a c:=Below.trans h (Below.mono k h.size)
theorem Kp.drew {a b:World}(h:Kp a b):Kp a b.drew:=Below.drew h
theorem Kp.alloc {a b:World}(h:Kp a b)(o:Obj):Kp a (b.alloc o):=Below.alloc h h.size o
theorem Kp.setCell {a b:World}(h:Kp a b){p:Addr}(hp:a.heap.size<=p.block)(u:Value):Kp a (b.setCell p u):=Below.setCell h hp u
theorem G4 {W w:World}{b:Nat}{o0 o1 o2:Nat}{v0 v1 v2:Value}(h:Kp W w)(le:W.heap.size<=b):Kp W (((w.setCell ⟨b,o0,none⟩ v0).setCell ⟨b,o1,none⟩ v1).setCell ⟨b,o2,none⟩ v2):=(((h.setCell (p:=⟨b,o0,none⟩) le v0).setCell (p:=⟨b,o1,none⟩) le v1).setCell (p:=⟨b,o2,none⟩) le v2)
theorem yK {W w:World}{b:Nat}{o0 o1 o2 o3:Nat}{v0 v1 v2 v3:Value}(h:Kp W w)(le:W.heap.size<=b):Kp W ((((w.setCell ⟨b,o0,none⟩ v0).setCell ⟨b,o1,none⟩ v1).setCell ⟨b,o2,none⟩ v2).setCell ⟨b,o3,none⟩ v3):=((((h.setCell (p:=⟨b,o0,none⟩) le v0).setCell (p:=⟨b,o1,none⟩) le v1).setCell (p:=⟨b,o2,none⟩) le v2).setCell (p:=⟨b,o3,none⟩) le v3)
theorem Er {W w:World}{b:Nat}{o0 o1 o2 o3 o4 o5:Nat}{v0 v1 v2 v3 v4 v5:Value}(h:Kp W w)(le:W.heap.size<=b):Kp W ((((((w.setCell ⟨b,o0,none⟩ v0).setCell ⟨b,o1,none⟩ v1).setCell ⟨b,o2,none⟩ v2).setCell ⟨b,o3,none⟩ v3).setCell ⟨b,o4,none⟩ v4).setCell ⟨b,o5,none⟩ v5):=((((((h.setCell (p:=⟨b,o0,none⟩) le v0).setCell (p:=⟨b,o1,none⟩) le v1).setCell (p:=⟨b,o2,none⟩) le v2).setCell (p:=⟨b,o3,none⟩) le v3).setCell (p:=⟨b,o4,none⟩) le v4).setCell (p:=⟨b,o5,none⟩) le v5)
theorem yR {W w:World}{b:Nat}{o0 o1 o2 o3 o4 o5 o6 o7 o8:Nat}{v0 v1 v2 v3 v4 v5 v6 v7 v8:Value}(h:Kp W w)(le:W.heap.size<=b):Kp W (((((((((w.setCell ⟨b,o0,none⟩ v0).setCell ⟨b,o1,none⟩ v1).setCell ⟨b,o2,none⟩ v2).setCell ⟨b,o3,none⟩ v3).setCell ⟨b,o4,none⟩ v4).setCell ⟨b,o5,none⟩ v5).setCell ⟨b,o6,none⟩ v6).setCell ⟨b,o7,none⟩ v7).setCell ⟨b,o8,none⟩ v8):=(((((((((h.setCell (p:=⟨b,o0,none⟩) le v0).setCell (p:=⟨b,o1,none⟩) le v1).setCell (p:=⟨b,o2,none⟩) le v2).setCell (p:=⟨b,o3,none⟩) le v3).setCell (p:=⟨b,o4,none⟩) le v4).setCell (p:=⟨b,o5,none⟩) le v5).setCell (p:=⟨b,o6,none⟩) le v6).setCell (p:=⟨b,o7,none⟩) le v7).setCell (p:=⟨b,o8,none⟩) le v8)
theorem sM {W w:World}{b:Nat}{o0 o1 o2 o3 o4 o5 o6 o7 o8 o9 o10 o11 o12:Nat}{v0 v1 v2 v3 v4 v5 v6 v7 v8 v9 v10 v11 v12:Value}(h:Kp W w)(le:W.heap.size<=b):Kp W (((((((((((((w.setCell ⟨b,o0,none⟩ v0).setCell ⟨b,o1,none⟩ v1).setCell ⟨b,o2,none⟩ v2).setCell ⟨b,o3,none⟩ v3).setCell ⟨b,o4,none⟩ v4).setCell ⟨b,o5,none⟩ v5).setCell ⟨b,o6,none⟩ v6).setCell ⟨b,o7,none⟩ v7).setCell ⟨b,o8,none⟩ v8).setCell ⟨b,o9,none⟩ v9).setCell ⟨b,o10,none⟩ v10).setCell ⟨b,o11,none⟩ v11).setCell ⟨b,o12,none⟩ v12):=(((((((((((((h.setCell (p:=⟨b,o0,none⟩) le v0).setCell (p:=⟨b,o1,none⟩) le v1).setCell (p:=⟨b,o2,none⟩) le v2).setCell (p:=⟨b,o3,none⟩) le v3).setCell (p:=⟨b,o4,none⟩) le v4).setCell (p:=⟨b,o5,none⟩) le v5).setCell (p:=⟨b,o6,none⟩) le v6).setCell (p:=⟨b,o7,none⟩) le v7).setCell (p:=⟨b,o8,none⟩) le v8).setCell (p:=⟨b,o9,none⟩) le v9).setCell (p:=⟨b,o10,none⟩) le v10).setCell (p:=⟨b,o11,none⟩) le v11).setCell (p:=⟨b,o12,none⟩) le v12)
theorem Kp.grown {a w w':World}{row:Option Nat}(h:Kp a w)(hg:w.grownBy w' row)(hr:∀k,row=some k->a.heap.size<=k):Kp a w':=Below.grown h hg h.size hr
theorem be {w:World}{b o:Nat}{v:Value}(h:w.cell? ⟨b,o,none⟩=some v):b<w.heap.size:=by
 unfold World.cell? at h
 by_cases c:b<w.heap.size
 ·exact c
 ·rw[Array.getElem?_eq_none (by simpa using c)]at h;simp at h
theorem ac {W w:World}{b o:Nat}{v:Value}(g:Kp W w)(h:W.cell? ⟨b,o,none⟩=some v):w.cell? ⟨b,o,none⟩=some v:=by
 rw[Below.cell g (be h)];exact h
theorem eF {P:Program}{id:Nat}{Q:Exit->Act->World->Prop}{a:Act}{w:World}{l:List Oper}(hm:P.follows .mixedOrders=true)(hB:Region.lexB .any l.toArray=true)
  (h:∀(ι:Type)(_:Nonempty ι)(G:ι->World),(∀n,Kp w (G n))->(∀w',Kp w w'->∃n,w'=G n)->wpQuiet P l.toArray (fun w'=>∃n,w'=G n) (fun a'=>∀w',(∃n,w'=G n)->Q .normal a' w') l a) :
  (Code.region id l.toArray true).wp P Q a w:=by
 have b:=h {w':World // Kp w w'} ⟨⟨w,Kp.refl w⟩⟩ Subtype.val (fun n=>n.2) (fun w' hw=>⟨⟨w',hw⟩,rfl⟩)
 exact wp_region_quiet (C:=fun w'=>∃n:{w':World // Kp w w'},w'=n.val) hm hB ⟨⟨_,(Kp.refl w).drew⟩,rfl⟩ (by simpa using b)
def Arr (w:World)(p:Option Addr)(xs:List Int):Prop:=xs=[]∨∃b off,p=some ⟨b,off,none⟩∧∀j,j<xs.length->w.cell? ⟨b,off+j,none⟩=some (.int .u32 (xs.getD j 0))
theorem Arr.grown {w w':World}{p:Option Addr}{xs:List Int}(h:Arr w p xs)(g:Kp w w'):Arr w' p xs:=by
 rcases h with h|⟨b,off,h1,h2⟩
 ·exact Or.inl h
 ·exact Or.inr ⟨b,off,h1,fun j hj=>ac g (h2 j hj)⟩
theorem Arr.at {w:World}{p:Option Addr}{xs:List Int}(h:Arr w p xs){k:Nat}(hk:k<xs.length):∃b off,p=some ⟨b,off,none⟩∧∀j,j<xs.length->w.cell? ⟨b,off+j,none⟩=some (.int .u32 (xs.getD j 0)):=by
 rcases h with h|h
 ·subst h;simp at hk
 ·exact h
open Go
def Rw (w:World)(g n:Nat)(xs:List Int):Prop:=w.rowIs g 120 n (fun j=>.int .u32 (xs.getD j 0))
theorem qi {w w':World}{g:Nat}{t:TypeId}{n:Nat}{f:Nat->Value}(h:w.rowIs g t n f)(gr:Kp w w'):w'.rowIs g t n f:=by
 exact h.of_block (Below.block gr g h.lt)
theorem Rw.grown {w w':World}{g n:Nat}{xs:List Int}(h:Rw w g n xs)(gr:Kp w w'):Rw w' g n xs:=qi h gr
theorem Rw.arr {w:World}{g n:Nat}{xs:List Int}(h:Rw w g n xs)(k:Nat)(hk:k<=n)(hx:k<=xs.length):Arr w (some ⟨g,0,none⟩) (xs.take k):=by
 refine Or.inr ⟨g,0,rfl,fun j hj=>?_⟩
 have a:j<k:=by simp at hj;omega
 rw[bJ,World.rowIs.cell h (by omega)]
 simp[List.getD,a]
theorem Bz:(prog.info? 120).map (fun i=>(i.zero,i.size,i.bytes))=some (some (.int .u32 0),1,4):=by kernel_rfl
theorem mN (n:Nat)(h:n<=1099511627776)(w:World):(Instr.makeSlice 55 (.int .i64 (n:Int)) (.int .i64 (n:Int))).run prog w=.ok (.slice (some ⟨w.heap.size,0,none⟩) n n) (w.alloc (.cells (madeCells #[.int .u32 0] n) 120)) :=
 run_make_row' 55 120 (.int .u32 0) 4 underlying55 Bz rfl .i64 .i64 n (by omega) (by omega) w

def Own (w:World)(base:Nat)(v:Value)(xs:List Int):Prop:=w.ownsRow base 120 1 v xs.length (xs.map (Value.int .u32))
theorem Own.nil (w:World)(base:Nat):Own w base (.slice none 0 0) []:=World.ownsRow_nil _ _ _ _
theorem Own.arr {w:World}{base:Nat}{v:Value}{xs:List Int}(h:Own w base v xs):∃p c,v=.slice p xs.length c∧Arr w p xs∧xs.length<=c:=by
 have f:∀g,v.ownBlock=some g->∀j u,(xs.map (Value.int .u32))[j]? = some u->w.cell? ((⟨g,0,none⟩:Addr).add j)=some u:=fun g hg=>World.ownsRow.cells h hg
 rcases h.2 with⟨a,d⟩|⟨g,b,i,a,d,m,k,o,n,l⟩
 ·have:xs=[]:=List.length_eq_zero_iff.1 d
  subst this
  exact⟨none,0,a,Or.inl rfl,ao _⟩
 ·refine⟨_,b,a,Or.inr ⟨g,0,rfl,fun j hj=>?_⟩,k⟩
  have:=f g (by rw[a];rfl) j (.int .u32 (xs.getD j 0)) (by simp[List.getD,hj])
  have e:(⟨g,0,none⟩:Addr).add j=⟨g,j,none⟩:=by
   unfold Addr.add
   by_cases c:j=0
   ·subst c;simp
   ·simp[c]
  rw[bJ,<-e]
  exact this
theorem Own.kp {w w':World}{base:Nat}{v:Value}{xs:List Int}(h:Own w base v xs)(k:Kp w w'):Own w' base v xs:=by
 refine⟨h.1, ?_⟩
 rcases h.2 with p|⟨g,f,b,n,j,a,l,o,m,i⟩
 ·exact Or.inl p
 ·have d:g<w.heap.size:=by
   by_cases c:g<w.heap.size
   ·exact c
   ·rw[Array.getElem?_eq_none (by simpa using c)]at a;cases a
  exact Or.inr ⟨g,f,b,n,j,by rw[Below.block k g d];exact a,l,o,m,i⟩
theorem Own.mono {w:World}{base base':Nat}{v:Value}{xs:List Int}(h:Own w base v xs)(hb:base'<=base):Own w base' v xs:=by
 refine⟨h.1, ?_⟩
 rcases h.2 with i|⟨g,b,a,d,f,c⟩
 ·exact Or.inl i
 ·exact Or.inr ⟨g,b,a,d,aT hb f,c⟩
theorem Own.of_row {w:World}{base g n k:Nat}{xs:List Int}(h:Rw w g n xs)(hb:base<=g)(hk:k<=n)(hx:xs.length=n)(hn:n<=maxLen):Own w base (.slice (some ⟨g,0,none⟩) k n) (xs.take k):=by
 have f:(xs.take k).length=k:=by rw[dG];omega
 refine⟨by simp,Or.inr ?_⟩
 rw[f]
 obtain⟨a,b,i,d⟩:=h
 refine⟨g,n,a,rfl,hb,b,hk,hn,by omega, ?_⟩
 rw[aG]
 apply List.ext_getElem?
 intro j
 by_cases c:j<k
 ·have:=d j (by omega)
  simp[c,List.getElem?_map]
  simpa [List.getD,show j<xs.length from by omega]using this
 ·simp[List.getElem?_take,c]
theorem sj:∃i,prog.info? 120=some i∧i.zero=some (.int .u32 0)∧i.size=1∧i.bytes=4:=info_parts Bz
theorem Own.push {w:World}{base:Nat}{v:Value}{xs:List Int}{X:Int}(h:w.ownsRow base 120 1 v (xs.length+1) (xs.map (Value.int .u32) ++ [.int .u32 X])):Own w base v (xs ++ [X]):=by
 unfold Own
 simpa using h
theorem iJ {w:World}{base:Nat}{v:Value}{xs:List Int}(h:Own w base v xs):∀k,v.ownBlock=some k->base<=k:=fun k hk=>(h.lt k hk).1
theorem uq (xs:List Int)(k:Nat)(h:k<xs.length):xs.take k ++ [xs.getD k 0]=xs.take (k+1):=by
 rw[List.take_add_one,List.getElem?_eq_getElem h]
 simp[List.getD,h]
def Kb (g:Nat)(w w':World):Prop:=w'.os=w.os∧w'.tape=w.tape∧w'.output=w.output∧w.heap.size<=w'.heap.size∧∀k,k<w.heap.size->k≠g->w'.heap[k]? = w.heap[k]?
theorem Kb.refl (g:Nat)(w:World):Kb g w w:=⟨rfl,rfl,rfl,ao _,fun _ _ _=>rfl⟩
theorem Kb.setCell {g:Nat}{w w':World}(h:Kb g w w')(j:Nat)(v:Value):Kb g w (w'.setCell ⟨g,j,none⟩ v):=by
 obtain⟨b,d,f,a,c⟩:=h
 refine⟨b,d,f,by simpa [World.setCell]using a,fun k hk hne=>?_⟩
 rw[<-c k hk hne]
 simp only[World.setCell,Array.getElem?_modify]
 rw[if_neg (by omega)]
theorem Kb.kp {g:Nat}{a w w':World}(h:Kb g w w')(k:Kp a w)(hg:a.heap.size<=g):Kp a w' :=
 ⟨h.1.trans k.os,h.2.1.trans k.tape,h.2.2.1.trans k.output,aT k.size h.2.2.2.1,fun i hi=>(h.2.2.2.2 i (aE hi k.size) (by omega)).trans (Below.block k i hi)⟩
theorem Kb.arr {g:Nat}{w w':World}(h:Kb g w w'){b off:Nat}{v:Value}(hne:b≠g)(hc:w.cell? ⟨b,off,none⟩=some v):w'.cell? ⟨b,off,none⟩=some v:=by
 have e:=h.2.2.2.2 b (be hc) hne
 rw[World.cell?_of_block (w:=w) (a:=⟨b,off,none⟩) e];exact hc

theorem jX {g:Nat}{t:TypeId}{n:Nat}:∀(vs:List Value)(o:Nat)(w:World)(f:Nat->Value),w.rowIs g t n f->(w.setCells g o vs).rowIs g t n (fun j=>if o<=j∧j<o+vs.length then vs.getD (j-o) (f j) else f j)
 | [],o,w,f,h=>h.congr (fun j _=>by rw[if_neg (by simp)])
 | v :: vs,o,w,f,h=>by
   have ih:=jX vs (o+1) _ _ (h.set o v)
   refine World.rowIs.congr ih (fun j _=>?_)
   by_cases c1:j=o
   ·subst c1
    rw[if_neg (by omega),if_pos rfl,if_pos ⟨ao _,by simp⟩];simp
   ·by_cases c2:o+1<=j∧j<o+1+vs.length
    ·have c3:o<=j∧j<o+(v :: vs).length:=⟨by omega,by simp;omega⟩
     rw[if_pos c2,if_pos c3,if_neg c1,show j-o=(j-(o+1))+1 from by omega];simp
    ·rw[if_neg c2,if_neg c1,if_neg (by simp;omega)]
theorem lI {W:World}{g:Nat}(hg:W.heap.size<=g):∀(vs:List Value)(o:Nat)(w:World),Kp W w->Kp W (w.setCells g o vs)
 | [],_,_,h=>h
 | v :: vs,o,_,h=>lI hg vs (o+1) _ (h.setCell hg v)
theorem Bc:(prog.info? 120).map (·.size)=some 1:=by kernel_rfl
theorem yy (w:World)(g n c:Nat)(p:Option Addr)(xs:List Int)(f:Nat->Value)(hr:w.rowIs g 120 n f)(hx:Arr w p xs)(hl:xs.length<=n) :
  ∃w2,(∀ty,(Builtin.copy_ #[55,55] ty #[.slice (some ⟨g,0,none⟩) n n,.slice p xs.length c]).run prog w=.ok (goInt xs.length) w2) ∧
   w2.rowIs g 120 n (fun j=>if j<xs.length then .int .u32 (xs.getD j 0) else f j)∧(∀W:World,W.heap.size<=g->Kp W w->Kp W w2):=by
 rcases hx with rfl|⟨b,off,rfl,hc⟩
 ·refine⟨w,fun ty=>run_copy_none w 55 55 ty 120 _ _ _ _ _ _ underlying55 Bc (by simp),hr.congr (fun j _=>by rw[if_neg (by simp)]),fun W _ h=>h⟩
 ·refine⟨w.setCells g 0 (xs.map (Value.int .u32)),fun ty=>?_, ?_,fun W hW h=>lI hW _ _ _ h⟩
  ·have:=run_copy_cells (P:=prog) w 55 55 ty 120 g 0 n n ⟨b,off,none⟩ xs.length c (xs.map (Value.int .u32)) underlying55 Bc (by simp[cW hl])
    (fun j v hv=>by
     have a:j<xs.length:=by
      have:=List.getElem?_eq_some_iff.1 hv
      simpa using this.1
     have e:(⟨b,off,none⟩:Addr).add j=⟨b,off+j,none⟩:=by
      unfold Addr.add
      by_cases c:j=0
      ·subst c;simp
      ·simp[c]
     rw[e,hc j a]
     simpa [List.getD,a]using hv)
    (fun j a=>by rw[bJ,hr.cell (by simp at a;omega)];rfl) (fun j _=>by rw[bJ];exact hr.frozen j)
    (fun v hv=>by obtain⟨x,_,rfl⟩:=List.mem_map.1 hv;rfl)
   simpa using this
  ·refine World.rowIs.congr (jX (xs.map (Value.int .u32)) 0 w f hr) (fun j _=>?_)
   by_cases c:j<xs.length
   ·rw[if_pos c,if_pos ⟨aW _,by simpa using c⟩];simp[List.getD,c]
   ·rw[if_neg c,if_neg (by simp;omega)]
theorem Rw.set {w:World}{g n:Nat}{xs:List Int}(h:Rw w g n xs)(k:Nat)(x:Int)(hk:k<xs.length):Rw (w.setCell ⟨g,k,none⟩ (.int .u32 x)) g n (xs.set k x):=by
 refine World.rowIs.congr (World.rowIs.set h k (.int .u32 x)) (fun j _=>?_)
 by_cases c:j=k
 ·subst c;rw[if_pos rfl];simp[List.getD,hk]
 ·have a:¬k=j:=fun h=>c h.symm
  rw[if_neg c];simp[List.getD,a]

theorem Own.setOther {w:World}{base:Nat}{v:Value}{xs:List Int}(h:Own w base v xs){a:Addr}(ha:a.block<base)(u:Value):Own (w.setCell a u) base v xs:=by
 refine⟨h.1, ?_⟩
 rcases h.2 with k|⟨g,b,c,j,f,d,i⟩
 ·exact Or.inl k
 ·refine Or.inr ⟨g,b,c,j,f, ?_,i⟩
  rw[<-d]
  simp only[World.setCell,Array.getElem?_modify]
  rw[if_neg (by omega)]
theorem yV (d:Int)(S r wh:Nat)(w:World)(hr:r<4611686018427387904) :
  Calls prog 259 #[.int .i64 d,.int .u64 (S:Int),.int .u64 (r:Int),.int .u64 (wh:Int)] w fun e w'=>e=.returned (.bool (fw d S r wh))∧w'=w:=by
 unfold fw
 obtain⟨b,a⟩:=aA (2*r)
 have k:IntKind.u64.wrap (2*(r:Int))=(b:Int):=by rw[IntKind.wrap_u64];omega
 rw[<-a]
 by_cases c:d=1
 ·rw[if_pos c]
  have o:(d == 1)=true:=by simp[c]
  clear hr k a c
  by_cases i:0<r
  ·rw[af i]
   have j:0<(r:Int):=by omega
   clear i
   go_enter func259,ntmps259
   go_wp2
   exact bodyPost_ret (v:=.bool true) (by simp[results,results259,go_sem]<;>omega) rfl ⟨rfl,rfl⟩
  ·rw[ae i]
   have j:r=0:=by omega
   subst j
   clear i
   go_enter func259,ntmps259
   go_wp2
   exact bodyPost_ret (v:=.bool false) (by simp[results,results259,go_sem]<;>omega) rfl ⟨rfl,rfl⟩
 ·rw[if_neg c]
  have o:(d == 1)=false:=by simp[c]
  by_cases c2:d = -1
  ·rw[if_pos c2]
   have m:(d == -1)=true:=by simp[c2]
   clear hr k a c c2
   go_enter func259,ntmps259
   go_wp2
   exact bodyPost_ret (v:=.bool false) (by simp[results,results259,go_sem]<;>omega) rfl ⟨rfl,rfl⟩
  ·rw[if_neg c2]
   have m:(d == -1)=false:=by simp[c2]
   clear hr a c c2
   by_cases h:wh<b
   ·rw[af h]
    have j:(wh:Int)<(b:Int):=by omega
    rw[Bool.true_or]
    clear h
    go_enter func259,ntmps259
    go_wp2
    exact bodyPost_ret (v:=.bool true) (by simp[results,results259,go_sem]<;>omega) rfl ⟨rfl,rfl⟩
   ·rw[ae h,Bool.false_or]
    have j:¬((wh:Int)<(b:Int)):=by omega
    by_cases g:wh=b
    ·have n:((b:Int) == (wh:Int))=true:=by simp;omega
     rw[af g,Bool.true_and]
     have p:Hid (wh=b):=g
     clear h g
     rcases(by omega:S%2=0∨S%2=1)with f|f
     ·have l:(S:Int)%2=0:=by omega
      rw[f]
      clear f
      go_enter func259,ntmps259
      go_wp2
      exact bodyPost_ret (v:=.bool false) (by simp[results,results259,go_sem]<;>omega) rfl ⟨rfl,rfl⟩
     ·have l:(S:Int)%2=1:=by omega
      rw[f]
      clear f
      go_enter func259,ntmps259
      go_wp2
      exact bodyPost_ret (v:=.bool true) (by simp[results,results259,go_sem]<;>omega) rfl ⟨rfl,rfl⟩
    ·have n:((b:Int) == (wh:Int))=false:=by simp;omega
     rw[ae g,Bool.false_and]
     clear h g
     go_enter func259,ntmps259
     go_wp2
     exact bodyPost_ret (v:=.bool false) (by simp[results,results259,go_sem]<;>omega) rfl ⟨rfl,rfl⟩
end Go.Proofs.YtmpjcknaelgnoaaGreatDoor
