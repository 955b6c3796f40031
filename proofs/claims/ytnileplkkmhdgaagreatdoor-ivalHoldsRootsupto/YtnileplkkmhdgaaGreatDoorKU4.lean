import Derived.Test.YtnileplkkmhdgaaGreatDoorKBGd
import Derived.Test.YtnileplkkmhdgaaGreatDoorKMR23
import Derived.Test.YtnileplkkmhdgaaGreatDoorKS1
import Derived.Laws.Rows
import Derived.RangeFuncRecord
set_option maxHeartbeats 1000000
set_option maxRecDepth 20000
namespace Go.Proofs.YtnileplkkmhdgaaGreatDoor
open Go.RowKit
theorem infD9 (n:Bool):Ieee.double.read (Fq.wD n 9218868437227405312) = .infinity n:=by
  rw [Fq.read_inf Ieee.double _ Fq.binfD (by rw [Fq.rgD n 9218868437227405312 (by decide),Fq.infD]),Fq.ngD n 9218868437227405312 (by decide)]
theorem finD9 (n:Bool) (m:Nat) (h:m < 9218868437227405312):∃ a e,Ieee.double.read (Fq.wD n m) = .number n a e∧(a = 0 ↔ m = 0):=by
  rw [Fq.read_fin _ _ (by rw [Fq.rgD n m (by omega),Fq.infD];exact h),Fq.ngD n m (by omega),Fq.rgD n m (by omega)]
  refine ⟨_,_,rfl, ?_⟩
  unfold Fq.mM
  rw [Fq.binD]
  split <;> omega
theorem wrI9 (s:Bool):Ieee.double.write (.infinity s) = Fq.wD s 9218868437227405312:=by unfold Ieee.Format.write Ieee.Format.word Fq.wD;rw [Fq.signD,Fq.infD]
theorem rU_zero9:rU 0 53 0 1 = 0:=by
  have h:=rV_zero9 0 0
  unfold rV at h
  simpa using h
theorem mul_zero (n n':Bool) (m m':Nat) (hm:m < 9218868437227405312) (hm':m' < 9218868437227405312) (h:m = 0∨m' = 0):FloatKind.f64.format.mul (Fq.wD n m) (Fq.wD n' m') = some (Fq.wD (n ^^ n') 0):=by
  obtain ⟨K,hK⟩:∃ K:Nat,K = 1074:=⟨_,rfl⟩
  have hz:Iv n m * Iv n' m' = 0:=by
    have e:∀ b:Bool,Iv b 0 = 0:=fun b=>by
      have:=iv_abs b 0
      rw [(vV_zero 0).2 rfl] at this
      omega
    rcases h with h | h
    · rw [h,e,Int.zero_mul]
    · rw [h,e,Int.mul_zero]
  rw [mul_v n n' m m' hm hm' K 0 hK (by rw [hz,Int.zero_mul]),if_pos rfl,show (0:Int).natAbs = 0 from rfl,rU_zero9]
  unfold finU
  rw [blen_zero,if_pos (by decide),rgU_zero]
theorem steppedG_ (d V:Int) (s o sz:Bool) (r ro K:Nat) (hK:53≤K) (hK2:K≤2096) (hv:V.natAbs < 2 ^ K) (hr1:r < 9218868437227405312) (hro:ro < 9218868437227405312) (hr:r = rgU 53 (rU 0 53 V.natAbs 1)) (hs:s = (if V = 0 then sz else decide (V < 0))) (ho1:Fq.plz o ro < 0 ↔ V - Iv s r < 0) (ho2:0 < Fq.plz o ro ↔ 0 < V - Iv s r) (w:World) :
    Calls Tryz.prog 65 #[.int .i64 d,.float .f64 (Fq.wD s r),.float .f64 (Fq.wD o ro)] w fun e w'=>e = .returned (.float .f64 (sumW d V))∧Kp w w':=by
  obtain ⟨S1,S2,S3⟩:=step_g d V s o sz r ro K hK hK2 hv hr hs ho1 ho2
  have hz:(0:Nat) = Fq.wD false 0:=rfl
  have hord:FloatKind.f64.format.order (Fq.wD o ro) 0 = some (compare (Fq.plz o ro) 0):=by
    rw [hz,Fq.ordD o false ro 0 (by omega) (by decide)];rfl
  obtain ⟨P,hP⟩:∃ P,P = Fq.plz o ro:=⟨_,rfl⟩
  rw [← hP] at S1 S2 S3 hord
  obtain ⟨O,hO⟩:∃ O,O = Fq.wD o ro:=⟨_,rfl⟩
  obtain ⟨Z,hZ⟩:∃ Z,Z = sumW d V:=⟨_,rfl⟩
  obtain ⟨N,hN⟩:∃ N,N = Fq.wD s r:=⟨_,rfl⟩
  rw [← hZ] at S1 S2 S3
  rw [← hO] at hord
  rw [← hO,← hZ,← hN]
  have hup:=fun h=>Fq.up_d s r (by omega) h w
  have hdn:=fun h=>Fq.dn_d s r (by omega) h w
  have hpl:=Fq.plain_d s r (by omega) w
  rw [← hN] at hup hdn hpl
  clear hO hN hZ hr hs ho1 ho2 hP hz hv hK hK2 hr1 hro
  by_cases c1:d = -1
  · by_cases c2:P < 0
    · obtain ⟨a1,a2⟩:=S1 c1 c2
      have hc:=hdn a1
      rw [a2] at hc
      have o1:(FloatKind.f64.format.order O 0 == some .lt) = true:=by rw [hord,Int.compare_eq_lt.2 c2];rfl
      subst c1
      clear S1 S2 S3 hup hdn hpl hord c2 a1 a2
      go_enter Tryz.func65,Tryz.ntmps65
      go_wp2_with fail
      refine hc.mono ?_;rintro e w1 ⟨rfl,hk⟩
      clear hc
      go_wp2
      exact bodyPost_ret (v:=.float .f64 Z) (by simp [results,Tryz.results65,go_sem]) rfl ⟨rfl,hk⟩
    · have hc:=hpl
      rw [S3 (fun h=>c2 h.2) (fun h=>by omega)] at hc
      have o1:(FloatKind.f64.format.order O 0 == some .lt) = false:=by
        rw [hord]
        rcases Int.lt_trichotomy P 0 with h | h | h
        · exact absurd h c2
        · rw [Int.compare_eq_eq.2 h];rfl
        · rw [Int.compare_eq_gt.2 h];rfl
      subst c1
      clear S1 S2 S3 hup hdn hpl hord c2
      go_enter Tryz.func65,Tryz.ntmps65
      go_wp2_with fail
      refine hc.mono ?_;rintro e w1 ⟨rfl,hw⟩
      obtain rfl:=hw.symm
      clear hc
      go_wp2
      exact bodyPost_ret (v:=.float .f64 Z) (by simp [results,Tryz.results65,go_sem]) rfl ⟨rfl,Kp.refl _⟩
  · have e1:(d == -1) = false:=by simp [c1]
    by_cases c3:d = 1
    · by_cases c2:0 < P
      · obtain ⟨a1,a2⟩:=S2 c3 c2
        have hc:=hup a1
        rw [a2] at hc
        have o1:(FloatKind.f64.format.order O 0 == some .gt) = true:=by rw [hord,Int.compare_eq_gt.2 c2];rfl
        subst c3
        clear S1 S2 S3 hup hdn hpl hord c2 a1 a2 c1
        go_enter Tryz.func65,Tryz.ntmps65
        go_wp2_with fail
        refine hc.mono ?_;rintro e w1 ⟨rfl,hk⟩
        clear hc
        go_wp2
        exact bodyPost_ret (v:=.float .f64 Z) (by simp [results,Tryz.results65,go_sem]) rfl ⟨rfl,hk⟩
      · have hc:=hpl
        rw [S3 (fun h=>c1 h.1) (fun h=>c2 h.2)] at hc
        have o1:(FloatKind.f64.format.order O 0 == some .gt) = false:=by
          rw [hord]
          rcases Int.lt_trichotomy P 0 with h | h | h
          · rw [Int.compare_eq_lt.2 h];rfl
          · rw [Int.compare_eq_eq.2 h];rfl
          · exact absurd h c2
        subst c3
        clear S1 S2 S3 hup hdn hpl hord c2 c1
        go_enter Tryz.func65,Tryz.ntmps65
        go_wp2_with fail
        refine hc.mono ?_;rintro e w1 ⟨rfl,hw⟩
        obtain rfl:=hw.symm
        clear hc
        go_wp2
        exact bodyPost_ret (v:=.float .f64 Z) (by simp [results,Tryz.results65,go_sem]) rfl ⟨rfl,Kp.refl _⟩
    · have e2:(d == 1) = false:=by simp [c3]
      have hc:=hpl
      rw [S3 (fun h=>c1 h.1) (fun h=>c3 h.1)] at hc
      clear S1 S2 S3 hup hdn hpl hord c1 c3
      go_enter Tryz.func65,Tryz.ntmps65
      go_wp2_with fail
      refine hc.mono ?_;rintro e w1 ⟨rfl,hw⟩
      obtain rfl:=hw.symm
      clear hc
      go_wp2
      exact bodyPost_ret (v:=.float .f64 Z) (by simp [results,Tryz.results65,go_sem]) rfl ⟨rfl,Kp.refl _⟩
set_option linter.unusedVariables false
set_option linter.unusedSimpArgs false

def BK (w:World) (b:Nat) (C:Array Value) (t:TypeId):Prop:=w.heap[b]? = some (.cells C t (0,0))
theorem BK.lt {w:World} {b:Nat} {C:Array Value} {t:TypeId} (h:BK w b C t):b < w.heap.size:=by
  rcases Nat.lt_or_ge b w.heap.size with c | c
  · exact c
  · unfold BK at h;rw [Array.getElem?_eq_none c] at h;cases h
theorem BK.cell {w:World} {b:Nat} {C:Array Value} {t:TypeId} (h:BK w b C t) (j:Nat):w.cell? ⟨b,j,none⟩ = C[j]?:=cell_of_row w b j C t (0,0) h
theorem BK.frozen {w:World} {b:Nat} {C:Array Value} {t:TypeId} (h:BK w b C t) (j:Nat):w.frozen? ⟨b,j,none⟩ = false:=by
  unfold BK at h
  simp [World.frozen?,h]
theorem BK.new (w:World) (C:Array Value) (t:TypeId):BK (w.alloc (.cells C t)) w.heap.size C t:=World.alloc_heap_new w _
theorem BK.newAt {w:World} {b:Nat} (hb:b = w.heap.size) (C:Array Value) (t:TypeId):BK (w.alloc (.cells C t)) b C t:=by rw [hb];exact BK.new w C t
theorem BK.kp {w w':World} {b:Nat} {C:Array Value} {t:TypeId} (h:BK w b C t) (k:Kp w w'):BK w' b C t:=(Below.block k b h.lt).trans h
theorem BK.put {w:World} {b:Nat} {C:Array Value} {t:TypeId} (h:BK w b C t) (j:Nat) (v:Value):BK (w.setCell ⟨b,j,none⟩ v) b (C.setIfInBounds j v) t:=by
  unfold BK at h ⊢
  simp [World.setCell,Array.getElem?_modify,h]
theorem BK.far {w:World} {b:Nat} {C:Array Value} {t:TypeId} (h:BK w b C t) (x:Addr) (v:Value) (hne:x.block≠b):BK (w.setCell x v) b C t:=by
  unfold BK at h ⊢
  simp [World.setCell,Array.getElem?_modify,hne,h]
theorem BK.c1 {w:World} {b:Nat} {x0:Value} {t:TypeId} (h:BK w b #[x0] t):w.cell? ⟨b,0,none⟩ = some x0∧w.frozen? ⟨b,0,none⟩ = false:=⟨(h.cell 0).trans rfl,h.frozen 0⟩
theorem BK.c2 {w:World} {b:Nat} {x0 x1:Value} {t:TypeId} (h:BK w b #[x0,x1] t):w.cell? ⟨b,0,none⟩ = some x0∧w.frozen? ⟨b,0,none⟩ = false∧w.cell? ⟨b,1,none⟩ = some x1∧w.frozen? ⟨b,1,none⟩ = false:=⟨(h.cell 0).trans rfl,h.frozen 0,(h.cell 1).trans rfl,h.frozen 1⟩
theorem BK.c3 {w:World} {b:Nat} {x0 x1 x2:Value} {t:TypeId} (h:BK w b #[x0,x1,x2] t):w.cell? ⟨b,0,none⟩ = some x0∧w.frozen? ⟨b,0,none⟩ = false∧w.cell? ⟨b,1,none⟩ = some x1∧w.frozen? ⟨b,1,none⟩ = false∧w.cell? ⟨b,2,none⟩ = some x2∧w.frozen? ⟨b,2,none⟩ = false:=⟨(h.cell 0).trans rfl,h.frozen 0,(h.cell 1).trans rfl,h.frozen 1,(h.cell 2).trans rfl,h.frozen 2⟩
theorem BK.c4 {w:World} {b:Nat} {x0 x1 x2 x3:Value} {t:TypeId} (h:BK w b #[x0,x1,x2,x3] t):w.cell? ⟨b,0,none⟩ = some x0∧w.frozen? ⟨b,0,none⟩ = false∧w.cell? ⟨b,1,none⟩ = some x1∧w.frozen? ⟨b,1,none⟩ = false∧w.cell? ⟨b,2,none⟩ = some x2∧w.frozen? ⟨b,2,none⟩ = false∧w.cell? ⟨b,3,none⟩ = some x3∧w.frozen? ⟨b,3,none⟩ = false:=⟨(h.cell 0).trans rfl,h.frozen 0,(h.cell 1).trans rfl,h.frozen 1,(h.cell 2).trans rfl,h.frozen 2,(h.cell 3).trans rfl,h.frozen 3⟩
theorem BK.c5 {w:World} {b:Nat} {x0 x1 x2 x3 x4:Value} {t:TypeId} (h:BK w b #[x0,x1,x2,x3,x4] t):w.cell? ⟨b,0,none⟩ = some x0∧w.frozen? ⟨b,0,none⟩ = false∧w.cell? ⟨b,1,none⟩ = some x1∧w.frozen? ⟨b,1,none⟩ = false∧w.cell? ⟨b,2,none⟩ = some x2∧w.frozen? ⟨b,2,none⟩ = false∧w.cell? ⟨b,3,none⟩ = some x3∧w.frozen? ⟨b,3,none⟩ = false∧w.cell? ⟨b,4,none⟩ = some x4∧w.frozen? ⟨b,4,none⟩ = false:=⟨(h.cell 0).trans rfl,h.frozen 0,(h.cell 1).trans rfl,h.frozen 1,(h.cell 2).trans rfl,h.frozen 2,(h.cell 3).trans rfl,h.frozen 3,(h.cell 4).trans rfl,h.frozen 4⟩
theorem BK.c6 {w:World} {b:Nat} {x0 x1 x2 x3 x4 x5:Value} {t:TypeId} (h:BK w b #[x0,x1,x2,x3,x4,x5] t):w.cell? ⟨b,0,none⟩ = some x0∧w.frozen? ⟨b,0,none⟩ = false∧w.cell? ⟨b,1,none⟩ = some x1∧w.frozen? ⟨b,1,none⟩ = false∧w.cell? ⟨b,2,none⟩ = some x2∧w.frozen? ⟨b,2,none⟩ = false∧w.cell? ⟨b,3,none⟩ = some x3∧w.frozen? ⟨b,3,none⟩ = false∧w.cell? ⟨b,4,none⟩ = some x4∧w.frozen? ⟨b,4,none⟩ = false∧w.cell? ⟨b,5,none⟩ = some x5∧w.frozen? ⟨b,5,none⟩ = false:=⟨(h.cell 0).trans rfl,h.frozen 0,(h.cell 1).trans rfl,h.frozen 1,(h.cell 2).trans rfl,h.frozen 2,(h.cell 3).trans rfl,h.frozen 3,(h.cell 4).trans rfl,h.frozen 4,(h.cell 5).trans rfl,h.frozen 5⟩
set_option linter.unusedVariables false
set_option linter.unusedSimpArgs false
theorem Own.bkNe {w:World} {base:Nat} {p:Option Addr} {l c:Nat} {xs:List Int} (h:Own w base (.slice p l c) xs) {b:Nat} {C:Array Value} {t:TypeId} (hb:BK w b C t) (ht:t≠72):∀ a,p = some a→a.block≠b:=by
  intro a ha e
  rcases h.2 with ⟨h1,-⟩ | ⟨g,cap,cur,h1,h2,h3,-⟩
  · simp at h1;rw [h1.1] at ha;cases ha
  · simp at h1
    rw [h1.1] at ha
    obtain rfl:=Option.some.inj ha
    simp at e
    subst e
    unfold BK at hb
    rw [h3] at hb
    simp at hb
    first | exact ht hb.2.1.symm | exact ht hb.2.symm
theorem Own.setB {w:World} {base:Nat} {p:Option Addr} {l c:Nat} {xs:List Int} (h:Own w base (.slice p l c) xs) {b:Nat} {C:Array Value} {t:TypeId} (hb:BK w b C t) (ht:t≠72) (i:Nat) (u:Value):Own (w.setCell ⟨b,i,none⟩ u) base (.slice p l c) xs:=by
  have hn:=h.bkNe hb ht
  refine ⟨h.1, ?_⟩
  rcases h.2 with ⟨h1,h2⟩ | ⟨g,cap,cur,h1,h2,h3,h4⟩
  · exact Or.inl ⟨h1,h2⟩
  · refine Or.inr ⟨g,cap,cur,h1,h2, ?_,h4⟩
    have hg:g≠b:=by
      simp at h1
      exact hn ⟨g,0,none⟩ h1.1
    rw [heap_setCell_other w ⟨b,i,none⟩ g u hg]
    exact h3

theorem XP.setB {base:Nat} {w:World} {s:Bool} {p:Option Addr} {l c:Nat} {q:Option Addr} {k d:Nat} {V:Int} {C N:Nat} (h:XP base w s p l c q k d V C N) {b:Nat} {D:Array Value} {t:TypeId} (hb:BK w b D t) (ht:t≠72) (i:Nat) (u:Value):XP base (w.setCell ⟨b,i,none⟩ u) s p l c q k d V C N:=by
  obtain ⟨x,y,h1,h2,h3⟩:=h
  exact ⟨x,y,h1.setB hb ht i u,h2.setB hb ht i u,h3⟩
theorem ratioN_ s p l c q k d (w:World) (hln:∀ W:World,Kp w W→Calls Tryz.prog 26 #[.slice q k d] W fun e w'=>e = .returned (.int .i64 0)∧w' = W) (hit:∀ W:World,Calls Tryz.prog 23 #[.int .i64 0] W fun e w'=>∃ s5 p5 l5 c5 q5 k5 d5,e = .returned (.agg #[.bool s5,.slice p5 l5 c5,.slice q5 k5 d5])∧Kp W w'):Calls Tryz.prog 6 #[.agg #[.bool s,.slice p l c,.slice q k d]] w fun e w'=>∃ s5 p5 l5 c5 q5 k5 d5,e = .returned (.tuple #[.agg #[.bool s5,.slice p5 l5 c5,.slice q5 k5 d5],.bool false])∧Kp w w':=by
  go_enter Tryz.func6,Tryz.ntmps6
  go_upto_region 1 with fail
  have kw:Kp w ((w.alloc (.cells #[.bool s,.slice p l c,.slice q k d] 27)).alloc (.cells #[.bool false,.slice none 0 0,.slice none 0 0] 27)):=((Kp.refl w).alloc _).alloc _
  have hA:BK ((w.alloc (.cells #[.bool s,.slice p l c,.slice q k d] 27)).alloc (.cells #[.bool false,.slice none 0 0,.slice none 0 0] 27)) w.heap.size #[.bool s,.slice p l c,.slice q k d] 27:=(BK.new w _ _).kp ((Kp.refl _).alloc _)
  have hB:BK ((w.alloc (.cells #[.bool s,.slice p l c,.slice q k d] 27)).alloc (.cells #[.bool false,.slice none 0 0,.slice none 0 0] 27)) (w.heap.size + 1) #[.bool false,.slice none 0 0,.slice none 0 0] 27:=BK.newAt (by simp) _ _
  generalize ((w.alloc (.cells #[.bool s,.slice p l c,.slice q k d] 27)).alloc (.cells #[.bool false,.slice none 0 0,.slice none 0 0] 27)) = W at kw hA hB ⊢
  obtain ⟨x0,xz0,x1,xz1,x2,xz2⟩:=(show BK W (w.heap.size) #[.bool s,.slice p l c,.slice q k d] _ from hA).c3;obtain ⟨y0,yz0,y1,yz1,y2,yz2⟩:=(show BK W (w.heap.size + 1) #[.bool false,.slice none 0 0,.slice none 0 0] _ from hB).c3;skip
  have t0:True:=trivial
  go_wp2_with (first | (have z9:=t0;clear z9;go_at_call 23;refine (hit _).mono ?_;rintro e w2 ⟨s5,p5,l5,c5,q5,k5,d5,rfl,g2⟩;have hR:=hB.kp g2;obtain ⟨r0,rz0,r1,rz1,r2,rz2⟩:=(show BK w2 (w.heap.size + 1) #[.bool false,.slice none 0 0,.slice none 0 0] _ from hR).c3;skip) | (go_at_call 26;refine (hln _ kw).mono ?_;rintro e w1 ⟨rfl,hw1⟩;obtain rfl:=hw1.symm;clear hw1))
  exact bodyPost_ret (v:=.tuple #[.agg #[.bool s5,.slice p5 l5 c5,.slice q5 k5 d5],.bool false]) (by simp [results,Tryz.results6,go_sem,r0,r1,r2]) rfl ⟨s5,p5,l5,c5,q5,k5,d5,rfl,((((Kp.trans kw g2)).setCell (by simp) _).setCell (by simp) _).setCell (by simp) _⟩
theorem ratioY_ s p l c q k d (n9:Int) (N9:Nat) (V5:Int) (C5:Nat) (tn:(n9 == 0) = false) (w:World) (hln:∀ W:World,Kp w W→Calls Tryz.prog 26 #[.slice q k d] W fun e w'=>e = .returned (.int .i64 n9)∧w' = W) (hfr:∀ W:World,Kp w W→Calls Tryz.prog 27 #[.bool s,.slice p l c,.slice q k d,.int .i64 0] W fun e w'=>∃ s5 p5 l5 c5 q5 k5 d5,e = .returned (.agg #[.bool s5,.slice p5 l5 c5,.slice q5 k5 d5])∧XP 0 w' s5 p5 l5 c5 q5 k5 d5 V5 C5 N9∧Kp W w'):Calls Tryz.prog 6 #[.agg #[.bool s,.slice p l c,.slice q k d]] w fun e w'=>∃ s5 p5 l5 c5 q5 k5 d5,e = .returned (.tuple #[.agg #[.bool s5,.slice p5 l5 c5,.slice q5 k5 d5],.bool true])∧XP 0 w' s5 p5 l5 c5 q5 k5 d5 V5 C5 N9∧Kp w w':=by
  go_enter Tryz.func6,Tryz.ntmps6
  go_upto_region 1 with fail
  have kw:Kp w ((w.alloc (.cells #[.bool s,.slice p l c,.slice q k d] 27)).alloc (.cells #[.bool false,.slice none 0 0,.slice none 0 0] 27)):=((Kp.refl w).alloc _).alloc _
  have hA:BK ((w.alloc (.cells #[.bool s,.slice p l c,.slice q k d] 27)).alloc (.cells #[.bool false,.slice none 0 0,.slice none 0 0] 27)) w.heap.size #[.bool s,.slice p l c,.slice q k d] 27:=(BK.new w _ _).kp ((Kp.refl _).alloc _)
  have hB:BK ((w.alloc (.cells #[.bool s,.slice p l c,.slice q k d] 27)).alloc (.cells #[.bool false,.slice none 0 0,.slice none 0 0] 27)) (w.heap.size + 1) #[.bool false,.slice none 0 0,.slice none 0 0] 27:=BK.newAt (by simp) _ _
  generalize ((w.alloc (.cells #[.bool s,.slice p l c,.slice q k d] 27)).alloc (.cells #[.bool false,.slice none 0 0,.slice none 0 0] 27)) = W at kw hA hB ⊢
  obtain ⟨x0,xz0,x1,xz1,x2,xz2⟩:=(show BK W (w.heap.size) #[.bool s,.slice p l c,.slice q k d] _ from hA).c3;obtain ⟨y0,yz0,y1,yz1,y2,yz2⟩:=(show BK W (w.heap.size + 1) #[.bool false,.slice none 0 0,.slice none 0 0] _ from hB).c3;skip
  have t0:True:=trivial
  go_wp2_with (first | (have z9:=t0;clear z9;go_at_call 27;refine (hfr _ kw).mono ?_;rintro e w2 ⟨s5,p5,l5,c5,q5,k5,d5,rfl,hp,g2⟩;have hR:=hB.kp g2;obtain ⟨r0,rz0,r1,rz1,r2,rz2⟩:=(show BK w2 (w.heap.size + 1) #[.bool false,.slice none 0 0,.slice none 0 0] _ from hR).c3;skip) | (go_at_call 26;refine (hln _ kw).mono ?_;rintro e w1 ⟨rfl,hw1⟩;obtain rfl:=hw1.symm;clear hw1))
  exact bodyPost_ret (v:=.tuple #[.agg #[.bool s5,.slice p5 l5 c5,.slice q5 k5 d5],.bool true]) (by simp [results,Tryz.results6,go_sem,r0,r1,r2]) rfl ⟨s5,p5,l5,c5,q5,k5,d5,rfl,(((hp.setB hR (by decide) 0 _).setB (hR.put 0 _) (by decide) 1 _).setB ((hR.put 0 _).put 1 _) (by decide) 2 _),((((Kp.trans kw g2)).setCell (by simp) _).setCell (by simp) _).setCell (by simp) _⟩
end Go.Proofs.YtnileplkkmhdgaaGreatDoor
