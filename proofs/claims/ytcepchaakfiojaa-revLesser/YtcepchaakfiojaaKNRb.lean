import Derived.Test.YtcepchaakfiojaaKMVa
import Derived.Laws.Rows
import Derived.RangeFuncRecord
set_option maxHeartbeats 4000000
set_option maxRecDepth 20000
namespace Go.Proofs.Ytcepchaakfiojaa
open Go.RowKit

def H48 (w:World) (B:Nat) (a b c d:Value):Prop:=Fq.H2 w B a b∧Fq.H2 w (B + 1) c d
theorem H48.keep {W w:World} {B:Nat} {a b c d:Value} (h:H48 W B a b c d) (g:Kp W w):H48 w B a b c d:=⟨Fq.H2.keep h.1 g,Fq.H2.keep h.2 g⟩
theorem H48.new (w:World) (a b c d:Value) (s t:TypeId):H48 ((w.alloc (.cells #[a,b] s)).alloc (.cells #[c,d] t)) w.heap.size a b c d:=by
  refine ⟨?_, ?_⟩ <;> (unfold Fq.H2;simp [go_sem])
theorem H48.put {w:World} {B:Nat} {a b c d:Value} (h:H48 w B a b c d) (a' b' c' d':Value):H48 ((((w.setCell ⟨B,0,none⟩ a').setCell ⟨B,1,none⟩ b').setCell ⟨B + 1,0,none⟩ c').setCell ⟨B + 1,1,none⟩ d') B a' b' c' d':=by
  refine ⟨?_, ?_⟩
  · exact Fq.H2.far (Fq.H2.put h.1 a' b') (by omega) c' d'
  · exact Fq.H2.put (Fq.H2.far h.2 (by omega) a' b') c' d'

def H6 (w:World) (B:Nat) (a b c d e f:Value):Prop:=Fq.H2 w B a b∧Fq.H2 w (B + 1) c d∧Fq.H2 w (B + 2) e f
theorem H6.keep {W w:World} {B:Nat} {a b c d e f:Value} (h:H6 W B a b c d e f) (g:Kp W w):H6 w B a b c d e f:=⟨Fq.H2.keep h.1 g,Fq.H2.keep h.2.1 g,Fq.H2.keep h.2.2 g⟩
theorem H6.new (w:World) (a b c d e f:Value) (s t u:TypeId):H6 (((w.alloc (.cells #[a,b] s)).alloc (.cells #[c,d] t)).alloc (.cells #[e,f] u)) w.heap.size a b c d e f:=by
  refine ⟨?_, ?_, ?_⟩ <;> (unfold Fq.H2;simp [go_sem])
theorem H6.put {w:World} {B:Nat} {a b c d e f:Value} (h:H6 w B a b c d e f) (a' b' c' d':Value):H6 ((((w.setCell ⟨B,0,none⟩ a').setCell ⟨B,1,none⟩ b').setCell ⟨B + 1,0,none⟩ c').setCell ⟨B + 1,1,none⟩ d') B a' b' c' d' e f:=by
  refine ⟨?_, ?_, ?_⟩
  · exact Fq.H2.far (Fq.H2.put h.1 a' b') (by omega) c' d'
  · exact Fq.H2.put (Fq.H2.far h.2.1 (by omega) a' b') c' d'
  · exact Fq.H2.far (Fq.H2.far h.2.2 (by omega) a' b') (by omega) c' d'
theorem meetA_ (a b c d L1 H1 L2 H2 NL NH:Nat) (hx:∀ w:World,Calls Try.prog 12 #[.agg #[.float .f64 a,.float .f64 b]] w fun e w'=>e = .returned (.agg #[.float .f64 L1,.float .f64 H1])∧Kp w w') (hy:∀ w:World,Calls Try.prog 12 #[.agg #[.float .f64 c,.float .f64 d]] w fun e w'=>e = .returned (.agg #[.float .f64 L2,.float .f64 H2])∧Kp w w') (ZL ZH:Nat) (hm1:∀ (ts:Array TypeId) (t:TypeId) (w:World),(Builtin.max_ ts t #[.float .f64 L1,.float .f64 L2]).run Try.prog w = .ok (.float .f64 NL) w) (hm2:∀ (ts:Array TypeId) (t:TypeId) (w:World),(Builtin.min_ ts t #[.float .f64 H1,.float .f64 H2]).run Try.prog w = .ok (.float .f64 NH) w) (hz:∀ w:World,Calls Try.prog 12 #[.agg #[.float .f64 NL,.float .f64 NH]] w fun e w'=>e = .returned (.agg #[.float .f64 ZL,.float .f64 ZH])∧Kp w w') (w:World):Calls Try.prog 15 #[.agg #[.float .f64 a,.float .f64 b],.agg #[.float .f64 c,.float .f64 d]] w fun e w'=>e = .returned (.agg #[.float .f64 ZL,.float .f64 ZH])∧Kp w w':=by
    go_enter Try.func15,Try.ntmps15
    go_upto_region 1 with fail
    go_cut [] (fun wx=>H6 wx w.heap.size (.float .f64 L1) (.float .f64 H1) (.float .f64 L2) (.float .f64 H2) (.float .f64 0) (.float .f64 0)∧Kp w wx)
    case first =>
      go_region_with (first | (go_at_call_of 12 (Value.agg #[.float .f64 a,.float .f64 b]);refine (hx _).mono ?_;rintro e wx ⟨rfl,gx⟩;first | (have kx:=Kp.trans ky gx;have sx:=H6.keep sy gx;obtain ⟨⟨p0,p1,p2,p3⟩,⟨p4,p5,p6,p7⟩,⟨p8,p9,pa,pb⟩⟩:=id sx) | (have kx:Kp w wx:=Kp.trans ((((Kp.refl w).alloc _).alloc _).alloc _).drew gx;have sx:=H6.keep (H6.new w (.float .f64 a) (.float .f64 b) (.float .f64 c) (.float .f64 d) (.float .f64 0) (.float .f64 0) 29 29 29) (Kp.trans (Kp.drew (Kp.refl _)) gx);obtain ⟨⟨p0,p1,p2,p3⟩,⟨p4,p5,p6,p7⟩,⟨p8,p9,pa,pb⟩⟩:=id sx)) | (go_at_call_of 12 (Value.agg #[.float .f64 c,.float .f64 d]);refine (hy _).mono ?_;rintro e wy ⟨rfl,gy⟩;first | (have ky:=Kp.trans kx gy;have sy:=H6.keep sx gy;obtain ⟨⟨p0,p1,p2,p3⟩,⟨p4,p5,p6,p7⟩,⟨p8,p9,pa,pb⟩⟩:=id sy) | (have ky:Kp w wy:=Kp.trans ((((Kp.refl w).alloc _).alloc _).alloc _).drew gy;have sy:=H6.keep (H6.new w (.float .f64 a) (.float .f64 b) (.float .f64 c) (.float .f64 d) (.float .f64 0) (.float .f64 0) 29 29 29) (Kp.trans (Kp.drew (Kp.refl _)) gy);obtain ⟨⟨p0,p1,p2,p3⟩,⟨p4,p5,p6,p7⟩,⟨p8,p9,pa,pb⟩⟩:=id sy)))
      all_goals (
        go_wp2_with fail
        go_meet
        first | (exact ⟨H6.put (id sy:H6 wy w.heap.size (.float .f64 a) (.float .f64 b) (.float .f64 c) (.float .f64 d) (.float .f64 0) (.float .f64 0)) (.float .f64 L1) (.float .f64 H1) (.float .f64 L2) (.float .f64 H2),(((ky.setCell (Nat.le_refl _) _).setCell (Nat.le_refl _) _).setCell (Nat.le_succ _) _).setCell (Nat.le_succ _) _⟩) | (exact ⟨H6.put (id sx:H6 wx w.heap.size (.float .f64 a) (.float .f64 b) (.float .f64 c) (.float .f64 d) (.float .f64 0) (.float .f64 0)) (.float .f64 L1) (.float .f64 H1) (.float .f64 L2) (.float .f64 H2),(((kx.setCell (Nat.le_refl _) _).setCell (Nat.le_refl _) _).setCell (Nat.le_succ _) _).setCell (Nat.le_succ _) _⟩))
    case rest =>
    obtain ⟨sw,kw⟩:=hcut
    obtain ⟨⟨p0,p1,p2,p3⟩,⟨p4,p5,p6,p7⟩,⟨p8,p9,pa,pb⟩⟩:=id sw
    go_wp2_with (first | (go_at_call_of 12 (Value.agg #[.float .f64 NL,.float .f64 NH]);refine (hz _).mono ?_;rintro e wv ⟨rfl,gv⟩;have kv:=Kp.trans kw gv;have sv:=H6.keep sw gv;obtain ⟨⟨u0,u1,u2,u3⟩,⟨u4,u5,u6,u7⟩,⟨u8,u9,ua,ub⟩⟩:=id sv))
    exact bodyPost_ret (v:=.agg #[.float .f64 ZL,.float .f64 ZH]) (by simp [results,Try.results15,go_sem,u8,u9]) rfl ⟨rfl,(kv.setCell (by simp <;> omega) _).setCell (by simp <;> omega) _⟩
theorem meet9_ (a b c d:Nat) (L1 H1 L2 H2:Int) (hx:Rd a b L1 H1) (hy:Rd c d L2 H2) (w:World):Calls Try.prog 15 #[.agg #[.float .f64 a,.float .f64 b],.agg #[.float .f64 c,.float .f64 d]] w fun e w'=>e = .returned (.agg #[.float .f64 (pw (iL L1 H1 L2 H2)),.float .f64 (pw (iH L1 H1 L2 H2))])∧Kp w w':=by
  have e:=read_meet L1 H1 L2 H2 hx.vd hy.vd
  have hz:∀ w:World,Calls Try.prog 12 #[.agg #[.float .f64 (pw (max L1 L2)),.float .f64 (pw (min H1 H2))]] w fun e w'=>e = .returned (.agg #[.float .f64 (pw (iL L1 H1 L2 H2)),.float .f64 (pw (iH L1 H1 L2 H2))])∧Kp w w':=by
    intro w
    have g:=Fq.read_ (pw (max L1 L2)) (pw (min H1 H2)) (pw_lt _ (bd_max _ _ hx.vd.lo hy.vd.lo)) (pw_lt _ (bd_min _ _ hx.vd.hi hy.vd.hi)) w
    rw [e.1,e.2] at g
    exact g
  exact meetA_ a b c d _ _ _ _ _ _ hx.call hy.call _ _ (max9_ L1 L2 hx.vd.lo hy.vd.lo) (min9_ H1 H2 hx.vd.hi hy.vd.hi) hz w
theorem isempA_ (a b ZL ZH:Nat) (V:Bool) (hx:∀ w:World,Calls Try.prog 12 #[.agg #[.float .f64 a,.float .f64 b]] w fun e w'=>e = .returned (.agg #[.float .f64 ZL,.float .f64 ZH])∧Kp w w') (hv:∀ w:World,Calls Try.prog 27 #[.agg #[.float .f64 ZL,.float .f64 ZH]] w fun e w'=>e = .returned (.bool V)∧Kp w w') (w:World):Calls Try.prog 13 #[.agg #[.float .f64 a,.float .f64 b]] w fun e w'=>e = .returned (.bool V)∧Kp w w':=by
  go_enter Try.func13,Try.ntmps13
  go_wp2_with (first | (go_at_call 12;refine (hx _).mono ?_;rintro e w1 ⟨rfl,g1⟩;have k1:Kp w w1:=Kp.trans ((Kp.refl w).alloc _) g1) | (go_at_call 27;refine (hv _).mono ?_;rintro e w2 ⟨rfl,g2⟩;have k2:Kp w w2:=Kp.trans k1 g2))
  exact bodyPost_ret (v:=.bool V) (by simp [results,Try.results13,go_sem]) rfl ⟨rfl,k2⟩
theorem isemp9_ (a b:Nat) (L H:Int) (hx:Rd a b L H) (w:World):Calls Try.prog 13 #[.agg #[.float .f64 a,.float .f64 b]] w fun e w'=>e = .returned (.bool (decide (L = 9218868437227405312)))∧Kp w w' :=
  isempA_ a b _ _ _ hx.call (void9_ L H hx.vd) w
set_option linter.unusedVariables false
set_option linter.unusedSimpArgs false

def BK (w:World) (b:Nat) (C:Array Value) (t:TypeId):Prop:=w.heap[b]? = some (.cells C t (0,0))
theorem BK.lt {w:World} {b:Nat} {C:Array Value} {t:TypeId} (h:BK w b C t):b < w.heap.size:=by
  rcases Nat.lt_or_ge b w.heap.size with c | c
  · exact c
  · unfold BK at h;rw [Array.getElem?_eq_none c] at h;cases h
theorem BK.cell {w:World} {b:Nat} {C:Array Value} {t:TypeId} (h:BK w b C t) (j:Nat):w.cell? ⟨b,j,none⟩ = C[j]?:=cell_of_row w b j C t (0,0) h
theorem BK.frozen {w:World} {b:Nat} {C:Array Value} {t:TypeId} (h:BK w b C t) (j:Nat):w.frozen? ⟨b,j,none⟩ = false:=by
  unfold BK at h
  simp [World.frozen?,h]
theorem BK.new (w:World) (C:Array Value) (t:TypeId):BK (w.alloc (.cells C t)) w.heap.size C t:=World.alloc_heap_new w _
theorem BK.newAt {w:World} {b:Nat} (hb:b = w.heap.size) (C:Array Value) (t:TypeId):BK (w.alloc (.cells C t)) b C t:=by rw [hb];exact BK.new w C t
theorem BK.kp {w w':World} {b:Nat} {C:Array Value} {t:TypeId} (h:BK w b C t) (k:Kp w w'):BK w' b C t:=(Below.block k b h.lt).trans h
theorem BK.put {w:World} {b:Nat} {C:Array Value} {t:TypeId} (h:BK w b C t) (j:Nat) (v:Value):BK (w.setCell ⟨b,j,none⟩ v) b (C.setIfInBounds j v) t:=by
  unfold BK at h ⊢
  simp [World.setCell,Array.getElem?_modify,h]
theorem BK.far {w:World} {b:Nat} {C:Array Value} {t:TypeId} (h:BK w b C t) (x:Addr) (v:Value) (hne:x.block≠b):BK (w.setCell x v) b C t:=by
  unfold BK at h ⊢
  simp [World.setCell,Array.getElem?_modify,hne,h]

theorem Own.bkNe {w:World} {base:Nat} {p:Option Addr} {l c:Nat} {xs:List Int} (h:Own w base (.slice p l c) xs) {b:Nat} {C:Array Value} {t:TypeId} (hb:BK w b C t) (ht:t≠81):∀ a,p = some a→a.block≠b:=by
  intro a ha e
  rcases h.2 with ⟨h1,-⟩ | ⟨g,cap,cur,h1,h2,h3,-⟩
  · simp at h1;rw [h1.1] at ha;cases ha
  · simp at h1
    rw [h1.1] at ha
    obtain rfl:=Option.some.inj ha
    simp at e
    subst e
    unfold BK at hb
    rw [h3] at hb
    simp at hb
    first | exact ht hb.2.1.symm | exact ht hb.2.symm
theorem Own.setB {w:World} {base:Nat} {p:Option Addr} {l c:Nat} {xs:List Int} (h:Own w base (.slice p l c) xs) {b:Nat} {C:Array Value} {t:TypeId} (hb:BK w b C t) (ht:t≠81) (i:Nat) (u:Value):Own (w.setCell ⟨b,i,none⟩ u) base (.slice p l c) xs:=by
  have hn:=h.bkNe hb ht
  refine ⟨h.1, ?_⟩
  rcases h.2 with ⟨h1,h2⟩ | ⟨g,cap,cur,h1,h2,h3,h4⟩
  · exact Or.inl ⟨h1,h2⟩
  · refine Or.inr ⟨g,cap,cur,h1,h2, ?_,h4⟩
    have hg:g≠b:=by
      simp at h1
      exact hn ⟨g,0,none⟩ h1.1
    rw [heap_setCell_other w ⟨b,i,none⟩ g u hg]
    exact h3
theorem RP.setB {base:Nat} {w:World} {s:Bool} {p:Option Addr} {l c:Nat} {q:Option Addr} {k d:Nat} {n:Bool} {m:Nat} (h:RP base w s p l c q k d n m) {b:Nat} {C:Array Value} {t:TypeId} (hb:BK w b C t) (ht:t≠81) (i:Nat) (u:Value):RP base (w.setCell ⟨b,i,none⟩ u) s p l c q k d n m:=by
  obtain ⟨x,y,h1,h2,h3⟩:=h
  exact ⟨x,y,h1.setB hb ht i u,h2.setB hb ht i u,h3⟩
theorem VP.setB {base:Nat} {w:World} {s:Bool} {p:Option Addr} {l c:Nat} {q:Option Addr} {k d:Nat} {V:Int} (h:VP base w s p l c q k d V) {b:Nat} {C:Array Value} {t:TypeId} (hb:BK w b C t) (ht:t≠81) (i:Nat) (u:Value):VP base (w.setCell ⟨b,i,none⟩ u) s p l c q k d V:=by
  obtain ⟨x,y,h1,h2,h3⟩:=h
  exact ⟨x,y,h1.setB hb ht i u,h2.setB hb ht i u,h3⟩
set_option linter.unusedVariables false
set_option linter.unusedSimpArgs false

theorem iv0_:Iv false 0 = 0:=by decide +kernel
def PCv (ia Va:Int) (oa:Bool) (ib Vb:Int) (ob:Bool) (W:World) (v:Value):Prop:=∃ (s:Bool) (p:Option Addr) (l c:Nat) (q:Option Addr) (k d:Nat) (s2:Bool) (p2:Option Addr) (l2 c2:Nat) (q2:Option Addr) (k2 d2:Nat),v = .agg #[.bool false,.int .i64 ia,.bool s,.slice p l c,.slice q k d,.int .i64 1,.bool oa,.int .i64 ib,.bool s2,.slice p2 l2 c2,.slice q2 k2 d2,.int .i64 1,.bool ob]∧VP 0 W s p l c q k d Va∧VP 0 W s2 p2 l2 c2 q2 k2 d2 Vb
theorem PCv.kp {ia Va ib Vb:Int} {oa ob:Bool} {W W':World} {v:Value} (h:PCv ia Va oa ib Vb ob W v) (g:Kp W W'):PCv ia Va oa ib Vb ob W' v:=by
  obtain ⟨s,p,l,c,q,k,d,s2,p2,l2,c2,q2,k2,d2,e,h1,h2⟩:=h
  exact ⟨s,p,l,c,q,k,d,s2,p2,l2,c2,q2,k2,d2,e,h1.kp g,h2.kp g⟩
def cB (X inf V:Int):Int:=if inf = 0 then (if X = 9218868437227405312 then 1 else if X = -9218868437227405312 then -1 else cmI (Iv (decide (X < 0)) X.natAbs) V) else cmI X (inf * 9218868437227405312)
theorem far9_ (i:Int) (w:World):Calls Try.prog 22 #[.int .i64 i] w fun e w'=>∃ s p l c q k d,e = .returned (.agg #[.int .i64 i,.bool s,.slice p l c,.slice q k d,.int .i64 1,.bool true])∧VP 0 w' s p l c q k d 0∧Kp w w':=by
  go_enter Try.func22,Try.ntmps22
  go_wp2_with (first | (go_at_call 33;refine (int0_ _).mono ?_;rintro e w1 ⟨s,p,l,c,q,k,d,rfl,hp,g1⟩;have hB:=(BK.new w #[.int .i64 0,.bool false,.slice none 0 0,.slice none 0 0,.int .i64 0,.bool false] 54).kp g1;have r0:w1.cell? ⟨w.heap.size,0,none⟩ = some (.int .i64 0):=(hB.cell 0).trans rfl;have rz0:=hB.frozen 0;have r1:w1.cell? ⟨w.heap.size,1,none⟩ = some (.bool false):=(hB.cell 1).trans rfl;have rz1:=hB.frozen 1;have r2:w1.cell? ⟨w.heap.size,2,none⟩ = some (.slice none 0 0):=(hB.cell 2).trans rfl;have rz2:=hB.frozen 2;have r3:w1.cell? ⟨w.heap.size,3,none⟩ = some (.slice none 0 0):=(hB.cell 3).trans rfl;have rz3:=hB.frozen 3;have r4:w1.cell? ⟨w.heap.size,4,none⟩ = some (.int .i64 0):=(hB.cell 4).trans rfl;have rz4:=hB.frozen 4;have r5:w1.cell? ⟨w.heap.size,5,none⟩ = some (.bool false):=(hB.cell 5).trans rfl;have rz5:=hB.frozen 5;skip))
  have hv:VP 0 w1 s p l c q k d 0:=iv0_ ▸ (hp.vp).mono (Nat.zero_le _)
  exact bodyPost_ret (v:=.agg #[.int .i64 i,.bool s,.slice p l c,.slice q k d,.int .i64 1,.bool true]) (by simp [results,Try.results22,go_sem,r0,r1,r2,r3,r4,r5]) rfl ⟨s,p,l,c,q,k,d,rfl,((((((hv.setB hB (by decide) 0 _).setB (hB.put 0 _) (by decide) 1 _).setB ((hB.put 0 _).put 1 _) (by decide) 2 _).setB (((hB.put 0 _).put 1 _).put 2 _) (by decide) 3 _).setB ((((hB.put 0 _).put 1 _).put 2 _).put 3 _) (by decide) 4 _).setB (((((hB.put 0 _).put 1 _).put 2 _).put 3 _).put 4 _) (by decide) 5 _),(((((((Kp.trans ((Kp.refl w).alloc _) g1)).setCell (Nat.le_refl _) _).setCell (Nat.le_refl _) _).setCell (Nat.le_refl _) _).setCell (Nat.le_refl _) _).setCell (Nat.le_refl _) _).setCell (Nat.le_refl _) _⟩
theorem bndI_ (i:Int) s p l c q k d (t1:(i != 0) = true) (w:World):Calls Try.prog 21 #[.agg #[.int .i64 i,.bool s,.slice p l c,.slice q k d]] w fun e w'=>∃ s2 p2 l2 c2 q2 k2 d2,e = .returned (.agg #[.int .i64 i,.bool s2,.slice p2 l2 c2,.slice q2 k2 d2,.int .i64 1,.bool true])∧VP 0 w' s2 p2 l2 c2 q2 k2 d2 0∧Kp w w':=by
  go_enter Try.func21,Try.ntmps21
  go_wp2_with (first | (go_at_call 22;refine (far9_ i _).mono ?_;rintro e w1 ⟨s2,p2,l2,c2,q2,k2,d2,rfl,hp,g1⟩;have hB:=(BK.newAt (w:=(w.alloc (.cells #[.int .i64 i,.bool s,.slice p l c,.slice q k d] 46))) (b:=w.heap.size + 1) (by simp) #[.int .i64 0,.bool false,.slice none 0 0,.slice none 0 0,.int .i64 0,.bool false] 54).kp g1;have r0:w1.cell? ⟨w.heap.size + 1,0,none⟩ = some (.int .i64 0):=(hB.cell 0).trans rfl;have rz0:=hB.frozen 0;have r1:w1.cell? ⟨w.heap.size + 1,1,none⟩ = some (.bool false):=(hB.cell 1).trans rfl;have rz1:=hB.frozen 1;have r2:w1.cell? ⟨w.heap.size + 1,2,none⟩ = some (.slice none 0 0):=(hB.cell 2).trans rfl;have rz2:=hB.frozen 2;have r3:w1.cell? ⟨w.heap.size + 1,3,none⟩ = some (.slice none 0 0):=(hB.cell 3).trans rfl;have rz3:=hB.frozen 3;have r4:w1.cell? ⟨w.heap.size + 1,4,none⟩ = some (.int .i64 0):=(hB.cell 4).trans rfl;have rz4:=hB.frozen 4;have r5:w1.cell? ⟨w.heap.size + 1,5,none⟩ = some (.bool false):=(hB.cell 5).trans rfl;have rz5:=hB.frozen 5;skip))
  exact bodyPost_ret (v:=.agg #[.int .i64 i,.bool s2,.slice p2 l2 c2,.slice q2 k2 d2,.int .i64 1,.bool true]) (by simp [results,Try.results21,go_sem,r0,r1,r2,r3,r4,r5]) rfl ⟨s2,p2,l2,c2,q2,k2,d2,rfl,((((((hp.setB hB (by decide) 0 _).setB (hB.put 0 _) (by decide) 1 _).setB ((hB.put 0 _).put 1 _) (by decide) 2 _).setB (((hB.put 0 _).put 1 _).put 2 _) (by decide) 3 _).setB ((((hB.put 0 _).put 1 _).put 2 _).put 3 _) (by decide) 4 _).setB (((((hB.put 0 _).put 1 _).put 2 _).put 3 _).put 4 _) (by decide) 5 _),(((((((Kp.trans (((Kp.refl w).alloc _).alloc _) g1)).setCell (by simp) _).setCell (by simp) _).setCell (by simp) _).setCell (by simp) _).setCell (by simp) _).setCell (by simp) _⟩
theorem bndZ_ s p l c q k d (w:World):Calls Try.prog 21 #[.agg #[.int .i64 0,.bool s,.slice p l c,.slice q k d]] w fun e w'=>e = .returned (.agg #[.int .i64 0,.bool s,.slice p l c,.slice q k d,.int .i64 1,.bool false])∧Kp w w':=by
  go_enter Try.func21,Try.ntmps21
  go_wp2
  exact bodyPost_ret (v:=.agg #[.int .i64 0,.bool s,.slice p l c,.slice q k d,.int .i64 1,.bool false]) (by simp [results,Try.results21,go_sem]) rfl ⟨rfl,(by repeat (with_reducible (first | assumption | exact Kp.refl _ | apply Kp.drew | apply Kp.alloc | apply Kp.drewN | (refine Kp.setCell ?_ (by first | omega | (simp <;> omega)) _) | (refine Kp.trans ?_ (by assumption)))))⟩
theorem bnd9_ (i V:Int) s p l c q k d (hi:i = 0∨V = 0) (B1:Nat) (w:World) (h:VP B1 w s p l c q k d V):Calls Try.prog 21 #[.agg #[.int .i64 i,.bool s,.slice p l c,.slice q k d]] w fun e w'=>∃ s2 p2 l2 c2 q2 k2 d2,e = .returned (.agg #[.int .i64 i,.bool s2,.slice p2 l2 c2,.slice q2 k2 d2,.int .i64 1,.bool (decide (i≠0))])∧VP 0 w' s2 p2 l2 c2 q2 k2 d2 V∧Kp w w':=by
  by_cases ci0:i = 0
  · subst ci0
    refine (bndZ_ s p l c q k d w).mono ?_
    rintro e w' ⟨rfl,g⟩
    exact ⟨s,p,l,c,q,k,d,rfl,(h.kp g).mono (Nat.zero_le _),g⟩
  · have e:decide (i≠0) = true:=decide_eq_true ci0
    rw [e]
    rcases hi with hi | hi
    · exact absurd hi ci0
    · rw [hi];exact bndI_ i s p l c q k d (by simpa using ci0) w
set_option linter.unusedVariables false
set_option linter.unusedSimpArgs false
theorem wpo_load {P:Program} {op:Oper} {a:Act} {w:World} {K:Act→World→Prop} {Q:Exit→Act→World→Prop} (ty:TypeId) (x:Operand) (ho:op.op = .load ty x) (b o:Nat) (hx:a.eval x = .pointer (some ⟨b,o,none⟩)) (v:Value) (hr:(loadVar ty ⟨b,o,none⟩).run P w = .ok v w) (h:K (a.put op.dst v) w):op.wp P a w K Q:=by
  unfold Oper.wp execOp
  simp only [ho,hx,Instr.loadAt,Instr.sureAddr,Sem.run_bind,Sem.run_pure,Result.andThen_ok,hr]
  exact h
theorem wpo_store {P:Program} {op:Oper} {a:Act} {w:World} {K:Act→World→Prop} {Q:Exit→Act→World→Prop} (ty:TypeId) (x y:Operand) (ho:op.op = .store ty x y) (b o:Nat) (hx:a.eval x = .pointer (some ⟨b,o,none⟩)) (v:Value) (hy:a.eval y = v) (w2:World) (hr:(storeVar ty ⟨b,o,none⟩ v).run P w = .ok () w2) (h:K (a.put op.dst undef) w2):op.wp P a w K Q:=by
  unfold Oper.wp execOp
  simp only [ho,hx,hy,Instr.storeAt,Instr.sureAddr,Sem.run_bind,Sem.run_pure,Result.andThen_ok,hr]
  exact h
theorem exL {P:Program} {ρ:Operand→Value} {op:Oper} {t:TypeId} {x:Operand} {w:World} {v:Value} (ho:op.op = .load t x) (p:Value) (hx:ρ x = p) (hr:(Instr.loadAt t p).run P w = .ok v w):(execOp ρ op).run P w = .ok (.value v) w:=by
  unfold execOp
  simp only [ho,hx,Sem.run_bind,Sem.run_pure,Result.andThen_ok,hr]
theorem loadI (w:World) (b o:Nat) (x0 x1:Value) (e0:w.cell? ⟨b,o,none⟩ = some x0) (e1:w.cell? ⟨b,o + 1,none⟩ = some x1):(loadVar 24 ⟨b,o,none⟩).run Try.prog w = .ok (.agg #[x0,x1]) w :=
  run_loadVar_mid (P:=Try.prog) w b o 24 [x0,x1] _ (fun j v hv=>by
  match j,hv with
  | 0,hv=>simp at hv;rw [← hv];exact e0
  | 1,hv=>simp at hv;rw [← hv];exact e1
  | n + 2,hv=>simp at hv) Try.underlying24 rfl (by kernel_rfl)
theorem loadIa (w:World) (b o:Nat) (x0 x1:Value) (e0:w.cell? ⟨b,o,none⟩ = some x0) (e1:w.cell? ⟨b,o + 1,none⟩ = some x1):(Instr.loadAt 24 (.pointer (some ⟨b,o,none⟩))).run Try.prog w = .ok (.agg #[x0,x1]) w:=by
  simp only [Instr.loadAt,Instr.sureAddr,Sem.run_bind,Sem.run_pure,Result.andThen]
  exact loadI w b o x0 x1 e0 e1
theorem loadP (w:World) (b o:Nat) (x0 x1 x2 x3 x4 x5 x6 x7 x8 x9 x10 x11 x12:Value) (e0:w.cell? ⟨b,o,none⟩ = some x0) (e1:w.cell? ⟨b,o + 1,none⟩ = some x1) (e2:w.cell? ⟨b,o + 2,none⟩ = some x2) (e3:w.cell? ⟨b,o + 3,none⟩ = some x3) (e4:w.cell? ⟨b,o + 4,none⟩ = some x4) (e5:w.cell? ⟨b,o + 5,none⟩ = some x5) (e6:w.cell? ⟨b,o + 6,none⟩ = some x6) (e7:w.cell? ⟨b,o + 7,none⟩ = some x7) (e8:w.cell? ⟨b,o + 8,none⟩ = some x8) (e9:w.cell? ⟨b,o + 9,none⟩ = some x9) (e10:w.cell? ⟨b,o + 10,none⟩ = some x10) (e11:w.cell? ⟨b,o + 11,none⟩ = some x11) (e12:w.cell? ⟨b,o + 12,none⟩ = some x12):(loadVar 56 ⟨b,o,none⟩).run Try.prog w = .ok (.agg #[x0,x1,x2,x3,x4,x5,x6,x7,x8,x9,x10,x11,x12]) w :=
  run_loadVar_mid (P:=Try.prog) w b o 56 [x0,x1,x2,x3,x4,x5,x6,x7,x8,x9,x10,x11,x12] _ (fun j v hv=>by
  match j,hv with
  | 0,hv=>simp at hv;rw [← hv];exact e0
  | 1,hv=>simp at hv;rw [← hv];exact e1
  | 2,hv=>simp at hv;rw [← hv];exact e2
  | 3,hv=>simp at hv;rw [← hv];exact e3
  | 4,hv=>simp at hv;rw [← hv];exact e4
  | 5,hv=>simp at hv;rw [← hv];exact e5
  | 6,hv=>simp at hv;rw [← hv];exact e6
  | 7,hv=>simp at hv;rw [← hv];exact e7
  | 8,hv=>simp at hv;rw [← hv];exact e8
  | 9,hv=>simp at hv;rw [← hv];exact e9
  | 10,hv=>simp at hv;rw [← hv];exact e10
  | 11,hv=>simp at hv;rw [← hv];exact e11
  | 12,hv=>simp at hv;rw [← hv];exact e12
  | n + 13,hv=>simp at hv) Try.underlying56 rfl (by kernel_rfl)
theorem loadPa (w:World) (b o:Nat) (x0 x1 x2 x3 x4 x5 x6 x7 x8 x9 x10 x11 x12:Value) (e0:w.cell? ⟨b,o,none⟩ = some x0) (e1:w.cell? ⟨b,o + 1,none⟩ = some x1) (e2:w.cell? ⟨b,o + 2,none⟩ = some x2) (e3:w.cell? ⟨b,o + 3,none⟩ = some x3) (e4:w.cell? ⟨b,o + 4,none⟩ = some x4) (e5:w.cell? ⟨b,o + 5,none⟩ = some x5) (e6:w.cell? ⟨b,o + 6,none⟩ = some x6) (e7:w.cell? ⟨b,o + 7,none⟩ = some x7) (e8:w.cell? ⟨b,o + 8,none⟩ = some x8) (e9:w.cell? ⟨b,o + 9,none⟩ = some x9) (e10:w.cell? ⟨b,o + 10,none⟩ = some x10) (e11:w.cell? ⟨b,o + 11,none⟩ = some x11) (e12:w.cell? ⟨b,o + 12,none⟩ = some x12):(Instr.loadAt 56 (.pointer (some ⟨b,o,none⟩))).run Try.prog w = .ok (.agg #[x0,x1,x2,x3,x4,x5,x6,x7,x8,x9,x10,x11,x12]) w:=by
  simp only [Instr.loadAt,Instr.sureAddr,Sem.run_bind,Sem.run_pure,Result.andThen]
  exact loadP w b o x0 x1 x2 x3 x4 x5 x6 x7 x8 x9 x10 x11 x12 e0 e1 e2 e3 e4 e5 e6 e7 e8 e9 e10 e11 e12
theorem storeI (w:World) (b:Nat) (x0 x1:Value) (a c:Int) (e0:w.cell? ⟨b,0,none⟩ = some x0) (e1:w.cell? ⟨b,1,none⟩ = some x1) (z0:w.frozen? ⟨b,0,none⟩ = false) (z1:w.frozen? ⟨b,1,none⟩ = false):(storeVar 24 ⟨b,0,none⟩ (.agg #[.int .u64 a,.int .u64 c])).run Try.prog w = .ok () ((w.setCell ⟨b,0,none⟩ (.int .u64 a)).setCell ⟨b,1,none⟩ (.int .u64 c)):=by
  simp [storeVar,go_sem,e0,e1,z0,z1]
end Go.Proofs.Ytcepchaakfiojaa
