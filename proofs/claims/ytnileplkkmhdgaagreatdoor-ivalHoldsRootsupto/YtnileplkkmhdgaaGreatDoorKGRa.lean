import Derived.Test.YtnileplkkmhdgaaGreatDoorKMR36
import Derived.Test.YtnileplkkmhdgaaGreatDoorKU4
set_option maxHeartbeats 2000000
set_option maxRecDepth 20000
namespace Go.Proofs.YtnileplkkmhdgaaGreatDoor
open Go.RowKit

set_option linter.unusedVariables false
def pz (z:Int):Nat:=Fq.wD (decide (z < 0)) z.natAbs
def g53 (d:Int) (c1 c2:Nat) (V:Int):Int:=gpl 53 2098 9218868437227405311 9218868437227405312 d c1 c2 V
theorem g53_mono (d:Int) (c1 c2:Nat) (hc:0 < c2) (V V':Int) (h:V≤V'):g53 d c1 c2 V≤g53 d c1 c2 V':=gpl_mono 53 2098 9218868437227405311 9218868437227405312 d c1 c2 hc (by decide) (by decide) (by decide) (by decide) V V' h
theorem g53_le (d:Int) (c1 c2:Nat) (V:Int):-9218868437227405312≤g53 d c1 c2 V∧g53 d c1 c2 V≤9218868437227405312:=gpl_le 53 2098 9218868437227405311 9218868437227405312 d c1 c2 (by decide) (by decide) (by decide) (by decide) V
theorem mdW_pz (s:Bool) (M:Nat):mdW s M = pz (if s then -(M:Int) else M):=by
  unfold mdW pz Fq.wD
  by_cases z:M = 0
  · rw [if_pos z,z];cases s <;> simp
  · rw [if_neg z]
    cases s
    · simp <;> omega
    · simp <;> omega
theorem sumW_g (d V:Int):sumW d V = pz (g53 d 1 1 V):=by
  unfold sumW g53 gpl
  by_cases z:V = 0
  · rw [if_pos z,if_pos z];rfl
  · rw [if_neg z,if_neg z,mdW_pz,Nat.mul_one]
    by_cases n:V < 0
    · rw [if_pos n,decide_eq_true n];rfl
    · rw [if_neg n,decide_eq_false n];rfl
set_option linter.unusedVariables false
set_option linter.unusedVariables false
theorem addG_ (d:Int) (n n':Bool) (m m':Nat) (hm:m < 9218868437227405312) (hm':m' < 9218868437227405312) (hd1:-9223372036854775808≤d) (hd2:d < 9223372036854775808) (w:World) (hT:Tab w) (hQ:Fq.Tab w):Calls Tryz.prog 35 #[.int .i64 d,.float .f64 (Fq.wD n m),.float .f64 (Fq.wD n' m')] w fun e w'=>e = .returned (.float .f64 (pz (g53 d 1 1 (Iv n m + Iv n' m'))))∧Kp w w':=by
  rw [← sumW_g]
  exact paddF_ d n n' m m' hm hm' w hT hQ hd1 hd2

set_option linter.unusedVariables false
def zc (o:Option Int):Nat:=match o with | none=>9221120237041090561 | some z=>pz z
def sgI (n:Bool):Int:=if n then -9218868437227405312 else 9218868437227405312
def oA (d:Int) (n:Bool) (m:Nat) (n':Bool) (m':Nat):Option Int:=if 9218868437227405312 < m∨9218868437227405312 < m'∨(m = 9218868437227405312∧m' = 9218868437227405312∧n≠n') then none else if m = 9218868437227405312 then some (sgI n) else if m' = 9218868437227405312 then some (sgI n') else some (g53 d 1 1 (Iv n m + Iv n' m'))
def ng (o:Option Int):Option Int:=o.map (fun z=>-z)
theorem wD_sg (n:Bool):Fq.wD n 9218868437227405312 = pz (sgI n):=by cases n <;> decide

set_option linter.unusedVariables false
def sN (z:Int):Bool:=decide (z < 0)
def adZ (d x y:Int):Int:=(oA d (sN x) x.natAbs (sN y) y.natAbs).getD 0

set_option linter.unusedVariables false
def vZ (z:Int):Int:=Iv (decide (z < 0)) z.natAbs
theorem vZ_pos (z:Int) (h:0≤z):vZ z = ((Fq.vV Ieee.double z.natAbs:Nat):Int):=by
  unfold vZ Iv
  rw [decide_eq_false (show ¬ z < 0 by omega)];rfl
theorem vV0X:Fq.vV Ieee.double 0 = 0:=by decide
theorem vZ_neg (z:Int):vZ (-z) = -vZ z:=by
  unfold vZ Iv
  rw [Int.natAbs_neg]
  by_cases z0:z = 0
  · rw [z0];simp [vV0X]
  · by_cases c:z < 0
    · rw [decide_eq_true c,decide_eq_false (show ¬ -z < 0 by omega)];simp
    · rw [decide_eq_false c,decide_eq_true (show -z < 0 by omega)];simp
theorem vV_place (E S:Nat) (h1:S≤2 ^ 53) (h2:E = 0∨2 ^ (53 - 1)≤S):Fq.vV Ieee.double (E * 2 ^ (53 - 1) + S) = S * 2 ^ E:=by
  have hb:Ieee.double.binade = 4503599627370496:=by decide
  have p1:(2:Nat) ^ (53 - 1) = 4503599627370496:=by decide
  have p2:(2:Nat) ^ 53 = 9007199254740992:=by decide
  rw [p1] at h2 ⊢
  rw [p2] at h1
  unfold Fq.vV Fq.mM Fq.eE
  rw [hb]
  by_cases c:E * 4503599627370496 + S < 4503599627370496
  · have hE:E = 0:=by omega
    rw [if_pos c,if_pos c,hE];simp
  · rw [if_neg c,if_neg c]
    by_cases c2:S = 9007199254740992
    · rw [show (E * 4503599627370496 + S) / 4503599627370496 - 1 = E + 1 from by omega,show (E * 4503599627370496 + S) % 4503599627370496 = 0 from by omega,Nat.pow_succ,c2]
      generalize 2 ^ E = P
      omega
    · rw [show (E * 4503599627370496 + S) / 4503599627370496 - 1 = E from by omega,show 4503599627370496 + (E * 4503599627370496 + S) % 4503599627370496 = S from by omega]
theorem g53_tight (c1 c2:Nat) (hc:0 < c2) (V:Int):TS 9218868437227405312 (Fq.vV Ieee.double) (V * c1) (c2:Int) (g53 (-1) c1 c2 V) (g53 1 c1 c2 V) (g53 0 c1 c2 V):=gpl_tight 53 2098 9218868437227405311 9218868437227405312 (Fq.vV Ieee.double) vV_place c1 c2 hc (by decide) (by decide) (by decide) (by decide) V
theorem g53_lohi (c1 c2:Nat) (hc:0 < c2) (V:Int):g53 (-1) c1 c2 V≤g53 1 c1 c2 V∧g53 (-1) c1 c2 V < 9218868437227405312∧-9218868437227405312 < g53 1 c1 c2 V:=by
  have h:=g53_tight c1 c2 hc V vZ vZ_pos vZ_neg
  have b1:=g53_le (-1) c1 c2 V
  have b2:=g53_le 1 c1 c2 V
  rcases h with ⟨h1,_,h3,h4,_⟩ | ⟨h1,h2,h3,_⟩ <;> omega
theorem iv_le9 (n n':Bool) (m m':Nat) (h:Fq.plz n m≤Fq.plz n' m'):Iv n m≤Iv n' m':=by
  have h1:=Fq.vV_lt_iff Ieee.double m m'
  have h2:=Fq.vV_lt_iff Ieee.double m' m
  have h3:=vV_zero m
  have h4:=vV_zero m'
  unfold Iv
  unfold Fq.plz at h
  cases n <;> cases n' <;> simp at h ⊢ <;> omega
theorem vZ_le (x y:Int) (h:x≤y):vZ x≤vZ y:=iv_le9 _ _ _ _ (by rw [plz_pw,plz_pw];exact h)
theorem vZ_zero:vZ 0 = 0:=by rw [vZ_pos 0 (by omega)];exact congrArg _ vV0X
theorem vZ_nn (x:Int) (h:0≤x):0≤vZ x:=by rw [vZ_pos x h];omega
theorem iv_lt9 (n n':Bool) (m m':Nat) (h:Fq.plz n m < Fq.plz n' m'):Iv n m < Iv n' m':=by
  have h1:=Fq.vV_lt_iff Ieee.double m m'
  have h2:=Fq.vV_lt_iff Ieee.double m' m
  have h3:=vV_zero m
  have h4:=vV_zero m'
  unfold Iv
  unfold Fq.plz at h
  cases n <;> cases n' <;> simp at h ⊢ <;> omega
theorem vZ_lt (x y:Int) (h:x < y):vZ x < vZ y:=iv_lt9 _ _ _ _ (by rw [plz_pw,plz_pw];exact h)
theorem g53_nn (d:Int) (c1 c2:Nat) (V:Int) (hV:0≤V):0≤g53 d c1 c2 V:=by
  unfold g53 gpl
  by_cases z:V = 0
  · rw [if_pos z];omega
  rw [if_neg z,if_neg (show ¬ V < 0 by omega)];omega
theorem vV_le9 (y y':Int) (hy:0 < y) (h:y≤y'):Fq.vV Ieee.double y.natAbs≤Fq.vV Ieee.double y'.natAbs:=by
  have g:=vZ_le y y' h
  rw [vZ_pos y (by omega),vZ_pos y' (by omega)] at g
  omega
set_option linter.unusedVariables false
def IsO (o:Option Int) (R:Nat):Prop:=∀ z,o = some z→R = pz z
theorem bitsP_ (z:Int) (h:-9218868437227405312≤z∧z≤9218868437227405312):IsO (some z) (pz z):=fun y e=>by cases e;rfl
theorem bitsI_ (n:Bool):IsO (some (sgI n)) (Fq.wD n 9218868437227405312):=fun y e=>by cases e;exact wD_sg n
theorem bitsQ_ (R:Nat) (h1:9218868437227405312 < R % 9223372036854775808) (h2:R < 18446744073709551616):IsO none R:=fun y e=>by cases e
theorem addO_ (d:Int) (n n':Bool) (m m':Nat) (hm:m < 9223372036854775808) (hm':m' < 9223372036854775808) (hd1:-9223372036854775808≤d) (hd2:d < 9223372036854775808) (w:World) (hT:Tab w) (hQ:Fq.Tab w):Calls Tryz.prog 35 #[.int .i64 d,.float .f64 (Fq.wD n m),.float .f64 (Fq.wD n' m')] w fun e w'=>∃ R,e = .returned (.float .f64 R)∧IsO (oA d n m n' m') R∧Kp w w':=by
  by_cases hi:m < 9218868437227405312∧m' < 9218868437227405312
  · have e:oA d n m n' m' = some (g53 d 1 1 (Iv n m + Iv n' m')):=by
      unfold oA
      rw [if_neg (by omega),if_neg (by omega),if_neg (by omega)]
    rw [e]
    exact (addG_ d n n' m m' hi.1 hi.2 hd1 hd2 w hT hQ).mono fun e w' h=>⟨_,h.1,bitsP_ _ (g53_le _ _ _ _),h.2⟩
  · by_cases hb:badS n m n' m'
    · have e:oA d n m n' m' = none:=by
        have hb2:=hb
        unfold badS at hb2
        unfold oA
        rw [if_pos hb2]
      rw [e]
      exact (paddB_ d n n' m m' hm hm' hi hb w).mono fun e w' ⟨R,h1,h2,h3⟩=>⟨R,h1,bitsQ_ R h2.1 h2.2,h3⟩
    · have e:oA d n m n' m' = some (sgI (if m = 9218868437227405312 then n else n')):=by
        unfold oA
        unfold badS at hb
        rw [if_neg hb]
        by_cases c:m = 9218868437227405312
        · rw [if_pos c,if_pos c]
        · rw [if_neg c,if_pos (by omega),if_neg c]
      rw [e]
      exact (paddI_ d n n' m m' hm hm' hi hb w).mono fun e w' h=>⟨_,h.1,bitsI_ _,h.2⟩
theorem aI (z:Int) (h:BdZ z):z.natAbs < 9223372036854775808:=by unfold BdZ at h;omega
def TT (w:World):Prop:=Tab w∧Fq.Tab w
theorem TT.kp {w w':World} (h:TT w) (g:Kp w w'):TT w':=⟨h.1.grown g,h.2.grown g⟩
theorem addP_ (d x y:Int) (hd1:-9223372036854775808≤d) (hd2:d < 9223372036854775808) (hx:BdZ x) (hy:BdZ y) (hb:¬ (x = 9218868437227405312∧y = -9218868437227405312)∧¬ (x = -9218868437227405312∧y = 9218868437227405312)) (w:World) (hT:TT w):Calls Tryz.prog 35 #[.int .i64 d,.float .f64 (pw x),.float .f64 (pw y)] w fun e w'=>e = .returned (.float .f64 (pw (adZ d x y)))∧Kp w w':=by
  have h:=addO_ d (sN x) (sN y) x.natAbs y.natAbs (aI x hx) (aI y hy) hd1 hd2 w hT.1 hT.2
  refine h.mono ?_
  rintro e w' ⟨R,rfl,hR,k⟩
  have hz:∃ z,oA d (sN x) x.natAbs (sN y) y.natAbs = some z:=by
    unfold oA
    rw [if_neg (by
      unfold BdZ at hx hy
      unfold sN
      rintro (q | q | ⟨q1,q2,q3⟩)
      · omega
      · omega
      · apply q3
        by_cases c:x < 0
        · rw [decide_eq_true c,decide_eq_true (by omega)]
        · rw [decide_eq_false c,decide_eq_false (by omega)])]
    repeat' split
    all_goals exact ⟨_,rfl⟩
  obtain ⟨z,hz⟩:=hz
  refine ⟨?_,k⟩
  rw [hR z hz]
  unfold adZ
  rw [hz];rfl

def H6 (w:World) (B:Nat) (a b c d e f:Value):Prop:=Fq.H2 w B a b∧Fq.H2 w (B + 1) c d∧Fq.H2 w (B + 2) e f
theorem H6.keep {W w:World} {B:Nat} {a b c d e f:Value} (h:H6 W B a b c d e f) (g:Kp W w):H6 w B a b c d e f:=⟨Fq.H2.keep h.1 g,Fq.H2.keep h.2.1 g,Fq.H2.keep h.2.2 g⟩
theorem H6.new (w:World) (a b c d e f:Value) (s t u:TypeId):H6 (((w.alloc (.cells #[a,b] s)).alloc (.cells #[c,d] t)).alloc (.cells #[e,f] u)) w.heap.size a b c d e f:=by
  refine ⟨?_, ?_, ?_⟩ <;> (unfold Fq.H2;simp [go_sem])
theorem H6.put {w:World} {B:Nat} {a b c d e f:Value} (h:H6 w B a b c d e f) (a' b' c' d':Value):H6 ((((w.setCell ⟨B,0,none⟩ a').setCell ⟨B,1,none⟩ b').setCell ⟨B + 1,0,none⟩ c').setCell ⟨B + 1,1,none⟩ d') B a' b' c' d' e f:=by
  refine ⟨?_, ?_, ?_⟩
  · exact Fq.H2.far (Fq.H2.put h.1 a' b') (by omega) c' d'
  · exact Fq.H2.put (Fq.H2.far h.2.1 (by omega) a' b') c' d'
  · exact Fq.H2.far (Fq.H2.far h.2.2 (by omega) a' b') (by omega) c' d'
theorem add6v1_ (a b c d L1 H1 L2 H2:Nat) (hx:∀ w:World,Calls Tryz.prog 32 #[.agg #[.float .f64 a,.float .f64 b]] w fun e w'=>e = .returned (.agg #[.float .f64 L1,.float .f64 H1])∧Kp w w') (hy:∀ w:World,Calls Tryz.prog 32 #[.agg #[.float .f64 c,.float .f64 d]] w fun e w'=>e = .returned (.agg #[.float .f64 L2,.float .f64 H2])∧Kp w w') (hv1:∀ w:World,Calls Tryz.prog 33 #[.agg #[.float .f64 L1,.float .f64 H1]] w fun e w'=>e = .returned (.bool true)∧Kp w w') (hE:∀ w:World,Calls Tryz.prog 34 #[] w fun e w'=>e = .returned (.agg #[.float .f64 9218868437227405312,.float .f64 18442240474082181120])∧Kp w w') (w:World):Calls Tryz.prog 10 #[.agg #[.float .f64 a,.float .f64 b],.agg #[.float .f64 c,.float .f64 d]] w fun e w'=>e = .returned (.agg #[.float .f64 9218868437227405312,.float .f64 18442240474082181120])∧Kp w w':=by
    go_enter Tryz.func10,Tryz.ntmps10
    go_wp2
    go_region_with (first | (go_at_call_of 32 (Value.agg #[.float .f64 a,.float .f64 b]);refine (hx _).mono ?_;rintro e wx ⟨rfl,gx⟩;first | (have kx:=Kp.trans ky gx;have sx:=H6.keep sy gx;obtain ⟨⟨p0,p1,p2,p3⟩,⟨p4,p5,p6,p7⟩,⟨p8,p9,pa,pb⟩⟩:=id sx) | (have kx:Kp w wx:=Kp.trans (((((Kp.refl w).alloc _).alloc _).alloc _).drew) gx;have sx:=H6.keep (H6.new w (.float .f64 a) (.float .f64 b) (.float .f64 c) (.float .f64 d) (.float .f64 0) (.float .f64 0) 36 36 36) (Kp.trans (Kp.drew (Kp.refl _)) gx);obtain ⟨⟨p0,p1,p2,p3⟩,⟨p4,p5,p6,p7⟩,⟨p8,p9,pa,pb⟩⟩:=id sx)) | (go_at_call_of 32 (Value.agg #[.float .f64 c,.float .f64 d]);refine (hy _).mono ?_;rintro e wy ⟨rfl,gy⟩;first | (have ky:=Kp.trans kx gy;have sy:=H6.keep sx gy;obtain ⟨⟨p0,p1,p2,p3⟩,⟨p4,p5,p6,p7⟩,⟨p8,p9,pa,pb⟩⟩:=id sy) | (have ky:Kp w wy:=Kp.trans (((((Kp.refl w).alloc _).alloc _).alloc _).drew) gy;have sy:=H6.keep (H6.new w (.float .f64 a) (.float .f64 b) (.float .f64 c) (.float .f64 d) (.float .f64 0) (.float .f64 0) 36 36 36) (Kp.trans (Kp.drew (Kp.refl _)) gy);obtain ⟨⟨p0,p1,p2,p3⟩,⟨p4,p5,p6,p7⟩,⟨p8,p9,pa,pb⟩⟩:=id sy)))
    all_goals (first
      | skip
        have sw:=H6.put (id sy:H6 wy w.heap.size (.float .f64 a) (.float .f64 b) (.float .f64 c) (.float .f64 d) (.float .f64 0) (.float .f64 0)) (.float .f64 L1) (.float .f64 H1) (.float .f64 L2) (.float .f64 H2)
        have kw:Kp w ((((wy.setCell ⟨w.heap.size,0,none⟩ (.float .f64 L1)).setCell ⟨w.heap.size,1,none⟩ (.float .f64 H1)).setCell ⟨w.heap.size + 1,0,none⟩ (.float .f64 L2)).setCell ⟨w.heap.size + 1,1,none⟩ (.float .f64 H2)):=(((ky.setCell (Nat.le_refl _) _).setCell (Nat.le_refl _) _).setCell (Nat.le_succ _) _).setCell (Nat.le_succ _) _
        generalize hW:((((wy.setCell ⟨w.heap.size,0,none⟩ (.float .f64 L1)).setCell ⟨w.heap.size,1,none⟩ (.float .f64 H1)).setCell ⟨w.heap.size + 1,0,none⟩ (.float .f64 L2)).setCell ⟨w.heap.size + 1,1,none⟩ (.float .f64 H2)) = W at sw kw ⊢
        clear hW
      | skip
        have sw:=H6.put (id sx:H6 wx w.heap.size (.float .f64 a) (.float .f64 b) (.float .f64 c) (.float .f64 d) (.float .f64 0) (.float .f64 0)) (.float .f64 L1) (.float .f64 H1) (.float .f64 L2) (.float .f64 H2)
        have kw:Kp w ((((wx.setCell ⟨w.heap.size,0,none⟩ (.float .f64 L1)).setCell ⟨w.heap.size,1,none⟩ (.float .f64 H1)).setCell ⟨w.heap.size + 1,0,none⟩ (.float .f64 L2)).setCell ⟨w.heap.size + 1,1,none⟩ (.float .f64 H2)):=(((kx.setCell (Nat.le_refl _) _).setCell (Nat.le_refl _) _).setCell (Nat.le_succ _) _).setCell (Nat.le_succ _) _
        generalize hW:((((wx.setCell ⟨w.heap.size,0,none⟩ (.float .f64 L1)).setCell ⟨w.heap.size,1,none⟩ (.float .f64 H1)).setCell ⟨w.heap.size + 1,0,none⟩ (.float .f64 L2)).setCell ⟨w.heap.size + 1,1,none⟩ (.float .f64 H2)) = W at sw kw ⊢
        clear hW)
    all_goals (
      obtain ⟨⟨p0,p1,p2,p3⟩,⟨p4,p5,p6,p7⟩,⟨p8,p9,pa,pb⟩⟩:=id sw
      go_wp2_with (first | (go_at_call_of 33 (Value.agg #[.float .f64 L1,.float .f64 H1]);refine (hv1 _).mono ?_;rintro e wv ⟨rfl,gv⟩;have kv:=Kp.trans kw gv;have sv:=H6.keep sw gv;obtain ⟨⟨u0,u1,u2,u3⟩,⟨u4,u5,u6,u7⟩,⟨u8,u9,ua,ub⟩⟩:=id sv) | (go_at_call 34;refine (hE _).mono ?_;rintro e we ⟨rfl,ge⟩;obtain ⟨⟨e0,e1,e2,e3⟩,⟨e4,e5,e6,e7⟩,⟨e8,e9,ea,eb⟩⟩:=H6.keep sv ge;have ke:=Kp.trans kv ge))
      exact bodyPost_ret (v:=.agg #[.float .f64 9218868437227405312,.float .f64 18442240474082181120]) (by simp [results,Tryz.results10,go_sem,e8,e9]) rfl ⟨rfl,(ke.setCell (by simp;omega) _).setCell (by simp;omega) _⟩)
theorem add6v2_ (a b c d L1 H1 L2 H2:Nat) (hx:∀ w:World,Calls Tryz.prog 32 #[.agg #[.float .f64 a,.float .f64 b]] w fun e w'=>e = .returned (.agg #[.float .f64 L1,.float .f64 H1])∧Kp w w') (hy:∀ w:World,Calls Tryz.prog 32 #[.agg #[.float .f64 c,.float .f64 d]] w fun e w'=>e = .returned (.agg #[.float .f64 L2,.float .f64 H2])∧Kp w w') (hv1:∀ w:World,Calls Tryz.prog 33 #[.agg #[.float .f64 L1,.float .f64 H1]] w fun e w'=>e = .returned (.bool false)∧Kp w w') (hv2:∀ w:World,Calls Tryz.prog 33 #[.agg #[.float .f64 L2,.float .f64 H2]] w fun e w'=>e = .returned (.bool true)∧Kp w w') (hE:∀ w:World,Calls Tryz.prog 34 #[] w fun e w'=>e = .returned (.agg #[.float .f64 9218868437227405312,.float .f64 18442240474082181120])∧Kp w w') (w:World):Calls Tryz.prog 10 #[.agg #[.float .f64 a,.float .f64 b],.agg #[.float .f64 c,.float .f64 d]] w fun e w'=>e = .returned (.agg #[.float .f64 9218868437227405312,.float .f64 18442240474082181120])∧Kp w w':=by
    go_enter Tryz.func10,Tryz.ntmps10
    go_wp2
    go_region_with (first | (go_at_call_of 32 (Value.agg #[.float .f64 a,.float .f64 b]);refine (hx _).mono ?_;rintro e wx ⟨rfl,gx⟩;first | (have kx:=Kp.trans ky gx;have sx:=H6.keep sy gx;obtain ⟨⟨p0,p1,p2,p3⟩,⟨p4,p5,p6,p7⟩,⟨p8,p9,pa,pb⟩⟩:=id sx) | (have kx:Kp w wx:=Kp.trans (((((Kp.refl w).alloc _).alloc _).alloc _).drew) gx;have sx:=H6.keep (H6.new w (.float .f64 a) (.float .f64 b) (.float .f64 c) (.float .f64 d) (.float .f64 0) (.float .f64 0) 36 36 36) (Kp.trans (Kp.drew (Kp.refl _)) gx);obtain ⟨⟨p0,p1,p2,p3⟩,⟨p4,p5,p6,p7⟩,⟨p8,p9,pa,pb⟩⟩:=id sx)) | (go_at_call_of 32 (Value.agg #[.float .f64 c,.float .f64 d]);refine (hy _).mono ?_;rintro e wy ⟨rfl,gy⟩;first | (have ky:=Kp.trans kx gy;have sy:=H6.keep sx gy;obtain ⟨⟨p0,p1,p2,p3⟩,⟨p4,p5,p6,p7⟩,⟨p8,p9,pa,pb⟩⟩:=id sy) | (have ky:Kp w wy:=Kp.trans (((((Kp.refl w).alloc _).alloc _).alloc _).drew) gy;have sy:=H6.keep (H6.new w (.float .f64 a) (.float .f64 b) (.float .f64 c) (.float .f64 d) (.float .f64 0) (.float .f64 0) 36 36 36) (Kp.trans (Kp.drew (Kp.refl _)) gy);obtain ⟨⟨p0,p1,p2,p3⟩,⟨p4,p5,p6,p7⟩,⟨p8,p9,pa,pb⟩⟩:=id sy)))
    all_goals (first
      | skip
        have sw:=H6.put (id sy:H6 wy w.heap.size (.float .f64 a) (.float .f64 b) (.float .f64 c) (.float .f64 d) (.float .f64 0) (.float .f64 0)) (.float .f64 L1) (.float .f64 H1) (.float .f64 L2) (.float .f64 H2)
        have kw:Kp w ((((wy.setCell ⟨w.heap.size,0,none⟩ (.float .f64 L1)).setCell ⟨w.heap.size,1,none⟩ (.float .f64 H1)).setCell ⟨w.heap.size + 1,0,none⟩ (.float .f64 L2)).setCell ⟨w.heap.size + 1,1,none⟩ (.float .f64 H2)):=(((ky.setCell (Nat.le_refl _) _).setCell (Nat.le_refl _) _).setCell (Nat.le_succ _) _).setCell (Nat.le_succ _) _
        generalize hW:((((wy.setCell ⟨w.heap.size,0,none⟩ (.float .f64 L1)).setCell ⟨w.heap.size,1,none⟩ (.float .f64 H1)).setCell ⟨w.heap.size + 1,0,none⟩ (.float .f64 L2)).setCell ⟨w.heap.size + 1,1,none⟩ (.float .f64 H2)) = W at sw kw ⊢
        clear hW
      | skip
        have sw:=H6.put (id sx:H6 wx w.heap.size (.float .f64 a) (.float .f64 b) (.float .f64 c) (.float .f64 d) (.float .f64 0) (.float .f64 0)) (.float .f64 L1) (.float .f64 H1) (.float .f64 L2) (.float .f64 H2)
        have kw:Kp w ((((wx.setCell ⟨w.heap.size,0,none⟩ (.float .f64 L1)).setCell ⟨w.heap.size,1,none⟩ (.float .f64 H1)).setCell ⟨w.heap.size + 1,0,none⟩ (.float .f64 L2)).setCell ⟨w.heap.size + 1,1,none⟩ (.float .f64 H2)):=(((kx.setCell (Nat.le_refl _) _).setCell (Nat.le_refl _) _).setCell (Nat.le_succ _) _).setCell (Nat.le_succ _) _
        generalize hW:((((wx.setCell ⟨w.heap.size,0,none⟩ (.float .f64 L1)).setCell ⟨w.heap.size,1,none⟩ (.float .f64 H1)).setCell ⟨w.heap.size + 1,0,none⟩ (.float .f64 L2)).setCell ⟨w.heap.size + 1,1,none⟩ (.float .f64 H2)) = W at sw kw ⊢
        clear hW)
    all_goals (
      obtain ⟨⟨p0,p1,p2,p3⟩,⟨p4,p5,p6,p7⟩,⟨p8,p9,pa,pb⟩⟩:=id sw
      go_wp2_with (first | (go_at_call_of 33 (Value.agg #[.float .f64 L1,.float .f64 H1]);refine (hv1 _).mono ?_;rintro e wv ⟨rfl,gv⟩;have kv:=Kp.trans kw gv;have sv:=H6.keep sw gv;obtain ⟨⟨u0,u1,u2,u3⟩,⟨u4,u5,u6,u7⟩,⟨u8,u9,ua,ub⟩⟩:=id sv) | (go_at_call_of 33 (Value.agg #[.float .f64 L2,.float .f64 H2]);refine (hv2 _).mono ?_;rintro e wz ⟨rfl,gz⟩;have kz:=Kp.trans kv gz;have sz:=H6.keep sv gz;obtain ⟨⟨t0,t1,t2,t3⟩,⟨t4,t5,t6,t7⟩,⟨t8,t9,ta,tb⟩⟩:=id sz) | (go_at_call 34;refine (hE _).mono ?_;rintro e we ⟨rfl,ge⟩;obtain ⟨⟨e0,e1,e2,e3⟩,⟨e4,e5,e6,e7⟩,⟨e8,e9,ea,eb⟩⟩:=H6.keep sz ge;have ke:=Kp.trans kz ge))
      exact bodyPost_ret (v:=.agg #[.float .f64 9218868437227405312,.float .f64 18442240474082181120]) (by simp [results,Tryz.results10,go_sem,e8,e9]) rfl ⟨rfl,(ke.setCell (by simp;omega) _).setCell (by simp;omega) _⟩)
end Go.Proofs.YtnileplkkmhdgaaGreatDoor
