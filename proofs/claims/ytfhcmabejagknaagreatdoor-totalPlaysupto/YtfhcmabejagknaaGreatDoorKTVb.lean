import Derived.Test.YtfhcmabejagknaaGreatDoorKTUr
set_option maxHeartbeats 1000000
set_option maxRecDepth 20000
namespace Go.Proofs.YtfhcmabejagknaaGreatDoor
open Go.RowKit
theorem rroot0_ (d:Int) (sa:Bool) (P1 P2:Option Addr) (C1 C2 E1 E2:Nat) (w:World) (h1:Ls w (.slice P1 E1 C1) (dig 0)) :
    Calls Tryz.prog 59 #[.int .i64 d,.agg #[.bool sa,.slice P1 E1 C1,.slice P2 E2 C2],.int .i64 2] w fun e w'=>e = .returned (.int .u64 0)∧Kp w w':=by
  obtain ⟨w0,hw0⟩:∃ w0,w0 = w.alloc (.cells #[.bool sa,.slice P1 E1 C1,.slice P2 E2 C2] 27):=⟨_,rfl⟩
  have kw:Kp w w0:=by rw [hw0];exact (Kp.refl w).alloc _
  have s1:=rsign_ sa (.slice P1 E1 C1) (.slice P2 E2 C2) 0 w0 (h1.kp kw) (by rw [blen_zero];omega)
  rw [if_pos rfl] at s1
  clear h1
  go_enter Tryz.func59,Tryz.ntmps59
  go_wp2_with fail
  rw [← hw0]
  refine s1.mono ?_;rintro e w1 ⟨rfl,kk1⟩
  have k1:=kw.trans kk1
  clear s1 hw0 kw kk1
  go_wp2
  exact bodyPost_ret (v:=.int .u64 0) (by simp [results,Tryz.results59,go_sem]) rfl ⟨rfl,k1⟩

theorem rtR_blen (A B:Nat) (hB:B≤20000) (hA:A < 2 ^ B):blen (rtR A)≤524288:=by
  have h1:=rtN_le (A * 2 ^ 128)
  have h2:A * 2 ^ 128 < 2 ^ (B + 128):=by rw [Nat.pow_add];exact (Nat.mul_lt_mul_right (Nat.two_pow_pos _)).2 hA
  have h3:rtR A < 2 ^ (B + 130):=by
    have e:2 ^ (B + 130) = 2 ^ (B + 128) * 4:=by rw [show B + 130 = (B + 128) + 2 from rfl,Nat.pow_add]
    unfold rtR
    generalize 2 ^ (B + 128) = Q at *
    split <;> omega
  exact Nat.le_trans ((blen_le_iff _ _).2 h3) (by omega)
theorem dyroot_ (d:Int) s1 p1 l1 c1 q1 k1 d1 (V:Int) (K B:Nat) (hK:K = 1074) (hB:B≤8000) (hV:V.natAbs < 2 ^ B) (hn:¬ V < 0) (b1:Nat) (w:World) (h:Dy b1 w s1 p1 l1 c1 q1 k1 d1 V (K + K)):Calls Tryz.prog 59 #[.int .i64 d,.agg #[.bool s1,.slice p1 l1 c1,.slice q1 k1 d1],.int .i64 2] w fun e w'=>e = .returned (.int .u64 ((ofW d false (rtR V.natAbs) (-1139):Nat):Int))∧Kp w w':=by
  obtain ⟨a,j,u1,u2,f1,g1⟩:=h
  have ha:=f1.lt B hV
  have hl:blen a≤8000:=Nat.le_trans ((blen_le_iff a B).2 ha) hB
  have hj:=f1.1
  have hl2:blen (2 ^ j)≤2149:=Nat.le_trans ((blen_le_iff (2 ^ j) (j + 1)).2 (Nat.pow_lt_pow_right (by decide) (by omega))) (by omega)
  by_cases z:V = 0
  · have a0:a = 0:=by
      have:=f1.2.2
      rw [z] at this
      rcases Nat.mul_eq_zero.1 this with q | q
      · exact q
      · exact absurd q (Nat.ne_of_gt (Nat.two_pow_pos _))
    subst a0
    refine (rroot0_ d s1 p1 q1 c1 d1 l1 k1 w u1.ls).mono ?_
    rintro e w' ⟨rfl,g⟩
    refine ⟨?_,g⟩
    rw [z,of_rat]
    have r0:rtR (0:Int).natAbs = 0:=by
      have:=rtN_le (0 * 2 ^ 128)
      unfold rtR
      simp at this ⊢
      simp [this]
    rw [r0]
    unfold ratW
    rw [if_neg (by have h1:len32 1≤1:=len_le 1 1 (by decide);have h0:len32 0≤1:=len_le 0 1 (by decide);omega),if_neg (by decide),if_pos rfl]
    rfl
  · have hs:s1 = false:=by rw [g1 z,decide_eq_false hn]
    subst hs
    have a0:a≠0:=fun h0=>by
      have:=f1.2.2
      rw [h0,Nat.zero_mul] at this;omega
    have hA:a * 2 ^ (K + K) = V.natAbs * 2 ^ j:=by
      rw [← f1.2.2,Nat.mul_assoc,← Nat.pow_add];congr 2;omega
    exact rrootZ_ d a (2 ^ j) V.natAbs p1 q1 c1 d1 l1 k1 w u1.ls u2.ls hl hl2 (rtR_blen _ B (by omega) hV) a0 (Nat.ne_of_gt (Nat.two_pow_pos _)) K hK hA
theorem rroot4_ (d:Int) s1 p1 l1 c1 q1 k1 d1 (P M N:Bool) (T V:Int) (K B:Nat) (hK:K = 1074) (hB:B≤8000) (hV:V.natAbs < 2 ^ B) (b1:Nat) (w:World) (h1:Dy b1 w s1 p1 l1 c1 q1 k1 d1 V (K + K)):Calls Tryz.prog 23 #[.agg #[.bool s1,.slice p1 l1 c1,.slice q1 k1 d1,.bool P,.bool M,.bool N,.int .u64 T],.int .i64 d] w fun e w'=>e = .returned (.int .u64 ((rtW d V (stI P M N):Nat):Int))∧Kp w w':=by
  have hst:=rstate_ s1 p1 l1 c1 q1 k1 d1 P M N T
  have hrs:=fun (W:World) (g:Kp w W)=>dysign_ s1 p1 l1 c1 q1 k1 d1 V (K + K) B (by omega) hV b1 W (h1.kp g)
  have hro:=fun (hn:¬ V < 0) (W:World) (g:Kp w W)=>dyroot_ d s1 p1 l1 c1 q1 k1 d1 V K B hK hB hV hn b1 W (h1.kp g)
  have y0:=H7c.new w (.bool s1) (.slice p1 l1 c1) (.slice q1 k1 d1) (.bool P) (.bool M) (.bool N) (.int .u64 T) 30
  have kw0:Kp w (w.alloc (.cells #[.bool s1,.slice p1 l1 c1,.slice q1 k1 d1,.bool P,.bool M,.bool N,.int .u64 T] 30)):=(Kp.refl w).alloc _
  have hz:=stI_ok P M N
  unfold rtW
  generalize stI P M N = S at *
  clear h1 hB hV
  obtain ⟨r0,r1,r2,r3,r4,r5,r6,r7,r8,r9,r10,r11,r12,r13⟩:=id y0
  rcases hz with rfl | rfl | rfl | rfl
  · rw [if_pos rfl]
    by_cases c:V < 0
    · rw [if_pos c]
      rw [show sgV V = -1 from by unfold sgV;rw [if_pos c]] at hrs
      clear hro c
      go_enter Tryz.func23,Tryz.ntmps23
      go_wp2_with (first | (go_at_call 58;refine (hrs _ kw2).mono ?_;rintro e w3 ⟨rfl,g3⟩;have kw3:=Kp.trans kw2 g3;have y3:=H7c.keep y2 g3;clear r0 r1 r2 r3 r4 r5 r6 r7 r8 r9 r10 r11 r12 r13;obtain ⟨r0,r1,r2,r3,r4,r5,r6,r7,r8,r9,r10,r11,r12,r13⟩:=id y3) | (go_at_call 27;refine (hst _).mono ?_;rintro e w2 ⟨rfl,g2⟩;have kw2:=Kp.trans kw1 g2;have y2:=H7c.keep y1 g2;clear r0 r1 r2 r3 r4 r5 r6 r7 r8 r9 r10 r11 r12 r13;obtain ⟨r0,r1,r2,r3,r4,r5,r6,r7,r8,r9,r10,r11,r12,r13⟩:=id y2) | (go_at_call 27;refine (hst _).mono ?_;rintro e w1 ⟨rfl,g1⟩;have kw1:=Kp.trans kw0 g1;have y1:=H7c.keep y0 g1;clear r0 r1 r2 r3 r4 r5 r6 r7 r8 r9 r10 r11 r12 r13;obtain ⟨r0,r1,r2,r3,r4,r5,r6,r7,r8,r9,r10,r11,r12,r13⟩:=id y1))
      exact bodyPost_ret (v:=.int .u64 9221120237041090561) (by simp [results,Tryz.results23,go_sem]) rfl ⟨rfl,kw3⟩
    · rw [if_neg c]
      have hsn:¬ sgV V < 0:=by unfold sgV;rw [if_neg c];split <;> decide
      replace hro:=hro c
      generalize ofW d false (rtR V.natAbs) (-1139) = R at *
      generalize sgV V = SG at *
      clear c
      go_enter Tryz.func23,Tryz.ntmps23
      go_wp2_with (first | (go_at_call 59;refine (hro _ kw3).mono ?_;rintro e w4 ⟨rfl,g4⟩;have kw4:=Kp.trans kw3 g4) | (go_at_call 58;refine (hrs _ kw2).mono ?_;rintro e w3 ⟨rfl,g3⟩;have kw3:=Kp.trans kw2 g3;have y3:=H7c.keep y2 g3;clear r0 r1 r2 r3 r4 r5 r6 r7 r8 r9 r10 r11 r12 r13;obtain ⟨r0,r1,r2,r3,r4,r5,r6,r7,r8,r9,r10,r11,r12,r13⟩:=id y3) | (go_at_call 27;refine (hst _).mono ?_;rintro e w2 ⟨rfl,g2⟩;have kw2:=Kp.trans kw1 g2;have y2:=H7c.keep y1 g2;clear r0 r1 r2 r3 r4 r5 r6 r7 r8 r9 r10 r11 r12 r13;obtain ⟨r0,r1,r2,r3,r4,r5,r6,r7,r8,r9,r10,r11,r12,r13⟩:=id y2) | (go_at_call 27;refine (hst _).mono ?_;rintro e w1 ⟨rfl,g1⟩;have kw1:=Kp.trans kw0 g1;have y1:=H7c.keep y0 g1;clear r0 r1 r2 r3 r4 r5 r6 r7 r8 r9 r10 r11 r12 r13;obtain ⟨r0,r1,r2,r3,r4,r5,r6,r7,r8,r9,r10,r11,r12,r13⟩:=id y1))
      exact bodyPost_ret (v:=.int .u64 (R:Int)) (by simp [results,Tryz.results23,go_sem]) rfl ⟨rfl,kw4⟩
  · rw [if_neg (by decide),if_neg (by decide)]
    clear hro hrs
    go_enter Tryz.func23,Tryz.ntmps23
    go_wp2_with (first | (go_at_call 27;refine (hst _).mono ?_;rintro e w1 ⟨rfl,g1⟩;have kw1:=Kp.trans kw0 g1;have y1:=H7c.keep y0 g1;clear r0 r1 r2 r3 r4 r5 r6 r7 r8 r9 r10 r11 r12 r13;obtain ⟨r0,r1,r2,r3,r4,r5,r6,r7,r8,r9,r10,r11,r12,r13⟩:=id y1))
    exact bodyPost_ret (v:=.int .u64 9218868437227405312) (by simp [results,Tryz.results23,go_sem]) rfl ⟨rfl,kw1⟩
  · rw [if_neg (by decide),if_pos rfl]
    clear hro hrs
    go_enter Tryz.func23,Tryz.ntmps23
    go_wp2_with (first | (go_at_call 27;refine (hst _).mono ?_;rintro e w2 ⟨rfl,g2⟩;have kw2:=Kp.trans kw1 g2;have y2:=H7c.keep y1 g2;clear r0 r1 r2 r3 r4 r5 r6 r7 r8 r9 r10 r11 r12 r13;obtain ⟨r0,r1,r2,r3,r4,r5,r6,r7,r8,r9,r10,r11,r12,r13⟩:=id y2) | (go_at_call 27;refine (hst _).mono ?_;rintro e w1 ⟨rfl,g1⟩;have kw1:=Kp.trans kw0 g1;have y1:=H7c.keep y0 g1;clear r0 r1 r2 r3 r4 r5 r6 r7 r8 r9 r10 r11 r12 r13;obtain ⟨r0,r1,r2,r3,r4,r5,r6,r7,r8,r9,r10,r11,r12,r13⟩:=id y1))
    exact bodyPost_ret (v:=.int .u64 9221120237041090561) (by simp [results,Tryz.results23,go_sem]) rfl ⟨rfl,kw2⟩
  · rw [if_neg (by decide),if_neg (by decide)]
    clear hro hrs
    go_enter Tryz.func23,Tryz.ntmps23
    go_wp2_with (first | (go_at_call 27;refine (hst _).mono ?_;rintro e w2 ⟨rfl,g2⟩;have kw2:=Kp.trans kw1 g2;have y2:=H7c.keep y1 g2;clear r0 r1 r2 r3 r4 r5 r6 r7 r8 r9 r10 r11 r12 r13;obtain ⟨r0,r1,r2,r3,r4,r5,r6,r7,r8,r9,r10,r11,r12,r13⟩:=id y2) | (go_at_call 27;refine (hst _).mono ?_;rintro e w1 ⟨rfl,g1⟩;have kw1:=Kp.trans kw0 g1;have y1:=H7c.keep y0 g1;clear r0 r1 r2 r3 r4 r5 r6 r7 r8 r9 r10 r11 r12 r13;obtain ⟨r0,r1,r2,r3,r4,r5,r6,r7,r8,r9,r10,r11,r12,r13⟩:=id y1))
    exact bodyPost_ret (v:=.int .u64 9221120237041090561) (by simp [results,Tryz.results23,go_sem]) rfl ⟨rfl,kw2⟩
theorem stoverG_ (d:Int) (hd1:-9223372036854775808≤d) (hd2:d < 9223372036854775808) (n:Int) (hn:n < 9223372036854775808) (b:Nat) (V:Int) (k:Nat) (s:Int) (hb:s = 0→V.natAbs < wh) (w:World) (h:St w b V k s) (hQ:Fq.Tab w):Calls Tryz.prog 20 #[.pointer (some ⟨b,0,none⟩),.int .i64 d,.int .i64 n] w fun e w'=>e = .returned (.float .f64 (ovW d n V s))∧Kp w w':=by
  obtain ⟨ws,hR,hS⟩:=h
  have hnan:=mnan_
  unfold ovW
  by_cases c:n < 1
  · rw [if_pos c]
    clear hS hR hb hQ hd1 hd2 hn
    go_enter Tryz.func20,Tryz.ntmps20
    go_wp2_with (first | (go_at_call 53;refine (hnan _).mono ?_;rintro e w' ⟨rfl,hw'⟩;obtain rfl:=hw'.symm;clear hw'))
    exact bodyPost_ret (v:=.float .f64 9221120237041090561) (by simp [results,Tryz.results20,go_sem]) rfl ⟨rfl,Kp.refl _⟩
  · rw [if_neg c]
    by_cases s0:s = 0
    · rw [if_pos s0]
      subst s0
      obtain ⟨N,rfl⟩:=Int.eq_ofNat_of_zero_le (show 0≤n by omega)
      exact overF_ d hd1 hd2 N (by omega) (by omega) b ws V hR (hb rfl) k w hS hQ
    · rw [if_neg s0]
      have hli:=limit_ s
      have hst:=hS.state
      have hsz:(s != 0) = true:=by simpa using s0
      generalize limW s = R at *
      clear hS hR hb hQ hd1 hd2 hn s0 hnan
      go_enter Tryz.func20,Tryz.ntmps20
      go_wp2_with (first | (go_at_call 48;refine (hli _).mono ?_;rintro e w' ⟨rfl,hw'⟩;obtain rfl:=hw'.symm;clear hw'))
      exact bodyPost_ret (v:=.float .f64 R) (by simp [results,Tryz.results20,go_sem]) rfl ⟨rfl,Kp.refl _⟩
theorem stsignG_ (b:Nat) (V:Int) (k:Nat) (s:Int) (hs:s = 0∨s = 1∨s = -1∨s = 2) (hb:s = 0→V.natAbs < wh) (w:World) (h:St w b V k s):Calls Tryz.prog 24 #[.pointer (some ⟨b,0,none⟩)] w fun e w'=>e = .returned (.int .i64 (sgS V s))∧Kp w w':=by
  obtain ⟨ws,hR,hS⟩:=h
  unfold sgS
  by_cases c:s = 0
  · rw [if_pos c];subst c;exact signF_ b ws V hR (hb rfl) k w hS
  · rw [if_neg c];exact signX_ b ws k s (by omega) w hS
theorem strootG_ (d:Int) (hd1:-9223372036854775808≤d) (hd2:d < 9223372036854775808) (b:Nat) (V:Int) (k:Nat) (s:Int) (hs:s = 0∨s = 1∨s = -1∨s = 2) (hb:s = 0→V.natAbs < wh) (w:World) (h:St w b V k s) (hT:Tab w) (hQ:Fq.Tab w):Calls Tryz.prog 22 #[.pointer (some ⟨b,0,none⟩),.int .i64 d] w fun e w'=>e = .returned (.float .f64 (rtW d V s))∧Kp w w':=by
  obtain ⟨ws,hR,hS⟩:=h
  have hnan:=mnan_
  unfold rtW
  by_cases s0:s = 0
  · subst s0
    have hb:=hb rfl
    rw [if_pos rfl]
    have hsg:=signF_ b ws V hR hb k w hS
    by_cases c:V < 0
    · rw [if_pos c]
      rw [show sgV V = -1 from by unfold sgV;rw [if_pos c]] at hsg
      clear hS hR hb hT hQ hd1 hd2 c
      go_enter Tryz.func22,Tryz.ntmps22
      go_wp2_with (first | (go_at_call 24;refine hsg.mono ?_;rintro e w1 ⟨rfl,g1⟩) | (go_at_call 53;refine (hnan _).mono ?_;rintro e w' ⟨rfl,hw'⟩;obtain rfl:=hw'.symm;clear hw'))
      exact bodyPost_ret (v:=.float .f64 9221120237041090561) (by simp [results,Tryz.results22,go_sem]) rfl ⟨rfl,g1⟩
    · rw [if_neg c]
      have hsn:¬ sgV V < 0:=by
        unfold sgV
        rw [if_neg c]
        by_cases z:V = 0
        · rw [if_pos z];omega
        · rw [if_neg z];omega
      have hnt:=natP_ ws V hR hb c
      have hld:=fun (W:World) (g:Kp w W)=>loadS (w:=W) (b:=b) (ws:=ws) (k:=k) (s:=0) ⟨hS.1,hS.2.kp g⟩
      have hst:=hS.state
      have hsq:=fun (W:World) (q:Option Addr) (e:Nat) (xs:List Int) (ha:Arr W q xs) (hw:Wd xs) (hl:xs.length = 134) (hc:xs.length≤e) (hv:val xs = V.natAbs) (g:Kp w W)=>tsqrt_ d hd1 hd2 q e xs V.natAbs W ha hw hl hc hv (hT.grown g) (Fq.Tab.grown hQ g)
      generalize sgV V = SG at *
      generalize ofW d false (rtR V.natAbs) (-1139) = R at *
      clear hR hb hT hQ hd1 hd2 c hS hnan
      go_enter Tryz.func22,Tryz.ntmps22
      go_upto_region 5 with (first | (go_at_call 24;refine hsg.mono ?_;rintro e w1 ⟨rfl,g1⟩;replace hst:=kkeep g1 hst))
      have hld:=hld w1 g1
      refine wp_region_list ?_
      refine wpl_val rfl _ rfl ?_
      refine wpl_val rfl _ rfl ?_
      refine wpl_field rfl _ _ _ rfl _ _ rfl (fa0 b _) ?_
      refine wpl_load rfl 39 _ rfl b 0 rfl _ hld ?_
      go_wp2_with (first | (go_at_call 49;refine (hnt _).mono ?_;rintro e w2 ⟨v,xs,rfl,ho,hwx,hxl,hvx,g2⟩;obtain ⟨q,e9,rfl,hx,hc⟩:=ho.arr;have hsq:=hsq w2 q e9 xs hx hwx hxl hc hvx (g1.trans g2);clear hxl hvx hx hc hwx ho) | (go_at_call 57;refine hsq.mono ?_;rintro e w3 ⟨rfl,g3⟩))
      exact bodyPost_ret (v:=.float .f64 R) (by simp [results,Tryz.results22,go_sem]) rfl ⟨rfl,(g1.trans g2).trans g3⟩
  · rw [if_neg s0]
    have hsg:=signX_ b ws k s (by omega) w hS
    have hst:=hS.state
    have hli:=limit_ s
    by_cases c:s = -1
    · rw [if_pos c]
      subst c
      rw [if_neg (by decide)] at hsg
      clear hS hR hb hT hQ hd1 hd2 hli s0 hs
      go_enter Tryz.func22,Tryz.ntmps22
      go_wp2_with (first | (go_at_call 24;refine hsg.mono ?_;rintro e w1 ⟨rfl,g1⟩) | (go_at_call 53;refine (hnan _).mono ?_;rintro e w' ⟨rfl,hw'⟩;obtain rfl:=hw'.symm;clear hw'))
      exact bodyPost_ret (v:=.float .f64 9221120237041090561) (by simp [results,Tryz.results22,go_sem]) rfl ⟨rfl,g1⟩
    · rw [if_neg c]
      have hsn:¬ (if s = 2 then 0 else s) < 0:=by split <;> omega
      have hsz:(s != 0) = true:=by simpa using s0
      generalize (if s = 2 then 0 else s) = SG at *
      generalize limW s = R at *
      clear hS hR hb hT hQ hd1 hd2 hs s0 c
      go_enter Tryz.func22,Tryz.ntmps22
      go_wp2_with (first | (go_at_call 24;refine hsg.mono ?_;rintro e w1 ⟨rfl,g1⟩;replace hst:=kkeep g1 hst) | (go_at_call 48;refine (hli _).mono ?_;rintro e w' ⟨rfl,hw'⟩;obtain rfl:=hw'.symm;clear hw'))
      exact bodyPost_ret (v:=.float .f64 R) (by simp [results,Tryz.results22,go_sem]) rfl ⟨rfl,g1⟩
theorem stroundG_ (d:Int) (hd1:-9223372036854775808≤d) (hd2:d < 9223372036854775808) (b:Nat) (V:Int) (k:Nat) (s:Int) (hb:s = 0→V.natAbs < wh) (w:World) (h:St w b V k s) (hT:Tab w) (hQ:Fq.Tab w):Calls Tryz.prog 18 #[.pointer (some ⟨b,0,none⟩),.int .i64 d] w fun e w'=>e = .returned (.float .f64 (rdW d V s))∧Kp w w':=by
  by_cases c:s = 0
  · exact stround_ d hd1 hd2 b V k s (hb c) w h hT hQ
  · obtain ⟨ws,h1,h2⟩:=h
    unfold rdW
    rw [if_neg c]
    exact roundX_ d b ws k s c w h2
set_option linter.unusedVariables false

theorem Rq.ag {w:World} {D:Nat→Value} {V:Int} {K T:Nat} {P M N:Bool} (h:Rq w D V K T P M N):∃ s1 p1 l1 c1 q1 k1 d1,(.agg #[D 0,D 1,D 2,D 3,D 4,D 5,D 6]:Value) = .agg #[.bool s1,.slice p1 l1 c1,.slice q1 k1 d1,.bool P,.bool M,.bool N,.int .u64 (T:Int)]∧Dy 0 w s1 p1 l1 c1 q1 k1 d1 V (K + K):=by
  obtain ⟨s1,p1,l1,c1,q1,k1,d1,⟨h0,h1,h2,h3,h4,h5,h6⟩,hD⟩:=h
  exact ⟨s1,p1,l1,c1,q1,k1,d1,by rw [h0,h1,h2,h3,h4,h5,h6],hD⟩
theorem Rq.of {w:World} {s1:Bool} {p1:Option Addr} {l1 c1:Nat} {q1:Option Addr} {k1 d1:Nat} {V:Int} {K T:Nat} {P M N:Bool} (h:Dy 0 w s1 p1 l1 c1 q1 k1 d1 V (K + K)):Rq w (sev (.bool s1) (.slice p1 l1 c1) (.slice q1 k1 d1) (.bool P) (.bool M) (.bool N) (.int .u64 (T:Int))) V K T P M N:=⟨s1,p1,l1,c1,q1,k1,d1,⟨rfl,rfl,rfl,rfl,rfl,rfl,rfl⟩,h⟩
def Pa (X:Nat) (w:World) (b:Nat) (D:Nat→Value) (K n:Nat):Prop:=∃ (U V:Int) (k T:Nat) (P M N:Bool) (s:Int),St w b (U + xV X K) ((k + 1) % 18446744073709551616) (grS ((k + 1) % 18446744073709551616) (jn s (xS X)))∧Rq w D V K T P M N∧Sq U V k T P M N s K n
def Pm (X Y:Nat) (w:World) (b:Nat) (D:Nat→Value) (K n:Nat):Prop:=∃ (U V:Int) (k T:Nat) (P M N:Bool) (s:Int),St w b (U + yV X Y) ((k + 1) % 18446744073709551616) (grS ((k + 1) % 18446744073709551616) (jn s (yS X Y)))∧Rq w D V K T P M N∧Sq U V k T P M N s K n

def Pn (w:World) (b:Nat) (D:Nat→Value) (K n:Nat):Prop:=∃ (U V:Int) (k T:Nat) (P M N:Bool) (s:Int),St w b (-U) k (if s = 2 then 2 else -s)∧Rq w D V K T P M N∧Sq U V k T P M N s K n
theorem Pa.kp {X:Nat} {w w':World} {b:Nat} {D:Nat→Value} {K n:Nat} (h:Pa X w b D K n) (g:Kp w w'):Pa X w' b D K n:=by
  obtain ⟨U,V,k,T,P,M,N,s,hS,hR,hQ9⟩:=h
  exact ⟨U,V,k,T,P,M,N,s,hS.kp g,hR.kp g,hQ9⟩
theorem Pm.kp {X Y:Nat} {w w':World} {b:Nat} {D:Nat→Value} {K n:Nat} (h:Pm X Y w b D K n) (g:Kp w w'):Pm X Y w' b D K n:=by
  obtain ⟨U,V,k,T,P,M,N,s,hS,hR,hQ9⟩:=h
  exact ⟨U,V,k,T,P,M,N,s,hS.kp g,hR.kp g,hQ9⟩
theorem Pn.kp {w w':World} {b:Nat} {D:Nat→Value} {K n:Nat} (h:Pn w b D K n) (g:Kp w w'):Pn w' b D K n:=by
  obtain ⟨U,V,k,T,P,M,N,s,hS,hR,hQ9⟩:=h
  exact ⟨U,V,k,T,P,M,N,s,hS.kp g,hR.kp g,hQ9⟩
theorem Slt.ty {w:World} {b:Nat} {D:Nat→Value} {K n:Nat} (h:Slt w b D K n):TY w b:=by
  obtain ⟨U,V,k,T,P,M,N,s,hS,hR,hQ9⟩:=h
  exact hS.ty
theorem pAdd_ (X:Nat) (hX:X < 18446744073709551616) (w:World) (b:Nat) (D:Nat→Value) (K n:Nat) (hK:K = 1074) (h:Slt w b D K n):Calls Tryz.prog 8 #[.pointer (some ⟨b,0,none⟩),.float .f64 X] w fun e w'=>(∃ v,e = .returned v)∧Pa X w' b D K n∧Kb b w w':=by
  have ty:=h.ty
  obtain ⟨U,V,k,T,P,M,N,s,hS,hR,hQ9⟩:=h
  refine (staddG_ X K hK hX b U k s w hS).mono ?_
  rintro e w' ⟨hv,h1,kb⟩
  exact ⟨hv,⟨U,V,k,T,P,M,N,s,h1,hR.kb kb ty,hQ9⟩,kb⟩
theorem pMul_ (X Y:Nat) (hX:X < 18446744073709551616) (hY:Y < 18446744073709551616) (w:World) (b:Nat) (D:Nat→Value) (K n:Nat) (h:Slt w b D K n):Calls Tryz.prog 11 #[.pointer (some ⟨b,0,none⟩),.float .f64 X,.float .f64 Y] w fun e w'=>(∃ v,e = .returned v)∧Pm X Y w' b D K n∧Kb b w w':=by
  have ty:=h.ty
  obtain ⟨U,V,k,T,P,M,N,s,hS,hR,hQ9⟩:=h
  refine (stmulG_ X Y hX hY b U k s w hS).mono ?_
  rintro e w' ⟨hv,h1,kb⟩
  exact ⟨hv,⟨U,V,k,T,P,M,N,s,h1,hR.kb kb ty,hQ9⟩,kb⟩
theorem pNeg_ (w:World) (b:Nat) (D:Nat→Value) (K n:Nat) (h:Slt w b D K n):Calls Tryz.prog 15 #[.pointer (some ⟨b,0,none⟩)] w fun e w'=>(∃ v,e = .returned v)∧Pn w' b D K n∧Kb b w w':=by
  have ty:=h.ty
  obtain ⟨U,V,k,T,P,M,N,s,hS,hR,hQ9⟩:=h
  obtain ⟨ws,r1,r2⟩:=hS
  have hok:=hQ9.ok
  refine (neg_ b ws U r1 k s (by omega) (by omega) w r2).mono ?_
  rintro e w' ⟨z,hv,h1,h2,kb⟩
  exact ⟨hv,⟨U,V,k,T,P,M,N,s,⟨z,h2,h1⟩,hR.kb kb ty,hQ9⟩,kb⟩
theorem rAdd_ (X:Nat) (hX:X < 18446744073709551616) (w:World) (b:Nat) (D:Nat→Value) (K n:Nat) (hK:K = 1074) (hn:n≤2000) (h:Pa X w b D K n):Calls Tryz.prog 10 #[.agg #[D 0,D 1,D 2,D 3,D 4,D 5,D 6],.int .u64 (X:Int)] w fun e w'=>∃ (s3:Bool) (p3:Option Addr) (l3 c3:Nat) (q3:Option Addr) (k3 d3:Nat) (P3 M3 N3:Bool) (T3:Nat),e = .returned (.agg #[.bool s3,.slice p3 l3 c3,.slice q3 k3 d3,.bool P3,.bool M3,.bool N3,.int .u64 (T3:Int)])∧Slt w' b (sev (.bool s3) (.slice p3 l3 c3) (.slice q3 k3 d3) (.bool P3) (.bool M3) (.bool N3) (.int .u64 (T3:Int))) K (n + 1)∧Kp w w':=by
  obtain ⟨U,V,k,T,P,M,N,s,hS,hR,hQ9⟩:=h
  obtain ⟨s1,p1,l1,c1,q1,k1,d1,ea,hD⟩:=hR.ag
  have hx:=xV_le X K hK
  have hz:Rz (fun _=>False) w (.agg #[D 0,D 1,D 2,D 3,D 4,D 5,D 6]) V K T P M N:=⟨s1,p1,l1,c1,q1,k1,d1,ea,hD,fun _ h=>h.elim⟩
  refine (refadd_ X K (4300 + n) hK hX (by omega) _ V T hQ9.2.1 P M N hQ9.2.2.2.2 (tb_lt K n _ hK hx) _ w (fun _ h=>h.elim) hz).mono ?_
  rintro e w' ⟨v',rfl,⟨s3,p3,l3,c3,q3,k3,d3,rfl,hD3,-⟩,g⟩
  exact ⟨s3,p3,l3,c3,q3,k3,d3,_,_,_,_,rfl,⟨_,_,_,_,_,_,_,_,hS.kp g,Rq.of hD3,hQ9.term hK (xV X K) (xS X) hx (tS_cases _ _)⟩,g⟩
theorem rMul_ (X Y:Nat) (hX:X < 18446744073709551616) (hY:Y < 18446744073709551616) (w:World) (b:Nat) (D:Nat→Value) (K n:Nat) (hK:K = 1074) (hn:n≤2000) (h:Pm X Y w b D K n):Calls Tryz.prog 12 #[.agg #[D 0,D 1,D 2,D 3,D 4,D 5,D 6],.int .u64 (X:Int),.int .u64 (Y:Int)] w fun e w'=>∃ (s3:Bool) (p3:Option Addr) (l3 c3:Nat) (q3:Option Addr) (k3 d3:Nat) (P3 M3 N3:Bool) (T3:Nat),e = .returned (.agg #[.bool s3,.slice p3 l3 c3,.slice q3 k3 d3,.bool P3,.bool M3,.bool N3,.int .u64 (T3:Int)])∧Slt w' b (sev (.bool s3) (.slice p3 l3 c3) (.slice q3 k3 d3) (.bool P3) (.bool M3) (.bool N3) (.int .u64 (T3:Int))) K (n + 1)∧Kp w w':=by
  obtain ⟨U,V,k,T,P,M,N,s,hS,hR,hQ9⟩:=h
  obtain ⟨s1,p1,l1,c1,q1,k1,d1,ea,hD⟩:=hR.ag
  have hx:=yV_le X Y K hK
  have hz:Rz (fun _=>False) w (.agg #[D 0,D 1,D 2,D 3,D 4,D 5,D 6]) V K T P M N:=⟨s1,p1,l1,c1,q1,k1,d1,ea,hD,fun _ h=>h.elim⟩
  refine (refmul_ X Y K (4300 + n) hK hX hY (by omega) _ V T hQ9.2.1 P M N hQ9.2.2.2.2 (tb_lt K n _ hK hx) _ w (fun _ h=>h.elim) hz).mono ?_
  rintro e w' ⟨v',rfl,⟨s3,p3,l3,c3,q3,k3,d3,rfl,hD3,-⟩,g⟩
  exact ⟨s3,p3,l3,c3,q3,k3,d3,_,_,_,_,rfl,⟨_,_,_,_,_,_,_,_,hS.kp g,Rq.of hD3,hQ9.term hK (yV X Y) (yS X Y) hx (yS_cases _ _)⟩,g⟩
theorem rNeg_ (w:World) (b:Nat) (D:Nat→Value) (K n:Nat) (hK:K = 1074) (hn:n≤2000) (h:Pn w b D K n):Calls Tryz.prog 16 #[.agg #[D 0,D 1,D 2,D 3,D 4,D 5,D 6]] w fun e w'=>∃ (s3:Bool) (p3:Option Addr) (l3 c3:Nat) (q3:Option Addr) (k3 d3:Nat) (P3 M3 N3:Bool) (T3:Nat),e = .returned (.agg #[.bool s3,.slice p3 l3 c3,.slice q3 k3 d3,.bool P3,.bool M3,.bool N3,.int .u64 (T3:Int)])∧Slt w' b (sev (.bool s3) (.slice p3 l3 c3) (.slice q3 k3 d3) (.bool P3) (.bool M3) (.bool N3) (.int .u64 (T3:Int))) K (n + 1)∧Kp w w':=by
  obtain ⟨U,V,k,T,P,M,N,s,hS,hR,hQ9⟩:=h
  obtain ⟨s1,p1,l1,c1,q1,k1,d1,ea,hD⟩:=hR.ag
  rw [ea]
  refine (rnegate4_ s1 p1 l1 c1 q1 k1 d1 P M N (T:Int) V (K + K) (4300 + n) (by omega) (by omega) hQ9.2.2.2.2 0 w hD).mono ?_
  rintro e w' ⟨s3,p3,l3,c3,q3,k3,d3,rfl,hD3,g⟩
  exact ⟨s3,p3,l3,c3,q3,k3,d3,M,P,N,T,rfl,⟨_,_,_,_,_,_,_,_,hS.kp g,Rq.of (hD3.mono (Nat.zero_le _)),hQ9.neg.up⟩,g⟩
theorem rNew_ (K n:Nat) (w:World):Calls Tryz.prog 5 #[] w fun e w'=>∃ (s3:Bool) (p3:Option Addr) (l3 c3:Nat) (q3:Option Addr) (k3 d3:Nat) (P3 M3 N3:Bool) (T3:Nat),e = .returned (.agg #[.bool s3,.slice p3 l3 c3,.slice q3 k3 d3,.bool P3,.bool M3,.bool N3,.int .u64 (T3:Int)])∧P3 = false∧M3 = false∧N3 = false∧T3 = 0∧Rq w' (sev (.bool s3) (.slice p3 l3 c3) (.slice q3 k3 d3) (.bool P3) (.bool M3) (.bool N3) (.int .u64 (T3:Int))) 0 K 0 false false false∧Kp w w':=by
  refine (new4_ K w).mono ?_
  rintro e w' ⟨v,rfl,h,g⟩
  obtain ⟨s3,p3,l3,c3,q3,k3,d3,rfl,hD3,-⟩:=h (fun _=>False) (fun _ h=>h.elim)
  exact ⟨s3,p3,l3,c3,q3,k3,d3,false,false,false,0,rfl,rfl,rfl,rfl,rfl,Rq.of hD3,g⟩
theorem bitsRat_ (d:Int) (neg:Bool) (a b:Nat) (exp:Int) (w:World):Calls Tryz.prog 17 #[.float .f64 (ratW d neg a b exp)] w fun e w'=>e = .returned (.int .u64 ((ratW d neg a b exp:Nat):Int))∧w' = w:=by
  have hpm:∀ R,pW 9223372036854775808 neg R = mdW neg R:=fun R=>rfl
  unfold ratW
  split
  · exact bitsNaN4_ _ loN w
  · split
    · split
      · exact bitsNaN4_ _ loN w
      · rw [← hpm];exact bits4_ _ (ordselfD _ _ (by decide)) w
    · split
      · exact bits4_ 0 (ordselfD false 0 (by decide)) w
      · rw [← hpm];exact bits4_ _ (ordselfD _ _ (fin_leD _ _)) w
theorem bitsLim_ (s:Int) (w:World):Calls Tryz.prog 17 #[.float .f64 (limW s)] w fun e w'=>e = .returned (.int .u64 ((limW s:Nat):Int))∧w' = w:=by
  unfold limW
  by_cases c2:s = 2
  · rw [if_pos c2];exact bitsNaN4_ _ loN w
  · rw [if_neg c2]
    by_cases c3:0≤s
    · rw [if_pos c3];exact bits4_ _ loI w
    · rw [if_neg c3];exact bits4_ _ loM w
theorem bitsOv_ (d m V s:Int) (w:World):Calls Tryz.prog 17 #[.float .f64 (ovW d m V s)] w fun e w'=>e = .returned (.int .u64 ((ovW d m V s:Nat):Int))∧w' = w:=by
  unfold ovW
  split
  · exact bitsNaN4_ _ loN w
  · split
    · exact bitsRat_ _ _ _ _ _ w
    · exact bitsLim_ s w
theorem bitsRt_ (d V s:Int) (w:World):Calls Tryz.prog 17 #[.float .f64 (rtW d V s)] w fun e w'=>e = .returned (.int .u64 ((rtW d V s:Nat):Int))∧w' = w:=by
  unfold rtW
  split
  · split
    · exact bitsNaN4_ _ loN w
    · rw [of_rat];exact bitsRat_ _ _ _ _ _ w
  · split
    · exact bitsNaN4_ _ loN w
    · exact bitsLim_ s w
theorem aRound_ (d:Int) (hd1:-9223372036854775808≤d) (hd2:d < 9223372036854775808) (w:World) (b:Nat) (D:Nat→Value) (K n:Nat) (hK:K = 1074) (hn:n≤2001) (h:Slt w b D K n):∃ R:Nat,(∀ W:World,Kp w W→Tab W→Fq.Tab W→Calls Tryz.prog 18 #[.pointer (some ⟨b,0,none⟩),.int .i64 d] W fun e w'=>e = .returned (.float .f64 R)∧Kp W w')∧(∀ W:World,Calls Tryz.prog 17 #[.float .f64 R] W fun e w'=>e = .returned (.int .u64 (R:Int))∧w' = W)∧∀ W:World,Kp w W→Calls Tryz.prog 19 #[.agg #[D 0,D 1,D 2,D 3,D 4,D 5,D 6],.int .i64 d] W fun e w'=>e = .returned (.int .u64 (R:Int))∧Kp W w':=by
  obtain ⟨U,V,k,T,P,M,N,s,hS,hR,hQ9⟩:=h
  refine ⟨rdW d U s,fun W g hT hQ=>stroundG_ d hd1 hd2 b U k s (fun h0=>by rw [(hQ9.val hK h0).1];exact (hQ9.val hK h0).2) W (hS.kp g) hT hQ,fun W=>bitsR4_ d U s W,fun W g=>?_⟩
  obtain ⟨s1,p1,l1,c1,q1,k1,d1,ea,hD⟩:=hR.ag
  rw [ea,hQ9.rd hK]
  exact rround_ d s1 p1 l1 c1 q1 k1 d1 P M N (T:Int) V (K + K) K (4300 + n) hK rfl (by omega) hQ9.2.2.2.2 0 W (hD.kp g)
theorem aOver_ (d m:Int) (hd1:-9223372036854775808≤d) (hd2:d < 9223372036854775808) (hm:m < 9223372036854775808) (w:World) (b:Nat) (D:Nat→Value) (K n:Nat) (hK:K = 1074) (hn:n≤2001) (h:Slt w b D K n):∃ R:Nat,(∀ W:World,Kp w W→Fq.Tab W→Calls Tryz.prog 20 #[.pointer (some ⟨b,0,none⟩),.int .i64 d,.int .i64 m] W fun e w'=>e = .returned (.float .f64 R)∧Kp W w')∧(∀ W:World,Calls Tryz.prog 17 #[.float .f64 R] W fun e w'=>e = .returned (.int .u64 (R:Int))∧w' = W)∧∀ W:World,Kp w W→Calls Tryz.prog 21 #[.agg #[D 0,D 1,D 2,D 3,D 4,D 5,D 6],.int .i64 d,.int .i64 m] W fun e w'=>e = .returned (.int .u64 (R:Int))∧Kp W w':=by
  obtain ⟨U,V,k,T,P,M,N,s,hS,hR,hQ9⟩:=h
  refine ⟨ovW d m U s,fun W g hQ=>stoverG_ d hd1 hd2 m hm b U k s (fun h0=>by rw [(hQ9.val hK h0).1];exact (hQ9.val hK h0).2) W (hS.kp g) hQ,fun W=>bitsOv_ d m U s W,fun W g=>?_⟩
  obtain ⟨s1,p1,l1,c1,q1,k1,d1,ea,hD⟩:=hR.ag
  rw [ea,hQ9.ov hK]
  exact rover4_ d m s1 p1 l1 c1 q1 k1 d1 P M N (T:Int) V K (4300 + n) hK hm (by omega) hQ9.2.2.2.2 0 W (hD.kp g)
theorem aRoot_ (d:Int) (hd1:-9223372036854775808≤d) (hd2:d < 9223372036854775808) (w:World) (b:Nat) (D:Nat→Value) (K n:Nat) (hK:K = 1074) (hn:n≤2001) (h:Slt w b D K n):∃ R:Nat,(∀ W:World,Kp w W→Tab W→Fq.Tab W→Calls Tryz.prog 22 #[.pointer (some ⟨b,0,none⟩),.int .i64 d] W fun e w'=>e = .returned (.float .f64 R)∧Kp W w')∧(∀ W:World,Calls Tryz.prog 17 #[.float .f64 R] W fun e w'=>e = .returned (.int .u64 (R:Int))∧w' = W)∧∀ W:World,Kp w W→Calls Tryz.prog 23 #[.agg #[D 0,D 1,D 2,D 3,D 4,D 5,D 6],.int .i64 d] W fun e w'=>e = .returned (.int .u64 (R:Int))∧Kp W w':=by
  obtain ⟨U,V,k,T,P,M,N,s,hS,hR,hQ9⟩:=h
  refine ⟨rtW d U s,fun W g hT hQ=>strootG_ d hd1 hd2 b U k s hQ9.ok (fun h0=>by rw [(hQ9.val hK h0).1];exact (hQ9.val hK h0).2) W (hS.kp g) hT hQ,fun W=>bitsRt_ d U s W,fun W g=>?_⟩
  obtain ⟨s1,p1,l1,c1,q1,k1,d1,ea,hD⟩:=hR.ag
  rw [ea,hQ9.rt hK]
  exact rroot4_ d s1 p1 l1 c1 q1 k1 d1 P M N (T:Int) V K (4300 + n) hK (by omega) hQ9.2.2.2.2 0 W (hD.kp g)
theorem aSign_ (w:World) (b:Nat) (D:Nat→Value) (K n:Nat) (hK:K = 1074) (hn:n≤2001) (h:Slt w b D K n):∃ R:Int,(∀ W:World,Kp w W→Calls Tryz.prog 24 #[.pointer (some ⟨b,0,none⟩)] W fun e w'=>e = .returned (.int .i64 R)∧Kp W w')∧∀ W:World,Kp w W→Calls Tryz.prog 25 #[.agg #[D 0,D 1,D 2,D 3,D 4,D 5,D 6]] W fun e w'=>e = .returned (.int .i64 R)∧Kp W w':=by
  obtain ⟨U,V,k,T,P,M,N,s,hS,hR,hQ9⟩:=h
  refine ⟨sgS U s,fun W g=>stsignG_ b U k s hQ9.ok (fun h0=>by rw [(hQ9.val hK h0).1];exact (hQ9.val hK h0).2) W (hS.kp g),fun W g=>?_⟩
  obtain ⟨s1,p1,l1,c1,q1,k1,d1,ea,hD⟩:=hR.ag
  rw [ea,hQ9.sg hK]
  exact rsign4_ s1 p1 l1 c1 q1 k1 d1 P M N (T:Int) V (K + K) (4300 + n) (by omega) hQ9.2.2.2.2 0 W (hD.kp g) (stI_ok P M N)
theorem aState_ (w:World) (b:Nat) (D:Nat→Value) (K n:Nat) (h:Slt w b D K n):∃ R:Int,(∀ W:World,Kp w W→Calls Tryz.prog 26 #[.pointer (some ⟨b,0,none⟩)] W fun e w'=>e = .returned (.int .i64 R)∧w' = W)∧∀ W:World,Calls Tryz.prog 27 #[.agg #[D 0,D 1,D 2,D 3,D 4,D 5,D 6]] W fun e w'=>e = .returned (.int .i64 R)∧Kp W w':=by
  obtain ⟨U,V,k,T,P,M,N,s,hS,hR,hQ9⟩:=h
  refine ⟨s,fun W g=>ststate_ b U k s W (hS.kp g),fun W=>?_⟩
  obtain ⟨s1,p1,l1,c1,q1,k1,d1,ea,hD⟩:=hR.ag
  rw [ea,hQ9.1]
  exact rstate_ s1 p1 l1 c1 q1 k1 d1 P M N (T:Int) W
set_option linter.unusedVariables false

def Pg (w:World) (b:Nat) (D E:Nat→Value) (K n:Nat):Prop:=∃ (U V:Int) (k T:Nat) (P M N:Bool) (s:Int) (U2 V2:Int) (k2 T2:Nat) (P2 M2 N2:Bool) (s2:Int),St w b (U + U2) ((k + k2) % 18446744073709551616) (grS ((k + k2) % 18446744073709551616) (jn s s2))∧Rq w D V K T P M N∧Rq w E V2 K T2 P2 M2 N2∧Sq U V k T P M N s K n∧Sq U2 V2 k2 T2 P2 M2 N2 s2 K n
theorem Pg.kp {w w':World} {b:Nat} {D E:Nat→Value} {K n:Nat} (h:Pg w b D E K n) (g:Kp w w'):Pg w' b D E K n:=by
  obtain ⟨U,V,k,T,P,M,N,s,U2,V2,k2,T2,P2,M2,N2,s2,h1,h2,h3,h4,h5⟩:=h
  exact ⟨U,V,k,T,P,M,N,s,U2,V2,k2,T2,P2,M2,N2,s2,h1.kp g,h2.kp g,h3.kp g,h4,h5⟩
theorem pMerge_ (w:World) (b c:Nat) (D E:Nat→Value) (K n:Nat) (h:Slt w b D K n) (h':Slt w c E K n):Calls Tryz.prog 13 #[.pointer (some ⟨b,0,none⟩),.pointer (some ⟨c,0,none⟩)] w fun e w'=>(∃ v,e = .returned v)∧Pg w' b D E K n∧Kb b w w':=by
  have ty:=h.ty
  obtain ⟨U,V,k,T,P,M,N,s,⟨ws,r1,r2⟩,hR,hQ⟩:=h
  obtain ⟨U2,V2,k2,T2,P2,M2,N2,s2,⟨ws2,r3,r4⟩,hR2,hQ2⟩:=h'
  refine (merge_ b c ws ws2 U U2 r1 r3 k k2 s s2 w r2 r4).mono ?_
  rintro e w' ⟨z,hv,h1,h2,kb⟩
  exact ⟨hv,⟨U,V,k,T,P,M,N,s,U2,V2,k2,T2,P2,M2,N2,s2,⟨z,h2,h1⟩,hR.kb kb ty,hR2.kb kb ty,hQ,hQ2⟩,kb⟩
theorem rMerge_ (w:World) (b:Nat) (D E:Nat→Value) (K n:Nat) (hK:K = 1074) (hn:n≤2000) (h:Pg w b D E K n):Calls Tryz.prog 14 #[.agg #[D 0,D 1,D 2,D 3,D 4,D 5,D 6],.agg #[E 0,E 1,E 2,E 3,E 4,E 5,E 6]] w fun e w'=>∃ (s3:Bool) (p3:Option Addr) (l3 c3:Nat) (q3:Option Addr) (k3 d3:Nat) (P3 M3 N3:Bool) (T3:Nat),e = .returned (.agg #[.bool s3,.slice p3 l3 c3,.slice q3 k3 d3,.bool P3,.bool M3,.bool N3,.int .u64 (T3:Int)])∧Slt w' b (sev (.bool s3) (.slice p3 l3 c3) (.slice q3 k3 d3) (.bool P3) (.bool M3) (.bool N3) (.int .u64 (T3:Int))) K (n + 1)∧Kp w w':=by
  obtain ⟨U,V,k,T,P,M,N,s,U2,V2,k2,T2,P2,M2,N2,s2,hS,hR,hR2,hQ,hQ2⟩:=h
  obtain ⟨s1,p1,l1,c1,q1,k1,d1,ea,hD⟩:=hR.ag
  obtain ⟨s5,p5,l5,c5,q5,k5,d5,eb,hD2⟩:=hR2.ag
  rw [ea,eb]
  refine (rmerge4_ s1 p1 l1 c1 q1 k1 d1 s5 p5 l5 c5 q5 k5 d5 P M N (nq N T T2) P2 M2 N2 _ _ _ rfl rfl rfl T T2 ((tq T T2:Nat):Int) V V2 (K + K) (4300 + n) (by omega) (by omega) hQ.2.2.2.2 hQ2.2.2.2.2 0 0 w hD hD2 (moreG_ s1 p1 l1 c1 q1 k1 d1 P M N T T2 hQ.2.1 hQ2.2.1)).mono ?_
  rintro e w' ⟨s3,p3,l3,c3,q3,k3,d3,rfl,hD3,g⟩
  exact ⟨s3,p3,l3,c3,q3,k3,d3,P || P2,M || M2,nq N T T2 || N2,tq T T2,rfl,⟨_,_,_,_,_,_,_,_,hS.kp g,Rq.of (hD3.mono (Nat.zero_le _)),hQ.merge hQ2⟩,g⟩
theorem Slt.copy {w:World} {b:Nat} {D:Nat→Value} {K n:Nat} (h:Slt w b D K n):∃ X:Array Value,Bk w b X 41∧X.size = 69∧X.all (·.oneCell') = true∧Slt (w.alloc (.cells X 41)) w.heap.size D K n:=by
  obtain ⟨U,V,k,T,P,M,N,s,⟨ws,r1,r2,r3⟩,hR,hQ⟩:=h
  refine ⟨_,r3,by rw [Array.size_append];unfold wc;simp [r2],by rw [Array.all_append,wc_one];simp [Value.oneCell'],⟨U,V,k,T,P,M,N,s,⟨ws,r1,r2,Bk.new w _ _⟩,hR.kp ((Kp.refl w).alloc _),hQ⟩⟩
theorem Slt.fresh {w:World} {b:Nat} {D:Nat→Value} {K:Nat} (n:Nat) (h:St w b 0 0 0) (g:Rq w D 0 K 0 false false false):Slt w b D K n:=⟨0,0,0,0,false,false,false,0,h,g,Sq.zero K n⟩
structure Pi (w wr:World) (bm bd K i e:Nat) (B:Nat→Nat) (D:Nat→Nat→Value):Prop where
  mine:wr.rowIs bm 24 4 (fun j=>.pointer (if j < i then some ⟨B j,0,none⟩ else none))
  docs:wr.rowIs bd 31 28 (fun q=>D (q / 7) (q % 7))
  each:∀ j,j < e→Slt wr (B j) (D j) K 0
  blk:∀ j,j < i→bd < B j∧B j < wr.heap.size
  one:∀ j j',j < i→j' < i→B j = B j'→j = j'
  low:w.heap.size≤bm
  bmd:bm < bd
  old:Kp w wr
theorem Pi.all {w wr:World} {bm bd K:Nat} {B:Nat→Nat} {D:Nat→Nat→Value} (h:Pi w wr bm bd K 4 4 B D):Po w wr bm bd K 0 4 B D :=
  ⟨World.rowIs.congr h.mine (fun j hj=>by rw [if_pos hj]),h.docs,fun j h1 _=>h.each j h1,h.blk,h.one,h.low,h.bmd,h.old⟩
theorem Pi.kp {w wr w':World} {bm bd K i e:Nat} {B:Nat→Nat} {D:Nat→Nat→Value} (h:Pi w wr bm bd K i e B D) (g:Kp wr w'):Pi w w' bm bd K i e B D where
  mine:=World.rowIs.of_block h.mine (Below.block g bm (World.rowIs.lt h.mine))
  docs:=World.rowIs.of_block h.docs (Below.block g bd (World.rowIs.lt h.docs))
  each:=fun j h1=>(h.each j h1).kp g
  blk:=fun j hj=>⟨(h.blk j hj).1,Nat.lt_of_lt_of_le (h.blk j hj).2 (Below.size g)⟩
  one:=h.one
  low:=h.low
  bmd:=h.bmd
  old:=h.old.trans g
theorem Pi.point {w wr:World} {bm bd K i:Nat} {B:Nat→Nat} {D:Nat→Nat→Value} (h:Pi w wr bm bd K i i B D) (b:Nat) (hb:b < wr.heap.size) (hb2:bd < b) (hn:∀ j,j < i→B j < b):Pi w (wr.setCell ⟨bm,i,none⟩ (.pointer (some ⟨b,0,none⟩))) bm bd K (i + 1) i (fun j=>if j = i then b else B j) D∧Kb bm wr (wr.setCell ⟨bm,i,none⟩ (.pointer (some ⟨b,0,none⟩)))∧TY wr bm:=by
  have kb:Kb bm wr (wr.setCell ⟨bm,i,none⟩ (.pointer (some ⟨b,0,none⟩))):=(Kb.refl bm wr).setCell i _
  have ty:=rowIs_ty h.mine (by decide)
  refine ⟨⟨?_,World.rowIs.of_block h.docs (kb.2.2.2.2 bd (World.rowIs.lt h.docs) (by have:=h.bmd;omega)),fun j h1=>?_,fun j hj=>?_,fun j j' hj hj' e=>?_,h.low,h.bmd,kb.kp h.old h.low⟩,kb,ty⟩
  · refine World.rowIs.congr (World.rowIs.set h.mine i (.pointer (some ⟨b,0,none⟩))) (fun j _=>?_)
    by_cases c:j = i
    · simp [c]
    · by_cases d:j < i
      · simp [c,d,show j < i + 1 from by omega]
      · simp [c,d,show ¬ j < i + 1 from by omega]
  · rw [if_neg (by omega)]
    exact (h.each j h1).kb kb ty (by have:=(h.blk j h1).1;have:=h.bmd;omega)
  · by_cases c:j = i
    · rw [if_pos c];exact ⟨hb2,Nat.lt_of_lt_of_le hb kb.2.2.2.1⟩
    · rw [if_neg c];exact ⟨(h.blk j (by omega)).1,Nat.lt_of_lt_of_le (h.blk j (by omega)).2 kb.2.2.2.1⟩
  · by_cases c:j = i
    · by_cases d:j' = i
      · rw [c,d]
      · rw [if_pos c,if_neg d] at e
        have:=hn j' (by omega);omega
    · by_cases d:j' = i
      · rw [if_neg c,if_pos d] at e
        have:=hn j (by omega);omega
      · rw [if_neg c,if_neg d] at e
        exact h.one j j' (by omega) (by omega) e
theorem Pi.doc {w wr:World} {bm bd K i:Nat} {B:Nat→Nat} {D:Nat→Nat→Value} (h:Pi w wr bm bd K (i + 1) i B D) (hi:i < 4) (o:Nat) (ho:o = i * 7) (v0 v1 v2 v3 v4 v5 v6:Value):Pi w (((((((wr.setCell ⟨bd,o,none⟩ v0).setCell ⟨bd,o + 1,none⟩ v1).setCell ⟨bd,o + 2,none⟩ v2).setCell ⟨bd,o + 3,none⟩ v3).setCell ⟨bd,o + 4,none⟩ v4).setCell ⟨bd,o + 5,none⟩ v5).setCell ⟨bd,o + 6,none⟩ v6) bm bd K (i + 1) i B (fun j q=>if j = i then sev v0 v1 v2 v3 v4 v5 v6 q else D j q)∧Kb bd wr (((((((wr.setCell ⟨bd,o,none⟩ v0).setCell ⟨bd,o + 1,none⟩ v1).setCell ⟨bd,o + 2,none⟩ v2).setCell ⟨bd,o + 3,none⟩ v3).setCell ⟨bd,o + 4,none⟩ v4).setCell ⟨bd,o + 5,none⟩ v5).setCell ⟨bd,o + 6,none⟩ v6)∧TY wr bd:=by
  have kb:Kb bd wr (((((((wr.setCell ⟨bd,o,none⟩ v0).setCell ⟨bd,o + 1,none⟩ v1).setCell ⟨bd,o + 2,none⟩ v2).setCell ⟨bd,o + 3,none⟩ v3).setCell ⟨bd,o + 4,none⟩ v4).setCell ⟨bd,o + 5,none⟩ v5).setCell ⟨bd,o + 6,none⟩ v6):=((((((((Kb.refl bd wr).setCell o v0).setCell (o + 1) v1).setCell (o + 2) v2).setCell (o + 3) v3).setCell (o + 4) v4).setCell (o + 5) v5).setCell (o + 6) v6)
  have ty:=rowIs_ty h.docs (by decide)
  refine ⟨⟨World.rowIs.of_block h.mine (kb.2.2.2.2 bm (World.rowIs.lt h.mine) (by have:=h.bmd;omega)), ?_,fun j h1=>?_,fun j hj=>⟨(h.blk j hj).1,Nat.lt_of_lt_of_le (h.blk j hj).2 kb.2.2.2.1⟩,h.one,h.low,h.bmd,kb.kp h.old (by have:=h.bmd;have:=h.low;omega)⟩,kb,ty⟩
  · refine World.rowIs.congr (World.rowIs.set (World.rowIs.set (World.rowIs.set (World.rowIs.set (World.rowIs.set (World.rowIs.set (World.rowIs.set h.docs o v0) (o + 1) v1) (o + 2) v2) (o + 3) v3) (o + 4) v4) (o + 5) v5) (o + 6) v6) (fun q hq=>?_)
    by_cases c:q / 7 = i
    · have e:q = i * 7 + q % 7:=by omega
      have hm:q % 7 < 7:=Nat.mod_lt _ (by decide)
      rw [if_pos c]
      generalize q % 7 = r at *
      subst ho
      rw [e]
      rcases (by omega:r = 0∨r = 1∨r = 2∨r = 3∨r = 4∨r = 5∨r = 6) with rfl | rfl | rfl | rfl | rfl | rfl | rfl <;> simp [sev]
    · rw [if_neg c]
      have:∀ t,t < 7→q≠o + t:=fun t ht e=>c (by omega)
      have h0:=this 0 (by decide)
      have h1:=this 1 (by decide)
      have h2:=this 2 (by decide)
      have h3:=this 3 (by decide)
      have h4:=this 4 (by decide)
      have h5:=this 5 (by decide)
      have h6:=this 6 (by decide)
      simp only [Nat.add_zero] at h0
      simp [h0,h1,h2,h3,h4,h5,h6]
  · have e:(fun q=>if j = i then sev v0 v1 v2 v3 v4 v5 v6 q else D j q) = D j:=by funext q;rw [if_neg (by omega)]
    rw [e]
    exact (h.each j h1).kb kb ty (by have:=(h.blk j (by omega)).1;omega)
theorem Pi.close {w wr:World} {bm bd K i:Nat} {B:Nat→Nat} {D:Nat→Nat→Value} (h:Pi w wr bm bd K (i + 1) i B D) (hs:Slt wr (B i) (D i) K 0):Pi w wr bm bd K (i + 1) (i + 1) B D :=
  ⟨h.mine,h.docs,fun j h1=>by
    by_cases c:j = i
    · rw [c];exact hs
    · exact h.each j (by omega),h.blk,h.one,h.low,h.bmd,h.old⟩
theorem Pi.cells {w wr:World} {bm bd K i e:Nat} {B:Nat→Nat} {D:Nat→Nat→Value} (h:Pi w wr bm bd K i e B D) (j:Nat) (hj:j < 4) (q:Nat) (hq:q < 7):wr.cell? ⟨bd,j * 7 + q,none⟩ = some (D j q)∧wr.frozen? ⟨bd,j * 7 + q,none⟩ = false:=by
  have h1:=World.rowIs.cell h.docs (i:=j * 7 + q) (by omega)
  rw [show (j * 7 + q) / 7 = j from by omega,show (j * 7 + q) % 7 = q from by omega] at h1
  exact ⟨h1,World.rowIs.frozen h.docs _⟩
set_option linter.unusedVariables false

abbrev Stp:Type:=Int × Int × Int × Nat × Nat × Int × Int
def ArrP (w:World) (p:Option Addr) (L:List Stp):Prop:=L = []∨∃ b off,p = some ⟨b,off,none⟩∧∀ j,j < L.length→w.cell? ⟨b,off + j * 7,none⟩ = some (.int .i64 (L.getD j (0,0,0,0,0,0,0)).1)∧w.cell? ⟨b,off + j * 7 + 1,none⟩ = some (.int .i64 (L.getD j (0,0,0,0,0,0,0)).2.1)∧w.cell? ⟨b,off + j * 7 + 2,none⟩ = some (.int .i64 (L.getD j (0,0,0,0,0,0,0)).2.2.1)∧w.cell? ⟨b,off + j * 7 + 3,none⟩ = some (.int .u64 (((L.getD j (0,0,0,0,0,0,0)).2.2.2.1:Nat):Int))∧w.cell? ⟨b,off + j * 7 + 4,none⟩ = some (.int .u64 (((L.getD j (0,0,0,0,0,0,0)).2.2.2.2.1:Nat):Int))∧w.cell? ⟨b,off + j * 7 + 5,none⟩ = some (.int .i64 (L.getD j (0,0,0,0,0,0,0)).2.2.2.2.2.1)∧w.cell? ⟨b,off + j * 7 + 6,none⟩ = some (.int .i64 (L.getD j (0,0,0,0,0,0,0)).2.2.2.2.2.2)
def StpOk (L:List Stp):Prop:=∀ j,j < L.length→(L.getD j (0,0,0,0,0,0,0)).2.2.2.1 < 18446744073709551616∧(L.getD j (0,0,0,0,0,0,0)).2.2.2.2.1 < 18446744073709551616∧(-9223372036854775808≤(L.getD j (0,0,0,0,0,0,0)).2.2.2.2.2.1∧(L.getD j (0,0,0,0,0,0,0)).2.2.2.2.2.1 < 9223372036854775808)∧(L.getD j (0,0,0,0,0,0,0)).2.2.2.2.2.2 < 9223372036854775808
theorem ArrP.kp {w w':World} {p:Option Addr} {L:List Stp} (h:ArrP w p L) (g:Kp w w'):ArrP w' p L:=by
  rcases h with h | ⟨b,off,e,hc⟩
  · exact Or.inl h
  · refine Or.inr ⟨b,off,e,fun j hj=>?_⟩
    obtain ⟨h0,h1,h2,h3,h4,h5,h6⟩:=hc j hj
    exact ⟨kkeep g h0,kkeep g h1,kkeep g h2,kkeep g h3,kkeep g h4,kkeep g h5,kkeep g h6⟩
theorem and3 (n:Int):bits .and .i64 n 3 = n % 4:=by
  have h3:(BitVec.ofInt 64 3).toNat = 2 ^ 2 - 1:=by decide
  have key:(BitVec.ofInt 64 n &&& BitVec.ofInt 64 3).toNat = (n % ((2 ^ 64:Nat):Int)).toNat % 2 ^ 2:=by
    rw [BitVec.toNat_and,BitVec.toNat_ofInt,h3,Nat.and_two_pow_sub_one_eq_mod]
  show IntKind.i64.wrap ((BitVec.ofInt 64 n &&& BitVec.ofInt 64 3).toNat:Nat) = n % 4
  rw [key,IntKind.wrap_i64]
  omega
theorem slot_ (S:Int):∃ m:Nat,m < 4∧∀ w:World,Calls Tryz.prog 7 #[.int .i64 S] w fun e w'=>e = .returned (.int .i64 (m:Int))∧w' = w:=by
  refine ⟨(S % 4).toNat,by omega,fun w=>?_⟩
  have h:bits .and .i64 S 3 = (((S % 4).toNat:Nat):Int):=by rw [and3];omega
  generalize (((S % 4).toNat:Nat):Int) = R at *
  go_enter Tryz.func7,Tryz.ntmps7
  go_wp2
  exact bodyPost_ret (v:=.int .i64 R) (by simp [results,Tryz.results7,go_sem]) rfl ⟨rfl,rfl⟩
set_option linter.unusedVariables false
set_option linter.unusedSimpArgs false

theorem load30 (w:World) (b o:Nat) (x0 x1 x2 x3 x4 x5 x6:Value) (e0:w.cell? ⟨b,o,none⟩ = some x0) (e1:w.cell? ⟨b,o + 1,none⟩ = some x1) (e2:w.cell? ⟨b,o + 2,none⟩ = some x2) (e3:w.cell? ⟨b,o + 3,none⟩ = some x3) (e4:w.cell? ⟨b,o + 4,none⟩ = some x4) (e5:w.cell? ⟨b,o + 5,none⟩ = some x5) (e6:w.cell? ⟨b,o + 6,none⟩ = some x6):(loadVar 30 ⟨b,o,none⟩).run Tryz.prog w = .ok (.agg #[x0,x1,x2,x3,x4,x5,x6]) w :=
  run_loadVar_mid (P:=Tryz.prog) w b o 30 [x0,x1,x2,x3,x4,x5,x6] _ (fun j v hv=>by
  match j,hv with
  | 0,hv=>simp at hv;rw [← hv];exact e0
  | 1,hv=>simp at hv;rw [← hv];exact e1
  | 2,hv=>simp at hv;rw [← hv];exact e2
  | 3,hv=>simp at hv;rw [← hv];exact e3
  | 4,hv=>simp at hv;rw [← hv];exact e4
  | 5,hv=>simp at hv;rw [← hv];exact e5
  | 6,hv=>simp at hv;rw [← hv];exact e6
  | n + 7,hv=>simp at hv) Tryz.underlying30 rfl (by kernel_rfl)
theorem load30a (w:World) (b o:Nat) (x0 x1 x2 x3 x4 x5 x6:Value) (e0:w.cell? ⟨b,o,none⟩ = some x0) (e1:w.cell? ⟨b,o + 1,none⟩ = some x1) (e2:w.cell? ⟨b,o + 2,none⟩ = some x2) (e3:w.cell? ⟨b,o + 3,none⟩ = some x3) (e4:w.cell? ⟨b,o + 4,none⟩ = some x4) (e5:w.cell? ⟨b,o + 5,none⟩ = some x5) (e6:w.cell? ⟨b,o + 6,none⟩ = some x6):(Instr.loadAt 30 (.pointer (some ⟨b,o,none⟩))).run Tryz.prog w = .ok (.agg #[x0,x1,x2,x3,x4,x5,x6]) w:=by
  simp only [Instr.loadAt,Instr.sureAddr,Sem.run_bind,Sem.run_pure,Result.andThen]
  exact load30 w b o x0 x1 x2 x3 x4 x5 x6 e0 e1 e2 e3 e4 e5 e6
theorem exL {P:Program} {ρ:Operand→Value} {op:Oper} {t:TypeId} {x:Operand} {w:World} {v:Value} (ho:op.op = .load t x) (p:Value) (hx:ρ x = p) (hr:(Instr.loadAt t p).run P w = .ok v w):(execOp ρ op).run P w = .ok (.value v) w:=by
  unfold execOp
  simp only [ho,hx,Sem.run_bind,Sem.run_pure,Result.andThen_ok,hr]
theorem putX (w:World) (Z X:Array Value) (hZ:Z.size = 69) (hX:X.size = 69) (h1:X.all (·.oneCell') = true):(storeCells ⟨w.heap.size,0,none⟩ X.toList 0).run Tryz.prog (w.alloc (.cells Z 41)) = .ok () (w.alloc (.cells X 41)):=by
  have:=run_storeVar_new (P:=Tryz.prog) w 41 Z X (by rw [hX];kernel_rfl) (by rw [hZ,hX]) h1
  have hi:(Tryz.prog.info? 41).map (·.size) = some 69:=by kernel_rfl
  cases hq:Tryz.prog.info? 41 with
  | none=>simp [hq] at hi
  | some i =>
    have hs:X.size = i.size:=by simp [hq] at hi;rw [hX,hi]
    simpa [storeVar,sizeOf,typeInfo,hq,Value.cells,hs] using this
theorem store30 (w:World) (b o:Nat) (x0 x1 x2 x3 x4 x5 x6:Value) (e0:w.cell? ⟨b,o,none⟩ = some x0) (e1:w.cell? ⟨b,o + 1,none⟩ = some x1) (e2:w.cell? ⟨b,o + 2,none⟩ = some x2) (e3:w.cell? ⟨b,o + 3,none⟩ = some x3) (e4:w.cell? ⟨b,o + 4,none⟩ = some x4) (e5:w.cell? ⟨b,o + 5,none⟩ = some x5) (e6:w.cell? ⟨b,o + 6,none⟩ = some x6) (z0:w.frozen? ⟨b,o,none⟩ = false) (z1:w.frozen? ⟨b,o + 1,none⟩ = false) (z2:w.frozen? ⟨b,o + 2,none⟩ = false) (z3:w.frozen? ⟨b,o + 3,none⟩ = false) (z4:w.frozen? ⟨b,o + 4,none⟩ = false) (z5:w.frozen? ⟨b,o + 5,none⟩ = false) (z6:w.frozen? ⟨b,o + 6,none⟩ = false) s3 p3 l3 c3 q3 k3 d3 (P3 M3 N3:Bool) (T3:Nat):(storeVar 30 ⟨b,o,none⟩ (.agg #[.bool s3,.slice p3 l3 c3,.slice q3 k3 d3,.bool P3,.bool M3,.bool N3,.int .u64 (T3:Int)])).run Tryz.prog w = .ok () (((((((w.setCell ⟨b,o,none⟩ (.bool s3)).setCell ⟨b,o + 1,none⟩ (.slice p3 l3 c3)).setCell ⟨b,o + 2,none⟩ (.slice q3 k3 d3)).setCell ⟨b,o + 3,none⟩ (.bool P3)).setCell ⟨b,o + 4,none⟩ (.bool M3)).setCell ⟨b,o + 5,none⟩ (.bool N3)).setCell ⟨b,o + 6,none⟩ (.int .u64 (T3:Int))):=by
  simp [storeVar,go_sem,e0,e1,e2,e3,e4,e5,e6,z0,z1,z2,z3,z4,z5,z6]
end Go.Proofs.YtfhcmabejagknaaGreatDoor
