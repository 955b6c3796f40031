import Derived.Test.YtcckdceijgdgoaaKPTz
namespace Go.Proofs.Ytcckdceijgdgoaa
open Go.RowKit
open Go
namespace B8
set_option linter.unusedVariables false
set_option maxRecDepth 100000 in
set_option maxHeartbeats 8000000 in
theorem keptJ (Q : Exit → Act → World → Prop) (p : Option Addr) (c N : Nat) (ls : List (Nat × Nat)) (w : World) (HL : Hid (AG ULV w p ls ∧ ls.length = N ∧ Wq ls)) (lx : N ≤ 1048576) (v : Value) (j : Nat) (ks : List (Nat × Nat)) (wr : World) (hlk : ks.length = 6 * j) (hks : KS wr w.heap.size v ks 0) (hkp : Kp w wr) (c1 : j < N) (c2 : j < 40) (cz : 0 < j) (u1 u2 u5 u6 u7 u8 u9 u10 u11 u12 u13 u14 u15 u16 u17 u18 u19 u20 u21 u22 u23 u24 u25 u26 u27 u28 u29 u30 u31 u32 u33 u34 u35 u36 u37 u38 u39 u40 u41 u42 u43 u44 u45 u46 u47 u48 u49 u50 u51 u52 u53 u54 u55 u56 u57 u58 u59 u60 u61 u62 u63 u64 u65 u66 u67 u68 u69 u70 u71 u72 u73 u74 u75 u76 u77 u78 u79 u80 u81 u82 u83 u84 u85 u86 u87 u88 u89 u90 u91 u92 u93 u94 u95 u96 u97 u98 u99 u100 u101 u102 u103 u104 u105 u106 u107 u108 u109 u110 u111 u112 u113 u114 u115 u116 u117 u118 u119 u120 u121 u122 u123 u124 u125 u126 u127 u128 u129 u130 u131 u132 u133 u134 u135 u136 u137 u138 u139 u140 u141 u142 u143 u144 u145 u146 u147 u148 u149 u150 u151 u152 u153 u154 u155 u156 u157 u158 u159 u160 u161 u162 u163 u164 u165 u166 u167 u168 u169 u170 u171 u172 u173 u174 u175 u176 u177 u178 u179 u180 u181 u182 u183 u184 u185 u186 u187 u188 u189 u190 u191 u192 u193 u194 u195 u196 u197 u198 u199 u200 u201 u202 u203 u204 u205 u206 u207 u208 u209 u210 u211 u212 u213 u214 u215 u216 u217 u218 u219 u220 u221 u222 u223 u224 u225 u226 u227 u228 u229 u230 u231 u232 u233 u234 u235 u236 u237 u238 u239 u240 u241 u242 u243 u244 u245 u246 u247 u248 u249 u250 u251 u252 : Value) (hQ : ∀ (x2 x3 x5 x6 x7 x8 x9 x10 x31 x32 x33 x34 x35 x36 x37 x38 x39 x40 x41 x42 x43 x44 x45 x46 x47 x48 x49 x50 x51 x52 x53 x54 x55 x56 x57 x58 x59 x60 x61 x62 x63 x64 x65 x66 x67 x68 x69 x70 x71 x72 x73 x74 x75 x76 x77 x78 x79 x80 x81 x82 x83 x84 x85 x86 x87 x88 x89 x90 x91 x92 x93 x94 x95 x96 x97 x98 x99 x100 x101 x102 x103 x104 x105 x106 x107 x108 x109 x110 x111 x112 x113 x114 x115 x116 x117 x118 x119 x120 x121 x122 x123 x124 x125 x126 x127 x128 x129 x130 x131 x132 x133 x134 x135 x136 x137 x138 x139 x140 x141 : Value) (w' : World) (ks' : List (Nat × Nat)), ks'.length = 6 * j + 6 → KS w' w.heap.size x3 ks' 0 → Kp w w' → Q .normal ⟨#[.slice p N c, u1, x2, x3, .int .i64 (j : Int), x5, x6, x7, x8, x9, x10, u11, u12, u13, u14, u15, u16, u17, u18, u19, u20, u21, u22, u23, u24, u25, u26, u27, u28, u29, u30, x31, x32, x33, x34, x35, x36, x37, x38, x39, x40, x41, x42, x43, x44, x45, x46, x47, x48, x49, x50, x51, x52, x53, x54, x55, x56, x57, x58, x59, x60, x61, x62, x63, x64, x65, x66, x67, x68, x69, x70, x71, x72, x73, x74, x75, x76, x77, x78, x79, x80, x81, x82, x83, x84, x85, x86, x87, x88, x89, x90, x91, x92, x93, x94, x95, x96, x97, x98, x99, x100, x101, x102, x103, x104, x105, x106, x107, x108, x109, x110, x111, x112, x113, x114, x115, x116, x117, x118, x119, x120, x121, x122, x123, x124, x125, x126, x127, x128, x129, x130, x131, x132, x133, x134, x135, x136, x137, x138, x139, x140, x141, u142, u143, u144, u145, u146, u147, u148, u149, u150, u151, u152, u153, u154, u155, u156, u157, u158, u159, u160, u161, u162, u163, u164, u165, u166, u167, u168, u169, u170, u171, u172, u173, u174, u175, u176, u177, u178, u179, u180, u181, u182, u183, u184, u185, u186, u187, u188, u189, u190, u191, u192, u193, u194, u195, u196, u197, u198, u199, u200, u201, u202, u203, u204, u205, u206, u207, u208, u209, u210, u211, u212, u213, u214, u215, u216, u217, u218, u219, u220, u221, u222, u223, u224, u225, u226, u227, u228, u229, u230, u231, u232, u233, u234, u235, u236, u237, u238, u239, u240, u241, u242, u243, u244, u245, u246, u247, u248, u249, u250, u251, u252], []⟩ w') : Code.wp Try.prog (roundC1 (Try.f6.body.getD .skip)) Q ⟨#[.slice p N c, u1, u2, v, .int .i64 (j : Int), u5, u6, u7, u8, u9, u10, u11, u12, u13, u14, u15, u16, u17, u18, u19, u20, u21, u22, u23, u24, u25, u26, u27, u28, u29, u30, u31, u32, u33, u34, u35, u36, u37, u38, u39, u40, u41, u42, u43, u44, u45, u46, u47, u48, u49, u50, u51, u52, u53, u54, u55, u56, u57, u58, u59, u60, u61, u62, u63, u64, u65, u66, u67, u68, u69, u70, u71, u72, u73, u74, u75, u76, u77, u78, u79, u80, u81, u82, u83, u84, u85, u86, u87, u88, u89, u90, u91, u92, u93, u94, u95, u96, u97, u98, u99, u100, u101, u102, u103, u104, u105, u106, u107, u108, u109, u110, u111, u112, u113, u114, u115, u116, u117, u118, u119, u120, u121, u122, u123, u124, u125, u126, u127, u128, u129, u130, u131, u132, u133, u134, u135, u136, u137, u138, u139, u140, u141, u142, u143, u144, u145, u146, u147, u148, u149, u150, u151, u152, u153, u154, u155, u156, u157, u158, u159, u160, u161, u162, u163, u164, u165, u166, u167, u168, u169, u170, u171, u172, u173, u174, u175, u176, u177, u178, u179, u180, u181, u182, u183, u184, u185, u186, u187, u188, u189, u190, u191, u192, u193, u194, u195, u196, u197, u198, u199, u200, u201, u202, u203, u204, u205, u206, u207, u208, u209, u210, u211, u212, u213, u214, u215, u216, u217, u218, u219, u220, u221, u222, u223, u224, u225, u226, u227, u228, u229, u230, u231, u232, u233, u234, u235, u236, u237, u238, u239, u240, u241, u242, u243, u244, u245, u246, u247, u248, u249, u250, u251, u252], []⟩ wr := by
  conv => arg 2; whnf
  have hj1 := cz
  have hjN9 : (j : Int) < (N : Int) := by omega
  obtain ⟨hx, hN, hw⟩ := HL.out
  obtain ⟨b, off, rfl, hc2⟩ := hx.at (k := j) (by omega)
  have e1 : wr.cell? ⟨b, off + j * 2, none⟩ = some (.int .u64 (((ls.getD j (0, 0)).1 : Nat) : Int)) := kkeep hkp (hc2 j (by omega)).1
  have e2 : wr.cell? ⟨b, off + j * 2 + 1, none⟩ = some (.int .u64 (((ls.getD j (0, 0)).2 : Nat) : Int)) := kkeep hkp (hc2 j (by omega)).2
  have e1w : w.cell? ⟨b, off + j * 2, none⟩ = some (.int .u64 (((ls.getD j (0, 0)).1 : Nat) : Int)) := (hc2 j (by omega)).1
  have e2w : w.cell? ⟨b, off + j * 2 + 1, none⟩ = some (.int .u64 (((ls.getD j (0, 0)).2 : Nat) : Int)) := (hc2 j (by omega)).2
  have hq := hw j
  have hin := in9_ (ls.getD j (0, 0)).1 (ls.getD j (0, 0)).2
  have hput := putn_ (ls.getD j (0, 0)).1 (ls.getD j (0, 0)).2 hq.1 hq.2
  have hrp := rputn_ (ls.getD j (0, 0)).1 (ls.getD j (0, 0)).2 hq.1 hq.2
  obtain ⟨ds, hds, hpd⟩ := putdec_ (ls.getD j (0, 0)).1 (ls.getD j (0, 0)).2 4 hq.1 hq.2
  have hlf := fm_len ((ls.getD j (0, 0)).1, (ls.getD j (0, 0)).2)
  have d1 : wr.cell? ⟨b, off + (j - 1) * 2, none⟩ = some (.int .u64 (((ls.getD (j - 1) (0, 0)).1 : Nat) : Int)) := kkeep hkp (hc2 (j - 1) (by omega)).1
  have d2 : wr.cell? ⟨b, off + (j - 1) * 2 + 1, none⟩ = some (.int .u64 (((ls.getD (j - 1) (0, 0)).2 : Nat) : Int)) := kkeep hkp (hc2 (j - 1) (by omega)).2
  have hq2 := hw (j - 1)
  have hin2 := in9_ (ls.getD (j - 1) (0, 0)).1 (ls.getD (j - 1) (0, 0)).2
  generalize (ls.getD j (0, 0)).1 = Y1 at *
  generalize (ls.getD j (0, 0)).2 = Y2 at *
  generalize fm (Y1, Y2) = xs at *
  generalize (ls.getD (j - 1) (0, 0)).1 = X1 at *
  generalize (ls.getD (j - 1) (0, 0)).2 = X2 at *
  obtain ⟨jj, hjj⟩ : ∃ jj, j - 1 = jj := ⟨_, rfl⟩
  rw [hjj] at d1 d2
  have hwj : IntKind.i64.wrap ((j : Int) - 1) = (jj : Int) := by rw [IntKind.wrap_i64] <;> omega
  have hjN2 : jj < N := by omega
  have hpb : ∀ (p : Option Addr) (c : Nat) (W : World), AG FLV W p [(Y1, Y2), (X1, X2)] → Calls Try.prog 19 #[.slice p 2 c] W fun e w' => ∃ G, e = .returned (.tuple #[.slice (some ⟨G, 0, none⟩) 33 33, .int .i64 0]) ∧ W.heap.size ≤ G ∧ Rw w' G 33 (bb [(Y1, Y2), (X1, X2)]) ∧ Kp W w' := fun p c W h => putboxY_ p c [(Y1, Y2), (X1, X2)] W h (wq2 hq hq2) (by simp)
  generalize (X1 : Int) = V1 at d1 hin2
  generalize (X2 : Int) = V2 at d2 hin2
  generalize bb [(Y1, Y2), (X1, X2)] = bs at hpb
  generalize (Y1 : Int) = Z1 at e1 e1w hin hrp
  generalize (Y2 : Int) = Z2 at e2 e2w hin hrp
  have HS16 : ∀ (p q : Option Addr) (c d : Nat) (W : World), Arr W p xs → Arr W q xs → Calls Try.prog 22 #[.slice p 16 c, .slice q 16 d] W fun e w' => e = .returned (.bool true) ∧ Kp W w' := by
    intro p q c d W h1 h2
    have := same_ p q c d xs xs W h1 h2 (by rw [hlf]; omega)
    rw [hlf, decide_eq_true rfl] at this
    exact this
  have HS17 : ∀ (p q : Option Addr) (c d : Nat) (W : World), Arr W p ds → Arr W q ds → Calls Try.prog 22 #[.slice p 17 c, .slice q 17 d] W fun e w' => e = .returned (.bool true) ∧ Kp W w' := by
    intro p q c d W h1 h2
    have := same_ p q c d ds ds W h1 h2 (by rw [hds]; omega)
    rw [hds, decide_eq_true rfl] at this
    exact this
  obtain ⟨pk, ck, hv⟩ := hks.len
  rw [hlk] at hv
  obtain ⟨T0, hT0⟩ : ∃ T0, 6 * j = T0 := ⟨_, rfl⟩
  rw [hT0] at hv
  have hT1 : (0 : Int) < (T0 : Int) := by omega
  subst hv
  have HKS : Hid (KS wr w.heap.size (.slice pk T0 ck) ks 0 ∧ ks.length = 6 * j ∧ Kp w wr) := ⟨hks, hlk, hkp⟩
  clear hx hN hw hc2 hq hks hlk hkp hq2 hjj 
  go_upto_region 8 with (first | (go_at_call_of 11 (Value.int .u64 Z1); refine (hin _).mono ?_; rintro e w1 ⟨rfl, z1⟩))
  have sx : Fq.H2 (w1.alloc (.cells #[.float .f64 Y1, .float .f64 Y2] 31)) w1.heap.size (.float .f64 Y1) (.float .f64 Y2) := Fq.H2.new w1 _ _ _
  have zA : Kp wr (w1.alloc (.cells #[.float .f64 Y1, .float .f64 Y2] 31)) := z1.alloc _
  generalize w1.alloc (.cells #[.float .f64 Y1, .float .f64 Y2] 31) = wA at sx zA ⊢
  have hB : wr.heap.size ≤ w1.heap.size := z1.size
  generalize w1.heap.size = B1 at sx hB ⊢
  clear z1 hin
  obtain ⟨x0, x1, x2, x3⟩ := id sx
  have d1' := kkeep (zA.alloc (.cells #[.float .f64 Y1, .float .f64 Y2] 31)) d1
  have d2' := kkeep (zA.alloc (.cells #[.float .f64 Y1, .float .f64 Y2] 31)) d2
  clear d1 d2
  go_upto_region 11 with (first | (go_at_call_of 11 (Value.int .u64 V1); refine (hin2 _).mono ?_; rintro e w2 ⟨rfl, g2⟩; have z2 : Kp wA w2 := Kp.trans ((Kp.refl wA).alloc _) g2; obtain ⟨vx, w3, hap, oap, hgr, hat⟩ := appP_run (w2.alloc (.cells #[.float .f64 X1, .float .f64 X2] 31)) wA.heap.size (.slice (some ⟨wA.heap.size, 0, none⟩) 1 1) [(Y1, Y2)] w2.heap.size 0 X1 X2 1 ((og1 wA Y1 Y2).kp (g2.alloc _)) (Fq.H2.new w2 (.float .f64 X1) (.float .f64 X2) 31).1 (Fq.H2.new w2 (.float .f64 X1) (.float .f64 X2) 31).2.1 (by simp) (Nat.le_trans (Below.size z2) (by simp)); have zz : Kp wA w3 := (z2.alloc _).grown hgr (fun k hk => by simp [Value.ownBlock] at hk; omega); obtain ⟨px, cx, hvx, ax, -⟩ := oap.arr; rw [show ([(Y1, Y2)] ++ [(X1, X2)]).length = 2 from rfl] at hvx; subst hvx; replace ax : AG FLV w3 px [(Y1, Y2), (X1, X2)] := ax; clear hgr hat oap z2 g2) | (at_builtin; refine wpList_app _ (by rfl) _ _ 50 rfl _ _ _ _ rfl rfl hap ?_; clear hap))
  have sy := Fq.H2.keep sx zz
  have z3 : Kp wr w3 := Kp.trans zA zz
  clear x0 x1 x2 x3 sx zA zz d1' d2' hin2
  go_upto_region 15 with (first | (go_at_call 19; have hb1 := z4; refine (hpb _ _ _ ax4).mono ?_; rintro e w5 ⟨g6, rfl, hg6, hR6, gg6⟩; have z5 : Kp wr w5 := Kp.trans z4 gg6) | (go_at_call 19; refine (hpb _ _ _ ax).mono ?_; rintro e w4 ⟨g5, rfl, hg5, hR5, gg5⟩; have z4 : Kp wr w4 := Kp.trans z3 gg5; have hl5 := World.rowIs.lt hR5; have ax4 := ax.grown gg5))
  replace hR5 := hR5.grown gg6
  have sz := Fq.H2.keep (Fq.H2.keep sy gg5) gg6
  have h5 : wr.heap.size ≤ g5 := Nat.le_trans z3.size hg5
  obtain ⟨x0, x1, x2, x3⟩ := id sz
  clear hb1 ax ax4 z3 z4 gg5 gg6 sy hpb
  have hl6 := World.rowIs.lt hR6
  have h56 : g5 < g6 := Nat.lt_of_lt_of_le hl5 hg6
  have hlen : ks.length ≤ 240 := by rw [HKS.out.2.1]; omega
  go_region_held3 (fun W' => W'.cell? ⟨B1, 0, none⟩ = some (.float .f64 Y1) ∧ W'.cell? ⟨B1, 1, none⟩ = some (.float .f64 Y2)) (first | exact ⟨y0, y1⟩ | (refine ⟨kkeep (W := w5) ?_ x0, kkeep (W := w5) ?_ x1⟩ <;> ((repeat (first | with_reducible exact t4 | with_reducible exact t3 | with_reducible exact t2 | with_reducible exact t1 | with_reducible exact Kp.refl _ | with_reducible refine Kp.drew ?_ | with_reducible refine Kp.alloc ?_ _)); done))) (first | (go_at_call 15; have hq9 := t3; refine (hpd _).mono ?_; rintro e wd ⟨g4, rfl, hg4, hR4, gg4⟩; have u4 : Kp wc wd := (by first | exact gg4 | exact Kp.trans ((Kp.refl _).drew) gg4); have t4 : Kp w5 wd := Kp.trans t3 u4; have h34 : g3 < g4 := Nat.lt_of_lt_of_le hl3 hg4; replace hR5 := hR5.grown u4; replace hR6 := hR6.grown u4; replace hR1 := hR1.grown u4; replace hR2 := hR2.grown u4; replace hR3 := hR3.grown u4) | (go_at_call 15; have hq9 := t2; refine (hpd _).mono ?_; rintro e wc ⟨g3, rfl, hg3, hR3, gg3⟩; have u3 : Kp wb wc := (by first | exact gg3 | exact Kp.trans ((Kp.refl _).drew) gg3); have t3 : Kp w5 wc := Kp.trans t2 u3; have h23 : g2 < g3 := Nat.lt_of_lt_of_le hl2 hg3; have hl3 := World.rowIs.lt hR3; replace hR5 := hR5.grown u3; replace hR6 := hR6.grown u3; replace hR1 := hR1.grown u3; replace hR2 := hR2.grown u3) | (go_at_call 10; have hq9 := t1; refine (hput _).mono ?_; rintro e wb ⟨g2, rfl, hg2, hR2, gg2⟩; have u2 : Kp wa wb := (by first | exact gg2 | exact Kp.trans ((Kp.refl _).drew) gg2); have t2 : Kp w5 wb := Kp.trans t1 u2; have h12 : g1 < g2 := Nat.lt_of_lt_of_le hl1 hg2; have hl2 := World.rowIs.lt hR2; replace hR5 := hR5.grown u2; replace hR6 := hR6.grown u2; replace hR1 := hR1.grown u2) | (go_at_call 10; refine (hput _).mono ?_; rintro e wa ⟨g1, rfl, hg1, hR1, gg1⟩; have t1 : Kp w5 wa := Kp.trans ?q1 gg1; (case q1 => ((repeat (first | with_reducible exact t4 | with_reducible exact t3 | with_reducible exact t2 | with_reducible exact t1 | with_reducible exact Kp.refl _ | with_reducible refine Kp.drew ?_ | with_reducible refine Kp.alloc ?_ _)); done)); have h61 : g6 < g1 := Nat.lt_of_lt_of_le hl6 hg1; have hl1 := World.rowIs.lt hR1; replace hR5 := hR5.grown t1; replace hR6 := hR6.grown t1) | (have hq9 := t4; refine if_app2 (by rfl) _ _ 59 rfl _ _ rfl rfl (six_run (m := 33) HKS.out.1 hlen HKS.out.2.2 z5 ?ka (by omega) (hR1.grown ?k1) (hR2.grown ?k2) (hR3.grown ?k3) (hR4.grown ?k4) (hR5.grown ?k5) (hR6.grown ?k6) h5 h56 h61 h12 h23 h34 hlf hds hB (kkeep ?kx x0) (kkeep ?ky x1) ?kc) ?_; (case ka => ((repeat (first | with_reducible exact t4 | with_reducible exact t3 | with_reducible exact t2 | with_reducible exact t1 | with_reducible exact Kp.refl _ | with_reducible refine Kp.drew ?_ | with_reducible refine Kp.alloc ?_ _)); done)); (case k1 => ((repeat (first | with_reducible exact Kp.refl _ | with_reducible refine Kp.drew ?_ | with_reducible refine Kp.alloc ?_ _)); done)); (case k2 => ((repeat (first | with_reducible exact Kp.refl _ | with_reducible refine Kp.drew ?_ | with_reducible refine Kp.alloc ?_ _)); done)); (case k3 => ((repeat (first | with_reducible exact Kp.refl _ | with_reducible refine Kp.drew ?_ | with_reducible refine Kp.alloc ?_ _)); done)); (case k4 => ((repeat (first | with_reducible exact Kp.refl _ | with_reducible refine Kp.drew ?_ | with_reducible refine Kp.alloc ?_ _)); done)); (case k5 => ((repeat (first | with_reducible exact Kp.refl _ | with_reducible refine Kp.drew ?_ | with_reducible refine Kp.alloc ?_ _)); done)); (case k6 => ((repeat (first | with_reducible exact Kp.refl _ | with_reducible refine Kp.drew ?_ | with_reducible refine Kp.alloc ?_ _)); done)); (case kx => ((repeat (first | with_reducible exact t4 | with_reducible exact t3 | with_reducible exact t2 | with_reducible exact t1 | with_reducible exact Kp.refl _ | with_reducible refine Kp.drew ?_ | with_reducible refine Kp.alloc ?_ _)); done)); (case ky => ((repeat (first | with_reducible exact t4 | with_reducible exact t3 | with_reducible exact t2 | with_reducible exact t1 | with_reducible exact Kp.refl _ | with_reducible refine Kp.drew ?_ | with_reducible refine Kp.alloc ?_ _)); done)); (case kc => first | exact mkcells _ _ _ | exact fun j u h => kkeep ((Kp.refl _).drew) (mkcells _ _ _ j u h)); rintro vK w6 ⟨hkK, kK, y0, y1, aP1, aP2, aD1, aD2⟩))
  have hlK : (ks ++ [(g1, 16), (g2, 16), (g3, 17), (g4, 17), (g5, 33), (g6, 33)]).length = 6 * j + 6 := by rw [List.length_append, HKS.out.2.1]; rfl
  have hget : ∀ k, k < 6 → (ks ++ [(g1, 16), (g2, 16), (g3, 17), (g4, 17), (g5, 33), (g6, 33)]).getD (6 * j + k) (0, 0) = [(g1, 16), (g2, 16), (g3, 17), (g4, 17), (g5, 33), (g6, 33)].getD k (0, 0) := fun k _ => by rw [← HKS.out.2.1, List.getD, List.getElem?_append_right (by omega), Nat.add_sub_cancel_left]; rfl
  clear hput hpd hR1 hR2 hR3 hR4 hR5 hR6 t1 t2 t3 t4 u2 u3 u4 hg1 hg2 hg3 hg4 hg5 hg6 gg1 gg2 gg3 gg4 h5 h56 h61 h12 h23 h34 hl1 hl2 hl3 hl5 hl6 x0 x1 x2 x3 sz hB z5 y0 y1 e1 e2
  obtain ⟨bK0, cK0, hvK0, s0⟩ := hkK.slot (i := 6 * j + 0) (by rw [hlK]; omega)
  rw [hget 0 (by omega)] at s0
  obtain ⟨bK1, cK1, hvK1, s1⟩ := hkK.slot (i := 6 * j + 1) (by rw [hlK]; omega)
  rw [hget 1 (by omega)] at s1
  obtain ⟨bK2, cK2, hvK2, s2⟩ := hkK.slot (i := 6 * j + 2) (by rw [hlK]; omega)
  rw [hget 2 (by omega)] at s2
  obtain ⟨bK3, cK3, hvK3, s3⟩ := hkK.slot (i := 6 * j + 3) (by rw [hlK]; omega)
  rw [hget 3 (by omega)] at s3
  rw [hlK] at hvK0 hvK1 hvK2 hvK3
  subst hvK0
  obtain ⟨rfl, -⟩ : bK0 = bK1 ∧ cK0 = cK1 := by simpa using hvK1
  obtain ⟨rfl, -⟩ : bK0 = bK2 ∧ cK0 = cK2 := by simpa using hvK2
  obtain ⟨rfl, -⟩ : bK0 = bK3 ∧ cK0 = cK3 := by simpa using hvK3
  clear hvK1 hvK2 hvK3 hget
  replace s0 : w6.cell? ⟨bK0, 6 * j + 0, none⟩ = some (.slice (some ⟨g1, 0, none⟩) 16 16) := s0
  replace s1 : w6.cell? ⟨bK0, 6 * j + 1, none⟩ = some (.slice (some ⟨g2, 0, none⟩) 16 16) := s1
  replace s2 : w6.cell? ⟨bK0, 6 * j + 2, none⟩ = some (.slice (some ⟨g3, 0, none⟩) 17 17) := s2
  replace s3 : w6.cell? ⟨bK0, 6 * j + 3, none⟩ = some (.slice (some ⟨g4, 0, none⟩) 17 17) := s3
  have e1 : w6.cell? ⟨b, off + j * 2, none⟩ = some (.int .u64 Z1) := kkeep kK e1w
  have e2 : w6.cell? ⟨b, off + j * 2 + 1, none⟩ = some (.int .u64 Z2) := kkeep kK e2w
  have HK6 : Hid (KS w6 w.heap.size (.slice (some ⟨bK0, 0, none⟩) (6 * j + 6) cK0) (ks ++ [(g1, 16), (g2, 16), (g3, 17), (g4, 17), (g5, 33), (g6, 33)]) 0 ∧ (ks ++ [(g1, 16), (g2, 16), (g3, 17), (g4, 17), (g5, 33), (g6, 33)]).length = 6 * j + 6) := ⟨hkK, hlK⟩
  clear hkK hlK
  obtain ⟨T0, hT0e⟩ : ∃ T, 6 * j + 0 = T := ⟨_, rfl⟩
  rw [hT0e] at s0
  obtain ⟨T1, hT1e⟩ : ∃ T, 6 * j + 1 = T := ⟨_, rfl⟩
  rw [hT1e] at s1
  obtain ⟨T2, hT2e⟩ : ∃ T, 6 * j + 2 = T := ⟨_, rfl⟩
  rw [hT2e] at s2
  obtain ⟨T3, hT3e⟩ : ∃ T, 6 * j + 3 = T := ⟨_, rfl⟩
  rw [hT3e] at s3
  obtain ⟨T, hTe⟩ : ∃ T, 6 * j + 6 = T := ⟨_, rfl⟩
  rw [hTe] at HK6
  rw [hTe]
  have hw0 : IntKind.i64.wrap ((T : Int) - 6) = (T0 : Int) := by rw [IntKind.wrap_i64] <;> omega
  have hb0 : (T0 : Int) < (T : Int) := by omega
  have hc0 : T0 < T := by omega
  have hw1 : IntKind.i64.wrap ((T : Int) - 5) = (T1 : Int) := by rw [IntKind.wrap_i64] <;> omega
  have hb1 : (T1 : Int) < (T : Int) := by omega
  have hc1 : T1 < T := by omega
  have hw2 : IntKind.i64.wrap ((T : Int) - 4) = (T2 : Int) := by rw [IntKind.wrap_i64] <;> omega
  have hb2 : (T2 : Int) < (T : Int) := by omega
  have hc2 : T2 < T := by omega
  have hw3 : IntKind.i64.wrap ((T : Int) - 3) = (T3 : Int) := by rw [IntKind.wrap_i64] <;> omega
  have hb3 : (T3 : Int) < (T : Int) := by omega
  have hc3 : T3 < T := by omega
  clear hT0e hT1e hT2e hT3e
  have HTe : Hid (6 * j + 6 = T) := hTe
  clear hTe
  go_wp2_with fail
  go_region_held3 (fun W' => W'.cell? ⟨bK0, T0, none⟩ = some (.slice (some ⟨g1, 0, none⟩) 16 16) ∧ W'.cell? ⟨bK0, T1, none⟩ = some (.slice (some ⟨g2, 0, none⟩) 16 16) ∧ W'.cell? ⟨bK0, T2, none⟩ = some (.slice (some ⟨g3, 0, none⟩) 17 17) ∧ W'.cell? ⟨bK0, T3, none⟩ = some (.slice (some ⟨g4, 0, none⟩) 17 17) ∧ W'.cell? ⟨b, off + j * 2, none⟩ = some (.int .u64 Z1) ∧ W'.cell? ⟨b, off + j * 2 + 1, none⟩ = some (.int .u64 Z2)) (refine ⟨kkeep (W := w6) ?_ s0, kkeep (W := w6) ?_ s1, kkeep (W := w6) ?_ s2, kkeep (W := w6) ?_ s3, kkeep (W := w6) ?_ e1, kkeep (W := w6) ?_ e2⟩ <;> ((repeat (first | with_reducible exact q4 | with_reducible exact q3 | with_reducible exact q2 | with_reducible exact q1 | with_reducible exact Kp.refl _ | with_reducible refine Kp.drew ?_ | with_reducible refine Kp.alloc ?_ _)); done)) (first | (go_at_call 24; refine (hrp _).mono ?_; rintro e wp ⟨vp, rfl, op, gp⟩; obtain ⟨pp, cp, hvp, ap, -⟩ := op.arr; rw [hlf] at hvp; subst hvp; have q1 : Kp w6 wp := Kp.trans ?qa gp; (case qa => ((repeat (first | with_reducible exact q4 | with_reducible exact q3 | with_reducible exact q2 | with_reducible exact q1 | with_reducible exact Kp.refl _ | with_reducible refine Kp.drew ?_ | with_reducible refine Kp.alloc ?_ _)); done))) | (go_at_call 22; have hq9 := q3; refine (HS17 _ _ _ _ _ (aD1.grown (by ((repeat (first | with_reducible exact q4 | with_reducible exact q3 | with_reducible exact q2 | with_reducible exact q1 | with_reducible exact Kp.refl _ | with_reducible refine Kp.drew ?_ | with_reducible refine Kp.alloc ?_ _)); done))) (aD2.grown (by ((repeat (first | with_reducible exact q4 | with_reducible exact q3 | with_reducible exact q2 | with_reducible exact q1 | with_reducible exact Kp.refl _ | with_reducible refine Kp.drew ?_ | with_reducible refine Kp.alloc ?_ _)); done)))).mono ?_; rintro e wq4 ⟨rfl, gq4⟩; have q4 : Kp w6 wq4 := Kp.trans ?qb4 gq4; (case qb4 => ((repeat (first | with_reducible exact q4 | with_reducible exact q3 | with_reducible exact q2 | with_reducible exact q1 | with_reducible exact Kp.refl _ | with_reducible refine Kp.drew ?_ | with_reducible refine Kp.alloc ?_ _)); done))) | (go_at_call 22; have hq9 := q2; refine (HS16 _ _ _ _ _ (aP1.grown (by ((repeat (first | with_reducible exact q4 | with_reducible exact q3 | with_reducible exact q2 | with_reducible exact q1 | with_reducible exact Kp.refl _ | with_reducible refine Kp.drew ?_ | with_reducible refine Kp.alloc ?_ _)); done))) (aP2.grown (by ((repeat (first | with_reducible exact q4 | with_reducible exact q3 | with_reducible exact q2 | with_reducible exact q1 | with_reducible exact Kp.refl _ | with_reducible refine Kp.drew ?_ | with_reducible refine Kp.alloc ?_ _)); done)))).mono ?_; rintro e wq3 ⟨rfl, gq3⟩; have q3 : Kp w6 wq3 := Kp.trans ?qb3 gq3; (case qb3 => ((repeat (first | with_reducible exact q4 | with_reducible exact q3 | with_reducible exact q2 | with_reducible exact q1 | with_reducible exact Kp.refl _ | with_reducible refine Kp.drew ?_ | with_reducible refine Kp.alloc ?_ _)); done))) | (go_at_call 22; refine (HS16 _ _ _ _ _ (aP1.grown (by ((repeat (first | with_reducible exact q4 | with_reducible exact q3 | with_reducible exact q2 | with_reducible exact q1 | with_reducible exact Kp.refl _ | with_reducible refine Kp.drew ?_ | with_reducible refine Kp.alloc ?_ _)); done))) (ap.grown (by ((repeat (first | with_reducible exact Kp.refl _ | with_reducible refine Kp.drew ?_ | with_reducible refine Kp.alloc ?_ _)); done)))).mono ?_; rintro e wq2 ⟨rfl, gq2⟩; have q2 : Kp w6 wq2 := Kp.trans ?qb2 gq2; (case qb2 => ((repeat (first | with_reducible exact q4 | with_reducible exact q3 | with_reducible exact q2 | with_reducible exact q1 | with_reducible exact Kp.refl _ | with_reducible refine Kp.drew ?_ | with_reducible refine Kp.alloc ?_ _)); done))))
  all_goals (
    obtain ⟨hkK, hlK⟩ := HK6.out
    go_wp2_with fail
    refine hQ _ _ _ _ _ _ _ _ _ _ _ _ _ _ _ _ _ _ _ _ _ _ _ _ _ _ _ _ _ _ _ _ _ _ _ _ _ _ _ _ _ _ _ _ _ _ _ _ _ _ _ _ _ _ _ _ _ _ _ _ _ _ _ _ _ _ _ _ _ _ _ _ _ _ _ _ _ _ _ _ _ _ _ _ _ _ _ _ _ _ _ _ _ _ _ _ _ _ _ _ _ _ _ _ _ _ _ _ _ _ _ _ _ _ _ _ _ _ _ _ (ks ++ [(g1, 16), (g2, 16), (g3, 17), (g4, 17), (g5, 33), (g6, 33)]) (by rw [hlK, ← HTe.out]) (hkK.kp ?_) (Kp.trans kK ?_) <;> ((repeat (first | with_reducible exact q4 | with_reducible exact q3 | with_reducible exact q2 | with_reducible exact q1 | with_reducible exact Kp.refl _ | with_reducible refine Kp.drew ?_ | with_reducible refine Kp.alloc ?_ _)); done))
end B8
end Go.Proofs.Ytcckdceijgdgoaa
